/-
Texts N2, N3, one behind the other (a claim bears sixty files). Conditions: as each says.
-/
import Derived.Test.YtkjgdnfkpebejaaWNA
import Derived.Test.YtkjgdnfkpebejaaWKC

/-
Package lift's hasChange, and the document's question for a kind, for every expression in memory. No condition.
-/
namespace Go.Proofs.Ytkjgdnfkpebejaa.Core
open Go.ChangeShapes Go.WideShapes Go.ChangeAt Go.RowKit Go.Deep
open Dat (PT ok64)
set_option maxRecDepth 100000

/-- What hasChange answers. -/
def ChgOk (t : PE) : Prop := ∀ (S : Nat → Prop) (vn vd vk : Value) (w : World), InF w S t vn vd vk →
  Calls Try.prog 20 #[t.val vn vd vk] w fun e w' => e = .returned (.bool (chgT t)) ∧ Below w.heap.size w w'
theorem any_take {p : PE → Bool} {l : List PE} {j : Nat} (hj : j < l.length) (h : (l.take j).any p = false) : (l.take (j + 1)).any p = p l[j] := by
  rw [List.take_succ_eq_append_getElem hj, List.any_append, h]
  simp
theorem any_yes {p : PE → Bool} {l : List PE} {j : Nat} (hj : j < l.length) (h : p l[j] = true) : l.any p = true :=
  List.any_eq_true.2 ⟨l[j], List.getElem_mem hj, h⟩
theorem idxChg_any (l : List PE) (ih : ∀ t ∈ l, ChgOk t) (S : Nat → Prop) (v : Value) (w : World) (hv : InK w S l v) :
    Calls Try.prog 58 #[v, .func (.func 20) #[] #[]] w fun e w' => IdxIs (!l.any chgT) e ∧ Below w.heap.size w w' := by
  have HK := Lib.hid hv
  have IH := Lib.hid ih
  clear ih
  obtain ⟨a, c, rfl, hl, hm, _⟩ := hv
  unfold maxLen at hm
  go_enter Try.func58, Try.ntmps58
  go_wp2
  go_loopw [8] (fun ix wr => ∃ j : Nat, j ≤ l.length ∧ ix = .int .i64 j ∧ (l.take j).any chgT = false ∧ Below w.heap.size w wr) (fun i _ => l.length - (intOf i).toNat)
  case atStart => exact ⟨0, Nat.zero_le _, rfl, rfl, Below.refl _ _⟩
  case round =>
    obtain ⟨j, hj, rfl, ht, hbr⟩ := hrel
    have HBR := Lib.hid hbr
    by_cases hlt : j < l.length
    · obtain ⟨b, o, c', ea, _, _, hS1, hE1⟩ := (HK.out.below HBR.out).item j hlt
      cases ea
      have HT := Lib.hid (any_take hlt ht)
      have HNO := Lib.hid (fun h => any_yes (p := chgT) hlt h)
      have IT := Lib.hid (IH.out l[j] (List.getElem_mem hlt))
      clear ht hbr
      generalize l[j] = t at hE1 HT HNO IT
      obtain ⟨tk, tn, tns, ⟨tck, tci, tcs, tcl⟩, tl⟩ := t
      obtain ⟨tvn, tvd, tvk, hF1, a0, a1, a2, a3, a4, a5, a6, a7⟩ := hE1.cells
      have hbb := World.block_lt_of_cell? _ _ a0
      have HF1 := Lib.hid hF1
      unfold InF at hF1
      obtain ⟨⟨_, _, hn1⟩, ⟨_, _, _, hd1⟩, hk1⟩ := hF1
      obtain ⟨_, _, rfl, -⟩ := hn1
      obtain ⟨_, _, rfl, -⟩ := hd1
      obtain ⟨_, _, rfl, -⟩ := hk1
      have KL := Lib.hid (IT.out S _ _ _ _ HF1.out)
      clear hE1 IT HF1
      generalize chgT (.mk tk tn tns (.mk tck tci tcs tcl) tl) = r at HT HNO KL
      cases r
      · clear HNO
        go_wp2_with fail
        refine KL.out.mono ?_
        rintro e w4 ⟨rfl, hb4⟩
        have HB4 := Lib.hid (HBR.out.trans (hb4.mono HBR.out.size))
        clear hb4
        go_wp2
        go_roundw
        case rel => exact ⟨j + 1, by omega, by go_num, HT.out, HB4.out⟩
        case measure => simp [intOf]; omega
      · have HN := Lib.hid (HNO.out rfl)
        clear HT HNO
        go_wp2_with fail
        refine KL.out.mono ?_
        rintro e w4 ⟨rfl, hb4⟩
        have HB4 := Lib.hid (HBR.out.trans (hb4.mono HBR.out.size))
        clear hb4
        go_wp2
        go_ret
        exact ⟨⟨j, rfl, by omega, by omega, (fun h => by rw [HN.out] at h; cases h), fun _ => by omega⟩, HB4.out⟩
    · obtain rfl : j = l.length := by omega
      have HFI : Hid (l.any chgT = false) := Lib.hid (by rwa [List.take_length] at ht)
      clear ht hbr
      go_wp2
      go_ret
      exact ⟨⟨-1, rfl, by omega, by omega, fun _ => rfl, (fun h => by rw [HFI.out] at h; cases h)⟩, HBR.out⟩
theorem hasChg_any (l : List PE) (ih : ∀ t ∈ l, ChgOk t) (S : Nat → Prop) (v : Value) (w : World) (hv : InK w S l v) :
    Calls Try.prog 37 #[v, .func (.func 20) #[] #[]] w fun e w' => e = .returned (.bool (l.any chgT)) ∧ Below w.heap.size w w' := by
  have KI := Lib.hid (idxChg_any l ih S v w hv)
  clear ih
  obtain ⟨a, c, rfl, _⟩ := hv
  cases hf : l.any chgT
  all_goals
    rw [hf] at KI
    clear hf
    go_enter Try.func37, Try.ntmps37
    go_wp2_with fail
    refine KI.out.mono ?_
    rintro e w1 ⟨⟨i, rfl, h1, h2, h3, h4⟩, hb⟩
    try have h0 := h3 rfl
    try have h0 := h4 rfl
    try subst h0
    clear h3 h4
    go_wp2
    go_ret
    exact ⟨rfl, hb⟩
theorem chg_step (k : Int) (nm : ByteArray) (ns : List ByteArray) (ck ci : Int) (cs : ByteArray) (cl : List PT) (l : List PE) (ih : ∀ t ∈ l, ChgOk t) : ChgOk (.mk k nm ns (.mk ck ci cs cl) l) := by
  intro S vn vd vk w h
  have HA : Hid (chgT (.mk k nm ns (.mk ck ci cs cl) l) = (decide (k = 9) || decide (k = 2) || l.any chgT)) := Lib.hid (by rw [chgT, chgsT_any])
  generalize chgT (.mk k nm ns (.mk ck ci cs cl) l) = r at HA
  obtain ⟨⟨_, _, an, cn, rfl, _⟩, ⟨_, _, _, ad, cd, rfl, _⟩, hk⟩ := h
  have KC := Lib.hid (fun W hb => hasChg_any l ih S vk W (hk.below hb))
  obtain ⟨ak, c, rfl, _⟩ := hk
  clear ih
  show Calls Try.prog 20 #[.agg #[.int .i64 k, .string nm, .slice an ns.length cn, .int .i64 ck, .int .i64 ci, .string cs, .slice ad cl.length cd, .slice ak l.length c]] w _
  by_cases h9 : k = 9
  · have HR : Hid (r = true) := Lib.hid (by rw [HA.out, decide_eq_true h9]; rfl)
    have q9 : (k == 9) = true := by simpa using h9
    clear HA KC h9
    go_enter Try.func20, Try.ntmps20
    go_wp2
    go_ret
    exact ⟨by rw [HR.out]; rfl, (Below.refl _ _).alloc (Nat.le_refl _) _⟩
  have q9 : (k == 9) = false := by simpa using h9
  by_cases h2 : k = 2
  · have HR : Hid (r = true) := Lib.hid (by rw [HA.out, decide_eq_false h9, decide_eq_true h2]; rfl)
    have q2 : (k == 2) = true := by simpa using h2
    clear HA KC h9 h2
    go_enter Try.func20, Try.ntmps20
    go_wp2
    go_ret
    exact ⟨by rw [HR.out]; rfl, (Below.refl _ _).alloc (Nat.le_refl _) _⟩
  have q2 : (k == 2) = false := by simpa using h2
  have HR : Hid (r = l.any chgT) := Lib.hid (by rw [HA.out, decide_eq_false h9, decide_eq_false h2]; rfl)
  generalize l.any chgT = r' at HR KC
  clear HA h9 h2
  go_enter Try.func20, Try.ntmps20
  go_wp2_with fail
  refine (KC.out _ ((Below.refl _ _).alloc (Nat.le_refl _) _)).mono ?_
  rintro e w1 ⟨rfl, hb⟩
  have HB := Lib.hid (((Below.refl _ _).alloc (Nat.le_refl _) _).trans (hb.mono (by rw [size_new]; omega)))
  clear hb
  cases r'
  all_goals
    go_wp2
    go_ret
    exact ⟨by rw [HR.out]; rfl, HB.out⟩
mutual
theorem chg_any : ∀ t : PE, ChgOk t
  | .mk k nm ns (.mk ck ci cs cl) l => chg_step k nm ns ck ci cs cl l (chg_all l)
theorem chg_all : ∀ l : List PE, ∀ t ∈ l, ChgOk t
  | [], t, h => by cases h
  | u :: l, t, h => (List.mem_cons.1 h).elim (fun e => e ▸ chg_any u) (chg_all l t)
end
end Go.Proofs.Ytkjgdnfkpebejaa.Core

/-
The document's question whether an expression holds one of a kind, for every expression in memory. No condition.
-/
namespace Go.Proofs.Ytkjgdnfkpebejaa.Core
open Go.ChangeShapes Go.WideShapes Go.ChangeAt Go.RowKit Go.Deep
open Dat (PT ok64)
set_option maxRecDepth 100000

/-- What the document's Has answers. -/
def RHasOk (kk : Int) (t : PE) : Prop := ∀ (S : Nat → Prop) (vn vd vk : Value) (w : World), InF w S t vn vd vk →
  Calls Try.prog 25 #[t.val vn vd vk, .int .i64 kk] w fun e w' => e = .returned (.bool (hasT kk t)) ∧ Below w.heap.size w w'
theorem hassT_any (k : Int) : ∀ l : List PE, hassT k l = l.any (hasT k)
  | [] => rfl
  | t :: l => by rw [hassT, List.any_cons, hassT_any k l]
theorem rhas_step (kk k : Int) (nm : ByteArray) (ns : List ByteArray) (ck ci : Int) (cs : ByteArray) (cl : List PT) (l : List PE) (ih : ∀ t ∈ l, RHasOk kk t) : RHasOk kk (.mk k nm ns (.mk ck ci cs cl) l) := by
  intro S vn vd vk w h
  have IH := Lib.hid ih
  have HA : Hid (hasT kk (.mk k nm ns (.mk ck ci cs cl) l) = (decide (k = kk) || l.any (hasT kk))) := Lib.hid (by rw [hasT, hassT_any])
  generalize hasT kk (.mk k nm ns (.mk ck ci cs cl) l) = r at HA
  obtain ⟨⟨_, _, an, cn, rfl, _⟩, ⟨_, _, _, ad, cd, rfl, _⟩, hk⟩ := h
  have HK := Lib.hid hk
  obtain ⟨ak, c, rfl, hl, hm, _⟩ := hk
  unfold maxLen at hm
  clear ih
  show Calls Try.prog 25 #[.agg #[.int .i64 k, .string nm, .slice an ns.length cn, .int .i64 ck, .int .i64 ci, .string cs, .slice ad cl.length cd, .slice ak l.length c], .int .i64 kk] w _
  have Z0 := Lib.hid (heap_alloc_new w (.cells #[.int .i64 k, .string nm, .slice an ns.length cn, .int .i64 ck, .int .i64 ci, .string cs, .slice ad cl.length cd, .slice ak l.length c] 28))
  have B0 := Lib.hid ((Below.refl w.heap.size w).alloc (Nat.le_refl _) (.cells #[.int .i64 k, .string nm, .slice an ns.length cn, .int .i64 ck, .int .i64 ci, .string cs, .slice ad cl.length cd, .slice ak l.length c] 28))
  have hwl : w.heap.size < (w.alloc (.cells #[.int .i64 k, .string nm, .slice an ns.length cn, .int .i64 ck, .int .i64 ci, .string cs, .slice ad cl.length cd, .slice ak l.length c] 28)).heap.size := by rw [size_new]; omega
  by_cases hkk : k = kk
  · have HR : Hid (r = true) := Lib.hid (by rw [HA.out, decide_eq_true hkk]; rfl)
    have q : (k == kk) = true := by simpa using hkk
    clear HA hkk IH HK
    go_enter Try.func25, Try.ntmps25
    go_wp2
    go_ret
    exact ⟨by rw [HR.out]; rfl, B0.out⟩
  have q : (k == kk) = false := by simpa using hkk
  have HR : Hid (r = l.any (hasT kk)) := Lib.hid (by rw [HA.out, decide_eq_false hkk]; rfl)
  clear HA hkk
  go_enter Try.func25, Try.ntmps25
  go_upto_region 3 with fail
  generalize w.alloc (.cells #[.int .i64 k, .string nm, .slice an ns.length cn, .int .i64 ck, .int .i64 ci, .string cs, .slice ad cl.length cd, .slice ak l.length c] 28) = w0 at *
  go_wp2
  go_loopw [5] (fun ix wr => ∃ j : Nat, j ≤ l.length ∧ ix = .int .i64 j ∧ (l.take j).any (hasT kk) = false ∧ Below w0.heap.size w0 wr) (fun ix _ => l.length - (intOf ix).toNat)
  case atStart => exact ⟨0, Nat.zero_le _, rfl, rfl, Below.refl _ _⟩
  case round =>
    obtain ⟨j, hj, rfl, ht, hbr⟩ := hrel
    have HBR := Lib.hid hbr
    have ZR := Lib.hid ((hbr.block w.heap.size hwl).trans Z0.out)
    have x7 : wr.cell? ⟨w.heap.size, 7, none⟩ = some (.slice ak l.length c) := by rw [Lib.cell_of_heap ZR.out]; rfl
    have HKR := Lib.hid ((HK.out.below B0.out).below hbr)
    by_cases hlt : j < l.length
    · obtain ⟨b, o, c', ea, _, _, hS1, hE1⟩ := HKR.out.item j hlt
      cases ea
      have HT := Lib.hid (any_take hlt ht)
      have HNO := Lib.hid (fun h => any_yes (p := hasT kk) hlt h)
      have IT := Lib.hid (IH.out l[j] (List.getElem_mem hlt))
      clear ht hbr
      generalize l[j] = t at hE1 HT HNO IT
      obtain ⟨tk, tn, tns, ⟨tck, tci, tcs, tcl⟩, tl⟩ := t
      obtain ⟨tvn, tvd, tvk, hF1, a0, a1, a2, a3, a4, a5, a6, a7⟩ := hE1.cells
      have hbb := World.block_lt_of_cell? _ _ a0
      have HF1 := Lib.hid hF1
      unfold InF at hF1
      obtain ⟨⟨_, _, hn1⟩, ⟨_, _, _, hd1⟩, hk1⟩ := hF1
      obtain ⟨_, _, rfl, -⟩ := hn1
      obtain ⟨_, _, rfl, -⟩ := hd1
      obtain ⟨_, _, rfl, -⟩ := hk1
      have KL := Lib.hid (IT.out S _ _ _ _ HF1.out)
      clear hE1 IT HF1
      generalize hasT kk (.mk tk tn tns (.mk tck tci tcs tcl) tl) = r1 at HT HNO KL
      cases r1
      · clear HNO
        go_wp2_with fail
        refine KL.out.mono ?_
        rintro e w4 ⟨rfl, hb4⟩
        have HB4 := Lib.hid (HBR.out.trans (hb4.mono HBR.out.size))
        clear hb4
        go_wp2
        go_roundw
        case rel => exact ⟨j + 1, by omega, by go_num, HT.out, HB4.out⟩
        case measure => simp [intOf]; omega
      · have HN : Hid (r = true) := Lib.hid (by rw [HR.out]; exact HNO.out rfl)
        clear HT HNO HR
        go_wp2_with fail
        refine KL.out.mono ?_
        rintro e w4 ⟨rfl, hb4⟩
        have HB4 := Lib.hid (HBR.out.trans (hb4.mono HBR.out.size))
        clear hb4
        go_wp2
        go_ret
        exact ⟨by rw [HN.out]; rfl, B0.out.trans (HB4.out.mono B0.out.size)⟩
    · obtain rfl : j = l.length := by omega
      have HN : Hid (r = false) := Lib.hid (by rw [HR.out]; rwa [List.take_length] at ht)
      clear ht hbr HR
      go_wp2
      go_ret
      exact ⟨by rw [HN.out]; rfl, B0.out.trans (HBR.out.mono B0.out.size)⟩
mutual
theorem rhas_any (kk : Int) : ∀ t : PE, RHasOk kk t
  | .mk k nm ns (.mk ck ci cs cl) l => rhas_step kk k nm ns ck ci cs cl l (rhas_all kk l)
theorem rhas_all (kk : Int) : ∀ l : List PE, ∀ t ∈ l, RHasOk kk t
  | [], t, h => by cases h
  | u :: l, t, h => (List.mem_cons.1 h).elim (fun e => e ▸ rhas_any kk u) (rhas_all kk l t)
end
end Go.Proofs.Ytkjgdnfkpebejaa.Core
