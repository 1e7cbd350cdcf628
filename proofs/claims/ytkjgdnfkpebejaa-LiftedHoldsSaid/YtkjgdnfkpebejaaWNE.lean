/-
Texts N11c, N11b, one behind the other (a claim bears sixty files). Conditions: as each says.
-/
import Derived.Test.YtkjgdnfkpebejaaN5
import Derived.Test.YtkjgdnfkpebejaaN11
import Derived.Deep.DeepCutAuto

/-
slices.Clone of a row of texts. No condition but that the row is short.
-/
namespace Go.Proofs.Ytkjgdnfkpebejaa.Core
open Go.ChangeShapes Go.WideShapes Go.ChangeAt Go.RowKit Go.Deep
open Dat (PT ok64 RowX)
set_option maxRecDepth 100000

set_option maxHeartbeats 1000000 in
theorem clone_ts (l : List ByteArray) (S : Nat → Prop) (v : Value) (w : World) (hv : InN w S l v) (hlen : l.length ≤ 100000) :
    Calls Try.prog 39 #[v] w fun e w' => ∃ v', e = .returned v' ∧ InN w' (fun b => w.heap.size ≤ b) l v' ∧ Below w.heap.size w w' := by
  have HV := Lib.hid hv
  obtain ⟨a, c, rfl, h1, h2, h3, h4⟩ := hv
  match a with
  | none =>
    obtain rfl : l = [] := by
      rcases h4 with h4 | ⟨b, o, e, _⟩
      · exact h4
      · cases e
    have he : ∀ w : World, (binOp .eql 22 (.slice none 0 0) (.slice none 0 0)).run Try.prog w = .ok (.bool true) w := fun _ => rfl
    obtain rfl := h3 rfl
    clear h1 h2 h3 h4
    show Calls Try.prog 39 #[.slice none 0 0] w _
    go_enter Try.func39, Try.ntmps39
    go_wp2
    go_ret
    exact ⟨_, rfl, inN_nil', Below.refl _ _⟩
  | some ad =>
    have he : ∀ w : World, (binOp .eql 22 (.slice (some ad) l.length c) (.slice none 0 0)).run Try.prog w = .ok (.bool false) w := fun _ => rfl
    have hb := ((Below.refl w.heap.size w).alloc (Nat.le_refl _) (.cells #[] 9))
    have HB := Lib.hid hb
    have HO : Hid (OutT (w.alloc (.cells #[] 9)) w.heap.size [] (.slice (some ⟨w.heap.size, 0, none⟩) 0 0)) := Lib.hid (OutT.lit0 (heap_alloc_new w _) (Nat.le_refl _))
    have HN := Lib.hid (HV.out.below hb)
    have HLN : Hid (([] : List ByteArray).length + l.length ≤ 100000) := Lib.hid (by rw [List.length_nil]; omega)
    clear hb h1 h2 h3 h4
    go_enter Try.func39, Try.ntmps39
    go_wp2_with (at_builtin; refine wpList_append_ts rfl _ _ rfl w.heap.size [] _ rfl HO.out S l _ HN.out rfl HLN.out HB.out.size ?_; intro v4 w4 ho4 hk4 ha4)
    have HO4 := Lib.hid ho4
    have HB4 := Lib.hid (HB.out.trans (hk4.toBelow HO.out HB.out.size))
    clear ho4 hk4 ha4
    go_wp2
    go_ret
    exact ⟨_, rfl, HO4.out.inN (fun s hs => HN.out.sizes s (by simpa using hs)) (fun b e => (World.ownsRow.lt HO4.out b e).1), HB4.out⟩
end Go.Proofs.Ytkjgdnfkpebejaa.Core

/-
Package lift's lifted, for every expression that may be: what is left of it, and the functions. No condition but that the expression is small.
-/
namespace Go.Proofs.Ytkjgdnfkpebejaa.Core
open Go.ChangeShapes Go.WideShapes Go.ChangeAt Go.RowKit Go.Deep
open Dat (PT ok64 RowX)
set_option maxRecDepth 100000

/-- What lies in blocks of S is where it was. -/
theorem InF.stays {w w9 : World} {S S9 : Nat → Prop} {t : PE} {vn vd vk : Value} (h : InF w S t vn vd vk) (hS : ∀ b, S b → S9 b) (hb : ∀ b, S b → w9.heap[b]? = w.heap[b]?) : InF w9 S9 t vn vd vk :=
  h.move (fun b h _ => hS b h) fun b o y h hc => by rw [World.cell?_of_block (w := w) (a := ⟨b, o, none⟩) (hb b h)]; exact hc
theorem InN.stays {w w9 : World} {S S9 : Nat → Prop} {t : List ByteArray} {vn : Value} (h : InN w S t vn) (hS : ∀ b, S b → S9 b) (hb : ∀ b, S b → w9.heap[b]? = w.heap[b]?) : InN w9 S9 t vn :=
  h.move (fun b h _ => hS b h) fun b o y h hc => by rw [World.cell?_of_block (w := w) (a := ⟨b, o, none⟩) (hb b h)]; exact hc
theorem InK.stays {w w9 : World} {S S9 : Nat → Prop} {t : List PE} {vn : Value} (h : InK w S t vn) (hS : ∀ b, S b → S9 b) (hb : ∀ b, S b → w9.heap[b]? = w.heap[b]?) : InK w9 S9 t vn :=
  h.move (fun b h _ => hS b h) fun b o y h hc => by rw [World.cell?_of_block (w := w) (a := ⟨b, o, none⟩) (hb b h)]; exact hc
/-- The answer is laid into its box, the second of two that the call made. -/
theorem lf_fin {C lb : Nat} {P : Nat → Prop} {w w1 w2 w9 : World} {v v2 : Value} {fs : List FunT} (hC : C ≤ w.heap.size) (hlb : lb < w.heap.size) (hv : ∀ b, v.ownBlock = some b → b < w.heap.size) (hb1 : Below w.heap.size w w1) (hs1 : w1.heap.size = w.heap.size + 2) (hst : LfSt w2 C lb (fun b => P b ∧ ¬ (w.heap.size ≤ b ∧ b < w.heap.size + 2)) fs v2) (hfr : LfFr C lb w1 v w2 v2) (hb9 : Below C w2 w9) (ho : ∀ b, b ≠ w.heap.size + 1 → w9.heap[b]? = w2.heap[b]?) : LfSt w9 C lb P fs v2 ∧ LfFr C lb w v w9 v2 := by
  have hq := hfr.2 (w.heap.size + 1) (by omega) (by omega) fun e => by have := hv _ e.symm; omega
  refine ⟨hst.at (ho lb (by omega)) (fun b e => ho b fun e2 => hq.2 (by rw [e, e2])) fun b hb hlt => ⟨ho b (by omega), hb.1⟩, (hb1.mono hC).trans (hfr.1.trans hb9), fun b h1 h2 h3 => ?_⟩
  obtain ⟨a1, a2⟩ := hfr.2 b (by omega) h2 h3
  exact ⟨(ho b (by omega)).trans (a1.trans (hb1.block b h1)), a2⟩
set_option maxHeartbeats 8000000 in
theorem lifted_else (k : Int) (hk5 : k ≠ 5) (nm : ByteArray) (ns : List ByteArray) (ck ci : Int) (cs : ByteArray) (cl : List PT) (l : List PE) (ih : ∀ t ∈ l, LiftedOk t) : LiftedOk (.mk k nm ns (.mk ck ci cs cl) l) := by
  intro w C lb P S fs v vn vd vk h hok hS hst hP hf hz
  rw [okE] at hok
  obtain rfl := form_items hok.1
  have HI := Lib.hid h
  obtain ⟨⟨_, _, an, cn, en, _⟩, ⟨_, _, _, ad, cd, ed, _⟩, ak, c, ek, hl, hm, _⟩ := id h
  subst en ed ek
  have hlt := hst.lt
  obtain ⟨z0, z1, zb⟩ := two_new w (.cells #[.int .i64 k, .string nm, .slice an ns.length cn, .int .i64 ck, .int .i64 ci, .string cs, .slice ad 0 cd, .slice ak l.length c] 28) (.cells #[.int .i64 0, .string ⟨#[]⟩, .slice none 0 0, .int .i64 0, .int .i64 0, .string ⟨#[]⟩, .slice none 0 0, .slice none 0 0] 28)
  have hs2 : ((w.alloc (.cells #[.int .i64 k, .string nm, .slice an ns.length cn, .int .i64 ck, .int .i64 ci, .string cs, .slice ad 0 cd, .slice ak l.length c] 28)).alloc (.cells #[.int .i64 0, .string ⟨#[]⟩, .slice none 0 0, .int .i64 0, .int .i64 0, .string ⟨#[]⟩, .slice none 0 0, .slice none 0 0] 28)).heap.size = w.heap.size + 2 := by rw [size_new, size_new]
  rw [sizeE] at hf hz
  have KO := Lib.hid (overLf_any k nm ns ck ci cs [] l ih (fun t ht => okEs_mem hok.2.2.2 t ht) hok.2.2.1 ((w.alloc (.cells #[.int .i64 k, .string nm, .slice an ns.length cn, .int .i64 ck, .int .i64 ci, .string cs, .slice ad 0 cd, .slice ak l.length c] 28)).alloc (.cells #[.int .i64 0, .string ⟨#[]⟩, .slice none 0 0, .int .i64 0, .int .i64 0, .string ⟨#[]⟩, .slice none 0 0, .slice none 0 0] 28)) C lb (fun b => P b ∧ ¬ (w.heap.size ≤ b ∧ b < w.heap.size + 2)) S fs v _ _ _ (h.belowT (fun b hb => (hS b hb).1) zb) (fun b hb => ⟨Nat.lt_of_lt_of_le (hS b hb).1 zb.size, (hS b hb).2.1, (hS b hb).2.2, fun g => by have := (hS b hb).1; omega⟩) (hst.at (zb.block _ hlt.1) (fun b e => zb.block _ (hlt.2.2 b e).2) fun b h1 h2 => ⟨zb.block b h2, h1, by omega⟩) (fun b hb => ⟨hP b (by omega), by omega⟩) (by omega) (by omega))
  have HSL := Lib.hid hS
  have HD9 : Hid (∀ (W : World) (S : Nat → Prop), InS W S [] (.slice ad 0 cd)) := Lib.hid (by
    obtain ⟨a', c', e, h1, h2, h3, _⟩ := HI.out.2.1.2.2.2
    cases e
    exact fun W S => ⟨_, _, rfl, h1, h2, h3, .inl rfl⟩)
  have HLT := Lib.hid hlt
  have HLF : Hid (liftT fs (.mk k nm ns (.mk ck ci cs []) l) = (.mk k nm ns (.mk ck ci cs []) (liftsT fs l).1, (liftsT fs l).2)) := Lib.hid (liftT_else fs hk5 nm ns _ l)
  have hkb : (k != 5) = true := by simpa using hk5
  show Calls Try.prog 21 #[.pointer (some ⟨lb, 0, none⟩), .agg #[.int .i64 k, .string nm, .slice an ns.length cn, .int .i64 ck, .int .i64 ci, .string cs, .slice ad 0 cd, .slice ak l.length c]] w _
  have KO' : Hid (Calls Try.prog 38 #[.agg #[.int .i64 k, .string nm, .slice an ns.length cn, .int .i64 ck, .int .i64 ci, .string cs, .slice ad 0 cd, .slice ak l.length c], .func (.func 21) #[.pointer (some ⟨lb, 0, none⟩)] #[]] ((w.alloc (.cells #[.int .i64 k, .string nm, .slice an ns.length cn, .int .i64 ck, .int .i64 ci, .string cs, .slice ad 0 cd, .slice ak l.length c] 28)).alloc (.cells #[.int .i64 0, .string ⟨#[]⟩, .slice none 0 0, .int .i64 0, .int .i64 0, .string ⟨#[]⟩, .slice none 0 0, .slice none 0 0] 28)) fun e w' => ∃ vk' v', e = .returned (.agg #[.int .i64 k, .string nm, .slice an ns.length cn, .int .i64 ck, .int .i64 ci, .string cs, .slice ad 0 cd, vk']) ∧ InK w' (fun b => (S b ∨ w.heap.size + 2 ≤ b) ∧ Off lb v' b) (liftsT fs l).1 vk' ∧ LfSt w' C lb (fun b => P b ∧ ¬ (w.heap.size ≤ b ∧ b < w.heap.size + 2)) (liftsT fs l).2 v' ∧ LfFr C lb ((w.alloc (.cells #[.int .i64 k, .string nm, .slice an ns.length cn, .int .i64 ck, .int .i64 ci, .string cs, .slice ad 0 cd, .slice ak l.length c] 28)).alloc (.cells #[.int .i64 0, .string ⟨#[]⟩, .slice none 0 0, .int .i64 0, .int .i64 0, .string ⟨#[]⟩, .slice none 0 0, .slice none 0 0] 28)) v w' v') := by rw [hs2] at KO; exact KO
  clear KO ih hok hS hst hlt h hP
  have HZ0 := Lib.hid z0
  have HZ1 := Lib.hid z1
  have HZB := Lib.hid zb
  have HS2 := Lib.hid hs2
  clear z0 z1 zb hs2
  go_enter Try.func21, Try.ntmps21
  go_upto_region 1 with fail
  generalize (w.alloc (.cells #[.int .i64 k, .string nm, .slice an ns.length cn, .int .i64 ck, .int .i64 ci, .string cs, .slice ad 0 cd, .slice ak l.length c] 28)).alloc (.cells #[.int .i64 0, .string ⟨#[]⟩, .slice none 0 0, .int .i64 0, .int .i64 0, .string ⟨#[]⟩, .slice none 0 0, .slice none 0 0] 28) = w1 at *
  obtain ⟨x0, x1, x2, x3, x4, x5, x6, x7⟩ := look8n HZ0.out
  go_wp2_with fail
  refine KO'.out.mono ?_
  rintro e w2 ⟨vk', v2, rfl, hk2, hst2, hfr2⟩
  have HK2 := Lib.hid hk2
  have HST2 := Lib.hid hst2
  have HFR2 := Lib.hid hfr2
  obtain ⟨a9, c9, e9, _⟩ := hk2
  subst e9
  have hq := hfr2.2 (w.heap.size + 1) (by rw [HS2.out]; omega) (by have := HLT.out.1; omega) (fun e => by have := (HLT.out.2.2 _ e.symm).2; omega)
  have HQ := Lib.hid hq
  have hz5 := hq.1.trans HZ1.out
  have HZ5 := Lib.hid hz5
  obtain ⟨z0, z1, z2, z3, z4, z5, z6, z7⟩ := look8n hz5
  obtain ⟨g0, g1, g2, g3, g4, g5, g6, g7⟩ := free8n hz5
  clear hst2 hfr2 hq hz5 x0 x1 x2 x3 x4 x5 x6 x7
  have HZ9 := Lib.hid (bput8 (v0 := .int .i64 k) (v1 := .string nm) (v2 := .slice an ns.length cn) (v3 := .int .i64 ck) (v4 := .int .i64 ci) (v5 := .string cs) (v6 := .slice ad 0 cd) (v7 := .slice a9 (liftsT fs l).1.length c9) HZ5.out)
  have HX9 := Lib.hid (fun b (hb : b ≠ w.heap.size + 1) => bput8_other (W := w2) hb (.int .i64 k) (.string nm) (.slice an ns.length cn) (.int .i64 ck) (.int .i64 ci) (.string cs) (.slice ad 0 cd) (.slice a9 (liftsT fs l).1.length c9))
  have HB9 := Lib.hid (bbel8 (Below.refl C w2) (show C ≤ w.heap.size + 1 by have := HLT.out.2.1; omega) (.int .i64 k) (.string nm) (.slice an ns.length cn) (.int .i64 ck) (.int .i64 ci) (.string cs) (.slice ad 0 cd) (.slice a9 (liftsT fs l).1.length c9))
  have HF9 := Lib.hid (lf_fin HLT.out.2.1 HLT.out.1 (fun b e => (HLT.out.2.2 b e).2) HZB.out HS2.out HST2.out HFR2.out HB9.out HX9.out)
  have HN9 := Lib.hid (HI.out.1.2.2.stays (w9 := (((((((w2.setCell ⟨w.heap.size + 1, 0, none⟩ (.int .i64 k)).setCell ⟨w.heap.size + 1, 1, none⟩ (.string nm)).setCell ⟨w.heap.size + 1, 2, none⟩ (.slice an ns.length cn)).setCell ⟨w.heap.size + 1, 3, none⟩ (.int .i64 ck)).setCell ⟨w.heap.size + 1, 4, none⟩ (.int .i64 ci)).setCell ⟨w.heap.size + 1, 5, none⟩ (.string cs)).setCell ⟨w.heap.size + 1, 6, none⟩ (.slice ad 0 cd)).setCell ⟨w.heap.size + 1, 7, none⟩ (.slice a9 (liftsT fs l).1.length c9)) (S9 := fun b => (S b ∨ w.heap.size ≤ b) ∧ Off lb v2 b) (fun b hb => ⟨.inl hb, (HSL.out b hb).2.1.1, ((HFR2.out.2 b (Nat.lt_of_lt_of_le (HSL.out b hb).1 HZB.out.size) (HSL.out b hb).2.1.1 (HSL.out b hb).2.1.2)).2⟩) (fun b hb => (HX9.out b (by have := (HSL.out b hb).1; omega)).trans (((HFR2.out.2 b (Nat.lt_of_lt_of_le (HSL.out b hb).1 HZB.out.size) (HSL.out b hb).2.1.1 (HSL.out b hb).2.1.2)).1.trans (HZB.out.block b (HSL.out b hb).1))))
  have HK9 := Lib.hid (HK2.out.stays (w9 := (((((((w2.setCell ⟨w.heap.size + 1, 0, none⟩ (.int .i64 k)).setCell ⟨w.heap.size + 1, 1, none⟩ (.string nm)).setCell ⟨w.heap.size + 1, 2, none⟩ (.slice an ns.length cn)).setCell ⟨w.heap.size + 1, 3, none⟩ (.int .i64 ck)).setCell ⟨w.heap.size + 1, 4, none⟩ (.int .i64 ci)).setCell ⟨w.heap.size + 1, 5, none⟩ (.string cs)).setCell ⟨w.heap.size + 1, 6, none⟩ (.slice ad 0 cd)).setCell ⟨w.heap.size + 1, 7, none⟩ (.slice a9 (liftsT fs l).1.length c9)) (S9 := fun b => (S b ∨ w.heap.size ≤ b) ∧ Off lb v2 b) (fun b hb => ⟨hb.1.imp id fun g => by omega, hb.2⟩) (fun b hb => HX9.out b (by rcases hb.1 with g | g; (have := (HSL.out b g).1; omega); omega)))
  have HOK : Hid (ok64 k ∧ nm.size ≤ maxLen ∧ ok64 ck ∧ ok64 ci ∧ cs.size ≤ maxLen) := Lib.hid ⟨HI.out.1.1, HI.out.1.2.1, HI.out.2.1.1, HI.out.2.1.2.1, HI.out.2.1.2.2.1⟩
  clear HI HK2 HST2 HFR2 HX9 HB9
  go_wp2
  exact bodyPost_ret (results_cell_row (P := Try.prog) rfl _ _ (w.heap.size + 1) 28 _ (0, 0) _ rfl HZ9.out Try.underlying28 rfl (by kernel_rfl)) rfl (liftedIs_mk (vd := .slice ad 0 cd) (by rw [HLF.out]) ⟨⟨HOK.out.1, HOK.out.2.1, HN9.out⟩, ⟨HOK.out.2.2.1, HOK.out.2.2.2.1, HOK.out.2.2.2.2, HD9.out _ _⟩, HK9.out⟩ (by rw [HLF.out]; exact HF9.out.1) HF9.out.2)
end Go.Proofs.Ytkjgdnfkpebejaa.Core
