/-
Texts K10, K11, one behind the other (a claim bears sixty files). Conditions: as each says.
-/
import Derived.Test.YtkjgdnfkpebejaaWKB

/-
Package core's areFunctions and areNames: what each answers. No condition.
-/
namespace Go.Proofs.Ytkjgdnfkpebejaa.Core
open Go.ChangeShapes Go.WideShapes Go.ChangeAt Go.RowKit Go.Deep
open Dat (PT ok64 RepV RepS checkB sameB)
set_option maxRecDepth 100000

/-- What a search answers: -1 just if there is none. -/
def IdxIs (b : Bool) (e : Ending) : Prop := ∃ i : Int, e = .returned (.int .i64 i) ∧ -1 ≤ i ∧ i ≤ 9223372036854775807 ∧ (b = true → i = -1) ∧ (b = false → 0 ≤ i)
theorem fun_lit (k : Int) (nm : ByteArray) (vn : Value) (ck ci : Int) (cs : ByteArray) (vd vk : Value) (w : World) :
    Calls Try.prog 82 #[.agg #[.int .i64 k, .string nm, vn, .int .i64 ck, .int .i64 ci, .string cs, vd, vk]] w fun e w' => e = .returned (.bool (k != 5)) ∧ Below w.heap.size w w' := by
  go_enter Try.func82, Try.ntmps82
  go_wp2
  go_ret
  exact ⟨rfl, (Below.refl _ _).alloc (Nat.le_refl _) _⟩
theorem funs_take {l : List PE} {j : Nat} (hj : j < l.length) (h : funsB (l.take j) = true) : funsB (l.take (j + 1)) = decide (l[j].kind = 5) := by
  rw [List.take_succ_eq_append_getElem hj]
  unfold funsB at *
  rw [List.all_append, h]
  simp
theorem funs_no {l : List PE} {j : Nat} (hj : j < l.length) (h : l[j].kind ≠ 5) : funsB l = false := by
  unfold funsB
  rw [List.all_eq_false]
  exact ⟨l[j], List.getElem_mem hj, by simpa using h⟩
theorem idxFuns_any (l : List PE) (S : Nat → Prop) (v : Value) (w : World) (hv : InK w S l v) :
    Calls Try.prog 58 #[v, .func (.func 82) #[] #[]] w fun e w' => IdxIs (funsB l) e ∧ Below w.heap.size w w' := by
  have HK := Lib.hid hv
  obtain ⟨a, c, rfl, hl, hm, _⟩ := hv
  unfold maxLen at hm
  go_enter Try.func58, Try.ntmps58
  go_wp2
  go_loopw [8] (fun ix wr => ∃ j : Nat, j ≤ l.length ∧ ix = .int .i64 j ∧ funsB (l.take j) = true ∧ Below w.heap.size w wr) (fun i _ => l.length - (intOf i).toNat)
  case atStart => exact ⟨0, Nat.zero_le _, rfl, rfl, Below.refl _ _⟩
  case round =>
    obtain ⟨j, hj, rfl, ht, hbr⟩ := hrel
    have HBR := Lib.hid hbr
    by_cases hlt : j < l.length
    · obtain ⟨b, o, c', ea, _, _, hS1, hE1⟩ := (HK.out.below HBR.out).item j hlt
      cases ea
      have HT := Lib.hid (funs_take hlt ht)
      have HNO := Lib.hid (fun h => funs_no hlt h)
      clear ht hbr
      generalize l[j] = t at hE1 HT HNO
      obtain ⟨tk, tn, tns, ⟨tck, tci, tcs, tcl⟩, tl⟩ := t
      obtain ⟨tvn, tvd, tvk, hF1, a0, a1, a2, a3, a4, a5, a6, a7⟩ := hE1.cells
      have hbb := World.block_lt_of_cell? _ _ a0
      have KL := Lib.hid (fun W => fun_lit tk tn tvn tck tci tcs tvd tvk W)
      unfold InF at hF1
      obtain ⟨⟨_, _, hn1⟩, ⟨_, _, _, hd1⟩, hk1⟩ := hF1
      obtain ⟨_, _, rfl, -⟩ := hn1
      obtain ⟨_, _, rfl, -⟩ := hd1
      obtain ⟨_, _, rfl, -⟩ := hk1
      clear hE1
      by_cases h5 : tk = 5
      · have HN := Lib.hid (show funsB (l.take (j + 1)) = true from by rw [HT.out]; exact decide_eq_true h5)
        have hq : (tk != 5) = false := by simpa using h5
        clear h5 HT HNO
        go_wp2_with fail
        refine (KL.out _).mono ?_
        rintro e w4 ⟨rfl, hb4⟩
        have HB4 := Lib.hid (HBR.out.trans (hb4.mono HBR.out.size))
        clear hb4
        go_wp2
        go_roundw
        case rel => exact ⟨j + 1, by omega, by go_num, HN.out, HB4.out⟩
        case measure => simp [intOf]; omega
      · have HN := Lib.hid (HNO.out h5)
        have hq : (tk != 5) = true := by simpa using h5
        clear h5 HT HNO
        go_wp2_with fail
        refine (KL.out _).mono ?_
        rintro e w4 ⟨rfl, hb4⟩
        have HB4 := Lib.hid (HBR.out.trans (hb4.mono HBR.out.size))
        clear hb4
        go_wp2
        go_ret
        exact ⟨⟨j, rfl, by omega, by omega, (fun h => by rw [HN.out] at h; cases h), fun _ => by omega⟩, HB4.out⟩
    · obtain rfl : j = l.length := by omega
      have HFI : Hid (funsB l = true) := Lib.hid (by rwa [List.take_length] at ht)
      clear ht hbr
      go_wp2
      go_ret
      exact ⟨⟨-1, rfl, by omega, by omega, fun _ => rfl, (fun h => by rw [HFI.out] at h; cases h)⟩, HBR.out⟩
theorem hasFun_any (l : List PE) (S : Nat → Prop) (v : Value) (w : World) (hv : InK w S l v) :
    Calls Try.prog 37 #[v, .func (.func 82) #[] #[]] w fun e w' => e = .returned (.bool (!funsB l)) ∧ Below w.heap.size w w' := by
  have KI := Lib.hid (idxFuns_any l S v w hv)
  obtain ⟨a, c, rfl, _⟩ := hv
  cases hf : funsB l
  all_goals
    rw [hf] at KI
    clear hf
    go_enter Try.func37, Try.ntmps37
    go_wp2_with fail
    refine KI.out.mono ?_
    rintro e w1 ⟨⟨i, rfl, h1, h2, h3, h4⟩, hb⟩
    try have h0 := h3 rfl
    try have h0 := h4 rfl
    try subst h0
    clear h3 h4
    go_wp2
    go_ret
    exact ⟨rfl, hb⟩
theorem areFunctions_any (l : List PE) (S : Nat → Prop) (v : Value) (w : World) (hv : InK w S l v) :
    Calls Try.prog 69 #[v] w fun e w' => e = .returned (.bool (funsB l)) ∧ Below w.heap.size w w' := by
  have KI := Lib.hid (hasFun_any l S v w hv)
  obtain ⟨a, c, rfl, _⟩ := hv
  cases hf : funsB l
  all_goals
    rw [hf] at KI
    clear hf
    go_enter Try.func69, Try.ntmps69
    go_wp2_with fail
    refine KI.out.mono ?_
    rintro e w1 ⟨rfl, hb⟩
    go_wp2
    go_ret
    exact ⟨rfl, hb⟩
end Go.Proofs.Ytkjgdnfkpebejaa.Core

/-
Package core's areNames: are all names, none of them twice? No condition.
-/
namespace Go.Proofs.Ytkjgdnfkpebejaa.Core
open Go.ChangeShapes Go.WideShapes Go.ChangeAt Go.RowKit Go.Deep
open Dat (PT ok64 RepV RepS checkB sameB)
set_option maxRecDepth 100000

open Classical in
/-- How often each name was met. -/
noncomputable def seenM (l : List ByteArray) : ByteArray → Option Int := fun t => if t ∈ l then some 1 else none
/-- The variable with the map, and the map. -/
def Times (w : World) (tb mb n : Nat) (m : ByteArray → Option Int) : Prop := w.heap[tb]? = some (.cells #[.map (some mb)] 68 (0, 0)) ∧ MapI w mb n m ∧ tb ≠ mb
theorem names_lit_bad (s : ByteArray) (tb : Nat) (w : World) (hs : s.size ≤ maxLen) (hn : nameB s.data.toList = false) :
    Calls Try.prog 86 #[.string s, .pointer (some ⟨tb, 0, none⟩)] w fun e w' => e = .returned (.bool true) ∧ w = w' := by
  have KN := Lib.hid (fun W => name_any s W hs)
  rw [hn] at KN
  clear hn
  go_enter Try.func86, Try.ntmps86
  go_wp2_with fail
  refine (KN.out _).mono ?_
  rintro e w1 ⟨rfl, rfl⟩
  go_wp2
  go_ret
  exact ⟨rfl, rfl⟩
theorem names_lit (s : ByteArray) (tb mb n : Nat) (m : ByteArray → Option Int) (c : Int) (w : World) (hs : s.size ≤ maxLen) (hn : nameB s.data.toList = true) (hc : (m s).getD 0 = c) (h0 : 0 ≤ c) (h1 : c ≤ 1) (hT : Times w tb mb n m) (hnn : n < maxLen) :
    Calls Try.prog 86 #[.string s, .pointer (some ⟨tb, 0, none⟩)] w fun e w' => e = .returned (.bool (decide (1 ≤ c))) ∧ Times w' tb mb (n + 1) (setM m s (c + 1)) ∧ w.grownBy w' (some mb) := by
  obtain ⟨hb, hm, hne⟩ := hT
  have c0 := cell_of_one hb
  have KN := Lib.hid (fun W => name_any s W hs)
  rw [hn] at KN
  have HM := Lib.hid hm
  have HC := Lib.hid hc
  have HB := Lib.hid hb
  clear hn hb hm hc
  go_enter Try.func86, Try.ntmps86
  go_wp2_with fail
  refine (KN.out _).mono ?_
  rintro e w1 ⟨rfl, rfl⟩
  have ho1 : Dat.ok64 (c + 1) := ⟨by omega, by omega⟩
  have HO := Lib.hid ho1
  clear ho1
  have HG := Lib.hid (show (setM m s (c + 1) s).getD 0 = c + 1 from by simp [setM])
  go_wp2_with (first | (at_lookup; refine wpList_look_m _ rfl _ _ rfl mb n m rfl HM.out s rfl hs ?_; rw [HC.out]) | (at_lookup; refine wpList_look_m _ rfl _ _ rfl mb (n + 1) (setM m s (c + 1)) rfl (by assumption) s rfl hs ?_; rw [HG.out]) | (at_mapUpdate; refine wpList_store_m _ rfl _ _ _ rfl mb n m rfl HM.out hnn s (c + 1) rfl rfl hs HO.out ?_; intro w2 hm2 hg2; have HB2 := Lib.hid ((hg2.block tb (lt_of_block HB.out) (by simpa using hne)).trans HB.out); have c2 := cell_of_one HB2.out))
  go_ret
  exact ⟨ret_bool (by rw [Bool.eq_iff_iff]; simp; omega), ⟨HB2.out, hm2, hne⟩, hg2⟩
theorem seen_snoc (l : List ByteArray) (s : ByteArray) : setM (seenM l) s (0 + 1) = seenM (l ++ [s]) := by
  funext t
  unfold setM seenM
  by_cases e : t = s
  · subst e; simp
  · rw [if_neg e]
    by_cases h : t ∈ l
    · rw [if_pos h, if_pos (List.mem_append_left _ h)]
    · rw [if_neg h, if_neg (by simpa [e] using h)]
def NamesAt (w0 : World) (l : List ByteArray) (tb mb j : Nat) (wr : World) : Prop := (∀ t ∈ l.take j, nameB t.data.toList = true) ∧ (l.take j).Nodup ∧ Times wr tb mb j (seenM (l.take j)) ∧ Below mb w0 wr
/-- The names of a row, looked at by the closure. -/
theorem idxNames_any (l : List ByteArray) (S : Nat → Prop) (v : Value) (tb mb : Nat) (w : World) (hv : InN w S l v) (hS : ∀ b, S b → b < mb) (hT : Times w tb mb 0 (fun _ => none)) (_ : mb ≤ tb) :
    Calls Try.prog 101 #[v, .func (.func 86) #[] #[.pointer (some ⟨tb, 0, none⟩)]] w fun e w' => IdxIs (namesB l) e ∧ Below mb w w' := by
  have HV := Lib.hid hv
  obtain ⟨a, c, rfl, hl, hm, _, hr⟩ := hv
  have HR := Lib.hid hr
  have HTT := Lib.hid hT
  unfold maxLen at hm
  clear hr hT
  go_enter Try.func101, Try.ntmps101
  go_wp2
  go_loopw [8] (fun ix wr => ∃ j : Nat, j ≤ l.length ∧ ix = .int .i64 j ∧ NamesAt w l tb mb j wr) (fun i _ => l.length - (intOf i).toNat)
  case atStart => exact ⟨0, Nat.zero_le _, rfl, by simp, by simp, ⟨HTT.out.1, HTT.out.2.1.ext (fun s _ => by simp [seenM]), HTT.out.2.2⟩, Below.refl _ _⟩
  case round =>
    obtain ⟨j, hj, rfl, hn1, hn2, hT, hbr⟩ := hrel
    have HT := Lib.hid hT
    have HBR := Lib.hid hbr
    by_cases hlt : j < l.length
    · obtain ⟨b, o, rfl, hs, hc⟩ := HR.out.resolve_left (by rintro rfl; cases hlt)
      have c0 : wr.cell? ⟨b, o + j, none⟩ = some (.string l[j]) := by rw [World.cell?_of_block (w := w) (a := ⟨b, o + j, none⟩) (hbr.block b (hS b hs))]; exact (hc j hlt).1
      have hsz := (hc j hlt).2
      have HTS := Lib.hid (List.take_succ_eq_append_getElem hlt)
      have HOK := Lib.hid (And.intro hn1 hn2)
      have HBAD := Lib.hid (fun h => names_bad hlt h)
      have hbl : b < wr.heap.size := World.block_lt_of_cell? _ _ c0
      clear hn1 hn2 hT hbr
      by_cases hn : nameB l[j].data.toList = true
      · by_cases hh : l[j] ∈ l.take j
        · have HH := Lib.hid (HBAD.out (.inr hh))
          have KL := Lib.hid (names_lit l[j] tb mb j (seenM (l.take j)) 1 wr hsz hn (by simp [seenM, hh]) (by omega) (by omega) HT.out (by unfold maxLen; omega))
          clear hc hn hh HTS HOK HBAD
          generalize l[j] = t at *
          go_wp2_with fail
          refine KL.out.mono ?_
          rintro e w1 ⟨rfl, _, hg1⟩
          go_wp2
          go_ret
          exact ⟨⟨j, rfl, by omega, by omega, (fun h => by rw [HH.out] at h; cases h), fun _ => by omega⟩, HBR.out.grown hg1 (Nat.le_of_lt HT.out.2.1.lt) (fun k hk => by cases hk; exact Nat.le_refl _)⟩
        · have HN := Lib.hid (show (∀ t ∈ l.take (j + 1), nameB t.data.toList = true) ∧ (l.take (j + 1)).Nodup from by rw [HTS.out]; exact names_snoc.2 ⟨HOK.out, hn, hh⟩)
          have HSM := Lib.hid (show setM (seenM (l.take j)) l[j] (0 + 1) = seenM (l.take (j + 1)) from by rw [HTS.out]; exact seen_snoc _ _)
          have KL := Lib.hid (names_lit l[j] tb mb j (seenM (l.take j)) 0 wr hsz hn (by simp [seenM, hh]) (by omega) (by omega) HT.out (by unfold maxLen; omega))
          clear hc hn hh HTS HOK HBAD
          generalize l[j] = t at *
          go_wp2_with fail
          refine KL.out.mono ?_
          rintro e w1 ⟨rfl, hT1, hg1⟩
          rw [HSM.out] at hT1
          have HT1 := Lib.hid hT1
          clear hT1
          go_wp2
          go_roundw
          case rel => exact ⟨j + 1, by omega, by go_num, HN.out.1, HN.out.2, HT1.out, HBR.out.grown hg1 (Nat.le_of_lt HT.out.2.1.lt) (fun k hk => by cases hk; exact Nat.le_refl _)⟩
          case measure => simp [intOf]; omega
      · have hn' : nameB l[j].data.toList = false := by simpa using hn
        have HH := Lib.hid (HBAD.out (.inl hn'))
        have KL := Lib.hid (fun W => names_lit_bad l[j] tb W hsz hn')
        clear hc hn hn' HTS HOK HBAD
        generalize l[j] = t at *
        go_wp2_with fail
        refine (KL.out _).mono ?_
        rintro e w1 ⟨rfl, rfl⟩
        go_wp2
        go_ret
        exact ⟨⟨j, rfl, by omega, by omega, (fun h => by rw [HH.out] at h; cases h), fun _ => by omega⟩, HBR.out⟩
    · obtain rfl : j = l.length := by omega
      have HH : Hid (namesB l = true) := Lib.hid (by
        rw [List.take_length] at hn1 hn2
        unfold namesB
        exact decide_eq_true ⟨hn1, hn2⟩)
      clear hn1 hn2 hT hbr
      go_wp2
      go_ret
      exact ⟨⟨-1, rfl, by omega, by omega, fun _ => rfl, (fun h => by rw [HH.out] at h; cases h)⟩, HBR.out⟩
theorem hasNames_any (l : List ByteArray) (S : Nat → Prop) (v : Value) (tb mb : Nat) (w : World) (hv : InN w S l v) (hS : ∀ b, S b → b < mb) (hT : Times w tb mb 0 (fun _ => none)) (hmb : mb ≤ tb) :
    Calls Try.prog 81 #[v, .func (.func 86) #[] #[.pointer (some ⟨tb, 0, none⟩)]] w fun e w' => e = .returned (.bool (!namesB l)) ∧ Below mb w w' := by
  have KI := Lib.hid (idxNames_any l S v tb mb w hv hS hT hmb)
  obtain ⟨a, c, rfl, _⟩ := hv
  clear hT
  cases hf : namesB l
  all_goals
    rw [hf] at KI
    clear hf
    go_enter Try.func81, Try.ntmps81
    go_wp2_with fail
    refine KI.out.mono ?_
    rintro e w1 ⟨⟨i, rfl, h1, h2, h3, h4⟩, hb⟩
    try have h0 := h3 rfl
    try have h0 := h4 rfl
    try subst h0
    clear h3 h4
    go_wp2
    go_ret
    exact ⟨rfl, hb⟩
theorem areNames_any (l : List ByteArray) (S : Nat → Prop) (v : Value) (w : World) (hv : InN w S l v) (hS : ∀ b, S b → b < w.heap.size) :
    Calls Try.prog 73 #[v] w fun e w' => e = .returned (.bool (namesB l)) ∧ Below w.heap.size w w' := by
  have hmm := @run_makeMap Try.prog
  have hmf : ∀ (fn : Fn) (first cap : Array Value) (w : World), (Instr.makeFunc fn first cap).run Try.prog w = .ok (.func fn first cap) w := fun _ _ _ _ => rfl
  have HM := Lib.hid (MapI.made w)
  have hz : (w.alloc (.map #[] 0)).heap.size = w.heap.size + 1 := size_new _ _
  have KI := Lib.hid (hasNames_any l S v (w.heap.size + 1) w.heap.size ((w.alloc (.map #[] 0)).alloc (.cells #[.map (some w.heap.size)] 68)) (hv.below (((Below.refl w.heap.size w).alloc (Nat.le_refl _) _).alloc (by rw [hz]; omega) _)) hS ⟨by have := heap_alloc_new (w.alloc (.map #[] 0)) (.cells #[.map (some w.heap.size)] 68); rwa [hz] at this, HM.out.alloc _, by omega⟩ (by omega))
  have HB := Lib.hid (show Below w.heap.size w ((w.alloc (.map #[] 0)).alloc (.cells #[.map (some w.heap.size)] 68)) from ((Below.refl w.heap.size w).alloc (Nat.le_refl _) _).alloc (by rw [hz]; omega) _)
  obtain ⟨a, c, rfl, _⟩ := hv
  cases hf : namesB l
  all_goals
    rw [hf] at KI
    clear hf
    go_enter Try.func73, Try.ntmps73
    go_wp2_with fail
    refine KI.out.mono ?_
    rintro e w1 ⟨rfl, hb⟩
    go_wp2
    go_ret
    exact ⟨rfl, HB.out.trans hb⟩
end Go.Proofs.Ytkjgdnfkpebejaa.Core
