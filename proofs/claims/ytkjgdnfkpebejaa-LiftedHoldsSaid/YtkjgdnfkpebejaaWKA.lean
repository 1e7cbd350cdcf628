/-
Texts K4, K5, one behind the other (a claim bears sixty files). Conditions: as each says.
-/
import Derived.Test.YtkjgdnfkpebejaaK3
import Derived.Test.YtkjgdnfkpebejaaWR
import Derived.Deep.QuietTactic
import Derived.BigQuiet

/-
The document's names and Const (layer 6): what each answers. No condition.
-/
namespace Go.Proofs.Ytkjgdnfkpebejaa.Core
open Go.ChangeShapes Go.WideShapes Go.ChangeAt Go.RowKit Go.Deep
open Dat (PT ok64 RepV RepS checkB)

open Classical in
/-- Are all of a row names, none of them twice? -/
noncomputable def namesB (l : List ByteArray) : Bool := decide ((∀ s ∈ l, nameB s.data.toList = true) ∧ l.Nodup)
theorem names_snoc {l : List ByteArray} {s : ByteArray} : (((∀ t ∈ l ++ [s], nameB t.data.toList = true) ∧ (l ++ [s]).Nodup)) ↔ ((∀ t ∈ l, nameB t.data.toList = true) ∧ l.Nodup) ∧ nameB s.data.toList = true ∧ s ∉ l := by
  have h1 : [s].Nodup := by simp
  simp only [List.mem_append, List.mem_singleton, List.nodup_append, h1, true_and]
  constructor
  · rintro ⟨h1, h2, h3⟩
    exact ⟨⟨fun t ht => h1 t (.inl ht), h2⟩, h1 s (.inr rfl), fun hs => h3 s hs s rfl rfl⟩
  · rintro ⟨⟨h1, h2⟩, h3, h4⟩
    refine ⟨fun t ht => ht.elim (h1 t) (fun e => e ▸ h3), h2, ?_⟩
    rintro a ha b rfl rfl
    exact h4 ha
theorem names_bad {l : List ByteArray} {j : Nat} (hj : j < l.length) (h : nameB l[j].data.toList = false ∨ l[j] ∈ l.take j) : namesB l = false := by
  unfold namesB
  rw [decide_eq_false_iff_not]
  rintro ⟨h1, h2⟩
  rcases h with h | h
  · rw [h1 _ (List.getElem_mem hj)] at h; cases h
  · have e : l.take (j + 1) = l.take j ++ [l[j]] := List.take_succ_eq_append_getElem hj
    have h3 : (l.take (j + 1)).Nodup := h2.sublist (List.take_sublist _ _)
    rw [e, List.nodup_append] at h3
    exact h3.2.2 _ h _ (by simp) rfl
set_option maxRecDepth 100000 in
theorem rnames_any (l : List ByteArray) (S : Nat → Prop) (v : Value) (w : World) (hv : InN w S l v) :
    Calls Try.prog 78 #[v] w fun e w' => e = .returned (.bool (namesB l)) ∧ Below w.heap.size w w' := by
  have HV := Lib.hid hv
  obtain ⟨a, c, rfl, hl, hm, _, hr⟩ := hv
  have HR := Lib.hid hr
  unfold maxLen at hm
  clear hr
  go_enter Try.func78, Try.ntmps78
  go_wp2
  go_loopw [3] (fun i wr => ∃ j : Nat, j ≤ l.length ∧ i = .int .i64 j ∧ ((∀ t ∈ l.take j, nameB t.data.toList = true) ∧ (l.take j).Nodup) ∧ Below w.heap.size w wr) (fun i _ => l.length - (intOf i).toNat)
  case atStart => exact ⟨0, Nat.zero_le _, rfl, by simp, Below.refl _ _⟩
  case round =>
    obtain ⟨j, hj, rfl, hok, hbr⟩ := hrel
    by_cases hlt : j < l.length
    · obtain ⟨b, o, rfl, hs, hc⟩ := HR.out.resolve_left (by rintro rfl; cases hlt)
      have c0 := cell_below hbr (hc j hlt).1
      have hsz := (hc j hlt).2
      have KN := Lib.hid (fun W => (rname_any l[j] W hsz).mono fun _ _ h => And.intro h.1 h.2.symm)
      have KH := Lib.hid (fun n => (has_any (l.take j) S (.slice (some ⟨b, o, none⟩) j c) l[j] (wr.drewN n) (by
        have hW := Dat.below_drewN (Below.refl wr.heap.size wr) n
        refine ⟨some ⟨b, o, none⟩, c, by rw [List.length_take]; congr 1; omega, by rw [List.length_take]; omega, hm, (fun h => by cases h), .inr ⟨b, o, rfl, hs, fun i hi => ?_⟩⟩
        rw [List.length_take] at hi
        rw [List.getElem_take]
        exact ⟨cell_below hW (cell_below hbr (hc i (by omega)).1), (hc i (by omega)).2⟩)).mono fun _ _ h => And.intro h.1 h.2.symm)
      have HTS := Lib.hid (List.take_succ_eq_append_getElem hlt)
      have HOK := Lib.hid hok
      have HBR := Lib.hid hbr
      have HBAD := Lib.hid (fun h => names_bad hlt h)
      have hjc : (j : Int) ≤ (c : Int) := by omega
      have hjc2 : j ≤ c := by omega
      have hbl : b < wr.heap.size := World.block_lt_of_cell? _ _ c0
      by_cases hn : nameB l[j].data.toList = true
      · rw [hn] at KN
        by_cases hh : l[j] ∈ l.take j
        · have HH := Lib.hid (HBAD.out (.inr hh))
          have e1 : hasB (l.take j) l[j] = true := by simp [hasB, hh]
          rw [e1] at KH
          clear hc hok hbr hn hh e1 hsz
          generalize l[j] = t at *
          go_wp2
          go_quiet (first | (go_at_call 79; exact Calls.quiet_of_same (KN.out _)) | (go_at_call 13; exact Calls.quiet_of_same (KH.out _)))
          go_wp2
          go_ret
          exact ⟨ret_bool HH.out.symm, Dat.below_drewN HBR.out _⟩
        · have HN := Lib.hid (show (∀ t ∈ l.take (j + 1), nameB t.data.toList = true) ∧ (l.take (j + 1)).Nodup from by rw [HTS.out]; exact names_snoc.2 ⟨hok, hn, hh⟩)
          have e1 : hasB (l.take j) l[j] = false := by simp [hasB, hh]
          rw [e1] at KH
          clear hc hok hbr hn hh e1 hsz
          generalize l[j] = t at *
          go_wp2
          go_quiet (first | (go_at_call 79; exact Calls.quiet_of_same (KN.out _)) | (go_at_call 13; exact Calls.quiet_of_same (KH.out _)))
          go_wp2
          go_roundw
          case rel => exact ⟨j + 1, by omega, by go_num, HN.out, Dat.below_drewN HBR.out _⟩
          case measure => simp [intOf]; omega
      · have hn' : nameB l[j].data.toList = false := by simpa using hn
        rw [hn'] at KN
        have HH := Lib.hid (HBAD.out (.inl hn'))
        clear hc hok hbr hn hn' hsz KH
        generalize l[j] = t at *
        go_wp2
        go_quiet (first | (go_at_call 79; exact Calls.quiet_of_same (KN.out _)))
        go_wp2
        go_ret
        exact ⟨ret_bool HH.out.symm, Dat.below_drewN HBR.out _⟩
    · obtain rfl : j = l.length := by omega
      have HH : Hid (namesB l = true) := Lib.hid (by
        rw [List.take_length] at hok
        unfold namesB
        exact decide_eq_true hok)
      clear hok
      go_wp2
      go_ret
      exact ⟨ret_bool HH.out.symm, hbr⟩
/-- May a datum be an ExpQuote's? -/
def constB : PT → Bool
  | .mk k i s l => decide (checkB (.mk k i s l) = 0) && (decide (k = 0) || decide (k = 1) || decide (k = 2) || decide (k = 4) || (decide (k = 5) && decide (l.length = 0)))
set_option maxRecDepth 100000 in
theorem rconst_any (k i : Int) (s : ByteArray) (l : List PT) (v : Value) (w : World) (hv : RepV w w.heap.size (.mk k i s l) v) :
    Calls Try.prog 77 #[.agg #[.int .i64 k, .int .i64 i, .string s, v]] w fun e w' => e = .returned (.bool (constB (.mk k i s l))) ∧ Below w.heap.size w w' := by
  have HV := Lib.hid hv
  obtain ⟨a, c, rfl, hl, hm, _, _⟩ := hv.2.2.2
  have KC := Lib.hid (fun W (hW : Below w.heap.size w W) => Dat.rcheck_any (.mk k i s l) (.slice a l.length c) W w.heap.size ⟨HV.out.1, HV.out.2.1, HV.out.2.2.1, HV.out.2.2.2.below hW (Nat.le_refl _)⟩ hW.size)
  have HB0 := Lib.hid (fun o : Obj => (Below.refl w.heap.size w).alloc (Nat.le_refl _) o)
  have HN0 := Lib.hid (fun o : Obj => heap_alloc_new w o)
  unfold maxLen at hm
  clear hv
  by_cases hc : checkB (.mk k i s l) = 0
  · rw [hc] at KC
    have HC : Hid (constB (.mk k i s l) = (decide (k = 0) || decide (k = 1) || decide (k = 2) || decide (k = 4) || (decide (k = 5) && decide (l.length = 0)))) := Lib.hid (by simp [constB, hc])
    clear hc
    have hkk : k = 0 ∨ k = 1 ∨ k = 2 ∨ k = 4 ∨ (k = 5 ∧ l.length = 0) ∨ (k = 5 ∧ ¬ l.length = 0) ∨ (k ≠ 0 ∧ k ≠ 1 ∧ k ≠ 2 ∧ k ≠ 4 ∧ k ≠ 5) := by omega
    generalize l.length = n at *
    rcases hkk with rfl | rfl | rfl | rfl | ⟨rfl, rfl⟩ | ⟨rfl, hn⟩ | ⟨k0, k1, k2, k4, k5⟩
    rotate_right
    · have b0 : (k == 0) = false := by simpa using k0
      have b1 : (k == 1) = false := by simpa using k1
      have b2 : (k == 2) = false := by simpa using k2
      have b4 : (k == 4) = false := by simpa using k4
      have b5 : (k == 5) = false := by simpa using k5
      have HR : Hid (constB (.mk k i s l) = false) := Lib.hid (by rw [HC.out]; simp [k0, k1, k2, k4, k5])
      clear k0 k1 k2 k4 k5
      go_enter Try.func77, Try.ntmps77
      go_wp2_with fail
      refine (KC.out _ (HB0.out _)).mono ?_
      rintro e w1 ⟨rfl, hb1⟩
      have hd1 := (hb1.block w.heap.size (by rw [size_new]; omega)).trans (HN0.out _)
      have c0 : w1.cell? ⟨w.heap.size, 0, none⟩ = some (.int .i64 k) := by rw [Lib.cell_of_heap hd1]; rfl
      have HB1 := Lib.hid ((HB0.out (.cells #[.int .i64 k, .int .i64 i, .string s, .slice a n c] 25)).trans (hb1.mono (by rw [size_new]; omega)))
      clear hb1 hd1
      go_wp2
      go_ret
      exact ⟨ret_bool HR.out.symm, HB1.out⟩
    · have HR : Hid (constB (.mk 0 i s l) = true) := Lib.hid (by rw [HC.out]; simp)
      go_enter Try.func77, Try.ntmps77
      go_wp2_with fail
      refine (KC.out _ (HB0.out _)).mono ?_
      rintro e w1 ⟨rfl, hb1⟩
      have hd1 := (hb1.block w.heap.size (by rw [size_new]; omega)).trans (HN0.out _)
      have c0 : w1.cell? ⟨w.heap.size, 0, none⟩ = some (.int .i64 0) := by rw [Lib.cell_of_heap hd1]; rfl
      have c3 : w1.cell? ⟨w.heap.size, 3, none⟩ = some (.slice a n c) := by rw [Lib.cell_of_heap hd1]; rfl
      have HB1 := Lib.hid ((HB0.out (.cells #[.int .i64 0, .int .i64 i, .string s, .slice a n c] 25)).trans (hb1.mono (by rw [size_new]; omega)))
      clear hb1 hd1
      go_wp2
      go_ret
      exact ⟨ret_bool HR.out.symm, HB1.out⟩
    · have HR : Hid (constB (.mk 1 i s l) = true) := Lib.hid (by rw [HC.out]; simp)
      go_enter Try.func77, Try.ntmps77
      go_wp2_with fail
      refine (KC.out _ (HB0.out _)).mono ?_
      rintro e w1 ⟨rfl, hb1⟩
      have hd1 := (hb1.block w.heap.size (by rw [size_new]; omega)).trans (HN0.out _)
      have c0 : w1.cell? ⟨w.heap.size, 0, none⟩ = some (.int .i64 1) := by rw [Lib.cell_of_heap hd1]; rfl
      have c3 : w1.cell? ⟨w.heap.size, 3, none⟩ = some (.slice a n c) := by rw [Lib.cell_of_heap hd1]; rfl
      have HB1 := Lib.hid ((HB0.out (.cells #[.int .i64 1, .int .i64 i, .string s, .slice a n c] 25)).trans (hb1.mono (by rw [size_new]; omega)))
      clear hb1 hd1
      go_wp2
      go_ret
      exact ⟨ret_bool HR.out.symm, HB1.out⟩
    · have HR : Hid (constB (.mk 2 i s l) = true) := Lib.hid (by rw [HC.out]; simp)
      go_enter Try.func77, Try.ntmps77
      go_wp2_with fail
      refine (KC.out _ (HB0.out _)).mono ?_
      rintro e w1 ⟨rfl, hb1⟩
      have hd1 := (hb1.block w.heap.size (by rw [size_new]; omega)).trans (HN0.out _)
      have c0 : w1.cell? ⟨w.heap.size, 0, none⟩ = some (.int .i64 2) := by rw [Lib.cell_of_heap hd1]; rfl
      have c3 : w1.cell? ⟨w.heap.size, 3, none⟩ = some (.slice a n c) := by rw [Lib.cell_of_heap hd1]; rfl
      have HB1 := Lib.hid ((HB0.out (.cells #[.int .i64 2, .int .i64 i, .string s, .slice a n c] 25)).trans (hb1.mono (by rw [size_new]; omega)))
      clear hb1 hd1
      go_wp2
      go_ret
      exact ⟨ret_bool HR.out.symm, HB1.out⟩
    · have HR : Hid (constB (.mk 4 i s l) = true) := Lib.hid (by rw [HC.out]; simp)
      go_enter Try.func77, Try.ntmps77
      go_wp2_with fail
      refine (KC.out _ (HB0.out _)).mono ?_
      rintro e w1 ⟨rfl, hb1⟩
      have hd1 := (hb1.block w.heap.size (by rw [size_new]; omega)).trans (HN0.out _)
      have c0 : w1.cell? ⟨w.heap.size, 0, none⟩ = some (.int .i64 4) := by rw [Lib.cell_of_heap hd1]; rfl
      have c3 : w1.cell? ⟨w.heap.size, 3, none⟩ = some (.slice a n c) := by rw [Lib.cell_of_heap hd1]; rfl
      have HB1 := Lib.hid ((HB0.out (.cells #[.int .i64 4, .int .i64 i, .string s, .slice a n c] 25)).trans (hb1.mono (by rw [size_new]; omega)))
      clear hb1 hd1
      go_wp2
      go_ret
      exact ⟨ret_bool HR.out.symm, HB1.out⟩
    · have HR : Hid (constB (.mk 5 i s l) = true) := Lib.hid (by rw [HC.out]; simp)
      go_enter Try.func77, Try.ntmps77
      go_wp2_with fail
      refine (KC.out _ (HB0.out _)).mono ?_
      rintro e w1 ⟨rfl, hb1⟩
      have hd1 := (hb1.block w.heap.size (by rw [size_new]; omega)).trans (HN0.out _)
      have c0 : w1.cell? ⟨w.heap.size, 0, none⟩ = some (.int .i64 5) := by rw [Lib.cell_of_heap hd1]; rfl
      have c3 : w1.cell? ⟨w.heap.size, 3, none⟩ = some (.slice a 0 c) := by rw [Lib.cell_of_heap hd1]; rfl
      have HB1 := Lib.hid ((HB0.out (.cells #[.int .i64 5, .int .i64 i, .string s, .slice a 0 c] 25)).trans (hb1.mono (by rw [size_new]; omega)))
      clear hb1 hd1
      go_wp2
      go_ret
      exact ⟨ret_bool HR.out.symm, HB1.out⟩
    · have HR : Hid (constB (.mk 5 i s l) = false) := Lib.hid (by rw [HC.out]; simp [hn])
      have hnb : ((n : Int) == 0) = false := by simpa using hn
      clear hn
      go_enter Try.func77, Try.ntmps77
      go_wp2_with fail
      refine (KC.out _ (HB0.out _)).mono ?_
      rintro e w1 ⟨rfl, hb1⟩
      have hd1 := (hb1.block w.heap.size (by rw [size_new]; omega)).trans (HN0.out _)
      have c0 : w1.cell? ⟨w.heap.size, 0, none⟩ = some (.int .i64 5) := by rw [Lib.cell_of_heap hd1]; rfl
      have c3 : w1.cell? ⟨w.heap.size, 3, none⟩ = some (.slice a n c) := by rw [Lib.cell_of_heap hd1]; rfl
      have HB1 := Lib.hid ((HB0.out (.cells #[.int .i64 5, .int .i64 i, .string s, .slice a n c] 25)).trans (hb1.mono (by rw [size_new]; omega)))
      clear hb1 hd1
      go_wp2
      go_ret
      exact ⟨ret_bool HR.out.symm, HB1.out⟩
  · have hcb : (checkB (.mk k i s l) != 0) = true := by simpa using hc
    have HR : Hid (constB (.mk k i s l) = false) := Lib.hid (by simp [constB, hc])
    clear hc
    generalize checkB (.mk k i s l) = ck at KC hcb
    go_enter Try.func77, Try.ntmps77
    go_wp2_with fail
    refine (KC.out _ (HB0.out _)).mono ?_
    rintro e w1 ⟨rfl, hb1⟩
    have HB1 := Lib.hid ((HB0.out (.cells #[.int .i64 k, .int .i64 i, .string s, .slice a l.length c] 25)).trans (hb1.mono (by rw [size_new]; omega)))
    clear hb1
    go_wp2
    go_ret
    exact ⟨ret_bool HR.out.symm, HB1.out⟩
end Go.Proofs.Ytkjgdnfkpebejaa.Core

/-
The document's Binds (layer 6): what it answers. No condition.
-/
namespace Go.Proofs.Ytkjgdnfkpebejaa.Core
open Go.ChangeShapes Go.WideShapes Go.ChangeAt Go.RowKit Go.Deep
open Dat (PT ok64 RepV RepS checkB)

/-- Does an expression of a kind, of so many kids, bind its names in the kid of this place? -/
def bindsB (k : Int) (n : Nat) (i : Int) : Bool := decide (k = 5) || decide (k = 9) || decide (k = 10) || (decide (k = 8) && decide (i = (n : Int) - 1))
set_option maxRecDepth 100000 in
theorem rbinds_any (k : Int) (nm : ByteArray) (an : Option Addr) (ln cn : Nat) (ck ci : Int) (cs : ByteArray) (ad : Option Addr) (ld cd : Nat) (ak : Option Addr) (n cap : Nat) (i : Int) (w : World) (hn : n ≤ cap) (hm : cap ≤ maxLen) :
    Calls Try.prog 61 #[.agg #[.int .i64 k, .string nm, .slice an ln cn, .int .i64 ck, .int .i64 ci, .string cs, .slice ad ld cd, .slice ak n cap], .int .i64 i] w fun e w' => e = .returned (.bool (bindsB k n i)) ∧ Below w.heap.size w w' := by
  have HB0 := Lib.hid (fun o : Obj => (Below.refl w.heap.size w).alloc (Nat.le_refl _) o)
  unfold maxLen at hm
  have hkk : k = 5 ∨ k = 9 ∨ k = 10 ∨ (k = 8 ∧ i = (n : Int) - 1) ∨ (k = 8 ∧ ¬ i = (n : Int) - 1) ∨ (k ≠ 5 ∧ k ≠ 9 ∧ k ≠ 10 ∧ k ≠ 8) := by omega
  rcases hkk with rfl | rfl | rfl | ⟨rfl, hi⟩ | ⟨rfl, hi⟩ | ⟨k5, k9, k10, k8⟩
  · have HR : Hid (bindsB 5 n i = true) := Lib.hid (by simp [bindsB])
    go_enter Try.func61, Try.ntmps61
    go_wp2
    go_ret
    exact ⟨ret_bool HR.out.symm, HB0.out _⟩
  · have HR : Hid (bindsB 9 n i = true) := Lib.hid (by simp [bindsB])
    go_enter Try.func61, Try.ntmps61
    go_wp2
    go_ret
    exact ⟨ret_bool HR.out.symm, HB0.out _⟩
  · have HR : Hid (bindsB 10 n i = true) := Lib.hid (by simp [bindsB])
    go_enter Try.func61, Try.ntmps61
    go_wp2
    go_ret
    exact ⟨ret_bool HR.out.symm, HB0.out _⟩
  · have HR : Hid (bindsB 8 n i = true) := Lib.hid (by simp [bindsB, hi])
    have hb : (i == (n : Int) - 1) = true := by simpa using hi
    clear hi
    go_enter Try.func61, Try.ntmps61
    go_wp2
    go_ret
    exact ⟨ret_bool HR.out.symm, HB0.out _⟩
  · have HR : Hid (bindsB 8 n i = false) := Lib.hid (by simp [bindsB, hi])
    have hb : (i == (n : Int) - 1) = false := by simpa using hi
    clear hi
    go_enter Try.func61, Try.ntmps61
    go_wp2
    go_ret
    exact ⟨ret_bool HR.out.symm, HB0.out _⟩
  · have HR : Hid (bindsB k n i = false) := Lib.hid (by simp [bindsB, k5, k9, k10, k8])
    have b5 : (k == 5) = false := by simpa using k5
    have b9 : (k == 9) = false := by simpa using k9
    have b10 : (k == 10) = false := by simpa using k10
    have b8 : (k == 8) = false := by simpa using k8
    clear k5 k9 k10 k8
    go_enter Try.func61, Try.ntmps61
    go_wp2
    go_ret
    exact ⟨ret_bool HR.out.symm, HB0.out _⟩
end Go.Proofs.Ytkjgdnfkpebejaa.Core
