/-
Texts D7, D8, D10, D11, one behind the other (a claim bears sixty files). Conditions: as each says.
-/
import Derived.Test.YtkjgdnfkpebejaaWN
import Derived.Test.YtkjgdnfkpebejaaD1
import Derived.OneCell

/-
Which fields a datum may have, itself: what the small tests of package data and of the document answer, for every datum. No condition.
-/
namespace Go.Proofs.Ytkjgdnfkpebejaa.Dat
open Go.ChangeShapes Go.WideShapes Go.ChangeAt Go.RowKit
set_option maxRecDepth 100000

theorem hasItems_any (k : Int) (r : Bool) (hr : r = (decide (k = 5) || decide (k = 6) || decide (k = 7))) (w : World) : Calls Try.prog 113 #[.int .i64 k] w fun e w' => e = .returned (.bool r) ∧ w = w' := by
  have HR := Lib.hid hr
  clear hr
  by_cases h5 : k = 5
  · subst h5
    go_enter Try.func113, Try.ntmps113
    go_wp2
    go_ret
    exact ⟨ret_bool (by rw [HR.out]; rfl), rfl⟩
  by_cases h6 : k = 6
  · subst h6
    go_enter Try.func113, Try.ntmps113
    go_wp2
    go_ret
    exact ⟨ret_bool (by rw [HR.out]; rfl), rfl⟩
  by_cases h7 : k = 7
  · subst h7
    go_enter Try.func113, Try.ntmps113
    go_wp2
    go_ret
    exact ⟨ret_bool (by rw [HR.out]; rfl), rfl⟩
  have hf : r = false := by rw [HR.out]; simp [h5, h6, h7]
  have HF := Lib.hid hf
  clear hf
  have b5 : (k == 5) = false := by simpa using h5
  have b6 : (k == 6) = false := by simpa using h6
  have b7 : (k == 7) = false := by simpa using h7
  go_enter Try.func113, Try.ntmps113
  go_wp2
  go_ret
  exact ⟨ret_bool HF.out.symm, rfl⟩

theorem mayBeTail_any (k : Int) (r : Bool) (hr : r = (decide (k ≠ 5) && decide (k ≠ 6))) (w : World) : Calls Try.prog 120 #[.int .i64 k] w fun e w' => e = .returned (.bool r) ∧ w = w' := by
  have HR := Lib.hid hr
  clear hr
  by_cases h5 : k = 5
  · subst h5
    go_enter Try.func120, Try.ntmps120
    go_wp2
    go_ret
    exact ⟨ret_bool (by rw [HR.out]; rfl), rfl⟩
  by_cases h6 : k = 6
  · subst h6
    go_enter Try.func120, Try.ntmps120
    go_wp2
    go_ret
    exact ⟨ret_bool (by rw [HR.out]; rfl), rfl⟩
  have hf : r = true := by rw [HR.out]; simp [h5, h6]
  have HF := Lib.hid hf
  clear hf
  have b5 : (k == 5) = false := by simpa using h5
  have b6 : (k == 6) = false := by simpa using h6
  have c5 : (k != 5) = true := by simpa using h5
  have c6 : (k != 6) = true := by simpa using h6
  go_enter Try.func120, Try.ntmps120
  go_wp2
  go_ret
  exact ⟨ret_bool HF.out.symm, rfl⟩

theorem isNumbered_any (k i lo hi : Int) (s : ByteArray) (a : Option Addr) (n c : Nat) (r : Bool) (hr : r = (decide (lo ≤ i) && decide (i ≤ hi) && s.data.toList.isEmpty && decide (n = 0))) (w : World) :
    Calls Try.prog 119 #[.agg #[.int .i64 k, .int .i64 i, .string s, .slice a n c], .int .i64 lo, .int .i64 hi] w fun e w' => e = .returned (.bool r) ∧ Below w.heap.size w w' := by
  rw [← ByteArray.toList_eq] at hr
  have HR := Lib.hid hr
  clear hr
  go_enter Try.func119, Try.ntmps119
  go_wp2
  all_goals
    go_ret
    refine ⟨ret_bool ?_, (Below.refl _ _).alloc (Nat.le_refl _) _⟩
    rw [HR.out]
    rw [Bool.eq_iff_iff]
    simp [*] <;> omega

def PT.kind : PT → Int
  | .mk k _ _ _ => k
/-- Is the last one no list, and not dotted? -/
def tailB (l : List PT) : Bool := match l.getLast? with
  | some t => decide (t.kind ≠ 5) && decide (t.kind ≠ 6)
  | none => false
/-- May a datum's own fields be? -/
def formB (k i : Int) (s : List UInt8) (l : List PT) : Bool :=
  if k = 0 then decide (0 ≤ i) && decide (i ≤ 1) && s.isEmpty && decide (l.length = 0)
  else if k = 1 then decide (-1152921504606846976 ≤ i) && decide (i ≤ 1152921504606846975) && s.isEmpty && decide (l.length = 0)
  else if k = 2 then decide (0 ≤ i) && decide (i ≤ 255) && s.isEmpty && decide (l.length = 0)
  else if k = 3 then decide (i = 0) && decide (s.length ≤ 4096) && decide (l.length = 0)
  else if k = 4 then decide (i = 0) && nameB s && decide (l.length = 0)
  else if k = 5 ∨ k = 7 then decide (i = 0) && s.isEmpty
  else if k = 6 then decide (i = 0) && s.isEmpty && decide (2 ≤ l.length) && tailB l
  else false

theorem formed_num (k i lo hi : Int) (s : ByteArray) (a : Option Addr) (n c : Nat) (r : Bool) (hk : k = 0 ∧ lo = 0 ∧ hi = 1 ∨ k = 1 ∧ lo = -1152921504606846976 ∧ hi = 1152921504606846975 ∨ k = 2 ∧ lo = 0 ∧ hi = 255)
    (hr : r = (decide (lo ≤ i) && decide (i ≤ hi) && s.data.toList.isEmpty && decide (n = 0))) (w : World) :
    Calls Try.prog 114 #[.agg #[.int .i64 k, .int .i64 i, .string s, .slice a n c]] w fun e w' => e = .returned (.bool r) ∧ Below w.heap.size w w' := by
  have C := fun k W => isNumbered_any k i lo hi s a n c r hr W
  have H := Lib.hid C
  clear C hr
  rcases hk with ⟨rfl, rfl, rfl⟩ | ⟨rfl, rfl, rfl⟩ | ⟨rfl, rfl, rfl⟩
  all_goals
    go_enter Try.func114, Try.ntmps114
    go_wp2_with (go_at_call 119; ((with_reducible refine (H.out _ _).mono ?_); rintro e w' ⟨rfl, hb⟩))
    go_ret
    exact ⟨rfl, ((Below.refl _ _).alloc (Nat.le_refl _) _).trans (hb.mono (by simp))⟩

theorem formed_text (k i : Int) (s : ByteArray) (a : Option Addr) (n c : Nat) (r : Bool) (hs : s.size ≤ maxLen) (hk : k = 3)
    (hr : r = (decide (i = 0) && decide (s.size ≤ 4096) && decide (n = 0))) (w : World) :
    Calls Try.prog 114 #[.agg #[.int .i64 k, .int .i64 i, .string s, .slice a n c]] w fun e w' => e = .returned (.bool r) ∧ Below w.heap.size w w' := by
  subst hk
  unfold maxLen at hs
  have HR := Lib.hid hr
  clear hr
  go_enter Try.func114, Try.ntmps114
  go_wp2
  all_goals
    go_ret
    refine ⟨ret_bool ?_, (Below.refl _ _).alloc (Nat.le_refl _) _⟩
    rw [HR.out]
    rw [Bool.eq_iff_iff]
    simp [*] <;> omega

theorem formed_name (k i : Int) (s : ByteArray) (a : Option Addr) (n c : Nat) (r : Bool) (hs : s.size ≤ maxLen) (hk : k = 4)
    (hr : r = (decide (i = 0) && nameB s.data.toList && decide (n = 0))) (w : World) :
    Calls Try.prog 114 #[.agg #[.int .i64 k, .int .i64 i, .string s, .slice a n c]] w fun e w' => e = .returned (.bool r) ∧ Below w.heap.size w w' := by
  subst hk
  have C := fun W => name_any s W hs
  unfold maxLen at hs
  have HR := Lib.hid hr
  clear hr
  by_cases hn : nameB s.data.toList = true
  · rw [hn] at C
    have H := Lib.hid C
    have HN := Lib.hid hn
    clear C hn
    go_enter Try.func114, Try.ntmps114
    go_wp2_with (go_at_call 72; ((with_reducible refine (H.out _).mono ?_); rintro e w' ⟨rfl, rfl⟩))
    all_goals
      go_ret
      refine ⟨ret_bool ?_, (Below.refl _ _).alloc (Nat.le_refl _) _⟩
      rw [HR.out, HN.out]
      rw [Bool.eq_iff_iff]
      simp [*] <;> omega
  · have hn' : nameB s.data.toList = false := by simpa using hn
    rw [hn'] at C
    have H := Lib.hid C
    have HN := Lib.hid hn'
    clear C hn hn'
    go_enter Try.func114, Try.ntmps114
    go_wp2_with (go_at_call 72; ((with_reducible refine (H.out _).mono ?_); rintro e w' ⟨rfl, rfl⟩))
    all_goals
      go_ret
      refine ⟨ret_bool ?_, (Below.refl _ _).alloc (Nat.le_refl _) _⟩
      rw [HR.out, HN.out]
      rw [Bool.eq_iff_iff]
      simp [*] <;> omega

theorem formed_items (k i : Int) (s : ByteArray) (a : Option Addr) (n c : Nat) (r : Bool) (hk : k = 5 ∨ k = 7)
    (hr : r = (decide (i = 0) && s.data.toList.isEmpty)) (w : World) :
    Calls Try.prog 114 #[.agg #[.int .i64 k, .int .i64 i, .string s, .slice a n c]] w fun e w' => e = .returned (.bool r) ∧ Below w.heap.size w w' := by
  rw [← ByteArray.toList_eq] at hr
  have HR := Lib.hid hr
  clear hr
  rcases hk with rfl | rfl
  all_goals
    go_enter Try.func114, Try.ntmps114
    go_wp2
    all_goals
      go_ret
      refine ⟨ret_bool ?_, (Below.refl _ _).alloc (Nat.le_refl _) _⟩
      rw [HR.out]
      rw [Bool.eq_iff_iff]
      simp [*]
end Go.Proofs.Ytkjgdnfkpebejaa.Dat

/-
Which fields a datum may have, itself: package data's isFormed and the document's form, for every datum. No condition.
-/
namespace Go.Proofs.Ytkjgdnfkpebejaa.Dat
open Go.ChangeShapes Go.WideShapes Go.ChangeAt Go.RowKit
set_option maxRecDepth 100000

theorem formed_dot (i : Int) (s : ByteArray) (b o : Nat) (n c : Nat) (kl : Int) (h2 : 2 ≤ n) (hnc : n ≤ c) (hm : c ≤ maxLen) (r : Bool) (hr : r = (decide (i = 0) && s.data.toList.isEmpty && (decide (kl ≠ 5) && decide (kl ≠ 6)))) (w : World)
    (hc : w.cell? ⟨b, o + (n - 1) * 4, none⟩ = some (.int .i64 kl)) :
    Calls Try.prog 114 #[.agg #[.int .i64 6, .int .i64 i, .string s, .slice (some ⟨b, o, none⟩) n c]] w fun e w' => e = .returned (.bool r) ∧ Below w.heap.size w w' := by
  have hb : b < w.heap.size := World.block_lt_of_cell? _ _ hc
  rw [← ByteArray.toList_eq] at hr
  have HR := Lib.hid hr
  clear hr
  unfold maxLen at hm
  have C := fun W => mayBeTail_any kl _ rfl W
  have H := Lib.hid C
  clear C
  by_cases hi : i = 0
  · subst hi
    by_cases hs : s.toList = []
    · have hse : s.toList.isEmpty = true := by simp [hs]
      go_enter Try.func114, Try.ntmps114
      go_wp2_with (go_at_call 120; ((with_reducible refine (H.out _).mono ?_); rintro e w' ⟨rfl, rfl⟩))
      go_ret
      refine ⟨ret_bool ?_, (Below.refl _ _).alloc (Nat.le_refl _) _⟩
      rw [HR.out, hs]; simp
    · have hse : s.toList.isEmpty = false := by simpa using hs
      go_enter Try.func114, Try.ntmps114
      go_wp2_with (go_at_call 120; ((with_reducible refine (H.out _).mono ?_); rintro e w' ⟨rfl, rfl⟩))
      go_ret
      refine ⟨ret_bool ?_, (Below.refl _ _).alloc (Nat.le_refl _) _⟩
      rw [HR.out, hse]; simp
  · have hi' : (i == 0) = false := by simpa using hi
    go_enter Try.func114, Try.ntmps114
    go_wp2_with (go_at_call 120; ((with_reducible refine (H.out _).mono ?_); rintro e w' ⟨rfl, rfl⟩))
    go_ret
    refine ⟨ret_bool ?_, (Below.refl _ _).alloc (Nat.le_refl _) _⟩
    rw [HR.out]; simp [hi]

theorem formed_few (i : Int) (s : ByteArray) (a : Option Addr) (n c : Nat) (h2 : n < 2) (w : World) :
    Calls Try.prog 114 #[.agg #[.int .i64 6, .int .i64 i, .string s, .slice a n c]] w fun e w' => e = .returned (.bool false) ∧ Below w.heap.size w w' := by
  have h2' : ¬ (2 : Int) ≤ (n : Int) := by omega
  go_enter Try.func114, Try.ntmps114
  go_wp2
  all_goals
    go_ret
    exact ⟨rfl, (Below.refl _ _).alloc (Nat.le_refl _) _⟩

theorem formed_other (k i : Int) (s : ByteArray) (v : Value) (hk : k < 0 ∨ 7 < k) (w : World) :
    Calls Try.prog 114 #[.agg #[.int .i64 k, .int .i64 i, .string s, v]] w fun e w' => e = .returned (.bool false) ∧ Below w.heap.size w w' := by
  have b0 : (k == 0) = false := by simp; omega
  have b1 : (k == 1) = false := by simp; omega
  have b2 : (k == 2) = false := by simp; omega
  have b3 : (k == 3) = false := by simp; omega
  have b4 : (k == 4) = false := by simp; omega
  have b5 : (k == 5) = false := by simp; omega
  have b6 : (k == 6) = false := by simp; omega
  have b7 : (k == 7) = false := by simp; omega
  go_enter Try.func114, Try.ntmps114
  go_wp2
  go_ret
  exact ⟨rfl, (Below.refl _ _).alloc (Nat.le_refl _) _⟩

/-! ### what a slice's value says -/
theorem tailB_get (l : List PT) (h : 0 < l.length) : tailB l = (decide ((l[l.length - 1]).kind ≠ 5) && decide ((l[l.length - 1]).kind ≠ 6)) := by
  unfold tailB
  rw [List.getLast?_eq_getElem?, List.getElem?_eq_getElem (by omega)]
theorem formB_not6 (i : Int) (s : List UInt8) (l : List PT) (h : l.length < 2) : formB 6 i s l = false := by
  have : decide (2 ≤ l.length) = false := by simpa using h
  simp [formB, this]
theorem formB_6 (i : Int) (s : List UInt8) (l : List PT) (h : 2 ≤ l.length) : formB 6 i s l = (decide (i = 0) && s.isEmpty && (decide ((l[l.length - 1]).kind ≠ 5) && decide ((l[l.length - 1]).kind ≠ 6))) := by
  have : decide (2 ≤ l.length) = true := by simpa using h
  simp only [formB, this, tailB_get l (by omega)]
  simp
theorem kind_cell {w : World} {B : Nat} : ∀ {t : PT} {b o : Nat}, RepD w B t b o → w.cell? ⟨b, o, none⟩ = some (.int .i64 t.kind)
  | .mk _ _ _ _, _, _, h => (repD_mk.1 h).2.2.2.1
theorem kind_ways (k : Int) : (k = 0 ∨ k = 1 ∨ k = 2) ∨ k = 3 ∨ k = 4 ∨ (k = 5 ∨ k = 7) ∨ k = 6 ∨ (k < 0 ∨ 7 < k) := by omega

theorem isFormed_any (k i : Int) (s : ByteArray) (l : List PT) (v : Value) (B : Nat) (w : World) (hs : s.size ≤ maxLen) (hv : RepS w B l v) :
    Calls Try.prog 114 #[.agg #[.int .i64 k, .int .i64 i, .string s, v]] w fun e w' => e = .returned (.bool (formB k i s.data.toList l)) ∧ Below w.heap.size w w' := by
  obtain ⟨a, c, rfl, hl, hm, hn, hr⟩ := hv
  rcases kind_ways k with h | h | h | h | h | h
  · rcases h with rfl | rfl | rfl
    · exact formed_num _ i 0 1 s a l.length c _ (.inl ⟨rfl, rfl, rfl⟩) (by simp [formB]) w
    · exact formed_num _ i _ _ s a l.length c _ (.inr (.inl ⟨rfl, rfl, rfl⟩)) (by simp [formB]) w
    · exact formed_num _ i _ _ s a l.length c _ (.inr (.inr ⟨rfl, rfl, rfl⟩)) (by simp [formB]) w
  · exact formed_text k i s a l.length c _ hs h (by subst h; simp [formB]) w
  · exact formed_name k i s a l.length c _ hs h (by subst h; simp [formB]) w
  · exact formed_items k i s a l.length c _ h (by rcases h with rfl | rfl <;> simp [formB]) w
  · subst h
    by_cases h2 : 2 ≤ l.length
    · rcases hr with rfl | ⟨b', o', rfl, hb, hr⟩
      · simp at h2
      · rw [formB_6 _ _ _ h2]
        exact formed_dot i s b' o' l.length c _ h2 hl hm _ rfl w (kind_cell (repAt_get hr (l.length - 1) (by omega)))
    · rw [formB_not6 _ _ _ (by omega)]
      exact formed_few i s a l.length c (by omega) w
  · have : formB k i s.data.toList l = false := by
      unfold formB
      repeat (rw [if_neg (by omega)])
    rw [this]
    exact formed_other k i s _ h w
end Go.Proofs.Ytkjgdnfkpebejaa.Dat

/-
What is wrong first in a datum: package data's Check, for every datum. No condition.
-/
namespace Go.Proofs.Ytkjgdnfkpebejaa.Dat
open Go.ChangeShapes Go.WideShapes Go.ChangeAt Go.RowKit
set_option maxRecDepth 100000

def nestB (k : Int) : Bool := decide (k = 5) || decide (k = 6) || decide (k = 7)

mutual
/-- What is wrong first in a datum within so many, so many having been looked at; how many have been then. -/
def chk (deep n : Nat) : PT → Nat × Int
  | .mk k i s l =>
    if n = 4096 then (n, 22)
    else if nestB k && decide (deep = 32) then (n + 1, 21)
    else if formB k i s.data.toList l then chkL (deep + 1) (n + 1) l
    else (n + 1, 20)
def chkL (deep n : Nat) : List PT → Nat × Int
  | [] => (n, 0)
  | t :: l => if (chk deep n t).2 = 0 then chkL deep (chk deep n t).1 l else chk deep n t
end

theorem form_leaf {k i : Int} {s : List UInt8} {l : List PT} (hn : nestB k = false) (h : formB k i s l = true) : l = [] := by
  simp only [nestB, Bool.or_eq_false_iff, decide_eq_false_iff_not] at hn
  obtain ⟨⟨h5, h6⟩, h7⟩ := hn
  have : l.length = 0 := by
    unfold formB at h
    split at h
    · simp at h; exact List.length_eq_zero_iff.2 h.2
    split at h
    · simp at h; exact List.length_eq_zero_iff.2 h.2
    split at h
    · simp at h; exact List.length_eq_zero_iff.2 h.2
    split at h
    · simp at h; exact List.length_eq_zero_iff.2 h.2
    split at h
    · simp at h; exact List.length_eq_zero_iff.2 h.2
    split at h
    · omega
    · cases h
  exact List.length_eq_zero_iff.1 this

mutual
theorem chk_le (deep n : Nat) (hn : n ≤ 4096) : ∀ t : PT, n ≤ (chk deep n t).1 ∧ (chk deep n t).1 ≤ 4096
  | .mk k i s l => by
    rw [chk]
    split
    · exact ⟨Nat.le_refl _, hn⟩
    split
    · exact ⟨by simp, by simp; omega⟩
    split
    · have := chkL_le (deep + 1) (n + 1) (by omega) l
      exact ⟨by omega, this.2⟩
    · exact ⟨by simp, by simp; omega⟩
theorem chkL_le (deep n : Nat) (hn : n ≤ 4096) : ∀ l : List PT, n ≤ (chkL deep n l).1 ∧ (chkL deep n l).1 ≤ 4096
  | [] => by rw [chkL]; exact ⟨Nat.le_refl _, hn⟩
  | t :: l => by
    rw [chkL]
    have h1 := chk_le deep n hn t
    split
    · have := chkL_le deep _ h1.2 l
      exact ⟨by omega, this.2⟩
    · exact h1
end

/-- The loop over a list's items: what is left to look at. -/
theorem chkL_append (deep : Nat) : ∀ (l m : List PT) (n : Nat), (chkL deep n l).2 = 0 → chkL deep n (l ++ m) = chkL deep (chkL deep n l).1 m
  | [], m, n, _ => by rw [chkL]; rfl
  | t :: l, m, n, h => by
    rw [List.cons_append, chkL, chkL]
    rw [chkL] at h
    split
    · rw [if_pos ‹_›] at h
      exact chkL_append deep l m _ h
    · rw [if_neg ‹_›] at h
      omega
theorem chkL_take (deep n : Nat) (l : List PT) (j : Nat) (hj : j < l.length) (h : (chkL deep n (l.take j)).2 = 0) : chkL deep n (l.take (j + 1)) = chk deep (chkL deep n (l.take j)).1 l[j] := by
  rw [List.take_succ_eq_append_getElem hj, chkL_append deep _ _ _ h, chkL]
  split
  · rw [chkL]
    rename_i h0
    exact Prod.ext rfl h0.symm
  · rfl
theorem chkL_stop (deep : Nat) : ∀ (l m : List PT) (n : Nat), (chkL deep n l).2 ≠ 0 → chkL deep n (l ++ m) = chkL deep n l
  | [], m, n, h => by rw [chkL] at h; exact absurd rfl h
  | t :: l, m, n, h => by
    rw [List.cons_append, chkL, chkL]
    rw [chkL] at h
    split
    · rw [if_pos ‹_›] at h
      exact chkL_stop deep l m _ h
    · rfl
theorem chkL_whole (deep n : Nat) (l : List PT) (j : Nat) (h : (chkL deep n (l.take j)).2 ≠ 0) : chkL deep n l = chkL deep n (l.take j) := by
  have := chkL_stop deep (l.take j) (l.drop j) n h
  rwa [List.take_append_drop] at this
end Go.Proofs.Ytkjgdnfkpebejaa.Dat

/-
What is wrong first in a datum: package data's Check, for every datum. No condition.
-/
namespace Go.Proofs.Ytkjgdnfkpebejaa.Dat
open Go.ChangeShapes Go.WideShapes Go.ChangeAt Go.RowKit
set_option maxRecDepth 100000

/-- A datum's value. -/
def PT.val : PT → Value → Value
  | .mk k i s _, v => .agg #[.int .i64 k, .int .i64 i, .string s, v]
/-- A datum by value: its own fields in range, its items where the slice leads. -/
def RepV (w : World) (B : Nat) : PT → Value → Prop
  | .mk k i s l, v => ok64 k ∧ ok64 i ∧ s.size ≤ maxLen ∧ RepS w B l v

def LookOk (t : PT) : Prop := ∀ (w : World) (B tb n deep : Nat) (v : Value), RepV w B t v → B ≤ tb → n ≤ 4096 → deep ≤ 32 → w.heap[tb]? = some (.cells #[.int .i64 (n : Int)] 126 (0, 0)) →
  Calls Try.prog 102 #[.pointer (some ⟨tb, 0, none⟩), t.val v, .int .i64 (deep : Int)] w fun e w' =>
    e = .returned (.int .i64 (chk deep n t).2) ∧ w'.heap[tb]? = some (.cells #[.int .i64 ((chk deep n t).1 : Int)] 126 (0, 0)) ∧ Below tb w w'

theorem blk_alloc {w : World} {o : Obj} {b : Nat} {x : Obj} (h : w.heap[b]? = some x) : (w.alloc o).heap[b]? = some x := (Below.heap_alloc w o b (lt_of_block h)).trans h

theorem size_setCell (w : World) (a : Addr) (v : Value) : (w.setCell a v).heap.size = w.heap.size := by simp [World.setCell]

/-- The box of a datum, behind a call that has made memory. -/
theorem box_cell {W w1 : World} {cs : Array Value} {T : TypeId} (hb : Below (W.alloc (.cells cs T)).heap.size (W.alloc (.cells cs T)) w1) (j : Nat) (v : Value) (hv : cs[j]? = some v) : w1.cell? ⟨W.heap.size, j, none⟩ = some v := by
  have h : w1.heap[W.heap.size]? = some (.cells cs T (0, 0)) := (hb.block W.heap.size (by simp)).trans (heap_alloc_new W _)
  rw [World.cell?]
  simp [h, hv]

theorem look_many (k i : Int) (s : ByteArray) (v : Value) (deep : Nat) (w : World) (tb : Nat) (hc : w.heap[tb]? = some (.cells #[.int .i64 ((4096 : Nat) : Int)] 126 (0, 0))) :
    Calls Try.prog 102 #[.pointer (some ⟨tb, 0, none⟩), .agg #[.int .i64 k, .int .i64 i, .string s, v], .int .i64 (deep : Int)] w fun e w' =>
      e = .returned (.int .i64 22) ∧ w'.heap[tb]? = some (.cells #[.int .i64 ((4096 : Nat) : Int)] 126 (0, 0)) ∧ Below tb w w' := by
  have c0 := cell_of_one hc
  have hlt := lt_of_block hc
  have HB := Lib.hid hc
  clear hc
  go_enter Try.func102, Try.ntmps102
  go_wp2
  go_ret
  exact ⟨rfl, blk_alloc HB.out, (Below.refl _ _).alloc (by omega) _⟩

theorem look_deep (k i : Int) (s : ByteArray) (v : Value) (n : Nat) (w : World) (tb : Nat) (hn : n < 4096) (hk : nestB k = true) (hc : w.heap[tb]? = some (.cells #[.int .i64 (n : Int)] 126 (0, 0))) :
    Calls Try.prog 102 #[.pointer (some ⟨tb, 0, none⟩), .agg #[.int .i64 k, .int .i64 i, .string s, v], .int .i64 ((32 : Nat) : Int)] w fun e w' =>
      e = .returned (.int .i64 21) ∧ w'.heap[tb]? = some (.cells #[.int .i64 ((n + 1 : Nat) : Int)] 126 (0, 0)) ∧ Below tb w w' := by
  have c0 := cell_of_one hc
  have f0 := free_of_one hc
  have hlt := lt_of_block hc
  have HB := Lib.hid hc
  have H := Lib.hid (fun W => hasItems_any k _ hk.symm W)
  clear hc hk
  have hn' : ((n : Int) == 4096) = false := by simp; omega
  go_enter Try.func102, Try.ntmps102
  go_wp2_with (go_at_call 113; ((with_reducible refine (H.out _).mono ?_); rintro e w' ⟨rfl, rfl⟩))
  go_ret
  exact ⟨rfl, blk_alloc (one_setCell HB.out), ((Below.refl tb w).setCell (p := ⟨tb, 0, none⟩) (Nat.le_refl _) _).alloc (by simp; omega) _⟩

theorem look_form (k i : Int) (s : ByteArray) (l : List PT) (v : Value) (deep n : Nat) (w : World) (B tb : Nat) (hs : s.size ≤ maxLen) (hv : RepS w B l v) (hB : B ≤ tb) (hn : n < 4096) (hk : nestB k = false ∨ nestB k = true ∧ deep < 32)
    (hf : formB k i s.data.toList l = false) (hc : w.heap[tb]? = some (.cells #[.int .i64 (n : Int)] 126 (0, 0))) :
    Calls Try.prog 102 #[.pointer (some ⟨tb, 0, none⟩), .agg #[.int .i64 k, .int .i64 i, .string s, v], .int .i64 (deep : Int)] w fun e w' =>
      e = .returned (.int .i64 20) ∧ w'.heap[tb]? = some (.cells #[.int .i64 ((n + 1 : Nat) : Int)] 126 (0, 0)) ∧ Below tb w w' := by
  have c0 := cell_of_one hc
  have f0 := free_of_one hc
  have hlt := lt_of_block hc
  have HB := Lib.hid hc
  have C : ∀ W, Below tb w W → Calls Try.prog 114 #[.agg #[.int .i64 k, .int .i64 i, .string s, v]] W fun e w' => e = .returned (.bool false) ∧ Below W.heap.size W w' := fun W hb => by
    have := isFormed_any k i s l v B W hs (hv.below hb hB)
    rwa [hf] at this
  have HF := Lib.hid C
  clear hc hf C hv
  have hn' : ((n : Int) == 4096) = false := by simp; omega
  rcases hk with hk | ⟨hk, hd⟩
  · have H := Lib.hid (fun W => hasItems_any k _ hk.symm W)
    clear hk
    go_enter Try.func102, Try.ntmps102
    go_wp2_with (first | (go_at_call 113; ((with_reducible refine (H.out _).mono ?_); rintro e w' ⟨rfl, rfl⟩)) | (go_at_call 114; ((with_reducible refine (HF.out _ (((Below.refl tb w).setCell (p := ⟨tb, 0, none⟩) (Nat.le_refl _) _).alloc (by simp; omega) _)).mono ?_); rintro e w' ⟨rfl, hb⟩)))
    go_ret
    exact ⟨rfl, (hb.block tb (by simp; omega)).trans (blk_alloc (one_setCell HB.out)), (((Below.refl tb w).setCell (p := ⟨tb, 0, none⟩) (Nat.le_refl _) _).alloc (by simp; omega) _).trans (hb.mono (by simp; omega))⟩
  · have H := Lib.hid (fun W => hasItems_any k _ hk.symm W)
    clear hk
    have hd' : ((deep : Int) == 32) = false := by simp; omega
    go_enter Try.func102, Try.ntmps102
    go_wp2_with (first | (go_at_call 113; ((with_reducible refine (H.out _).mono ?_); rintro e w' ⟨rfl, rfl⟩)) | (go_at_call 114; ((with_reducible refine (HF.out _ (((Below.refl tb w).setCell (p := ⟨tb, 0, none⟩) (Nat.le_refl _) _).alloc (by simp; omega) _)).mono ?_); rintro e w' ⟨rfl, hb⟩)))
    go_ret
    exact ⟨rfl, (hb.block tb (by simp; omega)).trans (blk_alloc (one_setCell HB.out)), (((Below.refl tb w).setCell (p := ⟨tb, 0, none⟩) (Nat.le_refl _) _).alloc (by simp; omega) _).trans (hb.mono (by simp; omega))⟩

theorem ret_i64 {a b : Int} (h : a = b) : Ending.returned (.int .i64 a) = .returned (.int .i64 b) := by rw [h]

/-- An item of a list, as a value in memory: its four cells. -/
theorem repAt_item {w : World} {B : Nat} {l : List PT} {b o j : Nat} (h : RepAt w B l b o) (hj : j < l.length) :
    ∃ k i s m v, l[j] = .mk k i s m ∧ ok64 k ∧ ok64 i ∧ s.size ≤ maxLen ∧ w.cell? ⟨b, o + j * 4, none⟩ = some (.int .i64 k) ∧ w.cell? ⟨b, o + j * 4 + 1, none⟩ = some (.int .i64 i) ∧ w.cell? ⟨b, o + j * 4 + 2, none⟩ = some (.string s) ∧
      w.cell? ⟨b, o + j * 4 + 3, none⟩ = some v ∧ RepS w B m v := by
  have hr := repAt_get h j hj
  match hl : l[j] with
  | .mk k i s m =>
    rw [hl, repD_mk] at hr
    obtain ⟨h1, h2, h3, c0, c1, c2, v, c3, hv⟩ := hr
    exact ⟨k, i, s, m, v, rfl, h1, h2, h3, c0, c1, c2, c3, hv⟩

theorem look_loop (k i : Int) (s : ByteArray) (l : List PT) (ih : ∀ t ∈ l, LookOk t) (b o c : Nat) (deep n : Nat) (w : World) (B tb : Nat) (hs : s.size ≤ maxLen) (hl : l.length ≤ c) (hm : c ≤ maxLen) (hb : b < B) (hr : RepAt w B l b o) (hB : B ≤ tb) (hn : n < 4096) (hk : nestB k = true) (hd : deep < 32)
    (hf : formB k i s.data.toList l = true) (hc : w.heap[tb]? = some (.cells #[.int .i64 (n : Int)] 126 (0, 0))) :
    Calls Try.prog 102 #[.pointer (some ⟨tb, 0, none⟩), .agg #[.int .i64 k, .int .i64 i, .string s, .slice (some ⟨b, o, none⟩) l.length c], .int .i64 (deep : Int)] w fun e w' =>
      e = .returned (.int .i64 (chkL (deep + 1) (n + 1) l).2) ∧ w'.heap[tb]? = some (.cells #[.int .i64 ((chkL (deep + 1) (n + 1) l).1 : Int)] 126 (0, 0)) ∧ Below tb w w' := by
  have c0 := cell_of_one hc
  have f0 := free_of_one hc
  have hlt := lt_of_block hc
  have HB := Lib.hid hc
  have hv : RepS w B l (.slice (some ⟨b, o, none⟩) l.length c) := ⟨_, c, rfl, hl, hm, (fun h => by cases h), .inr ⟨b, o, rfl, hb, hr⟩⟩
  have C : ∀ W, Below tb w W → Calls Try.prog 114 #[.agg #[.int .i64 k, .int .i64 i, .string s, .slice (some ⟨b, o, none⟩) l.length c]] W fun e w' => e = .returned (.bool true) ∧ Below W.heap.size W w' := fun W hb => by
    have := isFormed_any k i s l _ B W hs (hv.below hb hB)
    rwa [hf] at this
  have HF := Lib.hid C
  have H := Lib.hid (fun W => hasItems_any k _ hk.symm W)
  have HR := Lib.hid hr
  have IH := Lib.hid ih
  unfold maxLen at hm
  clear hc hf C hv hk hr ih
  have hn' : ((n : Int) == 4096) = false := by simp; omega
  have hd' : ((deep : Int) == 32) = false := by simp; omega
  go_enter Try.func102, Try.ntmps102
  go_wp2_with (go_at_call 113; ((with_reducible refine (H.out _).mono ?_); rintro e w' ⟨rfl, rfl⟩))
  refine (HF.out _ (((Below.refl tb w).setCell (p := ⟨tb, 0, none⟩) (Nat.le_refl _) _).alloc (by simp; omega) _)).mono ?_
  rintro e w1 ⟨rfl, hb1⟩
  have hbox := box_cell hb1 3 _ rfl
  simp only [size_setCell] at hbox
  have hB1 : Below tb w w1 := (((Below.refl tb w).setCell (p := ⟨tb, 0, none⟩) (Nat.le_refl _) _).alloc (by simp; omega) _).trans (hb1.mono (by simp; omega))
  have hblk : w1.heap[tb]? = some (.cells #[.int .i64 ((n : Int) + 1)] 126 (0, 0)) := (hb1.block tb (by simp; omega)).trans (blk_alloc (one_setCell HB.out))
  have hsz : w.heap.size < w1.heap.size := by have := hb1.size; simp at this; omega
  have HK := Lib.hid hblk
  clear hblk hb1
  go_wp2
  go_loopw [35] (fun i wr => ∃ j : Nat, j ≤ l.length ∧ i = .int .i64 j ∧ (chkL (deep + 1) (n + 1) (l.take j)).2 = 0 ∧ wr.heap[tb]? = some (.cells #[.int .i64 ((chkL (deep + 1) (n + 1) (l.take j)).1 : Int)] 126 (0, 0)) ∧ Below tb w wr ∧ w.heap.size < wr.heap.size)
    (fun i _ => l.length - (intOf i).toNat)
  case atStart => exact ⟨0, Nat.zero_le _, rfl, rfl, HK.out, hB1, hsz⟩
  case round =>
    obtain ⟨j, hj, rfl, h0, hcell, hbr, hszr⟩ := hrel
    by_cases hlt' : j < l.length
    · obtain ⟨k', i', s', m, v', hjl, ok1, ok2, hs', d0, d1, d2, d3, hv'⟩ := repAt_item (HR.out.below hbr hB hb) hlt'
      have hle := chkL_le (deep + 1) (n + 1) (by omega) (l.take j)
      have hstep := chkL_take (deep + 1) (n + 1) l j hlt' h0
      have hbs : b < wr.heap.size := World.block_lt_of_cell? _ _ d0
      have HC := Lib.hid hcell
      have H0 := Lib.hid h0
      have HS := Lib.hid hstep
      have HJ := Lib.hid hjl
      have HV := Lib.hid hv'
      obtain ⟨a', c', rfl, _⟩ := hv'
      clear hcell h0 hstep hjl
      go_wp2_with fail
      have hL : LookOk (.mk k' i' s' m) := by
        have := IH.out l[j] (List.getElem_mem _)
        rwa [HJ.out] at this
      have C := fun o : Obj => hL (wr.alloc o) B tb (chkL (deep + 1) (n + 1) (l.take j)).1 (deep + 1) _ ⟨ok1, ok2, hs', HV.out.below (((Below.refl tb wr)).alloc (by omega) _) hB⟩ hB hle.2 (by omega) (blk_alloc HC.out)
      rw [← HJ.out, ← HS.out, HJ.out] at C
      by_cases hz : (chkL (deep + 1) (n + 1) (l.take (j + 1))).2 = 0
      · have HZ := Lib.hid hz
        clear hz
        refine (C _).mono ?_
        rintro e w2 ⟨he, hc2, hb2⟩
        rw [HZ.out] at he
        subst he
        have HC2 := Lib.hid hc2
        clear hc2
        go_wp2
        go_roundw
        case rel => exact ⟨j + 1, by omega, by go_num, HZ.out, HC2.out, (hbr.trans (((Below.refl tb wr)).alloc (by omega) _)).trans hb2, by have := hb2.size; simp at this; omega⟩
        case measure => simp [intOf]; omega
      · have HW := Lib.hid (chkL_whole (deep + 1) (n + 1) l (j + 1) hz)
        have hzb : ((chkL (deep + 1) (n + 1) (l.take (j + 1))).2 != 0) = true := by simpa using hz
        rw [← HW.out] at C hzb
        refine (C _).mono ?_
        rintro e w2 ⟨he, hc2, hb2⟩
        subst he
        have HC2 := Lib.hid hc2
        clear hc2 hz
        go_wp2
        go_ret
        exact ⟨rfl, HC2.out, (hbr.trans (((Below.refl tb wr)).alloc (by omega) _)).trans hb2⟩
    · obtain rfl : j = l.length := by omega
      rw [List.take_length] at h0 hcell
      have HC := Lib.hid hcell
      have H0 := Lib.hid h0
      clear hcell h0
      go_wp2
      go_ret
      exact ⟨ret_i64 H0.out.symm, HC.out, hbr⟩

theorem look_none (k i : Int) (s : ByteArray) (a : Option Addr) (c : Nat) (deep n : Nat) (w : World) (B tb : Nat) (hs : s.size ≤ maxLen) (hv : RepS w B [] (.slice a 0 c)) (hB : B ≤ tb) (hn : n < 4096) (hk : nestB k = false ∨ nestB k = true ∧ deep < 32)
    (hf : formB k i s.data.toList [] = true) (hc : w.heap[tb]? = some (.cells #[.int .i64 (n : Int)] 126 (0, 0))) :
    Calls Try.prog 102 #[.pointer (some ⟨tb, 0, none⟩), .agg #[.int .i64 k, .int .i64 i, .string s, .slice a 0 c], .int .i64 (deep : Int)] w fun e w' =>
      e = .returned (.int .i64 0) ∧ w'.heap[tb]? = some (.cells #[.int .i64 ((n + 1 : Nat) : Int)] 126 (0, 0)) ∧ Below tb w w' := by
  have c0 := cell_of_one hc
  have f0 := free_of_one hc
  have hlt := lt_of_block hc
  have HB := Lib.hid hc
  have C : ∀ W, Below tb w W → Calls Try.prog 114 #[.agg #[.int .i64 k, .int .i64 i, .string s, .slice a 0 c]] W fun e w' => e = .returned (.bool true) ∧ Below W.heap.size W w' := fun W hb => by
    have := isFormed_any k i s [] _ B W hs (hv.below hb hB)
    rwa [hf] at this
  have HF := Lib.hid C
  clear hc hf C hv
  have hn' : ((n : Int) == 4096) = false := by simp; omega
  rcases hk with hk | ⟨hk, hd⟩
  · have H := Lib.hid (fun W => hasItems_any k _ hk.symm W)
    clear hk
    go_enter Try.func102, Try.ntmps102
    go_wp2_with (go_at_call 113; ((with_reducible refine (H.out _).mono ?_); rintro e w' ⟨rfl, rfl⟩))
    refine (HF.out _ (((Below.refl tb w).setCell (p := ⟨tb, 0, none⟩) (Nat.le_refl _) _).alloc (by simp; omega) _)).mono ?_
    rintro e w1 ⟨rfl, hb1⟩
    have hbox := box_cell hb1 3 _ rfl
    simp only [size_setCell] at hbox
    go_wp2
    refine wp_loop_rounds 1 ?_
    rw [rounds_succ]
    go_wp2
    go_ret
    exact ⟨rfl, (hb1.block tb (by simp; omega)).trans (blk_alloc (one_setCell HB.out)), (((Below.refl tb w).setCell (p := ⟨tb, 0, none⟩) (Nat.le_refl _) _).alloc (by simp; omega) _).trans (hb1.mono (by simp; omega))⟩
  · have H := Lib.hid (fun W => hasItems_any k _ hk.symm W)
    clear hk
    have hd' : ((deep : Int) == 32) = false := by simp; omega
    go_enter Try.func102, Try.ntmps102
    go_wp2_with (go_at_call 113; ((with_reducible refine (H.out _).mono ?_); rintro e w' ⟨rfl, rfl⟩))
    refine (HF.out _ (((Below.refl tb w).setCell (p := ⟨tb, 0, none⟩) (Nat.le_refl _) _).alloc (by simp; omega) _)).mono ?_
    rintro e w1 ⟨rfl, hb1⟩
    have hbox := box_cell hb1 3 _ rfl
    simp only [size_setCell] at hbox
    go_wp2
    refine wp_loop_rounds 1 ?_
    rw [rounds_succ]
    go_wp2
    go_ret
    exact ⟨rfl, (hb1.block tb (by simp; omega)).trans (blk_alloc (one_setCell HB.out)), (((Below.refl tb w).setCell (p := ⟨tb, 0, none⟩) (Nat.le_refl _) _).alloc (by simp; omega) _).trans (hb1.mono (by simp; omega))⟩

theorem look_step (k i : Int) (s : ByteArray) (l : List PT) (ih : ∀ t ∈ l, LookOk t) : LookOk (.mk k i s l) := by
  intro w B tb n deep v hv hB hn hd hc
  obtain ⟨ok1, ok2, hs, hv⟩ := hv
  rw [chk]
  by_cases h1 : n = 4096
  · subst h1
    rw [if_pos rfl]
    exact look_many k i s v deep w tb hc
  rw [if_neg h1]
  by_cases h2 : (nestB k && decide (deep = 32)) = true
  · rw [if_pos h2]
    simp only [Bool.and_eq_true, decide_eq_true_eq] at h2
    obtain ⟨hk, rfl⟩ := h2
    exact look_deep k i s v n w tb (by omega) hk hc
  rw [if_neg h2]
  have hk : nestB k = false ∨ nestB k = true ∧ deep < 32 := by
    cases hb : nestB k
    · exact .inl rfl
    · right
      simp [hb] at h2
      exact ⟨rfl, by omega⟩
  by_cases h3 : formB k i s.data.toList l = true
  · rw [if_pos h3]
    by_cases h0 : l = []
    · subst h0
      obtain ⟨a, c, rfl, hl, hm, hna, hr⟩ := hv
      rw [chkL]
      exact look_none k i s a c deep n w B tb hs ⟨a, c, rfl, hl, hm, hna, hr⟩ hB (by omega) hk h3 hc
    · obtain ⟨a, c, rfl, hl, hm, hna, hr⟩ := hv
      rcases hr with rfl | ⟨b, o, rfl, hb, hr⟩
      · exact absurd rfl h0
      · rcases hk with hk | ⟨hk, hd'⟩
        · exact absurd (form_leaf hk h3) h0
        · exact look_loop k i s l ih b o c deep n w B tb hs hl hm hb hr hB (by omega) hk hd' h3 hc
  · rw [if_neg h3]
    exact look_form k i s l v deep n w B tb hs hv hB (by omega) hk (by simpa using h3) hc

mutual
theorem look_any : ∀ t : PT, LookOk t
  | .mk k i s l => look_step k i s l (look_all l)
theorem look_all : ∀ l : List PT, ∀ t ∈ l, LookOk t
  | [], t, h => by cases h
  | u :: l, t, h => (List.mem_cons.1 h).elim (fun e => e ▸ look_any u) (fun h => look_all l t h)
end

/-- Check. -/
def checkB (t : PT) : Int := (chk 0 0 t).2

theorem check_any (t : PT) (v : Value) (w : World) (B : Nat) (hv : RepV w B t v) (hB : B ≤ w.heap.size) :
    Calls Try.prog 83 #[t.val v] w fun e w' => e = .returned (.int .i64 (checkB t)) ∧ Below w.heap.size w w' := by
  match t with
  | .mk k i s l =>
    have L := look_any (.mk k i s l)
    have HV := Lib.hid hv
    obtain ⟨a, c, rfl, _⟩ := hv.2.2.2
    clear hv
    show Calls Try.prog 83 #[.agg #[.int .i64 k, .int .i64 i, .string s, .slice a l.length c]] w _
    go_enter Try.func83, Try.ntmps83
    go_wp2_with fail
    refine (L _ B (w.heap.size + 1) 0 0 _ ⟨HV.out.1, HV.out.2.1, HV.out.2.2.1, HV.out.2.2.2.below (((Below.refl w.heap.size w).alloc (Nat.le_refl _) _).alloc (by simp) _) hB⟩ (by omega) (by omega) (by omega) ?_).mono ?_
    · have h := heap_alloc_new (w.alloc (.cells #[.int .i64 k, .int .i64 i, .string s, .slice a l.length c] 25)) (.cells #[.int .i64 0] 126)
      rw [show (w.alloc (.cells #[.int .i64 k, .int .i64 i, .string s, .slice a l.length c] 25)).heap.size = w.heap.size + 1 by simp] at h
      exact h
    rintro e w1 ⟨rfl, hc1, hb1⟩
    go_wp2
    go_ret
    exact ⟨rfl, (((Below.refl w.heap.size w).alloc (Nat.le_refl _) _).alloc (by simp) _).trans (hb1.mono (by simp))⟩
end Go.Proofs.Ytkjgdnfkpebejaa.Dat
