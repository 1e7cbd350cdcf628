/-
Which fields a datum may have, itself: what the small tests of package data and of the document answer, for every datum. No condition.
-/
import Derived.Test.YthfjlcflpneffaaGreatDoorT2
import Derived.Test.YthfjlcflpneffaaGreatDoorD1
namespace Go.Proofs.YthfjlcflpneffaaGreatDoor.Dat
open Go.ChangeShapes Go.WideShapes Go.ChangeAt Go.RowKit
set_option maxRecDepth 100000

theorem hasItems_any (k : Int) (r : Bool) (hr : r = (decide (k = 5) || decide (k = 6) || decide (k = 7))) (w : World) : Calls Tryz.prog 44 #[.int .i64 k] w fun e w' => e = .returned (.bool r) ∧ w = w' := by
  have HR := Lib.hid hr
  clear hr
  by_cases h5 : k = 5
  · subst h5
    go_enter Tryz.func44, Tryz.ntmps44
    go_wp2
    go_ret
    exact ⟨ret_bool (by rw [HR.out]; rfl), rfl⟩
  by_cases h6 : k = 6
  · subst h6
    go_enter Tryz.func44, Tryz.ntmps44
    go_wp2
    go_ret
    exact ⟨ret_bool (by rw [HR.out]; rfl), rfl⟩
  by_cases h7 : k = 7
  · subst h7
    go_enter Tryz.func44, Tryz.ntmps44
    go_wp2
    go_ret
    exact ⟨ret_bool (by rw [HR.out]; rfl), rfl⟩
  have hf : r = false := by rw [HR.out]; simp [h5, h6, h7]
  have HF := Lib.hid hf
  clear hf
  have b5 : (k == 5) = false := by simpa using h5
  have b6 : (k == 6) = false := by simpa using h6
  have b7 : (k == 7) = false := by simpa using h7
  go_enter Tryz.func44, Tryz.ntmps44
  go_wp2
  go_ret
  exact ⟨ret_bool HF.out.symm, rfl⟩

theorem mayBeTail_any (k : Int) (r : Bool) (hr : r = (decide (k ≠ 5) && decide (k ≠ 6))) (w : World) : Calls Tryz.prog 34 #[.int .i64 k] w fun e w' => e = .returned (.bool r) ∧ w = w' := by
  have HR := Lib.hid hr
  clear hr
  by_cases h5 : k = 5
  · subst h5
    go_enter Tryz.func34, Tryz.ntmps34
    go_wp2
    go_ret
    exact ⟨ret_bool (by rw [HR.out]; rfl), rfl⟩
  by_cases h6 : k = 6
  · subst h6
    go_enter Tryz.func34, Tryz.ntmps34
    go_wp2
    go_ret
    exact ⟨ret_bool (by rw [HR.out]; rfl), rfl⟩
  have hf : r = true := by rw [HR.out]; simp [h5, h6]
  have HF := Lib.hid hf
  clear hf
  have b5 : (k == 5) = false := by simpa using h5
  have b6 : (k == 6) = false := by simpa using h6
  have c5 : (k != 5) = true := by simpa using h5
  have c6 : (k != 6) = true := by simpa using h6
  go_enter Tryz.func34, Tryz.ntmps34
  go_wp2
  go_ret
  exact ⟨ret_bool HF.out.symm, rfl⟩

theorem isNumbered_any (k i lo hi : Int) (s : ByteArray) (a : Option Addr) (n c : Nat) (r : Bool) (hr : r = (decide (lo ≤ i) && decide (i ≤ hi) && s.data.toList.isEmpty && decide (n = 0))) (w : World) :
    Calls Tryz.prog 61 #[.agg #[.int .i64 k, .int .i64 i, .string s, .slice a n c], .int .i64 lo, .int .i64 hi] w fun e w' => e = .returned (.bool r) ∧ Below w.heap.size w w' := by
  rw [← ByteArray.toList_eq] at hr
  have HR := Lib.hid hr
  clear hr
  go_enter Tryz.func61, Tryz.ntmps61
  go_wp2
  all_goals
    go_ret
    refine ⟨ret_bool ?_, (Below.refl _ _).alloc (Nat.le_refl _) _⟩
    rw [HR.out]
    rw [Bool.eq_iff_iff]
    simp [*] <;> omega

def PT.kind : PT → Int
  | .mk k _ _ _ => k
/-- Is the last one no list, and not dotted? -/
def tailB (l : List PT) : Bool := match l.getLast? with
  | some t => decide (t.kind ≠ 5) && decide (t.kind ≠ 6)
  | none => false
/-- May a datum's own fields be? -/
def formB (k i : Int) (s : List UInt8) (l : List PT) : Bool :=
  if k = 0 then decide (0 ≤ i) && decide (i ≤ 1) && s.isEmpty && decide (l.length = 0)
  else if k = 1 then decide (-1152921504606846976 ≤ i) && decide (i ≤ 1152921504606846975) && s.isEmpty && decide (l.length = 0)
  else if k = 2 then decide (0 ≤ i) && decide (i ≤ 255) && s.isEmpty && decide (l.length = 0)
  else if k = 3 then decide (i = 0) && decide (s.length ≤ 4096) && decide (l.length = 0)
  else if k = 4 then decide (i = 0) && nameB s && decide (l.length = 0)
  else if k = 5 ∨ k = 7 then decide (i = 0) && s.isEmpty
  else if k = 6 then decide (i = 0) && s.isEmpty && decide (2 ≤ l.length) && tailB l
  else false

theorem formed_num (k i lo hi : Int) (s : ByteArray) (a : Option Addr) (n c : Nat) (r : Bool) (hk : k = 0 ∧ lo = 0 ∧ hi = 1 ∨ k = 1 ∧ lo = -1152921504606846976 ∧ hi = 1152921504606846975 ∨ k = 2 ∧ lo = 0 ∧ hi = 255)
    (hr : r = (decide (lo ≤ i) && decide (i ≤ hi) && s.data.toList.isEmpty && decide (n = 0))) (w : World) :
    Calls Tryz.prog 45 #[.agg #[.int .i64 k, .int .i64 i, .string s, .slice a n c]] w fun e w' => e = .returned (.bool r) ∧ Below w.heap.size w w' := by
  have C := fun k W => isNumbered_any k i lo hi s a n c r hr W
  have H := Lib.hid C
  clear C hr
  rcases hk with ⟨rfl, rfl, rfl⟩ | ⟨rfl, rfl, rfl⟩ | ⟨rfl, rfl, rfl⟩
  all_goals
    go_enter Tryz.func45, Tryz.ntmps45
    go_wp2_with (go_at_call 61; ((with_reducible refine (H.out _ _).mono ?_); rintro e w' ⟨rfl, hb⟩))
    go_ret
    exact ⟨rfl, ((Below.refl _ _).alloc (Nat.le_refl _) _).trans (hb.mono (by simp))⟩

theorem formed_text (k i : Int) (s : ByteArray) (a : Option Addr) (n c : Nat) (r : Bool) (hs : s.size ≤ maxLen) (hk : k = 3)
    (hr : r = (decide (i = 0) && decide (s.size ≤ 4096) && decide (n = 0))) (w : World) :
    Calls Tryz.prog 45 #[.agg #[.int .i64 k, .int .i64 i, .string s, .slice a n c]] w fun e w' => e = .returned (.bool r) ∧ Below w.heap.size w w' := by
  subst hk
  unfold maxLen at hs
  have HR := Lib.hid hr
  clear hr
  go_enter Tryz.func45, Tryz.ntmps45
  go_wp2
  all_goals
    go_ret
    refine ⟨ret_bool ?_, (Below.refl _ _).alloc (Nat.le_refl _) _⟩
    rw [HR.out]
    rw [Bool.eq_iff_iff]
    simp [*] <;> omega

theorem formed_name (k i : Int) (s : ByteArray) (a : Option Addr) (n c : Nat) (r : Bool) (hs : s.size ≤ maxLen) (hk : k = 4)
    (hr : r = (decide (i = 0) && nameB s.data.toList && decide (n = 0))) (w : World) :
    Calls Tryz.prog 45 #[.agg #[.int .i64 k, .int .i64 i, .string s, .slice a n c]] w fun e w' => e = .returned (.bool r) ∧ Below w.heap.size w w' := by
  subst hk
  have C := fun W => name_any s W hs
  unfold maxLen at hs
  have HR := Lib.hid hr
  clear hr
  by_cases hn : nameB s.data.toList = true
  · rw [hn] at C
    have H := Lib.hid C
    have HN := Lib.hid hn
    clear C hn
    go_enter Tryz.func45, Tryz.ntmps45
    go_wp2_with (go_at_call 62; ((with_reducible refine (H.out _).mono ?_); rintro e w' ⟨rfl, rfl⟩))
    all_goals
      go_ret
      refine ⟨ret_bool ?_, (Below.refl _ _).alloc (Nat.le_refl _) _⟩
      rw [HR.out, HN.out]
      rw [Bool.eq_iff_iff]
      simp [*] <;> omega
  · have hn' : nameB s.data.toList = false := by simpa using hn
    rw [hn'] at C
    have H := Lib.hid C
    have HN := Lib.hid hn'
    clear C hn hn'
    go_enter Tryz.func45, Tryz.ntmps45
    go_wp2_with (go_at_call 62; ((with_reducible refine (H.out _).mono ?_); rintro e w' ⟨rfl, rfl⟩))
    all_goals
      go_ret
      refine ⟨ret_bool ?_, (Below.refl _ _).alloc (Nat.le_refl _) _⟩
      rw [HR.out, HN.out]
      rw [Bool.eq_iff_iff]
      simp [*] <;> omega

theorem formed_items (k i : Int) (s : ByteArray) (a : Option Addr) (n c : Nat) (r : Bool) (hk : k = 5 ∨ k = 7)
    (hr : r = (decide (i = 0) && s.data.toList.isEmpty)) (w : World) :
    Calls Tryz.prog 45 #[.agg #[.int .i64 k, .int .i64 i, .string s, .slice a n c]] w fun e w' => e = .returned (.bool r) ∧ Below w.heap.size w w' := by
  rw [← ByteArray.toList_eq] at hr
  have HR := Lib.hid hr
  clear hr
  rcases hk with rfl | rfl
  all_goals
    go_enter Tryz.func45, Tryz.ntmps45
    go_wp2
    all_goals
      go_ret
      refine ⟨ret_bool ?_, (Below.refl _ _).alloc (Nat.le_refl _) _⟩
      rw [HR.out]
      rw [Bool.eq_iff_iff]
      simp [*]
end Go.Proofs.YthfjlcflpneffaaGreatDoor.Dat
