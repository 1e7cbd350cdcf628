/-
What is wrong first in a datum: package data's Check, for every datum. No condition.
-/
import Derived.Test.YthfjlcflpneffaaGreatDoorD8
import Derived.OneCell
namespace Go.Proofs.YthfjlcflpneffaaGreatDoor.Dat
open Go.ChangeShapes Go.WideShapes Go.ChangeAt Go.RowKit
set_option maxRecDepth 100000

def nestB (k : Int) : Bool := decide (k = 5) || decide (k = 6) || decide (k = 7)

mutual
/-- What is wrong first in a datum within so many, so many having been looked at; how many have been then. -/
def chk (deep n : Nat) : PT → Nat × Int
  | .mk k i s l =>
    if n = 4096 then (n, 22)
    else if nestB k && decide (deep = 32) then (n + 1, 21)
    else if formB k i s.data.toList l then chkL (deep + 1) (n + 1) l
    else (n + 1, 20)
def chkL (deep n : Nat) : List PT → Nat × Int
  | [] => (n, 0)
  | t :: l => if (chk deep n t).2 = 0 then chkL deep (chk deep n t).1 l else chk deep n t
end

theorem form_leaf {k i : Int} {s : List UInt8} {l : List PT} (hn : nestB k = false) (h : formB k i s l = true) : l = [] := by
  simp only [nestB, Bool.or_eq_false_iff, decide_eq_false_iff_not] at hn
  obtain ⟨⟨h5, h6⟩, h7⟩ := hn
  have : l.length = 0 := by
    unfold formB at h
    split at h
    · simp at h; exact List.length_eq_zero_iff.2 h.2
    split at h
    · simp at h; exact List.length_eq_zero_iff.2 h.2
    split at h
    · simp at h; exact List.length_eq_zero_iff.2 h.2
    split at h
    · simp at h; exact List.length_eq_zero_iff.2 h.2
    split at h
    · simp at h; exact List.length_eq_zero_iff.2 h.2
    split at h
    · omega
    · cases h
  exact List.length_eq_zero_iff.1 this

mutual
theorem chk_le (deep n : Nat) (hn : n ≤ 4096) : ∀ t : PT, n ≤ (chk deep n t).1 ∧ (chk deep n t).1 ≤ 4096
  | .mk k i s l => by
    rw [chk]
    split
    · exact ⟨Nat.le_refl _, hn⟩
    split
    · exact ⟨by simp, by simp; omega⟩
    split
    · have := chkL_le (deep + 1) (n + 1) (by omega) l
      exact ⟨by omega, this.2⟩
    · exact ⟨by simp, by simp; omega⟩
theorem chkL_le (deep n : Nat) (hn : n ≤ 4096) : ∀ l : List PT, n ≤ (chkL deep n l).1 ∧ (chkL deep n l).1 ≤ 4096
  | [] => by rw [chkL]; exact ⟨Nat.le_refl _, hn⟩
  | t :: l => by
    rw [chkL]
    have h1 := chk_le deep n hn t
    split
    · have := chkL_le deep _ h1.2 l
      exact ⟨by omega, this.2⟩
    · exact h1
end

/-- The loop over a list's items: what is left to look at. -/
theorem chkL_append (deep : Nat) : ∀ (l m : List PT) (n : Nat), (chkL deep n l).2 = 0 → chkL deep n (l ++ m) = chkL deep (chkL deep n l).1 m
  | [], m, n, _ => by rw [chkL]; rfl
  | t :: l, m, n, h => by
    rw [List.cons_append, chkL, chkL]
    rw [chkL] at h
    split
    · rw [if_pos ‹_›] at h
      exact chkL_append deep l m _ h
    · rw [if_neg ‹_›] at h
      omega
theorem chkL_take (deep n : Nat) (l : List PT) (j : Nat) (hj : j < l.length) (h : (chkL deep n (l.take j)).2 = 0) : chkL deep n (l.take (j + 1)) = chk deep (chkL deep n (l.take j)).1 l[j] := by
  rw [List.take_succ_eq_append_getElem hj, chkL_append deep _ _ _ h, chkL]
  split
  · rw [chkL]
    rename_i h0
    exact Prod.ext rfl h0.symm
  · rfl
theorem chkL_stop (deep : Nat) : ∀ (l m : List PT) (n : Nat), (chkL deep n l).2 ≠ 0 → chkL deep n (l ++ m) = chkL deep n l
  | [], m, n, h => by rw [chkL] at h; exact absurd rfl h
  | t :: l, m, n, h => by
    rw [List.cons_append, chkL, chkL]
    rw [chkL] at h
    split
    · rw [if_pos ‹_›] at h
      exact chkL_stop deep l m _ h
    · rfl
theorem chkL_whole (deep n : Nat) (l : List PT) (j : Nat) (h : (chkL deep n (l.take j)).2 ≠ 0) : chkL deep n l = chkL deep n (l.take j) := by
  have := chkL_stop deep (l.take j) (l.drop j) n h
  rwa [List.take_append_drop] at this
end Go.Proofs.YthfjlcflpneffaaGreatDoor.Dat
