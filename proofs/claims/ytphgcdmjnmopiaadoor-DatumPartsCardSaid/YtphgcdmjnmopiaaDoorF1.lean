/-
The law DatumParts of layer 2: the plain side: a list's text out of its items' texts, as the law puts it together.
-/
import Derived.Test.YtphgcdmjnmopiaaDoorD20
import Derived.Test.YtphgcdmjnmopiaaDoorE3
namespace Go.Proofs.YtphgcdmjnmopiaaDoor
open Go.ChangeShapes Go.WideShapes Go.ChangeAt Go.RowKit

/-- Check's answer at a list, and at a vector, of the same items is one. -/
theorem check_vec (l : List PT) : checkB (.mk 7 0 ⟨#[]⟩ l) = checkB (.mk 5 0 ⟨#[]⟩ l) := by
  have h7 : formB 7 0 (ByteArray.mk #[]).data.toList l = true := by simp [formB]
  have h5 : formB 5 0 (ByteArray.mk #[]).data.toList l = true := by simp [formB]
  simp only [checkB, chk, h7, h5]
  rfl

theorem list_text (bare : Bool) (l : List PT) : textT bare (.mk 5 0 ⟨#[]⟩ l) = [40] ++ (joinT (textsT bare l) ++ [41]) := by
  rw [textT, shapeT]; simp
theorem vec_text (bare : Bool) (l : List PT) : textT bare (.mk 7 0 ⟨#[]⟩ l) = [35] ++ textT bare (.mk 5 0 ⟨#[]⟩ l) := by
  rw [list_text, textT, shapeT]; simp

mutual
theorem chk_cnt (deep n : Nat) : ∀ t : PT, (chk deep n t).2 = 0 → (chk deep n t).1 = n + numT t
  | .mk k i s l, h => by
    rw [chk] at h ⊢
    split at h
    · cases h
    split at h
    · cases h
    split at h
    · rename_i h1 h2 h3
      rw [if_neg h1, if_neg h2, if_pos h3, chkL_cnt (deep + 1) (n + 1) l h, numT]
      omega
    · cases h
theorem chkL_cnt (deep n : Nat) : ∀ l : List PT, (chkL deep n l).2 = 0 → (chkL deep n l).1 = n + numsT l
  | [], _ => by simp [chkL, numsT]
  | t :: l, h => by
    rw [chkL] at h ⊢
    split at h
    · rename_i h0
      rw [if_pos h0, chkL_cnt deep _ l h, chk_cnt deep n t h0, numsT]
      omega
    · rename_i h0
      exact absurd h h0
end

mutual
/-- What is nothing wrong within so many, so many looked at, is nothing wrong within fewer. -/
theorem chk_sub (deep n d2 n2 : Nat) (hd : d2 ≤ deep) (hn : n2 ≤ n) (hn4 : n ≤ 4096) (hd4 : deep ≤ 32) : ∀ t : PT, (chk deep n t).2 = 0 → (chk d2 n2 t).2 = 0
  | .mk k i s l, h => by
    rw [chk] at h ⊢
    split at h
    · cases h
    split at h
    · cases h
    split at h
    · rename_i h1 h2 h3
      rw [if_neg (by omega)]
      have h2' : ¬ (nestB k && decide (d2 = 32)) = true := by
        simp only [Bool.and_eq_true, decide_eq_true_eq] at h2 ⊢
        rintro ⟨a, b⟩
        exact h2 ⟨a, by omega⟩
      rw [if_neg h2', if_pos h3]
      cases hk : nestB k
      · rw [form_leaf hk h3, chkL]
      · have : deep ≠ 32 := fun e => h2 (by rw [hk, e]; rfl)
        exact chkL_sub (deep + 1) (n + 1) (d2 + 1) (n2 + 1) (by omega) (by omega) (by omega) (by omega) l h
    · cases h
theorem chkL_sub (deep n d2 n2 : Nat) (hd : d2 ≤ deep) (hn : n2 ≤ n) (hn4 : n ≤ 4096) (hd4 : deep ≤ 32) : ∀ l : List PT, (chkL deep n l).2 = 0 → (chkL d2 n2 l).2 = 0
  | [], _ => by simp [chkL]
  | t :: l, h => by
    rw [chkL] at h ⊢
    split at h
    · rename_i h0
      have h1 := chk_sub deep n d2 n2 hd hn hn4 hd4 t h0
      have e1 := chk_cnt deep n t h0
      have e2 := chk_cnt d2 n2 t h1
      have e3 := chk_le deep n hn4 t
      rw [if_pos h1]
      exact chkL_sub deep (chk deep n t).1 d2 (chk d2 n2 t).1 hd (by omega) e3.2 hd4 l h
    · rename_i h0
      exact absurd h h0
end

theorem chkL_items (deep : Nat) (hd : deep ≤ 32) : ∀ (l : List PT) (n : Nat), n ≤ 4096 → (chkL deep n l).2 = 0 → ∀ t ∈ l, checkB t = 0
  | [], _, _, _, t, ht => by cases ht
  | u :: l, n, hn, h, t, ht => by
    rw [chkL] at h
    split at h
    · rename_i h0
      rcases List.mem_cons.1 ht with rfl | ht
      · exact chk_sub deep n 0 0 (by omega) (by omega) hn hd t h0
      · exact chkL_items deep hd l _ (chk_le deep n hn u).2 h t ht
    · rename_i h0
      exact absurd h h0

/-- The items of a list that may be may be. -/
theorem check_items (l : List PT) (h : checkB (.mk 5 0 ⟨#[]⟩ l) = 0) : ∀ t ∈ l, checkB t = 0 := by
  have h5 : formB 5 0 (ByteArray.mk #[]).data.toList l = true := by simp [formB]
  unfold checkB at h
  rw [chk, if_neg (by omega), if_neg (by simp), if_pos h5] at h
  exact chkL_items 1 (by omega) l 1 (by omega) h
end Go.Proofs.YtphgcdmjnmopiaaDoor
