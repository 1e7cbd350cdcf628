/-
Tokens with an error are none; how many there are. No condition.
-/
import Derived.Test.YtiamojpeedllbaaGreatDoorU3d
namespace Go.Proofs.YtiamojpeedllbaaGreatDoor
open Go.ChangeShapes Go.WideShapes Go.ChangeAt Go.RowKit

theorem toks_err {l : List UInt8} (h : (toksT l).2.2 ≠ 0) : (toksT l).1 = [] := by
  unfold toksT at h ⊢
  split
  · rfl
  · rename_i h1
    rw [if_neg h1] at h
    split at h
    · exact absurd rfl h
    · rename_i h2; rw [if_neg h2]
theorem toks_len {l : List UInt8} (h : (toksT l).2.2 = 0) : (toksT l).1.length ≤ 4096 := by
  obtain ⟨h1, h2, h3, _⟩ := toks_ok h
  rw [h3]
  have := run_length l.length _ 0 (gapS false l) (Nat.le_refl _)
  have := gapS_le false l
  omega
theorem toks_some (l : List UInt8) : (toksT l).1.length ≤ 4096 := by
  by_cases h : (toksT l).2.2 = 0
  · exact toks_len h
  · rw [toks_err h]; simp
theorem toks_place (l : List UInt8) : (toksT l).2.1 ≤ l.length := by
  by_cases h : (toksT l).2.2 = 0
  · rw [(toks_ok h).2.2.2]; omega
  · unfold toksT
    split
    · simp
    · split
      · simp
      · rename_i h1 h2
        simp only
        have key : ∀ (n cnt : Nat) (m : List UInt8), m.length ≤ n → (runT l.length cnt m).2.1 ≤ l.length := by
          intro n
          induction n with
          | zero =>
            intro cnt m hm
            match m, hm with
            | [], _ => simp [runT]
          | succ n ih =>
            intro cnt m hm
            match m with
            | [] => simp [runT]
            | c :: r =>
              by_cases hc : cnt = 2048
              · subst hc; rw [runT_many]; simp
              · by_cases he : (oneT (c :: r)).2.2 = 0
                · rw [runT_rest _ cnt _ (by simp) hc he]
                  exact ih (cnt + 1) _ (by have := rest_lt he; simp at this hm; omega)
                · rw [runT_bad _ cnt c r hc he]; simp
        exact key _ 0 _ (Nat.le_refl _)
end Go.Proofs.YtiamojpeedllbaaGreatDoor
