/-
Numerals, pure: what strconv.Atoi answers of a numeral. No condition.
-/
import Derived.Test.YthfjlcflpneffaaGreatDoorS1
import Derived.Lib.AtoiAll
import Derived.Lib.AtoiAllCases
namespace Go.Proofs.YthfjlcflpneffaaGreatDoor
open Go.ChangeShapes Go.WideShapes Go.ChangeAt Go.RowKit
/-! ### numerals -/
def decN (a : Nat) (l : List UInt8) : Nat := l.foldl (fun a c => a * 10 + (c.toNat - 48)) a
theorem decN_ge : ∀ (l : List UInt8) (a : Nat), a ≤ decN a l
  | [], a => Nat.le_refl _
  | c :: l, a => by
    have := decN_ge l (a * 10 + (c.toNat - 48))
    simp only [decN, List.foldl_cons] at this ⊢
    omega
theorem dig8_iff (c : UInt8) : dig8 c = true ↔ 48 ≤ c.toNat ∧ c.toNat ≤ 57 := by
  simp [dig8, digB]; omega
theorem decV_N : ∀ (l : List UInt8) (a : Nat), digsB l = true → l.foldl (fun a c => 10 * a + ((c.toNat : Int) - 48)) (a : Int) = (decN a l : Int)
  | [], a, _ => rfl
  | c :: l, a, h => by
    simp only [digsB, List.all_cons, Bool.and_eq_true] at h
    have hc := (dig8_iff c).1 h.1
    have := decV_N l (a * 10 + (c.toNat - 48)) h.2
    simp only [decN, List.foldl_cons] at this ⊢
    rw [← this]
    congr 1
    omega
theorem decV_eq {l : List UInt8} (h : digsB l = true) : decV l = (decN 0 l : Int) := decV_N l 0 h
theorem parse_digits : ∀ (l : List UInt8) (a : Nat), digsB l = true → a < 18446744073709551616 → Lib.parseUint10 a l = if decN a l < 18446744073709551616 then .ok (decN a l) else .range
  | [], a, _, ha => by simp [Lib.parseUint10, decN, ha]
  | c :: l, a, h, ha => by
    simp only [digsB, List.all_cons, Bool.and_eq_true] at h
    have hc := (dig8_iff c).1 h.1
    have hge := decN_ge l (a * 10 + (c.toNat - 48))
    have hd : decN a (c :: l) = decN (a * 10 + (c.toNat - 48)) l := rfl
    rw [Lib.parseUint10, if_pos hc, hd]
    by_cases h1 : 1844674407370955162 ≤ a
    · rw [if_pos h1, if_neg (by omega)]
    · rw [if_neg h1]
      by_cases h2 : 18446744073709551616 ≤ a * 10 + (c.toNat - 48)
      · rw [if_pos h2, if_neg (by omega)]
      · rw [if_neg h2]
        exact parse_digits l _ h.2 (by omega)
theorem parse_mag {l : List UInt8} (h : digsB l = true) (h0 : l ≠ []) : Lib.parseMag l = if decN 0 l < 18446744073709551616 then .ok (decN 0 l) else .range := by
  rw [Lib.parseMag, if_neg h0]
  exact parse_digits l 0 h (by decide)
/-- Which numeral says what. -/
theorem num_ways {l : List UInt8} (h : numB l = true) : (∃ r, l = 43 :: r ∧ r ≠ [] ∧ digsB r = true ∧ numV l = decN 0 r) ∨ (∃ r, l = 45 :: r ∧ r ≠ [] ∧ digsB r = true ∧ numV l = - (decN 0 r : Int)) ∨
    (∃ c r, l = c :: r ∧ c ≠ 43 ∧ c ≠ 45 ∧ digsB l = true ∧ numV l = decN 0 l) := by
  match l, h with
  | c :: r, h =>
    unfold numB at h
    simp only at h
    by_cases h1 : c = 43
    · subst h1
      rw [if_pos (.inl rfl)] at h
      simp only [Bool.and_eq_true, Bool.not_eq_true', List.isEmpty_eq_false_iff] at h
      refine .inl ⟨r, rfl, h.1, h.2, ?_⟩
      rw [numV, if_neg (by decide), if_pos rfl, decV_eq h.2]
    · by_cases h2 : c = 45
      · subst h2
        rw [if_pos (.inr rfl)] at h
        simp only [Bool.and_eq_true, Bool.not_eq_true', List.isEmpty_eq_false_iff] at h
        refine .inr (.inl ⟨r, rfl, h.1, h.2, ?_⟩)
        rw [numV, if_pos rfl, decV_eq h.2]
      · rw [if_neg (by simp [h1, h2])] at h
        refine .inr (.inr ⟨c, r, rfl, h1, h2, h, ?_⟩)
        rw [numV, if_neg h2, if_neg h1, decV_eq (l := c :: r) h]
theorem atoi_num {l : List UInt8} (h : numB l = true) : Lib.atoiAll l = if -9223372036854775808 ≤ numV l ∧ numV l ≤ 9223372036854775807 then .ok (numV l) else .range := by
  rcases num_ways h with ⟨r, rfl, h0, hd, hv⟩ | ⟨r, rfl, h0, hd, hv⟩ | ⟨c, r, rfl, h1, h2, hd, hv⟩
  · rw [hv, Lib.atoiAll]
    rw [if_pos (by decide), parse_mag hd h0]
    by_cases hlt : decN 0 r < 18446744073709551616
    · rw [if_pos hlt]
      simp only
      by_cases h3 : 9223372036854775808 ≤ decN 0 r
      · rw [if_pos ⟨by decide, h3⟩, if_neg (by omega)]
      · rw [if_neg (by omega), if_neg (by simp), if_neg (by decide), if_pos (by omega)]
    · rw [if_neg hlt, if_neg (by omega)]
  · rw [hv, Lib.atoiAll]
    rw [if_pos (by decide), parse_mag hd h0]
    by_cases hlt : decN 0 r < 18446744073709551616
    · rw [if_pos hlt]
      simp only
      rw [if_neg (by simp)]
      by_cases h3 : 9223372036854775808 < decN 0 r
      · rw [if_pos ⟨by decide, h3⟩, if_neg (by omega)]
      · rw [if_neg (by omega), if_pos (by decide), if_pos (by omega)]
    · rw [if_neg hlt, if_neg (by omega)]
  · have n43 : ¬ c.toNat = 43 := fun e => h1 (UInt8.toNat_inj.1 e)
    have n45 : ¬ c.toNat = 45 := fun e => h2 (UInt8.toNat_inj.1 e)
    rw [hv, Lib.atoiAll]
    rw [if_neg (by omega), parse_mag hd (by simp)]
    by_cases hlt : decN 0 (c :: r) < 18446744073709551616
    · rw [if_pos hlt]
      simp only
      by_cases h3 : 9223372036854775808 ≤ decN 0 (c :: r)
      · rw [if_pos ⟨n45, h3⟩, if_neg (by omega)]
      · rw [if_neg (by omega), if_neg (by simp [n45]), if_neg n45, if_pos (by omega)]
    · rw [if_neg hlt, if_neg (by omega)]
/-- A number that is told from below, digit by digit. -/
theorem decN_snoc (l : List UInt8) (c : UInt8) (a : Nat) : decN a (l ++ [c]) = decN a l * 10 + (c.toNat - 48) := by
  simp [decN, List.foldl_append]
theorem decN_take_le (l : List UInt8) (k : Nat) (a : Nat) : decN a (l.take k) ≤ decN a l := by
  have h : decN a l = decN (decN a (l.take k)) (l.drop k) := by
    unfold decN
    rw [← List.foldl_append, List.take_append_drop]
  rw [h]
  exact decN_ge _ _
end Go.Proofs.YthfjlcflpneffaaGreatDoor
