/-
The document's numerals: what Number answers, for every string. No condition.
-/
import Derived.Test.YtphgcdmjnmopiaaDoorD4
namespace Go.Proofs.YtphgcdmjnmopiaaDoor
open Go.ChangeShapes Go.WideShapes Go.ChangeAt Go.RowKit

theorem number_plain (s : ByteArray) (w : World) (hs : s.size ≤ maxLen) (h0 : 0 < s.size) (h1 : ((s[0].toNat : Int) == 43) = false) (h2 : ((s[0].toNat : Int) == 45) = false) :
    Calls Tryd.prog 29 #[.string s] w fun e w' => e = .returned (.bool (digsB s.data.toList)) ∧ w = w' := by
  unfold maxLen at hs
  have hl : s.data.toList.length = s.size := by rw [Array.length_toList]; rfl
  have HL := Lib.hid hl
  clear hl
  go_enter Tryd.func29, Tryd.ntmps29
  go_wp2
  go_loop [4] (fun i => ∃ k : Nat, k ≤ s.size ∧ i = .int .i64 k ∧ (s.data.toList.take k).all dig8 = true) (fun i => s.size - (intOf i).toNat)
  case atStart => exact ⟨0, Nat.zero_le _, rfl, rfl⟩
  case round =>
    obtain ⟨k, hk, rfl, hn⟩ := hrel
    by_cases hlt : k < s.size
    · have ht := all_take_succ s.data.toList dig8 k (by rw [HL.out]; exact hlt)
      rw [hn, Bool.true_and] at ht
      have HT := Lib.hid ht
      have HN := Lib.hid hn
      clear hn ht
      by_cases hc : digB s[k].toNat = true
      · have C := rdigit_any s[k].toNat
        rw [hc] at C
        have H := Lib.hid C
        have HC := Lib.hid hc
        clear C hc
        go_wp2_with (go_at_call 47; ((with_reducible refine (H.out _).mono ?_); rintro e w' ⟨rfl, rfl⟩))
        go_round
        case rel => exact ⟨k + 1, by omega, by go_num, HT.out.trans HC.out⟩
        case measure => simp [intOf]; omega
      · have hc' : digB s[k].toNat = false := by simpa using hc
        have C := rdigit_any s[k].toNat
        rw [hc'] at C
        have H := Lib.hid C
        have HC := Lib.hid hc'
        clear C hc hc'
        go_wp2_with (go_at_call 47; ((with_reducible refine (H.out _).mono ?_); rintro e w' ⟨rfl, rfl⟩))
        go_ret
        exact ⟨ret_bool (all_of_not k (by rw [HL.out]; exact hlt) HC.out).symm, rfl⟩
    · obtain rfl : k = s.size := by omega
      have HN := Lib.hid hn
      clear hn
      go_wp2
      go_ret
      refine ⟨ret_bool ?_, rfl⟩
      have := HN.out
      rw [List.take_of_length_le (by rw [HL.out]; omega)] at this
      exact this.symm

theorem number_sign (s : ByteArray) (r : Bool) (hr : r = (!(s.data.toList.drop 1).isEmpty && digsB (s.data.toList.drop 1))) (w : World) (hs : s.size ≤ maxLen) (h0 : 0 < s.size) (h1 : ((s[0].toNat : Int) == 43) = true ∨ ((s[0].toNat : Int) == 43) = false ∧ ((s[0].toNat : Int) == 45) = true) :
    Calls Tryd.prog 29 #[.string s] w fun e w' => e = .returned (.bool r) ∧ w = w' := by
  have HR := Lib.hid hr
  clear hr
  unfold maxLen at hs
  have hl : s.data.toList.length = s.size := by rw [Array.length_toList]; rfl
  have HL := Lib.hid hl
  clear hl
  rcases h1 with h1 | ⟨h1, h2⟩
  all_goals
    go_enter Tryd.func29, Tryd.ntmps29
    go_wp2
    go_loop [4] (fun i => ∃ k : Nat, k + 1 ≤ s.size ∧ i = .int .i64 (k + 1 : Nat) ∧ ((s.data.toList.drop 1).take k).all dig8 = true) (fun i => s.size - (intOf i).toNat)
    case atStart => exact ⟨0, by omega, rfl, rfl⟩
    case round =>
      obtain ⟨k, hk, rfl, hn⟩ := hrel
      by_cases hlt : k + 1 < s.size
      · have ht := all_take_succ (s.data.toList.drop 1) dig8 k (by rw [List.length_drop, HL.out]; omega)
        rw [hn, Bool.true_and, List.getElem_drop] at ht
        have hz : s.data.toList[1 + k]'(by rw [HL.out]; omega) = s[k + 1] := by
          show s.data.toList[1 + k]'_ = s.data.toList[k + 1]'(by rw [HL.out]; omega)
          congr 1; omega
        rw [hz] at ht
        have HT := Lib.hid ht
        have HN := Lib.hid hn
        clear hn ht hz
        by_cases hc : digB s[k + 1].toNat = true
        · have C := rdigit_any s[k + 1].toNat
          rw [hc] at C
          have H := Lib.hid C
          have HC := Lib.hid hc
          clear C hc
          go_wp2_with (go_at_call 47; ((with_reducible refine (H.out _).mono ?_); rintro e w' ⟨rfl, rfl⟩))
          go_round
          case rel => exact ⟨k + 1, by omega, by go_num, HT.out.trans HC.out⟩
          case measure => simp [intOf]; omega
        · have hc' : digB s[k + 1].toNat = false := by simpa using hc
          have C := rdigit_any s[k + 1].toNat
          rw [hc'] at C
          have H := Lib.hid C
          have HC := Lib.hid hc'
          clear C hc hc'
          go_wp2_with (go_at_call 47; ((with_reducible refine (H.out _).mono ?_); rintro e w' ⟨rfl, rfl⟩))
          go_ret
          refine ⟨ret_bool ?_, rfl⟩
          rw [HR.out, digsB, all_of_not (l := s.data.toList.drop 1) k (by rw [List.length_drop, HL.out]; omega), Bool.and_false]
          rw [List.getElem_drop]
          have hz : s.data.toList[1 + k]'(by rw [HL.out]; omega) = s[k + 1] := by
            show s.data.toList[1 + k]'_ = s.data.toList[k + 1]'(by rw [HL.out]; omega)
            congr 1; omega
          rw [hz]
          exact HC.out
      · obtain rfl : k = s.size - 1 := by omega
        have HN := Lib.hid hn
        clear hn
        have hall : digsB (s.data.toList.drop 1) = true := by
          have := HN.out
          rwa [List.take_of_length_le (by rw [List.length_drop, HL.out]; omega)] at this
        have HA := Lib.hid hall
        clear hall
        by_cases hz1 : s.size = 1
        · have hq : (s.data.toList.drop 1).isEmpty = true := by
            rw [List.isEmpty_iff]
            exact List.length_eq_zero_iff.1 (by rw [List.length_drop, HL.out]; omega)
          have HQ := Lib.hid hq
          have HZ1 := Lib.hid hz1
          clear hq hz1
          have hd : decide ((1 : Int) < (s.size : Int)) = false := by have := HZ1.out; simp; omega
          go_wp2
          go_ret
          refine ⟨ret_bool ?_, rfl⟩
          rw [HR.out, HQ.out]
          have := HZ1.out
          simp
        · have hq : (s.data.toList.drop 1).isEmpty = false := by
            rw [← Bool.not_eq_true, List.isEmpty_iff]
            intro e
            have := congrArg List.length e
            rw [List.length_drop, HL.out] at this
            simp at this
            omega
          have HQ := Lib.hid hq
          clear hq
          have hd : (1 : Int) < (s.size : Int) := by omega
          go_wp2
          go_ret
          refine ⟨ret_bool ?_, rfl⟩
          rw [HR.out, HQ.out, HA.out]
          simp
          try omega

theorem number_any (s : ByteArray) (w : World) (hs : s.size ≤ maxLen) :
    Calls Tryd.prog 29 #[.string s] w fun e w' => e = .returned (.bool (numB s.data.toList)) ∧ w = w' := by
  by_cases h0 : s.size = 0
  · obtain ⟨⟨l⟩⟩ := s
    obtain rfl : l = [] := List.length_eq_zero_iff.1 h0
    clear hs h0
    go_enter Tryd.func29, Tryd.ntmps29
    go_wp2
    refine wp_loop_rounds 1 ?_
    rw [rounds_succ]
    go_wp2
    go_ret
    exact ⟨rfl, rfl⟩
  · have hp : 0 < s.size := by omega
    have hl : s.data.toList.length = s.size := by rw [Array.length_toList]; rfl
    have h0' : 0 < s.data.toList.length := by omega
    have hq : s.data.toList[0] = s[0] := rfl
    by_cases h1 : ((s[0].toNat : Int) == 43) = true
    · refine (number_sign s _ rfl w hs hp (.inl h1)).mono fun e w' ⟨he, hw⟩ => ⟨he.trans (ret_bool ?_), hw⟩
      refine (numB_sign _ h0' ?_).symm
      left
      rw [hq]
      exact UInt8.toNat_inj.1 (by have := beq_iff_eq.1 h1; have e : (43 : UInt8).toNat = 43 := rfl; omega)
    · by_cases h2 : ((s[0].toNat : Int) == 45) = true
      · refine (number_sign s _ rfl w hs hp (.inr ⟨by simpa using h1, h2⟩)).mono fun e w' ⟨he, hw⟩ => ⟨he.trans (ret_bool ?_), hw⟩
        refine (numB_sign _ h0' ?_).symm
        right
        rw [hq]
        exact UInt8.toNat_inj.1 (by have := beq_iff_eq.1 h2; have e : (45 : UInt8).toNat = 45 := rfl; omega)
      · refine (number_plain s w hs hp (by simpa using h1) (by simpa using h2)).mono fun e w' ⟨he, hw⟩ => ⟨he.trans (ret_bool ?_), hw⟩
        refine (numB_plain _ h0' ?_).symm
        rw [hq]
        rintro (h | h)
        · exact h1 (by rw [h]; rfl)
        · exact h2 (by rw [h]; rfl)
end Go.Proofs.YtphgcdmjnmopiaaDoor
