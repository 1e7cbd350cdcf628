/-
Texts D6b, D9, D12, one behind the other (a claim bears sixty files). Conditions: as each says.
-/
import Derived.Test.YtpejhilfopjckaaDoorWN
import Derived.Test.YtpejhilfopjckaaDoorWD

/-
The document's Name: what it returns, for every string. No condition.
-/
namespace Go.Proofs.YtpejhilfopjckaaDoor
open Go.ChangeShapes Go.WideShapes Go.ChangeAt Go.RowKit
set_option maxRecDepth 100000


/-! ### the document's -/
theorem rname_loop (s : ByteArray) (w : World) (hs : s.size ≤ maxLen) (h0 : 0 < s.size) (h1 : s.size ≤ 64) (h2 : ¬ s.data.toList = [46]) (h3 : numB s.data.toList = false) :
    Calls Tryd.prog 45 #[.string s] w fun e w' => e = .returned (.bool (bytesB s.data.toList)) ∧ w = w' := by
  have C := fun W => number_any s W hs
  rw [h3] at C
  have HN3 := Lib.hid C
  clear C h3
  unfold maxLen at hs
  rw [← ByteArray.toList_eq] at h2
  have HL := Lib.hid (len_data s)
  have h1' : (s.size : Int) ≤ 64 := by omega
  have h0' : (1 : Int) ≤ s.size := by omega
  have e1 : decide (64 < (s.size : Int)) = false := by simpa using h1'
  have e2 : (s.toList == [46]) = false := by simpa using h2
  go_enter Tryd.func45, Tryd.ntmps45
  go_wp2_with (go_at_call 68; ((with_reducible refine (HN3.out _).mono ?_); rintro e w' ⟨rfl, rfl⟩))
  go_loop [3] (fun i => ∃ k : Nat, k ≤ s.size ∧ i = .int .i64 k ∧ (s.data.toList.take k).all nby8 = true) (fun i => s.size - (intOf i).toNat)
  case atStart => exact ⟨0, Nat.zero_le _, rfl, rfl⟩
  case round =>
    obtain ⟨k, hk, rfl, hn⟩ := hrel
    by_cases hlt : k < s.size
    · have ht := all_take_succ s.data.toList nby8 k (by rw [HL.out]; exact hlt)
      rw [hn, Bool.true_and] at ht
      have HT := Lib.hid ht
      have HN := Lib.hid hn
      clear hn ht
      by_cases hc : nbyB s[k].toNat = true
      · have C := fun W => rbyte_any s[k].toNat W
        rw [hc] at C
        have H := Lib.hid C
        have HC := Lib.hid hc
        clear C hc
        go_wp2_with (go_at_call 69; ((with_reducible refine (H.out _).mono ?_); rintro e w' ⟨rfl, rfl⟩))
        go_round
        case rel => exact ⟨k + 1, by omega, by go_num, HT.out.trans HC.out⟩
        case measure => simp [intOf]; omega
      · have hc' : nbyB s[k].toNat = false := by simpa using hc
        have C := fun W => rbyte_any s[k].toNat W
        rw [hc'] at C
        have H := Lib.hid C
        have HC := Lib.hid hc'
        clear C hc hc'
        go_wp2_with (go_at_call 69; ((with_reducible refine (H.out _).mono ?_); rintro e w' ⟨rfl, rfl⟩))
        go_ret
        exact ⟨ret_bool (all_of_not k (by rw [HL.out]; exact hlt) HC.out).symm, rfl⟩
    · obtain rfl : k = s.size := by omega
      have HN := Lib.hid hn
      clear hn
      go_wp2
      go_ret
      refine ⟨ret_bool ?_, rfl⟩
      have := HN.out
      rw [List.take_of_length_le (by rw [HL.out]; omega)] at this
      exact this.symm

theorem rname_not (s : ByteArray) (w : World) (hs : s.size ≤ maxLen) (h : s.size = 0 ∨ 64 < s.size ∨ 0 < s.size ∧ s.size ≤ 64 ∧ (s.data.toList = [46] ∨ ¬ s.data.toList = [46] ∧ numB s.data.toList = true)) :
    Calls Tryd.prog 45 #[.string s] w fun e w' => e = .returned (.bool false) ∧ w = w' := by
  rcases h with h | h | ⟨h0, h1, h2 | ⟨h2, h3⟩⟩
  · obtain ⟨⟨l⟩⟩ := s
    obtain rfl : l = [] := List.length_eq_zero_iff.1 h
    clear hs h
    go_enter Tryd.func45, Tryd.ntmps45
    go_wp2
    go_ret
    exact ⟨rfl, rfl⟩
  · unfold maxLen at hs
    have h1' : (64 : Int) < (s.size : Int) := by omega
    have h0' : (1 : Int) ≤ s.size := by omega
    go_enter Tryd.func45, Tryd.ntmps45
    go_wp2
    go_ret
    exact ⟨rfl, rfl⟩
  · unfold maxLen at hs
    rw [← ByteArray.toList_eq] at h2
    have h1' : (s.size : Int) ≤ 64 := by omega
    have h0' : (1 : Int) ≤ s.size := by omega
    go_enter Tryd.func45, Tryd.ntmps45
    go_wp2
    go_ret
    exact ⟨rfl, rfl⟩
  · have C := fun W => number_any s W hs
    rw [h3] at C
    have HN3 := Lib.hid C
    clear C h3
    unfold maxLen at hs
    rw [← ByteArray.toList_eq] at h2
    have h1' : (s.size : Int) ≤ 64 := by omega
    have h0' : (1 : Int) ≤ s.size := by omega
    go_enter Tryd.func45, Tryd.ntmps45
    go_wp2_with (go_at_call 68; ((with_reducible refine (HN3.out _).mono ?_); rintro e w' ⟨rfl, rfl⟩))
    go_ret
    exact ⟨rfl, rfl⟩

theorem rname_any (s : ByteArray) (w : World) (hs : s.size ≤ maxLen) :
    Calls Tryd.prog 45 #[.string s] w fun e w' => e = .returned (.bool (nameB s.data.toList)) ∧ w = w' := by
  rcases name_ways s with h | ⟨h0, h1, h2, h3⟩
  · rw [nameB_not s h]; exact rname_not s w hs h
  · rw [nameB_loop s h0 h1 h2 h3]; exact rname_loop s w hs h0 h1 h2 h3
end Go.Proofs.YtpejhilfopjckaaDoor

/-
Which fields a datum may have, itself: the document's form and Nested, for every datum. No condition.
-/
namespace Go.Proofs.YtpejhilfopjckaaDoor.Dat
open Go.ChangeShapes Go.WideShapes Go.ChangeAt Go.RowKit
set_option maxRecDepth 100000

end Go.Proofs.YtpejhilfopjckaaDoor.Dat

/-
What is wrong first in a datum: the document's Check, for every datum. No condition.
-/
namespace Go.Proofs.YtpejhilfopjckaaDoor.Dat
open Go.ChangeShapes Go.WideShapes Go.ChangeAt Go.RowKit
set_option maxRecDepth 100000

end Go.Proofs.YtpejhilfopjckaaDoor.Dat
