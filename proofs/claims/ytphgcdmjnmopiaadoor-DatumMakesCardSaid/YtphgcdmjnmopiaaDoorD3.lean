/-
Contracts of what tells names, the second part: the document's bytes, numerals, names, and package data's: what each returns, for every byte and every string. No condition.
-/
import Derived.Test.YtphgcdmjnmopiaaDoorD2
namespace Go.Proofs.YtphgcdmjnmopiaaDoor
open Go.ChangeShapes Go.WideShapes Go.ChangeAt Go.RowKit

theorem any_take_succ {α : Type} (l : List α) (p : α → Bool) (k : Nat) (h : k < l.length) : (l.take (k + 1)).any p = ((l.take k).any p || p l[k]) := by
  rw [List.take_succ_eq_append_getElem h, List.any_append]; simp
theorem all_take_succ {α : Type} (l : List α) (p : α → Bool) (k : Nat) (h : k < l.length) : (l.take (k + 1)).all p = ((l.take k).all p && p l[k]) := by
  rw [List.take_succ_eq_append_getElem h, List.all_append]; simp
theorem marks_len : marks.length = 18 := rfl

theorem rbyte_no (c : Int) (w : World) (hdig : digB c = false) (hl : c < 97 ∨ 122 < c) (hu : c < 65 ∨ 90 < c) : Calls Tryd.prog 30 #[.int .u8 c] w fun e w' => e = .returned (.bool (markB c)) ∧ w = w' := by
  have C := rdigit_any c
  rw [hdig] at C
  have H := Lib.hid C
  clear C
  by_cases l1 : 97 ≤ c <;> by_cases l2 : c ≤ 122 <;> by_cases u1 : 65 ≤ c <;> by_cases u2 : c ≤ 90 <;> try omega
  all_goals
    go_enter Tryd.func30, Tryd.ntmps30
    go_wp2_with (go_at_call 47; ((with_reducible refine (H.out _).mono ?_); rintro e w' ⟨rfl, rfl⟩))
    go_loop [4] (fun i => ∃ k : Nat, k ≤ 18 ∧ i = .int .i64 k ∧ (marks.take k).any (fun m => (m.toNat : Int) == c) = false) (fun i => 18 - (intOf i).toNat)
    case atStart => exact ⟨0, Nat.zero_le _, rfl, rfl⟩
    case round =>
      obtain ⟨k, hk, rfl, hn⟩ := hrel
      by_cases hlt : k < 18
      · have ht := any_take_succ marks (fun m => (m.toNat : Int) == c) k hlt
        rw [hn, Bool.false_or] at ht
        have HT := Lib.hid ht
        clear ht
        have HN := Lib.hid hn
        clear hn
        by_cases hc : ((({ data := #[33, 36, 37, 38, 42, 47, 58, 60, 61, 62, 63, 94, 95, 126, 43, 45, 46, 64] } : ByteArray)[k]).toNat : Int) == c
        · go_wp2
          go_ret
          exact ⟨ret_bool (List.any_eq_true.2 ⟨marks[k], List.getElem_mem _, hc⟩).symm, rfl⟩
        · have hc' : (((({ data := #[33, 36, 37, 38, 42, 47, 58, 60, 61, 62, 63, 94, 95, 126, 43, 45, 46, 64] } : ByteArray)[k]).toNat : Int) == c) = false := by simpa using hc
          go_wp2
          go_round
          case rel => exact ⟨k + 1, by omega, by go_num, HT.out.trans hc'⟩
          case measure => simp [intOf]; omega
      · obtain rfl : k = 18 := by omega
        have HN := Lib.hid hn
        clear hn
        go_wp2
        go_ret
        exact ⟨ret_bool HN.out.symm, rfl⟩

/-- Two ways: digits and letters are told at once. -/
theorem rbyte_yes (c : Int) (w : World) (hy : digB c = true ∨ 97 ≤ c ∧ c ≤ 122 ∨ 65 ≤ c ∧ c ≤ 90) : Calls Tryd.prog 30 #[.int .u8 c] w fun e w' => e = .returned (.bool true) ∧ w = w' := by
  by_cases hd : digB c = true
  · have C := rdigit_any c
    rw [hd] at C
    have H := Lib.hid C
    clear C hd hy
    go_enter Tryd.func30, Tryd.ntmps30
    go_wp2_with (go_at_call 47; ((with_reducible refine (H.out _).mono ?_); rintro e w' ⟨rfl, rfl⟩))
    go_ret
    exact ⟨rfl, rfl⟩
  · have hy' : 97 ≤ c ∧ c ≤ 122 ∨ 65 ≤ c ∧ c ≤ 90 := hy.resolve_left hd
    have hd' : digB c = false := by simpa using hd
    have C := rdigit_any c
    rw [hd'] at C
    have H := Lib.hid C
    clear C hd hy hd'
    rcases hy' with ⟨l1, l2⟩ | ⟨u1, u2⟩
    · go_enter Tryd.func30, Tryd.ntmps30
      go_wp2_with (go_at_call 47; ((with_reducible refine (H.out _).mono ?_); rintro e w' ⟨rfl, rfl⟩))
      go_ret
      exact ⟨rfl, rfl⟩
    · have l1 : ¬ 97 ≤ c := by omega
      go_enter Tryd.func30, Tryd.ntmps30
      go_wp2_with (go_at_call 47; ((with_reducible refine (H.out _).mono ?_); rintro e w' ⟨rfl, rfl⟩))
      go_ret
      exact ⟨rfl, rfl⟩

theorem rbyte_any (c : Int) (w : World) : Calls Tryd.prog 30 #[.int .u8 c] w fun e w' => e = .returned (.bool (nbyB c)) ∧ w = w' := by
  by_cases hy : digB c = true ∨ 97 ≤ c ∧ c ≤ 122 ∨ 65 ≤ c ∧ c ≤ 90
  · refine (rbyte_yes c w hy).mono fun e w' ⟨he, hw⟩ => ⟨he.trans (ret_bool ?_), hw⟩
    rcases hy with h | h | h <;> simp [nbyB, h]
  · have hd : digB c = false := by simpa using fun h => hy (.inl h)
    refine (rbyte_no c w hd (by omega) (by omega)).mono fun e w' ⟨he, hw⟩ => ⟨he.trans (ret_bool ?_), hw⟩
    have a : ¬ (97 ≤ c ∧ c ≤ 122) := by omega
    have b : ¬ (65 ≤ c ∧ c ≤ 90) := by omega
    have a' : (decide (97 ≤ c) && decide (c ≤ 122)) = false := by simpa using a
    have b' : (decide (65 ≤ c) && decide (c ≤ 90)) = false := by simpa using b
    simp [nbyB, hd, a', b']
end Go.Proofs.YtphgcdmjnmopiaaDoor
