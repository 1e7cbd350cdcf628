/-
Contracts of package word's small functions (Int, Place, Const, Symbol, Head, Tag, Value) and of the document's answers Make, Head, Tag, Value, Is: what each returns, for every number within its own bounds, without touching memory.
-/
import Derived.Test.YthilplfoodlebaaRows
import Derived.WalkKit
import Derived.ProofKit
import Derived.OpenShut
namespace Go.Proofs.Ythilplfoodlebaa
open Go.ChangeShapes Go.WideShapes Go.ChangeAt Go.RowKit

theorem ret_int {k : IntKind} {a b : Int} (h : a = b) : Ending.returned (.int k a) = .returned (.int k b) := by rw [h]
theorem ret_ints {k l : IntKind} {a b c d : Int} (h : a = b) (g : c = d) : Ending.returned (.tuple #[.int k a, .int l c]) = .returned (.tuple #[.int k b, .int l d]) := by rw [h, g]
theorem ret_bool {a b : Bool} (h : a = b) : Ending.returned (.bool a) = .returned (.bool b) := by rw [h]

theorem and7 (n : Int) : bits .and .i64 n 7 = n % 8 := by
  have h7 : (BitVec.ofInt 64 7).toNat = 2 ^ 3 - 1 := by decide
  have key : (BitVec.ofInt 64 n &&& BitVec.ofInt 64 7).toNat = (n % ((2 ^ 64 : Nat) : Int)).toNat % 2 ^ 3 := by
    rw [BitVec.toNat_and, BitVec.toNat_ofInt, h7, Nat.and_two_pow_sub_one_eq_mod]
  show IntKind.i64.wrap ((BitVec.ofInt 64 n &&& BitVec.ofInt 64 7).toNat : Nat) = n % 8
  rw [key, IntKind.wrap_i64]
  omega

theorem tag_any (a : Int) (w : World) :
    Calls Try.prog 18 #[.int .i64 a] w fun e w' => e = .returned (.int .i64 (a % 8)) ∧ w = w' := by
  go_enter Try.func18, Try.ntmps18
  go_wp2
  go_ret
  exact ⟨ret_int (and7 a), rfl⟩
theorem value_any (a : Int) (w : World) :
    Calls Try.prog 20 #[.int .i64 a] w fun e w' => e = .returned (.int .i64 (a / 8)) ∧ w = w' := by
  go_enter Try.func20, Try.ntmps20
  go_wp2
  go_ret
  exact ⟨rfl, rfl⟩
theorem join_any (t a : Int) (w : World) (h0 : -1152921504606846976 ≤ a) (h1 : a ≤ 1152921504606846975) (h2 : 0 ≤ t) (h3 : t ≤ 7) :
    Calls Try.prog 27 #[.int .i64 t, .int .i64 a] w fun e w' => e = .returned (.int .i64 (8 * a + t)) ∧ w = w' := by
  go_enter Try.func27, Try.ntmps27
  go_wp2
  go_ret
  exact ⟨ret_int (by omega), rfl⟩
theorem tmod8 (a : Int) : a.tmod 8 = a % 8 - (if 0 ≤ a ∨ a % 8 = 0 then 0 else 8) := by
  have h1 := @Int.tmod_eq_emod a 8
  have h3 : ((8 : Int).natAbs : Int) = 8 := rfl
  split at h1 <;> split <;> simp only [h3, Int.natCast_zero] at h1 <;> omega
theorem tdiv8 (a : Int) : 8 * a.tdiv 8 + a.tmod 8 = a := Int.mul_tdiv_add_tmod a 8
theorem tmod_neg (a : Int) (h : a.tmod 8 < 0) : wrap64 (a.tmod 8 + 8) = a % 8 := by
  have h1 := tmod8 a
  rw [IntWalk.wrap64_in _ (by omega)]
  split at h1 <;> omega
theorem tmod_pos (a : Int) (h : 0 ≤ a.tmod 8) : a.tmod 8 = a % 8 := by
  have h1 := tmod8 a
  split at h1 <;> omega
theorem tdiv_pos (a : Int) (h : 0 ≤ a.tmod 8) : a.tdiv 8 = a / 8 := by
  have h1 := tmod_pos a h
  have h2 := tdiv8 a
  omega
theorem tdiv_neg (a : Int) (h : a.tmod 8 < 0) (l : -9223372036854775808 ≤ a) (u : a ≤ 9223372036854775807) : wrap64 (a.tdiv 8 - 1) = a / 8 := by
  have h1 := tmod8 a
  have h2 := tdiv8 a
  rw [IntWalk.wrap64_in _ (by split at h1 <;> omega)]
  split at h1 <;> omega
theorem rtag_any (a : Int) (w : World) :
    Calls Try.prog 19 #[.int .i64 a] w fun e w' => e = .returned (.int .i64 (a % 8)) ∧ w = w' := by
  go_enter Try.func19, Try.ntmps19
  go_wp2
  all_goals go_ret
  · exact ⟨ret_int (tmod_neg a ‹_›), rfl⟩
  · exact ⟨ret_int (tmod_pos a ‹_›), rfl⟩
theorem rvalue_any (a : Int) (w : World) (h0 : -9223372036854775808 ≤ a) (h1 : a ≤ 9223372036854775807) :
    Calls Try.prog 21 #[.int .i64 a] w fun e w' => e = .returned (.int .i64 (a / 8)) ∧ w = w' := by
  go_enter Try.func21, Try.ntmps21
  go_wp2
  all_goals go_ret
  · exact ⟨ret_int (tdiv_neg a ‹_› h0 h1), rfl⟩
  · exact ⟨ret_int (tdiv_pos a ‹_›), rfl⟩
theorem int_ok (n : Int) (w : World) (h0 : -1152921504606846976 ≤ n) (h1 : n ≤ 1152921504606846975) :
    Calls Try.prog 10 #[.int .i64 n] w fun e w' => e = .returned (.tuple #[.int .i64 (8 * n), .int .i64 0]) ∧ w = w' := by
  go_enter Try.func10, Try.ntmps10
  go_wp2_with (go_at_call 27; refine (join_any _ _ _ h0 h1 (by omega) (by omega)).mono ?_; rintro e w' ⟨rfl, rfl⟩)
  go_ret2
  exact ⟨ret_ints (by omega) rfl, rfl⟩
theorem int_no (n : Int) (w : World) (h : n < -1152921504606846976 ∨ 1152921504606846975 < n) :
    Calls Try.prog 10 #[.int .i64 n] w fun e w' => e = .returned (.tuple #[.int .i64 0, .int .i64 10]) ∧ w = w' := by
  rcases h with h | h
  · go_enter Try.func10, Try.ntmps10
    go_wp2_with fail
    go_ret2
    exact ⟨rfl, rfl⟩
  · have h' : ¬ n < -1152921504606846976 := by omega
    go_enter Try.func10, Try.ntmps10
    go_wp2_with fail
    go_ret2
    exact ⟨rfl, rfl⟩

theorem counted_ok (t n : Int) (w : World) (h0 : 0 ≤ n) (h1 : n ≤ 1152921504606846975) (h2 : 0 ≤ t) (h3 : t ≤ 7) :
    Calls Try.prog 28 #[.int .i64 t, .int .i64 n] w fun e w' => e = .returned (.tuple #[.int .i64 (8 * n + t), .int .i64 0]) ∧ w = w' := by
  go_enter Try.func28, Try.ntmps28
  go_wp2_with (go_at_call 27; refine (join_any _ _ _ (by omega) h1 h2 h3).mono ?_; rintro e w' ⟨rfl, rfl⟩)
  go_ret2
  exact ⟨rfl, rfl⟩
theorem counted_no (t n : Int) (w : World) (h : n < 0 ∨ 1152921504606846975 < n) :
    Calls Try.prog 28 #[.int .i64 t, .int .i64 n] w fun e w' => e = .returned (.tuple #[.int .i64 0, .int .i64 1]) ∧ w = w' := by
  rcases h with h | h
  · go_enter Try.func28, Try.ntmps28
    go_wp2_with fail
    go_ret2
    exact ⟨rfl, rfl⟩
  · have h' : ¬ n < 0 := by omega
    go_enter Try.func28, Try.ntmps28
    go_wp2_with fail
    go_ret2
    exact ⟨rfl, rfl⟩
theorem place_ok (n : Int) (w : World) (h0 : 0 ≤ n) (h1 : n ≤ 1152921504606846975) :
    Calls Try.prog 11 #[.int .i64 n] w fun e w' => e = .returned (.tuple #[.int .i64 (8 * n + 1), .int .i64 0]) ∧ w = w' := by
  go_enter Try.func11, Try.ntmps11
  go_wp2_with (go_at_call 28; refine (counted_ok _ _ _ h0 h1 (by omega) (by omega)).mono ?_; rintro e w' ⟨rfl, rfl⟩)
  go_ret2
  exact ⟨rfl, rfl⟩
theorem place_no (n : Int) (w : World) (h : n < 0 ∨ 1152921504606846975 < n) :
    Calls Try.prog 11 #[.int .i64 n] w fun e w' => e = .returned (.tuple #[.int .i64 0, .int .i64 1]) ∧ w = w' := by
  go_enter Try.func11, Try.ntmps11
  go_wp2_with (go_at_call 28; refine (counted_no _ _ _ h).mono ?_; rintro e w' ⟨rfl, rfl⟩)
  go_ret2
  exact ⟨rfl, rfl⟩
theorem const_ok (n : Int) (w : World) (h0 : 0 ≤ n) (h1 : n ≤ 1152921504606846975) :
    Calls Try.prog 12 #[.int .i64 n] w fun e w' => e = .returned (.tuple #[.int .i64 (8 * n + 2), .int .i64 0]) ∧ w = w' := by
  go_enter Try.func12, Try.ntmps12
  go_wp2_with (go_at_call 28; refine (counted_ok _ _ _ h0 h1 (by omega) (by omega)).mono ?_; rintro e w' ⟨rfl, rfl⟩)
  go_ret2
  exact ⟨rfl, rfl⟩
theorem const_no (n : Int) (w : World) (h : n < 0 ∨ 1152921504606846975 < n) :
    Calls Try.prog 12 #[.int .i64 n] w fun e w' => e = .returned (.tuple #[.int .i64 0, .int .i64 1]) ∧ w = w' := by
  go_enter Try.func12, Try.ntmps12
  go_wp2_with (go_at_call 28; refine (counted_no _ _ _ h).mono ?_; rintro e w' ⟨rfl, rfl⟩)
  go_ret2
  exact ⟨rfl, rfl⟩
theorem symbol_ok (n : Int) (w : World) (h0 : 0 ≤ n) (h1 : n ≤ 1152921504606846975) :
    Calls Try.prog 13 #[.int .i64 n] w fun e w' => e = .returned (.tuple #[.int .i64 (8 * n + 3), .int .i64 0]) ∧ w = w' := by
  go_enter Try.func13, Try.ntmps13
  go_wp2_with (go_at_call 28; refine (counted_ok _ _ _ h0 h1 (by omega) (by omega)).mono ?_; rintro e w' ⟨rfl, rfl⟩)
  go_ret2
  exact ⟨rfl, rfl⟩
theorem symbol_no (n : Int) (w : World) (h : n < 0 ∨ 1152921504606846975 < n) :
    Calls Try.prog 13 #[.int .i64 n] w fun e w' => e = .returned (.tuple #[.int .i64 0, .int .i64 1]) ∧ w = w' := by
  go_enter Try.func13, Try.ntmps13
  go_wp2_with (go_at_call 28; refine (counted_no _ _ _ h).mono ?_; rintro e w' ⟨rfl, rfl⟩)
  go_ret2
  exact ⟨rfl, rfl⟩
theorem head_ok (k n : Int) (w : World) (h0 : 0 ≤ k) (h1 : k ≤ 7) (h2 : 0 ≤ n) (h3 : n ≤ 1099511627776) :
    Calls Try.prog 14 #[.int .i64 k, .int .i64 n] w fun e w' => e = .returned (.tuple #[.int .i64 (8 * (8 * n + k) + 7), .int .i64 0]) ∧ w = w' := by
  go_enter Try.func14, Try.ntmps14
  go_wp2_with (go_at_call 27; refine (join_any _ _ _ (by omega) (by omega) (by omega) (by omega)).mono ?_; rintro e w' ⟨rfl, rfl⟩)
  go_ret2
  exact ⟨ret_ints (by omega) rfl, rfl⟩
theorem head_no (k n : Int) (w : World) (h : k < 0 ∨ 7 < k ∨ n < 0 ∨ 1099511627776 < n) :
    Calls Try.prog 14 #[.int .i64 k, .int .i64 n] w fun e w' => e = .returned (.tuple #[.int .i64 0, .int .i64 1]) ∧ w = w' := by
  by_cases a : k < 0 <;> by_cases b : 7 < k <;> by_cases c : n < 0 <;> by_cases d : 1099511627776 < n
  all_goals first | (exfalso; omega) | skip
  all_goals
    clear h
    go_enter Try.func14, Try.ntmps14
    go_wp2_with fail
    go_ret2
    exact ⟨rfl, rfl⟩
theorem rmake_ok (t n : Int) (w : World) (h0 : 0 ≤ n) (h1 : n ≤ 1152921504606846975) (h2 : 1 ≤ t) (h3 : t ≤ 7) :
    Calls Try.prog 15 #[.int .i64 t, .int .i64 n] w fun e w' => e = .returned (.tuple #[.int .i64 (8 * n + t), .int .i64 0]) ∧ w = w' := by
  go_enter Try.func15, Try.ntmps15
  go_wp2_with fail
  go_ret2
  exact ⟨rfl, rfl⟩
theorem rmake_no (t n : Int) (w : World) (h : n < 0 ∨ 1152921504606846975 < n) (h2 : 1 ≤ t) (h3 : t ≤ 7) :
    Calls Try.prog 15 #[.int .i64 t, .int .i64 n] w fun e w' => e = .returned (.tuple #[.int .i64 0, .int .i64 1]) ∧ w = w' := by
  by_cases a : n < 0 <;> by_cases b : 1152921504606846975 < n
  all_goals first | (exfalso; omega) | skip
  all_goals
    clear h
    go_enter Try.func15, Try.ntmps15
    go_wp2_with fail
    go_ret2
    exact ⟨rfl, rfl⟩
theorem rmake0_ok (n : Int) (w : World) (h0 : -1152921504606846976 ≤ n) (h1 : n ≤ 1152921504606846975) :
    Calls Try.prog 15 #[.int .i64 0, .int .i64 n] w fun e w' => e = .returned (.tuple #[.int .i64 (8 * n), .int .i64 0]) ∧ w = w' := by
  go_enter Try.func15, Try.ntmps15
  go_wp2_with fail
  go_ret2
  exact ⟨rfl, rfl⟩
theorem rmake0_no (n : Int) (w : World) (h : n < -1152921504606846976 ∨ 1152921504606846975 < n) :
    Calls Try.prog 15 #[.int .i64 0, .int .i64 n] w fun e w' => e = .returned (.tuple #[.int .i64 0, .int .i64 10]) ∧ w = w' := by
  by_cases a : n < -1152921504606846976 <;> by_cases b : 1152921504606846975 < n
  all_goals first | (exfalso; omega) | skip
  all_goals
    clear h
    go_enter Try.func15, Try.ntmps15
    go_wp2_with fail
    go_ret2
    exact ⟨rfl, rfl⟩
theorem rhead_ok (k n : Int) (w : World) (h0 : 0 ≤ k) (h1 : k ≤ 7) (h2 : 0 ≤ n) (h3 : n ≤ 1099511627776) :
    Calls Try.prog 17 #[.int .i64 k, .int .i64 n] w fun e w' => e = .returned (.tuple #[.int .i64 (8 * (8 * n + k) + 7), .int .i64 0]) ∧ w = w' := by
  go_enter Try.func17, Try.ntmps17
  go_wp2_with fail
  go_ret2
  exact ⟨rfl, rfl⟩
theorem rhead_no (k n : Int) (w : World) (h : k < 0 ∨ 7 < k ∨ n < 0 ∨ 1099511627776 < n) :
    Calls Try.prog 17 #[.int .i64 k, .int .i64 n] w fun e w' => e = .returned (.tuple #[.int .i64 0, .int .i64 1]) ∧ w = w' := by
  by_cases a : k < 0 <;> by_cases b : 7 < k <;> by_cases c : n < 0 <;> by_cases d : 1099511627776 < n
  all_goals first | (exfalso; omega) | skip
  all_goals
    clear h
    go_enter Try.func17, Try.ntmps17
    go_wp2_with fail
    go_ret2
    exact ⟨rfl, rfl⟩
theorem ris_yes (n : Int) (w : World) (h0 : -1152921504606846976 ≤ n) (h1 : n ≤ 1152921504606846975) :
    Calls Try.prog 26 #[.int .i64 n] w fun e w' => e = .returned (.bool true) ∧ w = w' := by
  go_enter Try.func26, Try.ntmps26
  go_wp2_with fail
  go_ret
  exact ⟨rfl, rfl⟩
theorem ris_no (n : Int) (w : World) (h : n < -1152921504606846976 ∨ 1152921504606846975 < n) :
    Calls Try.prog 26 #[.int .i64 n] w fun e w' => e = .returned (.bool false) ∧ w = w' := by
  by_cases a : -1152921504606846976 ≤ n <;> by_cases b : n ≤ 1152921504606846975
  all_goals first | (exfalso; omega) | skip
  all_goals
    clear h
    go_enter Try.func26, Try.ntmps26
    go_wp2_with fail
    go_ret
    exact ⟨rfl, rfl⟩
end Go.Proofs.Ythilplfoodlebaa
