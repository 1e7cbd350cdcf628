/-
Contracts of the words of counts and heads, and of the law's own 'made', told by one relation each.
-/
import Derived.Test.YthilplfoodlebaaTry4
import Derived.Test.YthilplfoodlebaaTry5
namespace Go.Proofs.Ythilplfoodlebaa
open Go.ChangeShapes Go.WideShapes Go.ChangeAt Go.RowKit
/-- A word r and an error c tell a count n with a tag, or that it is none. -/
def cntAns (t n r c : Int) : Prop := (0 ≤ n ∧ n ≤ 1152921504606846975 ∧ r = 8 * n + t ∧ c = 0) ∨ ((n < 0 ∨ 1152921504606846975 < n) ∧ r = 0 ∧ c = 1)
theorem cntAns_some (t n : Int) : ∃ r c, cntAns t n r c := by
  by_cases h : 0 ≤ n ∧ n ≤ 1152921504606846975
  · exact ⟨_, _, Or.inl ⟨h.1, h.2, rfl, rfl⟩⟩
  · exact ⟨_, _, Or.inr ⟨by omega, rfl, rfl⟩⟩
def headAns (k n r c : Int) : Prop := ((0 ≤ k ∧ k ≤ 7 ∧ 0 ≤ n ∧ n ≤ 1099511627776) ∧ r = 8 * (8 * n + k) + 7 ∧ c = 0) ∨ ((k < 0 ∨ 7 < k ∨ n < 0 ∨ 1099511627776 < n) ∧ r = 0 ∧ c = 1)
theorem headAns_some (k n : Int) : ∃ r c, headAns k n r c := by
  by_cases h : 0 ≤ k ∧ k ≤ 7 ∧ 0 ≤ n ∧ n ≤ 1099511627776
  · exact ⟨_, _, Or.inl ⟨h, rfl, rfl⟩⟩
  · exact ⟨_, _, Or.inr ⟨by omega, rfl, rfl⟩⟩
theorem place_is (n r c : Int) (w : World) (h : cntAns 1 n r c) :
    Calls Try.prog 11 #[.int .i64 n] w fun e w' => e = .returned (.tuple #[.int .i64 r, .int .i64 c]) ∧ w = w' := by
  rcases h with ⟨h, g, rfl, rfl⟩ | ⟨h, rfl, rfl⟩
  · exact place_ok n w h g
  · exact place_no n w h
theorem const_is (n r c : Int) (w : World) (h : cntAns 2 n r c) :
    Calls Try.prog 12 #[.int .i64 n] w fun e w' => e = .returned (.tuple #[.int .i64 r, .int .i64 c]) ∧ w = w' := by
  rcases h with ⟨h, g, rfl, rfl⟩ | ⟨h, rfl, rfl⟩
  · exact const_ok n w h g
  · exact const_no n w h
theorem symbol_is (n r c : Int) (w : World) (h : cntAns 3 n r c) :
    Calls Try.prog 13 #[.int .i64 n] w fun e w' => e = .returned (.tuple #[.int .i64 r, .int .i64 c]) ∧ w = w' := by
  rcases h with ⟨h, g, rfl, rfl⟩ | ⟨h, rfl, rfl⟩
  · exact symbol_ok n w h g
  · exact symbol_no n w h
theorem head_is (k n r c : Int) (w : World) (h : headAns k n r c) :
    Calls Try.prog 14 #[.int .i64 k, .int .i64 n] w fun e w' => e = .returned (.tuple #[.int .i64 r, .int .i64 c]) ∧ w = w' := by
  rcases h with ⟨⟨h1, h2, h3, h4⟩, rfl, rfl⟩ | ⟨h, rfl, rfl⟩
  · exact head_ok k n w h1 h2 h3 h4
  · exact head_no k n w h
theorem rhead_is (k n r c : Int) (w : World) (h : headAns k n r c) :
    Calls Try.prog 17 #[.int .i64 k, .int .i64 n] w fun e w' => e = .returned (.tuple #[.int .i64 r, .int .i64 c]) ∧ w = w' := by
  rcases h with ⟨⟨h1, h2, h3, h4⟩, rfl, rfl⟩ | ⟨h, rfl, rfl⟩
  · exact rhead_ok k n w h1 h2 h3 h4
  · exact rhead_no k n w h
theorem rmake0_is (n r c : Int) (w : World) (h : isAns n r c) :
    Calls Try.prog 15 #[.int .i64 0, .int .i64 n] w fun e w' => e = .returned (.tuple #[.int .i64 r, .int .i64 c]) ∧ w = w' := by
  rcases h with ⟨h, rfl, rfl⟩ | ⟨h, rfl, rfl⟩
  · exact rmake0_ok n w h.1 h.2
  · exact rmake0_no n w (not_num h)
theorem rmake_is (t n r c : Int) (w : World) (h1 : 1 ≤ t) (h7 : t ≤ 7) (h : cntAns t n r c) :
    Calls Try.prog 15 #[.int .i64 t, .int .i64 n] w fun e w' => e = .returned (.tuple #[.int .i64 r, .int .i64 c]) ∧ w = w' := by
  rcases h with ⟨h, g, rfl, rfl⟩ | ⟨h, rfl, rfl⟩
  · exact rmake_ok t n w h g h1 h7
  · exact rmake_no t n w h h1 h7
theorem bounds_of (a : Int) (h : (Lit.int .i64 a).wf = true) : -9223372036854775808 ≤ a ∧ a ≤ 9223372036854775807 := by
  exact bounds_i64 h
theorem made_0 (n r c : Int) (w : World) (h : isAns n r c) :
    Calls Try.prog 25 #[.int .i64 0, .int .i64 n] w fun e w' => e = .returned (.tuple #[.int .i64 r, .int .i64 c]) ∧ w = w' := by
  go_enter Try.func25, Try.ntmps25
  go_wp2_with (go_at_call 10; ((with_reducible refine (int_is _ _ _ _ h).mono ?_); rintro e w' ⟨rfl, rfl⟩))
  go_ret2
  exact ⟨rfl, rfl⟩
theorem made_1 (n r c : Int) (w : World) (h : cntAns 1 n r c) :
    Calls Try.prog 25 #[.int .i64 1, .int .i64 n] w fun e w' => e = .returned (.tuple #[.int .i64 r, .int .i64 c]) ∧ w = w' := by
  go_enter Try.func25, Try.ntmps25
  go_wp2_with (go_at_call 11; ((with_reducible refine (place_is _ _ _ _ h).mono ?_); rintro e w' ⟨rfl, rfl⟩))
  go_ret2
  exact ⟨rfl, rfl⟩
theorem made_2 (n r c : Int) (w : World) (h : cntAns 2 n r c) :
    Calls Try.prog 25 #[.int .i64 2, .int .i64 n] w fun e w' => e = .returned (.tuple #[.int .i64 r, .int .i64 c]) ∧ w = w' := by
  go_enter Try.func25, Try.ntmps25
  go_wp2_with (go_at_call 12; ((with_reducible refine (const_is _ _ _ _ h).mono ?_); rintro e w' ⟨rfl, rfl⟩))
  go_ret2
  exact ⟨rfl, rfl⟩
theorem made_3 (n r c : Int) (w : World) (h : cntAns 3 n r c) :
    Calls Try.prog 25 #[.int .i64 3, .int .i64 n] w fun e w' => e = .returned (.tuple #[.int .i64 r, .int .i64 c]) ∧ w = w' := by
  go_enter Try.func25, Try.ntmps25
  go_wp2_with (go_at_call 13; ((with_reducible refine (symbol_is _ _ _ _ h).mono ?_); rintro e w' ⟨rfl, rfl⟩))
  go_ret2
  exact ⟨rfl, rfl⟩
/-- The word and the error that 'made' answers for a tag from 0 to 3. -/
def mdAns (k n r c : Int) : Prop := (r % 8 = k ∧ r / 8 = n ∧ c = 0) ∨ (r = 0 ∧ (c = 1 ∨ c = 10))
theorem md_of_is {n r c : Int} (h : isAns n r c) : mdAns 0 n r c := by
  rcases h with ⟨_, rfl, rfl⟩ | ⟨_, rfl, rfl⟩
  · exact Or.inl ⟨by omega, by omega, rfl⟩
  · exact Or.inr ⟨rfl, Or.inr rfl⟩
theorem md_of_cnt {t n r c : Int} (h0 : 0 ≤ t) (h7 : t ≤ 7) (h : cntAns t n r c) : mdAns t n r c := by
  rcases h with ⟨_, _, rfl, rfl⟩ | ⟨_, rfl, rfl⟩
  · exact Or.inl ⟨by omega, by omega, rfl⟩
  · exact Or.inr ⟨rfl, Or.inl rfl⟩
theorem made_any (k n : Int) (h0 : 0 ≤ k) (h3 : k ≤ 3) :
    ∃ r c, mdAns k n r c ∧ ∀ w, Calls Try.prog 25 #[.int .i64 k, .int .i64 n] w fun e w' => e = .returned (.tuple #[.int .i64 r, .int .i64 c]) ∧ w = w' := by
  have : k = 0 ∨ k = 1 ∨ k = 2 ∨ k = 3 := by omega
  rcases this with rfl | rfl | rfl | rfl
  · obtain ⟨r, c, A⟩ := isAns_some n; exact ⟨r, c, md_of_is A, fun w => made_0 n r c w A⟩
  · obtain ⟨r, c, A⟩ := cntAns_some 1 n; exact ⟨r, c, md_of_cnt (by omega) (by omega) A, fun w => made_1 n r c w A⟩
  · obtain ⟨r, c, A⟩ := cntAns_some 2 n; exact ⟨r, c, md_of_cnt (by omega) (by omega) A, fun w => made_2 n r c w A⟩
  · obtain ⟨r, c, A⟩ := cntAns_some 3 n; exact ⟨r, c, md_of_cnt (by omega) (by omega) A, fun w => made_3 n r c w A⟩
end Go.Proofs.Ythilplfoodlebaa
