/-
Contracts of Reckon and Less for the words of two numbers and for all other words, and that the fixed calls at the head of each law answer true.
-/
import Derived.Test.YthilplfoodlebaaTry2
namespace Go.Proofs.Ythilplfoodlebaa
open Go.ChangeShapes Go.WideShapes Go.ChangeAt Go.RowKit
/-- What comes of an operation on numbers. -/
def opv (op x y : Int) : Int := if op = 0 then x + y else if op = 1 then x - y else if op = 2 then x * y else if op = 3 then x.tdiv y else x.tmod y
/-- May it be a number's value? -/
def Num (n : Int) : Prop := -1152921504606846976 ≤ n ∧ n ≤ 1152921504606846975
theorem tmod_bd (x y : Int) (hx : Num x) (hy : Num y) : Num (x.tmod y) := by
  unfold Num at *
  have h4 : (x.tmod y).natAbs ≤ x.natAbs := by rw [Int.natAbs_tmod]; exact Nat.mod_le _ _
  by_cases h : y = 0
  · subst h; rw [Int.tmod_zero]; exact hx
  have h5 : (x.tmod y).natAbs < y.natAbs := by rw [Int.natAbs_tmod]; exact Nat.mod_lt _ (by omega)
  omega
theorem eq0 (y : Int) : (y == 0) = true ∨ ((y == 0) = false ∧ ¬ y = 0) := by
  by_cases h : y = 0
  · exact Or.inl (by simpa using h)
  · exact Or.inr ⟨by simpa using h, h⟩
/-- A word r and an error c tell a number v, or that there is none. -/
def isAns (v r c : Int) : Prop := (Num v ∧ r = 8 * v ∧ c = 0) ∨ (¬ Num v ∧ r = 0 ∧ c = 10)
theorem not_num {n : Int} (h : ¬ Num n) : n < -1152921504606846976 ∨ 1152921504606846975 < n := by unfold Num at h; omega
theorem int_is (n r c : Int) (w : World) (h : isAns n r c) :
    Calls Try.prog 10 #[.int .i64 n] w fun e w' => e = .returned (.tuple #[.int .i64 r, .int .i64 c]) ∧ w = w' := by
  rcases h with ⟨h, rfl, rfl⟩ | ⟨h, rfl, rfl⟩
  · exact int_ok n w h.1 h.2
  · exact int_no n w (not_num h)
theorem product_is (x y r c : Int) (w : World) (hx : Num x) (hy : Num y) (h : isAns (x * y) r c) :
    Calls Try.prog 30 #[.int .i64 x, .int .i64 y] w fun e w' => e = .returned (.tuple #[.int .i64 r, .int .i64 c]) ∧ w = w' := by
  rcases h with ⟨h, rfl, rfl⟩ | ⟨h, rfl, rfl⟩
  · exact product_ok x y w hx.1 hx.2 h
  · exact product_no x y w hx.1 hx.2 hy.1 hy.2 (not_num h)
theorem num_tdiv (x y : Int) (hx : Num x) : wrap64 (x.tdiv y) = x.tdiv y := wrap_tdiv x y hx.1 (by have := hx.2; omega)
theorem num_tmod (x y : Int) (hx : Num x) (hy : Num y) : wrap64 (x.tmod y) = x.tmod y := by have h := tmod_bd x y hx hy; unfold Num at h; exact IntWalk.wrap64_in _ (by omega)
theorem rk_add (x y r c : Int) (w : World) (hx : Num x) (hy : Num y) (h : isAns (x + y) r c) :
    Calls Try.prog 22 #[.int .i64 0, .int .i64 (8 * x), .int .i64 (8 * y)] w fun e w' => e = .returned (.tuple #[.int .i64 r, .int .i64 c]) ∧ w = w' := by
  obtain ⟨x0, x1⟩ := hx
  obtain ⟨y0, y1⟩ := hy
  rcases eq0 y with h0 | ⟨h0, h0'⟩
  all_goals
    go_enter Try.func22, Try.ntmps22
    go_wp2_with (first | (go_at_call 29; refine (areInts_yes _ _ _).mono ?_; rintro e w' ⟨rfl, rfl⟩) | (go_at_call 20; refine (value_8 _ _).mono ?_; rintro e w' ⟨rfl, rfl⟩) | (go_at_call 10; refine (int_is _ _ _ _ h).mono ?_; rintro e w' ⟨rfl, rfl⟩))
    go_ret2
    exact ⟨rfl, rfl⟩
theorem rk_sub (x y r c : Int) (w : World) (hx : Num x) (hy : Num y) (h : isAns (x - y) r c) :
    Calls Try.prog 22 #[.int .i64 1, .int .i64 (8 * x), .int .i64 (8 * y)] w fun e w' => e = .returned (.tuple #[.int .i64 r, .int .i64 c]) ∧ w = w' := by
  obtain ⟨x0, x1⟩ := hx
  obtain ⟨y0, y1⟩ := hy
  rcases eq0 y with h0 | ⟨h0, h0'⟩
  all_goals
    go_enter Try.func22, Try.ntmps22
    go_wp2_with (first | (go_at_call 29; refine (areInts_yes _ _ _).mono ?_; rintro e w' ⟨rfl, rfl⟩) | (go_at_call 20; refine (value_8 _ _).mono ?_; rintro e w' ⟨rfl, rfl⟩) | (go_at_call 10; refine (int_is _ _ _ _ h).mono ?_; rintro e w' ⟨rfl, rfl⟩))
    go_ret2
    exact ⟨rfl, rfl⟩
theorem rk_mul (x y r c : Int) (w : World) (hx : Num x) (hy : Num y) (h : isAns (x * y) r c) :
    Calls Try.prog 22 #[.int .i64 2, .int .i64 (8 * x), .int .i64 (8 * y)] w fun e w' => e = .returned (.tuple #[.int .i64 r, .int .i64 c]) ∧ w = w' := by
  rcases eq0 y with h0 | ⟨h0, h0'⟩
  all_goals
    go_enter Try.func22, Try.ntmps22
    go_wp2_with (first | (go_at_call 29; refine (areInts_yes _ _ _).mono ?_; rintro e w' ⟨rfl, rfl⟩) | (go_at_call 20; refine (value_8 _ _).mono ?_; rintro e w' ⟨rfl, rfl⟩) | (go_at_call 30; refine (product_is _ _ _ _ _ hx hy h).mono ?_; rintro e w' ⟨rfl, rfl⟩))
    go_ret2
    exact ⟨rfl, rfl⟩
theorem rk_quo (x y r c : Int) (w : World) (h0 : (y == 0) = false) (h0' : ¬ y = 0) (h : isAns (wrap64 (x.tdiv y)) r c) :
    Calls Try.prog 22 #[.int .i64 3, .int .i64 (8 * x), .int .i64 (8 * y)] w fun e w' => e = .returned (.tuple #[.int .i64 r, .int .i64 c]) ∧ w = w' := by
  go_enter Try.func22, Try.ntmps22
  go_wp2_with (first | (go_at_call 29; refine (areInts_yes _ _ _).mono ?_; rintro e w' ⟨rfl, rfl⟩) | (go_at_call 20; refine (value_8 _ _).mono ?_; rintro e w' ⟨rfl, rfl⟩) | (go_at_call 10; refine (int_is _ _ _ _ h).mono ?_; rintro e w' ⟨rfl, rfl⟩))
  go_ret2
  exact ⟨rfl, rfl⟩
theorem rk_rem (x y r c : Int) (w : World) (h0 : (y == 0) = false) (h0' : ¬ y = 0) (h : isAns (x.tmod y) r c) :
    Calls Try.prog 22 #[.int .i64 4, .int .i64 (8 * x), .int .i64 (8 * y)] w fun e w' => e = .returned (.tuple #[.int .i64 r, .int .i64 c]) ∧ w = w' := by
  go_enter Try.func22, Try.ntmps22
  go_wp2_with (first | (go_at_call 29; refine (areInts_yes _ _ _).mono ?_; rintro e w' ⟨rfl, rfl⟩) | (go_at_call 20; refine (value_8 _ _).mono ?_; rintro e w' ⟨rfl, rfl⟩) | (go_at_call 10; refine (int_is _ _ _ _ h).mono ?_; rintro e w' ⟨rfl, rfl⟩))
  go_ret2
  exact ⟨rfl, rfl⟩
theorem rk_zero (op x y : Int) (w : World) (h : op = 3 ∨ op = 4) (h0 : (y == 0) = true) :
    Calls Try.prog 22 #[.int .i64 op, .int .i64 (8 * x), .int .i64 (8 * y)] w fun e w' => e = .returned (.tuple #[.int .i64 0, .int .i64 11]) ∧ w = w' := by
  rcases h with rfl | rfl
  all_goals
    go_enter Try.func22, Try.ntmps22
    go_wp2_with (first | (go_at_call 29; refine (areInts_yes _ _ _).mono ?_; rintro e w' ⟨rfl, rfl⟩) | (go_at_call 20; refine (value_8 _ _).mono ?_; rintro e w' ⟨rfl, rfl⟩))
    go_ret2
    exact ⟨rfl, rfl⟩
theorem rk_type (op a b : Int) (w : World) (h0 : 0 ≤ op) (h4 : op ≤ 4) (h : ¬ (a % 8 = 0 ∧ b % 8 = 0)) :
    Calls Try.prog 22 #[.int .i64 op, .int .i64 a, .int .i64 b] w fun e w' => e = .returned (.tuple #[.int .i64 0, .int .i64 12]) ∧ w = w' := by
  go_enter Try.func22, Try.ntmps22
  go_wp2_with (go_at_call 29; refine (areInts_no _ _ _ h).mono ?_; rintro e w' ⟨rfl, rfl⟩)
  go_ret2
  exact ⟨rfl, rfl⟩
theorem rk_arg (op a b : Int) (w : World) (h : op < 0 ∨ 4 < op) :
    Calls Try.prog 22 #[.int .i64 op, .int .i64 a, .int .i64 b] w fun e w' => e = .returned (.tuple #[.int .i64 0, .int .i64 1]) ∧ w = w' := by
  rcases h with h | h
  · go_enter Try.func22, Try.ntmps22
    go_wp2_with fail
    go_ret2
    exact ⟨rfl, rfl⟩
  · have h' : ¬ op < 0 := by omega
    go_enter Try.func22, Try.ntmps22
    go_wp2_with fail
    go_ret2
    exact ⟨rfl, rfl⟩
theorem less_type (a b : Int) (w : World) (h : ¬ (a % 8 = 0 ∧ b % 8 = 0)) :
    Calls Try.prog 24 #[.int .i64 a, .int .i64 b] w fun e w' => e = .returned (.tuple #[.bool false, .int .i64 12]) ∧ w = w' := by
  go_enter Try.func24, Try.ntmps24
  go_wp2_with (go_at_call 29; refine (areInts_no _ _ _ h).mono ?_; rintro e w' ⟨rfl, rfl⟩)
  go_ret2
  exact ⟨rfl, rfl⟩
theorem less_any (x y : Int) (w : World) :
    Calls Try.prog 24 #[.int .i64 (8 * x), .int .i64 (8 * y)] w fun e w' => e = .returned (.tuple #[.bool (decide (x < y)), .int .i64 0]) ∧ w = w' := by
  go_enter Try.func24, Try.ntmps24
  go_wp2_with (first | (go_at_call 29; refine (areInts_yes _ _ _).mono ?_; rintro e w' ⟨rfl, rfl⟩) | (go_at_call 20; refine (value_8 _ _).mono ?_; rintro e w' ⟨rfl, rfl⟩))
  go_ret2
  exact ⟨rfl, rfl⟩
theorem fixed_quo (w : World) : Calls Try.prog 22 #[.int .i64 3, .int .i64 (-56), .int .i64 16] w fun e w' => e = .returned (.tuple #[.int .i64 (-24), .int .i64 0]) ∧ w = w' := by
  have e0 : wrap64 ((-7 : Int).tdiv 2) = -3 := by unfold wrap64; decide
  have h := rk_quo (-7) 2 (-24) 0 w (by decide) (by decide) (Or.inl ⟨by rw [e0]; unfold Num; decide, by rw [e0]; rfl, rfl⟩)
  have e1 : (8 * (-7) : Int) = -56 := by decide
  have e2 : (8 * 2 : Int) = 16 := by decide
  rw [e1, e2] at h
  exact h
theorem fixed_any (w : World) : Calls Try.prog 16 #[] w fun e w' => e = .returned (.bool true) ∧ w = w' := by
  go_enter Try.func16, Try.ntmps16
  go_wp2_with (first | (go_at_call 10; ((with_reducible refine (int_ok _ _ (by omega) (by omega)).mono ?_); rintro e w' ⟨rfl, rfl⟩)) | (go_at_call 11; ((with_reducible refine (place_ok _ _ (by omega) (by omega)).mono ?_); rintro e w' ⟨rfl, rfl⟩)) | (go_at_call 14; ((with_reducible refine (head_ok _ _ _ (by omega) (by omega) (by omega) (by omega)).mono ?_); rintro e w' ⟨rfl, rfl⟩)) | (go_at_call 18; ((with_reducible refine (tag_any _ _).mono ?_); rintro e w' ⟨rfl, rfl⟩)) | (go_at_call 20; ((with_reducible refine (value_any _ _).mono ?_); rintro e w' ⟨rfl, rfl⟩)) | (go_at_call 22; ((with_reducible refine (fixed_quo _).mono ?_); rintro e w' ⟨rfl, rfl⟩)) | (go_at_call 22; ((with_reducible refine (rk_arg 9 1 1 _ (by omega)).mono ?_); rintro e w' ⟨rfl, rfl⟩)))
  go_ret
  exact ⟨rfl, rfl⟩
end Go.Proofs.Ythilplfoodlebaa
