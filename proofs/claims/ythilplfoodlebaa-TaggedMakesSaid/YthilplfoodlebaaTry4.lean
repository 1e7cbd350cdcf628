/-
Contracts of the document's Reckon, for the words of two numbers and for all other words.
-/
import Derived.Test.YthilplfoodlebaaTry3
namespace Go.Proofs.Ythilplfoodlebaa
open Go.ChangeShapes Go.WideShapes Go.ChangeAt Go.RowKit
theorem rtag_8 (x : Int) (w : World) :
    Calls Try.prog 19 #[.int .i64 (8 * x)] w fun e w' => e = .returned (.int .i64 0) ∧ w = w' :=
  (rtag_any (8 * x) w).mono fun e w' ⟨h1, h2⟩ => ⟨by rw [h1]; exact ret_int (by omega), h2⟩
theorem rvalue_8 (x : Int) (w : World) (hx : Num x) :
    Calls Try.prog 21 #[.int .i64 (8 * x)] w fun e w' => e = .returned (.int .i64 x) ∧ w = w' :=
  (rvalue_any (8 * x) w (by have := hx.1; omega) (by have := hx.2; omega)).mono fun e w' ⟨h1, h2⟩ => ⟨by rw [h1]; exact ret_int (by omega), h2⟩
theorem told_ok {v u r c : Int} (h : isAns v r c) (hn : -1152921504606846976 ≤ u ∧ u ≤ 1152921504606846975) (hv : v = u) : Ending.returned (.tuple #[.int .i64 (8 * u), .int .i64 0]) = .returned (.tuple #[.int .i64 r, .int .i64 c]) := by
  subst hv
  rcases h with ⟨_, rfl, rfl⟩ | ⟨g, _⟩
  · rfl
  · exact absurd hn g
theorem told_no {v u r c : Int} (h : isAns v r c) (hn : u < -1152921504606846976 ∨ 1152921504606846975 < u) (hv : v = u) : Ending.returned (.tuple #[.int .i64 0, .int .i64 10]) = .returned (.tuple #[.int .i64 r, .int .i64 c]) := by
  subst hv
  rcases h with ⟨g, _⟩ | ⟨_, rfl, rfl⟩
  · unfold Num at g; omega
  · rfl
theorem rem_num (x y : Int) (hx : Num x) (hy : Num y) : x.tmod y = wrap64 (x - wrap64 (wrap64 (x.tdiv y) * y)) := by
  have h1 := tmod_bd x y hx hy
  have h2 := num_tdiv x y hx
  have h3 := Int.tmod_def x y
  have h4 : x.tdiv y * y = y * x.tdiv y := Int.mul_comm _ _
  unfold Num at *
  rw [h2, h4]
  generalize y * x.tdiv y = z at *
  rw [IntWalk.wrap64_in z (by omega), IntWalk.wrap64_in (x - z) (by omega)]
  exact h3
theorem rrk_add (x y r c : Int) (w : World) (hx : Num x) (hy : Num y) (h : isAns (x + y) r c) :
    Calls Try.prog 23 #[.int .i64 0, .int .i64 (8 * x), .int .i64 (8 * y)] w fun e w' => e = .returned (.tuple #[.int .i64 r, .int .i64 c]) ∧ ∃ n, w' = w.drewN n := by
  obtain ⟨x0, x1⟩ := id hx
  obtain ⟨y0, y1⟩ := id hy
  go_enter Try.func23, Try.ntmps23
  go_wp2_with (first | (go_at_call 19; ((with_reducible refine (rtag_8 _ _).mono ?_); rintro e w' ⟨rfl, rfl⟩)) | (go_at_call 21; ((with_reducible refine (rvalue_8 _ _ ‹_›).mono ?_); rintro e w' ⟨rfl, rfl⟩)))
  all_goals go_ret2
  · exact ⟨told_no h ‹_› rfl, 0, rfl⟩
  · exact ⟨told_ok h ‹_› rfl, 0, rfl⟩
  · exact ⟨told_no h (Or.inl ‹_›) rfl, 0, rfl⟩
theorem rrk_sub (x y r c : Int) (w : World) (hx : Num x) (hy : Num y) (h : isAns (x - y) r c) :
    Calls Try.prog 23 #[.int .i64 1, .int .i64 (8 * x), .int .i64 (8 * y)] w fun e w' => e = .returned (.tuple #[.int .i64 r, .int .i64 c]) ∧ ∃ n, w' = w.drewN n := by
  obtain ⟨x0, x1⟩ := id hx
  obtain ⟨y0, y1⟩ := id hy
  go_enter Try.func23, Try.ntmps23
  go_wp2_with (first | (go_at_call 19; ((with_reducible refine (rtag_8 _ _).mono ?_); rintro e w' ⟨rfl, rfl⟩)) | (go_at_call 21; ((with_reducible refine (rvalue_8 _ _ ‹_›).mono ?_); rintro e w' ⟨rfl, rfl⟩)))
  all_goals go_ret2
  · exact ⟨told_no h ‹_› rfl, 0, rfl⟩
  · exact ⟨told_ok h ‹_› rfl, 0, rfl⟩
  · exact ⟨told_no h (Or.inl ‹_›) rfl, 0, rfl⟩
theorem rrk_quo (x y r c : Int) (w : World) (hx : Num x) (hy : Num y) (h0 : (y == 0) = false) (h0' : ¬ y = 0) (h : isAns (wrap64 (x.tdiv y)) r c) :
    Calls Try.prog 23 #[.int .i64 3, .int .i64 (8 * x), .int .i64 (8 * y)] w fun e w' => e = .returned (.tuple #[.int .i64 r, .int .i64 c]) ∧ ∃ n, w' = w.drewN n := by
  go_enter Try.func23, Try.ntmps23
  go_wp2_with (first | (go_at_call 19; ((with_reducible refine (rtag_8 _ _).mono ?_); rintro e w' ⟨rfl, rfl⟩)) | (go_at_call 21; ((with_reducible refine (rvalue_8 _ _ ‹_›).mono ?_); rintro e w' ⟨rfl, rfl⟩)))
  all_goals (first | go_ret2 | skip)
  · exact ⟨told_no h ‹_› rfl, 0, rfl⟩
  · exact ⟨told_ok h ‹_› rfl, 0, rfl⟩
  · exact ⟨told_no h (Or.inl ‹_›) rfl, 0, rfl⟩
theorem rrk_rem (x y r c : Int) (w : World) (hx : Num x) (hy : Num y) (h0 : (y == 0) = false) (h0' : ¬ y = 0) (h : isAns (x.tmod y) r c) :
    Calls Try.prog 23 #[.int .i64 4, .int .i64 (8 * x), .int .i64 (8 * y)] w fun e w' => e = .returned (.tuple #[.int .i64 r, .int .i64 c]) ∧ ∃ n, w' = w.drewN n := by
  have g := Lib.hid (rem_num x y hx hy)
  go_enter Try.func23, Try.ntmps23
  go_wp2_with (first | (go_at_call 19; ((with_reducible refine (rtag_8 _ _).mono ?_); rintro e w' ⟨rfl, rfl⟩)) | (go_at_call 21; ((with_reducible refine (rvalue_8 _ _ ‹_›).mono ?_); rintro e w' ⟨rfl, rfl⟩)))
  all_goals (first | go_ret2 | skip)
  · exact ⟨told_no h ‹_› g.out, 0, rfl⟩
  · exact ⟨told_ok h ‹_› g.out, 0, rfl⟩
  · exact ⟨told_no h (Or.inl ‹_›) g.out, 0, rfl⟩
theorem rrk_mul (x y r c : Int) (w : World) (hx : Num x) (hy : Num y) (h : isAns (x * y) r c) :
    Calls Try.prog 23 #[.int .i64 2, .int .i64 (8 * x), .int .i64 (8 * y)] w fun e w' => e = .returned (.tuple #[.int .i64 r, .int .i64 c]) ∧ ∃ n, w' = w.drewN n := by
  obtain ⟨x0, x1⟩ := id hx
  obtain ⟨y0, y1⟩ := id hy
  by_cases hn : Num (x * y)
  · obtain ⟨b0, b1⟩ := id hn
    go_enter Try.func23, Try.ntmps23
    go_wp2_with (first | (go_at_call 19; ((with_reducible refine (rtag_8 _ _).mono ?_); rintro e w' ⟨rfl, rfl⟩)) | (go_at_call 21; ((with_reducible refine (rvalue_8 _ _ ‹_›).mono ?_); rintro e w' ⟨rfl, rfl⟩)) | (go_at_call 31; ((with_reducible refine (rtimes_any _ _ _ x0 x1 y0 y1).mono ?_); rintro e w' ⟨he, n, rfl⟩; obtain rfl := he.1 hn; clear he)))
    all_goals go_ret2
    exact ⟨told_ok h hn rfl, _, rfl⟩
  · have hn' := not_num hn
    have H := Lib.hid hn'; clear hn'
    go_enter Try.func23, Try.ntmps23
    go_wp2_with (first | (go_at_call 19; ((with_reducible refine (rtag_8 _ _).mono ?_); rintro e w' ⟨rfl, rfl⟩)) | (go_at_call 21; ((with_reducible refine (rvalue_8 _ _ ‹_›).mono ?_); rintro e w' ⟨rfl, rfl⟩)) | (go_at_call 31; ((with_reducible refine (rtimes_any _ _ _ x0 x1 y0 y1).mono ?_); rintro e w' ⟨he, n, rfl⟩; obtain ⟨v, rfl⟩ := he.2 H.out; clear he)))
    all_goals go_ret2
    exact ⟨told_no h H.out rfl, _, rfl⟩
theorem rrk_zero (op x y : Int) (w : World) (hx : Num x) (hy : Num y) (h : op = 3 ∨ op = 4) (h0 : (y == 0) = true) :
    Calls Try.prog 23 #[.int .i64 op, .int .i64 (8 * x), .int .i64 (8 * y)] w fun e w' => e = .returned (.tuple #[.int .i64 0, .int .i64 11]) ∧ ∃ n, w' = w.drewN n := by
  rcases h with rfl | rfl
  all_goals
    go_enter Try.func23, Try.ntmps23
    go_wp2_with (first | (go_at_call 19; ((with_reducible refine (rtag_8 _ _).mono ?_); rintro e w' ⟨rfl, rfl⟩)) | (go_at_call 21; ((with_reducible refine (rvalue_8 _ _ ‹_›).mono ?_); rintro e w' ⟨rfl, rfl⟩)))
    go_ret2
    exact ⟨rfl, 0, rfl⟩
theorem rrk_type (op a b : Int) (w : World) (g0 : 0 ≤ op) (g4 : op ≤ 4) (h : ¬ (a % 8 = 0 ∧ b % 8 = 0)) :
    Calls Try.prog 23 #[.int .i64 op, .int .i64 a, .int .i64 b] w fun e w' => e = .returned (.tuple #[.int .i64 0, .int .i64 12]) ∧ ∃ n, w' = w.drewN n := by
  by_cases ha : a % 8 = 0
  · have h1 : (a % 8 != 0) = false := by simp [ha]
    have h2 : (b % 8 != 0) = true := by simp; omega
    clear h ha
    go_enter Try.func23, Try.ntmps23
    go_wp2_with (go_at_call 19; refine (rtag_any _ _).mono ?_; rintro e w' ⟨rfl, rfl⟩)
    go_ret2
    exact ⟨rfl, 0, rfl⟩
  · have h1 : (a % 8 != 0) = true := by simp [ha]
    clear h ha
    go_enter Try.func23, Try.ntmps23
    go_wp2_with (go_at_call 19; refine (rtag_any _ _).mono ?_; rintro e w' ⟨rfl, rfl⟩)
    go_ret2
    exact ⟨rfl, 0, rfl⟩
theorem rrk_arg (op a b : Int) (w : World) (h : op < 0 ∨ 4 < op) :
    Calls Try.prog 23 #[.int .i64 op, .int .i64 a, .int .i64 b] w fun e w' => e = .returned (.tuple #[.int .i64 0, .int .i64 1]) ∧ ∃ n, w' = w.drewN n := by
  rcases h with h | h
  · go_enter Try.func23, Try.ntmps23
    go_wp2_with fail
    go_ret2
    exact ⟨rfl, 0, rfl⟩
  · have h' : ¬ op < 0 := by omega
    go_enter Try.func23, Try.ntmps23
    go_wp2_with fail
    go_ret2
    exact ⟨rfl, 0, rfl⟩
end Go.Proofs.Ythilplfoodlebaa
