/-
Plain facts on products and quotients of numbers, and contracts of areInts, product and the document's Times, for numbers from -2^60 to 2^60-1.
-/
import Derived.Test.YthilplfoodlebaaTry1
import Derived.Deep.QuietTactic
import Derived.BigQuiet
import Derived.Lib.Hide
namespace Go.Proofs.Ythilplfoodlebaa
open Go.ChangeShapes Go.WideShapes Go.ChangeAt Go.RowKit

/-! ### Plain numbers -/
theorem tdiv_bd (n y : Int) (h0 : -1152921504606846976 ≤ n) (h1 : n ≤ 1152921504606846976) :
    -1152921504606846976 ≤ n.tdiv y ∧ n.tdiv y ≤ 1152921504606846976 := by
  have h : (n.tdiv y).natAbs ≤ n.natAbs := by
    rw [Int.natAbs_tdiv]; exact Nat.div_le_self _ _
  omega
theorem wrap_tdiv (n y : Int) (h0 : -1152921504606846976 ≤ n) (h1 : n ≤ 1152921504606846976) : wrap64 (n.tdiv y) = n.tdiv y := by
  have := tdiv_bd n y h0 h1
  exact IntWalk.wrap64_in _ (by omega)
theorem wrap_ntdiv (n y : Int) (h0 : -1152921504606846976 ≤ n) (h1 : n ≤ 1152921504606846976) : wrap64 (-n.tdiv y) = -n.tdiv y := by
  have := tdiv_bd n y h0 h1
  exact IntWalk.wrap64_in _ (by omega)
theorem le_share (x y n : Int) (hy : 0 < y) (hn : 0 ≤ n) : x ≤ n.tdiv y ↔ x * y ≤ n := by
  rw [Int.tdiv_eq_ediv_of_nonneg hn, Int.le_ediv_iff_mul_le hy]
theorem ge_share (x y n : Int) (hy : 0 < y) (hn : 0 ≤ n) : -n.tdiv y ≤ x ↔ -n ≤ x * y := by
  have := le_share (-x) y n hy hn
  rw [Int.neg_mul] at this
  omega
theorem le_share' (x y n : Int) (hy : y < 0) (hn : 0 ≤ n) : x ≤ -n.tdiv y ↔ -n ≤ x * y := by
  have := le_share x (-y) n (by omega) hn
  rw [Int.tdiv_neg, Int.mul_neg] at this
  omega
theorem ge_share' (x y n : Int) (hy : y < 0) (hn : 0 ≤ n) : n.tdiv y ≤ x ↔ x * y ≤ n := by
  have := ge_share x (-y) n (by omega) hn
  rw [Int.tdiv_neg, Int.mul_neg] at this
  omega
/-- A product that wraps round is told by dividing back. -/
theorem back (x y p : Int) (hy : y ≠ 0) (h2 : -1152921504606846976 ≤ y) (h3 : y ≤ 1152921504606846975) (hp : p = wrap64 (x * y)) (hb : p.tdiv y = x) : p = x * y := by
  have h1 := Int.mul_tdiv_add_tmod p y
  rw [hb, Int.mul_comm] at h1
  have h4 : (p.tmod y).natAbs < y.natAbs := by rw [Int.natAbs_tmod]; exact Nat.mod_lt _ (by omega)
  unfold wrap64 at hp
  generalize x * y = z at *
  omega
theorem back_ok (x y : Int) (hy : y ≠ 0) (h0 : -1152921504606846976 ≤ x * y) (h1 : x * y ≤ 1152921504606846975) (h2 : -1152921504606846976 ≤ x) (h3 : x ≤ 1152921504606846975) : wrap64 (x * y) = x * y ∧ wrap64 ((wrap64 (x * y)).tdiv y) = x := by
  have e : wrap64 (x * y) = x * y := IntWalk.wrap64_in _ (by omega)
  rw [e, Int.mul_tdiv_cancel _ hy]
  exact ⟨rfl, IntWalk.wrap64_in _ (by omega)⟩
theorem tdiv_bd64 (n y : Int) (h0 : -9223372036854775808 ≤ n) (h1 : n ≤ 9223372036854775807) :
    -9223372036854775808 ≤ n.tdiv y ∧ n.tdiv y ≤ 9223372036854775808 := by
  have h : (n.tdiv y).natAbs ≤ n.natAbs := by
    rw [Int.natAbs_tdiv]; exact Nat.div_le_self _ _
  omega
theorem wrap_bd (z : Int) : -9223372036854775808 ≤ wrap64 z ∧ wrap64 z ≤ 9223372036854775807 := by unfold wrap64; omega
theorem back_no (x y : Int) (hy : y ≠ 0) (h0 : -1152921504606846976 ≤ y) (h1 : y ≤ 1152921504606846975) (h2 : -1152921504606846976 ≤ x) (h3 : x ≤ 1152921504606846975)
    (hb : wrap64 ((wrap64 (x * y)).tdiv y) = x) : wrap64 (x * y) = x * y := by
  have h4 := wrap_bd (x * y)
  have h5 := tdiv_bd64 _ y h4.1 h4.2
  have h6 : wrap64 ((wrap64 (x * y)).tdiv y) = (wrap64 (x * y)).tdiv y := by
    generalize (wrap64 (x * y)).tdiv y = q at *
    unfold wrap64 at hb ⊢
    omega
  exact back x y _ hy h0 h1 rfl (by rw [← h6]; exact hb)

/-! ### Contracts -/
theorem areInts_yes (x y : Int) (w : World) :
    Calls Try.prog 29 #[.int .i64 (8 * x), .int .i64 (8 * y)] w fun e w' => e = .returned (.bool true) ∧ w = w' := by
  have h1 : ((8 * x) % 8 == 0) = true := by simp
  have h2 : ((8 * y) % 8 == 0) = true := by simp
  go_enter Try.func29, Try.ntmps29
  go_wp2_with (go_at_call 18; refine (tag_any _ _).mono ?_; rintro e w' ⟨rfl, rfl⟩)
  go_ret
  exact ⟨rfl, rfl⟩
theorem areInts_no (a b : Int) (w : World) (h : ¬ (a % 8 = 0 ∧ b % 8 = 0)) :
    Calls Try.prog 29 #[.int .i64 a, .int .i64 b] w fun e w' => e = .returned (.bool false) ∧ w = w' := by
  by_cases ha : a % 8 = 0
  · have h1 : (a % 8 == 0) = true := by simp [ha]
    have h2 : (b % 8 == 0) = false := by simp; omega
    clear h ha
    go_enter Try.func29, Try.ntmps29
    go_wp2_with (go_at_call 18; refine (tag_any _ _).mono ?_; rintro e w' ⟨rfl, rfl⟩)
    go_ret
    exact ⟨rfl, rfl⟩
  · have h1 : (a % 8 == 0) = false := by simp [ha]
    clear h ha
    go_enter Try.func29, Try.ntmps29
    go_wp2_with (go_at_call 18; refine (tag_any _ _).mono ?_; rintro e w' ⟨rfl, rfl⟩)
    go_ret
    exact ⟨rfl, rfl⟩
theorem value_8 (x : Int) (w : World) :
    Calls Try.prog 20 #[.int .i64 (8 * x)] w fun e w' => e = .returned (.int .i64 x) ∧ w = w' :=
  (value_any (8 * x) w).mono fun e w' ⟨h1, h2⟩ => ⟨by rw [h1]; exact ret_int (by omega), h2⟩
theorem product_ok (x y : Int) (w : World) (h0 : -1152921504606846976 ≤ x) (h1 : x ≤ 1152921504606846975) 
    (H : -1152921504606846976 ≤ x * y ∧ x * y ≤ 1152921504606846975) :
    Calls Try.prog 30 #[.int .i64 x, .int .i64 y] w fun e w' => e = .returned (.tuple #[.int .i64 (8 * (x * y)), .int .i64 0]) ∧ w = w' := by
  by_cases hy : y = 0
  · subst hy
    go_enter Try.func30, Try.ntmps30
    go_wp2_with (go_at_call 10; refine (int_ok _ _ (by omega) (by omega)).mono ?_; rintro e w' ⟨rfl, rfl⟩)
    go_ret2
    exact ⟨ret_ints (by simp) rfl, rfl⟩
  · have hb := back_ok x y hy H.1 H.2 h0 h1
    have h2 : (wrap64 ((wrap64 (x * y)).tdiv y) != x) = false := by rw [hb.2]; simp
    have h3 : (y == 0) = false := by simpa using hy
    have h4 : (y != 0) = true := by simpa using hy
    have hb' := Lib.hid hb.1; clear hb
    have H' := Lib.hid H; clear H
    go_enter Try.func30, Try.ntmps30
    go_wp2_with (go_at_call 10; refine (int_ok _ _ (by rw [hb'.out]; exact H'.out.1) (by rw [hb'.out]; exact H'.out.2)).mono ?_; rintro e w' ⟨rfl, rfl⟩)
    go_ret2
    exact ⟨ret_ints (by rw [hb'.out]) rfl, rfl⟩
theorem product_no (x y : Int) (w : World) (h0 : -1152921504606846976 ≤ x) (h1 : x ≤ 1152921504606846975) (h2 : -1152921504606846976 ≤ y) (h3 : y ≤ 1152921504606846975)
    (H : x * y < -1152921504606846976 ∨ 1152921504606846975 < x * y) :
    Calls Try.prog 30 #[.int .i64 x, .int .i64 y] w fun e w' => e = .returned (.tuple #[.int .i64 0, .int .i64 10]) ∧ w = w' := by
  have hy : ¬ y = 0 := by rintro rfl; simp at H
  have h5 : (y == 0) = false := by simpa using hy
  have h4 : (y != 0) = true := by simpa using hy
  by_cases hb : wrap64 ((wrap64 (x * y)).tdiv y) = x
  · have h6 : (wrap64 ((wrap64 (x * y)).tdiv y) != x) = false := by rw [hb]; simp
    have e := Lib.hid (back_no x y hy h2 h3 h0 h1 hb)
    have H' := Lib.hid H
    clear hb H
    go_enter Try.func30, Try.ntmps30
    go_wp2_with (go_at_call 10; refine (int_no _ _ (by rw [e.out]; exact H'.out)).mono ?_; rintro e w' ⟨rfl, rfl⟩)
    go_ret2
    exact ⟨rfl, rfl⟩
  · have h6 : (wrap64 ((wrap64 (x * y)).tdiv y) != x) = true := by simpa using hb
    clear hb H
    go_enter Try.func30, Try.ntmps30
    go_wp2_with fail
    go_ret2
    exact ⟨rfl, rfl⟩
/-- What R.Times answers. -/
def tm (x y : Int) (e : Ending) : Prop :=
  (-1152921504606846976 ≤ x * y ∧ x * y ≤ 1152921504606846975 → e = .returned (.tuple #[.int .i64 (x * y), .bool true])) ∧
  ((x * y < -1152921504606846976 ∨ 1152921504606846975 < x * y) → ∃ v, e = .returned (.tuple #[.int .i64 v, .bool false]))
theorem tm_yes (x y v : Int) (h : v = x * y) (h0 : -1152921504606846976 ≤ x * y ∧ x * y ≤ 1152921504606846975) : tm x y (.returned (.tuple #[.int .i64 v, .bool true])) :=
  ⟨fun _ => by rw [h], fun h1 => by omega⟩
theorem tm_no (x y v : Int) (h0 : x * y < -1152921504606846976 ∨ 1152921504606846975 < x * y) : tm x y (.returned (.tuple #[.int .i64 v, .bool false])) :=
  ⟨fun _ => by omega, fun _ => ⟨v, rfl⟩⟩
theorem tm_by (x y v : Int) (b : Bool) (h : v = x * y) (hb : b = decide (v ≤ 1152921504606846975)) (h0 : -1152921504606846976 ≤ x * y) : tm x y (.returned (.tuple #[.int .i64 v, .bool b])) := by
  by_cases hv : v ≤ 1152921504606846975
  · rw [hb, decide_eq_true hv]; exact tm_yes x y v h (by omega)
  · rw [hb, decide_eq_false hv]; exact tm_no x y v (by omega)
theorem neg_no (x y : Int) (hs : y < 0) (g : wrap64 (-Int.tdiv 1152921504606846976 y) < x ∨ x < wrap64 (Int.tdiv 1152921504606846975 y)) : x * y < -1152921504606846976 ∨ 1152921504606846975 < x * y := by
  rw [wrap_tdiv 1152921504606846975 y (by omega) (by omega), wrap_ntdiv 1152921504606846976 y (by omega) (by omega)] at g
  have c1 := le_share' x y 1152921504606846976 hs (by omega)
  have c2 := ge_share' x y 1152921504606846975 hs (by omega)
  omega
theorem neg_yes (x y : Int) (hs : y < 0) (g : x ≤ wrap64 (-Int.tdiv 1152921504606846976 y) ∧ wrap64 (Int.tdiv 1152921504606846975 y) ≤ x) : -1152921504606846976 ≤ x * y ∧ x * y ≤ 1152921504606846975 := by
  rw [wrap_tdiv 1152921504606846975 y (by omega) (by omega), wrap_ntdiv 1152921504606846976 y (by omega) (by omega)] at g
  have c1 := le_share' x y 1152921504606846976 hs (by omega)
  have c2 := ge_share' x y 1152921504606846975 hs (by omega)
  omega
theorem pos_no (x y : Int) (hs : 0 < y) (g : 1152921504606846975 / y < x ∨ x < wrap64 (-Int.tdiv 1152921504606846976 y)) : x * y < -1152921504606846976 ∨ 1152921504606846975 < x * y := by
  rw [wrap_ntdiv 1152921504606846976 y (by omega) (by omega)] at g
  have c1 := le_share x y 1152921504606846975 hs (by omega)
  have c2 := ge_share x y 1152921504606846976 hs (by omega)
  rw [Int.tdiv_eq_ediv_of_nonneg (by omega)] at c1
  omega
theorem pos_yes (x y : Int) (hs : 0 < y) (g : x ≤ 1152921504606846975 / y ∧ wrap64 (-Int.tdiv 1152921504606846976 y) ≤ x) : -1152921504606846976 ≤ x * y ∧ x * y ≤ 1152921504606846975 := by
  rw [wrap_ntdiv 1152921504606846976 y (by omega) (by omega)] at g
  have c1 := le_share x y 1152921504606846975 hs (by omega)
  have c2 := ge_share x y 1152921504606846976 hs (by omega)
  rw [Int.tdiv_eq_ediv_of_nonneg (by omega)] at c1
  omega
theorem wrap_prod (z : Int) (h : -1152921504606846976 ≤ z ∧ z ≤ 1152921504606846975) : wrap64 z = z := IntWalk.wrap64_in _ (by omega)
theorem rtimes_any (x y : Int) (w : World) (h0 : -1152921504606846976 ≤ x) (h1 : x ≤ 1152921504606846975) (h2 : -1152921504606846976 ≤ y) (h3 : y ≤ 1152921504606846975) :
    Calls Try.prog 31 #[.int .i64 x, .int .i64 y] w fun e w' => tm x y e ∧ ∃ n, w' = w.drewN n := by
  by_cases hx : x = 0
  · subst hx
    go_enter Try.func31, Try.ntmps31
    go_wp2_with fail
    go_ret2
    exact ⟨tm_yes _ _ _ (by simp) (by simp), 0, rfl⟩
  have a1 : (x == 0) = false := by simpa using hx
  by_cases hy : y = 0
  · subst hy
    go_enter Try.func31, Try.ntmps31
    go_wp2_with fail
    go_ret2
    exact ⟨tm_yes _ _ _ (by simp) (by simp), 0, rfl⟩
  have a2 : (y == 0) = false := by simpa using hy
  by_cases hx' : x = -1
  · subst hx'
    go_enter Try.func31, Try.ntmps31
    go_wp2_with fail
    go_ret2
    exact ⟨tm_by _ _ _ _ (by omega) rfl (by omega), 0, rfl⟩
  have a3 : (x == -1) = false := by simpa using hx'
  by_cases hy' : y = -1
  · subst hy'
    go_enter Try.func31, Try.ntmps31
    go_wp2_with fail
    go_ret2
    exact ⟨tm_by _ _ _ _ (by omega) rfl (by omega), 0, rfl⟩
  have a4 : (y == -1) = false := by simpa using hy'
  by_cases hs : y < 0
  · have hs' := Lib.hid hs
    go_enter Try.func31, Try.ntmps31
    go_wp2_with fail
    go_quiet (fail)
    go_wp2_with fail
    all_goals go_ret2
    · exact ⟨tm_no _ _ _ (neg_no _ _ hs'.out ‹_›), _, rfl⟩
    · have g := neg_yes _ _ hs'.out ‹_›
      exact ⟨tm_yes _ _ _ (wrap_prod _ g) g, _, rfl⟩
    · exact ⟨tm_no _ _ _ (neg_no _ _ hs'.out (Or.inl ‹_›)), _, rfl⟩
  · have hs' := Lib.hid (show 0 < y by omega)
    go_enter Try.func31, Try.ntmps31
    go_wp2_with fail
    go_quiet (fail)
    go_wp2_with fail
    all_goals go_ret2
    · exact ⟨tm_no _ _ _ (pos_no _ _ hs'.out ‹_›), _, rfl⟩
    · have g := pos_yes _ _ hs'.out ‹_›
      exact ⟨tm_yes _ _ _ (wrap_prod _ g) g, _, rfl⟩
    · exact ⟨tm_no _ _ _ (pos_no _ _ hs'.out (Or.inl ‹_›)), _, rfl⟩
end Go.Proofs.Ythilplfoodlebaa
