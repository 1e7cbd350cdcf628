/-
Texts Try1, Try2, Try3, Try4, one behind the other (a claim bears sixty files). Conditions: as each says.
-/
import Derived.Test.YtpejhilfopjckaaDoorRows
import Derived.WalkKit
import Derived.ProofKit
import Derived.OpenShut
import Derived.Deep.QuietTactic
import Derived.BigQuiet
import Derived.Lib.Hide

/-
Contracts of package word's small functions (Int, Place, Const, Symbol, Head, Tag, Value) and of the document's answers Make, Head, Tag, Value, Is: what each returns, for every number within its own bounds, without touching memory.
-/
namespace Go.Proofs.YtpejhilfopjckaaDoor
open Go.ChangeShapes Go.WideShapes Go.ChangeAt Go.RowKit

theorem ret_int {k : IntKind} {a b : Int} (h : a = b) : Ending.returned (.int k a) = .returned (.int k b) := by rw [h]
theorem ret_ints {k l : IntKind} {a b c d : Int} (h : a = b) (g : c = d) : Ending.returned (.tuple #[.int k a, .int l c]) = .returned (.tuple #[.int k b, .int l d]) := by rw [h, g]
theorem ret_bool {a b : Bool} (h : a = b) : Ending.returned (.bool a) = .returned (.bool b) := by rw [h]

theorem and7 (n : Int) : bits .and .i64 n 7 = n % 8 := by
  have h7 : (BitVec.ofInt 64 7).toNat = 2 ^ 3 - 1 := by decide
  have key : (BitVec.ofInt 64 n &&& BitVec.ofInt 64 7).toNat = (n % ((2 ^ 64 : Nat) : Int)).toNat % 2 ^ 3 := by
    rw [BitVec.toNat_and, BitVec.toNat_ofInt, h7, Nat.and_two_pow_sub_one_eq_mod]
  show IntKind.i64.wrap ((BitVec.ofInt 64 n &&& BitVec.ofInt 64 7).toNat : Nat) = n % 8
  rw [key, IntKind.wrap_i64]
  omega

theorem tag_any (a : Int) (w : World) :
    Calls Tryd.prog 91 #[.int .i64 a] w fun e w' => e = .returned (.int .i64 (a % 8)) ∧ w = w' := by
  go_enter Tryd.func91, Tryd.ntmps91
  go_wp2
  go_ret
  exact ⟨ret_int (and7 a), rfl⟩
theorem value_any (a : Int) (w : World) :
    Calls Tryd.prog 74 #[.int .i64 a] w fun e w' => e = .returned (.int .i64 (a / 8)) ∧ w = w' := by
  go_enter Tryd.func74, Tryd.ntmps74
  go_wp2
  go_ret
  exact ⟨rfl, rfl⟩
theorem join_any (t a : Int) (w : World) (h0 : -1152921504606846976 ≤ a) (h1 : a ≤ 1152921504606846975) (h2 : 0 ≤ t) (h3 : t ≤ 7) :
    Calls Tryd.prog 82 #[.int .i64 t, .int .i64 a] w fun e w' => e = .returned (.int .i64 (8 * a + t)) ∧ w = w' := by
  go_enter Tryd.func82, Tryd.ntmps82
  go_wp2
  go_ret
  exact ⟨ret_int (by omega), rfl⟩
theorem tmod8 (a : Int) : a.tmod 8 = a % 8 - (if 0 ≤ a ∨ a % 8 = 0 then 0 else 8) := by
  have h1 := @Int.tmod_eq_emod a 8
  have h3 : ((8 : Int).natAbs : Int) = 8 := rfl
  split at h1 <;> split <;> simp only [h3, Int.natCast_zero] at h1 <;> omega
theorem tdiv8 (a : Int) : 8 * a.tdiv 8 + a.tmod 8 = a := Int.mul_tdiv_add_tmod a 8
theorem tmod_neg (a : Int) (h : a.tmod 8 < 0) : wrap64 (a.tmod 8 + 8) = a % 8 := by
  have h1 := tmod8 a
  rw [IntWalk.wrap64_in _ (by omega)]
  split at h1 <;> omega
theorem tmod_pos (a : Int) (h : 0 ≤ a.tmod 8) : a.tmod 8 = a % 8 := by
  have h1 := tmod8 a
  split at h1 <;> omega
theorem tdiv_pos (a : Int) (h : 0 ≤ a.tmod 8) : a.tdiv 8 = a / 8 := by
  have h1 := tmod_pos a h
  have h2 := tdiv8 a
  omega
theorem tdiv_neg (a : Int) (h : a.tmod 8 < 0) (l : -9223372036854775808 ≤ a) (u : a ≤ 9223372036854775807) : wrap64 (a.tdiv 8 - 1) = a / 8 := by
  have h1 := tmod8 a
  have h2 := tdiv8 a
  rw [IntWalk.wrap64_in _ (by split at h1 <;> omega)]
  split at h1 <;> omega
theorem rtag_any (a : Int) (w : World) :
    Calls Tryd.prog 76 #[.int .i64 a] w fun e w' => e = .returned (.int .i64 (a % 8)) ∧ w = w' := by
  go_enter Tryd.func76, Tryd.ntmps76
  go_wp2
  all_goals go_ret
  · exact ⟨ret_int (tmod_neg a ‹_›), rfl⟩
  · exact ⟨ret_int (tmod_pos a ‹_›), rfl⟩
theorem rvalue_any (a : Int) (w : World) (h0 : -9223372036854775808 ≤ a) (h1 : a ≤ 9223372036854775807) :
    Calls Tryd.prog 57 #[.int .i64 a] w fun e w' => e = .returned (.int .i64 (a / 8)) ∧ w = w' := by
  go_enter Tryd.func57, Tryd.ntmps57
  go_wp2
  all_goals go_ret
  · exact ⟨ret_int (tdiv_neg a ‹_› h0 h1), rfl⟩
  · exact ⟨ret_int (tdiv_pos a ‹_›), rfl⟩
theorem int_ok (n : Int) (w : World) (h0 : -1152921504606846976 ≤ n) (h1 : n ≤ 1152921504606846975) :
    Calls Tryd.prog 71 #[.int .i64 n] w fun e w' => e = .returned (.tuple #[.int .i64 (8 * n), .int .i64 0]) ∧ w = w' := by
  go_enter Tryd.func71, Tryd.ntmps71
  go_wp2_with (go_at_call 82; refine (join_any _ _ _ h0 h1 (by omega) (by omega)).mono ?_; rintro e w' ⟨rfl, rfl⟩)
  go_ret2
  exact ⟨ret_ints (by omega) rfl, rfl⟩
theorem int_no (n : Int) (w : World) (h : n < -1152921504606846976 ∨ 1152921504606846975 < n) :
    Calls Tryd.prog 71 #[.int .i64 n] w fun e w' => e = .returned (.tuple #[.int .i64 0, .int .i64 10]) ∧ w = w' := by
  rcases h with h | h
  · go_enter Tryd.func71, Tryd.ntmps71
    go_wp2_with fail
    go_ret2
    exact ⟨rfl, rfl⟩
  · have h' : ¬ n < -1152921504606846976 := by omega
    go_enter Tryd.func71, Tryd.ntmps71
    go_wp2_with fail
    go_ret2
    exact ⟨rfl, rfl⟩

theorem ris_yes (n : Int) (w : World) (h0 : -1152921504606846976 ≤ n) (h1 : n ≤ 1152921504606846975) :
    Calls Tryd.prog 44 #[.int .i64 n] w fun e w' => e = .returned (.bool true) ∧ w = w' := by
  go_enter Tryd.func44, Tryd.ntmps44
  go_wp2_with fail
  go_ret
  exact ⟨rfl, rfl⟩
theorem ris_no (n : Int) (w : World) (h : n < -1152921504606846976 ∨ 1152921504606846975 < n) :
    Calls Tryd.prog 44 #[.int .i64 n] w fun e w' => e = .returned (.bool false) ∧ w = w' := by
  by_cases a : -1152921504606846976 ≤ n <;> by_cases b : n ≤ 1152921504606846975
  all_goals first | (exfalso; omega) | skip
  all_goals
    clear h
    go_enter Tryd.func44, Tryd.ntmps44
    go_wp2_with fail
    go_ret
    exact ⟨rfl, rfl⟩
end Go.Proofs.YtpejhilfopjckaaDoor

/-
Plain facts on products and quotients of numbers, and contracts of areInts, product and the document's Times, for numbers from -2^60 to 2^60-1.
-/
namespace Go.Proofs.YtpejhilfopjckaaDoor
open Go.ChangeShapes Go.WideShapes Go.ChangeAt Go.RowKit

/-! ### Plain numbers -/
theorem tdiv_bd (n y : Int) (h0 : -1152921504606846976 ≤ n) (h1 : n ≤ 1152921504606846976) :
    -1152921504606846976 ≤ n.tdiv y ∧ n.tdiv y ≤ 1152921504606846976 := by
  have h : (n.tdiv y).natAbs ≤ n.natAbs := by
    rw [Int.natAbs_tdiv]; exact Nat.div_le_self _ _
  omega
theorem wrap_tdiv (n y : Int) (h0 : -1152921504606846976 ≤ n) (h1 : n ≤ 1152921504606846976) : wrap64 (n.tdiv y) = n.tdiv y := by
  have := tdiv_bd n y h0 h1
  exact IntWalk.wrap64_in _ (by omega)
theorem wrap_ntdiv (n y : Int) (h0 : -1152921504606846976 ≤ n) (h1 : n ≤ 1152921504606846976) : wrap64 (-n.tdiv y) = -n.tdiv y := by
  have := tdiv_bd n y h0 h1
  exact IntWalk.wrap64_in _ (by omega)
theorem le_share (x y n : Int) (hy : 0 < y) (hn : 0 ≤ n) : x ≤ n.tdiv y ↔ x * y ≤ n := by
  rw [Int.tdiv_eq_ediv_of_nonneg hn, Int.le_ediv_iff_mul_le hy]
theorem ge_share (x y n : Int) (hy : 0 < y) (hn : 0 ≤ n) : -n.tdiv y ≤ x ↔ -n ≤ x * y := by
  have := le_share (-x) y n hy hn
  rw [Int.neg_mul] at this
  omega
theorem le_share' (x y n : Int) (hy : y < 0) (hn : 0 ≤ n) : x ≤ -n.tdiv y ↔ -n ≤ x * y := by
  have := le_share x (-y) n (by omega) hn
  rw [Int.tdiv_neg, Int.mul_neg] at this
  omega
theorem ge_share' (x y n : Int) (hy : y < 0) (hn : 0 ≤ n) : n.tdiv y ≤ x ↔ x * y ≤ n := by
  have := ge_share x (-y) n (by omega) hn
  rw [Int.tdiv_neg, Int.mul_neg] at this
  omega
/-- A product that wraps round is told by dividing back. -/
theorem back (x y p : Int) (hy : y ≠ 0) (h2 : -1152921504606846976 ≤ y) (h3 : y ≤ 1152921504606846975) (hp : p = wrap64 (x * y)) (hb : p.tdiv y = x) : p = x * y := by
  have h1 := Int.mul_tdiv_add_tmod p y
  rw [hb, Int.mul_comm] at h1
  have h4 : (p.tmod y).natAbs < y.natAbs := by rw [Int.natAbs_tmod]; exact Nat.mod_lt _ (by omega)
  unfold wrap64 at hp
  generalize x * y = z at *
  omega
theorem back_ok (x y : Int) (hy : y ≠ 0) (h0 : -1152921504606846976 ≤ x * y) (h1 : x * y ≤ 1152921504606846975) (h2 : -1152921504606846976 ≤ x) (h3 : x ≤ 1152921504606846975) : wrap64 (x * y) = x * y ∧ wrap64 ((wrap64 (x * y)).tdiv y) = x := by
  have e : wrap64 (x * y) = x * y := IntWalk.wrap64_in _ (by omega)
  rw [e, Int.mul_tdiv_cancel _ hy]
  exact ⟨rfl, IntWalk.wrap64_in _ (by omega)⟩
theorem tdiv_bd64 (n y : Int) (h0 : -9223372036854775808 ≤ n) (h1 : n ≤ 9223372036854775807) :
    -9223372036854775808 ≤ n.tdiv y ∧ n.tdiv y ≤ 9223372036854775808 := by
  have h : (n.tdiv y).natAbs ≤ n.natAbs := by
    rw [Int.natAbs_tdiv]; exact Nat.div_le_self _ _
  omega
theorem wrap_bd (z : Int) : -9223372036854775808 ≤ wrap64 z ∧ wrap64 z ≤ 9223372036854775807 := by unfold wrap64; omega
theorem back_no (x y : Int) (hy : y ≠ 0) (h0 : -1152921504606846976 ≤ y) (h1 : y ≤ 1152921504606846975) (h2 : -1152921504606846976 ≤ x) (h3 : x ≤ 1152921504606846975)
    (hb : wrap64 ((wrap64 (x * y)).tdiv y) = x) : wrap64 (x * y) = x * y := by
  have h4 := wrap_bd (x * y)
  have h5 := tdiv_bd64 _ y h4.1 h4.2
  have h6 : wrap64 ((wrap64 (x * y)).tdiv y) = (wrap64 (x * y)).tdiv y := by
    generalize (wrap64 (x * y)).tdiv y = q at *
    unfold wrap64 at hb ⊢
    omega
  exact back x y _ hy h0 h1 rfl (by rw [← h6]; exact hb)

/-! ### Contracts -/
theorem areInts_yes (x y : Int) (w : World) :
    Calls Tryd.prog 83 #[.int .i64 (8 * x), .int .i64 (8 * y)] w fun e w' => e = .returned (.bool true) ∧ w = w' := by
  have h1 : ((8 * x) % 8 == 0) = true := by simp
  have h2 : ((8 * y) % 8 == 0) = true := by simp
  go_enter Tryd.func83, Tryd.ntmps83
  go_wp2_with (go_at_call 91; refine (tag_any _ _).mono ?_; rintro e w' ⟨rfl, rfl⟩)
  go_ret
  exact ⟨rfl, rfl⟩
theorem value_8 (x : Int) (w : World) :
    Calls Tryd.prog 74 #[.int .i64 (8 * x)] w fun e w' => e = .returned (.int .i64 x) ∧ w = w' :=
  (value_any (8 * x) w).mono fun e w' ⟨h1, h2⟩ => ⟨by rw [h1]; exact ret_int (by omega), h2⟩
theorem product_ok (x y : Int) (w : World) (h0 : -1152921504606846976 ≤ x) (h1 : x ≤ 1152921504606846975) 
    (H : -1152921504606846976 ≤ x * y ∧ x * y ≤ 1152921504606846975) :
    Calls Tryd.prog 84 #[.int .i64 x, .int .i64 y] w fun e w' => e = .returned (.tuple #[.int .i64 (8 * (x * y)), .int .i64 0]) ∧ w = w' := by
  by_cases hy : y = 0
  · subst hy
    go_enter Tryd.func84, Tryd.ntmps84
    go_wp2_with (go_at_call 71; refine (int_ok _ _ (by omega) (by omega)).mono ?_; rintro e w' ⟨rfl, rfl⟩)
    go_ret2
    exact ⟨ret_ints (by simp) rfl, rfl⟩
  · have hb := back_ok x y hy H.1 H.2 h0 h1
    have h2 : (wrap64 ((wrap64 (x * y)).tdiv y) != x) = false := by rw [hb.2]; simp
    have h3 : (y == 0) = false := by simpa using hy
    have h4 : (y != 0) = true := by simpa using hy
    have hb' := Lib.hid hb.1; clear hb
    have H' := Lib.hid H; clear H
    go_enter Tryd.func84, Tryd.ntmps84
    go_wp2_with (go_at_call 71; refine (int_ok _ _ (by rw [hb'.out]; exact H'.out.1) (by rw [hb'.out]; exact H'.out.2)).mono ?_; rintro e w' ⟨rfl, rfl⟩)
    go_ret2
    exact ⟨ret_ints (by rw [hb'.out]) rfl, rfl⟩
theorem product_no (x y : Int) (w : World) (h0 : -1152921504606846976 ≤ x) (h1 : x ≤ 1152921504606846975) (h2 : -1152921504606846976 ≤ y) (h3 : y ≤ 1152921504606846975)
    (H : x * y < -1152921504606846976 ∨ 1152921504606846975 < x * y) :
    Calls Tryd.prog 84 #[.int .i64 x, .int .i64 y] w fun e w' => e = .returned (.tuple #[.int .i64 0, .int .i64 10]) ∧ w = w' := by
  have hy : ¬ y = 0 := by rintro rfl; simp at H
  have h5 : (y == 0) = false := by simpa using hy
  have h4 : (y != 0) = true := by simpa using hy
  by_cases hb : wrap64 ((wrap64 (x * y)).tdiv y) = x
  · have h6 : (wrap64 ((wrap64 (x * y)).tdiv y) != x) = false := by rw [hb]; simp
    have e := Lib.hid (back_no x y hy h2 h3 h0 h1 hb)
    have H' := Lib.hid H
    clear hb H
    go_enter Tryd.func84, Tryd.ntmps84
    go_wp2_with (go_at_call 71; refine (int_no _ _ (by rw [e.out]; exact H'.out)).mono ?_; rintro e w' ⟨rfl, rfl⟩)
    go_ret2
    exact ⟨rfl, rfl⟩
  · have h6 : (wrap64 ((wrap64 (x * y)).tdiv y) != x) = true := by simpa using hb
    clear hb H
    go_enter Tryd.func84, Tryd.ntmps84
    go_wp2_with fail
    go_ret2
    exact ⟨rfl, rfl⟩
/-- What R.Times answers. -/
def tm (x y : Int) (e : Ending) : Prop :=
  (-1152921504606846976 ≤ x * y ∧ x * y ≤ 1152921504606846975 → e = .returned (.tuple #[.int .i64 (x * y), .bool true])) ∧
  ((x * y < -1152921504606846976 ∨ 1152921504606846975 < x * y) → ∃ v, e = .returned (.tuple #[.int .i64 v, .bool false]))
theorem tm_yes (x y v : Int) (h : v = x * y) (h0 : -1152921504606846976 ≤ x * y ∧ x * y ≤ 1152921504606846975) : tm x y (.returned (.tuple #[.int .i64 v, .bool true])) :=
  ⟨fun _ => by rw [h], fun h1 => by omega⟩
theorem tm_no (x y v : Int) (h0 : x * y < -1152921504606846976 ∨ 1152921504606846975 < x * y) : tm x y (.returned (.tuple #[.int .i64 v, .bool false])) :=
  ⟨fun _ => by omega, fun _ => ⟨v, rfl⟩⟩
theorem tm_by (x y v : Int) (b : Bool) (h : v = x * y) (hb : b = decide (v ≤ 1152921504606846975)) (h0 : -1152921504606846976 ≤ x * y) : tm x y (.returned (.tuple #[.int .i64 v, .bool b])) := by
  by_cases hv : v ≤ 1152921504606846975
  · rw [hb, decide_eq_true hv]; exact tm_yes x y v h (by omega)
  · rw [hb, decide_eq_false hv]; exact tm_no x y v (by omega)
theorem neg_no (x y : Int) (hs : y < 0) (g : wrap64 (-Int.tdiv 1152921504606846976 y) < x ∨ x < wrap64 (Int.tdiv 1152921504606846975 y)) : x * y < -1152921504606846976 ∨ 1152921504606846975 < x * y := by
  rw [wrap_tdiv 1152921504606846975 y (by omega) (by omega), wrap_ntdiv 1152921504606846976 y (by omega) (by omega)] at g
  have c1 := le_share' x y 1152921504606846976 hs (by omega)
  have c2 := ge_share' x y 1152921504606846975 hs (by omega)
  omega
theorem neg_yes (x y : Int) (hs : y < 0) (g : x ≤ wrap64 (-Int.tdiv 1152921504606846976 y) ∧ wrap64 (Int.tdiv 1152921504606846975 y) ≤ x) : -1152921504606846976 ≤ x * y ∧ x * y ≤ 1152921504606846975 := by
  rw [wrap_tdiv 1152921504606846975 y (by omega) (by omega), wrap_ntdiv 1152921504606846976 y (by omega) (by omega)] at g
  have c1 := le_share' x y 1152921504606846976 hs (by omega)
  have c2 := ge_share' x y 1152921504606846975 hs (by omega)
  omega
theorem pos_no (x y : Int) (hs : 0 < y) (g : 1152921504606846975 / y < x ∨ x < wrap64 (-Int.tdiv 1152921504606846976 y)) : x * y < -1152921504606846976 ∨ 1152921504606846975 < x * y := by
  rw [wrap_ntdiv 1152921504606846976 y (by omega) (by omega)] at g
  have c1 := le_share x y 1152921504606846975 hs (by omega)
  have c2 := ge_share x y 1152921504606846976 hs (by omega)
  rw [Int.tdiv_eq_ediv_of_nonneg (by omega)] at c1
  omega
theorem pos_yes (x y : Int) (hs : 0 < y) (g : x ≤ 1152921504606846975 / y ∧ wrap64 (-Int.tdiv 1152921504606846976 y) ≤ x) : -1152921504606846976 ≤ x * y ∧ x * y ≤ 1152921504606846975 := by
  rw [wrap_ntdiv 1152921504606846976 y (by omega) (by omega)] at g
  have c1 := le_share x y 1152921504606846975 hs (by omega)
  have c2 := ge_share x y 1152921504606846976 hs (by omega)
  rw [Int.tdiv_eq_ediv_of_nonneg (by omega)] at c1
  omega
theorem wrap_prod (z : Int) (h : -1152921504606846976 ≤ z ∧ z ≤ 1152921504606846975) : wrap64 z = z := IntWalk.wrap64_in _ (by omega)
theorem rtimes_any (x y : Int) (w : World) (h0 : -1152921504606846976 ≤ x) (h1 : x ≤ 1152921504606846975) (h2 : -1152921504606846976 ≤ y) (h3 : y ≤ 1152921504606846975) :
    Calls Tryd.prog 77 #[.int .i64 x, .int .i64 y] w fun e w' => tm x y e ∧ ∃ n, w' = w.drewN n := by
  by_cases hx : x = 0
  · subst hx
    go_enter Tryd.func77, Tryd.ntmps77
    go_wp2_with fail
    go_ret2
    exact ⟨tm_yes _ _ _ (by simp) (by simp), 0, rfl⟩
  have a1 : (x == 0) = false := by simpa using hx
  by_cases hy : y = 0
  · subst hy
    go_enter Tryd.func77, Tryd.ntmps77
    go_wp2_with fail
    go_ret2
    exact ⟨tm_yes _ _ _ (by simp) (by simp), 0, rfl⟩
  have a2 : (y == 0) = false := by simpa using hy
  by_cases hx' : x = -1
  · subst hx'
    go_enter Tryd.func77, Tryd.ntmps77
    go_wp2_with fail
    go_ret2
    exact ⟨tm_by _ _ _ _ (by omega) rfl (by omega), 0, rfl⟩
  have a3 : (x == -1) = false := by simpa using hx'
  by_cases hy' : y = -1
  · subst hy'
    go_enter Tryd.func77, Tryd.ntmps77
    go_wp2_with fail
    go_ret2
    exact ⟨tm_by _ _ _ _ (by omega) rfl (by omega), 0, rfl⟩
  have a4 : (y == -1) = false := by simpa using hy'
  by_cases hs : y < 0
  · have hs' := Lib.hid hs
    go_enter Tryd.func77, Tryd.ntmps77
    go_wp2_with fail
    go_quiet (fail)
    go_wp2_with fail
    all_goals go_ret2
    · exact ⟨tm_no _ _ _ (neg_no _ _ hs'.out ‹_›), _, rfl⟩
    · have g := neg_yes _ _ hs'.out ‹_›
      exact ⟨tm_yes _ _ _ (wrap_prod _ g) g, _, rfl⟩
    · exact ⟨tm_no _ _ _ (neg_no _ _ hs'.out (Or.inl ‹_›)), _, rfl⟩
  · have hs' := Lib.hid (show 0 < y by omega)
    go_enter Tryd.func77, Tryd.ntmps77
    go_wp2_with fail
    go_quiet (fail)
    go_wp2_with fail
    all_goals go_ret2
    · exact ⟨tm_no _ _ _ (pos_no _ _ hs'.out ‹_›), _, rfl⟩
    · have g := pos_yes _ _ hs'.out ‹_›
      exact ⟨tm_yes _ _ _ (wrap_prod _ g) g, _, rfl⟩
    · exact ⟨tm_no _ _ _ (pos_no _ _ hs'.out (Or.inl ‹_›)), _, rfl⟩
end Go.Proofs.YtpejhilfopjckaaDoor

/-
Contracts of Reckon and Less for the words of two numbers and for all other words, and that the fixed calls at the head of each law answer true.
-/
namespace Go.Proofs.YtpejhilfopjckaaDoor
open Go.ChangeShapes Go.WideShapes Go.ChangeAt Go.RowKit
/-- What comes of an operation on numbers. -/
def opv (op x y : Int) : Int := if op = 0 then x + y else if op = 1 then x - y else if op = 2 then x * y else if op = 3 then x.tdiv y else x.tmod y
/-- May it be a number's value? -/
def Num (n : Int) : Prop := -1152921504606846976 ≤ n ∧ n ≤ 1152921504606846975
theorem tmod_bd (x y : Int) (hx : Num x) (hy : Num y) : Num (x.tmod y) := by
  unfold Num at *
  have h4 : (x.tmod y).natAbs ≤ x.natAbs := by rw [Int.natAbs_tmod]; exact Nat.mod_le _ _
  by_cases h : y = 0
  · subst h; rw [Int.tmod_zero]; exact hx
  have h5 : (x.tmod y).natAbs < y.natAbs := by rw [Int.natAbs_tmod]; exact Nat.mod_lt _ (by omega)
  omega
theorem eq0 (y : Int) : (y == 0) = true ∨ ((y == 0) = false ∧ ¬ y = 0) := by
  by_cases h : y = 0
  · exact Or.inl (by simpa using h)
  · exact Or.inr ⟨by simpa using h, h⟩
/-- A word r and an error c tell a number v, or that there is none. -/
def isAns (v r c : Int) : Prop := (Num v ∧ r = 8 * v ∧ c = 0) ∨ (¬ Num v ∧ r = 0 ∧ c = 10)
theorem not_num {n : Int} (h : ¬ Num n) : n < -1152921504606846976 ∨ 1152921504606846975 < n := by unfold Num at h; omega
theorem int_is (n r c : Int) (w : World) (h : isAns n r c) :
    Calls Tryd.prog 71 #[.int .i64 n] w fun e w' => e = .returned (.tuple #[.int .i64 r, .int .i64 c]) ∧ w = w' := by
  rcases h with ⟨h, rfl, rfl⟩ | ⟨h, rfl, rfl⟩
  · exact int_ok n w h.1 h.2
  · exact int_no n w (not_num h)
theorem product_is (x y r c : Int) (w : World) (hx : Num x) (hy : Num y) (h : isAns (x * y) r c) :
    Calls Tryd.prog 84 #[.int .i64 x, .int .i64 y] w fun e w' => e = .returned (.tuple #[.int .i64 r, .int .i64 c]) ∧ w = w' := by
  rcases h with ⟨h, rfl, rfl⟩ | ⟨h, rfl, rfl⟩
  · exact product_ok x y w hx.1 hx.2 h
  · exact product_no x y w hx.1 hx.2 hy.1 hy.2 (not_num h)
theorem num_tdiv (x y : Int) (hx : Num x) : wrap64 (x.tdiv y) = x.tdiv y := wrap_tdiv x y hx.1 (by have := hx.2; omega)
theorem rk_add (x y r c : Int) (w : World) (hx : Num x) (hy : Num y) (h : isAns (x + y) r c) :
    Calls Tryd.prog 72 #[.int .i64 0, .int .i64 (8 * x), .int .i64 (8 * y)] w fun e w' => e = .returned (.tuple #[.int .i64 r, .int .i64 c]) ∧ w = w' := by
  obtain ⟨x0, x1⟩ := hx
  obtain ⟨y0, y1⟩ := hy
  rcases eq0 y with h0 | ⟨h0, h0'⟩
  all_goals
    go_enter Tryd.func72, Tryd.ntmps72
    go_wp2_with (first | (go_at_call 83; refine (areInts_yes _ _ _).mono ?_; rintro e w' ⟨rfl, rfl⟩) | (go_at_call 74; refine (value_8 _ _).mono ?_; rintro e w' ⟨rfl, rfl⟩) | (go_at_call 71; refine (int_is _ _ _ _ h).mono ?_; rintro e w' ⟨rfl, rfl⟩))
    go_ret2
    exact ⟨rfl, rfl⟩
theorem rk_sub (x y r c : Int) (w : World) (hx : Num x) (hy : Num y) (h : isAns (x - y) r c) :
    Calls Tryd.prog 72 #[.int .i64 1, .int .i64 (8 * x), .int .i64 (8 * y)] w fun e w' => e = .returned (.tuple #[.int .i64 r, .int .i64 c]) ∧ w = w' := by
  obtain ⟨x0, x1⟩ := hx
  obtain ⟨y0, y1⟩ := hy
  rcases eq0 y with h0 | ⟨h0, h0'⟩
  all_goals
    go_enter Tryd.func72, Tryd.ntmps72
    go_wp2_with (first | (go_at_call 83; refine (areInts_yes _ _ _).mono ?_; rintro e w' ⟨rfl, rfl⟩) | (go_at_call 74; refine (value_8 _ _).mono ?_; rintro e w' ⟨rfl, rfl⟩) | (go_at_call 71; refine (int_is _ _ _ _ h).mono ?_; rintro e w' ⟨rfl, rfl⟩))
    go_ret2
    exact ⟨rfl, rfl⟩
theorem rk_mul (x y r c : Int) (w : World) (hx : Num x) (hy : Num y) (h : isAns (x * y) r c) :
    Calls Tryd.prog 72 #[.int .i64 2, .int .i64 (8 * x), .int .i64 (8 * y)] w fun e w' => e = .returned (.tuple #[.int .i64 r, .int .i64 c]) ∧ w = w' := by
  rcases eq0 y with h0 | ⟨h0, h0'⟩
  all_goals
    go_enter Tryd.func72, Tryd.ntmps72
    go_wp2_with (first | (go_at_call 83; refine (areInts_yes _ _ _).mono ?_; rintro e w' ⟨rfl, rfl⟩) | (go_at_call 74; refine (value_8 _ _).mono ?_; rintro e w' ⟨rfl, rfl⟩) | (go_at_call 84; refine (product_is _ _ _ _ _ hx hy h).mono ?_; rintro e w' ⟨rfl, rfl⟩))
    go_ret2
    exact ⟨rfl, rfl⟩
theorem rk_quo (x y r c : Int) (w : World) (h0 : (y == 0) = false) (h0' : ¬ y = 0) (h : isAns (wrap64 (x.tdiv y)) r c) :
    Calls Tryd.prog 72 #[.int .i64 3, .int .i64 (8 * x), .int .i64 (8 * y)] w fun e w' => e = .returned (.tuple #[.int .i64 r, .int .i64 c]) ∧ w = w' := by
  go_enter Tryd.func72, Tryd.ntmps72
  go_wp2_with (first | (go_at_call 83; refine (areInts_yes _ _ _).mono ?_; rintro e w' ⟨rfl, rfl⟩) | (go_at_call 74; refine (value_8 _ _).mono ?_; rintro e w' ⟨rfl, rfl⟩) | (go_at_call 71; refine (int_is _ _ _ _ h).mono ?_; rintro e w' ⟨rfl, rfl⟩))
  go_ret2
  exact ⟨rfl, rfl⟩
theorem rk_rem (x y r c : Int) (w : World) (h0 : (y == 0) = false) (h0' : ¬ y = 0) (h : isAns (x.tmod y) r c) :
    Calls Tryd.prog 72 #[.int .i64 4, .int .i64 (8 * x), .int .i64 (8 * y)] w fun e w' => e = .returned (.tuple #[.int .i64 r, .int .i64 c]) ∧ w = w' := by
  go_enter Tryd.func72, Tryd.ntmps72
  go_wp2_with (first | (go_at_call 83; refine (areInts_yes _ _ _).mono ?_; rintro e w' ⟨rfl, rfl⟩) | (go_at_call 74; refine (value_8 _ _).mono ?_; rintro e w' ⟨rfl, rfl⟩) | (go_at_call 71; refine (int_is _ _ _ _ h).mono ?_; rintro e w' ⟨rfl, rfl⟩))
  go_ret2
  exact ⟨rfl, rfl⟩
theorem rk_zero (op x y : Int) (w : World) (h : op = 3 ∨ op = 4) (h0 : (y == 0) = true) :
    Calls Tryd.prog 72 #[.int .i64 op, .int .i64 (8 * x), .int .i64 (8 * y)] w fun e w' => e = .returned (.tuple #[.int .i64 0, .int .i64 11]) ∧ w = w' := by
  rcases h with rfl | rfl
  all_goals
    go_enter Tryd.func72, Tryd.ntmps72
    go_wp2_with (first | (go_at_call 83; refine (areInts_yes _ _ _).mono ?_; rintro e w' ⟨rfl, rfl⟩) | (go_at_call 74; refine (value_8 _ _).mono ?_; rintro e w' ⟨rfl, rfl⟩))
    go_ret2
    exact ⟨rfl, rfl⟩
end Go.Proofs.YtpejhilfopjckaaDoor

/-
Contracts of the document's Reckon, for the words of two numbers and for all other words.
-/
namespace Go.Proofs.YtpejhilfopjckaaDoor
open Go.ChangeShapes Go.WideShapes Go.ChangeAt Go.RowKit
theorem rtag_8 (x : Int) (w : World) :
    Calls Tryd.prog 76 #[.int .i64 (8 * x)] w fun e w' => e = .returned (.int .i64 0) ∧ w = w' :=
  (rtag_any (8 * x) w).mono fun e w' ⟨h1, h2⟩ => ⟨by rw [h1]; exact ret_int (by omega), h2⟩
theorem rvalue_8 (x : Int) (w : World) (hx : Num x) :
    Calls Tryd.prog 57 #[.int .i64 (8 * x)] w fun e w' => e = .returned (.int .i64 x) ∧ w = w' :=
  (rvalue_any (8 * x) w (by have := hx.1; omega) (by have := hx.2; omega)).mono fun e w' ⟨h1, h2⟩ => ⟨by rw [h1]; exact ret_int (by omega), h2⟩
theorem told_ok {v u r c : Int} (h : isAns v r c) (hn : -1152921504606846976 ≤ u ∧ u ≤ 1152921504606846975) (hv : v = u) : Ending.returned (.tuple #[.int .i64 (8 * u), .int .i64 0]) = .returned (.tuple #[.int .i64 r, .int .i64 c]) := by
  subst hv
  rcases h with ⟨_, rfl, rfl⟩ | ⟨g, _⟩
  · rfl
  · exact absurd hn g
theorem told_no {v u r c : Int} (h : isAns v r c) (hn : u < -1152921504606846976 ∨ 1152921504606846975 < u) (hv : v = u) : Ending.returned (.tuple #[.int .i64 0, .int .i64 10]) = .returned (.tuple #[.int .i64 r, .int .i64 c]) := by
  subst hv
  rcases h with ⟨g, _⟩ | ⟨_, rfl, rfl⟩
  · unfold Num at g; omega
  · rfl
theorem rem_num (x y : Int) (hx : Num x) (hy : Num y) : x.tmod y = wrap64 (x - wrap64 (wrap64 (x.tdiv y) * y)) := by
  have h1 := tmod_bd x y hx hy
  have h2 := num_tdiv x y hx
  have h3 := Int.tmod_def x y
  have h4 : x.tdiv y * y = y * x.tdiv y := Int.mul_comm _ _
  unfold Num at *
  rw [h2, h4]
  generalize y * x.tdiv y = z at *
  rw [IntWalk.wrap64_in z (by omega), IntWalk.wrap64_in (x - z) (by omega)]
  exact h3
theorem rrk_add (x y r c : Int) (w : World) (hx : Num x) (hy : Num y) (h : isAns (x + y) r c) :
    Calls Tryd.prog 56 #[.int .i64 0, .int .i64 (8 * x), .int .i64 (8 * y)] w fun e w' => e = .returned (.tuple #[.int .i64 r, .int .i64 c]) ∧ ∃ n, w' = w.drewN n := by
  obtain ⟨x0, x1⟩ := id hx
  obtain ⟨y0, y1⟩ := id hy
  go_enter Tryd.func56, Tryd.ntmps56
  go_wp2_with (first | (go_at_call 76; ((with_reducible refine (rtag_8 _ _).mono ?_); rintro e w' ⟨rfl, rfl⟩)) | (go_at_call 57; ((with_reducible refine (rvalue_8 _ _ ‹_›).mono ?_); rintro e w' ⟨rfl, rfl⟩)))
  all_goals go_ret2
  · exact ⟨told_no h ‹_› rfl, 0, rfl⟩
  · exact ⟨told_ok h ‹_› rfl, 0, rfl⟩
  · exact ⟨told_no h (Or.inl ‹_›) rfl, 0, rfl⟩
theorem rrk_sub (x y r c : Int) (w : World) (hx : Num x) (hy : Num y) (h : isAns (x - y) r c) :
    Calls Tryd.prog 56 #[.int .i64 1, .int .i64 (8 * x), .int .i64 (8 * y)] w fun e w' => e = .returned (.tuple #[.int .i64 r, .int .i64 c]) ∧ ∃ n, w' = w.drewN n := by
  obtain ⟨x0, x1⟩ := id hx
  obtain ⟨y0, y1⟩ := id hy
  go_enter Tryd.func56, Tryd.ntmps56
  go_wp2_with (first | (go_at_call 76; ((with_reducible refine (rtag_8 _ _).mono ?_); rintro e w' ⟨rfl, rfl⟩)) | (go_at_call 57; ((with_reducible refine (rvalue_8 _ _ ‹_›).mono ?_); rintro e w' ⟨rfl, rfl⟩)))
  all_goals go_ret2
  · exact ⟨told_no h ‹_› rfl, 0, rfl⟩
  · exact ⟨told_ok h ‹_› rfl, 0, rfl⟩
  · exact ⟨told_no h (Or.inl ‹_›) rfl, 0, rfl⟩
theorem rrk_quo (x y r c : Int) (w : World) (hx : Num x) (hy : Num y) (h0 : (y == 0) = false) (h0' : ¬ y = 0) (h : isAns (wrap64 (x.tdiv y)) r c) :
    Calls Tryd.prog 56 #[.int .i64 3, .int .i64 (8 * x), .int .i64 (8 * y)] w fun e w' => e = .returned (.tuple #[.int .i64 r, .int .i64 c]) ∧ ∃ n, w' = w.drewN n := by
  go_enter Tryd.func56, Tryd.ntmps56
  go_wp2_with (first | (go_at_call 76; ((with_reducible refine (rtag_8 _ _).mono ?_); rintro e w' ⟨rfl, rfl⟩)) | (go_at_call 57; ((with_reducible refine (rvalue_8 _ _ ‹_›).mono ?_); rintro e w' ⟨rfl, rfl⟩)))
  all_goals (first | go_ret2 | skip)
  · exact ⟨told_no h ‹_› rfl, 0, rfl⟩
  · exact ⟨told_ok h ‹_› rfl, 0, rfl⟩
  · exact ⟨told_no h (Or.inl ‹_›) rfl, 0, rfl⟩
theorem rrk_rem (x y r c : Int) (w : World) (hx : Num x) (hy : Num y) (h0 : (y == 0) = false) (h0' : ¬ y = 0) (h : isAns (x.tmod y) r c) :
    Calls Tryd.prog 56 #[.int .i64 4, .int .i64 (8 * x), .int .i64 (8 * y)] w fun e w' => e = .returned (.tuple #[.int .i64 r, .int .i64 c]) ∧ ∃ n, w' = w.drewN n := by
  have g := Lib.hid (rem_num x y hx hy)
  go_enter Tryd.func56, Tryd.ntmps56
  go_wp2_with (first | (go_at_call 76; ((with_reducible refine (rtag_8 _ _).mono ?_); rintro e w' ⟨rfl, rfl⟩)) | (go_at_call 57; ((with_reducible refine (rvalue_8 _ _ ‹_›).mono ?_); rintro e w' ⟨rfl, rfl⟩)))
  all_goals (first | go_ret2 | skip)
  · exact ⟨told_no h ‹_› g.out, 0, rfl⟩
  · exact ⟨told_ok h ‹_› g.out, 0, rfl⟩
  · exact ⟨told_no h (Or.inl ‹_›) g.out, 0, rfl⟩
theorem rrk_mul (x y r c : Int) (w : World) (hx : Num x) (hy : Num y) (h : isAns (x * y) r c) :
    Calls Tryd.prog 56 #[.int .i64 2, .int .i64 (8 * x), .int .i64 (8 * y)] w fun e w' => e = .returned (.tuple #[.int .i64 r, .int .i64 c]) ∧ ∃ n, w' = w.drewN n := by
  obtain ⟨x0, x1⟩ := id hx
  obtain ⟨y0, y1⟩ := id hy
  by_cases hn : Num (x * y)
  · obtain ⟨b0, b1⟩ := id hn
    go_enter Tryd.func56, Tryd.ntmps56
    go_wp2_with (first | (go_at_call 76; ((with_reducible refine (rtag_8 _ _).mono ?_); rintro e w' ⟨rfl, rfl⟩)) | (go_at_call 57; ((with_reducible refine (rvalue_8 _ _ ‹_›).mono ?_); rintro e w' ⟨rfl, rfl⟩)) | (go_at_call 77; ((with_reducible refine (rtimes_any _ _ _ x0 x1 y0 y1).mono ?_); rintro e w' ⟨he, n, rfl⟩; obtain rfl := he.1 hn; clear he)))
    all_goals go_ret2
    exact ⟨told_ok h hn rfl, _, rfl⟩
  · have hn' := not_num hn
    have H := Lib.hid hn'; clear hn'
    go_enter Tryd.func56, Tryd.ntmps56
    go_wp2_with (first | (go_at_call 76; ((with_reducible refine (rtag_8 _ _).mono ?_); rintro e w' ⟨rfl, rfl⟩)) | (go_at_call 57; ((with_reducible refine (rvalue_8 _ _ ‹_›).mono ?_); rintro e w' ⟨rfl, rfl⟩)) | (go_at_call 77; ((with_reducible refine (rtimes_any _ _ _ x0 x1 y0 y1).mono ?_); rintro e w' ⟨he, n, rfl⟩; obtain ⟨v, rfl⟩ := he.2 H.out; clear he)))
    all_goals go_ret2
    exact ⟨told_no h H.out rfl, _, rfl⟩
theorem rrk_zero (op x y : Int) (w : World) (hx : Num x) (hy : Num y) (h : op = 3 ∨ op = 4) (h0 : (y == 0) = true) :
    Calls Tryd.prog 56 #[.int .i64 op, .int .i64 (8 * x), .int .i64 (8 * y)] w fun e w' => e = .returned (.tuple #[.int .i64 0, .int .i64 11]) ∧ ∃ n, w' = w.drewN n := by
  rcases h with rfl | rfl
  all_goals
    go_enter Tryd.func56, Tryd.ntmps56
    go_wp2_with (first | (go_at_call 76; ((with_reducible refine (rtag_8 _ _).mono ?_); rintro e w' ⟨rfl, rfl⟩)) | (go_at_call 57; ((with_reducible refine (rvalue_8 _ _ ‹_›).mono ?_); rintro e w' ⟨rfl, rfl⟩)))
    go_ret2
    exact ⟨rfl, 0, rfl⟩
end Go.Proofs.YtpejhilfopjckaaDoor
