/-
The law TaggedReckons of layer 1 holds: for every three ints the call returns true and leaves its arguments as they were. No condition.
-/
import Derived.Test.YthilplfoodlebaaTry6
import Derived.Test.YthilplfoodlebaaRows
import Derived.WalkKit
import Derived.ProofKit
import Derived.OpenShut
namespace Go.Proofs.Ythilplfoodlebaa.taggedReckons
open Go.ChangeShapes Go.WideShapes Go.ChangeAt Go.RowKit
set_option linter.unusedVariables false      -- a walk need not use every 'w<i>' (that an integer argument fits its kind)

theorem own : ownKnob Try.prog.godebug = none := by kernel_rfl

/-! ### STEP 1: THE WALK: the Go text returns true. 'Grown w w'': the world has at most new blocks (Derived/RowKit3.lean). Part the cases AHEAD of 'go_enter' where a test parts the walk; take each callee by a contract of your own. -/
theorem rk_told (op x y r c : Int) (w : World) (hx : Num x) (hy : Num y) (h0 : 0 ≤ op) (h4 : op ≤ 4) (h : (y = 0 ∧ 3 ≤ op ∧ r = 0 ∧ c = 11) ∨ (¬ (y = 0 ∧ 3 ≤ op) ∧ isAns (opv op x y) r c)) :
    Calls Try.prog 22 #[.int .i64 op, .int .i64 (8 * x), .int .i64 (8 * y)] w fun e w' => e = .returned (.tuple #[.int .i64 r, .int .i64 c]) ∧ w = w' := by
  rcases h with ⟨rfl, h, rfl, rfl⟩ | ⟨g, h⟩
  · exact rk_zero op x 0 w (by omega) (by decide)
  · have e : op = 0 ∨ op = 1 ∨ op = 2 ∨ op = 3 ∨ op = 4 := by omega
    rcases e with rfl | rfl | rfl | rfl | rfl
    · exact rk_add x y r c w hx hy h
    · exact rk_sub x y r c w hx hy h
    · exact rk_mul x y r c w hx hy h
    · have y0 : ¬ y = 0 := by omega
      exact rk_quo x y r c w (by simpa using y0) y0 (by rw [num_tdiv _ _ hx]; exact h)
    · have y0 : ¬ y = 0 := by omega
      exact rk_rem x y r c w (by simpa using y0) y0 h
theorem rrk_told (op x y r c : Int) (w : World) (hx : Num x) (hy : Num y) (h0 : 0 ≤ op) (h4 : op ≤ 4) (h : (y = 0 ∧ 3 ≤ op ∧ r = 0 ∧ c = 11) ∨ (¬ (y = 0 ∧ 3 ≤ op) ∧ isAns (opv op x y) r c)) :
    Calls Try.prog 23 #[.int .i64 op, .int .i64 (8 * x), .int .i64 (8 * y)] w fun e w' => e = .returned (.tuple #[.int .i64 r, .int .i64 c]) ∧ ∃ n, w' = w.drewN n := by
  rcases h with ⟨rfl, h, rfl, rfl⟩ | ⟨g, h⟩
  · exact rrk_zero op x 0 w hx hy (by omega) (by decide)
  · have e : op = 0 ∨ op = 1 ∨ op = 2 ∨ op = 3 ∨ op = 4 := by omega
    rcases e with rfl | rfl | rfl | rfl | rfl
    · exact rrk_add x y r c w hx hy h
    · exact rrk_sub x y r c w hx hy h
    · exact rrk_mul x y r c w hx hy h
    · have y0 : ¬ y = 0 := by omega
      exact rrk_quo x y r c w hx hy (by simpa using y0) y0 (by rw [num_tdiv _ _ hx]; exact h)
    · have y0 : ¬ y = 0 := by omega
      exact rrk_rem x y r c w hx hy (by simpa using y0) y0 h
theorem told_some (op x y : Int) : ∃ r c, (y = 0 ∧ 3 ≤ op ∧ r = 0 ∧ c = 11) ∨ (¬ (y = 0 ∧ 3 ≤ op) ∧ isAns (opv op x y) r c) := by
  by_cases h : y = 0 ∧ 3 ≤ op
  · exact ⟨0, 11, Or.inl ⟨h.1, h.2, rfl, rfl⟩⟩
  · obtain ⟨r, c, A⟩ := isAns_some (opv op x y)
    exact ⟨r, c, Or.inr ⟨h, A⟩⟩
/-- What both answer, and the tags and values, for any two words. -/
theorem rk_both (op a b : Int) (ha : -9223372036854775808 ≤ a ∧ a ≤ 9223372036854775807) (hb : -9223372036854775808 ≤ b ∧ b ≤ 9223372036854775807) : ∃ r c : Int,
    (∀ w, Calls Try.prog 22 #[.int .i64 op, .int .i64 a, .int .i64 b] w fun e w' => e = .returned (.tuple #[.int .i64 r, .int .i64 c]) ∧ w = w') ∧
    (∀ w, Calls Try.prog 23 #[.int .i64 op, .int .i64 a, .int .i64 b] w fun e w' => e = .returned (.tuple #[.int .i64 r, .int .i64 c]) ∧ ∃ n, w' = w.drewN n) := by
  by_cases h : op < 0 ∨ 4 < op
  · exact ⟨0, 1, fun w => rk_arg op a b w h, fun w => rrk_arg op a b w h⟩
  by_cases g : a % 8 = 0 ∧ b % 8 = 0
  · obtain ⟨x, rfl⟩ : ∃ x, a = 8 * x := ⟨a / 8, by omega⟩
    obtain ⟨y, rfl⟩ : ∃ y, b = 8 * y := ⟨b / 8, by omega⟩
    have hx : Num x := by unfold Num; omega
    have hy : Num y := by unfold Num; omega
    obtain ⟨r, c, A⟩ := told_some op x y
    exact ⟨r, c, fun w => rk_told op x y r c w hx hy (by omega) (by omega) A, fun w => rrk_told op x y r c w hx hy (by omega) (by omega) A⟩
  · exact ⟨0, 12, fun w => rk_type op a b w (by omega) (by omega) g, fun w => rrk_type op a b w (by omega) (by omega) g⟩
theorem walk (a0 : Int) (a1 : Int) (a2 : Int) (w0 : (Lit.int .i64 a0).wf = true) (w1 : (Lit.int .i64 a1).wf = true) (w2 : (Lit.int .i64 a2).wf = true) (w : World) :
    Calls Try.prog 4 #[.int .i64 a0, .int .i64 a1, .int .i64 a2] w fun e w' => e = .returned (.bool true) ∧ Grown w w' := by
  obtain ⟨b0, b1⟩ := bounds_of a1 w1
  obtain ⟨b2, b3⟩ := bounds_of a2 w2
  obtain ⟨r, c, R1, R2⟩ := rk_both a0 a1 a2 ⟨b0, b1⟩ ⟨b2, b3⟩
  have H1 := Lib.hid R1
  have H2 := Lib.hid R2
  clear R1 R2
  by_cases g : a1 % 8 = 0 ∧ a2 % 8 = 0
  · obtain ⟨x, hx⟩ : ∃ x, a1 = 8 * x := ⟨a1 / 8, by omega⟩
    obtain ⟨y, hy⟩ : ∃ y, a2 = 8 * y := ⟨a2 / 8, by omega⟩
    have nx : Num x := by unfold Num; omega
    have ny : Num y := by unfold Num; omega
    subst hx hy
    clear g
    go_enter Try.func4, Try.ntmps4
    go_wp2_with (first | (go_at_call 22; ((with_reducible refine (H1.out _).mono ?_); rintro e w' ⟨rfl, rfl⟩)) | (go_at_call 23; ((with_reducible refine (H2.out _).mono ?_); rintro e w' ⟨rfl, n, rfl⟩)) | (go_at_call 24; ((with_reducible refine (less_any _ _ _).mono ?_); rintro e w' ⟨rfl, rfl⟩)) | (go_at_call 16; ((with_reducible refine (fixed_any _).mono ?_); rintro e w' ⟨rfl, rfl⟩)) | (go_at_call 19; ((with_reducible refine (rtag_8 _ _).mono ?_); rintro e w' ⟨rfl, rfl⟩)) | (go_at_call 21; ((with_reducible refine (rvalue_8 _ _ nx).mono ?_); rintro e w' ⟨rfl, rfl⟩)) | (go_at_call 21; ((with_reducible refine (rvalue_8 _ _ ny).mono ?_); rintro e w' ⟨rfl, rfl⟩)))
    go_ret
    exact ⟨rfl, by repeat (first | exact Grown.refl _ | apply Grown.drew | apply Grown.alloc)⟩
  · have G := Lib.hid g
    have t : (a1 % 8 != 0) = true ∨ ((a1 % 8 != 0) = false ∧ (a2 % 8 != 0) = true) := by simp; omega
    clear g
    rcases t with t | ⟨t, t'⟩
    all_goals
      go_enter Try.func4, Try.ntmps4
      go_wp2_with (first | (go_at_call 22; ((with_reducible refine (H1.out _).mono ?_); rintro e w' ⟨rfl, rfl⟩)) | (go_at_call 23; ((with_reducible refine (H2.out _).mono ?_); rintro e w' ⟨rfl, n, rfl⟩)) | (go_at_call 24; ((with_reducible refine (less_type _ _ _ G.out).mono ?_); rintro e w' ⟨rfl, rfl⟩)) | (go_at_call 16; ((with_reducible refine (fixed_any _).mono ?_); rintro e w' ⟨rfl, rfl⟩)) | (go_at_call 19; ((with_reducible refine (rtag_any _ _).mono ?_); rintro e w' ⟨rfl, rfl⟩)))
    all_goals go_ret
    all_goals exact ⟨rfl, by repeat (first | exact Grown.refl _ | apply Grown.drew | apply Grown.alloc)⟩

/-! ### THE ROW's STEP: WRITTEN OUT: LEAVE IT -/
set_option maxRecDepth 100000 in
theorem lifted (os : Os) (started : os.Started) (H : Type) (enc : TypeId × Value → H) :
    ReturnsInHanded {} Try.checked os 4 .any (Rows.taggedReckonsSpec.pre6 enc Try.prog Try.f4 Rows.taggedReckonsRow.domain false) (Rows.taggedReckonsSpec.post enc Try.prog Try.f4 false true false false) := by
  refine returnsInHanded_of_change (C := Try.checked) own started (by kernel_rfl) Try.func4
    (ChangeSpec.witness6 (enc := enc) (C := Try.checked) false ⟨#[], #[.int .i64 0, .int .i64 0, .int .i64 0], []⟩ 8 (by kernel_rfl) (by kernel_rfl) (by kernel_rfl) (by kernel_rfl)) ?_
  intro W base args ds gs before hval0 hW hcnd _
  have hval : ∀ (j : Nat) t v, Try.f4.params[j]? = some t → args[j]? = some v → Value.okWide Try.prog W .any base t v := hval0
  have hW' := hW
  obtain ⟨p, q, hA0, hV, rfl, hfz, hnd⟩ := hW
  have hA : DataW.TrodAll enc Try.prog W 0 (fun _ => true) true Try.f4.params.toList args.toList ds p := hA0
  rw [Try.params4] at hA hval
  obtain ⟨v0, vs0, d0, ds0, p0, q0, hargs, rfl, rfl, h0, r0⟩ := trodAll_cons hA
  obtain ⟨v1, vs1, d1, ds1, p1, q1, rfl, rfl, rfl, h1, r1⟩ := trodAll_cons r0
  obtain ⟨v2, vs2, d2, ds2, p2, q2, rfl, rfl, rfl, h2, r2⟩ := trodAll_cons r1
  obtain ⟨rfl, rfl, rfl⟩ := trodAll_nil r2
  obtain rfl : args = #[v0, v1, v2] := by cases args; simp_all
  obtain ⟨rfl, rfl⟩ := trodVars_none hV
  obtain ⟨a0, rfl, rfl, rfl, w0⟩ := open_int Try.underlying3 (hval 0 3 v0 rfl rfl) h0
  obtain ⟨a1, rfl, rfl, rfl, w1⟩ := open_int Try.underlying3 (hval 1 3 v1 rfl rfl) h1
  obtain ⟨a2, rfl, rfl, rfl, w2⟩ := open_int Try.underlying3 (hval 2 3 v2 rfl rfl) h2
  clear hA0 hval0
  simp only [List.append_nil] at hW'
  refine (walk a0 a1 a2 w0 w1 w2 W).mono fun e W' ⟨he, hg⟩ => ?_
  subst he
  exact ⟨_, rfl, post_of_same (pa := []) (pv := []) hW' (fun _ _ _ => (trodAll_cons_mk (shut_bool Try.underlying4 _) trodAll_mk0)) (fun sp _ => (trodAll_cons_mk (shut_int Try.underlying3 w0) (trodAll_cons_mk (shut_int Try.underlying3 w1) (trodAll_cons_mk (shut_int Try.underlying3 w2) trodAll_mk0)))) (fun _ _ => rfl) rfl
    (hg.frame _) hg.2.1 (ok_one (by kernel_rfl) rfl (okWide_bool_mk Try.underlying4 _))⟩

theorem over : Rows.taggedReckonsRow.holds Try.pinned (OpenSpec.ofChange Rows.taggedReckonsSpec) :=
  OpenClaim.holds_of_wide 4 Try.f4 rfl rfl rfl rfl rfl rfl rfl ⟨rfl, rfl, rfl, rfl, rfl⟩ rfl rfl rfl rfl rfl (by kernel_rfl) Try.func4 (by kernel_rfl)
    (of_decide_eq_true (by kernel_rfl)) (by unfold Func.isWrapper; first | (rw [if_pos (by decide +kernel)]; kernel_rfl) | (rw [if_neg (by decide +kernel)]; exact ⟨rfl, rfl⟩))
    (fun os started H enc _ => lifted os started H enc)

/-- ████ THE STATEMENT ████ -/
theorem proved : Rows.TaggedReckonsSaid :=
  over
#print axioms proved
end Go.Proofs.Ythilplfoodlebaa.taggedReckons
