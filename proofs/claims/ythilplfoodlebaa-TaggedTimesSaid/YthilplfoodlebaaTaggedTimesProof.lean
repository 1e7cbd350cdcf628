/-
The law TaggedTimes of layer 1 holds: for every two ints the call returns true and leaves its arguments as they were. No condition.
-/
import Derived.Test.YthilplfoodlebaaTry5
import Derived.Test.YthilplfoodlebaaRows
import Derived.WalkKit
import Derived.ProofKit
import Derived.OpenShut
namespace Go.Proofs.Ythilplfoodlebaa.taggedTimes
open Go.ChangeShapes Go.WideShapes Go.ChangeAt Go.RowKit
set_option linter.unusedVariables false      -- a walk need not use every 'w<i>' (that an integer argument fits its kind)

theorem own : ownKnob Try.prog.godebug = none := by kernel_rfl

/-! ### STEP 1: THE WALK: the Go text returns true. 'Grown w w'': the world has at most new blocks (Derived/RowKit3.lean). Part the cases AHEAD of 'go_enter' where a test parts the walk; take each callee by a contract of your own. -/
theorem isAns_mulcomm {x y r c : Int} (h : isAns (x * y) r c) : isAns (y * x) r c := by rw [Int.mul_comm]; exact h
theorem not0 {x y : Int} (h : ¬ Num (x * y)) : (x != 0) = true ∧ (y != 0) = true := by
  constructor
  · by_cases g : x = 0
    · subst g; exact absurd (by rw [Int.zero_mul]; exact ⟨by decide, by decide⟩) h
    · simpa using g
  · by_cases g : y = 0
    · subst g; exact absurd (by rw [Int.mul_zero]; exact ⟨by decide, by decide⟩) h
    · simpa using g
theorem quo_back {x y : Int} (hx : Num x) (hy : ¬ y = 0) : isAns (wrap64 ((x * y).tdiv y)) (8 * x) 0 := by
  rw [Int.mul_tdiv_cancel _ hy, IntWalk.wrap64_in x (by unfold Num at hx; omega)]
  exact isAns_yes hx
theorem rem_back {x y : Int} : isAns ((x * y).tmod y) 0 0 := by
  rw [Int.mul_tmod_left]
  exact Or.inl ⟨⟨by decide, by decide⟩, by decide, rfl⟩
theorem walk (a0 : Int) (a1 : Int) (w0 : (Lit.int .i64 a0).wf = true) (w1 : (Lit.int .i64 a1).wf = true) (w : World) :
    Calls Try.prog 9 #[.int .i64 a0, .int .i64 a1] w fun e w' => e = .returned (.bool true) ∧ Grown w w' := by
  by_cases h0 : Num a0
  · by_cases h1 : Num a1
    · have A0 := isAns_yes h0
      have A1 := isAns_yes h1
      by_cases h2 : Num (a0 * a1)
      · have A2 := isAns_yes h2
        have A3 := isAns_mulcomm A2
        by_cases hm : a1 = 0
        · have z1 : (a1 == 0) = true := by simpa using hm
          have z2 : (8 * (a0 * a1) == 0) = true := by rw [hm]; simp
          clear hm
          go_enter Try.func9, Try.ntmps9
          go_wp2_with (first | (go_at_call 10; ((with_reducible refine (int_is _ _ _ _ A0).mono ?_); rintro e w' ⟨rfl, rfl⟩)) | (go_at_call 10; ((with_reducible refine (int_is _ _ _ _ A1).mono ?_); rintro e w' ⟨rfl, rfl⟩)) | (go_at_call 16; ((with_reducible refine (fixed_any _).mono ?_); rintro e w' ⟨rfl, rfl⟩)) | (go_at_call 22; ((with_reducible refine (rk_mul _ _ _ _ _ h0 h1 A2).mono ?_); rintro e w' ⟨rfl, rfl⟩)) | (go_at_call 22; ((with_reducible refine (rk_mul _ _ _ _ _ h1 h0 A3).mono ?_); rintro e w' ⟨rfl, rfl⟩)))
          go_ret
          exact ⟨rfl, Grown.refl _⟩
        · have z1 : (a1 == 0) = false := by simpa using hm
          by_cases hn : a0 = 0
          · have z2 : (8 * (a0 * a1) == 0) = true := by rw [hn]; simp
            have z3 : (a0 == 0) = true := by simpa using hn
            clear hn
            go_enter Try.func9, Try.ntmps9
            go_wp2_with (first | (go_at_call 10; ((with_reducible refine (int_is _ _ _ _ A0).mono ?_); rintro e w' ⟨rfl, rfl⟩)) | (go_at_call 10; ((with_reducible refine (int_is _ _ _ _ A1).mono ?_); rintro e w' ⟨rfl, rfl⟩)) | (go_at_call 16; ((with_reducible refine (fixed_any _).mono ?_); rintro e w' ⟨rfl, rfl⟩)) | (go_at_call 22; ((with_reducible refine (rk_mul _ _ _ _ _ h0 h1 A2).mono ?_); rintro e w' ⟨rfl, rfl⟩)) | (go_at_call 22; ((with_reducible refine (rk_mul _ _ _ _ _ h1 h0 A3).mono ?_); rintro e w' ⟨rfl, rfl⟩)))
            go_ret
            exact ⟨rfl, Grown.refl _⟩
          · have z3 : (a0 == 0) = false := by simpa using hn
            have B1 := quo_back h0 hm
            have B2 := @rem_back a0 a1
            have s : (decide (a0 < 0) = true ∧ decide (a1 < 0) = true ∧ decide (a0 * a1 < 0) = false) ∨ (decide (a0 < 0) = true ∧ decide (a1 < 0) = false ∧ decide (a0 * a1 < 0) = true) ∨ (decide (a0 < 0) = false ∧ decide (a1 < 0) = true ∧ decide (a0 * a1 < 0) = true) ∨ (decide (a0 < 0) = false ∧ decide (a1 < 0) = false ∧ decide (a0 * a1 < 0) = false) := by
              simp only [decide_eq_true_eq, decide_eq_false_iff_not]
              by_cases p : a0 < 0 <;> by_cases q : a1 < 0
              · exact Or.inl ⟨p, q, by have := Int.mul_pos_of_neg_of_neg p q; omega⟩
              · exact Or.inr (Or.inl ⟨p, q, Int.mul_neg_of_neg_of_pos p (by omega)⟩)
              · exact Or.inr (Or.inr (Or.inl ⟨p, q, Int.mul_neg_of_pos_of_neg (by omega) q⟩))
              · exact Or.inr (Or.inr (Or.inr ⟨p, q, by have : 0 < a0 * a1 := Int.mul_pos (by omega) (by omega); omega⟩))
            rcases s with ⟨s1, s2, s3⟩ | ⟨s1, s2, s3⟩ | ⟨s1, s2, s3⟩ | ⟨s1, s2, s3⟩
            all_goals
              go_enter Try.func9, Try.ntmps9
              go_wp2_with (first | (go_at_call 10; ((with_reducible refine (int_is _ _ _ _ A0).mono ?_); rintro e w' ⟨rfl, rfl⟩)) | (go_at_call 10; ((with_reducible refine (int_is _ _ _ _ A1).mono ?_); rintro e w' ⟨rfl, rfl⟩)) | (go_at_call 16; ((with_reducible refine (fixed_any _).mono ?_); rintro e w' ⟨rfl, rfl⟩)) | (go_at_call 22; ((with_reducible refine (rk_mul _ _ _ _ _ h0 h1 A2).mono ?_); rintro e w' ⟨rfl, rfl⟩)) | (go_at_call 22; ((with_reducible refine (rk_mul _ _ _ _ _ h1 h0 A3).mono ?_); rintro e w' ⟨rfl, rfl⟩)) | (go_at_call 22; ((with_reducible refine (rk_quo _ _ _ _ _ z1 hm B1).mono ?_); rintro e w' ⟨rfl, rfl⟩)) | (go_at_call 22; ((with_reducible refine (rk_rem _ _ _ _ _ z1 hm B2).mono ?_); rintro e w' ⟨rfl, rfl⟩)) | (go_at_call 20; ((with_reducible refine (value_8 _ _).mono ?_); rintro e w' ⟨rfl, rfl⟩)))
              go_ret
              exact ⟨rfl, Grown.refl _⟩
      · have A2 := isAns_no h2
        have A3 := isAns_mulcomm A2
        obtain ⟨z1, z2⟩ := not0 h2
        go_enter Try.func9, Try.ntmps9
        go_wp2_with (first | (go_at_call 10; ((with_reducible refine (int_is _ _ _ _ A0).mono ?_); rintro e w' ⟨rfl, rfl⟩)) | (go_at_call 10; ((with_reducible refine (int_is _ _ _ _ A1).mono ?_); rintro e w' ⟨rfl, rfl⟩)) | (go_at_call 16; ((with_reducible refine (fixed_any _).mono ?_); rintro e w' ⟨rfl, rfl⟩)) | (go_at_call 22; ((with_reducible refine (rk_mul _ _ _ _ _ h0 h1 A2).mono ?_); rintro e w' ⟨rfl, rfl⟩)) | (go_at_call 22; ((with_reducible refine (rk_mul _ _ _ _ _ h1 h0 A3).mono ?_); rintro e w' ⟨rfl, rfl⟩)))
        go_ret
        exact ⟨rfl, Grown.refl _⟩
    · have A0 := isAns_yes h0
      have A1 := isAns_no h1
      go_enter Try.func9, Try.ntmps9
      go_wp2_with (first | (go_at_call 10; ((with_reducible refine (int_is _ _ _ _ A0).mono ?_); rintro e w' ⟨rfl, rfl⟩)) | (go_at_call 10; ((with_reducible refine (int_is _ _ _ _ A1).mono ?_); rintro e w' ⟨rfl, rfl⟩)) | (go_at_call 16; ((with_reducible refine (fixed_any _).mono ?_); rintro e w' ⟨rfl, rfl⟩)))
      go_ret
      exact ⟨rfl, Grown.refl _⟩
  · have A0 := isAns_no h0
    obtain ⟨r, c, A1⟩ := isAns_some a1
    go_enter Try.func9, Try.ntmps9
    go_wp2_with (first | (go_at_call 10; ((with_reducible refine (int_is _ _ _ _ A0).mono ?_); rintro e w' ⟨rfl, rfl⟩)) | (go_at_call 10; ((with_reducible refine (int_is _ _ _ _ A1).mono ?_); rintro e w' ⟨rfl, rfl⟩)) | (go_at_call 16; ((with_reducible refine (fixed_any _).mono ?_); rintro e w' ⟨rfl, rfl⟩)))
    go_ret
    exact ⟨rfl, Grown.refl _⟩

/-! ### THE ROW's STEP: WRITTEN OUT: LEAVE IT -/
set_option maxRecDepth 100000 in
theorem lifted (os : Os) (started : os.Started) (H : Type) (enc : TypeId × Value → H) :
    ReturnsInHanded {} Try.checked os 9 .any (Rows.taggedTimesSpec.pre6 enc Try.prog Try.f9 Rows.taggedTimesRow.domain false) (Rows.taggedTimesSpec.post enc Try.prog Try.f9 false true false false) := by
  refine returnsInHanded_of_change (C := Try.checked) own started (by kernel_rfl) Try.func9
    (ChangeSpec.witness6 (enc := enc) (C := Try.checked) false ⟨#[], #[.int .i64 0, .int .i64 0], []⟩ 8 (by kernel_rfl) (by kernel_rfl) (by kernel_rfl) (by kernel_rfl)) ?_
  intro W base args ds gs before hval0 hW hcnd _
  have hval : ∀ (j : Nat) t v, Try.f9.params[j]? = some t → args[j]? = some v → Value.okWide Try.prog W .any base t v := hval0
  have hW' := hW
  obtain ⟨p, q, hA0, hV, rfl, hfz, hnd⟩ := hW
  have hA : DataW.TrodAll enc Try.prog W 0 (fun _ => true) true Try.f9.params.toList args.toList ds p := hA0
  rw [Try.params9] at hA hval
  obtain ⟨v0, vs0, d0, ds0, p0, q0, hargs, rfl, rfl, h0, r0⟩ := trodAll_cons hA
  obtain ⟨v1, vs1, d1, ds1, p1, q1, rfl, rfl, rfl, h1, r1⟩ := trodAll_cons r0
  obtain ⟨rfl, rfl, rfl⟩ := trodAll_nil r1
  obtain rfl : args = #[v0, v1] := by cases args; simp_all
  obtain ⟨rfl, rfl⟩ := trodVars_none hV
  obtain ⟨a0, rfl, rfl, rfl, w0⟩ := open_int Try.underlying3 (hval 0 3 v0 rfl rfl) h0
  obtain ⟨a1, rfl, rfl, rfl, w1⟩ := open_int Try.underlying3 (hval 1 3 v1 rfl rfl) h1
  clear hA0 hval0
  simp only [List.append_nil] at hW'
  refine (walk a0 a1 w0 w1 W).mono fun e W' ⟨he, hg⟩ => ?_
  subst he
  exact ⟨_, rfl, post_of_same (pa := []) (pv := []) hW' (fun _ _ _ => (trodAll_cons_mk (shut_bool Try.underlying4 _) trodAll_mk0)) (fun sp _ => (trodAll_cons_mk (shut_int Try.underlying3 w0) (trodAll_cons_mk (shut_int Try.underlying3 w1) trodAll_mk0))) (fun _ _ => rfl) rfl
    (hg.frame _) hg.2.1 (ok_one (by kernel_rfl) rfl (okWide_bool_mk Try.underlying4 _))⟩

theorem over : Rows.taggedTimesRow.holds Try.pinned (OpenSpec.ofChange Rows.taggedTimesSpec) :=
  OpenClaim.holds_of_wide 9 Try.f9 rfl rfl rfl rfl rfl rfl rfl ⟨rfl, rfl, rfl, rfl, rfl⟩ rfl rfl rfl rfl rfl (by kernel_rfl) Try.func9 (by kernel_rfl)
    (of_decide_eq_true (by kernel_rfl)) (by unfold Func.isWrapper; first | (rw [if_pos (by decide +kernel)]; kernel_rfl) | (rw [if_neg (by decide +kernel)]; exact ⟨rfl, rfl⟩))
    (fun os started H enc _ => lifted os started H enc)

/-- ████ THE STATEMENT ████ -/
theorem proved : Rows.TaggedTimesSaid :=
  over
#print axioms proved
end Go.Proofs.Ythilplfoodlebaa.taggedTimes
