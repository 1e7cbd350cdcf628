/-
The law TaggedShares of layer 1 holds: for every two ints the call returns true and leaves its arguments as they were. No condition.
-/
import Derived.Test.YthilplfoodlebaaTry5
import Derived.Test.YthilplfoodlebaaRows
import Derived.WalkKit
import Derived.ProofKit
import Derived.OpenShut
namespace Go.Proofs.Ythilplfoodlebaa.taggedShares
open Go.ChangeShapes Go.WideShapes Go.ChangeAt Go.RowKit
set_option linter.unusedVariables false      -- a walk need not use every 'w<i>' (that an integer argument fits its kind)

theorem own : ownKnob Try.prog.godebug = none := by kernel_rfl

/-! ### STEP 1: THE WALK: the Go text returns true. 'Grown w w'': the world has at most new blocks (Derived/RowKit3.lean). Part the cases AHEAD of 'go_enter' where a test parts the walk; take each callee by a contract of your own. -/
theorem shares (n m : Int) (hn : Num n) (hm : Num m) (h0 : ¬ m = 0) : ∃ q r : Int, q = n.tdiv m ∧ r = n.tmod m ∧ Num r ∧ (r = 0 ∨ (0 < r ∧ 0 ≤ n) ∨ (r < 0 ∧ n < 0)) ∧ n - q * m ≤ r ∧ r ≤ n - q * m ∧ -m.natAbs < r ∧ r < m.natAbs ∧ (-1152921504606846976 ≤ q ∧ q ≤ 1152921504606846976) := by
  refine ⟨_, _, rfl, rfl, tmod_bd n m hn hm, ?_, ?_, ?_, ?_, ?_, tdiv_bd n m hn.1 (by have := hn.2; omega)⟩
  · by_cases g : 0 ≤ n
    · have := Int.tmod_nonneg m g; omega
    · have := Int.tmod_nonneg m (show 0 ≤ -n by omega)
      rw [Int.neg_tmod] at this; omega
  all_goals have e := Int.mul_tdiv_add_tmod n m
  all_goals rw [Int.mul_comm] at e
  all_goals have h4 : (n.tmod m).natAbs < m.natAbs := by rw [Int.natAbs_tmod]; exact Nat.mod_lt _ (by omega)
  all_goals omega
theorem quo_no (n m : Int) (hn : Num n) (hm : Num m) (h0 : ¬ m = 0) (h : ¬ Num (n.tdiv m)) : m = -1 ∧ n = -1152921504606846976 := by
  have h1 := Int.natAbs_tdiv n m
  have h2 := tdiv_bd n m hn.1 (by have := hn.2; omega)
  unfold Num at *
  have h3 : n.tdiv m = 1152921504606846976 := by omega
  have h4 : n.natAbs / m.natAbs = 1152921504606846976 := by show n.natAbs.div m.natAbs = _; rw [← h1, h3]; rfl
  have h5 : n.natAbs / m.natAbs * m.natAbs ≤ n.natAbs := Nat.div_mul_le_self _ _
  rw [h4] at h5
  have h6 : m = -1 ∨ m = 1 := by omega
  rcases h6 with h6 | h6
  · refine ⟨h6, ?_⟩
    omega
  · rw [h6, Int.tdiv_one] at h3
    omega
set_option maxHeartbeats 2000000 in
theorem walk (a0 : Int) (a1 : Int) (w0 : (Lit.int .i64 a0).wf = true) (w1 : (Lit.int .i64 a1).wf = true) (w : World) :
    Calls Try.prog 8 #[.int .i64 a0, .int .i64 a1] w fun e w' => e = .returned (.bool true) ∧ Grown w w' := by
  by_cases h0 : Num a0
  · by_cases h1 : Num a1
    · have A0 := isAns_yes h0
      have A1 := isAns_yes h1
      by_cases hm : a1 = 0
      · have z1 : (a1 == 0) = true := by simpa using hm
        clear hm
        go_enter Try.func8, Try.ntmps8
        go_wp2_with (first | (go_at_call 10; ((with_reducible refine (int_is _ _ _ _ A0).mono ?_); rintro e w' ⟨rfl, rfl⟩)) | (go_at_call 10; ((with_reducible refine (int_is _ _ _ _ A1).mono ?_); rintro e w' ⟨rfl, rfl⟩)) | (go_at_call 16; ((with_reducible refine (fixed_any _).mono ?_); rintro e w' ⟨rfl, rfl⟩)) | (go_at_call 22; ((with_reducible refine (rk_zero 3 _ _ _ (Or.inl rfl) z1).mono ?_); rintro e w' ⟨rfl, rfl⟩)) | (go_at_call 22; ((with_reducible refine (rk_zero 4 _ _ _ (Or.inr rfl) z1).mono ?_); rintro e w' ⟨rfl, rfl⟩)))
        go_ret
        exact ⟨rfl, Grown.refl _⟩
      · have z1 : (a1 == 0) = false := by simpa using hm
        by_cases hq : Num (a0.tdiv a1)
        · obtain ⟨q, r, e1, e2, hr, s, d1, d2, d3, d4, d5⟩ := shares a0 a1 h0 h1 hm
          have B1 : isAns (wrap64 (a0.tdiv a1)) (8 * q) 0 := by rw [num_tdiv _ _ h0, ← e1]; exact isAns_yes (by rw [e1]; exact hq)
          have B2 : isAns (a0.tmod a1) (8 * r) 0 := by rw [← e2]; exact isAns_yes hr
          have B0 : ∀ w, Calls Try.prog 22 #[.int .i64 3, .int .i64 (8 * a0), .int .i64 (8 * a1)] w fun e w' => e = .returned (.tuple #[.int .i64 (8 * q), .int .i64 0]) ∧ w = w' := fun w => rk_quo _ _ _ _ w z1 hm B1
          have B3 : ∀ w, Calls Try.prog 22 #[.int .i64 4, .int .i64 (8 * a0), .int .i64 (8 * a1)] w fun e w' => e = .returned (.tuple #[.int .i64 (8 * r), .int .i64 0]) ∧ w = w' := fun w => rk_rem _ _ _ _ w z1 hm B2
          clear e1 e2 B1 B2 hq
          obtain ⟨x0, x1⟩ := id h0
          obtain ⟨y0, y1⟩ := id h1
          obtain ⟨r0, r1⟩ := id hr
          obtain ⟨q0, q1⟩ := d5
          have H0 := Lib.hid B0
          have H3 := Lib.hid B3
          clear B0 B3
          have u : ((r != 0) = false ∧ 0 ≤ r ∧ r ≤ 0) ∨ ((r != 0) = true ∧ decide (r < 0) = false ∧ decide (a0 < 0) = false ∧ 0 < r) ∨ ((r != 0) = true ∧ decide (r < 0) = true ∧ decide (a0 < 0) = true ∧ r < 0) := by
            simp only [decide_eq_true_eq, decide_eq_false_iff_not, bne_iff_ne, bne_eq_false_iff_eq]
            omega
          clear s
          by_cases t0 : 0 < a1
          · have t1 : decide (r < a1) = true := by simp; omega
            have t2 : decide (-r < a1) = true := by simp; omega
            clear d3 d4 hm
            rcases u with ⟨u1, u2, u3⟩ | ⟨u1, u2, u3, u4⟩ | ⟨u1, u2, u3, u4⟩
            all_goals
              go_enter Try.func8, Try.ntmps8
              go_wp2_with (first | (go_at_call 10; ((with_reducible refine (int_is _ _ _ _ A0).mono ?_); rintro e w' ⟨rfl, rfl⟩)) | (go_at_call 10; ((with_reducible refine (int_is _ _ _ _ A1).mono ?_); rintro e w' ⟨rfl, rfl⟩)) | (go_at_call 16; ((with_reducible refine (fixed_any _).mono ?_); rintro e w' ⟨rfl, rfl⟩)) | (go_at_call 22; ((with_reducible refine (H0.out _).mono ?_); rintro e w' ⟨rfl, rfl⟩)) | (go_at_call 22; ((with_reducible refine (H3.out _).mono ?_); rintro e w' ⟨rfl, rfl⟩)) | (go_at_call 20; ((with_reducible refine (value_8 _ _).mono ?_); rintro e w' ⟨rfl, rfl⟩)))
              go_ret
              exact ⟨rfl, Grown.refl _⟩
          · have t1 : decide (r < -a1) = true := by simp; omega
            have t2 : decide (-r < -a1) = true := by simp; omega
            have t3 : decide (a1 < r) = true := by simp; omega
            have t4 : a1 < 0 := by omega
            have p : -q * -a1 = q * a1 := Int.neg_mul_neg q a1
            have d1' : a0 - -q * -a1 ≤ r := by omega
            have d2' : r ≤ a0 - -q * -a1 := by omega
            clear d3 d4 hm p d1 d2
            rcases u with ⟨u1, u2, u3⟩ | ⟨u1, u2, u3, u4⟩ | ⟨u1, u2, u3, u4⟩
            all_goals
              go_enter Try.func8, Try.ntmps8
              go_wp2_with (first | (go_at_call 10; ((with_reducible refine (int_is _ _ _ _ A0).mono ?_); rintro e w' ⟨rfl, rfl⟩)) | (go_at_call 10; ((with_reducible refine (int_is _ _ _ _ A1).mono ?_); rintro e w' ⟨rfl, rfl⟩)) | (go_at_call 16; ((with_reducible refine (fixed_any _).mono ?_); rintro e w' ⟨rfl, rfl⟩)) | (go_at_call 22; ((with_reducible refine (H0.out _).mono ?_); rintro e w' ⟨rfl, rfl⟩)) | (go_at_call 22; ((with_reducible refine (H3.out _).mono ?_); rintro e w' ⟨rfl, rfl⟩)) | (go_at_call 20; ((with_reducible refine (value_8 _ _).mono ?_); rintro e w' ⟨rfl, rfl⟩)))
              go_ret
              exact ⟨rfl, Grown.refl _⟩
        · have q1 := (quo_no a0 a1 h0 h1 hm hq).1
          have q2 := (quo_no a0 a1 h0 h1 hm hq).2
          have B1 : isAns (wrap64 (a0.tdiv a1)) 0 10 := by rw [num_tdiv _ _ h0]; exact isAns_no hq
          have B2 : isAns (a0.tmod a1) 0 0 := by rw [q1, q2]; exact Or.inl ⟨⟨by decide, by decide⟩, by decide, rfl⟩
          have B0 : ∀ w, Calls Try.prog 22 #[.int .i64 3, .int .i64 (8 * a0), .int .i64 (8 * a1)] w fun e w' => e = .returned (.tuple #[.int .i64 0, .int .i64 10]) ∧ w = w' := fun w => rk_quo _ _ _ _ w z1 hm B1
          have B3 : ∀ w, Calls Try.prog 22 #[.int .i64 4, .int .i64 (8 * a0), .int .i64 (8 * a1)] w fun e w' => e = .returned (.tuple #[.int .i64 0, .int .i64 0]) ∧ w = w' := fun w => rk_rem _ _ _ _ w z1 hm B2
          have H0 := Lib.hid B0
          have H3 := Lib.hid B3
          have q3 : (a1 == -1) = true := by simpa using q1
          have q4 : (a0 == -1152921504606846976) = true := by simpa using q2
          clear B0 B3 B1 B2 hq q1 q2
          go_enter Try.func8, Try.ntmps8
          go_wp2_with (first | (go_at_call 10; ((with_reducible refine (int_is _ _ _ _ A0).mono ?_); rintro e w' ⟨rfl, rfl⟩)) | (go_at_call 10; ((with_reducible refine (int_is _ _ _ _ A1).mono ?_); rintro e w' ⟨rfl, rfl⟩)) | (go_at_call 16; ((with_reducible refine (fixed_any _).mono ?_); rintro e w' ⟨rfl, rfl⟩)) | (go_at_call 22; ((with_reducible refine (H0.out _).mono ?_); rintro e w' ⟨rfl, rfl⟩)) | (go_at_call 22; ((with_reducible refine (H3.out _).mono ?_); rintro e w' ⟨rfl, rfl⟩)))
          go_ret
          exact ⟨rfl, Grown.refl _⟩
    · have A0 := isAns_yes h0
      have A1 := isAns_no h1
      go_enter Try.func8, Try.ntmps8
      go_wp2_with (first | (go_at_call 10; ((with_reducible refine (int_is _ _ _ _ A0).mono ?_); rintro e w' ⟨rfl, rfl⟩)) | (go_at_call 10; ((with_reducible refine (int_is _ _ _ _ A1).mono ?_); rintro e w' ⟨rfl, rfl⟩)) | (go_at_call 16; ((with_reducible refine (fixed_any _).mono ?_); rintro e w' ⟨rfl, rfl⟩)))
      go_ret
      exact ⟨rfl, Grown.refl _⟩
  · have A0 := isAns_no h0
    obtain ⟨r, c, A1⟩ := isAns_some a1
    go_enter Try.func8, Try.ntmps8
    go_wp2_with (first | (go_at_call 10; ((with_reducible refine (int_is _ _ _ _ A0).mono ?_); rintro e w' ⟨rfl, rfl⟩)) | (go_at_call 10; ((with_reducible refine (int_is _ _ _ _ A1).mono ?_); rintro e w' ⟨rfl, rfl⟩)) | (go_at_call 16; ((with_reducible refine (fixed_any _).mono ?_); rintro e w' ⟨rfl, rfl⟩)))
    go_ret
    exact ⟨rfl, Grown.refl _⟩

/-! ### THE ROW's STEP: WRITTEN OUT: LEAVE IT -/
set_option maxRecDepth 100000 in
theorem lifted (os : Os) (started : os.Started) (H : Type) (enc : TypeId × Value → H) :
    ReturnsInHanded {} Try.checked os 8 .any (Rows.taggedSharesSpec.pre6 enc Try.prog Try.f8 Rows.taggedSharesRow.domain false) (Rows.taggedSharesSpec.post enc Try.prog Try.f8 false true false false) := by
  refine returnsInHanded_of_change (C := Try.checked) own started (by kernel_rfl) Try.func8
    (ChangeSpec.witness6 (enc := enc) (C := Try.checked) false ⟨#[], #[.int .i64 0, .int .i64 0], []⟩ 8 (by kernel_rfl) (by kernel_rfl) (by kernel_rfl) (by kernel_rfl)) ?_
  intro W base args ds gs before hval0 hW hcnd _
  have hval : ∀ (j : Nat) t v, Try.f8.params[j]? = some t → args[j]? = some v → Value.okWide Try.prog W .any base t v := hval0
  have hW' := hW
  obtain ⟨p, q, hA0, hV, rfl, hfz, hnd⟩ := hW
  have hA : DataW.TrodAll enc Try.prog W 0 (fun _ => true) true Try.f8.params.toList args.toList ds p := hA0
  rw [Try.params8] at hA hval
  obtain ⟨v0, vs0, d0, ds0, p0, q0, hargs, rfl, rfl, h0, r0⟩ := trodAll_cons hA
  obtain ⟨v1, vs1, d1, ds1, p1, q1, rfl, rfl, rfl, h1, r1⟩ := trodAll_cons r0
  obtain ⟨rfl, rfl, rfl⟩ := trodAll_nil r1
  obtain rfl : args = #[v0, v1] := by cases args; simp_all
  obtain ⟨rfl, rfl⟩ := trodVars_none hV
  obtain ⟨a0, rfl, rfl, rfl, w0⟩ := open_int Try.underlying3 (hval 0 3 v0 rfl rfl) h0
  obtain ⟨a1, rfl, rfl, rfl, w1⟩ := open_int Try.underlying3 (hval 1 3 v1 rfl rfl) h1
  clear hA0 hval0
  simp only [List.append_nil] at hW'
  refine (walk a0 a1 w0 w1 W).mono fun e W' ⟨he, hg⟩ => ?_
  subst he
  exact ⟨_, rfl, post_of_same (pa := []) (pv := []) hW' (fun _ _ _ => (trodAll_cons_mk (shut_bool Try.underlying4 _) trodAll_mk0)) (fun sp _ => (trodAll_cons_mk (shut_int Try.underlying3 w0) (trodAll_cons_mk (shut_int Try.underlying3 w1) trodAll_mk0))) (fun _ _ => rfl) rfl
    (hg.frame _) hg.2.1 (ok_one (by kernel_rfl) rfl (okWide_bool_mk Try.underlying4 _))⟩

theorem over : Rows.taggedSharesRow.holds Try.pinned (OpenSpec.ofChange Rows.taggedSharesSpec) :=
  OpenClaim.holds_of_wide 8 Try.f8 rfl rfl rfl rfl rfl rfl rfl ⟨rfl, rfl, rfl, rfl, rfl⟩ rfl rfl rfl rfl rfl (by kernel_rfl) Try.func8 (by kernel_rfl)
    (of_decide_eq_true (by kernel_rfl)) (by unfold Func.isWrapper; first | (rw [if_pos (by decide +kernel)]; kernel_rfl) | (rw [if_neg (by decide +kernel)]; exact ⟨rfl, rfl⟩))
    (fun os started H enc _ => lifted os started H enc)

/-- ████ THE STATEMENT ████ -/
theorem proved : Rows.TaggedSharesSaid :=
  over
#print axioms proved
end Go.Proofs.Ythilplfoodlebaa.taggedShares
