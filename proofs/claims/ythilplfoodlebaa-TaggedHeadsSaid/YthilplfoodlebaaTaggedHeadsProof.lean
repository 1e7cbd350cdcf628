/-
The law TaggedHeads of layer 1 holds: for every three ints the call returns true and leaves its arguments as they were. No condition.
-/
import Derived.Test.YthilplfoodlebaaTry6
import Derived.Test.YthilplfoodlebaaRows
import Derived.WalkKit
import Derived.ProofKit
import Derived.OpenShut
namespace Go.Proofs.Ythilplfoodlebaa.taggedHeads
open Go.ChangeShapes Go.WideShapes Go.ChangeAt Go.RowKit
set_option linter.unusedVariables false      -- a walk need not use every 'w<i>' (that an integer argument fits its kind)

theorem own : ownKnob Try.prog.godebug = none := by kernel_rfl

/-! ### STEP 1: THE WALK: the Go text returns true. 'Grown w w'': the world has at most new blocks (Derived/RowKit3.lean). Part the cases AHEAD of 'go_enter' where a test parts the walk; take each callee by a contract of your own. -/
theorem head_facts (k n : Int) (h0 : 0 ≤ k) (h1 : k ≤ 7) (h2 : 0 ≤ n) (h3 : n ≤ 1099511627776) : ∃ W V : Int,
    (∀ w, Calls Try.prog 14 #[.int .i64 k, .int .i64 n] w fun e w' => e = .returned (.tuple #[.int .i64 W, .int .i64 0]) ∧ w = w') ∧
    (∀ w, Calls Try.prog 18 #[.int .i64 W] w fun e w' => e = .returned (.int .i64 7) ∧ w = w') ∧
    (∀ w, Calls Try.prog 20 #[.int .i64 W] w fun e w' => e = .returned (.int .i64 V) ∧ w = w') ∧
    W % 8 = 7 ∧ (V % 8 == k) = true ∧ (V / 8 == n) = true ∧ 0 ≤ V ∧ V ≤ 9000000000000 := by
  refine ⟨_, 8 * n + k, fun w => head_ok k n w h0 h1 h2 h3, fun w => ?_, fun w => ?_, by omega, by simp; omega, by simp; omega, by omega, by omega⟩
  · exact (tag_any _ w).mono fun e w' ⟨p, q⟩ => ⟨by rw [p]; exact ret_int (by omega), q⟩
  · exact (value_any _ w).mono fun e w' ⟨p, q⟩ => ⟨by rw [p]; exact ret_int (by omega), q⟩
theorem md_no {k n r c W : Int} (h : mdAns k n r c) (hk : k ≤ 3) (hW : W % 8 = 7) : (c = 0 ∧ (r == W) = false) ∨ c = 1 ∨ c = 10 := by
  rcases h with ⟨h1, _, h2⟩ | ⟨_, h | h⟩
  · exact Or.inl ⟨h2, by simp; omega⟩
  · exact Or.inr (Or.inl h)
  · exact Or.inr (Or.inr h)
theorem walk (a0 : Int) (a1 : Int) (a2 : Int) (w0 : (Lit.int .i64 a0).wf = true) (w1 : (Lit.int .i64 a1).wf = true) (w2 : (Lit.int .i64 a2).wf = true) (w : World) :
    Calls Try.prog 6 #[.int .i64 a0, .int .i64 a1, .int .i64 a2] w fun e w' => e = .returned (.bool true) ∧ Grown w w' := by
  by_cases h : 0 ≤ a0 ∧ a0 ≤ 7 ∧ 0 ≤ a1 ∧ a1 ≤ 1099511627776
  · obtain ⟨W, V, C1, C2, C3, hW, v1, v2, v3, v4⟩ := head_facts a0 a1 h.1 h.2.1 h.2.2.1 h.2.2.2
    have D1 := Lib.hid C1
    have D2 := Lib.hid C2
    have D3 := Lib.hid C3
    have HW := Lib.hid hW
    clear C1 C2 C3 hW h
    go_enter Try.func6, Try.ntmps6
    go_wp2_with (first | (go_at_call 14; ((with_reducible refine (D1.out _).mono ?_); rintro e w' ⟨rfl, rfl⟩)) | (go_at_call 16; ((with_reducible refine (fixed_any _).mono ?_); rintro e w' ⟨rfl, rfl⟩)))
    go_loop [9] (fun k => ∃ j : Nat, j ≤ 4 ∧ k = .int .i64 j) (fun k => (4 - intOf k).toNat)
    case atStart => exact ⟨0, by omega, rfl⟩
    case round =>
      obtain ⟨j, hj, rfl⟩ := hrel
      by_cases hlt : j < 4
      · obtain ⟨r, c, hm, hc⟩ := made_any j a2 (by omega) (by omega)
        have HC := Lib.hid hc
        have m := md_no hm (by omega) HW.out
        clear hc hm
        rcases m with ⟨rfl, m⟩ | rfl | rfl
        all_goals
          go_wp2_with (go_at_call 25; ((with_reducible refine (HC.out _).mono ?_); rintro e w' ⟨rfl, rfl⟩))
          go_round
          case rel => exact ⟨j + 1, by omega, by go_num⟩
          case measure => simp [intOf]; omega
      · go_wp2_with (first | (go_at_call 18; ((with_reducible refine (D2.out _).mono ?_); rintro e w' ⟨rfl, rfl⟩)) | (go_at_call 20; ((with_reducible refine (D3.out _).mono ?_); rintro e w' ⟨rfl, rfl⟩)))
        go_ret
        exact ⟨rfl, Grown.refl _⟩
  · have A : headAns a0 a1 0 1 := Or.inr ⟨by omega, rfl, rfl⟩
    by_cases g1 : a0 < 0
    · go_enter Try.func6, Try.ntmps6
      go_wp2_with (first | (go_at_call 14; ((with_reducible refine (head_is _ _ _ _ _ A).mono ?_); rintro e w' ⟨rfl, rfl⟩)) | (go_at_call 16; ((with_reducible refine (fixed_any _).mono ?_); rintro e w' ⟨rfl, rfl⟩)))
      all_goals go_ret
      all_goals exact ⟨rfl, Grown.refl _⟩
    by_cases g2 : 7 < a0
    · go_enter Try.func6, Try.ntmps6
      go_wp2_with (first | (go_at_call 14; ((with_reducible refine (head_is _ _ _ _ _ A).mono ?_); rintro e w' ⟨rfl, rfl⟩)) | (go_at_call 16; ((with_reducible refine (fixed_any _).mono ?_); rintro e w' ⟨rfl, rfl⟩)))
      all_goals go_ret
      all_goals exact ⟨rfl, Grown.refl _⟩
    by_cases g3 : a1 < 0
    · clear h
      go_enter Try.func6, Try.ntmps6
      go_wp2_with (first | (go_at_call 14; ((with_reducible refine (head_is _ _ _ _ _ A).mono ?_); rintro e w' ⟨rfl, rfl⟩)) | (go_at_call 16; ((with_reducible refine (fixed_any _).mono ?_); rintro e w' ⟨rfl, rfl⟩)))
      all_goals go_ret
      all_goals exact ⟨rfl, Grown.refl _⟩
    · have g4 : 1099511627776 < a1 := by omega
      clear h
      go_enter Try.func6, Try.ntmps6
      go_wp2_with (first | (go_at_call 14; ((with_reducible refine (head_is _ _ _ _ _ A).mono ?_); rintro e w' ⟨rfl, rfl⟩)) | (go_at_call 16; ((with_reducible refine (fixed_any _).mono ?_); rintro e w' ⟨rfl, rfl⟩)))
      all_goals go_ret
      all_goals exact ⟨rfl, Grown.refl _⟩

/-! ### THE ROW's STEP: WRITTEN OUT: LEAVE IT -/
set_option maxRecDepth 100000 in
theorem lifted (os : Os) (started : os.Started) (H : Type) (enc : TypeId × Value → H) :
    ReturnsInHanded {} Try.checked os 6 .any (Rows.taggedHeadsSpec.pre6 enc Try.prog Try.f6 Rows.taggedHeadsRow.domain false) (Rows.taggedHeadsSpec.post enc Try.prog Try.f6 false true false false) := by
  refine returnsInHanded_of_change (C := Try.checked) own started (by kernel_rfl) Try.func6
    (ChangeSpec.witness6 (enc := enc) (C := Try.checked) false ⟨#[], #[.int .i64 0, .int .i64 0, .int .i64 0], []⟩ 8 (by kernel_rfl) (by kernel_rfl) (by kernel_rfl) (by kernel_rfl)) ?_
  intro W base args ds gs before hval0 hW hcnd _
  have hval : ∀ (j : Nat) t v, Try.f6.params[j]? = some t → args[j]? = some v → Value.okWide Try.prog W .any base t v := hval0
  have hW' := hW
  obtain ⟨p, q, hA0, hV, rfl, hfz, hnd⟩ := hW
  have hA : DataW.TrodAll enc Try.prog W 0 (fun _ => true) true Try.f6.params.toList args.toList ds p := hA0
  rw [Try.params6] at hA hval
  obtain ⟨v0, vs0, d0, ds0, p0, q0, hargs, rfl, rfl, h0, r0⟩ := trodAll_cons hA
  obtain ⟨v1, vs1, d1, ds1, p1, q1, rfl, rfl, rfl, h1, r1⟩ := trodAll_cons r0
  obtain ⟨v2, vs2, d2, ds2, p2, q2, rfl, rfl, rfl, h2, r2⟩ := trodAll_cons r1
  obtain ⟨rfl, rfl, rfl⟩ := trodAll_nil r2
  obtain rfl : args = #[v0, v1, v2] := by cases args; simp_all
  obtain ⟨rfl, rfl⟩ := trodVars_none hV
  obtain ⟨a0, rfl, rfl, rfl, w0⟩ := open_int Try.underlying3 (hval 0 3 v0 rfl rfl) h0
  obtain ⟨a1, rfl, rfl, rfl, w1⟩ := open_int Try.underlying3 (hval 1 3 v1 rfl rfl) h1
  obtain ⟨a2, rfl, rfl, rfl, w2⟩ := open_int Try.underlying3 (hval 2 3 v2 rfl rfl) h2
  clear hA0 hval0
  simp only [List.append_nil] at hW'
  refine (walk a0 a1 a2 w0 w1 w2 W).mono fun e W' ⟨he, hg⟩ => ?_
  subst he
  exact ⟨_, rfl, post_of_same (pa := []) (pv := []) hW' (fun _ _ _ => (trodAll_cons_mk (shut_bool Try.underlying4 _) trodAll_mk0)) (fun sp _ => (trodAll_cons_mk (shut_int Try.underlying3 w0) (trodAll_cons_mk (shut_int Try.underlying3 w1) (trodAll_cons_mk (shut_int Try.underlying3 w2) trodAll_mk0)))) (fun _ _ => rfl) rfl
    (hg.frame _) hg.2.1 (ok_one (by kernel_rfl) rfl (okWide_bool_mk Try.underlying4 _))⟩

theorem over : Rows.taggedHeadsRow.holds Try.pinned (OpenSpec.ofChange Rows.taggedHeadsSpec) :=
  OpenClaim.holds_of_wide 6 Try.f6 rfl rfl rfl rfl rfl rfl rfl ⟨rfl, rfl, rfl, rfl, rfl⟩ rfl rfl rfl rfl rfl (by kernel_rfl) Try.func6 (by kernel_rfl)
    (of_decide_eq_true (by kernel_rfl)) (by unfold Func.isWrapper; first | (rw [if_pos (by decide +kernel)]; kernel_rfl) | (rw [if_neg (by decide +kernel)]; exact ⟨rfl, rfl⟩))
    (fun os started H enc _ => lifted os started H enc)

/-- ████ THE STATEMENT ████ -/
theorem proved : Rows.TaggedHeadsSaid :=
  over
#print axioms proved
end Go.Proofs.Ythilplfoodlebaa.taggedHeads
