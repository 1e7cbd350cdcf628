/-
The law TaggedApart of layer 1 holds: for every two ints the call returns true and leaves its arguments as they were. No condition.
-/
import Derived.Test.YthilplfoodlebaaTry6
import Derived.Test.YthilplfoodlebaaRows
import Derived.WalkKit
import Derived.ProofKit
import Derived.OpenShut
namespace Go.Proofs.Ythilplfoodlebaa.taggedApart
open Go.ChangeShapes Go.WideShapes Go.ChangeAt Go.RowKit
set_option linter.unusedVariables false      -- a walk need not use every 'w<i>' (that an integer argument fits its kind)

theorem own : ownKnob Try.prog.godebug = none := by kernel_rfl

/-! ### STEP 1: THE WALK: the Go text returns true. 'Below w.heap.size w w'': the world has at most new blocks (Derived/RowKit3.lean). Part the cases AHEAD of 'go_enter' where a test parts the walk; take each callee by a contract of your own. -/
theorem info3 : (Try.prog.info? 3).map (fun i => (i.zero, i.size, i.bytes)) = some (some (.int .i64 0), 1, 8) := by kernel_rfl
/-- The words that were made in rounds ahead of k, each by its tag and number. -/
def Elems (n m : Int) (k : Nat) (ws : List Int) : Prop := ∀ z ∈ ws, ∃ j : Nat, j < k ∧ z % 8 = ((j % 4 : Nat) : Int) ∧ z / 8 = if 3 < j then m else n
theorem Elems.more {n m : Int} {k : Nat} {ws : List Int} (h : Elems n m k ws) : Elems n m (k + 1) ws := fun z hz => by
  obtain ⟨j, h1, h2⟩ := h z hz
  exact ⟨j, by omega, h2⟩
theorem Elems.snoc {n m r : Int} {k : Nat} {ws : List Int} (h : Elems n m k ws) (h1 : r % 8 = ((k % 4 : Nat) : Int)) (h2 : r / 8 = if 3 < k then m else n) : Elems n m (k + 1) (ws ++ [r]) := fun z hz => by
  rcases List.mem_append.1 hz with g | g
  · exact h.more z g
  · obtain rfl := List.mem_singleton.1 g
    exact ⟨k, by omega, h1, h2⟩
theorem Elems.apart {n m r : Int} {k : Nat} {ws : List Int} (h : Elems n m k ws) (hk : k < 8) (h1 : r % 8 = ((k % 4 : Nat) : Int)) (h2 : r / 8 = if 3 < k then m else n) (hne : n ≠ m) (i : Nat) (hi : i < ws.length) : (ws.getD i 0 == r) = false := by
  have e : ws.getD i 0 = ws[i] := by simp [hi]
  obtain ⟨j, g1, g2, g3⟩ := h _ (List.getElem_mem hi)
  simp only [e, beq_eq_false_iff_ne, ne_eq]
  intro he
  rw [he] at g2 g3
  have : j % 4 = k % 4 := by omega
  rw [h2] at g3
  split at g3 <;> split at g3 <;> first | omega | exact hne g3 | exact hne g3.symm
theorem own_slice {w : World} {B e size n : Nat} {v : Value} {xs : List Value} (h : w.ownsRow B e size v n xs) (hne : ¬ v = .slice none 0 0) : ∃ g cap, v = .slice (some ⟨g, 0, none⟩) n cap := by
  rcases h.2 with ⟨h1, _⟩ | ⟨g, cap, _, h1, _⟩
  · exact absurd h1 hne
  · exact ⟨g, cap, h1⟩
theorem own_block {w : World} {B e size n g cap m : Nat} {xs : List Value} (h : w.ownsRow B e size (.slice (some ⟨g, 0, none⟩) m cap) n xs) : ∀ k, Value.ownBlock (.slice (some ⟨g, 0, none⟩) m cap) = some k → B ≤ k := fun k hk => (h.lt k hk).1
/-- What 'made', Tag and Value answer in round j. -/
theorem round_facts (n m : Int) (j : Nat) (hj : j < 8) (v : Int) (hv : v = if 3 < j then m else n) : ∃ r c : Int,
    (∀ w, Calls Try.prog 25 #[.int .i64 ((j : Int) % 4), .int .i64 v] w fun e w' => e = .returned (.tuple #[.int .i64 r, .int .i64 c]) ∧ w = w') ∧
    ((c = 0 ∧ r % 8 = ((j % 4 : Nat) : Int) ∧ r / 8 = v ∧ (∀ w, Calls Try.prog 18 #[.int .i64 r] w fun e w' => e = .returned (.int .i64 ((j : Int) % 4)) ∧ w = w') ∧
      (∀ w, Calls Try.prog 20 #[.int .i64 r] w fun e w' => e = .returned (.int .i64 v) ∧ w = w')) ∨ (r = 0 ∧ (c = 1 ∨ c = 10))) := by
  obtain ⟨r, c, h1, h2⟩ := made_any ((j : Int) % 4) v (by omega) (by omega)
  refine ⟨r, c, h2, ?_⟩
  rcases h1 with ⟨g1, g2, g3⟩ | h
  · refine Or.inl ⟨g3, by omega, g2, fun w => ?_, fun w => ?_⟩
    · exact (tag_any r w).mono fun e w' ⟨p, q⟩ => ⟨by rw [p]; exact ret_int g1, q⟩
    · exact (value_any r w).mono fun e w' ⟨p, q⟩ => ⟨by rw [p]; exact ret_int g2, q⟩
  · exact Or.inr h
/-- The word that stands at place t, and that it is not the new one unless both numbers are the same. -/
theorem elem_at {w : World} {B g n cap j t : Nat} {a b r : Int} {ws : List Int} (h : w.ownsRow B 3 1 (.slice (some ⟨g, 0, none⟩) n cap) n (ws.map (Value.int .i64))) (hel : Elems a b j ws) (hj : j < 8)
    (h1 : r % 8 = ((j % 4 : Nat) : Int)) (h2 : r / 8 = if 3 < j then b else a) (hl : ws.length = n) (ht : t < n) : ∃ z : Int, w.cell? ⟨g, t, none⟩ = some (.int .i64 z) ∧ ((z == r) = false ∨ ((z == r) = true ∧ (a != b) = false)) := by
  refine ⟨ws.getD t 0, ?_, ?_⟩
  · rw [h.cellAt t (by omega)]
    simp [show t < ws.length by omega]
  · by_cases hz : (ws.getD t 0 == r) = false
    · exact Or.inl hz
    · refine Or.inr ⟨by simpa using hz, ?_⟩
      by_cases hne : a = b
      · simpa using hne
      · exact absurd (hel.apart hj h1 h2 hne t (by omega)) hz
theorem new_cell (w : World) (r : Int) : ∀ j u, [Value.int .i64 r][j]? = some u → (w.alloc (.cells #[.int .i64 r] 3)).cell? ((⟨w.heap.size, 0, none⟩ : Addr).add j) = some u := by
  intro j u h
  match j, h with
  | 0, h => simp at h; subst h; simp [Addr.add]
theorem one_cell (r : Int) : ∀ u ∈ [Value.int .i64 r], u.oneCell' = true := by
  intro u hu
  simp at hu; subst hu; rfl
theorem small3 {n : Nat} (h : n ≤ 8) : n + 1 ≤ maxLen := by unfold maxLen; omega
theorem small4 {n : Nat} (h : n ≤ 8) : (n + 1) * 8 ≤ 140737488355328 := by omega
theorem base_le {B : Nat} {w v : World} (h : Below B v w) (o : Obj) (hB : v.heap.size = B := by rfl) : B ≤ (w.alloc o).heap.size := by have := h.size; simp; omega
theorem not_nil {v' : Value} {g n cap m : Nat} (h : v' = .slice none 0 0 ↔ .slice (some ⟨g, 0, none⟩) n cap = Value.slice none 0 0 ∧ m = 0) : ¬ v' = .slice none 0 0 := fun e => by cases (h.1 e).1
theorem own_snoc {w : World} {B n : Nat} {v : Value} {ws : List Int} {r : Int} (h : w.ownsRow B 3 1 v (n + 1) (ws.map (Value.int .i64) ++ [Value.int .i64 r])) : w.ownsRow B 3 1 v (n + 1) ((ws ++ [r]).map (Value.int .i64)) := by
  simpa using h
set_option maxHeartbeats 1600000 in
theorem walk (a0 : Int) (a1 : Int) (w0 : (Lit.int .i64 a0).wf = true) (w1 : (Lit.int .i64 a1).wf = true) (w : World) :
    Calls Try.prog 5 #[.int .i64 a0, .int .i64 a1] w fun e w' => e = .returned (.bool true) ∧ Below w.heap.size w w' := by
  obtain ⟨i0, hi, hz0, hz1, hz2⟩ := info_parts info3
  go_enter Try.func5, Try.ntmps5
  go_wp2_with (go_at_call 16; ((with_reducible refine (fixed_any _).mono ?_); rintro e w' ⟨rfl, rfl⟩))
  go_loopw [5, 6] (fun s k wr => ∃ (j g n cap : Nat) (ws : List Int), j ≤ 8 ∧ k = .int .i64 j ∧ s = .slice (some ⟨g, 0, none⟩) n cap ∧ n ≤ j ∧ ws.length = n ∧
      wr.ownsRow w.heap.size 3 1 (.slice (some ⟨g, 0, none⟩) n cap) n (ws.map (Value.int .i64)) ∧ Below w.heap.size w wr ∧ Elems a0 a1 j ws)
    (fun _ k _ => 8 - (intOf k).toNat)
  case atStart => exact ⟨0, _, 0, 0, [], by omega, rfl, rfl, by omega, rfl, World.ownsRow_made w #[] 0 (Nat.le_refl _) (by unfold maxLen; omega) rfl, (Below.refl _ _).alloc (Nat.le_refl _) _, fun z hz => by cases hz⟩
  case round =>
    obtain ⟨j, g, n, cap, ws, hj, rfl, rfl, hn, hl, hown, hbel, hel⟩ := hrel
    obtain ⟨wo, rfl⟩ : ∃ wo : World, wo = wr := ⟨_, rfl⟩
    have Hl := Lib.hid hl
    clear hl
    by_cases hlt : j < 8
    · obtain ⟨v, hv⟩ : ∃ v : Int, v = if 3 < j then a1 else a0 := ⟨_, rfl⟩
      obtain ⟨r, c, C1, C2⟩ := round_facts a0 a1 j hlt v hv
      have HC := Lib.hid C1
      clear C1
      by_cases h3 : 3 < j
      · rw [if_pos h3] at hv
        subst hv
        rcases C2 with ⟨rfl, r1, r2, T, V⟩ | ⟨rfl, rfl | rfl⟩
        · have HT := Lib.hid T
          have HV := Lib.hid V
          have R1 := Lib.hid r1
          have R2 := Lib.hid (show r / 8 = if 3 < j then v else a0 by rw [if_pos h3]; exact r2)
          clear T V r1 r2
          go_wp2_with (first | (go_at_call 25; ((with_reducible refine (HC.out _).mono ?_); rintro e w' ⟨rfl, rfl⟩)) | (go_at_call 18; ((with_reducible refine (HT.out _).mono ?_); rintro e w' ⟨rfl, rfl⟩)) | (go_at_call 20; ((with_reducible refine (HV.out _).mono ?_); rintro e w' ⟨rfl, rfl⟩)))
          go_loop [10] (fun i => ∃ t : Nat, t ≤ n ∧ i = .int .i64 t) (fun i => n - (intOf i).toNat)
          case atStart => exact ⟨0, by omega, rfl⟩
          case round =>
            obtain ⟨t, ht, rfl⟩ := hrel
            by_cases htl : t < n
            · obtain ⟨z, hz, hzz⟩ := elem_at hown hel hlt R1.out R2.out Hl.out htl
              rcases hzz with hzz | ⟨hzz, hzn⟩
              all_goals
                go_wp2_with fail
                go_round
                case rel => exact ⟨t + 1, by omega, by go_num⟩
                case measure => simp [intOf]; omega
            · go_wp2_with (at_builtin; refine wpList_append_own _ rfl (.tmp 61) (.tmp 63) 33 rfl w.heap.size 3 i0 (.int .i64 0) 1 8 Try.underlying33 hi hz0 hz1 hz2 rfl (by decide) _ _ _ rfl (hown.alloc _) ⟨wo.heap.size, 0, none⟩ 1 1 [.int .i64 r] rfl rfl (new_cell _ _) (one_cell _) (small3 (Nat.le_trans hn hj)) (small4 (Nat.le_trans hn hj)) (base_le hbel _) ?_; intro v' w1 hown' hgrow hnil; obtain ⟨g', cap', rfl⟩ := own_slice hown' (not_nil hnil); have Hb2 := Lib.hid ((hbel.alloc hbel.size _).grown hgrow (base_le hbel _) (own_block hown)); have Hown := Lib.hid (own_snoc hown'); clear hown' hgrow hown hbel hnil)
              go_wp2_with fail
              go_roundw
              case rel => exact ⟨j + 1, g', n + 1, cap', ws ++ [r], by omega, by go_num, rfl, by omega, by simp [Hl.out], Hown.out, Hb2.out, hel.snoc R1.out R2.out⟩
              case measure => simp [intOf]; omega
        · go_wp2_with (go_at_call 25; ((with_reducible refine (HC.out _).mono ?_); rintro e w' ⟨rfl, rfl⟩))
          go_roundw
          case rel => exact ⟨j + 1, g, n, cap, ws, by omega, by go_num, rfl, by omega, Hl.out, hown, hbel, hel.more⟩
          case measure => simp [intOf]; omega
        · go_wp2_with (go_at_call 25; ((with_reducible refine (HC.out _).mono ?_); rintro e w' ⟨rfl, rfl⟩))
          go_roundw
          case rel => exact ⟨j + 1, g, n, cap, ws, by omega, by go_num, rfl, by omega, Hl.out, hown, hbel, hel.more⟩
          case measure => simp [intOf]; omega
      · rw [if_neg h3] at hv
        subst hv
        rcases C2 with ⟨rfl, r1, r2, T, V⟩ | ⟨rfl, rfl | rfl⟩
        · have HT := Lib.hid T
          have HV := Lib.hid V
          have R1 := Lib.hid r1
          have R2 := Lib.hid (show r / 8 = if 3 < j then a1 else v by rw [if_neg h3]; exact r2)
          clear T V r1 r2
          go_wp2_with (first | (go_at_call 25; ((with_reducible refine (HC.out _).mono ?_); rintro e w' ⟨rfl, rfl⟩)) | (go_at_call 18; ((with_reducible refine (HT.out _).mono ?_); rintro e w' ⟨rfl, rfl⟩)) | (go_at_call 20; ((with_reducible refine (HV.out _).mono ?_); rintro e w' ⟨rfl, rfl⟩)))
          go_loop [10] (fun i => ∃ t : Nat, t ≤ n ∧ i = .int .i64 t) (fun i => n - (intOf i).toNat)
          case atStart => exact ⟨0, by omega, rfl⟩
          case round =>
            obtain ⟨t, ht, rfl⟩ := hrel
            by_cases htl : t < n
            · obtain ⟨z, hz, hzz⟩ := elem_at hown hel hlt R1.out R2.out Hl.out htl
              rcases hzz with hzz | ⟨hzz, hzn⟩
              all_goals
                go_wp2_with fail
                go_round
                case rel => exact ⟨t + 1, by omega, by go_num⟩
                case measure => simp [intOf]; omega
            · go_wp2_with (at_builtin; refine wpList_append_own _ rfl (.tmp 61) (.tmp 63) 33 rfl w.heap.size 3 i0 (.int .i64 0) 1 8 Try.underlying33 hi hz0 hz1 hz2 rfl (by decide) _ _ _ rfl (hown.alloc _) ⟨wo.heap.size, 0, none⟩ 1 1 [.int .i64 r] rfl rfl (new_cell _ _) (one_cell _) (small3 (Nat.le_trans hn hj)) (small4 (Nat.le_trans hn hj)) (base_le hbel _) ?_; intro v' w1 hown' hgrow hnil; obtain ⟨g', cap', rfl⟩ := own_slice hown' (not_nil hnil); have Hb2 := Lib.hid ((hbel.alloc hbel.size _).grown hgrow (base_le hbel _) (own_block hown)); have Hown := Lib.hid (own_snoc hown'); clear hown' hgrow hown hbel hnil)
              go_wp2_with fail
              go_roundw
              case rel => exact ⟨j + 1, g', n + 1, cap', ws ++ [r], by omega, by go_num, rfl, by omega, by simp [Hl.out], Hown.out, Hb2.out, hel.snoc R1.out R2.out⟩
              case measure => simp [intOf]; omega
        · go_wp2_with (go_at_call 25; ((with_reducible refine (HC.out _).mono ?_); rintro e w' ⟨rfl, rfl⟩))
          go_roundw
          case rel => exact ⟨j + 1, g, n, cap, ws, by omega, by go_num, rfl, by omega, Hl.out, hown, hbel, hel.more⟩
          case measure => simp [intOf]; omega
        · go_wp2_with (go_at_call 25; ((with_reducible refine (HC.out _).mono ?_); rintro e w' ⟨rfl, rfl⟩))
          go_roundw
          case rel => exact ⟨j + 1, g, n, cap, ws, by omega, by go_num, rfl, by omega, Hl.out, hown, hbel, hel.more⟩
          case measure => simp [intOf]; omega
    · go_wp2_with fail
      go_ret
      exact ⟨rfl, hbel⟩

/-! ### THE ROW's STEP: WRITTEN OUT: LEAVE IT -/
set_option maxRecDepth 100000 in
theorem lifted (os : Os) (started : os.Started) (H : Type) (enc : TypeId × Value → H) :
    ReturnsInHanded {} Try.checked os 5 .any (Rows.taggedApartSpec.pre6 enc Try.prog Try.f5 Rows.taggedApartRow.domain false) (Rows.taggedApartSpec.post enc Try.prog Try.f5 false true false false) := by
  refine returnsInHanded_of_change (C := Try.checked) own started (by kernel_rfl) Try.func5
    (ChangeSpec.witness6 (enc := enc) (C := Try.checked) false ⟨#[], #[.int .i64 0, .int .i64 0], []⟩ 8 (by kernel_rfl) (by kernel_rfl) (by kernel_rfl) (by kernel_rfl)) ?_
  intro W base args ds gs before hval0 hW hcnd _
  have hval : ∀ (j : Nat) t v, Try.f5.params[j]? = some t → args[j]? = some v → Value.okWide Try.prog W .any base t v := hval0
  have hW' := hW
  obtain ⟨p, q, hA0, hV, rfl, hfz, hnd⟩ := hW
  have hA : DataW.TrodAll enc Try.prog W 0 (fun _ => true) true Try.f5.params.toList args.toList ds p := hA0
  rw [Try.params5] at hA hval
  obtain ⟨v0, vs0, d0, ds0, p0, q0, hargs, rfl, rfl, h0, r0⟩ := trodAll_cons hA
  obtain ⟨v1, vs1, d1, ds1, p1, q1, rfl, rfl, rfl, h1, r1⟩ := trodAll_cons r0
  obtain ⟨rfl, rfl, rfl⟩ := trodAll_nil r1
  obtain rfl : args = #[v0, v1] := by cases args; simp_all
  obtain ⟨rfl, rfl⟩ := trodVars_none hV
  obtain ⟨a0, rfl, rfl, rfl, w0⟩ := open_int Try.underlying3 (hval 0 3 v0 rfl rfl) h0
  obtain ⟨a1, rfl, rfl, rfl, w1⟩ := open_int Try.underlying3 (hval 1 3 v1 rfl rfl) h1
  clear hA0 hval0
  simp only [List.append_nil] at hW'
  refine (walk a0 a1 w0 w1 W).mono fun e W' ⟨he, hg⟩ => ?_
  subst he
  exact ⟨_, rfl, _, _, _, [], [], [], hW', trodAll_mk1 (shut_bool Try.underlying4 _), (trodAll_cons_mk (shut_int Try.underlying3 w0) (trodAll_cons_mk (shut_int Try.underlying3 w1) trodAll_mk0)), rfl, hg.frame _, fun h => by cases h⟩

theorem over : Rows.taggedApartRow.holds Try.pinned (OpenSpec.ofChange Rows.taggedApartSpec) :=
  OpenClaim.holds_of_wide 5 Try.f5 rfl rfl rfl rfl rfl rfl rfl ⟨rfl, rfl, rfl, rfl, rfl⟩ rfl rfl rfl rfl rfl (by kernel_rfl) Try.func5 (by kernel_rfl)
    (of_decide_eq_true (by kernel_rfl)) (by unfold Func.isWrapper; first | (rw [if_pos (by decide +kernel)]; kernel_rfl) | (rw [if_neg (by decide +kernel)]; exact ⟨rfl, rfl⟩))
    (fun os started H enc _ => lifted os started H enc)

/-- ████ THE STATEMENT ████ -/
theorem proved : Rows.TaggedApartSaid :=
  over
#print axioms proved
end Go.Proofs.Ythilplfoodlebaa.taggedApart
