/-
The law LiftedHolds of layer 14: of functions within one another, each of which uses its own parameter and that of one around it, a closure holds just what its function uses from outside; for every row of numbers. No condition.
-/
import Derived.Test.YtkjgdnfkpebejaaN25
import Derived.Test.YtkjgdnfkpebejaaRows
import Derived.WalkKit
import Derived.ProofKit
import Derived.OpenShut
import Derived.LaidMore
import Derived.Lay

namespace Go.Proofs.Ytkjgdnfkpebejaa.liftedHolds
open Go.ChangeShapes Go.WideShapes Go.ChangeAt Go.WideMaps Go.WideElems Go.RowKit
set_option maxRecDepth 100000

theorem own : ownKnob Try.prog.godebug = none := by kernel_rfl
theorem laidOut : laidOutB Try.prog = true := by kernel_rfl
/-- An argument reads behind the call as it did before. -/
theorem arg_stays {H : Type} {enc : TypeId × Value → H} {t : TypeId} (hr : Try.prog.readableRec t = true) (hrow : t < Try.prog.types.size) {W W' : World} {v : Value} {d : DataW H} {ps : List MemPlace}
    (h : DataW.Trod enc Try.prog W 0 (fun _ => true) true t v d ps) (hb : Below W.heap.size W W') (hlt : ∀ x ∈ ps, x.block < W.heap.size) (sp : Nat → Bool) (hsp : ∀ x ∈ ps, sp x.block = true) :
    DataW.Trod enc Try.prog W' 0 sp true t v d ps :=
  WideElems.Trod_stays laidOut hr hrow h (fun x hx => hb.same (hlt x hx)) hsp
section
variable {H : Type} {enc : TypeId × Value → H} {w : World} {spare : Nat → Bool} {held : Bool} {r : Reach} {b0 : Nat}
theorem cv_0 : Try.prog.cellsOf 3 = 1 := by kernel_rfl
/-- A row of numbers that is an argument. -/
theorem open_ints {n : Nat} {cs : List Value} {x : DataW H × List MemPlace} (h : DataW.trod enc Try.prog w 0 spare held n 47 cs = some x) : ∃ v l, cs = [v] ∧ Core.InZ14 w l v := by
  rcases DataW.trod_slice Try.underlying47 h with ⟨rfl, _⟩ | ⟨⟨b, o, spot⟩, len, cap, elems, rest, m, rfl, rfl, rfl, _, hl, hm, hlen, hel, _, _⟩
  · exact ⟨_, [], rfl, none, 0, rfl, Nat.le_refl _, Nat.zero_le _, fun j hj => (by cases hj)⟩
  rw [cv_0] at hel
  by_cases h0 : len = 0
  · subst h0
    exact ⟨_, [], rfl, some _, cap, rfl, Nat.zero_le _, hm, fun j hj => (by cases hj)⟩
  have hs : spot = none := by
    have he := hel 0 (by omega)
    rw [List.getElem?_eq_getElem (by omega), Option.bind_eq_some_iff] at he
    obtain ⟨cs', hc, ht⟩ := he
    obtain ⟨_, hcl, hat⟩ := World.cells?_some hc
    obtain ⟨t, rfl, _⟩ := DataW.trod_int Try.underlying3 ht
    have a0 := hat 0 (by decide)
    simpa [Addr.add] using World.cell?_spot a0
  subst hs
  have each : ∀ i, i < len → ∃ t : Int, b < w.heap.size ∧ w.cell? ⟨b, o + i, none⟩ = some (.int .i64 t) ∧ Dat.ok64 t := by
    intro i hi
    have he := hel i hi
    rw [List.getElem?_eq_getElem (by omega), Option.bind_eq_some_iff] at he
    obtain ⟨cs', hc, ht⟩ := he
    obtain ⟨_, hcl, hat⟩ := World.cells?_some hc
    obtain ⟨t, rfl, _, wt⟩ := DataW.trod_int Try.underlying3 ht
    have a0 := hat 0 (by decide)
    simp only [add_plain, Nat.mul_one, Nat.add_zero, List.getElem?_cons_zero] at a0
    exact ⟨t, World.block_lt_of_cell? _ _ a0, a0, Dat.ok64_of wt⟩
  obtain ⟨f, hf⟩ : ∃ f : Nat → Int, ∀ i, i < len → b < w.heap.size ∧ w.cell? ⟨b, o + i, none⟩ = some (.int .i64 (f i)) ∧ Dat.ok64 (f i) :=
    ⟨fun i => if hi : i < len then (each i hi).choose else 0, fun i hi => by
      have := (each i hi).choose_spec
      simpa [hi] using this⟩
  refine ⟨_, (List.range len).map f, rfl, some ⟨b, o, none⟩, cap, by simp, by simpa using hl, hm, fun j hj => ?_⟩
  simp only [List.length_map, List.length_range] at hj
  obtain ⟨h1, h2, h3⟩ := hf j hj
  simp only [List.getElem_map, List.getElem_range]
  exact ⟨h3, b, o, rfl, h1, h2⟩
end


theorem lifted (os : Os) (started : os.Started) (H : Type) (enc : TypeId × Value → H) :
    ReturnsInHanded {} Try.checked os 5 .any (Rows.liftedHoldsSpec.pre6 enc Try.prog Try.f5 Rows.liftedHoldsRow.domain false) (Rows.liftedHoldsSpec.post enc Try.prog Try.f5 false true false false) := by
  refine returnsInHanded_of_change (C := Try.checked) own started (by kernel_rfl) Try.func5
    (ChangeSpec.witness6 (enc := enc) (C := Try.checked) false ⟨#[], #[.slice none 0 0], []⟩ 8 (by kernel_rfl) (by kernel_rfl) (by kernel_rfl) (by kernel_rfl)) ?_
  intro W base args ds gs before hval0 hW hcnd _
  have hval : ∀ (j : Nat) t v, Try.f5.params[j]? = some t → args[j]? = some v → Value.okWide Try.prog W .any base t v := hval0
  have hW' := hW
  obtain ⟨p, q, hA0, hV, rfl, hfz, hnd⟩ := hW
  have hA : DataW.TrodAll enc Try.prog W 0 (fun _ => true) true Try.f5.params.toList args.toList ds p := hA0
  rw [Try.params5] at hA hval
  obtain ⟨v0, d0, rfl, rfl, h0⟩ := trodAll_one hA
  obtain ⟨rfl, rfl⟩ := trodVars_none hV
  clear hA0 hval0
  have hlt : ∀ x ∈ p, x.block < W.heap.size := fun x hx => by
    have := hW'.lt x (by simpa using hx)
    simpa using this
  have h0k := h0
  obtain ⟨n0, hn0⟩ := h0
  obtain ⟨u0, l0, e0, r0⟩ := open_ints hn0
  obtain ⟨a0, len0, cap0, rfl⟩ := okWide_slice Try.underlying47 (hval 0 47 v0 rfl rfl)
  simp only [Value.cells, List.cons.injEq, and_true] at e0
  subst e0
  refine (Core.holds14_walk l0 _ W r0).mono fun e W' ⟨he, hb⟩ => ?_
  subst he
  exact ⟨_, rfl, _, _, _, [], _, [], hW', trodAll_mk1 (shut_bool Try.underlying4 _), trodAll_mk1 (arg_stays (by kernel_rfl) (of_decide_eq_true (by kernel_rfl)) h0k hb hlt _ (fun x hx => by simpa using hlt x hx)), rfl, by simpa using hb.frame _, fun h => by cases h⟩


theorem over : Rows.liftedHoldsRow.holds Try.pinned (OpenSpec.ofChange Rows.liftedHoldsSpec) :=
  OpenClaim.holds_of_wide 5 Try.f5 rfl rfl rfl rfl rfl rfl rfl ⟨rfl, rfl, rfl, rfl, rfl⟩ rfl rfl rfl rfl rfl (by kernel_rfl) Try.func5 (by kernel_rfl)
    (of_decide_eq_true (by kernel_rfl)) (by unfold Func.isWrapper; first | (rw [if_pos (by decide +kernel)]; kernel_rfl) | (rw [if_neg (by decide +kernel)]; exact ⟨rfl, rfl⟩))
    (fun os started H enc _ => lifted os started H enc)

/-- ████ THE STATEMENT ████ -/
theorem proved : Rows.LiftedHoldsSaid :=
  over
#print axioms proved
end Go.Proofs.Ytkjgdnfkpebejaa.liftedHolds
