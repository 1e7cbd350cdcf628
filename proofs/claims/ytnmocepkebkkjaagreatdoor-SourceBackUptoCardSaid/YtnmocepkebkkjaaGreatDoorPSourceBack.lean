/-
The law SourceBack of layer 4, in its second form: data that may be are read from what is written of them, as long as that is not too long; the arguments of bulk at most 1048576; the listed package-level variables as the program lays them.
-/
import Derived.Test.YtnmocepkebkkjaaGreatDoorC1
import Derived.Test.YtnmocepkebkkjaaGreatDoorWC
namespace Go.Proofs.YtnmocepkebkkjaaGreatDoor.sourceBack
open Go.ChangeShapes Go.WideShapes Go.ChangeAt Go.WideMaps Go.WideElems Go.RowKit

theorem reads (os : Os) {H : Type} (enc : TypeId × Value → H) : ∃ places, DataW.whole enc Tryz.prog ((World.laidAll Tryz.prog os laid7).forCall (fun _ _ => 0) ⟨#[], #[.slice none 0 0], []⟩).memory Tryz.f4.params.toList Rows.sourceBackSpec.vars false #[Value.slice none 0 0].toList 8 = some ([.nil], [], places) :=
  ⟨[], by kernel_rfl⟩

set_option maxRecDepth 100000 in
theorem liftedUpto (os : Os) (started : os.Started) (H : Type) (enc : TypeId × Value → H) (F : Stop.Interp) :
    ReturnsInHanded {} Tryz.checked os 4 .any ((Rows.OpenSpec.upto Rows.sourceBackSpec).preRow enc Tryz.prog Tryz.f4 Rows.sourceBackUptoRow.domain false Rows.sourceBackUptoRow.laid) (((Rows.OpenSpec.upto Rows.sourceBackSpec).at F).post enc Tryz.prog Tryz.f4 false true false false) := by
  obtain ⟨places, hx⟩ := reads os enc
  refine returnsInHanded_of_row (C := Tryz.checked) (s := Rows.OpenSpec.upto Rows.sourceBackSpec) own started (by kernel_rfl) Tryz.func4
    (witness7 (s := Rows.OpenSpec.upto Rows.sourceBackSpec) #[.slice none 0 0] (by kernel_rfl) hx (fun k hk => by cases hk; kernel_rfl) (by kernel_rfl) (World.shaped_of_ZipB (by kernel_rfl) (by kernel_rfl))) ?_
  intro W base args ds gs before hval hW _ hcond _ hL0 _ _
  have hL : laidMetH Tryz.prog laid7 W := hL0
  have hW' := hW
  obtain ⟨p, q, hA0, hV, rfl, hfz, hnd⟩ := hW
  have hA : DataW.TrodAll enc Tryz.prog W 0 (fun _ => true) true Tryz.f4.params.toList args.toList ds p := hA0
  rw [Tryz.params4] at hA hval
  obtain ⟨v0, d0, rfl, rfl, h0⟩ := trodAll_one hA
  obtain ⟨rfl, rfl⟩ := trodVars_none hV
  clear hA0
  have hT := laidOk_of hL
  have hlt : ∀ x ∈ p, x.block < W.heap.size := fun x hx => by
    have := hW'.lt x (by simpa using hx)
    simpa using this
  have h0k := h0
  obtain ⟨l0, r0⟩ := arg_data (hval 0 22 v0 rfl rfl) h0
  have hlen : l0.length ≤ 1048576 := by
    obtain ⟨a, c, rfl, _⟩ := r0
    have h1 := len_bulk h0
    have h2 := bulk_bound (hcond _ rfl)
    simp only [List.append_nil, Rows.uptoBulkAll] at h2
    omega
  have h2 : 2 ≤ W.heap.size := by have := hT.1.two; omega
  refine (back_walk l0 v0 W r0 hT h2 hlen).mono fun e W' ⟨he, hb⟩ => ?_
  subst he
  exact ⟨_, rfl, _, _, _, [], _, [], hW', trodAll_mk1 (shut_bool Tryz.underlying4 _), trodAll_mk1 (arg_stays (by kernel_rfl) (of_decide_eq_true (by kernel_rfl)) h0k hb hlt _ (fun x hx => by simpa using hlt x hx)), rfl, by simpa using hb.frame _, fun h => by cases h⟩

theorem over : Rows.SourceBackUptoSaid :=
  OpenClaim.holds_of_cond 4 Tryz.f4 rfl rfl rfl rfl rfl rfl rfl ⟨rfl, rfl, rfl, rfl, rfl⟩ rfl rfl rfl rfl rfl (by kernel_rfl) Tryz.func4 (by kernel_rfl)
    (of_decide_eq_true (by kernel_rfl)) (by unfold Func.isWrapper; first | (rw [if_pos (by decide +kernel)]; kernel_rfl) | (rw [if_neg (by decide +kernel)]; exact ⟨rfl, rfl⟩))
    (fun os started H enc _ F => by rw [OpenClaim.pre_eq_preRow]; exact liftedUpto os started H enc F)

/-- ████ THE STATEMENT: the second form's tied card ████ -/
theorem proved : Rows.SourceBackUptoCardSaid :=
  Claim7.holds_tied_plain_at .later [] _ _ _ _ over (fun _ h => by cases h) (by kernel_rfl) (fun _ h => by cases h) sourceBackUpto_row_tie rfl ⟨rfl, rfl⟩ (by kernel_rfl) rfl
    (fun f fn hf hfn => by
      obtain rfl : f = 4 := (Option.some.inj ((show _ = some 4 by kernel_rfl : Tryz.prog.funcNamed _ = some 4).symm.trans hf)).symm
      obtain rfl : fn = Tryz.f4 := (Option.some.inj (Tryz.func4.symm.trans hfn)).symm
      exact ⟨by kernel_rfl, fun j t ht => by
        rw [Tryz.params4] at ht
        have hm : t ∈ [22] := by simpa using Array.mem_of_getElem? ht
        have hall : ([22].all fun u => !Tryz.prog.wantsStandIn u) = true := by kernel_rfl
        exact (show Tryz.prog.wantsStandIn t = false by simpa using List.all_eq_true.1 hall t hm)⟩)
    (by kernel_rfl)
#print axioms proved
end Go.Proofs.YtnmocepkebkkjaaGreatDoor.sourceBack
