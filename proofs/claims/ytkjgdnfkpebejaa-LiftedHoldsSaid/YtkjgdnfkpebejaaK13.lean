/-
Package core's hasFields: are an expression's fields as its kind takes them? No condition.
-/
import Derived.Test.YtkjgdnfkpebejaaK12

namespace Go.Proofs.Ytkjgdnfkpebejaa.Core
open Go.ChangeShapes Go.WideShapes Go.ChangeAt Go.RowKit Go.Deep
open Dat (PT ok64 RepV RepS checkB sameB)
set_option maxRecDepth 100000

theorem InF.const {w : World} {S : Nat → Prop} {k : Int} {nm : ByteArray} {ns : List ByteArray} {ck ci : Int} {cs : ByteArray} {cl : List PT} {l : List PE} {vn vd vk : Value} (h : InF w S (.mk k nm ns (.mk ck ci cs cl) l) vn vd vk) {W : World} (hb : Below w.heap.size w W) : RepV W W.heap.size (.mk ck ci cs cl) vd :=
  ⟨h.2.1.1, h.2.1.2.1, h.2.1.2.2.1, (h.2.1.2.2.2.rep.below hb (Nat.le_refl _)).move hb.size (fun _ _ _ => rfl)⟩
theorem hasFields_e (k : Int) (b0 : (k == 0) = false) (b1 : (k == 1) = false) (b2 : (k == 2) = false) (b5 : (k == 5) = false) (b7 : (k == 7) = false) (b8 : (k == 8) = false) (b9 : (k == 9) = false) (b10 : (k == 10) = false) (nm : ByteArray) (ns : List ByteArray) (ck ci : Int) (cs : ByteArray) (cl : List PT) (l : List PE) (S : Nat → Prop) (vn vd vk : Value) (w : World) (h : InF w S (.mk k nm ns (.mk ck ci cs cl) l) vn vd vk) (_ : ∀ b, S b → b < w.heap.size) :
    Calls Try.prog 51 #[(PE.mk k nm ns (.mk ck ci cs cl) l).val vn vd vk] w fun e w' => e = .returned (.bool (fieldsB k nm ns (.mk ck ci cs cl))) ∧ Below w.heap.size w w' := by
  have HI := Lib.hid h
  have HNM := Lib.hid h.1.2.1
  obtain ⟨⟨_, _, an, cn, rfl, hln, hmn, _⟩, ⟨_, _, _, ad, cd, rfl, hld, hmd, _⟩, ak, c, rfl, hl, hm, _⟩ := h
  unfold maxLen at hmn hm hmd
  show Calls Try.prog 51 #[.agg #[.int .i64 k, .string nm, .slice an ns.length cn, .int .i64 ck, .int .i64 ci, .string cs, .slice ad cl.length cd, .slice ak l.length c]] w _
  have HR : Hid (fieldsB k nm ns (.mk ck ci cs cl) = (decide (nm.toList = []) && decide (ns = []) && sameB (.mk ck ci cs cl) PT0)) := Lib.hid (by simp only [beq_eq_false_iff_ne] at b0 b1 b2 b5 b7 b8 b9 b10; simp [fieldsB, nameOkB, namesOkB, constOkB, b0, b1, b2, b5, b7, b8, b9, b10])
  generalize hw0 : w.alloc (.cells #[.int .i64 k, .string nm, .slice an ns.length cn, .int .i64 ck, .int .i64 ci, .string cs, .slice ad cl.length cd, .slice ak l.length c] 28) = w0
  have HB0 : Hid (Below w.heap.size w w0) := Lib.hid (by rw [← hw0]; exact (Below.refl _ _).alloc (Nat.le_refl _) _)
  have HW0 := Lib.hid hw0
  have KE : Hid (∀ W, Below w0.heap.size w0 W → Calls Try.prog 70 #[.agg #[.int .i64 ck, .int .i64 ci, .string cs, .slice ad cl.length cd]] W fun e w' => e = .returned (.bool (sameB (.mk ck ci cs cl) PT0)) ∧ Below w0.heap.size w0 w') := Lib.hid fun W hb => (isEmpty_pt ck ci cs cl ad cd W).mono fun _ _ h => And.intro h.1 (hb.trans (h.2.mono hb.size))

  have CC : Hid (∀ W, Below w0.heap.size w0 W → W.cell? ⟨w.heap.size, 0, none⟩ = some (.int .i64 k) ∧ W.cell? ⟨w.heap.size, 1, none⟩ = some (.string nm) ∧ W.cell? ⟨w.heap.size, 2, none⟩ = some (.slice an ns.length cn) ∧ W.cell? ⟨w.heap.size, 3, none⟩ = some (.int .i64 ck) ∧ W.cell? ⟨w.heap.size, 4, none⟩ = some (.int .i64 ci) ∧ W.cell? ⟨w.heap.size, 5, none⟩ = some (.string cs) ∧ W.cell? ⟨w.heap.size, 6, none⟩ = some (.slice ad cl.length cd) ∧ Below w0.heap.size w0 W) := Lib.hid fun W hb => by
    have h := fun o => World.cell?_of_block (w := w0) (a := ⟨w.heap.size, o, none⟩) (hb.block w.heap.size (by rw [← HW0.out, size_new]; omega))
    have g := heap_alloc_new w (.cells #[.int .i64 k, .string nm, .slice an ns.length cn, .int .i64 ck, .int .i64 ci, .string cs, .slice ad cl.length cd, .slice ak l.length c] 28)
    rw [HW0.out] at g
    refine ⟨(h 0).trans ?_, (h 1).trans ?_, (h 2).trans ?_, (h 3).trans ?_, (h 4).trans ?_, (h 5).trans ?_, (h 6).trans ?_, hb⟩ <;> (rw [Lib.cell_of_heap g]; rfl)
  have OF : Hid (∀ W, (W.cell? ⟨w.heap.size, 0, none⟩ = some (.int .i64 k) ∧ W.cell? ⟨w.heap.size, 1, none⟩ = some (.string nm) ∧ W.cell? ⟨w.heap.size, 2, none⟩ = some (.slice an ns.length cn) ∧ W.cell? ⟨w.heap.size, 3, none⟩ = some (.int .i64 ck) ∧ W.cell? ⟨w.heap.size, 4, none⟩ = some (.int .i64 ci) ∧ W.cell? ⟨w.heap.size, 5, none⟩ = some (.string cs) ∧ W.cell? ⟨w.heap.size, 6, none⟩ = some (.slice ad cl.length cd) ∧ Below w0.heap.size w0 W) → Below w0.heap.size w0 W) := Lib.hid fun W h => h.2.2.2.2.2.2.2
  have BZ : Below w0.heap.size w0 w0 := Below.refl _ _
  generalize sameB (.mk ck ci cs cl) PT0 = rc at *
  generalize fieldsB k nm ns (.mk ck ci cs cl) = r at *

  clear hw0
  go_enter Try.func51, Try.ntmps51
  go_wp2
  rw [HW0.out]
  go_region_held3 (fun W => W.cell? ⟨w.heap.size, 0, none⟩ = some (.int .i64 k) ∧ W.cell? ⟨w.heap.size, 1, none⟩ = some (.string nm) ∧ W.cell? ⟨w.heap.size, 2, none⟩ = some (.slice an ns.length cn) ∧ W.cell? ⟨w.heap.size, 3, none⟩ = some (.int .i64 ck) ∧ W.cell? ⟨w.heap.size, 4, none⟩ = some (.int .i64 ci) ∧ W.cell? ⟨w.heap.size, 5, none⟩ = some (.string cs) ∧ W.cell? ⟨w.heap.size, 6, none⟩ = some (.slice ad cl.length cd) ∧ Below w0.heap.size w0 W)
    (first | (exact CC.out _ (by assumption)) | (exact CC.out _ (Below.drew (by assumption))))
    (first | (go_at_call 70; refine (KE.out _ (OF.out _ (by assumption))).mono ?_; rintro e w6 ⟨rfl, hb6⟩))
  all_goals
    have HBX := Lib.hid (HB0.out.trans ((OF.out _ (by assumption)).mono HB0.out.size))
    go_wp2
    all_goals
      go_ret
      refine ⟨ret_bool ?_, HBX.out⟩
      rw [HR.out]
      rw [Bool.eq_iff_iff]
      first | (simp [*]; done) | (simp [*]; intros; omega)

theorem hasFields_0 (nm : ByteArray) (ns : List ByteArray) (ck ci : Int) (cs : ByteArray) (cl : List PT) (l : List PE) (S : Nat → Prop) (vn vd vk : Value) (w : World) (h : InF w S (.mk 0 nm ns (.mk ck ci cs cl) l) vn vd vk) (_ : ∀ b, S b → b < w.heap.size) :
    Calls Try.prog 51 #[(PE.mk 0 nm ns (.mk ck ci cs cl) l).val vn vd vk] w fun e w' => e = .returned (.bool (fieldsB 0 nm ns (.mk ck ci cs cl))) ∧ Below w.heap.size w w' := by
  have HI := Lib.hid h
  have HNM := Lib.hid h.1.2.1
  obtain ⟨⟨_, _, an, cn, rfl, hln, hmn, _⟩, ⟨_, _, _, ad, cd, rfl, hld, hmd, _⟩, ak, c, rfl, hl, hm, _⟩ := h
  unfold maxLen at hmn hm hmd
  show Calls Try.prog 51 #[.agg #[.int .i64 0, .string nm, .slice an ns.length cn, .int .i64 ck, .int .i64 ci, .string cs, .slice ad cl.length cd, .slice ak l.length c]] w _
  have HR : Hid (fieldsB 0 nm ns (.mk ck ci cs cl) = (decide (nm.toList = []) && decide (ns = []) && constB (.mk ck ci cs cl))) := Lib.hid (by simp [fieldsB, nameOkB, namesOkB, constOkB])
  generalize hw0 : w.alloc (.cells #[.int .i64 0, .string nm, .slice an ns.length cn, .int .i64 ck, .int .i64 ci, .string cs, .slice ad cl.length cd, .slice ak l.length c] 28) = w0
  have HB0 : Hid (Below w.heap.size w w0) := Lib.hid (by rw [← hw0]; exact (Below.refl _ _).alloc (Nat.le_refl _) _)
  have HW0 := Lib.hid hw0
  have KE : Hid (∀ W, Below w0.heap.size w0 W → Calls Try.prog 70 #[.agg #[.int .i64 ck, .int .i64 ci, .string cs, .slice ad cl.length cd]] W fun e w' => e = .returned (.bool (sameB (.mk ck ci cs cl) PT0)) ∧ Below w0.heap.size w0 w') := Lib.hid fun W hb => (isEmpty_pt ck ci cs cl ad cd W).mono fun _ _ h => And.intro h.1 (hb.trans (h.2.mono hb.size))
  have KX : Hid (∀ W, Below w0.heap.size w0 W → Calls Try.prog 71 #[.agg #[.int .i64 ck, .int .i64 ci, .string cs, .slice ad cl.length cd]] W fun e w' => e = .returned (.bool (constB (.mk ck ci cs cl))) ∧ Below w0.heap.size w0 w') := Lib.hid fun W hb => (isConstant_any ck ci cs cl (.slice ad cl.length cd) W (HI.out.const (HB0.out.trans (hb.mono HB0.out.size)))).mono fun _ _ h => And.intro h.1 (hb.trans (h.2.mono hb.size))
  have CC : Hid (∀ W, Below w0.heap.size w0 W → W.cell? ⟨w.heap.size, 0, none⟩ = some (.int .i64 0) ∧ W.cell? ⟨w.heap.size, 1, none⟩ = some (.string nm) ∧ W.cell? ⟨w.heap.size, 2, none⟩ = some (.slice an ns.length cn) ∧ W.cell? ⟨w.heap.size, 3, none⟩ = some (.int .i64 ck) ∧ W.cell? ⟨w.heap.size, 4, none⟩ = some (.int .i64 ci) ∧ W.cell? ⟨w.heap.size, 5, none⟩ = some (.string cs) ∧ W.cell? ⟨w.heap.size, 6, none⟩ = some (.slice ad cl.length cd) ∧ Below w0.heap.size w0 W) := Lib.hid fun W hb => by
    have h := fun o => World.cell?_of_block (w := w0) (a := ⟨w.heap.size, o, none⟩) (hb.block w.heap.size (by rw [← HW0.out, size_new]; omega))
    have g := heap_alloc_new w (.cells #[.int .i64 0, .string nm, .slice an ns.length cn, .int .i64 ck, .int .i64 ci, .string cs, .slice ad cl.length cd, .slice ak l.length c] 28)
    rw [HW0.out] at g
    refine ⟨(h 0).trans ?_, (h 1).trans ?_, (h 2).trans ?_, (h 3).trans ?_, (h 4).trans ?_, (h 5).trans ?_, (h 6).trans ?_, hb⟩ <;> (rw [Lib.cell_of_heap g]; rfl)
  have OF : Hid (∀ W, (W.cell? ⟨w.heap.size, 0, none⟩ = some (.int .i64 0) ∧ W.cell? ⟨w.heap.size, 1, none⟩ = some (.string nm) ∧ W.cell? ⟨w.heap.size, 2, none⟩ = some (.slice an ns.length cn) ∧ W.cell? ⟨w.heap.size, 3, none⟩ = some (.int .i64 ck) ∧ W.cell? ⟨w.heap.size, 4, none⟩ = some (.int .i64 ci) ∧ W.cell? ⟨w.heap.size, 5, none⟩ = some (.string cs) ∧ W.cell? ⟨w.heap.size, 6, none⟩ = some (.slice ad cl.length cd) ∧ Below w0.heap.size w0 W) → Below w0.heap.size w0 W) := Lib.hid fun W h => h.2.2.2.2.2.2.2
  have BZ : Below w0.heap.size w0 w0 := Below.refl _ _
  generalize sameB (.mk ck ci cs cl) PT0 = rc at *
  generalize fieldsB 0 nm ns (.mk ck ci cs cl) = r at *
  generalize constB (.mk ck ci cs cl) = rx at *
  clear hw0
  go_enter Try.func51, Try.ntmps51
  go_wp2
  rw [HW0.out]
  go_region_held3 (fun W => W.cell? ⟨w.heap.size, 0, none⟩ = some (.int .i64 0) ∧ W.cell? ⟨w.heap.size, 1, none⟩ = some (.string nm) ∧ W.cell? ⟨w.heap.size, 2, none⟩ = some (.slice an ns.length cn) ∧ W.cell? ⟨w.heap.size, 3, none⟩ = some (.int .i64 ck) ∧ W.cell? ⟨w.heap.size, 4, none⟩ = some (.int .i64 ci) ∧ W.cell? ⟨w.heap.size, 5, none⟩ = some (.string cs) ∧ W.cell? ⟨w.heap.size, 6, none⟩ = some (.slice ad cl.length cd) ∧ Below w0.heap.size w0 W)
    (first | (exact CC.out _ (by assumption)) | (exact CC.out _ (Below.drew (by assumption))))
    (first | (go_at_call 70; refine (KE.out _ (OF.out _ (by assumption))).mono ?_; rintro e w6 ⟨rfl, hb6⟩))
  all_goals
    have HBX := Lib.hid (HB0.out.trans ((OF.out _ (by assumption)).mono HB0.out.size))
    go_wp2_with fail
    refine (KX.out _ (OF.out _ (by assumption))).mono ?_
    rintro e w7 ⟨rfl, hb7⟩
    have HBY := Lib.hid (HB0.out.trans (hb7.mono HB0.out.size))
    have hc7 := CC.out _ hb7
    go_wp2
    all_goals
      go_ret
      refine ⟨ret_bool ?_, HBY.out⟩
      rw [HR.out]
      rw [Bool.eq_iff_iff]
      first | (simp [*]; done) | (simp [*]; intros; omega)

theorem hasFields_1 (nm : ByteArray) (ns : List ByteArray) (ck ci : Int) (cs : ByteArray) (cl : List PT) (l : List PE) (S : Nat → Prop) (vn vd vk : Value) (w : World) (h : InF w S (.mk 1 nm ns (.mk ck ci cs cl) l) vn vd vk) (_ : ∀ b, S b → b < w.heap.size) :
    Calls Try.prog 51 #[(PE.mk 1 nm ns (.mk ck ci cs cl) l).val vn vd vk] w fun e w' => e = .returned (.bool (fieldsB 1 nm ns (.mk ck ci cs cl))) ∧ Below w.heap.size w w' := by
  have HI := Lib.hid h
  have HNM := Lib.hid h.1.2.1
  obtain ⟨⟨_, _, an, cn, rfl, hln, hmn, _⟩, ⟨_, _, _, ad, cd, rfl, hld, hmd, _⟩, ak, c, rfl, hl, hm, _⟩ := h
  unfold maxLen at hmn hm hmd
  show Calls Try.prog 51 #[.agg #[.int .i64 1, .string nm, .slice an ns.length cn, .int .i64 ck, .int .i64 ci, .string cs, .slice ad cl.length cd, .slice ak l.length c]] w _
  have HR : Hid (fieldsB 1 nm ns (.mk ck ci cs cl) = (nameB nm.data.toList && decide (ns = []) && sameB (.mk ck ci cs cl) PT0)) := Lib.hid (by simp [fieldsB, nameOkB, namesOkB, constOkB])
  generalize hw0 : w.alloc (.cells #[.int .i64 1, .string nm, .slice an ns.length cn, .int .i64 ck, .int .i64 ci, .string cs, .slice ad cl.length cd, .slice ak l.length c] 28) = w0
  have HB0 : Hid (Below w.heap.size w w0) := Lib.hid (by rw [← hw0]; exact (Below.refl _ _).alloc (Nat.le_refl _) _)
  have HW0 := Lib.hid hw0
  have KE : Hid (∀ W, Below w0.heap.size w0 W → Calls Try.prog 70 #[.agg #[.int .i64 ck, .int .i64 ci, .string cs, .slice ad cl.length cd]] W fun e w' => e = .returned (.bool (sameB (.mk ck ci cs cl) PT0)) ∧ Below w0.heap.size w0 w') := Lib.hid fun W hb => (isEmpty_pt ck ci cs cl ad cd W).mono fun _ _ h => And.intro h.1 (hb.trans (h.2.mono hb.size))
  have KX : Hid (∀ W, Below w0.heap.size w0 W → Calls Try.prog 72 #[.string nm] W fun e w' => e = .returned (.bool (nameB nm.data.toList)) ∧ Below w0.heap.size w0 w') := Lib.hid fun W hb => (name_any nm W HNM.out).mono fun _ _ h => And.intro h.1 (h.2 ▸ hb)
  have CC : Hid (∀ W, Below w0.heap.size w0 W → W.cell? ⟨w.heap.size, 0, none⟩ = some (.int .i64 1) ∧ W.cell? ⟨w.heap.size, 1, none⟩ = some (.string nm) ∧ W.cell? ⟨w.heap.size, 2, none⟩ = some (.slice an ns.length cn) ∧ W.cell? ⟨w.heap.size, 3, none⟩ = some (.int .i64 ck) ∧ W.cell? ⟨w.heap.size, 4, none⟩ = some (.int .i64 ci) ∧ W.cell? ⟨w.heap.size, 5, none⟩ = some (.string cs) ∧ W.cell? ⟨w.heap.size, 6, none⟩ = some (.slice ad cl.length cd) ∧ Below w0.heap.size w0 W) := Lib.hid fun W hb => by
    have h := fun o => World.cell?_of_block (w := w0) (a := ⟨w.heap.size, o, none⟩) (hb.block w.heap.size (by rw [← HW0.out, size_new]; omega))
    have g := heap_alloc_new w (.cells #[.int .i64 1, .string nm, .slice an ns.length cn, .int .i64 ck, .int .i64 ci, .string cs, .slice ad cl.length cd, .slice ak l.length c] 28)
    rw [HW0.out] at g
    refine ⟨(h 0).trans ?_, (h 1).trans ?_, (h 2).trans ?_, (h 3).trans ?_, (h 4).trans ?_, (h 5).trans ?_, (h 6).trans ?_, hb⟩ <;> (rw [Lib.cell_of_heap g]; rfl)
  have OF : Hid (∀ W, (W.cell? ⟨w.heap.size, 0, none⟩ = some (.int .i64 1) ∧ W.cell? ⟨w.heap.size, 1, none⟩ = some (.string nm) ∧ W.cell? ⟨w.heap.size, 2, none⟩ = some (.slice an ns.length cn) ∧ W.cell? ⟨w.heap.size, 3, none⟩ = some (.int .i64 ck) ∧ W.cell? ⟨w.heap.size, 4, none⟩ = some (.int .i64 ci) ∧ W.cell? ⟨w.heap.size, 5, none⟩ = some (.string cs) ∧ W.cell? ⟨w.heap.size, 6, none⟩ = some (.slice ad cl.length cd) ∧ Below w0.heap.size w0 W) → Below w0.heap.size w0 W) := Lib.hid fun W h => h.2.2.2.2.2.2.2
  have BZ : Below w0.heap.size w0 w0 := Below.refl _ _
  generalize sameB (.mk ck ci cs cl) PT0 = rc at *
  generalize fieldsB 1 nm ns (.mk ck ci cs cl) = r at *
  generalize nameB nm.data.toList = rx at *
  clear hw0
  go_enter Try.func51, Try.ntmps51
  go_wp2
  rw [HW0.out]
  go_region_held3 (fun W => W.cell? ⟨w.heap.size, 0, none⟩ = some (.int .i64 1) ∧ W.cell? ⟨w.heap.size, 1, none⟩ = some (.string nm) ∧ W.cell? ⟨w.heap.size, 2, none⟩ = some (.slice an ns.length cn) ∧ W.cell? ⟨w.heap.size, 3, none⟩ = some (.int .i64 ck) ∧ W.cell? ⟨w.heap.size, 4, none⟩ = some (.int .i64 ci) ∧ W.cell? ⟨w.heap.size, 5, none⟩ = some (.string cs) ∧ W.cell? ⟨w.heap.size, 6, none⟩ = some (.slice ad cl.length cd) ∧ Below w0.heap.size w0 W)
    (first | (exact CC.out _ (by assumption)) | (exact CC.out _ (Below.drew (by assumption))))
    (first | (go_at_call 70; refine (KE.out _ (OF.out _ (by assumption))).mono ?_; rintro e w6 ⟨rfl, hb6⟩))
  all_goals
    have HBX := Lib.hid (HB0.out.trans ((OF.out _ (by assumption)).mono HB0.out.size))
    go_wp2_with fail
    refine (KX.out _ (OF.out _ (by assumption))).mono ?_
    rintro e w7 ⟨rfl, hb7⟩
    have HBY := Lib.hid (HB0.out.trans (hb7.mono HB0.out.size))
    have hc7 := CC.out _ hb7
    go_wp2
    all_goals
      go_ret
      refine ⟨ret_bool ?_, HBY.out⟩
      rw [HR.out]
      rw [Bool.eq_iff_iff]
      first | (simp [*]; done) | (simp [*]; intros; omega)

theorem hasFields_2 (nm : ByteArray) (ns : List ByteArray) (ck ci : Int) (cs : ByteArray) (cl : List PT) (l : List PE) (S : Nat → Prop) (vn vd vk : Value) (w : World) (h : InF w S (.mk 2 nm ns (.mk ck ci cs cl) l) vn vd vk) (_ : ∀ b, S b → b < w.heap.size) :
    Calls Try.prog 51 #[(PE.mk 2 nm ns (.mk ck ci cs cl) l).val vn vd vk] w fun e w' => e = .returned (.bool (fieldsB 2 nm ns (.mk ck ci cs cl))) ∧ Below w.heap.size w w' := by
  have HI := Lib.hid h
  have HNM := Lib.hid h.1.2.1
  obtain ⟨⟨_, _, an, cn, rfl, hln, hmn, _⟩, ⟨_, _, _, ad, cd, rfl, hld, hmd, _⟩, ak, c, rfl, hl, hm, _⟩ := h
  unfold maxLen at hmn hm hmd
  show Calls Try.prog 51 #[.agg #[.int .i64 2, .string nm, .slice an ns.length cn, .int .i64 ck, .int .i64 ci, .string cs, .slice ad cl.length cd, .slice ak l.length c]] w _
  have HR : Hid (fieldsB 2 nm ns (.mk ck ci cs cl) = (nameB nm.data.toList && decide (ns = []) && sameB (.mk ck ci cs cl) PT0)) := Lib.hid (by simp [fieldsB, nameOkB, namesOkB, constOkB])
  generalize hw0 : w.alloc (.cells #[.int .i64 2, .string nm, .slice an ns.length cn, .int .i64 ck, .int .i64 ci, .string cs, .slice ad cl.length cd, .slice ak l.length c] 28) = w0
  have HB0 : Hid (Below w.heap.size w w0) := Lib.hid (by rw [← hw0]; exact (Below.refl _ _).alloc (Nat.le_refl _) _)
  have HW0 := Lib.hid hw0
  have KE : Hid (∀ W, Below w0.heap.size w0 W → Calls Try.prog 70 #[.agg #[.int .i64 ck, .int .i64 ci, .string cs, .slice ad cl.length cd]] W fun e w' => e = .returned (.bool (sameB (.mk ck ci cs cl) PT0)) ∧ Below w0.heap.size w0 w') := Lib.hid fun W hb => (isEmpty_pt ck ci cs cl ad cd W).mono fun _ _ h => And.intro h.1 (hb.trans (h.2.mono hb.size))
  have KX : Hid (∀ W, Below w0.heap.size w0 W → Calls Try.prog 72 #[.string nm] W fun e w' => e = .returned (.bool (nameB nm.data.toList)) ∧ Below w0.heap.size w0 w') := Lib.hid fun W hb => (name_any nm W HNM.out).mono fun _ _ h => And.intro h.1 (h.2 ▸ hb)
  have CC : Hid (∀ W, Below w0.heap.size w0 W → W.cell? ⟨w.heap.size, 0, none⟩ = some (.int .i64 2) ∧ W.cell? ⟨w.heap.size, 1, none⟩ = some (.string nm) ∧ W.cell? ⟨w.heap.size, 2, none⟩ = some (.slice an ns.length cn) ∧ W.cell? ⟨w.heap.size, 3, none⟩ = some (.int .i64 ck) ∧ W.cell? ⟨w.heap.size, 4, none⟩ = some (.int .i64 ci) ∧ W.cell? ⟨w.heap.size, 5, none⟩ = some (.string cs) ∧ W.cell? ⟨w.heap.size, 6, none⟩ = some (.slice ad cl.length cd) ∧ Below w0.heap.size w0 W) := Lib.hid fun W hb => by
    have h := fun o => World.cell?_of_block (w := w0) (a := ⟨w.heap.size, o, none⟩) (hb.block w.heap.size (by rw [← HW0.out, size_new]; omega))
    have g := heap_alloc_new w (.cells #[.int .i64 2, .string nm, .slice an ns.length cn, .int .i64 ck, .int .i64 ci, .string cs, .slice ad cl.length cd, .slice ak l.length c] 28)
    rw [HW0.out] at g
    refine ⟨(h 0).trans ?_, (h 1).trans ?_, (h 2).trans ?_, (h 3).trans ?_, (h 4).trans ?_, (h 5).trans ?_, (h 6).trans ?_, hb⟩ <;> (rw [Lib.cell_of_heap g]; rfl)
  have OF : Hid (∀ W, (W.cell? ⟨w.heap.size, 0, none⟩ = some (.int .i64 2) ∧ W.cell? ⟨w.heap.size, 1, none⟩ = some (.string nm) ∧ W.cell? ⟨w.heap.size, 2, none⟩ = some (.slice an ns.length cn) ∧ W.cell? ⟨w.heap.size, 3, none⟩ = some (.int .i64 ck) ∧ W.cell? ⟨w.heap.size, 4, none⟩ = some (.int .i64 ci) ∧ W.cell? ⟨w.heap.size, 5, none⟩ = some (.string cs) ∧ W.cell? ⟨w.heap.size, 6, none⟩ = some (.slice ad cl.length cd) ∧ Below w0.heap.size w0 W) → Below w0.heap.size w0 W) := Lib.hid fun W h => h.2.2.2.2.2.2.2
  have BZ : Below w0.heap.size w0 w0 := Below.refl _ _
  generalize sameB (.mk ck ci cs cl) PT0 = rc at *
  generalize fieldsB 2 nm ns (.mk ck ci cs cl) = r at *
  generalize nameB nm.data.toList = rx at *
  clear hw0
  go_enter Try.func51, Try.ntmps51
  go_wp2
  rw [HW0.out]
  go_region_held3 (fun W => W.cell? ⟨w.heap.size, 0, none⟩ = some (.int .i64 2) ∧ W.cell? ⟨w.heap.size, 1, none⟩ = some (.string nm) ∧ W.cell? ⟨w.heap.size, 2, none⟩ = some (.slice an ns.length cn) ∧ W.cell? ⟨w.heap.size, 3, none⟩ = some (.int .i64 ck) ∧ W.cell? ⟨w.heap.size, 4, none⟩ = some (.int .i64 ci) ∧ W.cell? ⟨w.heap.size, 5, none⟩ = some (.string cs) ∧ W.cell? ⟨w.heap.size, 6, none⟩ = some (.slice ad cl.length cd) ∧ Below w0.heap.size w0 W)
    (first | (exact CC.out _ (by assumption)) | (exact CC.out _ (Below.drew (by assumption))))
    (first | (go_at_call 70; refine (KE.out _ (OF.out _ (by assumption))).mono ?_; rintro e w6 ⟨rfl, hb6⟩))
  all_goals
    have HBX := Lib.hid (HB0.out.trans ((OF.out _ (by assumption)).mono HB0.out.size))
    go_wp2_with fail
    refine (KX.out _ (OF.out _ (by assumption))).mono ?_
    rintro e w7 ⟨rfl, hb7⟩
    have HBY := Lib.hid (HB0.out.trans (hb7.mono HB0.out.size))
    have hc7 := CC.out _ hb7
    go_wp2
    all_goals
      go_ret
      refine ⟨ret_bool ?_, HBY.out⟩
      rw [HR.out]
      rw [Bool.eq_iff_iff]
      first | (simp [*]; done) | (simp [*]; intros; omega)

theorem hasFields_7 (nm : ByteArray) (ns : List ByteArray) (ck ci : Int) (cs : ByteArray) (cl : List PT) (l : List PE) (S : Nat → Prop) (vn vd vk : Value) (w : World) (h : InF w S (.mk 7 nm ns (.mk ck ci cs cl) l) vn vd vk) (_ : ∀ b, S b → b < w.heap.size) :
    Calls Try.prog 51 #[(PE.mk 7 nm ns (.mk ck ci cs cl) l).val vn vd vk] w fun e w' => e = .returned (.bool (fieldsB 7 nm ns (.mk ck ci cs cl))) ∧ Below w.heap.size w w' := by
  have HI := Lib.hid h
  have HNM := Lib.hid h.1.2.1
  obtain ⟨⟨_, _, an, cn, rfl, hln, hmn, _⟩, ⟨_, _, _, ad, cd, rfl, hld, hmd, _⟩, ak, c, rfl, hl, hm, _⟩ := h
  unfold maxLen at hmn hm hmd
  show Calls Try.prog 51 #[.agg #[.int .i64 7, .string nm, .slice an ns.length cn, .int .i64 ck, .int .i64 ci, .string cs, .slice ad cl.length cd, .slice ak l.length c]] w _
  have HR : Hid (fieldsB 7 nm ns (.mk ck ci cs cl) = (decide (0 ≤ arityT nm.data.toList) && decide (ns = []) && sameB (.mk ck ci cs cl) PT0)) := Lib.hid (by simp [fieldsB, nameOkB, namesOkB, constOkB])
  generalize hw0 : w.alloc (.cells #[.int .i64 7, .string nm, .slice an ns.length cn, .int .i64 ck, .int .i64 ci, .string cs, .slice ad cl.length cd, .slice ak l.length c] 28) = w0
  have HB0 : Hid (Below w.heap.size w w0) := Lib.hid (by rw [← hw0]; exact (Below.refl _ _).alloc (Nat.le_refl _) _)
  have HW0 := Lib.hid hw0
  have KE : Hid (∀ W, Below w0.heap.size w0 W → Calls Try.prog 70 #[.agg #[.int .i64 ck, .int .i64 ci, .string cs, .slice ad cl.length cd]] W fun e w' => e = .returned (.bool (sameB (.mk ck ci cs cl) PT0)) ∧ Below w0.heap.size w0 w') := Lib.hid fun W hb => (isEmpty_pt ck ci cs cl ad cd W).mono fun _ _ h => And.intro h.1 (hb.trans (h.2.mono hb.size))
  have KX : Hid (∀ W, Below w0.heap.size w0 W → Calls Try.prog 68 #[.string nm] W fun e w' => e = .returned (.int .i64 (arityT nm.data.toList)) ∧ Below w0.heap.size w0 w') := Lib.hid fun W hb => (ca_any nm W).mono fun _ _ h => And.intro h.1 (h.2 ▸ hb)
  have CC : Hid (∀ W, Below w0.heap.size w0 W → W.cell? ⟨w.heap.size, 0, none⟩ = some (.int .i64 7) ∧ W.cell? ⟨w.heap.size, 1, none⟩ = some (.string nm) ∧ W.cell? ⟨w.heap.size, 2, none⟩ = some (.slice an ns.length cn) ∧ W.cell? ⟨w.heap.size, 3, none⟩ = some (.int .i64 ck) ∧ W.cell? ⟨w.heap.size, 4, none⟩ = some (.int .i64 ci) ∧ W.cell? ⟨w.heap.size, 5, none⟩ = some (.string cs) ∧ W.cell? ⟨w.heap.size, 6, none⟩ = some (.slice ad cl.length cd) ∧ Below w0.heap.size w0 W) := Lib.hid fun W hb => by
    have h := fun o => World.cell?_of_block (w := w0) (a := ⟨w.heap.size, o, none⟩) (hb.block w.heap.size (by rw [← HW0.out, size_new]; omega))
    have g := heap_alloc_new w (.cells #[.int .i64 7, .string nm, .slice an ns.length cn, .int .i64 ck, .int .i64 ci, .string cs, .slice ad cl.length cd, .slice ak l.length c] 28)
    rw [HW0.out] at g
    refine ⟨(h 0).trans ?_, (h 1).trans ?_, (h 2).trans ?_, (h 3).trans ?_, (h 4).trans ?_, (h 5).trans ?_, (h 6).trans ?_, hb⟩ <;> (rw [Lib.cell_of_heap g]; rfl)
  have OF : Hid (∀ W, (W.cell? ⟨w.heap.size, 0, none⟩ = some (.int .i64 7) ∧ W.cell? ⟨w.heap.size, 1, none⟩ = some (.string nm) ∧ W.cell? ⟨w.heap.size, 2, none⟩ = some (.slice an ns.length cn) ∧ W.cell? ⟨w.heap.size, 3, none⟩ = some (.int .i64 ck) ∧ W.cell? ⟨w.heap.size, 4, none⟩ = some (.int .i64 ci) ∧ W.cell? ⟨w.heap.size, 5, none⟩ = some (.string cs) ∧ W.cell? ⟨w.heap.size, 6, none⟩ = some (.slice ad cl.length cd) ∧ Below w0.heap.size w0 W) → Below w0.heap.size w0 W) := Lib.hid fun W h => h.2.2.2.2.2.2.2
  have BZ : Below w0.heap.size w0 w0 := Below.refl _ _
  generalize sameB (.mk ck ci cs cl) PT0 = rc at *
  generalize fieldsB 7 nm ns (.mk ck ci cs cl) = r at *
  generalize arityT nm.data.toList = rx at *
  clear hw0
  go_enter Try.func51, Try.ntmps51
  go_wp2
  rw [HW0.out]
  go_region_held3 (fun W => W.cell? ⟨w.heap.size, 0, none⟩ = some (.int .i64 7) ∧ W.cell? ⟨w.heap.size, 1, none⟩ = some (.string nm) ∧ W.cell? ⟨w.heap.size, 2, none⟩ = some (.slice an ns.length cn) ∧ W.cell? ⟨w.heap.size, 3, none⟩ = some (.int .i64 ck) ∧ W.cell? ⟨w.heap.size, 4, none⟩ = some (.int .i64 ci) ∧ W.cell? ⟨w.heap.size, 5, none⟩ = some (.string cs) ∧ W.cell? ⟨w.heap.size, 6, none⟩ = some (.slice ad cl.length cd) ∧ Below w0.heap.size w0 W)
    (first | (exact CC.out _ (by assumption)) | (exact CC.out _ (Below.drew (by assumption))))
    (first | (go_at_call 70; refine (KE.out _ (OF.out _ (by assumption))).mono ?_; rintro e w6 ⟨rfl, hb6⟩))
  all_goals
    have HBX := Lib.hid (HB0.out.trans ((OF.out _ (by assumption)).mono HB0.out.size))
    go_wp2_with fail
    refine (KX.out _ (OF.out _ (by assumption))).mono ?_
    rintro e w7 ⟨rfl, hb7⟩
    have HBY := Lib.hid (HB0.out.trans (hb7.mono HB0.out.size))
    have hc7 := CC.out _ hb7
    go_wp2
    all_goals
      go_ret
      refine ⟨ret_bool ?_, HBY.out⟩
      rw [HR.out]
      rw [Bool.eq_iff_iff]
      first | (simp [*]; done) | (simp [*]; intros; omega)

theorem hasFields_5 (nm : ByteArray) (ns : List ByteArray) (ck ci : Int) (cs : ByteArray) (cl : List PT) (l : List PE) (S : Nat → Prop) (vn vd vk : Value) (w : World) (h : InF w S (.mk 5 nm ns (.mk ck ci cs cl) l) vn vd vk) (hS : ∀ b, S b → b < w.heap.size) :
    Calls Try.prog 51 #[(PE.mk 5 nm ns (.mk ck ci cs cl) l).val vn vd vk] w fun e w' => e = .returned (.bool (fieldsB 5 nm ns (.mk ck ci cs cl))) ∧ Below w.heap.size w w' := by
  have HI := Lib.hid h
  have HNM := Lib.hid h.1.2.1
  obtain ⟨⟨_, _, an, cn, rfl, hln, hmn, _⟩, ⟨_, _, _, ad, cd, rfl, hld, hmd, _⟩, ak, c, rfl, hl, hm, _⟩ := h
  unfold maxLen at hmn hm hmd
  show Calls Try.prog 51 #[.agg #[.int .i64 5, .string nm, .slice an ns.length cn, .int .i64 ck, .int .i64 ci, .string cs, .slice ad cl.length cd, .slice ak l.length c]] w _
  have HR : Hid (fieldsB 5 nm ns (.mk ck ci cs cl) = (decide (nm.toList = []) && namesB ns && sameB (.mk ck ci cs cl) PT0)) := Lib.hid (by simp [fieldsB, nameOkB, namesOkB, constOkB])
  generalize hw0 : w.alloc (.cells #[.int .i64 5, .string nm, .slice an ns.length cn, .int .i64 ck, .int .i64 ci, .string cs, .slice ad cl.length cd, .slice ak l.length c] 28) = w0
  have HB0 : Hid (Below w.heap.size w w0) := Lib.hid (by rw [← hw0]; exact (Below.refl _ _).alloc (Nat.le_refl _) _)
  have HW0 := Lib.hid hw0
  have KE : Hid (∀ W, Below w0.heap.size w0 W → Calls Try.prog 70 #[.agg #[.int .i64 ck, .int .i64 ci, .string cs, .slice ad cl.length cd]] W fun e w' => e = .returned (.bool (sameB (.mk ck ci cs cl) PT0)) ∧ Below w0.heap.size w0 w') := Lib.hid fun W hb => (isEmpty_pt ck ci cs cl ad cd W).mono fun _ _ h => And.intro h.1 (hb.trans (h.2.mono hb.size))
  have KX : Hid (∀ W, Below w0.heap.size w0 W → Calls Try.prog 73 #[.slice an ns.length cn] W fun e w' => e = .returned (.bool (namesB ns)) ∧ Below w0.heap.size w0 w') := Lib.hid fun W hb => (areNames_any ns S (.slice an ns.length cn) W (HI.out.1.2.2.below (HB0.out.trans (hb.mono HB0.out.size))) (fun b h => Nat.lt_of_lt_of_le (hS b h) (HB0.out.trans (hb.mono HB0.out.size)).size)).mono fun _ _ h => And.intro h.1 (hb.trans (h.2.mono hb.size))
  have CC : Hid (∀ W, Below w0.heap.size w0 W → W.cell? ⟨w.heap.size, 0, none⟩ = some (.int .i64 5) ∧ W.cell? ⟨w.heap.size, 1, none⟩ = some (.string nm) ∧ W.cell? ⟨w.heap.size, 2, none⟩ = some (.slice an ns.length cn) ∧ W.cell? ⟨w.heap.size, 3, none⟩ = some (.int .i64 ck) ∧ W.cell? ⟨w.heap.size, 4, none⟩ = some (.int .i64 ci) ∧ W.cell? ⟨w.heap.size, 5, none⟩ = some (.string cs) ∧ W.cell? ⟨w.heap.size, 6, none⟩ = some (.slice ad cl.length cd) ∧ Below w0.heap.size w0 W) := Lib.hid fun W hb => by
    have h := fun o => World.cell?_of_block (w := w0) (a := ⟨w.heap.size, o, none⟩) (hb.block w.heap.size (by rw [← HW0.out, size_new]; omega))
    have g := heap_alloc_new w (.cells #[.int .i64 5, .string nm, .slice an ns.length cn, .int .i64 ck, .int .i64 ci, .string cs, .slice ad cl.length cd, .slice ak l.length c] 28)
    rw [HW0.out] at g
    refine ⟨(h 0).trans ?_, (h 1).trans ?_, (h 2).trans ?_, (h 3).trans ?_, (h 4).trans ?_, (h 5).trans ?_, (h 6).trans ?_, hb⟩ <;> (rw [Lib.cell_of_heap g]; rfl)
  have OF : Hid (∀ W, (W.cell? ⟨w.heap.size, 0, none⟩ = some (.int .i64 5) ∧ W.cell? ⟨w.heap.size, 1, none⟩ = some (.string nm) ∧ W.cell? ⟨w.heap.size, 2, none⟩ = some (.slice an ns.length cn) ∧ W.cell? ⟨w.heap.size, 3, none⟩ = some (.int .i64 ck) ∧ W.cell? ⟨w.heap.size, 4, none⟩ = some (.int .i64 ci) ∧ W.cell? ⟨w.heap.size, 5, none⟩ = some (.string cs) ∧ W.cell? ⟨w.heap.size, 6, none⟩ = some (.slice ad cl.length cd) ∧ Below w0.heap.size w0 W) → Below w0.heap.size w0 W) := Lib.hid fun W h => h.2.2.2.2.2.2.2
  have BZ : Below w0.heap.size w0 w0 := Below.refl _ _
  generalize sameB (.mk ck ci cs cl) PT0 = rc at *
  generalize fieldsB 5 nm ns (.mk ck ci cs cl) = r at *
  generalize namesB ns = rx at *
  clear hw0
  go_enter Try.func51, Try.ntmps51
  go_wp2
  rw [HW0.out]
  go_region_held3 (fun W => W.cell? ⟨w.heap.size, 0, none⟩ = some (.int .i64 5) ∧ W.cell? ⟨w.heap.size, 1, none⟩ = some (.string nm) ∧ W.cell? ⟨w.heap.size, 2, none⟩ = some (.slice an ns.length cn) ∧ W.cell? ⟨w.heap.size, 3, none⟩ = some (.int .i64 ck) ∧ W.cell? ⟨w.heap.size, 4, none⟩ = some (.int .i64 ci) ∧ W.cell? ⟨w.heap.size, 5, none⟩ = some (.string cs) ∧ W.cell? ⟨w.heap.size, 6, none⟩ = some (.slice ad cl.length cd) ∧ Below w0.heap.size w0 W)
    (first | (exact CC.out _ (by assumption)) | (exact CC.out _ (Below.drew (by assumption))))
    (first | (go_at_call 70; refine (KE.out _ (OF.out _ (by assumption))).mono ?_; rintro e w6 ⟨rfl, hb6⟩))
  all_goals
    have HBX := Lib.hid (HB0.out.trans ((OF.out _ (by assumption)).mono HB0.out.size))
    go_wp2_with fail
    refine (KX.out _ (OF.out _ (by assumption))).mono ?_
    rintro e w7 ⟨rfl, hb7⟩
    have HBY := Lib.hid (HB0.out.trans (hb7.mono HB0.out.size))
    have hc7 := CC.out _ hb7
    go_wp2
    all_goals
      go_ret
      refine ⟨ret_bool ?_, HBY.out⟩
      rw [HR.out]
      rw [Bool.eq_iff_iff]
      first | (simp [*]; done) | (simp [*]; intros; omega)

theorem hasFields_8 (nm : ByteArray) (ns : List ByteArray) (ck ci : Int) (cs : ByteArray) (cl : List PT) (l : List PE) (S : Nat → Prop) (vn vd vk : Value) (w : World) (h : InF w S (.mk 8 nm ns (.mk ck ci cs cl) l) vn vd vk) (hS : ∀ b, S b → b < w.heap.size) :
    Calls Try.prog 51 #[(PE.mk 8 nm ns (.mk ck ci cs cl) l).val vn vd vk] w fun e w' => e = .returned (.bool (fieldsB 8 nm ns (.mk ck ci cs cl))) ∧ Below w.heap.size w w' := by
  have HI := Lib.hid h
  have HNM := Lib.hid h.1.2.1
  obtain ⟨⟨_, _, an, cn, rfl, hln, hmn, _⟩, ⟨_, _, _, ad, cd, rfl, hld, hmd, _⟩, ak, c, rfl, hl, hm, _⟩ := h
  unfold maxLen at hmn hm hmd
  show Calls Try.prog 51 #[.agg #[.int .i64 8, .string nm, .slice an ns.length cn, .int .i64 ck, .int .i64 ci, .string cs, .slice ad cl.length cd, .slice ak l.length c]] w _
  have HR : Hid (fieldsB 8 nm ns (.mk ck ci cs cl) = (decide (nm.toList = []) && namesB ns && sameB (.mk ck ci cs cl) PT0)) := Lib.hid (by simp [fieldsB, nameOkB, namesOkB, constOkB])
  generalize hw0 : w.alloc (.cells #[.int .i64 8, .string nm, .slice an ns.length cn, .int .i64 ck, .int .i64 ci, .string cs, .slice ad cl.length cd, .slice ak l.length c] 28) = w0
  have HB0 : Hid (Below w.heap.size w w0) := Lib.hid (by rw [← hw0]; exact (Below.refl _ _).alloc (Nat.le_refl _) _)
  have HW0 := Lib.hid hw0
  have KE : Hid (∀ W, Below w0.heap.size w0 W → Calls Try.prog 70 #[.agg #[.int .i64 ck, .int .i64 ci, .string cs, .slice ad cl.length cd]] W fun e w' => e = .returned (.bool (sameB (.mk ck ci cs cl) PT0)) ∧ Below w0.heap.size w0 w') := Lib.hid fun W hb => (isEmpty_pt ck ci cs cl ad cd W).mono fun _ _ h => And.intro h.1 (hb.trans (h.2.mono hb.size))
  have KX : Hid (∀ W, Below w0.heap.size w0 W → Calls Try.prog 73 #[.slice an ns.length cn] W fun e w' => e = .returned (.bool (namesB ns)) ∧ Below w0.heap.size w0 w') := Lib.hid fun W hb => (areNames_any ns S (.slice an ns.length cn) W (HI.out.1.2.2.below (HB0.out.trans (hb.mono HB0.out.size))) (fun b h => Nat.lt_of_lt_of_le (hS b h) (HB0.out.trans (hb.mono HB0.out.size)).size)).mono fun _ _ h => And.intro h.1 (hb.trans (h.2.mono hb.size))
  have CC : Hid (∀ W, Below w0.heap.size w0 W → W.cell? ⟨w.heap.size, 0, none⟩ = some (.int .i64 8) ∧ W.cell? ⟨w.heap.size, 1, none⟩ = some (.string nm) ∧ W.cell? ⟨w.heap.size, 2, none⟩ = some (.slice an ns.length cn) ∧ W.cell? ⟨w.heap.size, 3, none⟩ = some (.int .i64 ck) ∧ W.cell? ⟨w.heap.size, 4, none⟩ = some (.int .i64 ci) ∧ W.cell? ⟨w.heap.size, 5, none⟩ = some (.string cs) ∧ W.cell? ⟨w.heap.size, 6, none⟩ = some (.slice ad cl.length cd) ∧ Below w0.heap.size w0 W) := Lib.hid fun W hb => by
    have h := fun o => World.cell?_of_block (w := w0) (a := ⟨w.heap.size, o, none⟩) (hb.block w.heap.size (by rw [← HW0.out, size_new]; omega))
    have g := heap_alloc_new w (.cells #[.int .i64 8, .string nm, .slice an ns.length cn, .int .i64 ck, .int .i64 ci, .string cs, .slice ad cl.length cd, .slice ak l.length c] 28)
    rw [HW0.out] at g
    refine ⟨(h 0).trans ?_, (h 1).trans ?_, (h 2).trans ?_, (h 3).trans ?_, (h 4).trans ?_, (h 5).trans ?_, (h 6).trans ?_, hb⟩ <;> (rw [Lib.cell_of_heap g]; rfl)
  have OF : Hid (∀ W, (W.cell? ⟨w.heap.size, 0, none⟩ = some (.int .i64 8) ∧ W.cell? ⟨w.heap.size, 1, none⟩ = some (.string nm) ∧ W.cell? ⟨w.heap.size, 2, none⟩ = some (.slice an ns.length cn) ∧ W.cell? ⟨w.heap.size, 3, none⟩ = some (.int .i64 ck) ∧ W.cell? ⟨w.heap.size, 4, none⟩ = some (.int .i64 ci) ∧ W.cell? ⟨w.heap.size, 5, none⟩ = some (.string cs) ∧ W.cell? ⟨w.heap.size, 6, none⟩ = some (.slice ad cl.length cd) ∧ Below w0.heap.size w0 W) → Below w0.heap.size w0 W) := Lib.hid fun W h => h.2.2.2.2.2.2.2
  have BZ : Below w0.heap.size w0 w0 := Below.refl _ _
  generalize sameB (.mk ck ci cs cl) PT0 = rc at *
  generalize fieldsB 8 nm ns (.mk ck ci cs cl) = r at *
  generalize namesB ns = rx at *
  clear hw0
  go_enter Try.func51, Try.ntmps51
  go_wp2
  rw [HW0.out]
  go_region_held3 (fun W => W.cell? ⟨w.heap.size, 0, none⟩ = some (.int .i64 8) ∧ W.cell? ⟨w.heap.size, 1, none⟩ = some (.string nm) ∧ W.cell? ⟨w.heap.size, 2, none⟩ = some (.slice an ns.length cn) ∧ W.cell? ⟨w.heap.size, 3, none⟩ = some (.int .i64 ck) ∧ W.cell? ⟨w.heap.size, 4, none⟩ = some (.int .i64 ci) ∧ W.cell? ⟨w.heap.size, 5, none⟩ = some (.string cs) ∧ W.cell? ⟨w.heap.size, 6, none⟩ = some (.slice ad cl.length cd) ∧ Below w0.heap.size w0 W)
    (first | (exact CC.out _ (by assumption)) | (exact CC.out _ (Below.drew (by assumption))))
    (first | (go_at_call 70; refine (KE.out _ (OF.out _ (by assumption))).mono ?_; rintro e w6 ⟨rfl, hb6⟩))
  all_goals
    have HBX := Lib.hid (HB0.out.trans ((OF.out _ (by assumption)).mono HB0.out.size))
    go_wp2_with fail
    refine (KX.out _ (OF.out _ (by assumption))).mono ?_
    rintro e w7 ⟨rfl, hb7⟩
    have HBY := Lib.hid (HB0.out.trans (hb7.mono HB0.out.size))
    have hc7 := CC.out _ hb7
    go_wp2
    all_goals
      go_ret
      refine ⟨ret_bool ?_, HBY.out⟩
      rw [HR.out]
      rw [Bool.eq_iff_iff]
      first | (simp [*]; done) | (simp [*]; intros; omega)

theorem hasFields_9 (nm : ByteArray) (ns : List ByteArray) (ck ci : Int) (cs : ByteArray) (cl : List PT) (l : List PE) (S : Nat → Prop) (vn vd vk : Value) (w : World) (h : InF w S (.mk 9 nm ns (.mk ck ci cs cl) l) vn vd vk) (hS : ∀ b, S b → b < w.heap.size) :
    Calls Try.prog 51 #[(PE.mk 9 nm ns (.mk ck ci cs cl) l).val vn vd vk] w fun e w' => e = .returned (.bool (fieldsB 9 nm ns (.mk ck ci cs cl))) ∧ Below w.heap.size w w' := by
  have HI := Lib.hid h
  have HNM := Lib.hid h.1.2.1
  obtain ⟨⟨_, _, an, cn, rfl, hln, hmn, _⟩, ⟨_, _, _, ad, cd, rfl, hld, hmd, _⟩, ak, c, rfl, hl, hm, _⟩ := h
  unfold maxLen at hmn hm hmd
  show Calls Try.prog 51 #[.agg #[.int .i64 9, .string nm, .slice an ns.length cn, .int .i64 ck, .int .i64 ci, .string cs, .slice ad cl.length cd, .slice ak l.length c]] w _
  have HR : Hid (fieldsB 9 nm ns (.mk ck ci cs cl) = (decide (nm.toList = []) && namesB ns && sameB (.mk ck ci cs cl) PT0)) := Lib.hid (by simp [fieldsB, nameOkB, namesOkB, constOkB])
  generalize hw0 : w.alloc (.cells #[.int .i64 9, .string nm, .slice an ns.length cn, .int .i64 ck, .int .i64 ci, .string cs, .slice ad cl.length cd, .slice ak l.length c] 28) = w0
  have HB0 : Hid (Below w.heap.size w w0) := Lib.hid (by rw [← hw0]; exact (Below.refl _ _).alloc (Nat.le_refl _) _)
  have HW0 := Lib.hid hw0
  have KE : Hid (∀ W, Below w0.heap.size w0 W → Calls Try.prog 70 #[.agg #[.int .i64 ck, .int .i64 ci, .string cs, .slice ad cl.length cd]] W fun e w' => e = .returned (.bool (sameB (.mk ck ci cs cl) PT0)) ∧ Below w0.heap.size w0 w') := Lib.hid fun W hb => (isEmpty_pt ck ci cs cl ad cd W).mono fun _ _ h => And.intro h.1 (hb.trans (h.2.mono hb.size))
  have KX : Hid (∀ W, Below w0.heap.size w0 W → Calls Try.prog 73 #[.slice an ns.length cn] W fun e w' => e = .returned (.bool (namesB ns)) ∧ Below w0.heap.size w0 w') := Lib.hid fun W hb => (areNames_any ns S (.slice an ns.length cn) W (HI.out.1.2.2.below (HB0.out.trans (hb.mono HB0.out.size))) (fun b h => Nat.lt_of_lt_of_le (hS b h) (HB0.out.trans (hb.mono HB0.out.size)).size)).mono fun _ _ h => And.intro h.1 (hb.trans (h.2.mono hb.size))
  have CC : Hid (∀ W, Below w0.heap.size w0 W → W.cell? ⟨w.heap.size, 0, none⟩ = some (.int .i64 9) ∧ W.cell? ⟨w.heap.size, 1, none⟩ = some (.string nm) ∧ W.cell? ⟨w.heap.size, 2, none⟩ = some (.slice an ns.length cn) ∧ W.cell? ⟨w.heap.size, 3, none⟩ = some (.int .i64 ck) ∧ W.cell? ⟨w.heap.size, 4, none⟩ = some (.int .i64 ci) ∧ W.cell? ⟨w.heap.size, 5, none⟩ = some (.string cs) ∧ W.cell? ⟨w.heap.size, 6, none⟩ = some (.slice ad cl.length cd) ∧ Below w0.heap.size w0 W) := Lib.hid fun W hb => by
    have h := fun o => World.cell?_of_block (w := w0) (a := ⟨w.heap.size, o, none⟩) (hb.block w.heap.size (by rw [← HW0.out, size_new]; omega))
    have g := heap_alloc_new w (.cells #[.int .i64 9, .string nm, .slice an ns.length cn, .int .i64 ck, .int .i64 ci, .string cs, .slice ad cl.length cd, .slice ak l.length c] 28)
    rw [HW0.out] at g
    refine ⟨(h 0).trans ?_, (h 1).trans ?_, (h 2).trans ?_, (h 3).trans ?_, (h 4).trans ?_, (h 5).trans ?_, (h 6).trans ?_, hb⟩ <;> (rw [Lib.cell_of_heap g]; rfl)
  have OF : Hid (∀ W, (W.cell? ⟨w.heap.size, 0, none⟩ = some (.int .i64 9) ∧ W.cell? ⟨w.heap.size, 1, none⟩ = some (.string nm) ∧ W.cell? ⟨w.heap.size, 2, none⟩ = some (.slice an ns.length cn) ∧ W.cell? ⟨w.heap.size, 3, none⟩ = some (.int .i64 ck) ∧ W.cell? ⟨w.heap.size, 4, none⟩ = some (.int .i64 ci) ∧ W.cell? ⟨w.heap.size, 5, none⟩ = some (.string cs) ∧ W.cell? ⟨w.heap.size, 6, none⟩ = some (.slice ad cl.length cd) ∧ Below w0.heap.size w0 W) → Below w0.heap.size w0 W) := Lib.hid fun W h => h.2.2.2.2.2.2.2
  have BZ : Below w0.heap.size w0 w0 := Below.refl _ _
  generalize sameB (.mk ck ci cs cl) PT0 = rc at *
  generalize fieldsB 9 nm ns (.mk ck ci cs cl) = r at *
  generalize namesB ns = rx at *
  clear hw0
  go_enter Try.func51, Try.ntmps51
  go_wp2
  rw [HW0.out]
  go_region_held3 (fun W => W.cell? ⟨w.heap.size, 0, none⟩ = some (.int .i64 9) ∧ W.cell? ⟨w.heap.size, 1, none⟩ = some (.string nm) ∧ W.cell? ⟨w.heap.size, 2, none⟩ = some (.slice an ns.length cn) ∧ W.cell? ⟨w.heap.size, 3, none⟩ = some (.int .i64 ck) ∧ W.cell? ⟨w.heap.size, 4, none⟩ = some (.int .i64 ci) ∧ W.cell? ⟨w.heap.size, 5, none⟩ = some (.string cs) ∧ W.cell? ⟨w.heap.size, 6, none⟩ = some (.slice ad cl.length cd) ∧ Below w0.heap.size w0 W)
    (first | (exact CC.out _ (by assumption)) | (exact CC.out _ (Below.drew (by assumption))))
    (first | (go_at_call 70; refine (KE.out _ (OF.out _ (by assumption))).mono ?_; rintro e w6 ⟨rfl, hb6⟩))
  all_goals
    have HBX := Lib.hid (HB0.out.trans ((OF.out _ (by assumption)).mono HB0.out.size))
    go_wp2_with fail
    refine (KX.out _ (OF.out _ (by assumption))).mono ?_
    rintro e w7 ⟨rfl, hb7⟩
    have HBY := Lib.hid (HB0.out.trans (hb7.mono HB0.out.size))
    have hc7 := CC.out _ hb7
    go_wp2
    all_goals
      go_ret
      refine ⟨ret_bool ?_, HBY.out⟩
      rw [HR.out]
      rw [Bool.eq_iff_iff]
      first | (simp [*]; done) | (simp [*]; intros; omega)

theorem hasFields_10 (nm : ByteArray) (ns : List ByteArray) (ck ci : Int) (cs : ByteArray) (cl : List PT) (l : List PE) (S : Nat → Prop) (vn vd vk : Value) (w : World) (h : InF w S (.mk 10 nm ns (.mk ck ci cs cl) l) vn vd vk) (hS : ∀ b, S b → b < w.heap.size) :
    Calls Try.prog 51 #[(PE.mk 10 nm ns (.mk ck ci cs cl) l).val vn vd vk] w fun e w' => e = .returned (.bool (fieldsB 10 nm ns (.mk ck ci cs cl))) ∧ Below w.heap.size w w' := by
  have HI := Lib.hid h
  have HNM := Lib.hid h.1.2.1
  obtain ⟨⟨_, _, an, cn, rfl, hln, hmn, _⟩, ⟨_, _, _, ad, cd, rfl, hld, hmd, _⟩, ak, c, rfl, hl, hm, _⟩ := h
  unfold maxLen at hmn hm hmd
  show Calls Try.prog 51 #[.agg #[.int .i64 10, .string nm, .slice an ns.length cn, .int .i64 ck, .int .i64 ci, .string cs, .slice ad cl.length cd, .slice ak l.length c]] w _
  have HR : Hid (fieldsB 10 nm ns (.mk ck ci cs cl) = (decide (nm.toList = []) && namesB ns && sameB (.mk ck ci cs cl) PT0)) := Lib.hid (by simp [fieldsB, nameOkB, namesOkB, constOkB])
  generalize hw0 : w.alloc (.cells #[.int .i64 10, .string nm, .slice an ns.length cn, .int .i64 ck, .int .i64 ci, .string cs, .slice ad cl.length cd, .slice ak l.length c] 28) = w0
  have HB0 : Hid (Below w.heap.size w w0) := Lib.hid (by rw [← hw0]; exact (Below.refl _ _).alloc (Nat.le_refl _) _)
  have HW0 := Lib.hid hw0
  have KE : Hid (∀ W, Below w0.heap.size w0 W → Calls Try.prog 70 #[.agg #[.int .i64 ck, .int .i64 ci, .string cs, .slice ad cl.length cd]] W fun e w' => e = .returned (.bool (sameB (.mk ck ci cs cl) PT0)) ∧ Below w0.heap.size w0 w') := Lib.hid fun W hb => (isEmpty_pt ck ci cs cl ad cd W).mono fun _ _ h => And.intro h.1 (hb.trans (h.2.mono hb.size))
  have KX : Hid (∀ W, Below w0.heap.size w0 W → Calls Try.prog 73 #[.slice an ns.length cn] W fun e w' => e = .returned (.bool (namesB ns)) ∧ Below w0.heap.size w0 w') := Lib.hid fun W hb => (areNames_any ns S (.slice an ns.length cn) W (HI.out.1.2.2.below (HB0.out.trans (hb.mono HB0.out.size))) (fun b h => Nat.lt_of_lt_of_le (hS b h) (HB0.out.trans (hb.mono HB0.out.size)).size)).mono fun _ _ h => And.intro h.1 (hb.trans (h.2.mono hb.size))
  have CC : Hid (∀ W, Below w0.heap.size w0 W → W.cell? ⟨w.heap.size, 0, none⟩ = some (.int .i64 10) ∧ W.cell? ⟨w.heap.size, 1, none⟩ = some (.string nm) ∧ W.cell? ⟨w.heap.size, 2, none⟩ = some (.slice an ns.length cn) ∧ W.cell? ⟨w.heap.size, 3, none⟩ = some (.int .i64 ck) ∧ W.cell? ⟨w.heap.size, 4, none⟩ = some (.int .i64 ci) ∧ W.cell? ⟨w.heap.size, 5, none⟩ = some (.string cs) ∧ W.cell? ⟨w.heap.size, 6, none⟩ = some (.slice ad cl.length cd) ∧ Below w0.heap.size w0 W) := Lib.hid fun W hb => by
    have h := fun o => World.cell?_of_block (w := w0) (a := ⟨w.heap.size, o, none⟩) (hb.block w.heap.size (by rw [← HW0.out, size_new]; omega))
    have g := heap_alloc_new w (.cells #[.int .i64 10, .string nm, .slice an ns.length cn, .int .i64 ck, .int .i64 ci, .string cs, .slice ad cl.length cd, .slice ak l.length c] 28)
    rw [HW0.out] at g
    refine ⟨(h 0).trans ?_, (h 1).trans ?_, (h 2).trans ?_, (h 3).trans ?_, (h 4).trans ?_, (h 5).trans ?_, (h 6).trans ?_, hb⟩ <;> (rw [Lib.cell_of_heap g]; rfl)
  have OF : Hid (∀ W, (W.cell? ⟨w.heap.size, 0, none⟩ = some (.int .i64 10) ∧ W.cell? ⟨w.heap.size, 1, none⟩ = some (.string nm) ∧ W.cell? ⟨w.heap.size, 2, none⟩ = some (.slice an ns.length cn) ∧ W.cell? ⟨w.heap.size, 3, none⟩ = some (.int .i64 ck) ∧ W.cell? ⟨w.heap.size, 4, none⟩ = some (.int .i64 ci) ∧ W.cell? ⟨w.heap.size, 5, none⟩ = some (.string cs) ∧ W.cell? ⟨w.heap.size, 6, none⟩ = some (.slice ad cl.length cd) ∧ Below w0.heap.size w0 W) → Below w0.heap.size w0 W) := Lib.hid fun W h => h.2.2.2.2.2.2.2
  have BZ : Below w0.heap.size w0 w0 := Below.refl _ _
  generalize sameB (.mk ck ci cs cl) PT0 = rc at *
  generalize fieldsB 10 nm ns (.mk ck ci cs cl) = r at *
  generalize namesB ns = rx at *
  clear hw0
  go_enter Try.func51, Try.ntmps51
  go_wp2
  rw [HW0.out]
  go_region_held3 (fun W => W.cell? ⟨w.heap.size, 0, none⟩ = some (.int .i64 10) ∧ W.cell? ⟨w.heap.size, 1, none⟩ = some (.string nm) ∧ W.cell? ⟨w.heap.size, 2, none⟩ = some (.slice an ns.length cn) ∧ W.cell? ⟨w.heap.size, 3, none⟩ = some (.int .i64 ck) ∧ W.cell? ⟨w.heap.size, 4, none⟩ = some (.int .i64 ci) ∧ W.cell? ⟨w.heap.size, 5, none⟩ = some (.string cs) ∧ W.cell? ⟨w.heap.size, 6, none⟩ = some (.slice ad cl.length cd) ∧ Below w0.heap.size w0 W)
    (first | (exact CC.out _ (by assumption)) | (exact CC.out _ (Below.drew (by assumption))))
    (first | (go_at_call 70; refine (KE.out _ (OF.out _ (by assumption))).mono ?_; rintro e w6 ⟨rfl, hb6⟩))
  all_goals
    have HBX := Lib.hid (HB0.out.trans ((OF.out _ (by assumption)).mono HB0.out.size))
    go_wp2_with fail
    refine (KX.out _ (OF.out _ (by assumption))).mono ?_
    rintro e w7 ⟨rfl, hb7⟩
    have HBY := Lib.hid (HB0.out.trans (hb7.mono HB0.out.size))
    have hc7 := CC.out _ hb7
    go_wp2
    all_goals
      go_ret
      refine ⟨ret_bool ?_, HBY.out⟩
      rw [HR.out]
      rw [Bool.eq_iff_iff]
      first | (simp [*]; done) | (simp [*]; intros; omega)

theorem hasFields_any (k : Int) (nm : ByteArray) (ns : List ByteArray) (ck ci : Int) (cs : ByteArray) (cl : List PT) (l : List PE) (S : Nat → Prop) (vn vd vk : Value) (w : World) (h : InF w S (.mk k nm ns (.mk ck ci cs cl) l) vn vd vk) (hS : ∀ b, S b → b < w.heap.size) :
    Calls Try.prog 51 #[(PE.mk k nm ns (.mk ck ci cs cl) l).val vn vd vk] w fun e w' => e = .returned (.bool (fieldsB k nm ns (.mk ck ci cs cl))) ∧ Below w.heap.size w w' := by
  have hk : k = 0 ∨ k = 1 ∨ k = 2 ∨ k = 5 ∨ k = 7 ∨ k = 8 ∨ k = 9 ∨ k = 10 ∨ (k ≠ 0 ∧ k ≠ 1 ∧ k ≠ 2 ∧ k ≠ 5 ∧ k ≠ 7 ∧ k ≠ 8 ∧ k ≠ 9 ∧ k ≠ 10) := by omega
  rcases hk with rfl | rfl | rfl | rfl | rfl | rfl | rfl | rfl | ⟨h0, h1, h2, h5, h7, h8, h9, h10⟩
  · exact hasFields_0 nm ns ck ci cs cl l S vn vd vk w h hS
  · exact hasFields_1 nm ns ck ci cs cl l S vn vd vk w h hS
  · exact hasFields_2 nm ns ck ci cs cl l S vn vd vk w h hS
  · exact hasFields_5 nm ns ck ci cs cl l S vn vd vk w h hS
  · exact hasFields_7 nm ns ck ci cs cl l S vn vd vk w h hS
  · exact hasFields_8 nm ns ck ci cs cl l S vn vd vk w h hS
  · exact hasFields_9 nm ns ck ci cs cl l S vn vd vk w h hS
  · exact hasFields_10 nm ns ck ci cs cl l S vn vd vk w h hS
  · exact hasFields_e k (by simpa using h0) (by simpa using h1) (by simpa using h2) (by simpa using h5) (by simpa using h7) (by simpa using h8) (by simpa using h9) (by simpa using h10) nm ns ck ci cs cl l S vn vd vk w h hS
end Go.Proofs.Ytkjgdnfkpebejaa.Core
