/-
Texts K70, K71, one behind the other (a claim bears sixty files). Conditions: as each says.
-/
import Derived.Test.YtkgofgkgnchhjaaK14
import Derived.Test.YtkgofgkgnchhjaaWKA
import Derived.BigQuiet

/-
What may an expression's own fields be: the document's form, for every expression. No condition.
-/
namespace Go.Proofs.Ytkgofgkgnchhjaa.Core
open Go.ChangeShapes Go.WideShapes Go.ChangeAt Go.RowKit Go.Deep
open Dat (PT ok64 RepV RepS sameB)
set_option maxRecDepth 100000

/-- Eight cells of a block at once. -/
theorem look8r {W : World} {g : Nat} {x0 x1 x2 x3 x4 x5 x6 x7 : Value} {ty : TypeId} (hb : W.heap[g]? = some (.cells #[x0, x1, x2, x3, x4, x5, x6, x7] ty)) :
    W.cell? ⟨g, 0, none⟩ = some x0 ∧ W.cell? ⟨g, 1, none⟩ = some x1 ∧ W.cell? ⟨g, 2, none⟩ = some x2 ∧ W.cell? ⟨g, 3, none⟩ = some x3 ∧ W.cell? ⟨g, 4, none⟩ = some x4 ∧ W.cell? ⟨g, 5, none⟩ = some x5 ∧ W.cell? ⟨g, 6, none⟩ = some x6 ∧ W.cell? ⟨g, 7, none⟩ = some x7 := by
  refine ⟨?_, ?_, ?_, ?_, ?_, ?_, ?_, ?_⟩
  all_goals (rw [Lib.cell_of_heap hb]; rfl)
theorem namesB_nil : namesB [] = true := by simp [namesB]
theorem namesB_len {ns : List ByteArray} (h : namesB ns = false) : ¬ ns.length = 0 := fun e => by
  rw [List.length_eq_zero_iff] at e
  subst e
  rw [namesB_nil] at h
  cases h
theorem rform_sc (k : Int) (hk : k ≠ 0) (nm : ByteArray) (ns : List ByteArray) (ck ci : Int) (cs : ByteArray) (cl : List PT) (l : List PE) (S : Nat → Prop) (vn vd vk : Value) (w : World) (h : InF w S (.mk k nm ns (.mk ck ci cs cl) l) vn vd vk) (hsc : sameB (.mk ck ci cs cl) PT0 = false) :
    Calls Try.prog 43 #[(PE.mk k nm ns (.mk ck ci cs cl) l).val vn vd vk] w fun e w' => e = .returned (.bool (formE (.mk k nm ns (.mk ck ci cs cl) l))) ∧ Below w.heap.size w w' := by
  have HI := Lib.hid h
  have HNM := Lib.hid h.1.2.1
  have HNI := Lib.hid h.1.2.2
  have HKI := Lib.hid h.2.2
  obtain ⟨⟨-, -, an, cn, rfl, hln, hmn, -⟩, ⟨-, -, -, ad, cd, rfl, hld, hmd, -⟩, ak, c, rfl, hl, hm, -⟩ := h
  unfold maxLen at hmn hm hmd
  show Calls Try.prog 43 #[.agg #[.int .i64 k, .string nm, .slice an ns.length cn, .int .i64 ck, .int .i64 ci, .string cs, .slice ad cl.length cd, .slice ak l.length c]] w _
  have hz0 := heap_alloc_new w (.cells #[.int .i64 k, .string nm, .slice an ns.length cn, .int .i64 ck, .int .i64 ci, .string cs, .slice ad cl.length cd, .slice ak l.length c] 28)
  have hb0 : Below w.heap.size w (w.alloc (.cells #[.int .i64 k, .string nm, .slice an ns.length cn, .int .i64 ck, .int .i64 ci, .string cs, .slice ad cl.length cd, .slice ak l.length c] 28)) := (Below.refl _ _).alloc (Nat.le_refl _) _
  generalize hw0 : w.alloc (.cells #[.int .i64 k, .string nm, .slice an ns.length cn, .int .i64 ck, .int .i64 ci, .string cs, .slice ad cl.length cd, .slice ak l.length c] 28) = w0 at *
  have HW0 := Lib.hid hw0
  have HB0 := Lib.hid hb0
  have HZ0 := Lib.hid hz0
  have hz0l := lt_of_block hz0
  have CC : Hid (∀ W, Below w0.heap.size w0 W → W.heap[w.heap.size]? = some (.cells #[.int .i64 k, .string nm, .slice an ns.length cn, .int .i64 ck, .int .i64 ci, .string cs, .slice ad cl.length cd, .slice ak l.length c] 28)) := Lib.hid fun W hW => (hW.block w.heap.size (lt_of_block HZ0.out)).trans HZ0.out
  clear hw0 hb0 hz0
  have b0 : (k == 0) = false := by simpa using hk
  have KSA : Hid (∀ W, Below w.heap.size w W → Calls Try.prog 33 #[.agg #[.int .i64 ck, .int .i64 ci, .string cs, .slice ad cl.length cd], .agg #[.int .i64 0, .int .i64 0, .string ⟨#[]⟩, .slice none 0 0]] W fun e w' => e = .returned (.bool (sameB (.mk ck ci cs cl) PT0)) ∧ Below W.heap.size W w') := Lib.hid fun W hW =>
    Dat.same_any (.mk ck ci cs cl) PT0 W W.heap.size (.slice ad cl.length cd) (.slice none 0 0) (HI.out.const hW) ⟨by constructor <;> decide, by constructor <;> decide, by decide, none, 0, rfl, Nat.le_refl _, Nat.zero_le _, fun _ => rfl, .inl rfl⟩ (Nat.le_refl _)
  have KN : Hid (∀ W, Below w.heap.size w W → Calls Try.prog 56 #[.slice an ns.length cn] W fun e w' => e = .returned (.bool (namesB ns)) ∧ Below W.heap.size W w') := Lib.hid fun W hW => rnames_any ns S _ W (HNI.out.below hW)
  have KR : Hid (∀ W, Calls Try.prog 57 #[.string nm] W fun e w' => e = .returned (.bool (nameB nm.data.toList)) ∧ W = w') := Lib.hid fun W => (rname_any nm W HNM.out).mono fun _ _ h => h
  have HR : Hid (formE (.mk k nm ns (.mk ck ci cs cl) l) = false) := Lib.hid (by simp [formE, fieldsB, constOkB, hsc, hk])
  rw [hsc] at KSA
  clear hsc hk
  go_enter Try.func43, Try.ntmps43
  go_wp2_with fail
  rw [HW0.out]
  refine (KSA.out _ HB0.out).mono ?_
  rintro e w1 ⟨rfl, hb1⟩
  have HB1 := Lib.hid (HB0.out.trans (hb1.mono HB0.out.size))
  clear hb1
  go_wp2
  go_ret
  exact ⟨ret_bool HR.out.symm, HB1.out⟩
theorem rform_nb (k : Int) (hk : k ≠ 0) (nm : ByteArray) (ns : List ByteArray) (ck ci : Int) (cs : ByteArray) (cl : List PT) (l : List PE) (S : Nat → Prop) (vn vd vk : Value) (w : World) (h : InF w S (.mk k nm ns (.mk ck ci cs cl) l) vn vd vk) (hsc : sameB (.mk ck ci cs cl) PT0 = true) (hnb : namesB ns = false) :
    Calls Try.prog 43 #[(PE.mk k nm ns (.mk ck ci cs cl) l).val vn vd vk] w fun e w' => e = .returned (.bool (formE (.mk k nm ns (.mk ck ci cs cl) l))) ∧ Below w.heap.size w w' := by
  have HI := Lib.hid h
  have HNM := Lib.hid h.1.2.1
  have HNI := Lib.hid h.1.2.2
  have HKI := Lib.hid h.2.2
  obtain ⟨⟨-, -, an, cn, rfl, hln, hmn, -⟩, ⟨-, -, -, ad, cd, rfl, hld, hmd, -⟩, ak, c, rfl, hl, hm, -⟩ := h
  unfold maxLen at hmn hm hmd
  show Calls Try.prog 43 #[.agg #[.int .i64 k, .string nm, .slice an ns.length cn, .int .i64 ck, .int .i64 ci, .string cs, .slice ad cl.length cd, .slice ak l.length c]] w _
  have hz0 := heap_alloc_new w (.cells #[.int .i64 k, .string nm, .slice an ns.length cn, .int .i64 ck, .int .i64 ci, .string cs, .slice ad cl.length cd, .slice ak l.length c] 28)
  have hb0 : Below w.heap.size w (w.alloc (.cells #[.int .i64 k, .string nm, .slice an ns.length cn, .int .i64 ck, .int .i64 ci, .string cs, .slice ad cl.length cd, .slice ak l.length c] 28)) := (Below.refl _ _).alloc (Nat.le_refl _) _
  generalize hw0 : w.alloc (.cells #[.int .i64 k, .string nm, .slice an ns.length cn, .int .i64 ck, .int .i64 ci, .string cs, .slice ad cl.length cd, .slice ak l.length c] 28) = w0 at *
  have HW0 := Lib.hid hw0
  have HB0 := Lib.hid hb0
  have HZ0 := Lib.hid hz0
  have hz0l := lt_of_block hz0
  have CC : Hid (∀ W, Below w0.heap.size w0 W → W.heap[w.heap.size]? = some (.cells #[.int .i64 k, .string nm, .slice an ns.length cn, .int .i64 ck, .int .i64 ci, .string cs, .slice ad cl.length cd, .slice ak l.length c] 28)) := Lib.hid fun W hW => (hW.block w.heap.size (lt_of_block HZ0.out)).trans HZ0.out
  clear hw0 hb0 hz0
  have b0 : (k == 0) = false := by simpa using hk
  have KSA : Hid (∀ W, Below w.heap.size w W → Calls Try.prog 33 #[.agg #[.int .i64 ck, .int .i64 ci, .string cs, .slice ad cl.length cd], .agg #[.int .i64 0, .int .i64 0, .string ⟨#[]⟩, .slice none 0 0]] W fun e w' => e = .returned (.bool (sameB (.mk ck ci cs cl) PT0)) ∧ Below W.heap.size W w') := Lib.hid fun W hW =>
    Dat.same_any (.mk ck ci cs cl) PT0 W W.heap.size (.slice ad cl.length cd) (.slice none 0 0) (HI.out.const hW) ⟨by constructor <;> decide, by constructor <;> decide, by decide, none, 0, rfl, Nat.le_refl _, Nat.zero_le _, fun _ => rfl, .inl rfl⟩ (Nat.le_refl _)
  have KN : Hid (∀ W, Below w.heap.size w W → Calls Try.prog 56 #[.slice an ns.length cn] W fun e w' => e = .returned (.bool (namesB ns)) ∧ Below W.heap.size W w') := Lib.hid fun W hW => rnames_any ns S _ W (HNI.out.below hW)
  have KR : Hid (∀ W, Calls Try.prog 57 #[.string nm] W fun e w' => e = .returned (.bool (nameB nm.data.toList)) ∧ W = w') := Lib.hid fun W => (rname_any nm W HNM.out).mono fun _ _ h => h
  have HR : Hid (formE (.mk k nm ns (.mk ck ci cs cl) l) = false) := Lib.hid (by
    have h1 : namesOkB k ns = false := by
      unfold namesOkB
      split
      · exact hnb
      · exact decide_eq_false (namesB_len hnb)
    simp [formE, fieldsB, h1])
  rw [hsc] at KSA
  rw [hnb] at KN
  clear hsc hnb hk
  go_enter Try.func43, Try.ntmps43
  go_wp2_with fail
  rw [HW0.out]
  refine (KSA.out _ HB0.out).mono ?_
  rintro e w1 ⟨rfl, hb1⟩
  have HB1 := Lib.hid (HB0.out.trans (hb1.mono HB0.out.size))
  have z1 := CC.out _ hb1
  obtain ⟨d0, d1, d2, d3, d4, d5, d6, d7⟩ := look8r z1
  clear hb1 z1
  go_wp2_with fail
  refine (KN.out _ HB1.out).mono ?_
  rintro e w2 ⟨rfl, hb2⟩
  have HB2 := Lib.hid (HB1.out.trans (hb2.mono HB1.out.size))
  clear hb2 d0 d1 d2 d3 d4 d5 d6 d7
  go_wp2
  go_ret
  exact ⟨ret_bool HR.out.symm, HB2.out⟩
set_option maxHeartbeats 2000000 in
theorem rform_1 (nm : ByteArray) (ns : List ByteArray) (ck ci : Int) (cs : ByteArray) (cl : List PT) (l : List PE) (S : Nat → Prop) (vn vd vk : Value) (w : World) (h : InF w S (.mk 1 nm ns (.mk ck ci cs cl) l) vn vd vk) :
    Calls Try.prog 43 #[(PE.mk 1 nm ns (.mk ck ci cs cl) l).val vn vd vk] w fun e w' => e = .returned (.bool (formE (.mk 1 nm ns (.mk ck ci cs cl) l))) ∧ Below w.heap.size w w' := by
  by_cases hsc : sameB (.mk ck ci cs cl) PT0 = false
  · exact rform_sc 1 (by decide) nm ns ck ci cs cl l S vn vd vk w h hsc
  rw [Bool.not_eq_false] at hsc
  by_cases hnb : namesB ns = false
  · exact rform_nb 1 (by decide) nm ns ck ci cs cl l S vn vd vk w h hsc hnb
  rw [Bool.not_eq_false] at hnb
  have HI := Lib.hid h
  have HNM := Lib.hid h.1.2.1
  have HNI := Lib.hid h.1.2.2
  have HKI := Lib.hid h.2.2
  obtain ⟨⟨-, -, an, cn, rfl, hln, hmn, -⟩, ⟨-, -, -, ad, cd, rfl, hld, hmd, -⟩, ak, c, rfl, hl, hm, -⟩ := h
  unfold maxLen at hmn hm hmd
  show Calls Try.prog 43 #[.agg #[.int .i64 1, .string nm, .slice an ns.length cn, .int .i64 ck, .int .i64 ci, .string cs, .slice ad cl.length cd, .slice ak l.length c]] w _
  have hz0 := heap_alloc_new w (.cells #[.int .i64 1, .string nm, .slice an ns.length cn, .int .i64 ck, .int .i64 ci, .string cs, .slice ad cl.length cd, .slice ak l.length c] 28)
  have hb0 : Below w.heap.size w (w.alloc (.cells #[.int .i64 1, .string nm, .slice an ns.length cn, .int .i64 ck, .int .i64 ci, .string cs, .slice ad cl.length cd, .slice ak l.length c] 28)) := (Below.refl _ _).alloc (Nat.le_refl _) _
  generalize hw0 : w.alloc (.cells #[.int .i64 1, .string nm, .slice an ns.length cn, .int .i64 ck, .int .i64 ci, .string cs, .slice ad cl.length cd, .slice ak l.length c] 28) = w0 at *
  have HW0 := Lib.hid hw0
  have HB0 := Lib.hid hb0
  have HZ0 := Lib.hid hz0
  have hz0l := lt_of_block hz0
  have CC : Hid (∀ W, Below w0.heap.size w0 W → W.heap[w.heap.size]? = some (.cells #[.int .i64 1, .string nm, .slice an ns.length cn, .int .i64 ck, .int .i64 ci, .string cs, .slice ad cl.length cd, .slice ak l.length c] 28)) := Lib.hid fun W hW => (hW.block w.heap.size (lt_of_block HZ0.out)).trans HZ0.out
  clear hw0 hb0 hz0
  have KSA : Hid (∀ W, Below w.heap.size w W → Calls Try.prog 33 #[.agg #[.int .i64 ck, .int .i64 ci, .string cs, .slice ad cl.length cd], .agg #[.int .i64 0, .int .i64 0, .string ⟨#[]⟩, .slice none 0 0]] W fun e w' => e = .returned (.bool (sameB (.mk ck ci cs cl) PT0)) ∧ Below W.heap.size W w') := Lib.hid fun W hW =>
    Dat.same_any (.mk ck ci cs cl) PT0 W W.heap.size (.slice ad cl.length cd) (.slice none 0 0) (HI.out.const hW) ⟨by constructor <;> decide, by constructor <;> decide, by decide, none, 0, rfl, Nat.le_refl _, Nat.zero_le _, fun _ => rfl, .inl rfl⟩ (Nat.le_refl _)
  have KN : Hid (∀ W, Below w.heap.size w W → Calls Try.prog 56 #[.slice an ns.length cn] W fun e w' => e = .returned (.bool (namesB ns)) ∧ Below W.heap.size W w') := Lib.hid fun W hW => rnames_any ns S _ W (HNI.out.below hW)
  have KR : Hid (∀ W, Calls Try.prog 57 #[.string nm] W fun e w' => e = .returned (.bool (nameB nm.data.toList)) ∧ W = w') := Lib.hid fun W => (rname_any nm W HNM.out).mono fun _ _ h => h
  rw [hsc] at KSA
  have HSC := Lib.hid hsc
  clear hsc
  rw [hnb] at KN
  have HR : Hid (formE (.mk 1 nm ns (.mk ck ci cs cl) l) = (nameB nm.data.toList && decide (ns.length = 0) && decide (l.length = 0))) := Lib.hid (by simp [formE, fieldsB, nameOkB, namesOkB, constOkB, kidsB, HSC.out, Bool.and_comm, Bool.and_left_comm])
  clear hnb
  clear HI HNI HKI
  generalize formE (.mk 1 nm ns (.mk ck ci cs cl) l) = r at *
  generalize ns.length = n' at *
  generalize l.length = n at *
  generalize nameB nm.data.toList = nn at *
  go_enter Try.func43, Try.ntmps43
  go_wp2_with fail
  rw [HW0.out]
  refine (KSA.out _ HB0.out).mono ?_
  rintro e w1 ⟨rfl, hb1⟩
  have HB1 := Lib.hid (HB0.out.trans (hb1.mono HB0.out.size))
  have HB1' := Lib.hid hb1
  have z1 := CC.out _ hb1
  obtain ⟨d0, d1, d2, d3, d4, d5, d6, d7⟩ := look8r z1
  clear hb1 z1
  go_wp2_with fail
  refine (KN.out _ HB1.out).mono ?_
  rintro e w2 ⟨rfl, hb2⟩
  have HB2 := Lib.hid (HB1.out.trans (hb2.mono HB1.out.size))
  have z2 := CC.out _ (HB1'.out.trans (hb2.mono HB1'.out.size))
  clear hb2 d0 d1 d2 d3 d4 d5 d6 d7
  obtain ⟨d0, d1, d2, d3, d4, d5, d6, d7⟩ := look8r z2
  clear z2
  go_wp2_with fail
  refine (KR.out _).mono ?_
  rintro e w3 ⟨rfl, rfl⟩
  go_wp2
  all_goals
    go_ret
    refine ⟨ret_bool ?_, HB2.out⟩
    rw [HR.out]
    rw [Bool.eq_iff_iff]
    first | (simp [*]; done) | (simp [*]; intros; omega) | (simp [*]; omega)
set_option maxHeartbeats 2000000 in
theorem rform_2 (nm : ByteArray) (ns : List ByteArray) (ck ci : Int) (cs : ByteArray) (cl : List PT) (l : List PE) (S : Nat → Prop) (vn vd vk : Value) (w : World) (h : InF w S (.mk 2 nm ns (.mk ck ci cs cl) l) vn vd vk) :
    Calls Try.prog 43 #[(PE.mk 2 nm ns (.mk ck ci cs cl) l).val vn vd vk] w fun e w' => e = .returned (.bool (formE (.mk 2 nm ns (.mk ck ci cs cl) l))) ∧ Below w.heap.size w w' := by
  by_cases hsc : sameB (.mk ck ci cs cl) PT0 = false
  · exact rform_sc 2 (by decide) nm ns ck ci cs cl l S vn vd vk w h hsc
  rw [Bool.not_eq_false] at hsc
  by_cases hnb : namesB ns = false
  · exact rform_nb 2 (by decide) nm ns ck ci cs cl l S vn vd vk w h hsc hnb
  rw [Bool.not_eq_false] at hnb
  have HI := Lib.hid h
  have HNM := Lib.hid h.1.2.1
  have HNI := Lib.hid h.1.2.2
  have HKI := Lib.hid h.2.2
  obtain ⟨⟨-, -, an, cn, rfl, hln, hmn, -⟩, ⟨-, -, -, ad, cd, rfl, hld, hmd, -⟩, ak, c, rfl, hl, hm, -⟩ := h
  unfold maxLen at hmn hm hmd
  show Calls Try.prog 43 #[.agg #[.int .i64 2, .string nm, .slice an ns.length cn, .int .i64 ck, .int .i64 ci, .string cs, .slice ad cl.length cd, .slice ak l.length c]] w _
  have hz0 := heap_alloc_new w (.cells #[.int .i64 2, .string nm, .slice an ns.length cn, .int .i64 ck, .int .i64 ci, .string cs, .slice ad cl.length cd, .slice ak l.length c] 28)
  have hb0 : Below w.heap.size w (w.alloc (.cells #[.int .i64 2, .string nm, .slice an ns.length cn, .int .i64 ck, .int .i64 ci, .string cs, .slice ad cl.length cd, .slice ak l.length c] 28)) := (Below.refl _ _).alloc (Nat.le_refl _) _
  generalize hw0 : w.alloc (.cells #[.int .i64 2, .string nm, .slice an ns.length cn, .int .i64 ck, .int .i64 ci, .string cs, .slice ad cl.length cd, .slice ak l.length c] 28) = w0 at *
  have HW0 := Lib.hid hw0
  have HB0 := Lib.hid hb0
  have HZ0 := Lib.hid hz0
  have hz0l := lt_of_block hz0
  have CC : Hid (∀ W, Below w0.heap.size w0 W → W.heap[w.heap.size]? = some (.cells #[.int .i64 2, .string nm, .slice an ns.length cn, .int .i64 ck, .int .i64 ci, .string cs, .slice ad cl.length cd, .slice ak l.length c] 28)) := Lib.hid fun W hW => (hW.block w.heap.size (lt_of_block HZ0.out)).trans HZ0.out
  clear hw0 hb0 hz0
  have KSA : Hid (∀ W, Below w.heap.size w W → Calls Try.prog 33 #[.agg #[.int .i64 ck, .int .i64 ci, .string cs, .slice ad cl.length cd], .agg #[.int .i64 0, .int .i64 0, .string ⟨#[]⟩, .slice none 0 0]] W fun e w' => e = .returned (.bool (sameB (.mk ck ci cs cl) PT0)) ∧ Below W.heap.size W w') := Lib.hid fun W hW =>
    Dat.same_any (.mk ck ci cs cl) PT0 W W.heap.size (.slice ad cl.length cd) (.slice none 0 0) (HI.out.const hW) ⟨by constructor <;> decide, by constructor <;> decide, by decide, none, 0, rfl, Nat.le_refl _, Nat.zero_le _, fun _ => rfl, .inl rfl⟩ (Nat.le_refl _)
  have KN : Hid (∀ W, Below w.heap.size w W → Calls Try.prog 56 #[.slice an ns.length cn] W fun e w' => e = .returned (.bool (namesB ns)) ∧ Below W.heap.size W w') := Lib.hid fun W hW => rnames_any ns S _ W (HNI.out.below hW)
  have KR : Hid (∀ W, Calls Try.prog 57 #[.string nm] W fun e w' => e = .returned (.bool (nameB nm.data.toList)) ∧ W = w') := Lib.hid fun W => (rname_any nm W HNM.out).mono fun _ _ h => h
  rw [hsc] at KSA
  have HSC := Lib.hid hsc
  clear hsc
  rw [hnb] at KN
  have HR : Hid (formE (.mk 2 nm ns (.mk ck ci cs cl) l) = (nameB nm.data.toList && decide (ns.length = 0) && decide (l.length = 1))) := Lib.hid (by simp [formE, fieldsB, nameOkB, namesOkB, constOkB, kidsB, HSC.out, Bool.and_comm, Bool.and_left_comm])
  clear hnb
  clear HI HNI HKI
  generalize formE (.mk 2 nm ns (.mk ck ci cs cl) l) = r at *
  generalize ns.length = n' at *
  generalize l.length = n at *
  generalize nameB nm.data.toList = nn at *
  go_enter Try.func43, Try.ntmps43
  go_wp2_with fail
  rw [HW0.out]
  refine (KSA.out _ HB0.out).mono ?_
  rintro e w1 ⟨rfl, hb1⟩
  have HB1 := Lib.hid (HB0.out.trans (hb1.mono HB0.out.size))
  have HB1' := Lib.hid hb1
  have z1 := CC.out _ hb1
  obtain ⟨d0, d1, d2, d3, d4, d5, d6, d7⟩ := look8r z1
  clear hb1 z1
  go_wp2_with fail
  refine (KN.out _ HB1.out).mono ?_
  rintro e w2 ⟨rfl, hb2⟩
  have HB2 := Lib.hid (HB1.out.trans (hb2.mono HB1.out.size))
  have z2 := CC.out _ (HB1'.out.trans (hb2.mono HB1'.out.size))
  clear hb2 d0 d1 d2 d3 d4 d5 d6 d7
  obtain ⟨d0, d1, d2, d3, d4, d5, d6, d7⟩ := look8r z2
  clear z2
  go_wp2_with fail
  refine (KR.out _).mono ?_
  rintro e w3 ⟨rfl, rfl⟩
  go_wp2
  all_goals
    go_ret
    refine ⟨ret_bool ?_, HB2.out⟩
    rw [HR.out]
    rw [Bool.eq_iff_iff]
    first | (simp [*]; done) | (simp [*]; intros; omega) | (simp [*]; omega)
set_option maxHeartbeats 2000000 in
theorem rform_3 (nm : ByteArray) (ns : List ByteArray) (ck ci : Int) (cs : ByteArray) (cl : List PT) (l : List PE) (S : Nat → Prop) (vn vd vk : Value) (w : World) (h : InF w S (.mk 3 nm ns (.mk ck ci cs cl) l) vn vd vk) :
    Calls Try.prog 43 #[(PE.mk 3 nm ns (.mk ck ci cs cl) l).val vn vd vk] w fun e w' => e = .returned (.bool (formE (.mk 3 nm ns (.mk ck ci cs cl) l))) ∧ Below w.heap.size w w' := by
  by_cases hsc : sameB (.mk ck ci cs cl) PT0 = false
  · exact rform_sc 3 (by decide) nm ns ck ci cs cl l S vn vd vk w h hsc
  rw [Bool.not_eq_false] at hsc
  by_cases hnb : namesB ns = false
  · exact rform_nb 3 (by decide) nm ns ck ci cs cl l S vn vd vk w h hsc hnb
  rw [Bool.not_eq_false] at hnb
  have HI := Lib.hid h
  have HNM := Lib.hid h.1.2.1
  have HNI := Lib.hid h.1.2.2
  have HKI := Lib.hid h.2.2
  obtain ⟨⟨-, -, an, cn, rfl, hln, hmn, -⟩, ⟨-, -, -, ad, cd, rfl, hld, hmd, -⟩, ak, c, rfl, hl, hm, -⟩ := h
  unfold maxLen at hmn hm hmd
  show Calls Try.prog 43 #[.agg #[.int .i64 3, .string nm, .slice an ns.length cn, .int .i64 ck, .int .i64 ci, .string cs, .slice ad cl.length cd, .slice ak l.length c]] w _
  have hz0 := heap_alloc_new w (.cells #[.int .i64 3, .string nm, .slice an ns.length cn, .int .i64 ck, .int .i64 ci, .string cs, .slice ad cl.length cd, .slice ak l.length c] 28)
  have hb0 : Below w.heap.size w (w.alloc (.cells #[.int .i64 3, .string nm, .slice an ns.length cn, .int .i64 ck, .int .i64 ci, .string cs, .slice ad cl.length cd, .slice ak l.length c] 28)) := (Below.refl _ _).alloc (Nat.le_refl _) _
  generalize hw0 : w.alloc (.cells #[.int .i64 3, .string nm, .slice an ns.length cn, .int .i64 ck, .int .i64 ci, .string cs, .slice ad cl.length cd, .slice ak l.length c] 28) = w0 at *
  have HW0 := Lib.hid hw0
  have HB0 := Lib.hid hb0
  have HZ0 := Lib.hid hz0
  have hz0l := lt_of_block hz0
  have CC : Hid (∀ W, Below w0.heap.size w0 W → W.heap[w.heap.size]? = some (.cells #[.int .i64 3, .string nm, .slice an ns.length cn, .int .i64 ck, .int .i64 ci, .string cs, .slice ad cl.length cd, .slice ak l.length c] 28)) := Lib.hid fun W hW => (hW.block w.heap.size (lt_of_block HZ0.out)).trans HZ0.out
  clear hw0 hb0 hz0
  have KSA : Hid (∀ W, Below w.heap.size w W → Calls Try.prog 33 #[.agg #[.int .i64 ck, .int .i64 ci, .string cs, .slice ad cl.length cd], .agg #[.int .i64 0, .int .i64 0, .string ⟨#[]⟩, .slice none 0 0]] W fun e w' => e = .returned (.bool (sameB (.mk ck ci cs cl) PT0)) ∧ Below W.heap.size W w') := Lib.hid fun W hW =>
    Dat.same_any (.mk ck ci cs cl) PT0 W W.heap.size (.slice ad cl.length cd) (.slice none 0 0) (HI.out.const hW) ⟨by constructor <;> decide, by constructor <;> decide, by decide, none, 0, rfl, Nat.le_refl _, Nat.zero_le _, fun _ => rfl, .inl rfl⟩ (Nat.le_refl _)
  have KN : Hid (∀ W, Below w.heap.size w W → Calls Try.prog 56 #[.slice an ns.length cn] W fun e w' => e = .returned (.bool (namesB ns)) ∧ Below W.heap.size W w') := Lib.hid fun W hW => rnames_any ns S _ W (HNI.out.below hW)
  have KR : Hid (∀ W, Calls Try.prog 57 #[.string nm] W fun e w' => e = .returned (.bool (nameB nm.data.toList)) ∧ W = w') := Lib.hid fun W => (rname_any nm W HNM.out).mono fun _ _ h => h
  rw [hsc] at KSA
  have HSC := Lib.hid hsc
  clear hsc
  rw [hnb] at KN
  have HR : Hid (formE (.mk 3 nm ns (.mk ck ci cs cl) l) = (decide (nm.toList = []) && decide (ns.length = 0) && decide (l.length = 3))) := Lib.hid (by simp [formE, fieldsB, nameOkB, namesOkB, constOkB, kidsB, HSC.out, Bool.and_comm, Bool.and_assoc])
  clear hnb
  clear HI HNI HKI
  generalize formE (.mk 3 nm ns (.mk ck ci cs cl) l) = r at *
  generalize ns.length = n' at *
  generalize l.length = n at *
  generalize nameB nm.data.toList = nn at *
  go_enter Try.func43, Try.ntmps43
  go_wp2_with fail
  rw [HW0.out]
  refine (KSA.out _ HB0.out).mono ?_
  rintro e w1 ⟨rfl, hb1⟩
  have HB1 := Lib.hid (HB0.out.trans (hb1.mono HB0.out.size))
  have HB1' := Lib.hid hb1
  have z1 := CC.out _ hb1
  obtain ⟨d0, d1, d2, d3, d4, d5, d6, d7⟩ := look8r z1
  clear hb1 z1
  go_wp2_with fail
  refine (KN.out _ HB1.out).mono ?_
  rintro e w2 ⟨rfl, hb2⟩
  have HB2 := Lib.hid (HB1.out.trans (hb2.mono HB1.out.size))
  have z2 := CC.out _ (HB1'.out.trans (hb2.mono HB1'.out.size))
  clear hb2 d0 d1 d2 d3 d4 d5 d6 d7
  obtain ⟨d0, d1, d2, d3, d4, d5, d6, d7⟩ := look8r z2
  clear z2
  go_wp2_with fail
  refine (KR.out _).mono ?_
  rintro e w3 ⟨rfl, rfl⟩
  go_wp2
  all_goals
    go_ret
    refine ⟨ret_bool ?_, HB2.out⟩
    rw [HR.out]
    rw [Bool.eq_iff_iff]
    first | (simp [*]; done) | (simp [*]; intros; omega) | (simp [*]; omega)
set_option maxHeartbeats 2000000 in
theorem rform_4 (nm : ByteArray) (ns : List ByteArray) (ck ci : Int) (cs : ByteArray) (cl : List PT) (l : List PE) (S : Nat → Prop) (vn vd vk : Value) (w : World) (h : InF w S (.mk 4 nm ns (.mk ck ci cs cl) l) vn vd vk) :
    Calls Try.prog 43 #[(PE.mk 4 nm ns (.mk ck ci cs cl) l).val vn vd vk] w fun e w' => e = .returned (.bool (formE (.mk 4 nm ns (.mk ck ci cs cl) l))) ∧ Below w.heap.size w w' := by
  by_cases hsc : sameB (.mk ck ci cs cl) PT0 = false
  · exact rform_sc 4 (by decide) nm ns ck ci cs cl l S vn vd vk w h hsc
  rw [Bool.not_eq_false] at hsc
  by_cases hnb : namesB ns = false
  · exact rform_nb 4 (by decide) nm ns ck ci cs cl l S vn vd vk w h hsc hnb
  rw [Bool.not_eq_false] at hnb
  have HI := Lib.hid h
  have HNM := Lib.hid h.1.2.1
  have HNI := Lib.hid h.1.2.2
  have HKI := Lib.hid h.2.2
  obtain ⟨⟨-, -, an, cn, rfl, hln, hmn, -⟩, ⟨-, -, -, ad, cd, rfl, hld, hmd, -⟩, ak, c, rfl, hl, hm, -⟩ := h
  unfold maxLen at hmn hm hmd
  show Calls Try.prog 43 #[.agg #[.int .i64 4, .string nm, .slice an ns.length cn, .int .i64 ck, .int .i64 ci, .string cs, .slice ad cl.length cd, .slice ak l.length c]] w _
  have hz0 := heap_alloc_new w (.cells #[.int .i64 4, .string nm, .slice an ns.length cn, .int .i64 ck, .int .i64 ci, .string cs, .slice ad cl.length cd, .slice ak l.length c] 28)
  have hb0 : Below w.heap.size w (w.alloc (.cells #[.int .i64 4, .string nm, .slice an ns.length cn, .int .i64 ck, .int .i64 ci, .string cs, .slice ad cl.length cd, .slice ak l.length c] 28)) := (Below.refl _ _).alloc (Nat.le_refl _) _
  generalize hw0 : w.alloc (.cells #[.int .i64 4, .string nm, .slice an ns.length cn, .int .i64 ck, .int .i64 ci, .string cs, .slice ad cl.length cd, .slice ak l.length c] 28) = w0 at *
  have HW0 := Lib.hid hw0
  have HB0 := Lib.hid hb0
  have HZ0 := Lib.hid hz0
  have hz0l := lt_of_block hz0
  have CC : Hid (∀ W, Below w0.heap.size w0 W → W.heap[w.heap.size]? = some (.cells #[.int .i64 4, .string nm, .slice an ns.length cn, .int .i64 ck, .int .i64 ci, .string cs, .slice ad cl.length cd, .slice ak l.length c] 28)) := Lib.hid fun W hW => (hW.block w.heap.size (lt_of_block HZ0.out)).trans HZ0.out
  clear hw0 hb0 hz0
  have KSA : Hid (∀ W, Below w.heap.size w W → Calls Try.prog 33 #[.agg #[.int .i64 ck, .int .i64 ci, .string cs, .slice ad cl.length cd], .agg #[.int .i64 0, .int .i64 0, .string ⟨#[]⟩, .slice none 0 0]] W fun e w' => e = .returned (.bool (sameB (.mk ck ci cs cl) PT0)) ∧ Below W.heap.size W w') := Lib.hid fun W hW =>
    Dat.same_any (.mk ck ci cs cl) PT0 W W.heap.size (.slice ad cl.length cd) (.slice none 0 0) (HI.out.const hW) ⟨by constructor <;> decide, by constructor <;> decide, by decide, none, 0, rfl, Nat.le_refl _, Nat.zero_le _, fun _ => rfl, .inl rfl⟩ (Nat.le_refl _)
  have KN : Hid (∀ W, Below w.heap.size w W → Calls Try.prog 56 #[.slice an ns.length cn] W fun e w' => e = .returned (.bool (namesB ns)) ∧ Below W.heap.size W w') := Lib.hid fun W hW => rnames_any ns S _ W (HNI.out.below hW)
  have KR : Hid (∀ W, Calls Try.prog 57 #[.string nm] W fun e w' => e = .returned (.bool (nameB nm.data.toList)) ∧ W = w') := Lib.hid fun W => (rname_any nm W HNM.out).mono fun _ _ h => h
  rw [hsc] at KSA
  have HSC := Lib.hid hsc
  clear hsc
  rw [hnb] at KN
  have HR : Hid (formE (.mk 4 nm ns (.mk ck ci cs cl) l) = (decide (nm.toList = []) && decide (ns.length = 0) && decide (2 ≤ l.length))) := Lib.hid (by simp [formE, fieldsB, nameOkB, namesOkB, constOkB, kidsB, HSC.out, Bool.and_comm, Bool.and_assoc])
  clear hnb
  clear HI HNI HKI
  generalize formE (.mk 4 nm ns (.mk ck ci cs cl) l) = r at *
  generalize ns.length = n' at *
  generalize l.length = n at *
  generalize nameB nm.data.toList = nn at *
  go_enter Try.func43, Try.ntmps43
  go_wp2_with fail
  rw [HW0.out]
  refine (KSA.out _ HB0.out).mono ?_
  rintro e w1 ⟨rfl, hb1⟩
  have HB1 := Lib.hid (HB0.out.trans (hb1.mono HB0.out.size))
  have HB1' := Lib.hid hb1
  have z1 := CC.out _ hb1
  obtain ⟨d0, d1, d2, d3, d4, d5, d6, d7⟩ := look8r z1
  clear hb1 z1
  go_wp2_with fail
  refine (KN.out _ HB1.out).mono ?_
  rintro e w2 ⟨rfl, hb2⟩
  have HB2 := Lib.hid (HB1.out.trans (hb2.mono HB1.out.size))
  have z2 := CC.out _ (HB1'.out.trans (hb2.mono HB1'.out.size))
  clear hb2 d0 d1 d2 d3 d4 d5 d6 d7
  obtain ⟨d0, d1, d2, d3, d4, d5, d6, d7⟩ := look8r z2
  clear z2
  go_wp2_with fail
  refine (KR.out _).mono ?_
  rintro e w3 ⟨rfl, rfl⟩
  go_wp2
  all_goals
    go_ret
    refine ⟨ret_bool ?_, HB2.out⟩
    rw [HR.out]
    rw [Bool.eq_iff_iff]
    first | (simp [*]; done) | (simp [*]; intros; omega) | (simp [*]; omega)
set_option maxHeartbeats 2000000 in
theorem rform_5 (nm : ByteArray) (ns : List ByteArray) (ck ci : Int) (cs : ByteArray) (cl : List PT) (l : List PE) (S : Nat → Prop) (vn vd vk : Value) (w : World) (h : InF w S (.mk 5 nm ns (.mk ck ci cs cl) l) vn vd vk) :
    Calls Try.prog 43 #[(PE.mk 5 nm ns (.mk ck ci cs cl) l).val vn vd vk] w fun e w' => e = .returned (.bool (formE (.mk 5 nm ns (.mk ck ci cs cl) l))) ∧ Below w.heap.size w w' := by
  by_cases hsc : sameB (.mk ck ci cs cl) PT0 = false
  · exact rform_sc 5 (by decide) nm ns ck ci cs cl l S vn vd vk w h hsc
  rw [Bool.not_eq_false] at hsc
  by_cases hnb : namesB ns = false
  · exact rform_nb 5 (by decide) nm ns ck ci cs cl l S vn vd vk w h hsc hnb
  rw [Bool.not_eq_false] at hnb
  have HI := Lib.hid h
  have HNM := Lib.hid h.1.2.1
  have HNI := Lib.hid h.1.2.2
  have HKI := Lib.hid h.2.2
  obtain ⟨⟨-, -, an, cn, rfl, hln, hmn, -⟩, ⟨-, -, -, ad, cd, rfl, hld, hmd, -⟩, ak, c, rfl, hl, hm, -⟩ := h
  unfold maxLen at hmn hm hmd
  show Calls Try.prog 43 #[.agg #[.int .i64 5, .string nm, .slice an ns.length cn, .int .i64 ck, .int .i64 ci, .string cs, .slice ad cl.length cd, .slice ak l.length c]] w _
  have hz0 := heap_alloc_new w (.cells #[.int .i64 5, .string nm, .slice an ns.length cn, .int .i64 ck, .int .i64 ci, .string cs, .slice ad cl.length cd, .slice ak l.length c] 28)
  have hb0 : Below w.heap.size w (w.alloc (.cells #[.int .i64 5, .string nm, .slice an ns.length cn, .int .i64 ck, .int .i64 ci, .string cs, .slice ad cl.length cd, .slice ak l.length c] 28)) := (Below.refl _ _).alloc (Nat.le_refl _) _
  generalize hw0 : w.alloc (.cells #[.int .i64 5, .string nm, .slice an ns.length cn, .int .i64 ck, .int .i64 ci, .string cs, .slice ad cl.length cd, .slice ak l.length c] 28) = w0 at *
  have HW0 := Lib.hid hw0
  have HB0 := Lib.hid hb0
  have HZ0 := Lib.hid hz0
  have hz0l := lt_of_block hz0
  have CC : Hid (∀ W, Below w0.heap.size w0 W → W.heap[w.heap.size]? = some (.cells #[.int .i64 5, .string nm, .slice an ns.length cn, .int .i64 ck, .int .i64 ci, .string cs, .slice ad cl.length cd, .slice ak l.length c] 28)) := Lib.hid fun W hW => (hW.block w.heap.size (lt_of_block HZ0.out)).trans HZ0.out
  clear hw0 hb0 hz0
  have KSA : Hid (∀ W, Below w.heap.size w W → Calls Try.prog 33 #[.agg #[.int .i64 ck, .int .i64 ci, .string cs, .slice ad cl.length cd], .agg #[.int .i64 0, .int .i64 0, .string ⟨#[]⟩, .slice none 0 0]] W fun e w' => e = .returned (.bool (sameB (.mk ck ci cs cl) PT0)) ∧ Below W.heap.size W w') := Lib.hid fun W hW =>
    Dat.same_any (.mk ck ci cs cl) PT0 W W.heap.size (.slice ad cl.length cd) (.slice none 0 0) (HI.out.const hW) ⟨by constructor <;> decide, by constructor <;> decide, by decide, none, 0, rfl, Nat.le_refl _, Nat.zero_le _, fun _ => rfl, .inl rfl⟩ (Nat.le_refl _)
  have KN : Hid (∀ W, Below w.heap.size w W → Calls Try.prog 56 #[.slice an ns.length cn] W fun e w' => e = .returned (.bool (namesB ns)) ∧ Below W.heap.size W w') := Lib.hid fun W hW => rnames_any ns S _ W (HNI.out.below hW)
  have KR : Hid (∀ W, Calls Try.prog 57 #[.string nm] W fun e w' => e = .returned (.bool (nameB nm.data.toList)) ∧ W = w') := Lib.hid fun W => (rname_any nm W HNM.out).mono fun _ _ h => h
  rw [hsc] at KSA
  have HSC := Lib.hid hsc
  clear hsc
  rw [hnb] at KN
  have HR : Hid (formE (.mk 5 nm ns (.mk ck ci cs cl) l) = (decide (nm.toList = []) && decide (ns.length ≤ 6) && decide (l.length = 1))) := Lib.hid (by simp [formE, fieldsB, nameOkB, namesOkB, constOkB, kidsB, HSC.out, hnb, Bool.and_comm, Bool.and_left_comm])
  clear hnb
  clear HI HNI HKI
  generalize formE (.mk 5 nm ns (.mk ck ci cs cl) l) = r at *
  generalize ns.length = n' at *
  generalize l.length = n at *
  generalize nameB nm.data.toList = nn at *
  go_enter Try.func43, Try.ntmps43
  go_wp2_with fail
  rw [HW0.out]
  refine (KSA.out _ HB0.out).mono ?_
  rintro e w1 ⟨rfl, hb1⟩
  have HB1 := Lib.hid (HB0.out.trans (hb1.mono HB0.out.size))
  have HB1' := Lib.hid hb1
  have z1 := CC.out _ hb1
  obtain ⟨d0, d1, d2, d3, d4, d5, d6, d7⟩ := look8r z1
  clear hb1 z1
  go_wp2_with fail
  refine (KN.out _ HB1.out).mono ?_
  rintro e w2 ⟨rfl, hb2⟩
  have HB2 := Lib.hid (HB1.out.trans (hb2.mono HB1.out.size))
  have z2 := CC.out _ (HB1'.out.trans (hb2.mono HB1'.out.size))
  clear hb2 d0 d1 d2 d3 d4 d5 d6 d7
  obtain ⟨d0, d1, d2, d3, d4, d5, d6, d7⟩ := look8r z2
  clear z2
  go_wp2_with fail
  refine (KR.out _).mono ?_
  rintro e w3 ⟨rfl, rfl⟩
  go_wp2
  all_goals
    go_ret
    refine ⟨ret_bool ?_, HB2.out⟩
    rw [HR.out]
    rw [Bool.eq_iff_iff]
    first | (simp [*]; done) | (simp [*]; intros; omega) | (simp [*]; omega)
set_option maxHeartbeats 2000000 in
theorem rform_6 (nm : ByteArray) (ns : List ByteArray) (ck ci : Int) (cs : ByteArray) (cl : List PT) (l : List PE) (S : Nat → Prop) (vn vd vk : Value) (w : World) (h : InF w S (.mk 6 nm ns (.mk ck ci cs cl) l) vn vd vk) :
    Calls Try.prog 43 #[(PE.mk 6 nm ns (.mk ck ci cs cl) l).val vn vd vk] w fun e w' => e = .returned (.bool (formE (.mk 6 nm ns (.mk ck ci cs cl) l))) ∧ Below w.heap.size w w' := by
  by_cases hsc : sameB (.mk ck ci cs cl) PT0 = false
  · exact rform_sc 6 (by decide) nm ns ck ci cs cl l S vn vd vk w h hsc
  rw [Bool.not_eq_false] at hsc
  by_cases hnb : namesB ns = false
  · exact rform_nb 6 (by decide) nm ns ck ci cs cl l S vn vd vk w h hsc hnb
  rw [Bool.not_eq_false] at hnb
  have HI := Lib.hid h
  have HNM := Lib.hid h.1.2.1
  have HNI := Lib.hid h.1.2.2
  have HKI := Lib.hid h.2.2
  obtain ⟨⟨-, -, an, cn, rfl, hln, hmn, -⟩, ⟨-, -, -, ad, cd, rfl, hld, hmd, -⟩, ak, c, rfl, hl, hm, -⟩ := h
  unfold maxLen at hmn hm hmd
  show Calls Try.prog 43 #[.agg #[.int .i64 6, .string nm, .slice an ns.length cn, .int .i64 ck, .int .i64 ci, .string cs, .slice ad cl.length cd, .slice ak l.length c]] w _
  have hz0 := heap_alloc_new w (.cells #[.int .i64 6, .string nm, .slice an ns.length cn, .int .i64 ck, .int .i64 ci, .string cs, .slice ad cl.length cd, .slice ak l.length c] 28)
  have hb0 : Below w.heap.size w (w.alloc (.cells #[.int .i64 6, .string nm, .slice an ns.length cn, .int .i64 ck, .int .i64 ci, .string cs, .slice ad cl.length cd, .slice ak l.length c] 28)) := (Below.refl _ _).alloc (Nat.le_refl _) _
  generalize hw0 : w.alloc (.cells #[.int .i64 6, .string nm, .slice an ns.length cn, .int .i64 ck, .int .i64 ci, .string cs, .slice ad cl.length cd, .slice ak l.length c] 28) = w0 at *
  have HW0 := Lib.hid hw0
  have HB0 := Lib.hid hb0
  have HZ0 := Lib.hid hz0
  have hz0l := lt_of_block hz0
  have CC : Hid (∀ W, Below w0.heap.size w0 W → W.heap[w.heap.size]? = some (.cells #[.int .i64 6, .string nm, .slice an ns.length cn, .int .i64 ck, .int .i64 ci, .string cs, .slice ad cl.length cd, .slice ak l.length c] 28)) := Lib.hid fun W hW => (hW.block w.heap.size (lt_of_block HZ0.out)).trans HZ0.out
  clear hw0 hb0 hz0
  have KSA : Hid (∀ W, Below w.heap.size w W → Calls Try.prog 33 #[.agg #[.int .i64 ck, .int .i64 ci, .string cs, .slice ad cl.length cd], .agg #[.int .i64 0, .int .i64 0, .string ⟨#[]⟩, .slice none 0 0]] W fun e w' => e = .returned (.bool (sameB (.mk ck ci cs cl) PT0)) ∧ Below W.heap.size W w') := Lib.hid fun W hW =>
    Dat.same_any (.mk ck ci cs cl) PT0 W W.heap.size (.slice ad cl.length cd) (.slice none 0 0) (HI.out.const hW) ⟨by constructor <;> decide, by constructor <;> decide, by decide, none, 0, rfl, Nat.le_refl _, Nat.zero_le _, fun _ => rfl, .inl rfl⟩ (Nat.le_refl _)
  have KN : Hid (∀ W, Below w.heap.size w W → Calls Try.prog 56 #[.slice an ns.length cn] W fun e w' => e = .returned (.bool (namesB ns)) ∧ Below W.heap.size W w') := Lib.hid fun W hW => rnames_any ns S _ W (HNI.out.below hW)
  have KR : Hid (∀ W, Calls Try.prog 57 #[.string nm] W fun e w' => e = .returned (.bool (nameB nm.data.toList)) ∧ W = w') := Lib.hid fun W => (rname_any nm W HNM.out).mono fun _ _ h => h
  rw [hsc] at KSA
  have HSC := Lib.hid hsc
  clear hsc
  rw [hnb] at KN
  have HR : Hid (formE (.mk 6 nm ns (.mk ck ci cs cl) l) = (decide (nm.toList = []) && decide (ns.length = 0) && (decide (1 ≤ l.length) && decide (l.length ≤ 7)))) := Lib.hid (by simp [formE, fieldsB, nameOkB, namesOkB, constOkB, kidsB, HSC.out, Bool.and_comm, Bool.and_assoc])
  clear hnb
  clear HI HNI HKI
  generalize formE (.mk 6 nm ns (.mk ck ci cs cl) l) = r at *
  generalize ns.length = n' at *
  generalize l.length = n at *
  generalize nameB nm.data.toList = nn at *
  go_enter Try.func43, Try.ntmps43
  go_wp2_with fail
  rw [HW0.out]
  refine (KSA.out _ HB0.out).mono ?_
  rintro e w1 ⟨rfl, hb1⟩
  have HB1 := Lib.hid (HB0.out.trans (hb1.mono HB0.out.size))
  have HB1' := Lib.hid hb1
  have z1 := CC.out _ hb1
  obtain ⟨d0, d1, d2, d3, d4, d5, d6, d7⟩ := look8r z1
  clear hb1 z1
  go_wp2_with fail
  refine (KN.out _ HB1.out).mono ?_
  rintro e w2 ⟨rfl, hb2⟩
  have HB2 := Lib.hid (HB1.out.trans (hb2.mono HB1.out.size))
  have z2 := CC.out _ (HB1'.out.trans (hb2.mono HB1'.out.size))
  clear hb2 d0 d1 d2 d3 d4 d5 d6 d7
  obtain ⟨d0, d1, d2, d3, d4, d5, d6, d7⟩ := look8r z2
  clear z2
  go_wp2_with fail
  refine (KR.out _).mono ?_
  rintro e w3 ⟨rfl, rfl⟩
  go_wp2
  all_goals
    go_ret
    refine ⟨ret_bool ?_, HB2.out⟩
    rw [HR.out]
    rw [Bool.eq_iff_iff]
    first | (simp [*]; done) | (simp [*]; intros; omega) | (simp [*]; omega)
set_option maxHeartbeats 2000000 in
theorem rform_8 (nm : ByteArray) (ns : List ByteArray) (ck ci : Int) (cs : ByteArray) (cl : List PT) (l : List PE) (S : Nat → Prop) (vn vd vk : Value) (w : World) (h : InF w S (.mk 8 nm ns (.mk ck ci cs cl) l) vn vd vk) :
    Calls Try.prog 43 #[(PE.mk 8 nm ns (.mk ck ci cs cl) l).val vn vd vk] w fun e w' => e = .returned (.bool (formE (.mk 8 nm ns (.mk ck ci cs cl) l))) ∧ Below w.heap.size w w' := by
  by_cases hsc : sameB (.mk ck ci cs cl) PT0 = false
  · exact rform_sc 8 (by decide) nm ns ck ci cs cl l S vn vd vk w h hsc
  rw [Bool.not_eq_false] at hsc
  by_cases hnb : namesB ns = false
  · exact rform_nb 8 (by decide) nm ns ck ci cs cl l S vn vd vk w h hsc hnb
  rw [Bool.not_eq_false] at hnb
  have HI := Lib.hid h
  have HNM := Lib.hid h.1.2.1
  have HNI := Lib.hid h.1.2.2
  have HKI := Lib.hid h.2.2
  obtain ⟨⟨-, -, an, cn, rfl, hln, hmn, -⟩, ⟨-, -, -, ad, cd, rfl, hld, hmd, -⟩, ak, c, rfl, hl, hm, -⟩ := h
  unfold maxLen at hmn hm hmd
  show Calls Try.prog 43 #[.agg #[.int .i64 8, .string nm, .slice an ns.length cn, .int .i64 ck, .int .i64 ci, .string cs, .slice ad cl.length cd, .slice ak l.length c]] w _
  have hz0 := heap_alloc_new w (.cells #[.int .i64 8, .string nm, .slice an ns.length cn, .int .i64 ck, .int .i64 ci, .string cs, .slice ad cl.length cd, .slice ak l.length c] 28)
  have hb0 : Below w.heap.size w (w.alloc (.cells #[.int .i64 8, .string nm, .slice an ns.length cn, .int .i64 ck, .int .i64 ci, .string cs, .slice ad cl.length cd, .slice ak l.length c] 28)) := (Below.refl _ _).alloc (Nat.le_refl _) _
  generalize hw0 : w.alloc (.cells #[.int .i64 8, .string nm, .slice an ns.length cn, .int .i64 ck, .int .i64 ci, .string cs, .slice ad cl.length cd, .slice ak l.length c] 28) = w0 at *
  have HW0 := Lib.hid hw0
  have HB0 := Lib.hid hb0
  have HZ0 := Lib.hid hz0
  have hz0l := lt_of_block hz0
  have CC : Hid (∀ W, Below w0.heap.size w0 W → W.heap[w.heap.size]? = some (.cells #[.int .i64 8, .string nm, .slice an ns.length cn, .int .i64 ck, .int .i64 ci, .string cs, .slice ad cl.length cd, .slice ak l.length c] 28)) := Lib.hid fun W hW => (hW.block w.heap.size (lt_of_block HZ0.out)).trans HZ0.out
  clear hw0 hb0 hz0
  have KSA : Hid (∀ W, Below w.heap.size w W → Calls Try.prog 33 #[.agg #[.int .i64 ck, .int .i64 ci, .string cs, .slice ad cl.length cd], .agg #[.int .i64 0, .int .i64 0, .string ⟨#[]⟩, .slice none 0 0]] W fun e w' => e = .returned (.bool (sameB (.mk ck ci cs cl) PT0)) ∧ Below W.heap.size W w') := Lib.hid fun W hW =>
    Dat.same_any (.mk ck ci cs cl) PT0 W W.heap.size (.slice ad cl.length cd) (.slice none 0 0) (HI.out.const hW) ⟨by constructor <;> decide, by constructor <;> decide, by decide, none, 0, rfl, Nat.le_refl _, Nat.zero_le _, fun _ => rfl, .inl rfl⟩ (Nat.le_refl _)
  have KN : Hid (∀ W, Below w.heap.size w W → Calls Try.prog 56 #[.slice an ns.length cn] W fun e w' => e = .returned (.bool (namesB ns)) ∧ Below W.heap.size W w') := Lib.hid fun W hW => rnames_any ns S _ W (HNI.out.below hW)
  have KR : Hid (∀ W, Calls Try.prog 57 #[.string nm] W fun e w' => e = .returned (.bool (nameB nm.data.toList)) ∧ W = w') := Lib.hid fun W => (rname_any nm W HNM.out).mono fun _ _ h => h
  rw [hsc] at KSA
  have HSC := Lib.hid hsc
  clear hsc
  rw [hnb] at KN
  have HR : Hid (formE (.mk 8 nm ns (.mk ck ci cs cl) l) = (decide (nm.toList = []) && decide (l.length = ns.length + 1))) := Lib.hid (by simp [formE, fieldsB, nameOkB, namesOkB, constOkB, kidsB, HSC.out, hnb, Bool.and_comm])
  clear hnb
  clear HI HNI HKI
  generalize formE (.mk 8 nm ns (.mk ck ci cs cl) l) = r at *
  generalize ns.length = n' at *
  generalize l.length = n at *
  generalize nameB nm.data.toList = nn at *
  by_cases hb : n' = 9223372036854775807
  · have hq := wrap_top (n := n) (n' := n') hb
    have hne : ¬ n = n' + 1 := by omega
    clear hb
    go_enter Try.func43, Try.ntmps43
    go_wp2_with fail
    rw [HW0.out]
    refine (KSA.out _ HB0.out).mono ?_
    rintro e w1 ⟨rfl, hb1⟩
    have HB1 := Lib.hid (HB0.out.trans (hb1.mono HB0.out.size))
    have HB1' := Lib.hid hb1
    have z1 := CC.out _ hb1
    obtain ⟨d0, d1, d2, d3, d4, d5, d6, d7⟩ := look8r z1
    clear hb1 z1
    go_wp2_with fail
    refine (KN.out _ HB1.out).mono ?_
    rintro e w2 ⟨rfl, hb2⟩
    have HB2 := Lib.hid (HB1.out.trans (hb2.mono HB1.out.size))
    have z2 := CC.out _ (HB1'.out.trans (hb2.mono HB1'.out.size))
    clear hb2 d0 d1 d2 d3 d4 d5 d6 d7
    obtain ⟨d0, d1, d2, d3, d4, d5, d6, d7⟩ := look8r z2
    clear z2
    go_wp2_with fail
    refine (KR.out _).mono ?_
    rintro e w3 ⟨rfl, rfl⟩
    go_wp2
    all_goals
      go_ret
      refine ⟨ret_bool ?_, HB2.out⟩
      rw [HR.out]
      rw [Bool.eq_iff_iff]
      first | (simp [*]; done) | (simp [*]; intros; omega) | (simp [*]; omega)
  have hlt : n' < 9223372036854775807 := by omega
  clear hb
  go_enter Try.func43, Try.ntmps43
  go_wp2_with fail
  rw [HW0.out]
  refine (KSA.out _ HB0.out).mono ?_
  rintro e w1 ⟨rfl, hb1⟩
  have HB1 := Lib.hid (HB0.out.trans (hb1.mono HB0.out.size))
  have HB1' := Lib.hid hb1
  have z1 := CC.out _ hb1
  obtain ⟨d0, d1, d2, d3, d4, d5, d6, d7⟩ := look8r z1
  clear hb1 z1
  go_wp2_with fail
  refine (KN.out _ HB1.out).mono ?_
  rintro e w2 ⟨rfl, hb2⟩
  have HB2 := Lib.hid (HB1.out.trans (hb2.mono HB1.out.size))
  have z2 := CC.out _ (HB1'.out.trans (hb2.mono HB1'.out.size))
  clear hb2 d0 d1 d2 d3 d4 d5 d6 d7
  obtain ⟨d0, d1, d2, d3, d4, d5, d6, d7⟩ := look8r z2
  clear z2
  go_wp2_with fail
  refine (KR.out _).mono ?_
  rintro e w3 ⟨rfl, rfl⟩
  go_wp2
  all_goals
    go_ret
    refine ⟨ret_bool ?_, HB2.out⟩
    rw [HR.out]
    rw [Bool.eq_iff_iff]
    first | (simp [*]; done) | (simp [*]; intros; omega) | (simp [*]; omega)
set_option maxHeartbeats 2000000 in
theorem rform_9 (nm : ByteArray) (ns : List ByteArray) (ck ci : Int) (cs : ByteArray) (cl : List PT) (l : List PE) (S : Nat → Prop) (vn vd vk : Value) (w : World) (h : InF w S (.mk 9 nm ns (.mk ck ci cs cl) l) vn vd vk) :
    Calls Try.prog 43 #[(PE.mk 9 nm ns (.mk ck ci cs cl) l).val vn vd vk] w fun e w' => e = .returned (.bool (formE (.mk 9 nm ns (.mk ck ci cs cl) l))) ∧ Below w.heap.size w w' := by
  by_cases hsc : sameB (.mk ck ci cs cl) PT0 = false
  · exact rform_sc 9 (by decide) nm ns ck ci cs cl l S vn vd vk w h hsc
  rw [Bool.not_eq_false] at hsc
  by_cases hnb : namesB ns = false
  · exact rform_nb 9 (by decide) nm ns ck ci cs cl l S vn vd vk w h hsc hnb
  rw [Bool.not_eq_false] at hnb
  have HI := Lib.hid h
  have HNM := Lib.hid h.1.2.1
  have HNI := Lib.hid h.1.2.2
  have HKI := Lib.hid h.2.2
  obtain ⟨⟨-, -, an, cn, rfl, hln, hmn, -⟩, ⟨-, -, -, ad, cd, rfl, hld, hmd, -⟩, ak, c, rfl, hl, hm, -⟩ := h
  unfold maxLen at hmn hm hmd
  show Calls Try.prog 43 #[.agg #[.int .i64 9, .string nm, .slice an ns.length cn, .int .i64 ck, .int .i64 ci, .string cs, .slice ad cl.length cd, .slice ak l.length c]] w _
  have hz0 := heap_alloc_new w (.cells #[.int .i64 9, .string nm, .slice an ns.length cn, .int .i64 ck, .int .i64 ci, .string cs, .slice ad cl.length cd, .slice ak l.length c] 28)
  have hb0 : Below w.heap.size w (w.alloc (.cells #[.int .i64 9, .string nm, .slice an ns.length cn, .int .i64 ck, .int .i64 ci, .string cs, .slice ad cl.length cd, .slice ak l.length c] 28)) := (Below.refl _ _).alloc (Nat.le_refl _) _
  generalize hw0 : w.alloc (.cells #[.int .i64 9, .string nm, .slice an ns.length cn, .int .i64 ck, .int .i64 ci, .string cs, .slice ad cl.length cd, .slice ak l.length c] 28) = w0 at *
  have HW0 := Lib.hid hw0
  have HB0 := Lib.hid hb0
  have HZ0 := Lib.hid hz0
  have hz0l := lt_of_block hz0
  have CC : Hid (∀ W, Below w0.heap.size w0 W → W.heap[w.heap.size]? = some (.cells #[.int .i64 9, .string nm, .slice an ns.length cn, .int .i64 ck, .int .i64 ci, .string cs, .slice ad cl.length cd, .slice ak l.length c] 28)) := Lib.hid fun W hW => (hW.block w.heap.size (lt_of_block HZ0.out)).trans HZ0.out
  clear hw0 hb0 hz0
  have KSA : Hid (∀ W, Below w.heap.size w W → Calls Try.prog 33 #[.agg #[.int .i64 ck, .int .i64 ci, .string cs, .slice ad cl.length cd], .agg #[.int .i64 0, .int .i64 0, .string ⟨#[]⟩, .slice none 0 0]] W fun e w' => e = .returned (.bool (sameB (.mk ck ci cs cl) PT0)) ∧ Below W.heap.size W w') := Lib.hid fun W hW =>
    Dat.same_any (.mk ck ci cs cl) PT0 W W.heap.size (.slice ad cl.length cd) (.slice none 0 0) (HI.out.const hW) ⟨by constructor <;> decide, by constructor <;> decide, by decide, none, 0, rfl, Nat.le_refl _, Nat.zero_le _, fun _ => rfl, .inl rfl⟩ (Nat.le_refl _)
  have KN : Hid (∀ W, Below w.heap.size w W → Calls Try.prog 56 #[.slice an ns.length cn] W fun e w' => e = .returned (.bool (namesB ns)) ∧ Below W.heap.size W w') := Lib.hid fun W hW => rnames_any ns S _ W (HNI.out.below hW)
  have KR : Hid (∀ W, Calls Try.prog 57 #[.string nm] W fun e w' => e = .returned (.bool (nameB nm.data.toList)) ∧ W = w') := Lib.hid fun W => (rname_any nm W HNM.out).mono fun _ _ h => h
  rw [hsc] at KSA
  have HSC := Lib.hid hsc
  clear hsc
  rw [hnb] at KN
  have HR : Hid (formE (.mk 9 nm ns (.mk ck ci cs cl) l) = (decide (nm.toList = []) && decide (l.length = ns.length + 1))) := Lib.hid (by simp [formE, fieldsB, nameOkB, namesOkB, constOkB, kidsB, HSC.out, hnb, Bool.and_comm])
  clear hnb
  clear HI HNI HKI
  generalize formE (.mk 9 nm ns (.mk ck ci cs cl) l) = r at *
  generalize ns.length = n' at *
  generalize l.length = n at *
  generalize nameB nm.data.toList = nn at *
  by_cases hb : n' = 9223372036854775807
  · have hq := wrap_top (n := n) (n' := n') hb
    have hne : ¬ n = n' + 1 := by omega
    clear hb
    go_enter Try.func43, Try.ntmps43
    go_wp2_with fail
    rw [HW0.out]
    refine (KSA.out _ HB0.out).mono ?_
    rintro e w1 ⟨rfl, hb1⟩
    have HB1 := Lib.hid (HB0.out.trans (hb1.mono HB0.out.size))
    have HB1' := Lib.hid hb1
    have z1 := CC.out _ hb1
    obtain ⟨d0, d1, d2, d3, d4, d5, d6, d7⟩ := look8r z1
    clear hb1 z1
    go_wp2_with fail
    refine (KN.out _ HB1.out).mono ?_
    rintro e w2 ⟨rfl, hb2⟩
    have HB2 := Lib.hid (HB1.out.trans (hb2.mono HB1.out.size))
    have z2 := CC.out _ (HB1'.out.trans (hb2.mono HB1'.out.size))
    clear hb2 d0 d1 d2 d3 d4 d5 d6 d7
    obtain ⟨d0, d1, d2, d3, d4, d5, d6, d7⟩ := look8r z2
    clear z2
    go_wp2_with fail
    refine (KR.out _).mono ?_
    rintro e w3 ⟨rfl, rfl⟩
    go_wp2
    all_goals
      go_ret
      refine ⟨ret_bool ?_, HB2.out⟩
      rw [HR.out]
      rw [Bool.eq_iff_iff]
      first | (simp [*]; done) | (simp [*]; intros; omega) | (simp [*]; omega)
  have hlt : n' < 9223372036854775807 := by omega
  clear hb
  go_enter Try.func43, Try.ntmps43
  go_wp2_with fail
  rw [HW0.out]
  refine (KSA.out _ HB0.out).mono ?_
  rintro e w1 ⟨rfl, hb1⟩
  have HB1 := Lib.hid (HB0.out.trans (hb1.mono HB0.out.size))
  have HB1' := Lib.hid hb1
  have z1 := CC.out _ hb1
  obtain ⟨d0, d1, d2, d3, d4, d5, d6, d7⟩ := look8r z1
  clear hb1 z1
  go_wp2_with fail
  refine (KN.out _ HB1.out).mono ?_
  rintro e w2 ⟨rfl, hb2⟩
  have HB2 := Lib.hid (HB1.out.trans (hb2.mono HB1.out.size))
  have z2 := CC.out _ (HB1'.out.trans (hb2.mono HB1'.out.size))
  clear hb2 d0 d1 d2 d3 d4 d5 d6 d7
  obtain ⟨d0, d1, d2, d3, d4, d5, d6, d7⟩ := look8r z2
  clear z2
  go_wp2_with fail
  refine (KR.out _).mono ?_
  rintro e w3 ⟨rfl, rfl⟩
  go_wp2
  all_goals
    go_ret
    refine ⟨ret_bool ?_, HB2.out⟩
    rw [HR.out]
    rw [Bool.eq_iff_iff]
    first | (simp [*]; done) | (simp [*]; intros; omega) | (simp [*]; omega)
set_option maxHeartbeats 2000000 in
theorem rform_7 (nm : ByteArray) (ns : List ByteArray) (ck ci : Int) (cs : ByteArray) (cl : List PT) (l : List PE) (S : Nat → Prop) (vn vd vk : Value) (w : World) (h : InF w S (.mk 7 nm ns (.mk ck ci cs cl) l) vn vd vk) :
    Calls Try.prog 43 #[(PE.mk 7 nm ns (.mk ck ci cs cl) l).val vn vd vk] w fun e w' => e = .returned (.bool (formE (.mk 7 nm ns (.mk ck ci cs cl) l))) ∧ Below w.heap.size w w' := by
  by_cases hsc : sameB (.mk ck ci cs cl) PT0 = false
  · exact rform_sc 7 (by decide) nm ns ck ci cs cl l S vn vd vk w h hsc
  rw [Bool.not_eq_false] at hsc
  by_cases hnb : namesB ns = false
  · exact rform_nb 7 (by decide) nm ns ck ci cs cl l S vn vd vk w h hsc hnb
  rw [Bool.not_eq_false] at hnb
  have HI := Lib.hid h
  have HNM := Lib.hid h.1.2.1
  have HNI := Lib.hid h.1.2.2
  have HKI := Lib.hid h.2.2
  obtain ⟨⟨-, -, an, cn, rfl, hln, hmn, -⟩, ⟨-, -, -, ad, cd, rfl, hld, hmd, -⟩, ak, c, rfl, hl, hm, -⟩ := h
  unfold maxLen at hmn hm hmd
  show Calls Try.prog 43 #[.agg #[.int .i64 7, .string nm, .slice an ns.length cn, .int .i64 ck, .int .i64 ci, .string cs, .slice ad cl.length cd, .slice ak l.length c]] w _
  have hz0 := heap_alloc_new w (.cells #[.int .i64 7, .string nm, .slice an ns.length cn, .int .i64 ck, .int .i64 ci, .string cs, .slice ad cl.length cd, .slice ak l.length c] 28)
  have hb0 : Below w.heap.size w (w.alloc (.cells #[.int .i64 7, .string nm, .slice an ns.length cn, .int .i64 ck, .int .i64 ci, .string cs, .slice ad cl.length cd, .slice ak l.length c] 28)) := (Below.refl _ _).alloc (Nat.le_refl _) _
  generalize hw0 : w.alloc (.cells #[.int .i64 7, .string nm, .slice an ns.length cn, .int .i64 ck, .int .i64 ci, .string cs, .slice ad cl.length cd, .slice ak l.length c] 28) = w0 at *
  have HW0 := Lib.hid hw0
  have HB0 := Lib.hid hb0
  have HZ0 := Lib.hid hz0
  have hz0l := lt_of_block hz0
  have CC : Hid (∀ W, Below w0.heap.size w0 W → W.heap[w.heap.size]? = some (.cells #[.int .i64 7, .string nm, .slice an ns.length cn, .int .i64 ck, .int .i64 ci, .string cs, .slice ad cl.length cd, .slice ak l.length c] 28)) := Lib.hid fun W hW => (hW.block w.heap.size (lt_of_block HZ0.out)).trans HZ0.out
  clear hw0 hb0 hz0
  have KSA : Hid (∀ W, Below w.heap.size w W → Calls Try.prog 33 #[.agg #[.int .i64 ck, .int .i64 ci, .string cs, .slice ad cl.length cd], .agg #[.int .i64 0, .int .i64 0, .string ⟨#[]⟩, .slice none 0 0]] W fun e w' => e = .returned (.bool (sameB (.mk ck ci cs cl) PT0)) ∧ Below W.heap.size W w') := Lib.hid fun W hW =>
    Dat.same_any (.mk ck ci cs cl) PT0 W W.heap.size (.slice ad cl.length cd) (.slice none 0 0) (HI.out.const hW) ⟨by constructor <;> decide, by constructor <;> decide, by decide, none, 0, rfl, Nat.le_refl _, Nat.zero_le _, fun _ => rfl, .inl rfl⟩ (Nat.le_refl _)
  have KN : Hid (∀ W, Below w.heap.size w W → Calls Try.prog 56 #[.slice an ns.length cn] W fun e w' => e = .returned (.bool (namesB ns)) ∧ Below W.heap.size W w') := Lib.hid fun W hW => rnames_any ns S _ W (HNI.out.below hW)
  have KR : Hid (∀ W, Calls Try.prog 57 #[.string nm] W fun e w' => e = .returned (.bool (nameB nm.data.toList)) ∧ W = w') := Lib.hid fun W => (rname_any nm W HNM.out).mono fun _ _ h => h
  have KA : Hid (∀ W, Calls Try.prog 58 #[.string nm] W fun e w' => e = .returned (.int .i64 (arityT nm.data.toList)) ∧ W = w') := Lib.hid fun W => ra_any nm W
  rw [hsc] at KSA
  have HSC := Lib.hid hsc
  clear hsc
  rw [hnb] at KN
  have HR : Hid (formE (.mk 7 nm ns (.mk ck ci cs cl) l) = (decide (ns.length = 0) && decide ((l.length : Int) = arityT nm.data.toList))) := Lib.hid (by rw [Bool.eq_iff_iff]; simp [formE, fieldsB, nameOkB, namesOkB, constOkB, kidsB, HSC.out]; constructor <;> intro h <;> (first | exact ⟨h.2.2, h.1⟩ | exact ⟨h.2, by omega, h.1⟩))
  clear hnb
  clear HI HNI HKI
  generalize formE (.mk 7 nm ns (.mk ck ci cs cl) l) = r at *
  generalize ns.length = n' at *
  generalize l.length = n at *
  generalize nameB nm.data.toList = nn at *
  generalize arityT nm.data.toList = ar at *
  by_cases hn0 : n' = 0
  · have hnq : ((n' : Int) == 0) = true := by simp [hn0]
    have HN0 := Lib.hid hn0
    clear hn0
    go_enter Try.func43, Try.ntmps43
    go_wp2_with fail
    rw [HW0.out]
    refine (KSA.out _ HB0.out).mono ?_
    rintro e w1 ⟨rfl, hb1⟩
    have HB1 := Lib.hid (HB0.out.trans (hb1.mono HB0.out.size))
    have HB1' := Lib.hid hb1
    have z1 := CC.out _ hb1
    obtain ⟨d0, d1, d2, d3, d4, d5, d6, d7⟩ := look8r z1
    clear hb1 z1
    go_wp2_with fail
    refine (KN.out _ HB1.out).mono ?_
    rintro e w2 ⟨rfl, hb2⟩
    have HB2 := Lib.hid (HB1.out.trans (hb2.mono HB1.out.size))
    have z2 := CC.out _ (HB1'.out.trans (hb2.mono HB1'.out.size))
    clear hb2 d0 d1 d2 d3 d4 d5 d6 d7
    obtain ⟨d0, d1, d2, d3, d4, d5, d6, d7⟩ := look8r z2
    clear z2
    go_wp2_with fail
    refine (KR.out _).mono ?_
    rintro e w3 ⟨rfl, rfl⟩
    go_wp2_with fail
    all_goals
      refine (KA.out _).mono ?_
      rintro e w4 ⟨rfl, rfl⟩
      go_wp2
      all_goals
        go_ret
        refine ⟨ret_bool ?_, HB2.out⟩
        rw [HR.out]
        have hn0 := HN0.out
        rw [Bool.eq_iff_iff]
        first | (simp [*]; done) | (simp [*]; intros; omega) | (simp [*]; omega)
  have hnq : ((n' : Int) == 0) = false := by simpa using hn0
  go_enter Try.func43, Try.ntmps43
  go_wp2_with fail
  rw [HW0.out]
  refine (KSA.out _ HB0.out).mono ?_
  rintro e w1 ⟨rfl, hb1⟩
  have HB1 := Lib.hid (HB0.out.trans (hb1.mono HB0.out.size))
  have HB1' := Lib.hid hb1
  have z1 := CC.out _ hb1
  obtain ⟨d0, d1, d2, d3, d4, d5, d6, d7⟩ := look8r z1
  clear hb1 z1
  go_wp2_with fail
  refine (KN.out _ HB1.out).mono ?_
  rintro e w2 ⟨rfl, hb2⟩
  have HB2 := Lib.hid (HB1.out.trans (hb2.mono HB1.out.size))
  have z2 := CC.out _ (HB1'.out.trans (hb2.mono HB1'.out.size))
  clear hb2 d0 d1 d2 d3 d4 d5 d6 d7
  obtain ⟨d0, d1, d2, d3, d4, d5, d6, d7⟩ := look8r z2
  clear z2
  go_wp2_with fail
  refine (KR.out _).mono ?_
  rintro e w3 ⟨rfl, rfl⟩
  go_wp2
  all_goals
    go_ret
    refine ⟨ret_bool ?_, HB2.out⟩
    rw [HR.out]
    rw [Bool.eq_iff_iff]
    first | (simp [*]; done) | (simp [*]; intros; omega) | (simp [*]; omega)
set_option maxHeartbeats 4000000 in
theorem rform_10 (nm : ByteArray) (ns : List ByteArray) (ck ci : Int) (cs : ByteArray) (cl : List PT) (l : List PE) (S : Nat → Prop) (vn vd vk : Value) (w : World) (h : InF w S (.mk 10 nm ns (.mk ck ci cs cl) l) vn vd vk) :
    Calls Try.prog 43 #[(PE.mk 10 nm ns (.mk ck ci cs cl) l).val vn vd vk] w fun e w' => e = .returned (.bool (formE (.mk 10 nm ns (.mk ck ci cs cl) l))) ∧ Below w.heap.size w w' := by
  by_cases hsc : sameB (.mk ck ci cs cl) PT0 = false
  · exact rform_sc 10 (by decide) nm ns ck ci cs cl l S vn vd vk w h hsc
  rw [Bool.not_eq_false] at hsc
  by_cases hnb : namesB ns = false
  · exact rform_nb 10 (by decide) nm ns ck ci cs cl l S vn vd vk w h hsc hnb
  rw [Bool.not_eq_false] at hnb
  have HI := Lib.hid h
  have HNM := Lib.hid h.1.2.1
  have HNI := Lib.hid h.1.2.2
  have HKI := Lib.hid h.2.2
  obtain ⟨⟨-, -, an, cn, rfl, hln, hmn, -⟩, ⟨-, -, -, ad, cd, rfl, hld, hmd, -⟩, ak, c, rfl, hl, hm, -⟩ := h
  unfold maxLen at hmn hm hmd
  show Calls Try.prog 43 #[.agg #[.int .i64 10, .string nm, .slice an ns.length cn, .int .i64 ck, .int .i64 ci, .string cs, .slice ad cl.length cd, .slice ak l.length c]] w _
  have hz0 := heap_alloc_new w (.cells #[.int .i64 10, .string nm, .slice an ns.length cn, .int .i64 ck, .int .i64 ci, .string cs, .slice ad cl.length cd, .slice ak l.length c] 28)
  have hb0 : Below w.heap.size w (w.alloc (.cells #[.int .i64 10, .string nm, .slice an ns.length cn, .int .i64 ck, .int .i64 ci, .string cs, .slice ad cl.length cd, .slice ak l.length c] 28)) := (Below.refl _ _).alloc (Nat.le_refl _) _
  generalize hw0 : w.alloc (.cells #[.int .i64 10, .string nm, .slice an ns.length cn, .int .i64 ck, .int .i64 ci, .string cs, .slice ad cl.length cd, .slice ak l.length c] 28) = w0 at *
  have HW0 := Lib.hid hw0
  have HB0 := Lib.hid hb0
  have HZ0 := Lib.hid hz0
  have hz0l := lt_of_block hz0
  have CC : Hid (∀ W, Below w0.heap.size w0 W → W.heap[w.heap.size]? = some (.cells #[.int .i64 10, .string nm, .slice an ns.length cn, .int .i64 ck, .int .i64 ci, .string cs, .slice ad cl.length cd, .slice ak l.length c] 28)) := Lib.hid fun W hW => (hW.block w.heap.size (lt_of_block HZ0.out)).trans HZ0.out
  clear hw0 hb0 hz0
  have KSA : Hid (∀ W, Below w.heap.size w W → Calls Try.prog 33 #[.agg #[.int .i64 ck, .int .i64 ci, .string cs, .slice ad cl.length cd], .agg #[.int .i64 0, .int .i64 0, .string ⟨#[]⟩, .slice none 0 0]] W fun e w' => e = .returned (.bool (sameB (.mk ck ci cs cl) PT0)) ∧ Below W.heap.size W w') := Lib.hid fun W hW =>
    Dat.same_any (.mk ck ci cs cl) PT0 W W.heap.size (.slice ad cl.length cd) (.slice none 0 0) (HI.out.const hW) ⟨by constructor <;> decide, by constructor <;> decide, by decide, none, 0, rfl, Nat.le_refl _, Nat.zero_le _, fun _ => rfl, .inl rfl⟩ (Nat.le_refl _)
  have KN : Hid (∀ W, Below w.heap.size w W → Calls Try.prog 56 #[.slice an ns.length cn] W fun e w' => e = .returned (.bool (namesB ns)) ∧ Below W.heap.size W w') := Lib.hid fun W hW => rnames_any ns S _ W (HNI.out.below hW)
  have KR : Hid (∀ W, Calls Try.prog 57 #[.string nm] W fun e w' => e = .returned (.bool (nameB nm.data.toList)) ∧ W = w') := Lib.hid fun W => (rname_any nm W HNM.out).mono fun _ _ h => h
  rw [hsc] at KSA
  have HSC := Lib.hid hsc
  clear hsc
  rw [hnb] at KN
  have HR : Hid (formE (.mk 10 nm ns (.mk ck ci cs cl) l) = (decide (nm.toList = []) && decide (1 ≤ ns.length) && decide (l.length = ns.length + 1) && funsB (l.take ns.length))) := Lib.hid (by simp [formE, fieldsB, nameOkB, namesOkB, constOkB, kidsB, HSC.out, hnb, Bool.and_comm, Bool.and_left_comm, Bool.and_assoc])
  clear hnb
  generalize nameB nm.data.toList = nn at *
  have HKW : Hid (∀ W, Below w.heap.size w W → InK W S l (.slice ak l.length c)) := Lib.hid fun W hW => HKI.out.below hW
  clear HI HNI HKI
  by_cases h0 : nm.toList = [] ∧ 1 ≤ ns.length ∧ l.length = ns.length + 1
  rotate_left
  · have HR2 : Hid (formE (.mk 10 nm ns (.mk ck ci cs cl) l) = false) := Lib.hid (by
      rw [HR.out, Bool.eq_false_iff]
      intro h
      simp only [Bool.and_eq_true, decide_eq_true_eq] at h
      exact h0 ⟨h.1.1.1, h.1.1.2, h.1.2⟩)
    clear HR HKW
    generalize formE (.mk 10 nm ns (.mk ck ci cs cl) l) = r at *
    generalize ns.length = n' at *
    generalize l.length = n at *
    by_cases hq : (nm.toList == []) = true
    rotate_left
    · rw [Bool.not_eq_true] at hq
      have hqn : (nm.toList != []) = true := by simpa using hq
      clear h0
      go_enter Try.func43, Try.ntmps43
      go_wp2_with fail
      rw [HW0.out]
      refine (KSA.out _ HB0.out).mono ?_
      rintro e w1 ⟨rfl, hb1⟩
      have HB1 := Lib.hid (HB0.out.trans (hb1.mono HB0.out.size))
      have HB1' := Lib.hid hb1
      have z1 := CC.out _ hb1
      obtain ⟨d0, d1, d2, d3, d4, d5, d6, d7⟩ := look8r z1
      clear hb1 z1
      go_wp2_with fail
      refine (KN.out _ HB1.out).mono ?_
      rintro e w2 ⟨rfl, hb2⟩
      have HB2 := Lib.hid (HB1.out.trans (hb2.mono HB1.out.size))
      have z2 := CC.out _ (HB1'.out.trans (hb2.mono HB1'.out.size))
      clear hb2 d0 d1 d2 d3 d4 d5 d6 d7
      obtain ⟨d0, d1, d2, d3, d4, d5, d6, d7⟩ := look8r z2
      clear z2
      go_wp2_with fail
      refine (KR.out _).mono ?_
      rintro e w3 ⟨rfl, rfl⟩
      go_wp2
      all_goals
        go_ret
        exact ⟨ret_bool HR2.out.symm, HB2.out⟩
    have hq' : nm.toList = [] := by simpa using hq
    have hqn : (nm.toList != []) = false := by simpa using hq
    by_cases h1 : 1 ≤ n'
    rotate_left
    · obtain rfl : n' = 0 := by omega
      clear h0 h1 hq'
      go_enter Try.func43, Try.ntmps43
      go_wp2_with fail
      rw [HW0.out]
      refine (KSA.out _ HB0.out).mono ?_
      rintro e w1 ⟨rfl, hb1⟩
      have HB1 := Lib.hid (HB0.out.trans (hb1.mono HB0.out.size))
      have HB1' := Lib.hid hb1
      have z1 := CC.out _ hb1
      obtain ⟨d0, d1, d2, d3, d4, d5, d6, d7⟩ := look8r z1
      clear hb1 z1
      go_wp2_with fail
      refine (KN.out _ HB1.out).mono ?_
      rintro e w2 ⟨rfl, hb2⟩
      have HB2 := Lib.hid (HB1.out.trans (hb2.mono HB1.out.size))
      have z2 := CC.out _ (HB1'.out.trans (hb2.mono HB1'.out.size))
      clear hb2 d0 d1 d2 d3 d4 d5 d6 d7
      obtain ⟨d0, d1, d2, d3, d4, d5, d6, d7⟩ := look8r z2
      clear z2
      go_wp2_with fail
      refine (KR.out _).mono ?_
      rintro e w3 ⟨rfl, rfl⟩
      go_wp2
      all_goals
        go_ret
        exact ⟨ret_bool HR2.out.symm, HB2.out⟩
    by_cases hb : n' = 9223372036854775807
    · have hqw := wrap_top (n := n) (n' := n') hb
      have hqx : ((n : Int) != wrap64 ((n' : Int) + 1)) = true := by rw [bne, hqw]; rfl
      clear h0 hq' hb
      go_enter Try.func43, Try.ntmps43
      go_wp2_with fail
      rw [HW0.out]
      refine (KSA.out _ HB0.out).mono ?_
      rintro e w1 ⟨rfl, hb1⟩
      have HB1 := Lib.hid (HB0.out.trans (hb1.mono HB0.out.size))
      have HB1' := Lib.hid hb1
      have z1 := CC.out _ hb1
      obtain ⟨d0, d1, d2, d3, d4, d5, d6, d7⟩ := look8r z1
      clear hb1 z1
      go_wp2_with fail
      refine (KN.out _ HB1.out).mono ?_
      rintro e w2 ⟨rfl, hb2⟩
      have HB2 := Lib.hid (HB1.out.trans (hb2.mono HB1.out.size))
      have z2 := CC.out _ (HB1'.out.trans (hb2.mono HB1'.out.size))
      clear hb2 d0 d1 d2 d3 d4 d5 d6 d7
      obtain ⟨d0, d1, d2, d3, d4, d5, d6, d7⟩ := look8r z2
      clear z2
      go_wp2_with fail
      refine (KR.out _).mono ?_
      rintro e w3 ⟨rfl, rfl⟩
      go_wp2
      all_goals
        go_ret
        exact ⟨ret_bool HR2.out.symm, HB2.out⟩
    have hlt : n' < 9223372036854775807 := by omega
    have hq2 : ((n : Int) == (n' : Int) + 1) = false := by
      have : ¬ n = n' + 1 := fun e => h0 ⟨hq', h1, e⟩
      simp
      omega
    have hq3 : ((n : Int) != (n' : Int) + 1) = true := by rw [bne, hq2]; rfl
    clear h0 hb hq'
    go_enter Try.func43, Try.ntmps43
    go_wp2_with fail
    rw [HW0.out]
    refine (KSA.out _ HB0.out).mono ?_
    rintro e w1 ⟨rfl, hb1⟩
    have HB1 := Lib.hid (HB0.out.trans (hb1.mono HB0.out.size))
    have HB1' := Lib.hid hb1
    have z1 := CC.out _ hb1
    obtain ⟨d0, d1, d2, d3, d4, d5, d6, d7⟩ := look8r z1
    clear hb1 z1
    go_wp2_with fail
    refine (KN.out _ HB1.out).mono ?_
    rintro e w2 ⟨rfl, hb2⟩
    have HB2 := Lib.hid (HB1.out.trans (hb2.mono HB1.out.size))
    have z2 := CC.out _ (HB1'.out.trans (hb2.mono HB1'.out.size))
    clear hb2 d0 d1 d2 d3 d4 d5 d6 d7
    obtain ⟨d0, d1, d2, d3, d4, d5, d6, d7⟩ := look8r z2
    clear z2
    go_wp2_with fail
    refine (KR.out _).mono ?_
    rintro e w3 ⟨rfl, rfl⟩
    go_wp2
    all_goals
      go_ret
      exact ⟨ret_bool HR2.out.symm, HB2.out⟩
  obtain ⟨hq', h1, h2⟩ := h0
  have hq : (nm.toList == []) = true := by simpa using hq'
  have HR2 : Hid (formE (.mk 10 nm ns (.mk ck ci cs cl) l) = funsB (l.take ns.length)) := Lib.hid (by rw [HR.out]; simp [hq', h1, h2])
  have hlt : ns.length < 9223372036854775807 := by omega
  have hq2 : ((l.length : Int) == (ns.length : Int) + 1) = true := by simp [h2]
  have hq3 : ((l.length : Int) != (ns.length : Int) + 1) = false := by rw [bne, hq2]; rfl
  have hqn : (nm.toList != []) = false := by simpa using hq
  have HL2 := Lib.hid h2
  clear HR hq' h2
  generalize formE (.mk 10 nm ns (.mk ck ci cs cl) l) = r at *
  go_enter Try.func43, Try.ntmps43
  go_wp2_with fail
  rw [HW0.out]
  refine (KSA.out _ HB0.out).mono ?_
  rintro e w1 ⟨rfl, hb1⟩
  have HB1 := Lib.hid (HB0.out.trans (hb1.mono HB0.out.size))
  have HB1' := Lib.hid hb1
  have z1 := CC.out _ hb1
  obtain ⟨d0, d1, d2, d3, d4, d5, d6, d7⟩ := look8r z1
  clear hb1 z1
  go_wp2_with fail
  refine (KN.out _ HB1.out).mono ?_
  rintro e w2 ⟨rfl, hb2⟩
  have HB2 := Lib.hid (HB1.out.trans (hb2.mono HB1.out.size))
  have z2 := CC.out _ (HB1'.out.trans (hb2.mono HB1'.out.size))
  clear hb2 d0 d1 d2 d3 d4 d5 d6 d7
  obtain ⟨d0, d1, d2, d3, d4, d5, d6, d7⟩ := look8r z2
  have Z2H := Lib.hid z2
  clear z2
  go_wp2_with fail
  refine (KR.out _).mono ?_
  rintro e w3 ⟨rfl, rfl⟩
  go_wp2
  all_goals
    have BXX : Hid (∀ W, Below w2.heap.size w2 W → W.heap[w.heap.size]? = some (.cells #[.int .i64 10, .string nm, .slice an ns.length cn, .int .i64 ck, .int .i64 ci, .string cs, .slice ad cl.length cd, .slice ak l.length c] 28)) := Lib.hid fun W hW => (hW.block w.heap.size (lt_of_block Z2H.out)).trans Z2H.out
    go_loopw [7] (fun i wr => ∃ j : Nat, j ≤ ns.length ∧ i = .int .i64 j ∧ funsB (l.take j) = true ∧ Below w2.heap.size w2 wr) (fun i _ => ns.length - (intOf i).toNat)
    case atStart => exact ⟨0, Nat.zero_le _, rfl, by simp [funsB], Below.refl _ _⟩
    case round =>
      obtain ⟨j, hj, rfl, hok, hbr⟩ := hrel
      by_cases hlt2 : j < ns.length
      · have hltl : j < l.length := by have := HL2.out; omega
        have HBR := Lib.hid hbr
        obtain ⟨b, o, c', ea, _, _, hS1, hE1⟩ := (HKW.out wr (HB2.out.trans (hbr.mono HB2.out.size))).item j hltl
        cases ea
        have z3 := BXX.out _ hbr
        have e4 : wr.cell? ⟨w.heap.size, 7, none⟩ = some (.slice (some ⟨b, o, none⟩) l.length c) := by rw [Lib.cell_of_heap z3]; rfl
        have HTK : Hid (funsB (l.take (j + 1)) = decide (l[j].kind = 5)) := Lib.hid (funs_take hltl hok)
        have HNO : Hid (l[j].kind ≠ 5 → funsB (l.take ns.length) = false) := Lib.hid fun h => by
          have h1 : j < (l.take ns.length).length := by rw [List.length_take]; omega
          exact funs_no h1 (by rw [List.getElem_take]; exact h)
        clear z3 hok hbr
        generalize l[j] = t at hE1 HTK HNO
        obtain ⟨tk, tn, tns, ⟨tck, tci, tcs, tcl⟩, tl⟩ := t
        obtain ⟨tvn, tvd, tvk, hF1, a0, a1, a2, a3, a4, a5, a6, a7⟩ := hE1.cells
        clear hE1 hF1
        by_cases hk5 : tk = 5
        · subst hk5
          have HN := Lib.hid (show funsB (l.take (j + 1)) = true from by rw [HTK.out]; rfl)
          clear HTK HNO
          go_wp2
          go_roundw
          case rel => exact ⟨j + 1, by omega, by go_num, HN.out, HBR.out⟩
          case measure => simp [intOf]; omega
        · have hk6 : (tk != 5) = true := by simpa using hk5
          have HR3 := Lib.hid (HR2.out.trans (HNO.out hk5))
          clear hk5 HTK HNO
          go_wp2
          go_ret
          exact ⟨ret_bool HR3.out.symm, HB2.out.trans (HBR.out.mono HB2.out.size)⟩
      · obtain rfl : j = ns.length := by omega
        have HR3 := Lib.hid (HR2.out.trans hok)
        have HBR := Lib.hid hbr
        clear hok
        go_wp2
        go_ret
        exact ⟨ret_bool HR3.out.symm, HB2.out.trans (HBR.out.mono HB2.out.size)⟩
set_option maxHeartbeats 2000000 in
theorem rform_0 (nm : ByteArray) (ns : List ByteArray) (ck ci : Int) (cs : ByteArray) (cl : List PT) (l : List PE) (S : Nat → Prop) (vn vd vk : Value) (w : World) (h : InF w S (.mk 0 nm ns (.mk ck ci cs cl) l) vn vd vk) :
    Calls Try.prog 43 #[(PE.mk 0 nm ns (.mk ck ci cs cl) l).val vn vd vk] w fun e w' => e = .returned (.bool (formE (.mk 0 nm ns (.mk ck ci cs cl) l))) ∧ Below w.heap.size w w' := by
  have HI := Lib.hid h
  have HNM := Lib.hid h.1.2.1
  have HNI := Lib.hid h.1.2.2
  have HKI := Lib.hid h.2.2
  obtain ⟨⟨-, -, an, cn, rfl, hln, hmn, -⟩, ⟨-, -, -, ad, cd, rfl, hld, hmd, -⟩, ak, c, rfl, hl, hm, -⟩ := h
  unfold maxLen at hmn hm hmd
  show Calls Try.prog 43 #[.agg #[.int .i64 0, .string nm, .slice an ns.length cn, .int .i64 ck, .int .i64 ci, .string cs, .slice ad cl.length cd, .slice ak l.length c]] w _
  have hz0 := heap_alloc_new w (.cells #[.int .i64 0, .string nm, .slice an ns.length cn, .int .i64 ck, .int .i64 ci, .string cs, .slice ad cl.length cd, .slice ak l.length c] 28)
  have hb0 : Below w.heap.size w (w.alloc (.cells #[.int .i64 0, .string nm, .slice an ns.length cn, .int .i64 ck, .int .i64 ci, .string cs, .slice ad cl.length cd, .slice ak l.length c] 28)) := (Below.refl _ _).alloc (Nat.le_refl _) _
  generalize hw0 : w.alloc (.cells #[.int .i64 0, .string nm, .slice an ns.length cn, .int .i64 ck, .int .i64 ci, .string cs, .slice ad cl.length cd, .slice ak l.length c] 28) = w0 at *
  have HW0 := Lib.hid hw0
  have HB0 := Lib.hid hb0
  have HZ0 := Lib.hid hz0
  have hz0l := lt_of_block hz0
  have CC : Hid (∀ W, Below w0.heap.size w0 W → W.heap[w.heap.size]? = some (.cells #[.int .i64 0, .string nm, .slice an ns.length cn, .int .i64 ck, .int .i64 ci, .string cs, .slice ad cl.length cd, .slice ak l.length c] 28)) := Lib.hid fun W hW => (hW.block w.heap.size (lt_of_block HZ0.out)).trans HZ0.out
  clear hw0 hb0 hz0
  have KCN : Hid (∀ W, Below w.heap.size w W → Calls Try.prog 55 #[.agg #[.int .i64 ck, .int .i64 ci, .string cs, .slice ad cl.length cd]] W fun e w' => e = .returned (.bool (constB (.mk ck ci cs cl))) ∧ Below W.heap.size W w') := Lib.hid fun W hW => rconst_any ck ci cs cl (.slice ad cl.length cd) W (HI.out.const hW)
  have HR : Hid (formE (.mk 0 nm ns (.mk ck ci cs cl) l) = (decide (nm.toList = []) && decide (ns.length = 0) && decide (l.length = 0) && constB (.mk ck ci cs cl))) := Lib.hid (by simp [formE, fieldsB, nameOkB, namesOkB, constOkB, kidsB, Bool.and_comm, Bool.and_left_comm, Bool.and_assoc])
  clear HI HNI HKI
  generalize formE (.mk 0 nm ns (.mk ck ci cs cl) l) = r at *
  generalize constB (.mk ck ci cs cl) = rc at *
  generalize ns.length = n' at *
  generalize l.length = n at *
  by_cases h0 : nm.toList = [] ∧ n' = 0 ∧ n = 0
  · obtain ⟨h1, rfl, rfl⟩ := h0
    have HR2 : Hid (r = rc) := Lib.hid (by rw [HR.out, h1]; simp)
    have hq : (nm.toList == []) = true := by simp [h1]
    clear h1
    go_enter Try.func43, Try.ntmps43
    go_wp2_with fail
    rw [HW0.out]
    refine (KCN.out _ HB0.out).mono ?_
    rintro e w1 ⟨rfl, hb1⟩
    have HB1 := Lib.hid (HB0.out.trans (hb1.mono HB0.out.size))
    clear hb1
    go_wp2
    go_ret
    exact ⟨ret_bool HR2.out.symm, HB1.out⟩
  have HR2 : Hid (r = false) := Lib.hid (by
    rw [HR.out, Bool.eq_false_iff]
    intro h
    simp only [Bool.and_eq_true, decide_eq_true_eq] at h
    exact h0 ⟨h.1.1.1, h.1.1.2, h.1.2⟩)
  by_cases hq : (nm.toList == []) = true
  · by_cases h1 : n' = 0
    · subst h1
      have h2 : ¬ n = 0 := fun h2 => h0 ⟨by simpa using hq, rfl, h2⟩
      have hq2 : ((n : Int) == 0) = false := by simpa using h2
      clear h0 h2
      go_enter Try.func43, Try.ntmps43
      go_wp2
      go_ret
      exact ⟨ret_bool HR2.out.symm, by rw [HW0.out]; exact HB0.out⟩
    · have hq2 : ((n' : Int) == 0) = false := by simpa using h1
      clear h0 h1
      go_enter Try.func43, Try.ntmps43
      go_wp2
      go_ret
      exact ⟨ret_bool HR2.out.symm, by rw [HW0.out]; exact HB0.out⟩
  · rw [Bool.not_eq_true] at hq
    clear h0
    go_enter Try.func43, Try.ntmps43
    go_wp2
    go_ret
    exact ⟨ret_bool HR2.out.symm, by rw [HW0.out]; exact HB0.out⟩
theorem nokids {k : Int} {nm : ByteArray} {n : Nat} {l : List PE} (hk : k < 0 ∨ 10 < k) : kidsB k nm n l = false := by
  unfold kidsB
  repeat (rw [if_neg (by omega)])
set_option maxHeartbeats 2000000 in
theorem rform_no (k : Int) (hk : k < 0 ∨ 10 < k) (nm : ByteArray) (ns : List ByteArray) (ck ci : Int) (cs : ByteArray) (cl : List PT) (l : List PE) (S : Nat → Prop) (vn vd vk : Value) (w : World) (h : InF w S (.mk k nm ns (.mk ck ci cs cl) l) vn vd vk) :
    Calls Try.prog 43 #[(PE.mk k nm ns (.mk ck ci cs cl) l).val vn vd vk] w fun e w' => e = .returned (.bool (formE (.mk k nm ns (.mk ck ci cs cl) l))) ∧ Below w.heap.size w w' := by
  by_cases hsc : sameB (.mk ck ci cs cl) PT0 = false
  · exact rform_sc k (by omega) nm ns ck ci cs cl l S vn vd vk w h hsc
  rw [Bool.not_eq_false] at hsc
  by_cases hnb : namesB ns = false
  · exact rform_nb k (by omega) nm ns ck ci cs cl l S vn vd vk w h hsc hnb
  rw [Bool.not_eq_false] at hnb
  have HI := Lib.hid h
  have HNM := Lib.hid h.1.2.1
  have HNI := Lib.hid h.1.2.2
  have HKI := Lib.hid h.2.2
  obtain ⟨⟨-, -, an, cn, rfl, hln, hmn, -⟩, ⟨-, -, -, ad, cd, rfl, hld, hmd, -⟩, ak, c, rfl, hl, hm, -⟩ := h
  unfold maxLen at hmn hm hmd
  show Calls Try.prog 43 #[.agg #[.int .i64 k, .string nm, .slice an ns.length cn, .int .i64 ck, .int .i64 ci, .string cs, .slice ad cl.length cd, .slice ak l.length c]] w _
  have hz0 := heap_alloc_new w (.cells #[.int .i64 k, .string nm, .slice an ns.length cn, .int .i64 ck, .int .i64 ci, .string cs, .slice ad cl.length cd, .slice ak l.length c] 28)
  have hb0 : Below w.heap.size w (w.alloc (.cells #[.int .i64 k, .string nm, .slice an ns.length cn, .int .i64 ck, .int .i64 ci, .string cs, .slice ad cl.length cd, .slice ak l.length c] 28)) := (Below.refl _ _).alloc (Nat.le_refl _) _
  generalize hw0 : w.alloc (.cells #[.int .i64 k, .string nm, .slice an ns.length cn, .int .i64 ck, .int .i64 ci, .string cs, .slice ad cl.length cd, .slice ak l.length c] 28) = w0 at *
  have HW0 := Lib.hid hw0
  have HB0 := Lib.hid hb0
  have HZ0 := Lib.hid hz0
  have hz0l := lt_of_block hz0
  have CC : Hid (∀ W, Below w0.heap.size w0 W → W.heap[w.heap.size]? = some (.cells #[.int .i64 k, .string nm, .slice an ns.length cn, .int .i64 ck, .int .i64 ci, .string cs, .slice ad cl.length cd, .slice ak l.length c] 28)) := Lib.hid fun W hW => (hW.block w.heap.size (lt_of_block HZ0.out)).trans HZ0.out
  clear hw0 hb0 hz0
  have b0 : (k == 0) = false := by simp; omega
  have b1 : (k == 1) = false := by simp; omega
  have b2 : (k == 2) = false := by simp; omega
  have b3 : (k == 3) = false := by simp; omega
  have b4 : (k == 4) = false := by simp; omega
  have b5 : (k == 5) = false := by simp; omega
  have b6 : (k == 6) = false := by simp; omega
  have b7 : (k == 7) = false := by simp; omega
  have b8 : (k == 8) = false := by simp; omega
  have b9 : (k == 9) = false := by simp; omega
  have b10 : (k == 10) = false := by simp; omega
  have HF : Hid (formE (.mk k nm ns (.mk ck ci cs cl) l) = false) := Lib.hid (by rw [formE, nokids hk]; rfl)
  clear hk
  have KSA : Hid (∀ W, Below w.heap.size w W → Calls Try.prog 33 #[.agg #[.int .i64 ck, .int .i64 ci, .string cs, .slice ad cl.length cd], .agg #[.int .i64 0, .int .i64 0, .string ⟨#[]⟩, .slice none 0 0]] W fun e w' => e = .returned (.bool (sameB (.mk ck ci cs cl) PT0)) ∧ Below W.heap.size W w') := Lib.hid fun W hW =>
    Dat.same_any (.mk ck ci cs cl) PT0 W W.heap.size (.slice ad cl.length cd) (.slice none 0 0) (HI.out.const hW) ⟨by constructor <;> decide, by constructor <;> decide, by decide, none, 0, rfl, Nat.le_refl _, Nat.zero_le _, fun _ => rfl, .inl rfl⟩ (Nat.le_refl _)
  have KN : Hid (∀ W, Below w.heap.size w W → Calls Try.prog 56 #[.slice an ns.length cn] W fun e w' => e = .returned (.bool (namesB ns)) ∧ Below W.heap.size W w') := Lib.hid fun W hW => rnames_any ns S _ W (HNI.out.below hW)
  have KR : Hid (∀ W, Calls Try.prog 57 #[.string nm] W fun e w' => e = .returned (.bool (nameB nm.data.toList)) ∧ W = w') := Lib.hid fun W => (rname_any nm W HNM.out).mono fun _ _ h => h
  generalize formE (.mk k nm ns (.mk ck ci cs cl) l) = r at *
  rw [hsc] at KSA
  rw [hnb] at KN
  clear hsc hnb
  clear HI HNI HKI
  generalize ns.length = n' at *
  generalize l.length = n at *
  generalize nameB nm.data.toList = nn at *
  go_enter Try.func43, Try.ntmps43
  go_wp2_with fail
  rw [HW0.out]
  refine (KSA.out _ HB0.out).mono ?_
  rintro e w1 ⟨rfl, hb1⟩
  have HB1 := Lib.hid (HB0.out.trans (hb1.mono HB0.out.size))
  have HB1' := Lib.hid hb1
  have z1 := CC.out _ hb1
  obtain ⟨d0, d1, d2, d3, d4, d5, d6, d7⟩ := look8r z1
  clear hb1 z1
  go_wp2_with fail
  refine (KN.out _ HB1.out).mono ?_
  rintro e w2 ⟨rfl, hb2⟩
  have HB2 := Lib.hid (HB1.out.trans (hb2.mono HB1.out.size))
  have z2 := CC.out _ (HB1'.out.trans (hb2.mono HB1'.out.size))
  clear hb2 d0 d1 d2 d3 d4 d5 d6 d7
  obtain ⟨d0, d1, d2, d3, d4, d5, d6, d7⟩ := look8r z2
  clear z2
  go_wp2_with fail
  refine (KR.out _).mono ?_
  rintro e w3 ⟨rfl, rfl⟩
  go_wp2
  all_goals
    go_ret
    exact ⟨ret_bool HF.out.symm, HB2.out⟩
theorem rform_any (k : Int) (nm : ByteArray) (ns : List ByteArray) (ck ci : Int) (cs : ByteArray) (cl : List PT) (l : List PE) (S : Nat → Prop) (vn vd vk : Value) (w : World) (h : InF w S (.mk k nm ns (.mk ck ci cs cl) l) vn vd vk) :
    Calls Try.prog 43 #[(PE.mk k nm ns (.mk ck ci cs cl) l).val vn vd vk] w fun e w' => e = .returned (.bool (formE (.mk k nm ns (.mk ck ci cs cl) l))) ∧ Below w.heap.size w w' := by
  rcases kind_or k with rfl | rfl | rfl | rfl | rfl | rfl | rfl | rfl | rfl | rfl | rfl | hk
  · exact rform_0 nm ns ck ci cs cl l S vn vd vk w h
  · exact rform_1 nm ns ck ci cs cl l S vn vd vk w h
  · exact rform_2 nm ns ck ci cs cl l S vn vd vk w h
  · exact rform_3 nm ns ck ci cs cl l S vn vd vk w h
  · exact rform_4 nm ns ck ci cs cl l S vn vd vk w h
  · exact rform_5 nm ns ck ci cs cl l S vn vd vk w h
  · exact rform_6 nm ns ck ci cs cl l S vn vd vk w h
  · exact rform_7 nm ns ck ci cs cl l S vn vd vk w h
  · exact rform_8 nm ns ck ci cs cl l S vn vd vk w h
  · exact rform_9 nm ns ck ci cs cl l S vn vd vk w h
  · exact rform_10 nm ns ck ci cs cl l S vn vd vk w h
  · exact rform_no k hk nm ns ck ci cs cl l S vn vd vk w h
end Go.Proofs.Ytkgofgkgnchhjaa.Core

/-
What is wrong first in an expression: the document's Check, for every expression. No condition.
-/
namespace Go.Proofs.Ytkgofgkgnchhjaa.Core
open Go.ChangeShapes Go.WideShapes Go.ChangeAt Go.RowKit Go.Deep
open Dat (PT ok64 RepV RepS)
set_option maxRecDepth 100000

theorem ret2_i64 {a b a' b' : Int} (h : a = a') (h2 : b = b') : Ending.returned (.tuple #[.int .i64 a, .int .i64 b]) = .returned (.tuple #[.int .i64 a', .int .i64 b']) := by rw [h, h2]
def RChkOk (t : PE) : Prop := ∀ (w : World) (S : Nat → Prop) (n deep : Nat) (vn vd vk : Value), InF w S t vn vd vk → n ≤ 4096 → deep ≤ 250 →
  Calls Try.prog 31 #[t.val vn vd vk, .int .i64 (deep : Int), .int .i64 (n : Int)] w fun e w' =>
    e = .returned (.tuple #[.int .i64 ((chkE deep n t).1 : Int), .int .i64 (chkE deep n t).2]) ∧ Below w.heap.size w w'
set_option maxHeartbeats 2000000 in
theorem rchk_step (k : Int) (nm : ByteArray) (ns : List ByteArray) (ck ci : Int) (cs : ByteArray) (cl : List PT) (l : List PE) (ih : ∀ t ∈ l, RChkOk t) : RChkOk (.mk k nm ns (.mk ck ci cs cl) l) := by
  intro w S n deep vn vd vk h hn hd
  have HI := Lib.hid h
  have HK := Lib.hid h.2.2
  have IH := Lib.hid ih
  obtain ⟨⟨-, -, an, cn, rfl, hln, hmn, -⟩, ⟨-, -, -, ad, cd, rfl, hld, hmd, -⟩, ak, c, rfl, hl, hm, -⟩ := h
  unfold maxLen at hmn hm hmd
  show Calls Try.prog 31 #[.agg #[.int .i64 k, .string nm, .slice an ns.length cn, .int .i64 ck, .int .i64 ci, .string cs, .slice ad cl.length cd, .slice ak l.length c], .int .i64 (deep : Int), .int .i64 (n : Int)] w _
  have hz0 := heap_alloc_new w (.cells #[.int .i64 k, .string nm, .slice an ns.length cn, .int .i64 ck, .int .i64 ci, .string cs, .slice ad cl.length cd, .slice ak l.length c] 28)
  have hb0 : Below w.heap.size w (w.alloc (.cells #[.int .i64 k, .string nm, .slice an ns.length cn, .int .i64 ck, .int .i64 ci, .string cs, .slice ad cl.length cd, .slice ak l.length c] 28)) := (Below.refl _ _).alloc (Nat.le_refl _) _
  generalize hw0 : w.alloc (.cells #[.int .i64 k, .string nm, .slice an ns.length cn, .int .i64 ck, .int .i64 ci, .string cs, .slice ad cl.length cd, .slice ak l.length c] 28) = w0 at *
  have HW0 := Lib.hid hw0
  have HB0 := Lib.hid hb0
  have HZ0 := Lib.hid hz0
  have KF : Hid (∀ W, Below w.heap.size w W → Calls Try.prog 43 #[.agg #[.int .i64 k, .string nm, .slice an ns.length cn, .int .i64 ck, .int .i64 ci, .string cs, .slice ad cl.length cd, .slice ak l.length c]] W fun e w' => e = .returned (.bool (formE (.mk k nm ns (.mk ck ci cs cl) l))) ∧ Below W.heap.size W w') := Lib.hid fun W hW => rform_any k nm ns ck ci cs cl l S _ _ _ W (HI.out.below hW)
  have BOX : Hid (∀ W, Below w0.heap.size w0 W → W.heap[w.heap.size]? = some (.cells #[.int .i64 k, .string nm, .slice an ns.length cn, .int .i64 ck, .int .i64 ci, .string cs, .slice ad cl.length cd, .slice ak l.length c] 28)) := Lib.hid fun W hb => (hb.block _ (lt_of_block HZ0.out)).trans HZ0.out
  clear ih hw0 hz0 hb0
  by_cases h1 : n = 4096
  · subst h1
    have HR : Hid (chkE deep 4096 (.mk k nm ns (.mk ck ci cs cl) l) = (4096, 62)) := Lib.hid (by rw [chkE, if_pos rfl])
    go_enter Try.func31, Try.ntmps31
    go_wp2
    go_ret2
    exact ⟨by rw [HR.out]; rfl, by rw [HW0.out]; exact HB0.out⟩
  have hn' : ((n : Int) == 4096) = false := by simp; omega
  by_cases h2 : deep = 250
  · subst h2
    have HR : Hid (chkE 250 n (.mk k nm ns (.mk ck ci cs cl) l) = (n + 1, 61)) := Lib.hid (by rw [chkE, if_neg h1, if_pos rfl])
    clear h1
    go_enter Try.func31, Try.ntmps31
    go_wp2
    go_ret2
    exact ⟨by rw [HR.out]; rfl, by rw [HW0.out]; exact HB0.out⟩
  have hd' : deep < 250 := by omega
  by_cases h3 : formE (.mk k nm ns (.mk ck ci cs cl) l) = true
  rotate_left
  · have HR : Hid (chkE deep n (.mk k nm ns (.mk ck ci cs cl) l) = (n + 1, 60)) := Lib.hid (by rw [chkE, if_neg h1, if_neg h2, if_neg h3])
    rw [Bool.not_eq_true] at h3
    rw [h3] at KF
    clear h1 h2 h3
    go_enter Try.func31, Try.ntmps31
    go_wp2_with fail
    rw [HW0.out]
    refine (KF.out _ HB0.out).mono ?_
    rintro e w1 ⟨rfl, hb1⟩
    have HB1 := Lib.hid (HB0.out.trans (hb1.mono HB0.out.size))
    clear hb1
    go_wp2
    go_ret2
    exact ⟨by rw [HR.out]; rfl, HB1.out⟩
  have HR : Hid (chkE deep n (.mk k nm ns (.mk ck ci cs cl) l) = chkEs (deep + 1) (n + 1) l) := Lib.hid (by rw [chkE, if_neg h1, if_neg h2, if_pos h3])
  rw [h3] at KF
  have hn1 : n + 1 ≤ 4096 := by omega
  have hd1 : deep + 1 ≤ 250 := by omega
  clear h3 h1 h2
  go_enter Try.func31, Try.ntmps31
  go_wp2_with fail
  rw [HW0.out]
  refine (KF.out _ HB0.out).mono ?_
  rintro e w1 ⟨rfl, hb1⟩
  have HB1 := Lib.hid (HB0.out.trans (hb1.mono HB0.out.size))
  have HZ1 := Lib.hid (BOX.out _ hb1)
  clear hb1
  go_wp2
  go_loopw [2, 8, 9] (fun s f i wr => ∃ j : Nat, j ≤ l.length ∧ i = .int .i64 j ∧ f = .int .i64 0 ∧ s = .int .i64 ((chkEs (deep + 1) (n + 1) (l.take j)).1 : Int) ∧ (chkEs (deep + 1) (n + 1) (l.take j)).2 = 0 ∧ Below w1.heap.size w1 wr)
    (fun _ _ i _ => l.length - (intOf i).toNat)
  case atStart => exact ⟨0, Nat.zero_le _, rfl, rfl, by rw [List.take_zero, chkEs]; rfl, by rw [List.take_zero, chkEs], Below.refl _ _⟩
  case round =>
    obtain ⟨j, hj, rfl, rfl, rfl, h0, hbr⟩ := hrel
    have H0 := Lib.hid h0
    have HBR := Lib.hid hbr
    have e7 : wr.cell? ⟨w.heap.size, 7, none⟩ = some (.slice ak l.length c) := by rw [Lib.cell_of_heap ((hbr.block w.heap.size (lt_of_block HZ1.out)).trans HZ1.out)]; rfl
    by_cases hlt' : j < l.length
    · obtain ⟨b, o, c', ea, _, _, hS1, hE1⟩ := (HK.out.below (HB1.out.trans (hbr.mono HB1.out.size))).item j hlt'
      cases ea
      have hle := chkEs_le (deep + 1) (n + 1) hn1 (l.take j)
      have hstep := chkEs_take (deep + 1) (n + 1) l j hlt' h0
      have hIHj := IH.out l[j] (List.getElem_mem hlt')
      have HS := Lib.hid hstep
      clear h0 hbr hstep
      generalize l[j] = t at hE1 hIHj HS
      obtain ⟨tk, tn, tns, ⟨tck, tci, tcs, tcl⟩, tl⟩ := t
      obtain ⟨tvn, tvd, tvk, hF1, a0, a1, a2, a3, a4, a5, a6, a7⟩ := hE1.cells
      have KC := Lib.hid (hIHj wr S (chkEs (deep + 1) (n + 1) (l.take j)).1 (deep + 1) tvn tvd tvk hF1 hle.2 hd1)
      rw [← HS.out] at KC
      obtain ⟨⟨_, _, hn1'⟩, ⟨_, _, _, hd1'⟩, hk1'⟩ := hF1
      obtain ⟨_, _, rfl, -⟩ := hn1'
      obtain ⟨_, _, rfl, -⟩ := hd1'
      obtain ⟨_, _, rfl, -⟩ := hk1'
      unfold PE.val at KC
      clear hE1 hIHj HS
      by_cases hz : (chkEs (deep + 1) (n + 1) (l.take (j + 1))).2 = 0
      · have HZ := Lib.hid hz
        rw [hz] at KC
        clear hz
        have hle1 := hle.2
        clear hle
        generalize hq0 : (chkEs (deep + 1) (n + 1) (l.take j)).1 = q0 at *
        generalize hq1 : (chkEs (deep + 1) (n + 1) (l.take (j + 1))).1 = q1 at *
        have HQ0 := Lib.hid hq0
        have HQ1 := Lib.hid hq1
        clear hq0 hq1
        go_wp2_with fail
        refine KC.out.mono ?_
        rintro e w3 ⟨rfl, hb3⟩
        have HB3 := Lib.hid (HBR.out.trans (hb3.mono HBR.out.size))
        clear hb3
        go_wp2
        go_roundw
        case rel => exact ⟨j + 1, by omega, by go_num, rfl, by rw [HQ1.out], HZ.out, HB3.out⟩
        case measure => simp [intOf]; omega
      · have HW := Lib.hid (chkEs_whole (deep + 1) (n + 1) l (j + 1) hz)
        have hzb : ((chkEs (deep + 1) (n + 1) (l.take (j + 1))).2 != 0) = true := by simpa using hz
        clear hz
        rw [← HW.out] at KC hzb
        rw [← HR.out] at KC hzb
        have hle1 := hle.2
        clear hle
        generalize hq : chkE deep n (.mk k nm ns (.mk ck ci cs cl) l) = q at KC hzb
        obtain ⟨qa, qb⟩ := q
        have HQ := Lib.hid hq
        clear hq
        generalize hq0 : (chkEs (deep + 1) (n + 1) (l.take j)).1 = q0 at *
        have HQ0 := Lib.hid hq0
        clear hq0
        have KC' : Hid (Calls Try.prog 31 #[.agg #[.int .i64 tk, .string tn, .slice _ tns.length _, .int .i64 tck, .int .i64 tci, .string tcs, .slice _ tcl.length _, .slice _ tl.length _], .int .i64 ((deep + 1 : Nat) : Int), .int .i64 (q0 : Int)] wr fun e w' => e = .returned (.tuple #[.int .i64 (qa : Int), .int .i64 qb]) ∧ Below wr.heap.size wr w') := KC
        have hzb' : (qb != 0) = true := hzb
        clear KC hzb
        go_wp2_with fail
        refine KC'.out.mono ?_
        rintro e w3 ⟨rfl, hb3⟩
        have HB3 := Lib.hid (HBR.out.trans (hb3.mono HBR.out.size))
        clear hb3
        go_wp2
        go_ret2
        exact ⟨ret2_i64 (by rw [HQ.out]) (by rw [HQ.out]), HB1.out.trans (HB3.out.mono HB1.out.size)⟩
    · obtain rfl : j = l.length := by omega
      have HFIN : Hid ((chkE deep n (.mk k nm ns (.mk ck ci cs cl) l)) = ((chkEs (deep + 1) (n + 1) (l.take l.length)).1, 0)) := Lib.hid (by rw [HR.out, ← h0, List.take_length])
      generalize (chkEs (deep + 1) (n + 1) (l.take l.length)).1 = q1 at *
      clear h0 hbr
      go_wp2
      go_ret2
      exact ⟨ret2_i64 (by rw [HFIN.out]) (by rw [HFIN.out]), HB1.out.trans (HBR.out.mono HB1.out.size)⟩
mutual
theorem rchk_any : ∀ t : PE, RChkOk t
  | .mk k nm ns (.mk ck ci cs cl) l => rchk_step k nm ns ck ci cs cl l (rchk_all l)
theorem rchk_all : ∀ l : List PE, ∀ t ∈ l, RChkOk t
  | [], t, h => by cases h
  | u :: l, t, h => (List.mem_cons.1 h).elim (fun e => e ▸ rchk_any u) (fun h => rchk_all l t h)
end
theorem rcheck_any (t : PE) (S : Nat → Prop) (vn vd vk : Value) (w : World) (h : InF w S t vn vd vk) :
    Calls Try.prog 18 #[t.val vn vd vk] w fun e w' => e = .returned (.int .i64 (checkE t)) ∧ Below w.heap.size w w' := by
  obtain ⟨k, nm, ns, ⟨ck, ci, cs, cl⟩, l⟩ := t
  have HI := Lib.hid h
  obtain ⟨⟨_, _, an, cn, rfl, _⟩, ⟨_, _, _, ad, cd, rfl, _⟩, ak, c, rfl, _⟩ := h
  show Calls Try.prog 18 #[.agg #[.int .i64 k, .string nm, .slice an ns.length cn, .int .i64 ck, .int .i64 ci, .string cs, .slice ad cl.length cd, .slice ak l.length c]] w _
  have HB := Lib.hid ((Below.refl w.heap.size w).alloc (Nat.le_refl _) (.cells #[.int .i64 k, .string nm, .slice an ns.length cn, .int .i64 ck, .int .i64 ci, .string cs, .slice ad cl.length cd, .slice ak l.length c] 28))
  have L : Hid (Calls Try.prog 31 #[.agg #[.int .i64 k, .string nm, .slice an ns.length cn, .int .i64 ck, .int .i64 ci, .string cs, .slice ad cl.length cd, .slice ak l.length c], .int .i64 0, .int .i64 0] (w.alloc (.cells #[.int .i64 k, .string nm, .slice an ns.length cn, .int .i64 ck, .int .i64 ci, .string cs, .slice ad cl.length cd, .slice ak l.length c] 28)) fun e w' => e = .returned (.tuple #[.int .i64 ((chkE 0 0 (.mk k nm ns (.mk ck ci cs cl) l)).1 : Int), .int .i64 (checkE (.mk k nm ns (.mk ck ci cs cl) l))]) ∧ Below (w.alloc (.cells #[.int .i64 k, .string nm, .slice an ns.length cn, .int .i64 ck, .int .i64 ci, .string cs, .slice ad cl.length cd, .slice ak l.length c] 28)).heap.size (w.alloc (.cells #[.int .i64 k, .string nm, .slice an ns.length cn, .int .i64 ck, .int .i64 ci, .string cs, .slice ad cl.length cd, .slice ak l.length c] 28)) w') := Lib.hid (rchk_any (.mk k nm ns (.mk ck ci cs cl) l) _ S 0 0 _ _ _ (HI.out.below HB.out) (by omega) (by omega))
  generalize (chkE 0 0 (.mk k nm ns (.mk ck ci cs cl) l)).1 = q0 at *
  generalize checkE (.mk k nm ns (.mk ck ci cs cl) l) = q1 at *
  clear HI
  go_enter Try.func18, Try.ntmps18
  go_wp2_with fail
  refine L.out.mono ?_
  rintro e w1 ⟨rfl, hb1⟩
  have HB1 := Lib.hid (HB.out.trans (hb1.mono HB.out.size))
  clear hb1
  go_wp2
  go_ret
  exact ⟨rfl, HB1.out⟩
end Go.Proofs.Ytkgofgkgnchhjaa.Core
