/-
Package core's datumOf and Data, for every expression. No condition.
-/
import Derived.Test.YtjofdlnopchaeaaGreatDoorK21
import Derived.Test.YtjofdlnopchaeaaGreatDoorK22
import Derived.Test.YtjofdlnopchaeaaGreatDoorK23
import Derived.Test.YtjofdlnopchaeaaGreatDoorWKQ
namespace Go.Proofs.YtjofdlnopchaeaaGreatDoor.Core
open Go.ChangeShapes Go.WideShapes Go.ChangeAt Go.RowKit Go.Deep
open Dat (PT ok64 RepV RepS RowX infoDatum NewV NewS NewD)
set_option maxRecDepth 100000

theorem kids_none {k : Int} {nm : ByteArray} {n : Nat} {l : List PE} (hk : k < 0 ∨ 10 < k) : kidsB k nm n l = false := by
  unfold kidsB
  simp only [show ¬(k = 0 ∨ k = 1) by omega, show ¬k = 2 by omega, show ¬k = 3 by omega, show ¬k = 4 by omega, show ¬k = 5 by omega, show ¬k = 6 by omega, show ¬k = 7 by omega, show ¬(k = 8 ∨ k = 9) by omega, show ¬k = 10 by omega, if_false]
theorem datum_step (k : Int) (nm : ByteArray) (ns : List ByteArray) (ck ci : Int) (cs : ByteArray) (cl : List PT) (l : List PE) (ih : ∀ t ∈ l, DatumOk t) : DatumOk (.mk k nm ns (.mk ck ci cs cl) l) := by
  intro w S vn vd vk h hS hok
  rcases kind_or k with rfl | rfl | rfl | rfl | rfl | rfl | rfl | rfl | rfl | rfl | rfl | hk
  · exact datum_0 nm ns ck ci cs cl l ih S vn vd vk w h hS hok
  · exact datum_1 nm ns ck ci cs cl l ih S vn vd vk w h hS hok
  · exact datum_2 nm ns ck ci cs cl l ih S vn vd vk w h hS hok
  · exact datum_3 nm ns ck ci cs cl l ih S vn vd vk w h hS hok
  · exact datum_4 nm ns ck ci cs cl l ih S vn vd vk w h hS hok
  · exact datum_5 nm ns ck ci cs cl l ih S vn vd vk w h hS hok
  · exact datum_6 nm ns ck ci cs cl l ih S vn vd vk w h hS hok
  · exact datum_7 nm ns ck ci cs cl l ih S vn vd vk w h hS hok
  · exact datum_8 nm ns ck ci cs cl l ih S vn vd vk w h hS hok
  · exact datum_9 nm ns ck ci cs cl l ih S vn vd vk w h hS hok
  · exact datum_10 nm ns ck ci cs cl l ih S vn vd vk w h hS hok
  · exfalso
    rw [okE] at hok
    have h1 : (kidsB k nm ns.length l && fieldsB k nm ns (.mk ck ci cs cl)) = true := hok.1
    rw [kids_none hk] at h1
    cases h1
mutual
theorem datum_any : ∀ t : PE, DatumOk t
  | .mk k nm ns (.mk ck ci cs cl) l => datum_step k nm ns ck ci cs cl l (datum_all l)
theorem datum_all : ∀ l : List PE, ∀ t ∈ l, DatumOk t
  | [], t, h => by cases h
  | u :: l, t, h => (List.mem_cons.1 h).elim (fun e => e ▸ datum_any u) (fun h => datum_all l t h)
end
theorem results_row_one {P : Program} {fn : Func} {t p : Tmp} {ty : TypeId} (h : fn.results = #[.cell p ty, .tmp t]) (tmps : Array Value) (w : World) (g : Nat) (t' : TypeId) (cs : Array Value) (fr : Nat × Nat) (d : TypeDesc)
    (hp : tmps.getD p undef = .pointer (some ⟨g, 0, none⟩)) (hg : w.heap[g]? = some (.cells cs t' fr))
    (hu : P.underlying ty = some d) (hd : (match d with | .struct _ | .array _ _ => true | _ => false) = true) (hi : (P.info? ty).map (·.size) = some cs.size) :
    (results fn tmps).run P w = .ok (.tuple #[.agg cs, tmps.getD t undef]) w := by
  have hp' : tmps[p]?.getD undef = .pointer (some ⟨g, 0, none⟩) := by simpa using hp
  simp [results, h, hp', asAddr, run_loadVar_row w g t' ty cs fr d hg hu hd hi]
/-- What Data answers. -/
def DataIs (S : Nat → Prop) (t : PE) (e : Ending) (w : World) : Prop :=
  (checkE t = 0 ∧ ∃ v, e = .returned (.tuple #[(dataT t).val v, .int .i64 0]) ∧ InV w S (dataT t) v) ∨ (checkE t ≠ 0 ∧ e = .returned (.tuple #[.agg #[.int .i64 0, .int .i64 0, .string ⟨#[]⟩, .slice none 0 0], .int .i64 (checkE t)]))
theorem data_any (t : PE) (S : Nat → Prop) (vn vd vk : Value) (w : World) (h : InF w S t vn vd vk) (hS : ∀ b, S b → b < w.heap.size) :
    Calls Tryz.prog 17 #[t.val vn vd vk] w fun e w' => DataIs (fun b => w.heap.size ≤ b) t e w' ∧ Below w.heap.size w w' := by
  obtain ⟨k, nm, ns, ⟨ck, ci, cs, cl⟩, l⟩ := t
  have HI := Lib.hid h
  obtain ⟨⟨_, _, an, cn, rfl, _⟩, ⟨_, _, _, ad, cd, rfl, _⟩, ak, c, rfl, _⟩ := h
  show Calls Tryz.prog 17 #[.agg #[.int .i64 k, .string nm, .slice an ns.length cn, .int .i64 ck, .int .i64 ci, .string cs, .slice ad cl.length cd, .slice ak l.length c]] w _
  obtain ⟨z0, z1, zb⟩ := two_new w (.cells #[.int .i64 k, .string nm, .slice an ns.length cn, .int .i64 ck, .int .i64 ci, .string cs, .slice ad cl.length cd, .slice ak l.length c] 28) (.cells #[.int .i64 0, .int .i64 0, .string ⟨#[]⟩, .slice none 0 0] 25)
  generalize hw0 : (w.alloc (.cells #[.int .i64 k, .string nm, .slice an ns.length cn, .int .i64 ck, .int .i64 ci, .string cs, .slice ad cl.length cd, .slice ak l.length c] 28)).alloc (.cells #[.int .i64 0, .int .i64 0, .string ⟨#[]⟩, .slice none 0 0] 25) = w0 at z0 z1 zb
  have HW0 := Lib.hid hw0
  have Z0 := Lib.hid z0
  have Z1 := Lib.hid z1
  have B0 := Lib.hid zb
  have HS0 : Hid (w0.heap.size = w.heap.size + 2) := Lib.hid (by rw [← hw0, size_new, size_new])
  have HI0 : Hid (∀ W, Below w0.heap.size w0 W → InF W S (.mk k nm ns (.mk ck ci cs cl) l) (.slice an ns.length cn) (.slice ad cl.length cd) (.slice ak l.length c) ∧ ∀ b, S b → b < W.heap.size) := Lib.hid fun W hW =>
    ⟨HI.out.below (B0.out.trans (hW.mono B0.out.size)), fun b h => by have := hS b h; have := hW.size; have := B0.out.size; omega⟩
  have KC := Lib.hid (checkE_any (.mk k nm ns (.mk ck ci cs cl) l) S _ _ _ w0 (HI0.out w0 (Below.refl _ _)).1 (HI0.out w0 (Below.refl _ _)).2)
  have KD : Hid (∀ W, Below w0.heap.size w0 W → okE (.mk k nm ns (.mk ck ci cs cl) l) → Calls Tryz.prog 34 #[.agg #[.int .i64 k, .string nm, .slice an ns.length cn, .int .i64 ck, .int .i64 ci, .string cs, .slice ad cl.length cd, .slice ak l.length c]] W fun e w' => DatIs (fun b => W.heap.size ≤ b) (dataT (.mk k nm ns (.mk ck ci cs cl) l)) e w' ∧ Below W.heap.size W w') := Lib.hid fun W hW hok => datum_any (.mk k nm ns (.mk ck ci cs cl) l) W S _ _ _ (HI0.out W hW).1 (HI0.out W hW).2 hok
  unfold PE.val at KC
  clear hw0 z0 z1 zb
  by_cases hc : checkE (.mk k nm ns (.mk ck ci cs cl) l) = 0
  · have HC := Lib.hid hc
    have HOK := Lib.hid (okE_of_check hc)
    rw [hc] at KC
    clear hc
    go_enter Tryz.func17, Tryz.ntmps17
    go_wp2_with fail
    rw [HW0.out]
    refine KC.out.mono ?_
    rintro e w1 ⟨rfl, hb1⟩
    have HB1 := Lib.hid hb1
    have g1 := (hb1.block w.heap.size (lt_of_block Z0.out)).trans Z0.out
    have d0 : w1.cell? ⟨w.heap.size, 0, none⟩ = some (.int .i64 k) := by rw [Lib.cell_of_heap g1]; rfl
    have d1 : w1.cell? ⟨w.heap.size, 1, none⟩ = some (.string nm) := by rw [Lib.cell_of_heap g1]; rfl
    have d2 : w1.cell? ⟨w.heap.size, 2, none⟩ = some (.slice an ns.length cn) := by rw [Lib.cell_of_heap g1]; rfl
    have d3 : w1.cell? ⟨w.heap.size, 3, none⟩ = some (.int .i64 ck) := by rw [Lib.cell_of_heap g1]; rfl
    have d4 : w1.cell? ⟨w.heap.size, 4, none⟩ = some (.int .i64 ci) := by rw [Lib.cell_of_heap g1]; rfl
    have d5 : w1.cell? ⟨w.heap.size, 5, none⟩ = some (.string cs) := by rw [Lib.cell_of_heap g1]; rfl
    have d6 : w1.cell? ⟨w.heap.size, 6, none⟩ = some (.slice ad cl.length cd) := by rw [Lib.cell_of_heap g1]; rfl
    have d7 : w1.cell? ⟨w.heap.size, 7, none⟩ = some (.slice ak l.length c) := by rw [Lib.cell_of_heap g1]; rfl
    clear hb1 g1
    generalize hd : dataT (.mk k nm ns (.mk ck ci cs cl) l) = d at KD
    have HD := Lib.hid hd
    clear hd
    obtain ⟨dk, di, ds, dm⟩ := d
    go_wp2_with fail
    refine (KD.out _ HB1.out HOK.out).mono ?_
    rintro e w2 ⟨⟨v2, he, z1, z2, z3, z4⟩, hb2⟩
    obtain ⟨a2, c2, rfl, _⟩ := id z4
    change e = .returned (.agg #[.int .i64 dk, .int .i64 di, .string ds, .slice a2 dm.length c2]) at he
    subst he
    have HZ := Lib.hid (And.intro z1 (And.intro z2 (And.intro z3 (insTo z4 (fun b h _ => Nat.le_trans HB1.out.size h)))))
    have HB2 := Lib.hid (HB1.out.trans (hb2.mono HB1.out.size))
    obtain ⟨⟨p0, p1, p2, p3⟩, q0, q1, q2, q3⟩ := look4 ((HB2.out.block (w.heap.size + 1) (by have := HS0.out; omega)).trans Z1.out)
    have FIN := Lib.hid (dat_end (k := dk) (i := di) (s := ds) (m := dm) B0.out HS0.out Z1.out HB2.out ⟨HZ.out.1, HZ.out.2.1, HZ.out.2.2.1, HZ.out.2.2.2⟩)
    clear hb2 z1 z2 z3 z4 d0 d1 d2 d3 d4 d5 d6 d7
    go_wp2
    exact bodyPost_ret (results_row_one (P := Tryz.prog) rfl _ _ (w.heap.size + 1) 25 _ (0, 0) _ rfl FIN.out.1 Tryz.underlying25 rfl (by kernel_rfl)) rfl ⟨.inl ⟨HC.out, _, by rw [HD.out]; rfl, by rw [HD.out]; exact FIN.out.2.1⟩, FIN.out.2.2⟩
  · have HC := Lib.hid hc
    have hq : (checkE (.mk k nm ns (.mk ck ci cs cl) l) != 0) = true := by simpa using hc
    clear hc KD
    generalize hx : checkE (.mk k nm ns (.mk ck ci cs cl) l) = x at KC hq
    have HX := Lib.hid hx
    clear hx
    go_enter Tryz.func17, Tryz.ntmps17
    go_wp2_with fail
    rw [HW0.out]
    refine KC.out.mono ?_
    rintro e w1 ⟨rfl, hb1⟩
    have HB1 := Lib.hid hb1
    have z := (hb1.block (w.heap.size + 1) (by have := HS0.out; omega)).trans Z1.out
    obtain ⟨⟨p0, p1, p2, p3⟩, q0, q1, q2, q3⟩ := look4 z
    obtain ⟨h1, h2, h3⟩ := put4 z (.int .i64 0) (.int .i64 0) (.string ⟨#[]⟩) (.slice none 0 0)
    have FIN := Lib.hid (And.intro h1 (h3 w.heap.size w (B0.out.trans (hb1.mono B0.out.size)) (by omega)))
    clear hb1 z h1 h2 h3
    go_wp2
    exact bodyPost_ret (results_row_one (P := Tryz.prog) rfl _ _ (w.heap.size + 1) 25 _ (0, 0) _ rfl FIN.out.1 Tryz.underlying25 rfl (by kernel_rfl)) rfl ⟨.inr ⟨HC.out, by rw [HX.out]; rfl⟩, FIN.out.2⟩
end Go.Proofs.YtjofdlnopchaeaaGreatDoor.Core
