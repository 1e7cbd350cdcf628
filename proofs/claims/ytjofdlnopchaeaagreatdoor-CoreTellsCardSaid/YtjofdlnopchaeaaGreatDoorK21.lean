/-
Package core's datumOf, at if, begin, call. No condition.
-/
import Derived.Test.YtjofdlnopchaeaaGreatDoorK20
namespace Go.Proofs.YtjofdlnopchaeaaGreatDoor.Core
open Go.ChangeShapes Go.WideShapes Go.ChangeAt Go.RowKit Go.Deep
open Dat (PT ok64 RepV RepS RowX infoDatum NewV NewS NewD)
set_option maxRecDepth 100000

set_option maxHeartbeats 4000000 in
theorem datum_3 (nm : ByteArray) (ns : List ByteArray) (ck ci : Int) (cs : ByteArray) (cl : List PT) (l : List PE) (ih : ∀ t ∈ l, DatumOk t) (S : Nat → Prop) (vn vd vk : Value) (w : World) (h : InF w S (.mk 3 nm ns (.mk ck ci cs cl) l) vn vd vk) (hS : ∀ b, S b → b < w.heap.size) (hok : okE (.mk 3 nm ns (.mk ck ci cs cl) l)) :
    Calls Tryz.prog 34 #[(PE.mk 3 nm ns (.mk ck ci cs cl) l).val vn vd vk] w fun e w' => DatIs (fun b => w.heap.size ≤ b) (dataT (.mk 3 nm ns (.mk ck ci cs cl) l)) e w' ∧ Below w.heap.size w w' := by
  have HI := Lib.hid h
  have IH := Lib.hid ih
  rw [okE] at hok
  obtain ⟨hform, hn4, hl4, hoks⟩ := hok
  have HOKS := Lib.hid hoks
  have HFORM := Lib.hid hform
  have HNMS := Lib.hid h.1.2.1
  obtain ⟨⟨_, _, an, cn, rfl, hln, hmn, _⟩, ⟨_, _, _, ad, cd, rfl, hld, hmd, _⟩, ak, c, rfl, hl, hm, _⟩ := h
  unfold maxLen at hmn hm hmd
  show Calls Tryz.prog 34 #[.agg #[.int .i64 3, .string nm, .slice an ns.length cn, .int .i64 ck, .int .i64 ci, .string cs, .slice ad cl.length cd, .slice ak l.length c]] w _
  obtain ⟨z0, z1, zb⟩ := two_new w (.cells #[.int .i64 3, .string nm, .slice an ns.length cn, .int .i64 ck, .int .i64 ci, .string cs, .slice ad cl.length cd, .slice ak l.length c] 28) (.cells #[.int .i64 0, .int .i64 0, .string ⟨#[]⟩, .slice none 0 0] 25)
  generalize hw0 : (w.alloc (.cells #[.int .i64 3, .string nm, .slice an ns.length cn, .int .i64 ck, .int .i64 ci, .string cs, .slice ad cl.length cd, .slice ak l.length c] 28)).alloc (.cells #[.int .i64 0, .int .i64 0, .string ⟨#[]⟩, .slice none 0 0] 25) = w0 at z0 z1 zb
  have HW0 := Lib.hid hw0
  have Z0 := Lib.hid z0
  have Z1 := Lib.hid z1
  have B0 := Lib.hid zb
  have HS0 : Hid (w0.heap.size = w.heap.size + 2) := Lib.hid (by rw [← hw0, size_new, size_new])
  have HI0 : Hid (∀ W, KP w0 (some (w.heap.size + 1)) W → InF W S (.mk 3 nm ns (.mk ck ci cs cl) l) (.slice an ns.length cn) (.slice ad cl.length cd) (.slice ak l.length c) ∧ ∀ b, S b → b < W.heap.size) := Lib.hid fun W hW =>
    ⟨HI.out.move (fun _ h _ => h) fun b o v hs hc => by
      have := hS b hs
      rw [World.cell?_of_block (w := w) (a := ⟨b, o, none⟩) ((hW.2 b (by have := HS0.out; omega) (by simp; omega)).trans (B0.out.block b this))]; exact hc, fun b h => by have := hS b h; have := hW.1.size; have := HS0.out; omega⟩
  have BW : Hid (Below w0.heap.size w0 w0.drew) := Lib.hid (Below.refl _ _).drew
  clear hw0 z0 z1 zb ih hform hoks
  have KD : Hid (∀ W, KP w0 (some (w.heap.size + 1)) W → Calls Tryz.prog 61 #[.slice ak l.length c] W fun e w' => (∃ da dc, e = .returned (.slice da (dataTs l).length dc) ∧ InS w' (fun b => w0.heap.size ≤ b) (dataTs l) (.slice da (dataTs l).length dc)) ∧ Below W.heap.size W w') := Lib.hid fun W hW =>
    (dataOf_any l IH.out S _ W (HI0.out W hW).1.2.2 (HI0.out W hW).2 HOKS.out hl4).mono fun e w' ⟨⟨v, he, hv⟩, hb⟩ => by
      obtain ⟨da, dc, e1, _⟩ := id hv
      subst e1
      exact ⟨⟨da, dc, he, insTo hv (fun b h _ => Nat.le_trans hW.1.size h)⟩, hb⟩
  have HDL : Hid ((dataTs l).length ≤ 4096) := Lib.hid (by rw [dataTs_map, List.length_map]; exact hl4)
  have HDT : Hid (dataT (.mk 3 nm ns (.mk ck ci cs cl) l) = listT (symT (wordS 3) :: dataTs l)) := Lib.hid (by rw [dataT]; simp)
  have KFM : Hid (∀ W, KP w0 (some (w.heap.size + 1)) W → ∀ a c, InS W (fun b => w0.heap.size ≤ b) (dataTs l) (.slice a (dataTs l).length c) → Calls Tryz.prog 58 #[.int .i64 3, .slice a (dataTs l).length c] W fun e w' => (∃ a9 c9, e = .returned (.agg #[.int .i64 5, .int .i64 0, .string ⟨#[]⟩, .slice a9 ((dataTs l).length + 1) c9]) ∧ InS w' (fun b => w0.heap.size ≤ b) (symT (wordS 3) :: dataTs l) (.slice a9 ((dataTs l).length + 1) c9)) ∧ Below W.heap.size W w') := Lib.hid fun W hW a c hv =>
    (form_any 3 (dataTs l) _ (fun b => w0.heap.size ≤ b) W hv (by have := HDL.out; omega)).mono fun e w' ⟨⟨v, he, hv⟩, hb⟩ => by
      obtain ⟨h1, h2, h3, h4⟩ := hv
      obtain ⟨a9, c9, e1, _⟩ := id h4
      subst e1
      exact ⟨⟨a9, c9, he, insTo h4 (fun b h _ => h.elim (fun h => h.1) (fun h => Nat.le_trans hW.1.size h))⟩, hb⟩
  have CC : Hid (∀ W, KP w0 (some (w.heap.size + 1)) W → W.cell? ⟨w.heap.size, 0, none⟩ = some (.int .i64 3) ∧ W.cell? ⟨w.heap.size, 1, none⟩ = some (.string nm) ∧ W.cell? ⟨w.heap.size, 2, none⟩ = some (.slice an ns.length cn) ∧ W.cell? ⟨w.heap.size, 3, none⟩ = some (.int .i64 ck) ∧ W.cell? ⟨w.heap.size, 4, none⟩ = some (.int .i64 ci) ∧ W.cell? ⟨w.heap.size, 5, none⟩ = some (.string cs) ∧ W.cell? ⟨w.heap.size, 6, none⟩ = some (.slice ad cl.length cd) ∧ W.cell? ⟨w.heap.size, 7, none⟩ = some (.slice ak l.length c) ∧ KP w0 (some (w.heap.size + 1)) W) := Lib.hid fun W hW => by
    have g0 := fun o => World.cell?_of_block (w := w0) (a := ⟨w.heap.size, o, none⟩) (hW.2 w.heap.size (by have := HS0.out; omega) (by simp))
    exact ⟨(g0 _).trans (by rw [Lib.cell_of_heap Z0.out]; rfl), (g0 _).trans (by rw [Lib.cell_of_heap Z0.out]; rfl), (g0 _).trans (by rw [Lib.cell_of_heap Z0.out]; rfl), (g0 _).trans (by rw [Lib.cell_of_heap Z0.out]; rfl), (g0 _).trans (by rw [Lib.cell_of_heap Z0.out]; rfl), (g0 _).trans (by rw [Lib.cell_of_heap Z0.out]; rfl), (g0 _).trans (by rw [Lib.cell_of_heap Z0.out]; rfl), (g0 _).trans (by rw [Lib.cell_of_heap Z0.out]; rfl), hW⟩
  have OF : Hid (∀ W, (W.cell? ⟨w.heap.size, 0, none⟩ = some (.int .i64 3) ∧ W.cell? ⟨w.heap.size, 1, none⟩ = some (.string nm) ∧ W.cell? ⟨w.heap.size, 2, none⟩ = some (.slice an ns.length cn) ∧ W.cell? ⟨w.heap.size, 3, none⟩ = some (.int .i64 ck) ∧ W.cell? ⟨w.heap.size, 4, none⟩ = some (.int .i64 ci) ∧ W.cell? ⟨w.heap.size, 5, none⟩ = some (.string cs) ∧ W.cell? ⟨w.heap.size, 6, none⟩ = some (.slice ad cl.length cd) ∧ W.cell? ⟨w.heap.size, 7, none⟩ = some (.slice ak l.length c) ∧ KP w0 (some (w.heap.size + 1)) W) → KP w0 (some (w.heap.size + 1)) W) := Lib.hid fun W h => h.2.2.2.2.2.2.2.2
  have KP0 := KP.refl w0 (some (w.heap.size + 1))
  go_enter Tryz.func34, Tryz.ntmps34
  go_wp2
  rw [HW0.out]
  go_region_held3 (fun W => W.cell? ⟨w.heap.size, 0, none⟩ = some (.int .i64 3) ∧ W.cell? ⟨w.heap.size, 1, none⟩ = some (.string nm) ∧ W.cell? ⟨w.heap.size, 2, none⟩ = some (.slice an ns.length cn) ∧ W.cell? ⟨w.heap.size, 3, none⟩ = some (.int .i64 ck) ∧ W.cell? ⟨w.heap.size, 4, none⟩ = some (.int .i64 ci) ∧ W.cell? ⟨w.heap.size, 5, none⟩ = some (.string cs) ∧ W.cell? ⟨w.heap.size, 6, none⟩ = some (.slice ad cl.length cd) ∧ W.cell? ⟨w.heap.size, 7, none⟩ = some (.slice ak l.length c) ∧ KP w0 (some (w.heap.size + 1)) W)
    (first | (with_reducible exact CC.out _ (by assumption)) | (with_reducible exact CC.out _ (KP.drewn (by assumption))) | (with_reducible exact CC.out _ (KP.alloc (by assumption) _)) | (with_reducible exact CC.out _ (KP.alloc (KP.drewn (by assumption)) _)) | (with_reducible exact CC.out _ (dat_put (by assumption) _ _ _ _)) | (with_reducible exact CC.out _ (KP.alloc (OF.out _ (by assumption)) _)))
    (first
          | (go_at_call 61; refine (KD.out _ (OF.out _ (by assumption))).mono ?_; rintro e w6 ⟨⟨da, dc, rfl, hv6⟩, hb6⟩; have kp6 := KP.next (OF.out _ (by assumption)) hb6; (first | (have BW := Lib.hid (BW.out.trans (hb6.mono BW.out.size))) | (have BW := Lib.hid ((BW.out.alloc BW.out.size _).trans (hb6.mono (BW.out.alloc BW.out.size _).size)))); (try (first | (have HN := Lib.hid (insNext hb6 HN.out)) | (have HN := Lib.hid (insNext hb6 (insAlloc HN.out _))))); (try (first | (have HD := Lib.hid (insNext hb6 HD.out)) | (have HD := Lib.hid (insNext hb6 (insAlloc HD.out _))))); have HD := Lib.hid hv6; clear hv6; clear hb6)
          | (go_at_call 58; refine (KFM.out _ (OF.out _ (by assumption)) _ _ HD.out).mono ?_; rintro e w9 ⟨⟨a9, c9, rfl, hv9⟩, hb9⟩; have kp9 := KP.next (OF.out _ (by assumption)) hb9; (first | (have BW := Lib.hid (BW.out.trans (hb9.mono BW.out.size))) | (have BW := Lib.hid ((BW.out.alloc BW.out.size _).trans (hb9.mono (BW.out.alloc BW.out.size _).size)))); (try (first | (have HN := Lib.hid (insNext hb9 HN.out)) | (have HN := Lib.hid (insNext hb9 (insAlloc HN.out _))))); (try (first | (have HD := Lib.hid (insNext hb9 HD.out)) | (have HD := Lib.hid (insNext hb9 (insAlloc HD.out _))))); have HV9 := Lib.hid hv9; obtain ⟨⟨p0, p1, p2, p3⟩, q0, q1, q2, q3⟩ := look4 ((BW.out.block (w.heap.size + 1) (by have := HS0.out; omega)).trans Z1.out); clear hv9; clear hb9))
  all_goals
    have FIN := Lib.hid (dat_end (k := 5) (i := 0) (s := ⟨#[]⟩) (m := symT (wordS 3) :: dataTs l) B0.out HS0.out Z1.out BW.out ⟨⟨by decide, by decide⟩, ⟨by decide, by decide⟩, by decide, HV9.out⟩)
    clear CC OF KP0 KFM
    go_wp2
    exact bodyPost_ret (results_cell_row (P := Tryz.prog) rfl _ _ (w.heap.size + 1) 25 _ (0, 0) _ rfl FIN.out.1 Tryz.underlying25 rfl (by kernel_rfl)) rfl ⟨⟨_, by rw [HDT.out]; rfl, by rw [HDT.out]; exact FIN.out.2.1⟩, FIN.out.2.2⟩
set_option maxHeartbeats 4000000 in
theorem datum_4 (nm : ByteArray) (ns : List ByteArray) (ck ci : Int) (cs : ByteArray) (cl : List PT) (l : List PE) (ih : ∀ t ∈ l, DatumOk t) (S : Nat → Prop) (vn vd vk : Value) (w : World) (h : InF w S (.mk 4 nm ns (.mk ck ci cs cl) l) vn vd vk) (hS : ∀ b, S b → b < w.heap.size) (hok : okE (.mk 4 nm ns (.mk ck ci cs cl) l)) :
    Calls Tryz.prog 34 #[(PE.mk 4 nm ns (.mk ck ci cs cl) l).val vn vd vk] w fun e w' => DatIs (fun b => w.heap.size ≤ b) (dataT (.mk 4 nm ns (.mk ck ci cs cl) l)) e w' ∧ Below w.heap.size w w' := by
  have HI := Lib.hid h
  have IH := Lib.hid ih
  rw [okE] at hok
  obtain ⟨hform, hn4, hl4, hoks⟩ := hok
  have HOKS := Lib.hid hoks
  have HFORM := Lib.hid hform
  have HNMS := Lib.hid h.1.2.1
  obtain ⟨⟨_, _, an, cn, rfl, hln, hmn, _⟩, ⟨_, _, _, ad, cd, rfl, hld, hmd, _⟩, ak, c, rfl, hl, hm, _⟩ := h
  unfold maxLen at hmn hm hmd
  show Calls Tryz.prog 34 #[.agg #[.int .i64 4, .string nm, .slice an ns.length cn, .int .i64 ck, .int .i64 ci, .string cs, .slice ad cl.length cd, .slice ak l.length c]] w _
  obtain ⟨z0, z1, zb⟩ := two_new w (.cells #[.int .i64 4, .string nm, .slice an ns.length cn, .int .i64 ck, .int .i64 ci, .string cs, .slice ad cl.length cd, .slice ak l.length c] 28) (.cells #[.int .i64 0, .int .i64 0, .string ⟨#[]⟩, .slice none 0 0] 25)
  generalize hw0 : (w.alloc (.cells #[.int .i64 4, .string nm, .slice an ns.length cn, .int .i64 ck, .int .i64 ci, .string cs, .slice ad cl.length cd, .slice ak l.length c] 28)).alloc (.cells #[.int .i64 0, .int .i64 0, .string ⟨#[]⟩, .slice none 0 0] 25) = w0 at z0 z1 zb
  have HW0 := Lib.hid hw0
  have Z0 := Lib.hid z0
  have Z1 := Lib.hid z1
  have B0 := Lib.hid zb
  have HS0 : Hid (w0.heap.size = w.heap.size + 2) := Lib.hid (by rw [← hw0, size_new, size_new])
  have HI0 : Hid (∀ W, KP w0 (some (w.heap.size + 1)) W → InF W S (.mk 4 nm ns (.mk ck ci cs cl) l) (.slice an ns.length cn) (.slice ad cl.length cd) (.slice ak l.length c) ∧ ∀ b, S b → b < W.heap.size) := Lib.hid fun W hW =>
    ⟨HI.out.move (fun _ h _ => h) fun b o v hs hc => by
      have := hS b hs
      rw [World.cell?_of_block (w := w) (a := ⟨b, o, none⟩) ((hW.2 b (by have := HS0.out; omega) (by simp; omega)).trans (B0.out.block b this))]; exact hc, fun b h => by have := hS b h; have := hW.1.size; have := HS0.out; omega⟩
  have BW : Hid (Below w0.heap.size w0 w0.drew) := Lib.hid (Below.refl _ _).drew
  clear hw0 z0 z1 zb ih hform hoks
  have KD : Hid (∀ W, KP w0 (some (w.heap.size + 1)) W → Calls Tryz.prog 61 #[.slice ak l.length c] W fun e w' => (∃ da dc, e = .returned (.slice da (dataTs l).length dc) ∧ InS w' (fun b => w0.heap.size ≤ b) (dataTs l) (.slice da (dataTs l).length dc)) ∧ Below W.heap.size W w') := Lib.hid fun W hW =>
    (dataOf_any l IH.out S _ W (HI0.out W hW).1.2.2 (HI0.out W hW).2 HOKS.out hl4).mono fun e w' ⟨⟨v, he, hv⟩, hb⟩ => by
      obtain ⟨da, dc, e1, _⟩ := id hv
      subst e1
      exact ⟨⟨da, dc, he, insTo hv (fun b h _ => Nat.le_trans hW.1.size h)⟩, hb⟩
  have HDL : Hid ((dataTs l).length ≤ 4096) := Lib.hid (by rw [dataTs_map, List.length_map]; exact hl4)
  have HDT : Hid (dataT (.mk 4 nm ns (.mk ck ci cs cl) l) = listT (symT (wordS 4) :: dataTs l)) := Lib.hid (by rw [dataT]; simp)
  have KFM : Hid (∀ W, KP w0 (some (w.heap.size + 1)) W → ∀ a c, InS W (fun b => w0.heap.size ≤ b) (dataTs l) (.slice a (dataTs l).length c) → Calls Tryz.prog 58 #[.int .i64 4, .slice a (dataTs l).length c] W fun e w' => (∃ a9 c9, e = .returned (.agg #[.int .i64 5, .int .i64 0, .string ⟨#[]⟩, .slice a9 ((dataTs l).length + 1) c9]) ∧ InS w' (fun b => w0.heap.size ≤ b) (symT (wordS 4) :: dataTs l) (.slice a9 ((dataTs l).length + 1) c9)) ∧ Below W.heap.size W w') := Lib.hid fun W hW a c hv =>
    (form_any 4 (dataTs l) _ (fun b => w0.heap.size ≤ b) W hv (by have := HDL.out; omega)).mono fun e w' ⟨⟨v, he, hv⟩, hb⟩ => by
      obtain ⟨h1, h2, h3, h4⟩ := hv
      obtain ⟨a9, c9, e1, _⟩ := id h4
      subst e1
      exact ⟨⟨a9, c9, he, insTo h4 (fun b h _ => h.elim (fun h => h.1) (fun h => Nat.le_trans hW.1.size h))⟩, hb⟩
  have CC : Hid (∀ W, KP w0 (some (w.heap.size + 1)) W → W.cell? ⟨w.heap.size, 0, none⟩ = some (.int .i64 4) ∧ W.cell? ⟨w.heap.size, 1, none⟩ = some (.string nm) ∧ W.cell? ⟨w.heap.size, 2, none⟩ = some (.slice an ns.length cn) ∧ W.cell? ⟨w.heap.size, 3, none⟩ = some (.int .i64 ck) ∧ W.cell? ⟨w.heap.size, 4, none⟩ = some (.int .i64 ci) ∧ W.cell? ⟨w.heap.size, 5, none⟩ = some (.string cs) ∧ W.cell? ⟨w.heap.size, 6, none⟩ = some (.slice ad cl.length cd) ∧ W.cell? ⟨w.heap.size, 7, none⟩ = some (.slice ak l.length c) ∧ KP w0 (some (w.heap.size + 1)) W) := Lib.hid fun W hW => by
    have g0 := fun o => World.cell?_of_block (w := w0) (a := ⟨w.heap.size, o, none⟩) (hW.2 w.heap.size (by have := HS0.out; omega) (by simp))
    exact ⟨(g0 _).trans (by rw [Lib.cell_of_heap Z0.out]; rfl), (g0 _).trans (by rw [Lib.cell_of_heap Z0.out]; rfl), (g0 _).trans (by rw [Lib.cell_of_heap Z0.out]; rfl), (g0 _).trans (by rw [Lib.cell_of_heap Z0.out]; rfl), (g0 _).trans (by rw [Lib.cell_of_heap Z0.out]; rfl), (g0 _).trans (by rw [Lib.cell_of_heap Z0.out]; rfl), (g0 _).trans (by rw [Lib.cell_of_heap Z0.out]; rfl), (g0 _).trans (by rw [Lib.cell_of_heap Z0.out]; rfl), hW⟩
  have OF : Hid (∀ W, (W.cell? ⟨w.heap.size, 0, none⟩ = some (.int .i64 4) ∧ W.cell? ⟨w.heap.size, 1, none⟩ = some (.string nm) ∧ W.cell? ⟨w.heap.size, 2, none⟩ = some (.slice an ns.length cn) ∧ W.cell? ⟨w.heap.size, 3, none⟩ = some (.int .i64 ck) ∧ W.cell? ⟨w.heap.size, 4, none⟩ = some (.int .i64 ci) ∧ W.cell? ⟨w.heap.size, 5, none⟩ = some (.string cs) ∧ W.cell? ⟨w.heap.size, 6, none⟩ = some (.slice ad cl.length cd) ∧ W.cell? ⟨w.heap.size, 7, none⟩ = some (.slice ak l.length c) ∧ KP w0 (some (w.heap.size + 1)) W) → KP w0 (some (w.heap.size + 1)) W) := Lib.hid fun W h => h.2.2.2.2.2.2.2.2
  have KP0 := KP.refl w0 (some (w.heap.size + 1))
  go_enter Tryz.func34, Tryz.ntmps34
  go_wp2
  rw [HW0.out]
  go_region_held3 (fun W => W.cell? ⟨w.heap.size, 0, none⟩ = some (.int .i64 4) ∧ W.cell? ⟨w.heap.size, 1, none⟩ = some (.string nm) ∧ W.cell? ⟨w.heap.size, 2, none⟩ = some (.slice an ns.length cn) ∧ W.cell? ⟨w.heap.size, 3, none⟩ = some (.int .i64 ck) ∧ W.cell? ⟨w.heap.size, 4, none⟩ = some (.int .i64 ci) ∧ W.cell? ⟨w.heap.size, 5, none⟩ = some (.string cs) ∧ W.cell? ⟨w.heap.size, 6, none⟩ = some (.slice ad cl.length cd) ∧ W.cell? ⟨w.heap.size, 7, none⟩ = some (.slice ak l.length c) ∧ KP w0 (some (w.heap.size + 1)) W)
    (first | (with_reducible exact CC.out _ (by assumption)) | (with_reducible exact CC.out _ (KP.drewn (by assumption))) | (with_reducible exact CC.out _ (KP.alloc (by assumption) _)) | (with_reducible exact CC.out _ (KP.alloc (KP.drewn (by assumption)) _)) | (with_reducible exact CC.out _ (dat_put (by assumption) _ _ _ _)) | (with_reducible exact CC.out _ (KP.alloc (OF.out _ (by assumption)) _)))
    (first
          | (go_at_call 61; refine (KD.out _ (OF.out _ (by assumption))).mono ?_; rintro e w6 ⟨⟨da, dc, rfl, hv6⟩, hb6⟩; have kp6 := KP.next (OF.out _ (by assumption)) hb6; (first | (have BW := Lib.hid (BW.out.trans (hb6.mono BW.out.size))) | (have BW := Lib.hid ((BW.out.alloc BW.out.size _).trans (hb6.mono (BW.out.alloc BW.out.size _).size)))); (try (first | (have HN := Lib.hid (insNext hb6 HN.out)) | (have HN := Lib.hid (insNext hb6 (insAlloc HN.out _))))); (try (first | (have HD := Lib.hid (insNext hb6 HD.out)) | (have HD := Lib.hid (insNext hb6 (insAlloc HD.out _))))); have HD := Lib.hid hv6; clear hv6; clear hb6)
          | (go_at_call 58; refine (KFM.out _ (OF.out _ (by assumption)) _ _ HD.out).mono ?_; rintro e w9 ⟨⟨a9, c9, rfl, hv9⟩, hb9⟩; have kp9 := KP.next (OF.out _ (by assumption)) hb9; (first | (have BW := Lib.hid (BW.out.trans (hb9.mono BW.out.size))) | (have BW := Lib.hid ((BW.out.alloc BW.out.size _).trans (hb9.mono (BW.out.alloc BW.out.size _).size)))); (try (first | (have HN := Lib.hid (insNext hb9 HN.out)) | (have HN := Lib.hid (insNext hb9 (insAlloc HN.out _))))); (try (first | (have HD := Lib.hid (insNext hb9 HD.out)) | (have HD := Lib.hid (insNext hb9 (insAlloc HD.out _))))); have HV9 := Lib.hid hv9; obtain ⟨⟨p0, p1, p2, p3⟩, q0, q1, q2, q3⟩ := look4 ((BW.out.block (w.heap.size + 1) (by have := HS0.out; omega)).trans Z1.out); clear hv9; clear hb9))
  all_goals
    have FIN := Lib.hid (dat_end (k := 5) (i := 0) (s := ⟨#[]⟩) (m := symT (wordS 4) :: dataTs l) B0.out HS0.out Z1.out BW.out ⟨⟨by decide, by decide⟩, ⟨by decide, by decide⟩, by decide, HV9.out⟩)
    clear CC OF KP0 KFM
    go_wp2
    exact bodyPost_ret (results_cell_row (P := Tryz.prog) rfl _ _ (w.heap.size + 1) 25 _ (0, 0) _ rfl FIN.out.1 Tryz.underlying25 rfl (by kernel_rfl)) rfl ⟨⟨_, by rw [HDT.out]; rfl, by rw [HDT.out]; exact FIN.out.2.1⟩, FIN.out.2.2⟩
set_option maxHeartbeats 4000000 in
theorem datum_6 (nm : ByteArray) (ns : List ByteArray) (ck ci : Int) (cs : ByteArray) (cl : List PT) (l : List PE) (ih : ∀ t ∈ l, DatumOk t) (S : Nat → Prop) (vn vd vk : Value) (w : World) (h : InF w S (.mk 6 nm ns (.mk ck ci cs cl) l) vn vd vk) (hS : ∀ b, S b → b < w.heap.size) (hok : okE (.mk 6 nm ns (.mk ck ci cs cl) l)) :
    Calls Tryz.prog 34 #[(PE.mk 6 nm ns (.mk ck ci cs cl) l).val vn vd vk] w fun e w' => DatIs (fun b => w.heap.size ≤ b) (dataT (.mk 6 nm ns (.mk ck ci cs cl) l)) e w' ∧ Below w.heap.size w w' := by
  have HI := Lib.hid h
  have IH := Lib.hid ih
  rw [okE] at hok
  obtain ⟨hform, hn4, hl4, hoks⟩ := hok
  have HOKS := Lib.hid hoks
  have HFORM := Lib.hid hform
  have HNMS := Lib.hid h.1.2.1
  obtain ⟨⟨_, _, an, cn, rfl, hln, hmn, _⟩, ⟨_, _, _, ad, cd, rfl, hld, hmd, _⟩, ak, c, rfl, hl, hm, _⟩ := h
  unfold maxLen at hmn hm hmd
  show Calls Tryz.prog 34 #[.agg #[.int .i64 6, .string nm, .slice an ns.length cn, .int .i64 ck, .int .i64 ci, .string cs, .slice ad cl.length cd, .slice ak l.length c]] w _
  obtain ⟨z0, z1, zb⟩ := two_new w (.cells #[.int .i64 6, .string nm, .slice an ns.length cn, .int .i64 ck, .int .i64 ci, .string cs, .slice ad cl.length cd, .slice ak l.length c] 28) (.cells #[.int .i64 0, .int .i64 0, .string ⟨#[]⟩, .slice none 0 0] 25)
  generalize hw0 : (w.alloc (.cells #[.int .i64 6, .string nm, .slice an ns.length cn, .int .i64 ck, .int .i64 ci, .string cs, .slice ad cl.length cd, .slice ak l.length c] 28)).alloc (.cells #[.int .i64 0, .int .i64 0, .string ⟨#[]⟩, .slice none 0 0] 25) = w0 at z0 z1 zb
  have HW0 := Lib.hid hw0
  have Z0 := Lib.hid z0
  have Z1 := Lib.hid z1
  have B0 := Lib.hid zb
  have HS0 : Hid (w0.heap.size = w.heap.size + 2) := Lib.hid (by rw [← hw0, size_new, size_new])
  have HI0 : Hid (∀ W, KP w0 (some (w.heap.size + 1)) W → InF W S (.mk 6 nm ns (.mk ck ci cs cl) l) (.slice an ns.length cn) (.slice ad cl.length cd) (.slice ak l.length c) ∧ ∀ b, S b → b < W.heap.size) := Lib.hid fun W hW =>
    ⟨HI.out.move (fun _ h _ => h) fun b o v hs hc => by
      have := hS b hs
      rw [World.cell?_of_block (w := w) (a := ⟨b, o, none⟩) ((hW.2 b (by have := HS0.out; omega) (by simp; omega)).trans (B0.out.block b this))]; exact hc, fun b h => by have := hS b h; have := hW.1.size; have := HS0.out; omega⟩
  have BW : Hid (Below w0.heap.size w0 w0.drew) := Lib.hid (Below.refl _ _).drew
  clear hw0 z0 z1 zb ih hform hoks
  have KD : Hid (∀ W, KP w0 (some (w.heap.size + 1)) W → Calls Tryz.prog 61 #[.slice ak l.length c] W fun e w' => (∃ da dc, e = .returned (.slice da (dataTs l).length dc) ∧ InS w' (fun b => w0.heap.size ≤ b) (dataTs l) (.slice da (dataTs l).length dc)) ∧ Below W.heap.size W w') := Lib.hid fun W hW =>
    (dataOf_any l IH.out S _ W (HI0.out W hW).1.2.2 (HI0.out W hW).2 HOKS.out hl4).mono fun e w' ⟨⟨v, he, hv⟩, hb⟩ => by
      obtain ⟨da, dc, e1, _⟩ := id hv
      subst e1
      exact ⟨⟨da, dc, he, insTo hv (fun b h _ => Nat.le_trans hW.1.size h)⟩, hb⟩
  have HDL : Hid ((dataTs l).length ≤ 4096) := Lib.hid (by rw [dataTs_map, List.length_map]; exact hl4)
  have HDT : Hid (dataT (.mk 6 nm ns (.mk ck ci cs cl) l) = listT (symT (wordS 6) :: dataTs l)) := Lib.hid (by rw [dataT]; simp)
  have KFM : Hid (∀ W, KP w0 (some (w.heap.size + 1)) W → ∀ a c, InS W (fun b => w0.heap.size ≤ b) (dataTs l) (.slice a (dataTs l).length c) → Calls Tryz.prog 58 #[.int .i64 6, .slice a (dataTs l).length c] W fun e w' => (∃ a9 c9, e = .returned (.agg #[.int .i64 5, .int .i64 0, .string ⟨#[]⟩, .slice a9 ((dataTs l).length + 1) c9]) ∧ InS w' (fun b => w0.heap.size ≤ b) (symT (wordS 6) :: dataTs l) (.slice a9 ((dataTs l).length + 1) c9)) ∧ Below W.heap.size W w') := Lib.hid fun W hW a c hv =>
    (form_any 6 (dataTs l) _ (fun b => w0.heap.size ≤ b) W hv (by have := HDL.out; omega)).mono fun e w' ⟨⟨v, he, hv⟩, hb⟩ => by
      obtain ⟨h1, h2, h3, h4⟩ := hv
      obtain ⟨a9, c9, e1, _⟩ := id h4
      subst e1
      exact ⟨⟨a9, c9, he, insTo h4 (fun b h _ => h.elim (fun h => h.1) (fun h => Nat.le_trans hW.1.size h))⟩, hb⟩
  have CC : Hid (∀ W, KP w0 (some (w.heap.size + 1)) W → W.cell? ⟨w.heap.size, 0, none⟩ = some (.int .i64 6) ∧ W.cell? ⟨w.heap.size, 1, none⟩ = some (.string nm) ∧ W.cell? ⟨w.heap.size, 2, none⟩ = some (.slice an ns.length cn) ∧ W.cell? ⟨w.heap.size, 3, none⟩ = some (.int .i64 ck) ∧ W.cell? ⟨w.heap.size, 4, none⟩ = some (.int .i64 ci) ∧ W.cell? ⟨w.heap.size, 5, none⟩ = some (.string cs) ∧ W.cell? ⟨w.heap.size, 6, none⟩ = some (.slice ad cl.length cd) ∧ W.cell? ⟨w.heap.size, 7, none⟩ = some (.slice ak l.length c) ∧ KP w0 (some (w.heap.size + 1)) W) := Lib.hid fun W hW => by
    have g0 := fun o => World.cell?_of_block (w := w0) (a := ⟨w.heap.size, o, none⟩) (hW.2 w.heap.size (by have := HS0.out; omega) (by simp))
    exact ⟨(g0 _).trans (by rw [Lib.cell_of_heap Z0.out]; rfl), (g0 _).trans (by rw [Lib.cell_of_heap Z0.out]; rfl), (g0 _).trans (by rw [Lib.cell_of_heap Z0.out]; rfl), (g0 _).trans (by rw [Lib.cell_of_heap Z0.out]; rfl), (g0 _).trans (by rw [Lib.cell_of_heap Z0.out]; rfl), (g0 _).trans (by rw [Lib.cell_of_heap Z0.out]; rfl), (g0 _).trans (by rw [Lib.cell_of_heap Z0.out]; rfl), (g0 _).trans (by rw [Lib.cell_of_heap Z0.out]; rfl), hW⟩
  have OF : Hid (∀ W, (W.cell? ⟨w.heap.size, 0, none⟩ = some (.int .i64 6) ∧ W.cell? ⟨w.heap.size, 1, none⟩ = some (.string nm) ∧ W.cell? ⟨w.heap.size, 2, none⟩ = some (.slice an ns.length cn) ∧ W.cell? ⟨w.heap.size, 3, none⟩ = some (.int .i64 ck) ∧ W.cell? ⟨w.heap.size, 4, none⟩ = some (.int .i64 ci) ∧ W.cell? ⟨w.heap.size, 5, none⟩ = some (.string cs) ∧ W.cell? ⟨w.heap.size, 6, none⟩ = some (.slice ad cl.length cd) ∧ W.cell? ⟨w.heap.size, 7, none⟩ = some (.slice ak l.length c) ∧ KP w0 (some (w.heap.size + 1)) W) → KP w0 (some (w.heap.size + 1)) W) := Lib.hid fun W h => h.2.2.2.2.2.2.2.2
  have KP0 := KP.refl w0 (some (w.heap.size + 1))
  go_enter Tryz.func34, Tryz.ntmps34
  go_wp2
  rw [HW0.out]
  go_region_held3 (fun W => W.cell? ⟨w.heap.size, 0, none⟩ = some (.int .i64 6) ∧ W.cell? ⟨w.heap.size, 1, none⟩ = some (.string nm) ∧ W.cell? ⟨w.heap.size, 2, none⟩ = some (.slice an ns.length cn) ∧ W.cell? ⟨w.heap.size, 3, none⟩ = some (.int .i64 ck) ∧ W.cell? ⟨w.heap.size, 4, none⟩ = some (.int .i64 ci) ∧ W.cell? ⟨w.heap.size, 5, none⟩ = some (.string cs) ∧ W.cell? ⟨w.heap.size, 6, none⟩ = some (.slice ad cl.length cd) ∧ W.cell? ⟨w.heap.size, 7, none⟩ = some (.slice ak l.length c) ∧ KP w0 (some (w.heap.size + 1)) W)
    (first | (with_reducible exact CC.out _ (by assumption)) | (with_reducible exact CC.out _ (KP.drewn (by assumption))) | (with_reducible exact CC.out _ (KP.alloc (by assumption) _)) | (with_reducible exact CC.out _ (KP.alloc (KP.drewn (by assumption)) _)) | (with_reducible exact CC.out _ (dat_put (by assumption) _ _ _ _)) | (with_reducible exact CC.out _ (KP.alloc (OF.out _ (by assumption)) _)))
    (first
          | (go_at_call 61; refine (KD.out _ (OF.out _ (by assumption))).mono ?_; rintro e w6 ⟨⟨da, dc, rfl, hv6⟩, hb6⟩; have kp6 := KP.next (OF.out _ (by assumption)) hb6; (first | (have BW := Lib.hid (BW.out.trans (hb6.mono BW.out.size))) | (have BW := Lib.hid ((BW.out.alloc BW.out.size _).trans (hb6.mono (BW.out.alloc BW.out.size _).size)))); (try (first | (have HN := Lib.hid (insNext hb6 HN.out)) | (have HN := Lib.hid (insNext hb6 (insAlloc HN.out _))))); (try (first | (have HD := Lib.hid (insNext hb6 HD.out)) | (have HD := Lib.hid (insNext hb6 (insAlloc HD.out _))))); have HD := Lib.hid hv6; clear hv6; clear hb6)
          | (go_at_call 58; refine (KFM.out _ (OF.out _ (by assumption)) _ _ HD.out).mono ?_; rintro e w9 ⟨⟨a9, c9, rfl, hv9⟩, hb9⟩; have kp9 := KP.next (OF.out _ (by assumption)) hb9; (first | (have BW := Lib.hid (BW.out.trans (hb9.mono BW.out.size))) | (have BW := Lib.hid ((BW.out.alloc BW.out.size _).trans (hb9.mono (BW.out.alloc BW.out.size _).size)))); (try (first | (have HN := Lib.hid (insNext hb9 HN.out)) | (have HN := Lib.hid (insNext hb9 (insAlloc HN.out _))))); (try (first | (have HD := Lib.hid (insNext hb9 HD.out)) | (have HD := Lib.hid (insNext hb9 (insAlloc HD.out _))))); have HV9 := Lib.hid hv9; obtain ⟨⟨p0, p1, p2, p3⟩, q0, q1, q2, q3⟩ := look4 ((BW.out.block (w.heap.size + 1) (by have := HS0.out; omega)).trans Z1.out); clear hv9; clear hb9))
  all_goals
    have FIN := Lib.hid (dat_end (k := 5) (i := 0) (s := ⟨#[]⟩) (m := symT (wordS 6) :: dataTs l) B0.out HS0.out Z1.out BW.out ⟨⟨by decide, by decide⟩, ⟨by decide, by decide⟩, by decide, HV9.out⟩)
    clear CC OF KP0 KFM
    go_wp2
    exact bodyPost_ret (results_cell_row (P := Tryz.prog) rfl _ _ (w.heap.size + 1) 25 _ (0, 0) _ rfl FIN.out.1 Tryz.underlying25 rfl (by kernel_rfl)) rfl ⟨⟨_, by rw [HDT.out]; rfl, by rw [HDT.out]; exact FIN.out.2.1⟩, FIN.out.2.2⟩
end Go.Proofs.YtjofdlnopchaeaaGreatDoor.Core
