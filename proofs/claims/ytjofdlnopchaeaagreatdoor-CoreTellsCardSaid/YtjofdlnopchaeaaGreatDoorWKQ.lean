/-
Texts K24, K25, K26, one behind the other (a claim bears sixty files). Conditions: as each says.
-/
import Derived.Test.YtjofdlnopchaeaaGreatDoorK20

/-
Package core's datumOf, at kind 8. No condition.
-/
namespace Go.Proofs.YtjofdlnopchaeaaGreatDoor.Core
open Go.ChangeShapes Go.WideShapes Go.ChangeAt Go.RowKit Go.Deep
open Dat (PT ok64 RepV RepS RowX infoDatum NewV NewS NewD)
set_option maxRecDepth 100000

set_option maxHeartbeats 4000000 in
theorem datum_8 (nm : ByteArray) (ns : List ByteArray) (ck ci : Int) (cs : ByteArray) (cl : List PT) (l : List PE) (ih : ∀ t ∈ l, DatumOk t) (S : Nat → Prop) (vn vd vk : Value) (w : World) (h : InF w S (.mk 8 nm ns (.mk ck ci cs cl) l) vn vd vk) (hS : ∀ b, S b → b < w.heap.size) (hok : okE (.mk 8 nm ns (.mk ck ci cs cl) l)) :
    Calls Tryz.prog 34 #[(PE.mk 8 nm ns (.mk ck ci cs cl) l).val vn vd vk] w fun e w' => DatIs (fun b => w.heap.size ≤ b) (dataT (.mk 8 nm ns (.mk ck ci cs cl) l)) e w' ∧ Below w.heap.size w w' := by
  have HI := Lib.hid h
  have IH := Lib.hid ih
  rw [okE] at hok
  obtain ⟨hform, hn4, hl4, hoks⟩ := hok
  have HOKS := Lib.hid hoks
  have HFORM := Lib.hid hform
  have HNMS := Lib.hid h.1.2.1
  obtain ⟨⟨_, _, an, cn, rfl, hln, hmn, _⟩, ⟨_, _, _, ad, cd, rfl, hld, hmd, _⟩, ak, c, rfl, hl, hm, _⟩ := h
  unfold maxLen at hmn hm hmd
  show Calls Tryz.prog 34 #[.agg #[.int .i64 8, .string nm, .slice an ns.length cn, .int .i64 ck, .int .i64 ci, .string cs, .slice ad cl.length cd, .slice ak l.length c]] w _
  obtain ⟨z0, z1, zb⟩ := two_new w (.cells #[.int .i64 8, .string nm, .slice an ns.length cn, .int .i64 ck, .int .i64 ci, .string cs, .slice ad cl.length cd, .slice ak l.length c] 28) (.cells #[.int .i64 0, .int .i64 0, .string ⟨#[]⟩, .slice none 0 0] 25)
  generalize hw0 : (w.alloc (.cells #[.int .i64 8, .string nm, .slice an ns.length cn, .int .i64 ck, .int .i64 ci, .string cs, .slice ad cl.length cd, .slice ak l.length c] 28)).alloc (.cells #[.int .i64 0, .int .i64 0, .string ⟨#[]⟩, .slice none 0 0] 25) = w0 at z0 z1 zb
  have HW0 := Lib.hid hw0
  have Z0 := Lib.hid z0
  have Z1 := Lib.hid z1
  have B0 := Lib.hid zb
  have HS0 : Hid (w0.heap.size = w.heap.size + 2) := Lib.hid (by rw [← hw0, size_new, size_new])
  have HI0 : Hid (∀ W, KP w0 (some (w.heap.size + 1)) W → InF W S (.mk 8 nm ns (.mk ck ci cs cl) l) (.slice an ns.length cn) (.slice ad cl.length cd) (.slice ak l.length c) ∧ ∀ b, S b → b < W.heap.size) := Lib.hid fun W hW =>
    ⟨HI.out.move (fun _ h _ => h) fun b o v hs hc => by
      have := hS b hs
      rw [World.cell?_of_block (w := w) (a := ⟨b, o, none⟩) ((hW.2 b (by have := HS0.out; omega) (by simp; omega)).trans (B0.out.block b this))]; exact hc, fun b h => by have := hS b h; have := hW.1.size; have := HS0.out; omega⟩
  have BW : Hid (Below w0.heap.size w0 w0.drew) := Lib.hid (Below.refl _ _).drew
  clear hw0 z0 z1 zb ih hform hoks
  have hl1 : l.length = ns.length + 1 := by
    have h := HFORM.out
    unfold formE kidsB at h
    simp at h
    exact h.1
  obtain ⟨b', o', c', ea, _, _, hS1, hE1⟩ := HI.out.2.2.item (ns.length) (by omega)
  cases ea
  have hb'w : b' < w.heap.size := hS b' hS1
  have hIHj := IH.out l[ns.length] (List.getElem_mem _)
  have hokj := okEs_mem HOKS.out l[ns.length] (List.getElem_mem _)
  have HLD := Lib.hid (show (dataTs l).drop ns.length = [dataT l[ns.length]] from drop_data hl1)
  generalize l[ns.length] = t at hE1 hIHj hokj HLD
  obtain ⟨tk, tn, tns, ⟨tck, tci, tcs, tcl⟩, tl⟩ := t
  obtain ⟨tvn, tvd, tvk, hF1, a0, a1, a2, a3, a4, a5, a6, a7⟩ := hE1.cells
  have HF1 := Lib.hid hF1
  obtain ⟨⟨_, _, hn1'⟩, ⟨_, _, _, hd1'⟩, hk1'⟩ := hF1
  obtain ⟨tan, tcn, rfl, -⟩ := hn1'
  obtain ⟨tad, tcd, rfl, -⟩ := hd1'
  obtain ⟨tak, tck', rfl, -⟩ := hk1'
  generalize hd : dataT (.mk tk tn tns (.mk tck tci tcs tcl) tl) = d at HLD
  obtain ⟨dk, di, ds, dm⟩ := d
  have KT : Hid (∀ W, KP w0 (some (w.heap.size + 1)) W → Calls Tryz.prog 34 #[.agg #[.int .i64 tk, .string tn, .slice tan tns.length tcn, .int .i64 tck, .int .i64 tci, .string tcs, .slice tad tcl.length tcd, .slice tak tl.length tck']] W fun e w' => (∃ da dc, e = .returned (.agg #[.int .i64 dk, .int .i64 di, .string ds, .slice da dm.length dc]) ∧ InV w' (fun b => w0.heap.size ≤ b) (.mk dk di ds dm) (.slice da dm.length dc)) ∧ Below W.heap.size W w') := Lib.hid fun W hW => by
    have := hIHj W S _ _ _ (HF1.out.move (fun _ h _ => h) fun b o v hs hc => by
      have := hS b hs
      rw [World.cell?_of_block (w := w) (a := ⟨b, o, none⟩) ((hW.2 b (by have := HS0.out; omega) (by simp; omega)).trans (B0.out.block b this))]; exact hc) (fun b h => by have := hS b h; have := hW.1.size; have := HS0.out; omega) hokj
    rw [hd] at this
    refine this.mono ?_
    rintro e w' ⟨⟨v, he, hv⟩, hb⟩
    obtain ⟨da, dc, e1, _⟩ := id hv.2.2.2
    subst e1
    exact ⟨⟨da, dc, he, hv.to fun b h _ => Nat.le_trans hW.1.size h⟩, hb⟩
  clear hd hIHj hokj hE1
  have hge : ns.length < l.length := by omega
  clear hl1
  have KN : Hid (∀ W, KP w0 (some (w.heap.size + 1)) W → Calls Tryz.prog 64 #[.agg #[.int .i64 8, .string nm, .slice an ns.length cn, .int .i64 ck, .int .i64 ci, .string cs, .slice ad cl.length cd, .slice (some ⟨b', o', none⟩) l.length c]] W fun e w' => (∃ da dc, e = .returned (.slice da (bindT ns (dataTs l)).length dc) ∧ InS w' (fun b => w0.heap.size ≤ b) (bindT ns (dataTs l)) (.slice da (bindT ns (dataTs l)).length dc)) ∧ Below W.heap.size W w') := Lib.hid fun W hW =>
    (bindings_any 8 nm ns ck ci cs cl l IH.out S _ _ _ W (HI0.out W hW).1 (HI0.out W hW).2 HOKS.out hn4 (by omega)).mono fun e w' ⟨⟨v, he, hv⟩, hb⟩ => by
      obtain ⟨da, dc, e1, _⟩ := id hv
      subst e1
      exact ⟨⟨da, dc, he, insTo hv (fun b h _ => Nat.le_trans hW.1.size h)⟩, hb⟩
  have KL : Hid (∀ W, KP w0 (some (w.heap.size + 1)) W → ∀ a n c, Calls Tryz.prog 62 #[.slice a n c] W fun e w' => e = .returned (.agg #[.int .i64 5, .int .i64 0, .string ⟨#[]⟩, .slice a n c]) ∧ Below W.heap.size W w') := Lib.hid fun W _ a n c => list_any a n c W
  have HDT : Hid (dataT (.mk 8 nm ns (.mk ck ci cs cl) l) = listT (symT (wordS 8) :: [.mk 5 0 ⟨#[]⟩ (bindT ns (dataTs l)), .mk dk di ds dm])) := Lib.hid (by rw [dataT]; simp [HLD.out, listT])
  have KFM : Hid (∀ W, KP w0 (some (w.heap.size + 1)) W → ∀ a c, InS W (fun b => w0.heap.size ≤ b) ([.mk 5 0 ⟨#[]⟩ (bindT ns (dataTs l)), .mk dk di ds dm]) (.slice a 2 c) → Calls Tryz.prog 58 #[.int .i64 8, .slice a 2 c] W fun e w' => (∃ a9 c9, e = .returned (.agg #[.int .i64 5, .int .i64 0, .string ⟨#[]⟩, .slice a9 (2 + 1) c9]) ∧ InS w' (fun b => w0.heap.size ≤ b) (symT (wordS 8) :: [.mk 5 0 ⟨#[]⟩ (bindT ns (dataTs l)), .mk dk di ds dm]) (.slice a9 (2 + 1) c9)) ∧ Below W.heap.size W w') := Lib.hid fun W hW a c hv =>
    (form_any 8 ([.mk 5 0 ⟨#[]⟩ (bindT ns (dataTs l)), .mk dk di ds dm]) _ (fun b => w0.heap.size ≤ b) W hv (by simp)).mono fun e w' ⟨⟨v, he, hv⟩, hb⟩ => by
      obtain ⟨h1, h2, h3, h4⟩ := hv
      obtain ⟨a9, c9, e1, _⟩ := id h4
      subst e1
      exact ⟨⟨a9, c9, he, insTo h4 (fun b h _ => h.elim (fun h => h.1) (fun h => Nat.le_trans hW.1.size h))⟩, hb⟩
  have CC : Hid (∀ W, KP w0 (some (w.heap.size + 1)) W → W.cell? ⟨w.heap.size, 0, none⟩ = some (.int .i64 8) ∧ W.cell? ⟨w.heap.size, 1, none⟩ = some (.string nm) ∧ W.cell? ⟨w.heap.size, 2, none⟩ = some (.slice an ns.length cn) ∧ W.cell? ⟨w.heap.size, 3, none⟩ = some (.int .i64 ck) ∧ W.cell? ⟨w.heap.size, 4, none⟩ = some (.int .i64 ci) ∧ W.cell? ⟨w.heap.size, 5, none⟩ = some (.string cs) ∧ W.cell? ⟨w.heap.size, 6, none⟩ = some (.slice ad cl.length cd) ∧ W.cell? ⟨w.heap.size, 7, none⟩ = some (.slice (some ⟨b', o', none⟩) l.length c) ∧ W.cell? ⟨b', o' + ns.length * 8, none⟩ = some (.int .i64 tk) ∧ W.cell? ⟨b', o' + ns.length * 8 + 1, none⟩ = some (.string tn) ∧ W.cell? ⟨b', o' + ns.length * 8 + 2, none⟩ = some (.slice tan tns.length tcn) ∧ W.cell? ⟨b', o' + ns.length * 8 + 3, none⟩ = some (.int .i64 tck) ∧ W.cell? ⟨b', o' + ns.length * 8 + 4, none⟩ = some (.int .i64 tci) ∧ W.cell? ⟨b', o' + ns.length * 8 + 5, none⟩ = some (.string tcs) ∧ W.cell? ⟨b', o' + ns.length * 8 + 6, none⟩ = some (.slice tad tcl.length tcd) ∧ W.cell? ⟨b', o' + ns.length * 8 + 7, none⟩ = some (.slice tak tl.length tck') ∧ KP w0 (some (w.heap.size + 1)) W) := Lib.hid fun W hW => by
    have g := fun o => World.cell?_of_block (w := w) (a := ⟨b', o, none⟩) ((hW.2 b' (by have := HS0.out; omega) (by simp; omega)).trans (B0.out.block b' hb'w))
    have g0 := fun o => World.cell?_of_block (w := w0) (a := ⟨w.heap.size, o, none⟩) (hW.2 w.heap.size (by have := HS0.out; omega) (by simp))
    exact ⟨(g0 _).trans (by rw [Lib.cell_of_heap Z0.out]; rfl), (g0 _).trans (by rw [Lib.cell_of_heap Z0.out]; rfl), (g0 _).trans (by rw [Lib.cell_of_heap Z0.out]; rfl), (g0 _).trans (by rw [Lib.cell_of_heap Z0.out]; rfl), (g0 _).trans (by rw [Lib.cell_of_heap Z0.out]; rfl), (g0 _).trans (by rw [Lib.cell_of_heap Z0.out]; rfl), (g0 _).trans (by rw [Lib.cell_of_heap Z0.out]; rfl), (g0 _).trans (by rw [Lib.cell_of_heap Z0.out]; rfl), (g _).trans a0, (g _).trans a1, (g _).trans a2, (g _).trans a3, (g _).trans a4, (g _).trans a5, (g _).trans a6, (g _).trans a7, hW⟩
  have OF : Hid (∀ W, (W.cell? ⟨w.heap.size, 0, none⟩ = some (.int .i64 8) ∧ W.cell? ⟨w.heap.size, 1, none⟩ = some (.string nm) ∧ W.cell? ⟨w.heap.size, 2, none⟩ = some (.slice an ns.length cn) ∧ W.cell? ⟨w.heap.size, 3, none⟩ = some (.int .i64 ck) ∧ W.cell? ⟨w.heap.size, 4, none⟩ = some (.int .i64 ci) ∧ W.cell? ⟨w.heap.size, 5, none⟩ = some (.string cs) ∧ W.cell? ⟨w.heap.size, 6, none⟩ = some (.slice ad cl.length cd) ∧ W.cell? ⟨w.heap.size, 7, none⟩ = some (.slice (some ⟨b', o', none⟩) l.length c) ∧ W.cell? ⟨b', o' + ns.length * 8, none⟩ = some (.int .i64 tk) ∧ W.cell? ⟨b', o' + ns.length * 8 + 1, none⟩ = some (.string tn) ∧ W.cell? ⟨b', o' + ns.length * 8 + 2, none⟩ = some (.slice tan tns.length tcn) ∧ W.cell? ⟨b', o' + ns.length * 8 + 3, none⟩ = some (.int .i64 tck) ∧ W.cell? ⟨b', o' + ns.length * 8 + 4, none⟩ = some (.int .i64 tci) ∧ W.cell? ⟨b', o' + ns.length * 8 + 5, none⟩ = some (.string tcs) ∧ W.cell? ⟨b', o' + ns.length * 8 + 6, none⟩ = some (.slice tad tcl.length tcd) ∧ W.cell? ⟨b', o' + ns.length * 8 + 7, none⟩ = some (.slice tak tl.length tck') ∧ KP w0 (some (w.heap.size + 1)) W) → KP w0 (some (w.heap.size + 1)) W) := Lib.hid fun W h => h.2.2.2.2.2.2.2.2.2.2.2.2.2.2.2.2
  have KP0 := KP.refl w0 (some (w.heap.size + 1))
  go_enter Tryz.func34, Tryz.ntmps34
  go_wp2
  rw [HW0.out]
  go_region_held3 (fun W => W.cell? ⟨w.heap.size, 0, none⟩ = some (.int .i64 8) ∧ W.cell? ⟨w.heap.size, 1, none⟩ = some (.string nm) ∧ W.cell? ⟨w.heap.size, 2, none⟩ = some (.slice an ns.length cn) ∧ W.cell? ⟨w.heap.size, 3, none⟩ = some (.int .i64 ck) ∧ W.cell? ⟨w.heap.size, 4, none⟩ = some (.int .i64 ci) ∧ W.cell? ⟨w.heap.size, 5, none⟩ = some (.string cs) ∧ W.cell? ⟨w.heap.size, 6, none⟩ = some (.slice ad cl.length cd) ∧ W.cell? ⟨w.heap.size, 7, none⟩ = some (.slice (some ⟨b', o', none⟩) l.length c) ∧ W.cell? ⟨b', o' + ns.length * 8, none⟩ = some (.int .i64 tk) ∧ W.cell? ⟨b', o' + ns.length * 8 + 1, none⟩ = some (.string tn) ∧ W.cell? ⟨b', o' + ns.length * 8 + 2, none⟩ = some (.slice tan tns.length tcn) ∧ W.cell? ⟨b', o' + ns.length * 8 + 3, none⟩ = some (.int .i64 tck) ∧ W.cell? ⟨b', o' + ns.length * 8 + 4, none⟩ = some (.int .i64 tci) ∧ W.cell? ⟨b', o' + ns.length * 8 + 5, none⟩ = some (.string tcs) ∧ W.cell? ⟨b', o' + ns.length * 8 + 6, none⟩ = some (.slice tad tcl.length tcd) ∧ W.cell? ⟨b', o' + ns.length * 8 + 7, none⟩ = some (.slice tak tl.length tck') ∧ KP w0 (some (w.heap.size + 1)) W)
    (first | (with_reducible exact CC.out _ (by assumption)) | (with_reducible exact CC.out _ (KP.drewn (by assumption))) | (with_reducible exact CC.out _ (KP.alloc (by assumption) _)) | (with_reducible exact CC.out _ (KP.alloc (KP.drewn (by assumption)) _)) | (with_reducible exact CC.out _ (dat_put (by assumption) _ _ _ _)) | (with_reducible exact CC.out _ (KP.alloc (OF.out _ (by assumption)) _)))
    (first
          | (go_at_call 64; refine (KN.out _ (OF.out _ (by assumption))).mono ?_; rintro e w3 ⟨⟨da3, dc3, rfl, hv3⟩, hb3⟩; have kp3 := KP.next (OF.out _ (by assumption)) hb3; (first | (have BW := Lib.hid (BW.out.trans (hb3.mono BW.out.size))) | (have BW := Lib.hid ((BW.out.alloc BW.out.size _).trans (hb3.mono (BW.out.alloc BW.out.size _).size)))); (try (first | (have HN := Lib.hid (insNext hb3 HN.out)) | (have HN := Lib.hid (insNext hb3 (insAlloc HN.out _))))); (try (first | (have HD := Lib.hid (insNext hb3 HD.out)) | (have HD := Lib.hid (insNext hb3 (insAlloc HD.out _))))); have HN := Lib.hid hv3; clear hv3; clear hb3)
          | (go_at_call 62; refine (KL.out _ (OF.out _ (by assumption)) _ _ _).mono ?_; rintro e w4 ⟨rfl, hb4⟩; have kp4 := KP.next (OF.out _ (by assumption)) hb4; (first | (have BW := Lib.hid (BW.out.trans (hb4.mono BW.out.size))) | (have BW := Lib.hid ((BW.out.alloc BW.out.size _).trans (hb4.mono (BW.out.alloc BW.out.size _).size)))); (try (first | (have HN := Lib.hid (insNext hb4 HN.out)) | (have HN := Lib.hid (insNext hb4 (insAlloc HN.out _))))); (try (first | (have HD := Lib.hid (insNext hb4 HD.out)) | (have HD := Lib.hid (insNext hb4 (insAlloc HD.out _))))); clear hb4)
          | (go_at_call 34; refine (KT.out _ (OF.out _ (by assumption))).mono ?_; rintro e w7 ⟨⟨da7, dc7, rfl, hv7⟩, hb7⟩; have kp7 := KP.next (OF.out _ (by assumption)) hb7; (first | (have BW := Lib.hid (BW.out.trans (hb7.mono BW.out.size))) | (have BW := Lib.hid ((BW.out.alloc BW.out.size _).trans (hb7.mono (BW.out.alloc BW.out.size _).size)))); (try (first | (have HN := Lib.hid (insNext hb7 HN.out)) | (have HN := Lib.hid (insNext hb7 (insAlloc HN.out _))))); (try (first | (have HD := Lib.hid (insNext hb7 HD.out)) | (have HD := Lib.hid (insNext hb7 (insAlloc HD.out _))))); have HC := Lib.hid (And.intro hv7.1 (And.intro hv7.2.1 hv7.2.2.1)); have HD := Lib.hid hv7.2.2.2; clear hv7; clear hb7)
          | (go_at_call 58; refine (KFM.out _ (OF.out _ (by assumption)) _ _ (two_ins (heap_alloc_new _ _) ⟨⟨by decide, by decide⟩, ⟨by decide, by decide⟩, by decide, insAlloc HN.out _⟩ ⟨HC.out.1, HC.out.2.1, HC.out.2.2, insAlloc HD.out _⟩ BW.out.size)).mono ?_; rintro e w9 ⟨⟨a9, c9, rfl, hv9⟩, hb9⟩; have kp9 := KP.next (OF.out _ (by assumption)) hb9; (first | (have BW := Lib.hid (BW.out.trans (hb9.mono BW.out.size))) | (have BW := Lib.hid ((BW.out.alloc BW.out.size _).trans (hb9.mono (BW.out.alloc BW.out.size _).size)))); (try (first | (have HN := Lib.hid (insNext hb9 HN.out)) | (have HN := Lib.hid (insNext hb9 (insAlloc HN.out _))))); (try (first | (have HD := Lib.hid (insNext hb9 HD.out)) | (have HD := Lib.hid (insNext hb9 (insAlloc HD.out _))))); have HV9 := Lib.hid hv9; obtain ⟨⟨p0, p1, p2, p3⟩, q0, q1, q2, q3⟩ := look4 ((BW.out.block (w.heap.size + 1) (by have := HS0.out; omega)).trans Z1.out); clear hv9; clear hb9))
  all_goals
    have FIN := Lib.hid (dat_end (k := 5) (i := 0) (s := ⟨#[]⟩) (m := symT (wordS 8) :: [.mk 5 0 ⟨#[]⟩ (bindT ns (dataTs l)), .mk dk di ds dm]) B0.out HS0.out Z1.out BW.out ⟨⟨by decide, by decide⟩, ⟨by decide, by decide⟩, by decide, HV9.out⟩)
    clear CC OF KP0 KFM
    go_wp2
    exact bodyPost_ret (results_cell_row (P := Tryz.prog) rfl _ _ (w.heap.size + 1) 25 _ (0, 0) _ rfl FIN.out.1 Tryz.underlying25 rfl (by kernel_rfl)) rfl ⟨⟨_, by rw [HDT.out]; rfl, by rw [HDT.out]; exact FIN.out.2.1⟩, FIN.out.2.2⟩
end Go.Proofs.YtjofdlnopchaeaaGreatDoor.Core

/-
Package core's datumOf, at kind 9. No condition.
-/
namespace Go.Proofs.YtjofdlnopchaeaaGreatDoor.Core
open Go.ChangeShapes Go.WideShapes Go.ChangeAt Go.RowKit Go.Deep
open Dat (PT ok64 RepV RepS RowX infoDatum NewV NewS NewD)
set_option maxRecDepth 100000

set_option maxHeartbeats 4000000 in
theorem datum_9 (nm : ByteArray) (ns : List ByteArray) (ck ci : Int) (cs : ByteArray) (cl : List PT) (l : List PE) (ih : ∀ t ∈ l, DatumOk t) (S : Nat → Prop) (vn vd vk : Value) (w : World) (h : InF w S (.mk 9 nm ns (.mk ck ci cs cl) l) vn vd vk) (hS : ∀ b, S b → b < w.heap.size) (hok : okE (.mk 9 nm ns (.mk ck ci cs cl) l)) :
    Calls Tryz.prog 34 #[(PE.mk 9 nm ns (.mk ck ci cs cl) l).val vn vd vk] w fun e w' => DatIs (fun b => w.heap.size ≤ b) (dataT (.mk 9 nm ns (.mk ck ci cs cl) l)) e w' ∧ Below w.heap.size w w' := by
  have HI := Lib.hid h
  have IH := Lib.hid ih
  rw [okE] at hok
  obtain ⟨hform, hn4, hl4, hoks⟩ := hok
  have HOKS := Lib.hid hoks
  have HFORM := Lib.hid hform
  have HNMS := Lib.hid h.1.2.1
  obtain ⟨⟨_, _, an, cn, rfl, hln, hmn, _⟩, ⟨_, _, _, ad, cd, rfl, hld, hmd, _⟩, ak, c, rfl, hl, hm, _⟩ := h
  unfold maxLen at hmn hm hmd
  show Calls Tryz.prog 34 #[.agg #[.int .i64 9, .string nm, .slice an ns.length cn, .int .i64 ck, .int .i64 ci, .string cs, .slice ad cl.length cd, .slice ak l.length c]] w _
  obtain ⟨z0, z1, zb⟩ := two_new w (.cells #[.int .i64 9, .string nm, .slice an ns.length cn, .int .i64 ck, .int .i64 ci, .string cs, .slice ad cl.length cd, .slice ak l.length c] 28) (.cells #[.int .i64 0, .int .i64 0, .string ⟨#[]⟩, .slice none 0 0] 25)
  generalize hw0 : (w.alloc (.cells #[.int .i64 9, .string nm, .slice an ns.length cn, .int .i64 ck, .int .i64 ci, .string cs, .slice ad cl.length cd, .slice ak l.length c] 28)).alloc (.cells #[.int .i64 0, .int .i64 0, .string ⟨#[]⟩, .slice none 0 0] 25) = w0 at z0 z1 zb
  have HW0 := Lib.hid hw0
  have Z0 := Lib.hid z0
  have Z1 := Lib.hid z1
  have B0 := Lib.hid zb
  have HS0 : Hid (w0.heap.size = w.heap.size + 2) := Lib.hid (by rw [← hw0, size_new, size_new])
  have HI0 : Hid (∀ W, KP w0 (some (w.heap.size + 1)) W → InF W S (.mk 9 nm ns (.mk ck ci cs cl) l) (.slice an ns.length cn) (.slice ad cl.length cd) (.slice ak l.length c) ∧ ∀ b, S b → b < W.heap.size) := Lib.hid fun W hW =>
    ⟨HI.out.move (fun _ h _ => h) fun b o v hs hc => by
      have := hS b hs
      rw [World.cell?_of_block (w := w) (a := ⟨b, o, none⟩) ((hW.2 b (by have := HS0.out; omega) (by simp; omega)).trans (B0.out.block b this))]; exact hc, fun b h => by have := hS b h; have := hW.1.size; have := HS0.out; omega⟩
  have BW : Hid (Below w0.heap.size w0 w0.drew) := Lib.hid (Below.refl _ _).drew
  clear hw0 z0 z1 zb ih hform hoks
  have hl1 : l.length = ns.length + 1 := by
    have h := HFORM.out
    unfold formE kidsB at h
    simp at h
    exact h.1
  obtain ⟨b', o', c', ea, _, _, hS1, hE1⟩ := HI.out.2.2.item (ns.length) (by omega)
  cases ea
  have hb'w : b' < w.heap.size := hS b' hS1
  have hIHj := IH.out l[ns.length] (List.getElem_mem _)
  have hokj := okEs_mem HOKS.out l[ns.length] (List.getElem_mem _)
  have HLD := Lib.hid (show (dataTs l).drop ns.length = [dataT l[ns.length]] from drop_data hl1)
  generalize l[ns.length] = t at hE1 hIHj hokj HLD
  obtain ⟨tk, tn, tns, ⟨tck, tci, tcs, tcl⟩, tl⟩ := t
  obtain ⟨tvn, tvd, tvk, hF1, a0, a1, a2, a3, a4, a5, a6, a7⟩ := hE1.cells
  have HF1 := Lib.hid hF1
  obtain ⟨⟨_, _, hn1'⟩, ⟨_, _, _, hd1'⟩, hk1'⟩ := hF1
  obtain ⟨tan, tcn, rfl, -⟩ := hn1'
  obtain ⟨tad, tcd, rfl, -⟩ := hd1'
  obtain ⟨tak, tck', rfl, -⟩ := hk1'
  generalize hd : dataT (.mk tk tn tns (.mk tck tci tcs tcl) tl) = d at HLD
  obtain ⟨dk, di, ds, dm⟩ := d
  have KT : Hid (∀ W, KP w0 (some (w.heap.size + 1)) W → Calls Tryz.prog 34 #[.agg #[.int .i64 tk, .string tn, .slice tan tns.length tcn, .int .i64 tck, .int .i64 tci, .string tcs, .slice tad tcl.length tcd, .slice tak tl.length tck']] W fun e w' => (∃ da dc, e = .returned (.agg #[.int .i64 dk, .int .i64 di, .string ds, .slice da dm.length dc]) ∧ InV w' (fun b => w0.heap.size ≤ b) (.mk dk di ds dm) (.slice da dm.length dc)) ∧ Below W.heap.size W w') := Lib.hid fun W hW => by
    have := hIHj W S _ _ _ (HF1.out.move (fun _ h _ => h) fun b o v hs hc => by
      have := hS b hs
      rw [World.cell?_of_block (w := w) (a := ⟨b, o, none⟩) ((hW.2 b (by have := HS0.out; omega) (by simp; omega)).trans (B0.out.block b this))]; exact hc) (fun b h => by have := hS b h; have := hW.1.size; have := HS0.out; omega) hokj
    rw [hd] at this
    refine this.mono ?_
    rintro e w' ⟨⟨v, he, hv⟩, hb⟩
    obtain ⟨da, dc, e1, _⟩ := id hv.2.2.2
    subst e1
    exact ⟨⟨da, dc, he, hv.to fun b h _ => Nat.le_trans hW.1.size h⟩, hb⟩
  clear hd hIHj hokj hE1
  have hge : ns.length < l.length := by omega
  clear hl1
  have KN : Hid (∀ W, KP w0 (some (w.heap.size + 1)) W → Calls Tryz.prog 64 #[.agg #[.int .i64 9, .string nm, .slice an ns.length cn, .int .i64 ck, .int .i64 ci, .string cs, .slice ad cl.length cd, .slice (some ⟨b', o', none⟩) l.length c]] W fun e w' => (∃ da dc, e = .returned (.slice da (bindT ns (dataTs l)).length dc) ∧ InS w' (fun b => w0.heap.size ≤ b) (bindT ns (dataTs l)) (.slice da (bindT ns (dataTs l)).length dc)) ∧ Below W.heap.size W w') := Lib.hid fun W hW =>
    (bindings_any 9 nm ns ck ci cs cl l IH.out S _ _ _ W (HI0.out W hW).1 (HI0.out W hW).2 HOKS.out hn4 (by omega)).mono fun e w' ⟨⟨v, he, hv⟩, hb⟩ => by
      obtain ⟨da, dc, e1, _⟩ := id hv
      subst e1
      exact ⟨⟨da, dc, he, insTo hv (fun b h _ => Nat.le_trans hW.1.size h)⟩, hb⟩
  have KL : Hid (∀ W, KP w0 (some (w.heap.size + 1)) W → ∀ a n c, Calls Tryz.prog 62 #[.slice a n c] W fun e w' => e = .returned (.agg #[.int .i64 5, .int .i64 0, .string ⟨#[]⟩, .slice a n c]) ∧ Below W.heap.size W w') := Lib.hid fun W _ a n c => list_any a n c W
  have HDT : Hid (dataT (.mk 9 nm ns (.mk ck ci cs cl) l) = listT (symT (wordS 9) :: [.mk 5 0 ⟨#[]⟩ (bindT ns (dataTs l)), .mk dk di ds dm])) := Lib.hid (by rw [dataT]; simp [HLD.out, listT])
  have KFM : Hid (∀ W, KP w0 (some (w.heap.size + 1)) W → ∀ a c, InS W (fun b => w0.heap.size ≤ b) ([.mk 5 0 ⟨#[]⟩ (bindT ns (dataTs l)), .mk dk di ds dm]) (.slice a 2 c) → Calls Tryz.prog 58 #[.int .i64 9, .slice a 2 c] W fun e w' => (∃ a9 c9, e = .returned (.agg #[.int .i64 5, .int .i64 0, .string ⟨#[]⟩, .slice a9 (2 + 1) c9]) ∧ InS w' (fun b => w0.heap.size ≤ b) (symT (wordS 9) :: [.mk 5 0 ⟨#[]⟩ (bindT ns (dataTs l)), .mk dk di ds dm]) (.slice a9 (2 + 1) c9)) ∧ Below W.heap.size W w') := Lib.hid fun W hW a c hv =>
    (form_any 9 ([.mk 5 0 ⟨#[]⟩ (bindT ns (dataTs l)), .mk dk di ds dm]) _ (fun b => w0.heap.size ≤ b) W hv (by simp)).mono fun e w' ⟨⟨v, he, hv⟩, hb⟩ => by
      obtain ⟨h1, h2, h3, h4⟩ := hv
      obtain ⟨a9, c9, e1, _⟩ := id h4
      subst e1
      exact ⟨⟨a9, c9, he, insTo h4 (fun b h _ => h.elim (fun h => h.1) (fun h => Nat.le_trans hW.1.size h))⟩, hb⟩
  have CC : Hid (∀ W, KP w0 (some (w.heap.size + 1)) W → W.cell? ⟨w.heap.size, 0, none⟩ = some (.int .i64 9) ∧ W.cell? ⟨w.heap.size, 1, none⟩ = some (.string nm) ∧ W.cell? ⟨w.heap.size, 2, none⟩ = some (.slice an ns.length cn) ∧ W.cell? ⟨w.heap.size, 3, none⟩ = some (.int .i64 ck) ∧ W.cell? ⟨w.heap.size, 4, none⟩ = some (.int .i64 ci) ∧ W.cell? ⟨w.heap.size, 5, none⟩ = some (.string cs) ∧ W.cell? ⟨w.heap.size, 6, none⟩ = some (.slice ad cl.length cd) ∧ W.cell? ⟨w.heap.size, 7, none⟩ = some (.slice (some ⟨b', o', none⟩) l.length c) ∧ W.cell? ⟨b', o' + ns.length * 8, none⟩ = some (.int .i64 tk) ∧ W.cell? ⟨b', o' + ns.length * 8 + 1, none⟩ = some (.string tn) ∧ W.cell? ⟨b', o' + ns.length * 8 + 2, none⟩ = some (.slice tan tns.length tcn) ∧ W.cell? ⟨b', o' + ns.length * 8 + 3, none⟩ = some (.int .i64 tck) ∧ W.cell? ⟨b', o' + ns.length * 8 + 4, none⟩ = some (.int .i64 tci) ∧ W.cell? ⟨b', o' + ns.length * 8 + 5, none⟩ = some (.string tcs) ∧ W.cell? ⟨b', o' + ns.length * 8 + 6, none⟩ = some (.slice tad tcl.length tcd) ∧ W.cell? ⟨b', o' + ns.length * 8 + 7, none⟩ = some (.slice tak tl.length tck') ∧ KP w0 (some (w.heap.size + 1)) W) := Lib.hid fun W hW => by
    have g := fun o => World.cell?_of_block (w := w) (a := ⟨b', o, none⟩) ((hW.2 b' (by have := HS0.out; omega) (by simp; omega)).trans (B0.out.block b' hb'w))
    have g0 := fun o => World.cell?_of_block (w := w0) (a := ⟨w.heap.size, o, none⟩) (hW.2 w.heap.size (by have := HS0.out; omega) (by simp))
    exact ⟨(g0 _).trans (by rw [Lib.cell_of_heap Z0.out]; rfl), (g0 _).trans (by rw [Lib.cell_of_heap Z0.out]; rfl), (g0 _).trans (by rw [Lib.cell_of_heap Z0.out]; rfl), (g0 _).trans (by rw [Lib.cell_of_heap Z0.out]; rfl), (g0 _).trans (by rw [Lib.cell_of_heap Z0.out]; rfl), (g0 _).trans (by rw [Lib.cell_of_heap Z0.out]; rfl), (g0 _).trans (by rw [Lib.cell_of_heap Z0.out]; rfl), (g0 _).trans (by rw [Lib.cell_of_heap Z0.out]; rfl), (g _).trans a0, (g _).trans a1, (g _).trans a2, (g _).trans a3, (g _).trans a4, (g _).trans a5, (g _).trans a6, (g _).trans a7, hW⟩
  have OF : Hid (∀ W, (W.cell? ⟨w.heap.size, 0, none⟩ = some (.int .i64 9) ∧ W.cell? ⟨w.heap.size, 1, none⟩ = some (.string nm) ∧ W.cell? ⟨w.heap.size, 2, none⟩ = some (.slice an ns.length cn) ∧ W.cell? ⟨w.heap.size, 3, none⟩ = some (.int .i64 ck) ∧ W.cell? ⟨w.heap.size, 4, none⟩ = some (.int .i64 ci) ∧ W.cell? ⟨w.heap.size, 5, none⟩ = some (.string cs) ∧ W.cell? ⟨w.heap.size, 6, none⟩ = some (.slice ad cl.length cd) ∧ W.cell? ⟨w.heap.size, 7, none⟩ = some (.slice (some ⟨b', o', none⟩) l.length c) ∧ W.cell? ⟨b', o' + ns.length * 8, none⟩ = some (.int .i64 tk) ∧ W.cell? ⟨b', o' + ns.length * 8 + 1, none⟩ = some (.string tn) ∧ W.cell? ⟨b', o' + ns.length * 8 + 2, none⟩ = some (.slice tan tns.length tcn) ∧ W.cell? ⟨b', o' + ns.length * 8 + 3, none⟩ = some (.int .i64 tck) ∧ W.cell? ⟨b', o' + ns.length * 8 + 4, none⟩ = some (.int .i64 tci) ∧ W.cell? ⟨b', o' + ns.length * 8 + 5, none⟩ = some (.string tcs) ∧ W.cell? ⟨b', o' + ns.length * 8 + 6, none⟩ = some (.slice tad tcl.length tcd) ∧ W.cell? ⟨b', o' + ns.length * 8 + 7, none⟩ = some (.slice tak tl.length tck') ∧ KP w0 (some (w.heap.size + 1)) W) → KP w0 (some (w.heap.size + 1)) W) := Lib.hid fun W h => h.2.2.2.2.2.2.2.2.2.2.2.2.2.2.2.2
  have KP0 := KP.refl w0 (some (w.heap.size + 1))
  go_enter Tryz.func34, Tryz.ntmps34
  go_wp2
  rw [HW0.out]
  go_region_held3 (fun W => W.cell? ⟨w.heap.size, 0, none⟩ = some (.int .i64 9) ∧ W.cell? ⟨w.heap.size, 1, none⟩ = some (.string nm) ∧ W.cell? ⟨w.heap.size, 2, none⟩ = some (.slice an ns.length cn) ∧ W.cell? ⟨w.heap.size, 3, none⟩ = some (.int .i64 ck) ∧ W.cell? ⟨w.heap.size, 4, none⟩ = some (.int .i64 ci) ∧ W.cell? ⟨w.heap.size, 5, none⟩ = some (.string cs) ∧ W.cell? ⟨w.heap.size, 6, none⟩ = some (.slice ad cl.length cd) ∧ W.cell? ⟨w.heap.size, 7, none⟩ = some (.slice (some ⟨b', o', none⟩) l.length c) ∧ W.cell? ⟨b', o' + ns.length * 8, none⟩ = some (.int .i64 tk) ∧ W.cell? ⟨b', o' + ns.length * 8 + 1, none⟩ = some (.string tn) ∧ W.cell? ⟨b', o' + ns.length * 8 + 2, none⟩ = some (.slice tan tns.length tcn) ∧ W.cell? ⟨b', o' + ns.length * 8 + 3, none⟩ = some (.int .i64 tck) ∧ W.cell? ⟨b', o' + ns.length * 8 + 4, none⟩ = some (.int .i64 tci) ∧ W.cell? ⟨b', o' + ns.length * 8 + 5, none⟩ = some (.string tcs) ∧ W.cell? ⟨b', o' + ns.length * 8 + 6, none⟩ = some (.slice tad tcl.length tcd) ∧ W.cell? ⟨b', o' + ns.length * 8 + 7, none⟩ = some (.slice tak tl.length tck') ∧ KP w0 (some (w.heap.size + 1)) W)
    (first | (with_reducible exact CC.out _ (by assumption)) | (with_reducible exact CC.out _ (KP.drewn (by assumption))) | (with_reducible exact CC.out _ (KP.alloc (by assumption) _)) | (with_reducible exact CC.out _ (KP.alloc (KP.drewn (by assumption)) _)) | (with_reducible exact CC.out _ (dat_put (by assumption) _ _ _ _)) | (with_reducible exact CC.out _ (KP.alloc (OF.out _ (by assumption)) _)))
    (first
          | (go_at_call 64; refine (KN.out _ (OF.out _ (by assumption))).mono ?_; rintro e w3 ⟨⟨da3, dc3, rfl, hv3⟩, hb3⟩; have kp3 := KP.next (OF.out _ (by assumption)) hb3; (first | (have BW := Lib.hid (BW.out.trans (hb3.mono BW.out.size))) | (have BW := Lib.hid ((BW.out.alloc BW.out.size _).trans (hb3.mono (BW.out.alloc BW.out.size _).size)))); (try (first | (have HN := Lib.hid (insNext hb3 HN.out)) | (have HN := Lib.hid (insNext hb3 (insAlloc HN.out _))))); (try (first | (have HD := Lib.hid (insNext hb3 HD.out)) | (have HD := Lib.hid (insNext hb3 (insAlloc HD.out _))))); have HN := Lib.hid hv3; clear hv3; clear hb3)
          | (go_at_call 62; refine (KL.out _ (OF.out _ (by assumption)) _ _ _).mono ?_; rintro e w4 ⟨rfl, hb4⟩; have kp4 := KP.next (OF.out _ (by assumption)) hb4; (first | (have BW := Lib.hid (BW.out.trans (hb4.mono BW.out.size))) | (have BW := Lib.hid ((BW.out.alloc BW.out.size _).trans (hb4.mono (BW.out.alloc BW.out.size _).size)))); (try (first | (have HN := Lib.hid (insNext hb4 HN.out)) | (have HN := Lib.hid (insNext hb4 (insAlloc HN.out _))))); (try (first | (have HD := Lib.hid (insNext hb4 HD.out)) | (have HD := Lib.hid (insNext hb4 (insAlloc HD.out _))))); clear hb4)
          | (go_at_call 34; refine (KT.out _ (OF.out _ (by assumption))).mono ?_; rintro e w7 ⟨⟨da7, dc7, rfl, hv7⟩, hb7⟩; have kp7 := KP.next (OF.out _ (by assumption)) hb7; (first | (have BW := Lib.hid (BW.out.trans (hb7.mono BW.out.size))) | (have BW := Lib.hid ((BW.out.alloc BW.out.size _).trans (hb7.mono (BW.out.alloc BW.out.size _).size)))); (try (first | (have HN := Lib.hid (insNext hb7 HN.out)) | (have HN := Lib.hid (insNext hb7 (insAlloc HN.out _))))); (try (first | (have HD := Lib.hid (insNext hb7 HD.out)) | (have HD := Lib.hid (insNext hb7 (insAlloc HD.out _))))); have HC := Lib.hid (And.intro hv7.1 (And.intro hv7.2.1 hv7.2.2.1)); have HD := Lib.hid hv7.2.2.2; clear hv7; clear hb7)
          | (go_at_call 58; refine (KFM.out _ (OF.out _ (by assumption)) _ _ (two_ins (heap_alloc_new _ _) ⟨⟨by decide, by decide⟩, ⟨by decide, by decide⟩, by decide, insAlloc HN.out _⟩ ⟨HC.out.1, HC.out.2.1, HC.out.2.2, insAlloc HD.out _⟩ BW.out.size)).mono ?_; rintro e w9 ⟨⟨a9, c9, rfl, hv9⟩, hb9⟩; have kp9 := KP.next (OF.out _ (by assumption)) hb9; (first | (have BW := Lib.hid (BW.out.trans (hb9.mono BW.out.size))) | (have BW := Lib.hid ((BW.out.alloc BW.out.size _).trans (hb9.mono (BW.out.alloc BW.out.size _).size)))); (try (first | (have HN := Lib.hid (insNext hb9 HN.out)) | (have HN := Lib.hid (insNext hb9 (insAlloc HN.out _))))); (try (first | (have HD := Lib.hid (insNext hb9 HD.out)) | (have HD := Lib.hid (insNext hb9 (insAlloc HD.out _))))); have HV9 := Lib.hid hv9; obtain ⟨⟨p0, p1, p2, p3⟩, q0, q1, q2, q3⟩ := look4 ((BW.out.block (w.heap.size + 1) (by have := HS0.out; omega)).trans Z1.out); clear hv9; clear hb9))
  all_goals
    have FIN := Lib.hid (dat_end (k := 5) (i := 0) (s := ⟨#[]⟩) (m := symT (wordS 9) :: [.mk 5 0 ⟨#[]⟩ (bindT ns (dataTs l)), .mk dk di ds dm]) B0.out HS0.out Z1.out BW.out ⟨⟨by decide, by decide⟩, ⟨by decide, by decide⟩, by decide, HV9.out⟩)
    clear CC OF KP0 KFM
    go_wp2
    exact bodyPost_ret (results_cell_row (P := Tryz.prog) rfl _ _ (w.heap.size + 1) 25 _ (0, 0) _ rfl FIN.out.1 Tryz.underlying25 rfl (by kernel_rfl)) rfl ⟨⟨_, by rw [HDT.out]; rfl, by rw [HDT.out]; exact FIN.out.2.1⟩, FIN.out.2.2⟩
end Go.Proofs.YtjofdlnopchaeaaGreatDoor.Core

/-
Package core's datumOf, at kind 10. No condition.
-/
namespace Go.Proofs.YtjofdlnopchaeaaGreatDoor.Core
open Go.ChangeShapes Go.WideShapes Go.ChangeAt Go.RowKit Go.Deep
open Dat (PT ok64 RepV RepS RowX infoDatum NewV NewS NewD)
set_option maxRecDepth 100000

set_option maxHeartbeats 4000000 in
theorem datum_10 (nm : ByteArray) (ns : List ByteArray) (ck ci : Int) (cs : ByteArray) (cl : List PT) (l : List PE) (ih : ∀ t ∈ l, DatumOk t) (S : Nat → Prop) (vn vd vk : Value) (w : World) (h : InF w S (.mk 10 nm ns (.mk ck ci cs cl) l) vn vd vk) (hS : ∀ b, S b → b < w.heap.size) (hok : okE (.mk 10 nm ns (.mk ck ci cs cl) l)) :
    Calls Tryz.prog 34 #[(PE.mk 10 nm ns (.mk ck ci cs cl) l).val vn vd vk] w fun e w' => DatIs (fun b => w.heap.size ≤ b) (dataT (.mk 10 nm ns (.mk ck ci cs cl) l)) e w' ∧ Below w.heap.size w w' := by
  have HI := Lib.hid h
  have IH := Lib.hid ih
  rw [okE] at hok
  obtain ⟨hform, hn4, hl4, hoks⟩ := hok
  have HOKS := Lib.hid hoks
  have HFORM := Lib.hid hform
  have HNMS := Lib.hid h.1.2.1
  obtain ⟨⟨_, _, an, cn, rfl, hln, hmn, _⟩, ⟨_, _, _, ad, cd, rfl, hld, hmd, _⟩, ak, c, rfl, hl, hm, _⟩ := h
  unfold maxLen at hmn hm hmd
  show Calls Tryz.prog 34 #[.agg #[.int .i64 10, .string nm, .slice an ns.length cn, .int .i64 ck, .int .i64 ci, .string cs, .slice ad cl.length cd, .slice ak l.length c]] w _
  obtain ⟨z0, z1, zb⟩ := two_new w (.cells #[.int .i64 10, .string nm, .slice an ns.length cn, .int .i64 ck, .int .i64 ci, .string cs, .slice ad cl.length cd, .slice ak l.length c] 28) (.cells #[.int .i64 0, .int .i64 0, .string ⟨#[]⟩, .slice none 0 0] 25)
  generalize hw0 : (w.alloc (.cells #[.int .i64 10, .string nm, .slice an ns.length cn, .int .i64 ck, .int .i64 ci, .string cs, .slice ad cl.length cd, .slice ak l.length c] 28)).alloc (.cells #[.int .i64 0, .int .i64 0, .string ⟨#[]⟩, .slice none 0 0] 25) = w0 at z0 z1 zb
  have HW0 := Lib.hid hw0
  have Z0 := Lib.hid z0
  have Z1 := Lib.hid z1
  have B0 := Lib.hid zb
  have HS0 : Hid (w0.heap.size = w.heap.size + 2) := Lib.hid (by rw [← hw0, size_new, size_new])
  have HI0 : Hid (∀ W, KP w0 (some (w.heap.size + 1)) W → InF W S (.mk 10 nm ns (.mk ck ci cs cl) l) (.slice an ns.length cn) (.slice ad cl.length cd) (.slice ak l.length c) ∧ ∀ b, S b → b < W.heap.size) := Lib.hid fun W hW =>
    ⟨HI.out.move (fun _ h _ => h) fun b o v hs hc => by
      have := hS b hs
      rw [World.cell?_of_block (w := w) (a := ⟨b, o, none⟩) ((hW.2 b (by have := HS0.out; omega) (by simp; omega)).trans (B0.out.block b this))]; exact hc, fun b h => by have := hS b h; have := hW.1.size; have := HS0.out; omega⟩
  have BW : Hid (Below w0.heap.size w0 w0.drew) := Lib.hid (Below.refl _ _).drew
  clear hw0 z0 z1 zb ih hform hoks
  have hl1 : l.length = ns.length + 1 := by
    have h := HFORM.out
    unfold formE kidsB at h
    simp at h
    exact h.1.1.2
  obtain ⟨b', o', c', ea, _, _, hS1, hE1⟩ := HI.out.2.2.item (ns.length) (by omega)
  cases ea
  have hb'w : b' < w.heap.size := hS b' hS1
  have hIHj := IH.out l[ns.length] (List.getElem_mem _)
  have hokj := okEs_mem HOKS.out l[ns.length] (List.getElem_mem _)
  have HLD := Lib.hid (show (dataTs l).drop ns.length = [dataT l[ns.length]] from drop_data hl1)
  generalize l[ns.length] = t at hE1 hIHj hokj HLD
  obtain ⟨tk, tn, tns, ⟨tck, tci, tcs, tcl⟩, tl⟩ := t
  obtain ⟨tvn, tvd, tvk, hF1, a0, a1, a2, a3, a4, a5, a6, a7⟩ := hE1.cells
  have HF1 := Lib.hid hF1
  obtain ⟨⟨_, _, hn1'⟩, ⟨_, _, _, hd1'⟩, hk1'⟩ := hF1
  obtain ⟨tan, tcn, rfl, -⟩ := hn1'
  obtain ⟨tad, tcd, rfl, -⟩ := hd1'
  obtain ⟨tak, tck', rfl, -⟩ := hk1'
  generalize hd : dataT (.mk tk tn tns (.mk tck tci tcs tcl) tl) = d at HLD
  obtain ⟨dk, di, ds, dm⟩ := d
  have KT : Hid (∀ W, KP w0 (some (w.heap.size + 1)) W → Calls Tryz.prog 34 #[.agg #[.int .i64 tk, .string tn, .slice tan tns.length tcn, .int .i64 tck, .int .i64 tci, .string tcs, .slice tad tcl.length tcd, .slice tak tl.length tck']] W fun e w' => (∃ da dc, e = .returned (.agg #[.int .i64 dk, .int .i64 di, .string ds, .slice da dm.length dc]) ∧ InV w' (fun b => w0.heap.size ≤ b) (.mk dk di ds dm) (.slice da dm.length dc)) ∧ Below W.heap.size W w') := Lib.hid fun W hW => by
    have := hIHj W S _ _ _ (HF1.out.move (fun _ h _ => h) fun b o v hs hc => by
      have := hS b hs
      rw [World.cell?_of_block (w := w) (a := ⟨b, o, none⟩) ((hW.2 b (by have := HS0.out; omega) (by simp; omega)).trans (B0.out.block b this))]; exact hc) (fun b h => by have := hS b h; have := hW.1.size; have := HS0.out; omega) hokj
    rw [hd] at this
    refine this.mono ?_
    rintro e w' ⟨⟨v, he, hv⟩, hb⟩
    obtain ⟨da, dc, e1, _⟩ := id hv.2.2.2
    subst e1
    exact ⟨⟨da, dc, he, hv.to fun b h _ => Nat.le_trans hW.1.size h⟩, hb⟩
  clear hd hIHj hokj hE1
  have hge : ns.length < l.length := by omega
  clear hl1
  have KN : Hid (∀ W, KP w0 (some (w.heap.size + 1)) W → Calls Tryz.prog 64 #[.agg #[.int .i64 10, .string nm, .slice an ns.length cn, .int .i64 ck, .int .i64 ci, .string cs, .slice ad cl.length cd, .slice (some ⟨b', o', none⟩) l.length c]] W fun e w' => (∃ da dc, e = .returned (.slice da (bindT ns (dataTs l)).length dc) ∧ InS w' (fun b => w0.heap.size ≤ b) (bindT ns (dataTs l)) (.slice da (bindT ns (dataTs l)).length dc)) ∧ Below W.heap.size W w') := Lib.hid fun W hW =>
    (bindings_any 10 nm ns ck ci cs cl l IH.out S _ _ _ W (HI0.out W hW).1 (HI0.out W hW).2 HOKS.out hn4 (by omega)).mono fun e w' ⟨⟨v, he, hv⟩, hb⟩ => by
      obtain ⟨da, dc, e1, _⟩ := id hv
      subst e1
      exact ⟨⟨da, dc, he, insTo hv (fun b h _ => Nat.le_trans hW.1.size h)⟩, hb⟩
  have KL : Hid (∀ W, KP w0 (some (w.heap.size + 1)) W → ∀ a n c, Calls Tryz.prog 62 #[.slice a n c] W fun e w' => e = .returned (.agg #[.int .i64 5, .int .i64 0, .string ⟨#[]⟩, .slice a n c]) ∧ Below W.heap.size W w') := Lib.hid fun W _ a n c => list_any a n c W
  have HDT : Hid (dataT (.mk 10 nm ns (.mk ck ci cs cl) l) = listT (symT (wordS 10) :: [.mk 5 0 ⟨#[]⟩ (bindT ns (dataTs l)), .mk dk di ds dm])) := Lib.hid (by rw [dataT]; simp [HLD.out, listT])
  have KFM : Hid (∀ W, KP w0 (some (w.heap.size + 1)) W → ∀ a c, InS W (fun b => w0.heap.size ≤ b) ([.mk 5 0 ⟨#[]⟩ (bindT ns (dataTs l)), .mk dk di ds dm]) (.slice a 2 c) → Calls Tryz.prog 58 #[.int .i64 10, .slice a 2 c] W fun e w' => (∃ a9 c9, e = .returned (.agg #[.int .i64 5, .int .i64 0, .string ⟨#[]⟩, .slice a9 (2 + 1) c9]) ∧ InS w' (fun b => w0.heap.size ≤ b) (symT (wordS 10) :: [.mk 5 0 ⟨#[]⟩ (bindT ns (dataTs l)), .mk dk di ds dm]) (.slice a9 (2 + 1) c9)) ∧ Below W.heap.size W w') := Lib.hid fun W hW a c hv =>
    (form_any 10 ([.mk 5 0 ⟨#[]⟩ (bindT ns (dataTs l)), .mk dk di ds dm]) _ (fun b => w0.heap.size ≤ b) W hv (by simp)).mono fun e w' ⟨⟨v, he, hv⟩, hb⟩ => by
      obtain ⟨h1, h2, h3, h4⟩ := hv
      obtain ⟨a9, c9, e1, _⟩ := id h4
      subst e1
      exact ⟨⟨a9, c9, he, insTo h4 (fun b h _ => h.elim (fun h => h.1) (fun h => Nat.le_trans hW.1.size h))⟩, hb⟩
  have CC : Hid (∀ W, KP w0 (some (w.heap.size + 1)) W → W.cell? ⟨w.heap.size, 0, none⟩ = some (.int .i64 10) ∧ W.cell? ⟨w.heap.size, 1, none⟩ = some (.string nm) ∧ W.cell? ⟨w.heap.size, 2, none⟩ = some (.slice an ns.length cn) ∧ W.cell? ⟨w.heap.size, 3, none⟩ = some (.int .i64 ck) ∧ W.cell? ⟨w.heap.size, 4, none⟩ = some (.int .i64 ci) ∧ W.cell? ⟨w.heap.size, 5, none⟩ = some (.string cs) ∧ W.cell? ⟨w.heap.size, 6, none⟩ = some (.slice ad cl.length cd) ∧ W.cell? ⟨w.heap.size, 7, none⟩ = some (.slice (some ⟨b', o', none⟩) l.length c) ∧ W.cell? ⟨b', o' + ns.length * 8, none⟩ = some (.int .i64 tk) ∧ W.cell? ⟨b', o' + ns.length * 8 + 1, none⟩ = some (.string tn) ∧ W.cell? ⟨b', o' + ns.length * 8 + 2, none⟩ = some (.slice tan tns.length tcn) ∧ W.cell? ⟨b', o' + ns.length * 8 + 3, none⟩ = some (.int .i64 tck) ∧ W.cell? ⟨b', o' + ns.length * 8 + 4, none⟩ = some (.int .i64 tci) ∧ W.cell? ⟨b', o' + ns.length * 8 + 5, none⟩ = some (.string tcs) ∧ W.cell? ⟨b', o' + ns.length * 8 + 6, none⟩ = some (.slice tad tcl.length tcd) ∧ W.cell? ⟨b', o' + ns.length * 8 + 7, none⟩ = some (.slice tak tl.length tck') ∧ KP w0 (some (w.heap.size + 1)) W) := Lib.hid fun W hW => by
    have g := fun o => World.cell?_of_block (w := w) (a := ⟨b', o, none⟩) ((hW.2 b' (by have := HS0.out; omega) (by simp; omega)).trans (B0.out.block b' hb'w))
    have g0 := fun o => World.cell?_of_block (w := w0) (a := ⟨w.heap.size, o, none⟩) (hW.2 w.heap.size (by have := HS0.out; omega) (by simp))
    exact ⟨(g0 _).trans (by rw [Lib.cell_of_heap Z0.out]; rfl), (g0 _).trans (by rw [Lib.cell_of_heap Z0.out]; rfl), (g0 _).trans (by rw [Lib.cell_of_heap Z0.out]; rfl), (g0 _).trans (by rw [Lib.cell_of_heap Z0.out]; rfl), (g0 _).trans (by rw [Lib.cell_of_heap Z0.out]; rfl), (g0 _).trans (by rw [Lib.cell_of_heap Z0.out]; rfl), (g0 _).trans (by rw [Lib.cell_of_heap Z0.out]; rfl), (g0 _).trans (by rw [Lib.cell_of_heap Z0.out]; rfl), (g _).trans a0, (g _).trans a1, (g _).trans a2, (g _).trans a3, (g _).trans a4, (g _).trans a5, (g _).trans a6, (g _).trans a7, hW⟩
  have OF : Hid (∀ W, (W.cell? ⟨w.heap.size, 0, none⟩ = some (.int .i64 10) ∧ W.cell? ⟨w.heap.size, 1, none⟩ = some (.string nm) ∧ W.cell? ⟨w.heap.size, 2, none⟩ = some (.slice an ns.length cn) ∧ W.cell? ⟨w.heap.size, 3, none⟩ = some (.int .i64 ck) ∧ W.cell? ⟨w.heap.size, 4, none⟩ = some (.int .i64 ci) ∧ W.cell? ⟨w.heap.size, 5, none⟩ = some (.string cs) ∧ W.cell? ⟨w.heap.size, 6, none⟩ = some (.slice ad cl.length cd) ∧ W.cell? ⟨w.heap.size, 7, none⟩ = some (.slice (some ⟨b', o', none⟩) l.length c) ∧ W.cell? ⟨b', o' + ns.length * 8, none⟩ = some (.int .i64 tk) ∧ W.cell? ⟨b', o' + ns.length * 8 + 1, none⟩ = some (.string tn) ∧ W.cell? ⟨b', o' + ns.length * 8 + 2, none⟩ = some (.slice tan tns.length tcn) ∧ W.cell? ⟨b', o' + ns.length * 8 + 3, none⟩ = some (.int .i64 tck) ∧ W.cell? ⟨b', o' + ns.length * 8 + 4, none⟩ = some (.int .i64 tci) ∧ W.cell? ⟨b', o' + ns.length * 8 + 5, none⟩ = some (.string tcs) ∧ W.cell? ⟨b', o' + ns.length * 8 + 6, none⟩ = some (.slice tad tcl.length tcd) ∧ W.cell? ⟨b', o' + ns.length * 8 + 7, none⟩ = some (.slice tak tl.length tck') ∧ KP w0 (some (w.heap.size + 1)) W) → KP w0 (some (w.heap.size + 1)) W) := Lib.hid fun W h => h.2.2.2.2.2.2.2.2.2.2.2.2.2.2.2.2
  have KP0 := KP.refl w0 (some (w.heap.size + 1))
  go_enter Tryz.func34, Tryz.ntmps34
  go_wp2
  rw [HW0.out]
  go_region_held3 (fun W => W.cell? ⟨w.heap.size, 0, none⟩ = some (.int .i64 10) ∧ W.cell? ⟨w.heap.size, 1, none⟩ = some (.string nm) ∧ W.cell? ⟨w.heap.size, 2, none⟩ = some (.slice an ns.length cn) ∧ W.cell? ⟨w.heap.size, 3, none⟩ = some (.int .i64 ck) ∧ W.cell? ⟨w.heap.size, 4, none⟩ = some (.int .i64 ci) ∧ W.cell? ⟨w.heap.size, 5, none⟩ = some (.string cs) ∧ W.cell? ⟨w.heap.size, 6, none⟩ = some (.slice ad cl.length cd) ∧ W.cell? ⟨w.heap.size, 7, none⟩ = some (.slice (some ⟨b', o', none⟩) l.length c) ∧ W.cell? ⟨b', o' + ns.length * 8, none⟩ = some (.int .i64 tk) ∧ W.cell? ⟨b', o' + ns.length * 8 + 1, none⟩ = some (.string tn) ∧ W.cell? ⟨b', o' + ns.length * 8 + 2, none⟩ = some (.slice tan tns.length tcn) ∧ W.cell? ⟨b', o' + ns.length * 8 + 3, none⟩ = some (.int .i64 tck) ∧ W.cell? ⟨b', o' + ns.length * 8 + 4, none⟩ = some (.int .i64 tci) ∧ W.cell? ⟨b', o' + ns.length * 8 + 5, none⟩ = some (.string tcs) ∧ W.cell? ⟨b', o' + ns.length * 8 + 6, none⟩ = some (.slice tad tcl.length tcd) ∧ W.cell? ⟨b', o' + ns.length * 8 + 7, none⟩ = some (.slice tak tl.length tck') ∧ KP w0 (some (w.heap.size + 1)) W)
    (first | (with_reducible exact CC.out _ (by assumption)) | (with_reducible exact CC.out _ (KP.drewn (by assumption))) | (with_reducible exact CC.out _ (KP.alloc (by assumption) _)) | (with_reducible exact CC.out _ (KP.alloc (KP.drewn (by assumption)) _)) | (with_reducible exact CC.out _ (dat_put (by assumption) _ _ _ _)) | (with_reducible exact CC.out _ (KP.alloc (OF.out _ (by assumption)) _)))
    (first
          | (go_at_call 64; refine (KN.out _ (OF.out _ (by assumption))).mono ?_; rintro e w3 ⟨⟨da3, dc3, rfl, hv3⟩, hb3⟩; have kp3 := KP.next (OF.out _ (by assumption)) hb3; (first | (have BW := Lib.hid (BW.out.trans (hb3.mono BW.out.size))) | (have BW := Lib.hid ((BW.out.alloc BW.out.size _).trans (hb3.mono (BW.out.alloc BW.out.size _).size)))); (try (first | (have HN := Lib.hid (insNext hb3 HN.out)) | (have HN := Lib.hid (insNext hb3 (insAlloc HN.out _))))); (try (first | (have HD := Lib.hid (insNext hb3 HD.out)) | (have HD := Lib.hid (insNext hb3 (insAlloc HD.out _))))); have HN := Lib.hid hv3; clear hv3; clear hb3)
          | (go_at_call 62; refine (KL.out _ (OF.out _ (by assumption)) _ _ _).mono ?_; rintro e w4 ⟨rfl, hb4⟩; have kp4 := KP.next (OF.out _ (by assumption)) hb4; (first | (have BW := Lib.hid (BW.out.trans (hb4.mono BW.out.size))) | (have BW := Lib.hid ((BW.out.alloc BW.out.size _).trans (hb4.mono (BW.out.alloc BW.out.size _).size)))); (try (first | (have HN := Lib.hid (insNext hb4 HN.out)) | (have HN := Lib.hid (insNext hb4 (insAlloc HN.out _))))); (try (first | (have HD := Lib.hid (insNext hb4 HD.out)) | (have HD := Lib.hid (insNext hb4 (insAlloc HD.out _))))); clear hb4)
          | (go_at_call 34; refine (KT.out _ (OF.out _ (by assumption))).mono ?_; rintro e w7 ⟨⟨da7, dc7, rfl, hv7⟩, hb7⟩; have kp7 := KP.next (OF.out _ (by assumption)) hb7; (first | (have BW := Lib.hid (BW.out.trans (hb7.mono BW.out.size))) | (have BW := Lib.hid ((BW.out.alloc BW.out.size _).trans (hb7.mono (BW.out.alloc BW.out.size _).size)))); (try (first | (have HN := Lib.hid (insNext hb7 HN.out)) | (have HN := Lib.hid (insNext hb7 (insAlloc HN.out _))))); (try (first | (have HD := Lib.hid (insNext hb7 HD.out)) | (have HD := Lib.hid (insNext hb7 (insAlloc HD.out _))))); have HC := Lib.hid (And.intro hv7.1 (And.intro hv7.2.1 hv7.2.2.1)); have HD := Lib.hid hv7.2.2.2; clear hv7; clear hb7)
          | (go_at_call 58; refine (KFM.out _ (OF.out _ (by assumption)) _ _ (two_ins (heap_alloc_new _ _) ⟨⟨by decide, by decide⟩, ⟨by decide, by decide⟩, by decide, insAlloc HN.out _⟩ ⟨HC.out.1, HC.out.2.1, HC.out.2.2, insAlloc HD.out _⟩ BW.out.size)).mono ?_; rintro e w9 ⟨⟨a9, c9, rfl, hv9⟩, hb9⟩; have kp9 := KP.next (OF.out _ (by assumption)) hb9; (first | (have BW := Lib.hid (BW.out.trans (hb9.mono BW.out.size))) | (have BW := Lib.hid ((BW.out.alloc BW.out.size _).trans (hb9.mono (BW.out.alloc BW.out.size _).size)))); (try (first | (have HN := Lib.hid (insNext hb9 HN.out)) | (have HN := Lib.hid (insNext hb9 (insAlloc HN.out _))))); (try (first | (have HD := Lib.hid (insNext hb9 HD.out)) | (have HD := Lib.hid (insNext hb9 (insAlloc HD.out _))))); have HV9 := Lib.hid hv9; obtain ⟨⟨p0, p1, p2, p3⟩, q0, q1, q2, q3⟩ := look4 ((BW.out.block (w.heap.size + 1) (by have := HS0.out; omega)).trans Z1.out); clear hv9; clear hb9))
  all_goals
    have FIN := Lib.hid (dat_end (k := 5) (i := 0) (s := ⟨#[]⟩) (m := symT (wordS 10) :: [.mk 5 0 ⟨#[]⟩ (bindT ns (dataTs l)), .mk dk di ds dm]) B0.out HS0.out Z1.out BW.out ⟨⟨by decide, by decide⟩, ⟨by decide, by decide⟩, by decide, HV9.out⟩)
    clear CC OF KP0 KFM
    go_wp2
    exact bodyPost_ret (results_cell_row (P := Tryz.prog) rfl _ _ (w.heap.size + 1) 25 _ (0, 0) _ rfl FIN.out.1 Tryz.underlying25 rfl (by kernel_rfl)) rfl ⟨⟨_, by rw [HDT.out]; rfl, by rw [HDT.out]; exact FIN.out.2.1⟩, FIN.out.2.2⟩
end Go.Proofs.YtjofdlnopchaeaaGreatDoor.Core
