/-
Package core's bindings: the row of names with what they are bound to. No condition.
-/
import Derived.Test.YtjofdlnopchaeaaGreatDoorWKD
namespace Go.Proofs.YtjofdlnopchaeaaGreatDoor.Core
open Go.ChangeShapes Go.WideShapes Go.ChangeAt Go.RowKit Go.Deep
open Dat (PT ok64 RepV RepS RowX infoDatum NewV NewS NewD)
set_option maxRecDepth 100000

/-- All that was there is as it was, but for one block. -/
def KP (wr : World) (ob : Option Nat) (W : World) : Prop := Below 0 wr W ∧ ∀ b, b < wr.heap.size → some b ≠ ob → W.heap[b]? = wr.heap[b]?
theorem KP.refl (w : World) (ob : Option Nat) : KP w ob w := ⟨Below.refl _ _, fun _ _ _ => rfl⟩
theorem KP.drewn {w W : World} {ob : Option Nat} (h : KP w ob W) : KP w ob W.drew := ⟨h.1.drew, h.2⟩
theorem KP.alloc {w W : World} {ob : Option Nat} (h : KP w ob W) (o : Obj) : KP w ob (W.alloc o) :=
  ⟨h.1.alloc (Nat.zero_le _) o, fun b h1 h2 => (Below.heap_alloc W o b (Nat.lt_of_lt_of_le h1 h.1.size)).trans (h.2 b h1 h2)⟩
theorem KP.next {w W W' : World} {ob : Option Nat} (h : KP w ob W) (hb : Below W.heap.size W W') : KP w ob W' :=
  ⟨h.1.trans (hb.mono (Nat.zero_le _)), fun b h1 h2 => (hb.block b (Nat.lt_of_lt_of_le h1 h.1.size)).trans (h.2 b h1 h2)⟩
theorem KP.put {w W W' : World} {ob : Option Nat} (h : KP w ob W) (hs : Below 0 W W') (hk : ∀ b, b < W.heap.size → some b ≠ ob → W'.heap[b]? = W.heap[b]?) : KP w ob W' :=
  ⟨h.1.trans hs, fun b h1 h2 => (hk b (Nat.lt_of_lt_of_le h1 h.1.size) h2).trans (h.2 b h1 h2)⟩
theorem KP.below {w W : World} {ob : Option Nat} {C : Nat} (h : KP w ob W) (hC : C ≤ w.heap.size) (ho : ∀ b, some b = ob → C ≤ b) : Below C w W :=
  ⟨h.1.os, h.1.tape, h.1.output, h.1.size, fun b hb => h.2 b (by omega) (fun e => by have := ho b e; omega)⟩
theorem outNext {w w' : World} {C : Nat} {P : Nat → Prop} {l : List PT} {v : Value} (hb : Below w.heap.size w w') (h : OutD w C P l v) : OutD w' C P l v := h.below hb
theorem OutD.drewn {w : World} {C : Nat} {P : Nat → Prop} {l : List PT} {v : Value} (h : OutD w C P l v) : OutD w.drew C P l v := by
  obtain ⟨xs, ho, hx⟩ := h
  exact ⟨xs, ho, RowX.imp (fun m x hm => hm.drewn) hx⟩
theorem outAlloc {w : World} {C : Nat} {P : Nat → Prop} {l : List PT} {v : Value} (h : OutD w C P l v) (o : Obj) : OutD (w.alloc o) C P l v := h.below (bel_alloc' (Below.refl _ _) o)
theorem insAlloc {w : World} {S : Nat → Prop} {l : List PT} {v : Value} (h : InS w S l v) (o : Obj) : InS (w.alloc o) S l v := insBelow h (bel_alloc' (Below.refl _ _) o)
theorem insNext {w w' : World} {S : Nat → Prop} {l : List PT} {v : Value} (hb : Below w.heap.size w w') (h : InS w S l v) : InS w' S l v := insBelow h hb
theorem two_ins {W : World} {S : Nat → Prop} {g : Nat} {k i : Int} {s : ByteArray} {m : List PT} {x : Value} {k' i' : Int} {s' : ByteArray} {m' : List PT} {x' : Value}
    (hb : W.heap[g]? = some (.cells #[.int .i64 k, .int .i64 i, .string s, x, .int .i64 k', .int .i64 i', .string s', x'] 25 (0, 0))) (h1 : InV W S (.mk k i s m) x) (h2 : InV W S (.mk k' i' s' m') x') (hg : S g) :
    InS W S [.mk k i s m, .mk k' i' s' m'] (.slice (some ⟨g, 0, none⟩) 2 2) := by
  refine ⟨some ⟨g, 0, none⟩, 2, rfl, Nat.le_refl _, by decide, (fun h => by cases h), .inr ⟨g, 0, rfl, hg, ?_⟩⟩
  rw [InAt, InAt, InAt]
  refine ⟨inD_mk.2 ⟨h1.1, h1.2.1, h1.2.2.1, ?_, ?_, ?_, x, ?_, h1.2.2.2⟩, inD_mk.2 ⟨h2.1, h2.2.1, h2.2.2.1, ?_, ?_, ?_, x', ?_, h2.2.2.2⟩, trivial⟩
  all_goals (rw [Lib.cell_of_heap hb]; rfl)
theorem bind_take : ∀ {ns : List ByteArray} {l : List PT} {j : Nat} (h1 : j < ns.length) (h2 : j < l.length), bindT (ns.take (j + 1)) l = bindT (ns.take j) l ++ [listT [symT ns[j], l[j]]]
  | s :: ns, d :: l, 0, _, _ => by simp [bindT]
  | s :: ns, d :: l, j + 1, h1, h2 => by
    simp only [List.length_cons] at h1 h2
    simp only [List.take_succ_cons, bindT, List.cons_append, List.getElem_cons_succ]
    rw [bind_take (by omega) (by omega)]
theorem bind_len : ∀ (ns : List ByteArray) (l : List PT), (bindT ns l).length ≤ ns.length
  | [], l => by cases l <;> simp [bindT]
  | s :: ns, [] => by simp [bindT]
  | s :: ns, d :: l => by simp only [bindT, List.length_cons]; have := bind_len ns l; omega
set_option maxHeartbeats 2000000 in
theorem bindings_any (k : Int) (nm : ByteArray) (ns : List ByteArray) (ck ci : Int) (cs : ByteArray) (cl : List PT) (l : List PE) (ih : ∀ t ∈ l, DatumOk t) (S : Nat → Prop) (vn vd vk : Value) (w : World) (h : InF w S (.mk k nm ns (.mk ck ci cs cl) l) vn vd vk) (hS : ∀ b, S b → b < w.heap.size) (hok : okEs l) (hn : ns.length ≤ 4096) (hnl : ns.length ≤ l.length) :
    Calls Tryz.prog 64 #[(PE.mk k nm ns (.mk ck ci cs cl) l).val vn vd vk] w fun e w' => RowIs (fun b => w.heap.size ≤ b) (bindT ns (dataTs l)) e w' ∧ Below w.heap.size w w' := by
  have HI := Lib.hid h
  have HN := Lib.hid h.1.2.2
  have HK := Lib.hid h.2.2
  have IH := Lib.hid ih
  have HOKS := Lib.hid (fun t ht => okEs_mem hok t ht)
  obtain ⟨⟨_, _, an, cn, rfl, hln, hmn, _, hr⟩, ⟨_, _, _, ad, cd, rfl, hld, hmd, _⟩, ak, c, rfl, hl, hm, _⟩ := h
  have HR := Lib.hid hr
  unfold maxLen at hmn hm hmd
  show Calls Tryz.prog 64 #[.agg #[.int .i64 k, .string nm, .slice an ns.length cn, .int .i64 ck, .int .i64 ci, .string cs, .slice ad cl.length cd, .slice ak l.length c]] w _
  rw [dataTs_map]
  have Z0 := Lib.hid (heap_alloc_new w (.cells #[.int .i64 k, .string nm, .slice an ns.length cn, .int .i64 ck, .int .i64 ci, .string cs, .slice ad cl.length cd, .slice ak l.length c] 28))
  have B0 := Lib.hid ((Below.refl w.heap.size w).alloc (Nat.le_refl _) (.cells #[.int .i64 k, .string nm, .slice an ns.length cn, .int .i64 ck, .int .i64 ci, .string cs, .slice ad cl.length cd, .slice ak l.length c] 28))
  have HS0 := Lib.hid (size_new w (.cells #[.int .i64 k, .string nm, .slice an ns.length cn, .int .i64 ck, .int .i64 ci, .string cs, .slice ad cl.length cd, .slice ak l.length c] 28))
  clear ih hok hr
  go_enter Tryz.func64, Tryz.ntmps64
  go_wp2
  generalize w.alloc (.cells #[.int .i64 k, .string nm, .slice an ns.length cn, .int .i64 ck, .int .i64 ci, .string cs, .slice ad cl.length cd, .slice ak l.length c] 28) = w0 at *
  go_loopw [3, 9] (fun v i wr => ∃ j : Nat, j ≤ ns.length ∧ i = .int .i64 j ∧ OutD wr (w.heap.size + 1) (fun b => w.heap.size + 1 ≤ b) (bindT (ns.take j) (l.map dataT)) v ∧ Below (w.heap.size + 1) w0 wr) (fun _ i _ => ns.length - (intOf i).toNat)
  case atStart => exact ⟨0, Nat.zero_le _, rfl, by rw [List.take_zero]; exact OutD.nil _ _ _, Below.refl _ _⟩
  case round =>
    obtain ⟨j, hj, rfl, ho, hbr⟩ := hrel
    have HO := Lib.hid ho
    have HBR := Lib.hid hbr
    by_cases hlt : j < ns.length
    · have hlt2 : j < l.length := by omega
      have HBW := Lib.hid (B0.out.trans (HBR.out.mono (by omega)))
      have ZR := Lib.hid ((hbr.block w.heap.size (by omega)).trans Z0.out)
      obtain ⟨b, o, rfl, hs, hc⟩ := HR.out.resolve_left (by rintro rfl; cases hlt)
      have c0 := cell_below HBW.out (hc j hlt).1
      have hsz := (hc j hlt).2
      have hbl : b < wr.heap.size := World.block_lt_of_cell? _ _ c0
      obtain ⟨b', o', c', ea, _, _, hS1, hE1⟩ := (HK.out.belowT hS HBW.out).item j hlt2
      cases ea
      have HTS := Lib.hid (bind_take (ns := ns) (l := l.map dataT) (j := j) hlt (by rw [List.length_map]; exact hlt2))
      rw [List.getElem_map] at HTS
      have HLN : Hid ((bindT (ns.take j) (l.map dataT)).length ≤ 100000) := Lib.hid (by have := bind_len (ns.take j) (l.map dataT); rw [List.length_take] at this; omega)
      have hIHj := IH.out l[j] (List.getElem_mem hlt2)
      have hokj := HOKS.out l[j] (List.getElem_mem hlt2)
      have KS := Lib.hid (fun W => symbol_any ns[j] W)
      obtain ⟨av, cv, rfl, hown⟩ := HO.out.slice
      have HOWN := Lib.hid hown
      have hbx : wr.cell? ⟨w.heap.size, 7, none⟩ = some (.slice (some ⟨b', o', none⟩) l.length c) := by rw [Lib.cell_of_heap ZR.out]; rfl
      have HWR := Lib.hid HBW.out.size
      clear ho hbr hown hc
      generalize bindT (ns.take j) (l.map dataT) = q at *
      generalize l[j] = t at hE1 hIHj hokj HTS
      generalize ns[j] = s at *
      obtain ⟨tk, tn, tns, ⟨tck, tci, tcs, tcl⟩, tl⟩ := t
      obtain ⟨tvn, tvd, tvk, hF1, a0, a1, a2, a3, a4, a5, a6, a7⟩ := hE1.cells
      have hbb := World.block_lt_of_cell? _ _ a0
      have hb'w : b' < w.heap.size := hS b' hS1
      have hob : ∀ x, x < w.heap.size + 1 → some x ≠ (Value.slice av q.length cv).ownBlock := fun x hx e => by have := (HOWN.out x e.symm).1; omega
      generalize hOB : (Value.slice av q.length cv).ownBlock = OB at hob
      have HF1 := Lib.hid hF1
      obtain ⟨⟨_, _, hn1'⟩, ⟨_, _, _, hd1'⟩, hk1'⟩ := hF1
      obtain ⟨tan, tcn, rfl, -⟩ := hn1'
      obtain ⟨tad, tcd, rfl, -⟩ := hd1'
      obtain ⟨tak, tck', rfl, -⟩ := hk1'
      generalize hd : dataT (.mk tk tn tns (.mk tck tci tcs tcl) tl) = d at HTS
      obtain ⟨dk, di, ds, dm⟩ := d
      have KD : Hid (∀ W, KP wr OB W → Calls Tryz.prog 34 #[.agg #[.int .i64 tk, .string tn, .slice tan tns.length tcn, .int .i64 tck, .int .i64 tci, .string tcs, .slice tad tcl.length tcd, .slice tak tl.length tck']] W fun e w' => (∃ da dc, e = .returned (.agg #[.int .i64 dk, .int .i64 di, .string ds, .slice da dm.length dc]) ∧ InV w' (fun b => w.heap.size + 1 ≤ b ∧ some b ≠ OB) (.mk dk di ds dm) (.slice da dm.length dc)) ∧ Below W.heap.size W w') := Lib.hid fun W hW => by
        have := hIHj W S _ _ _ (HF1.out.move (fun _ h _ => h) fun b o u hs hc => by
          have := hS b hs
          rw [World.cell?_of_block (w := wr) (a := ⟨b, o, none⟩) (hW.2 b (World.block_lt_of_cell? _ _ hc) (hob b (by omega)))]; exact hc) (fun b h => by have := hS b h; have := HWR.out; have := hW.1.size; omega) hokj
        rw [hd] at this
        refine this.mono ?_
        rintro e w' ⟨⟨v, he, hv⟩, hb⟩
        obtain ⟨da, dc, e1, _⟩ := hv.2.2.2
        subst e1
        refine ⟨⟨da, dc, he, hv.to fun b h _ => ⟨by have := HBR.out.size; have := hW.1.size; have := HS0.out; omega, ?_⟩⟩, hb⟩
        rintro e
        rw [← hOB] at e
        have := (HOWN.out b e.symm).2
        have := hW.1.size
        omega
      have CC : Hid (∀ W, KP wr OB W → W.cell? ⟨w.heap.size, 7, none⟩ = some (.slice (some ⟨b', o', none⟩) l.length c) ∧ W.cell? ⟨b', o' + j * 8, none⟩ = some (.int .i64 tk) ∧ W.cell? ⟨b', o' + j * 8 + 1, none⟩ = some (.string tn) ∧ W.cell? ⟨b', o' + j * 8 + 2, none⟩ = some (.slice tan tns.length tcn) ∧ W.cell? ⟨b', o' + j * 8 + 3, none⟩ = some (.int .i64 tck) ∧ W.cell? ⟨b', o' + j * 8 + 4, none⟩ = some (.int .i64 tci) ∧ W.cell? ⟨b', o' + j * 8 + 5, none⟩ = some (.string tcs) ∧ W.cell? ⟨b', o' + j * 8 + 6, none⟩ = some (.slice tad tcl.length tcd) ∧ W.cell? ⟨b', o' + j * 8 + 7, none⟩ = some (.slice tak tl.length tck') ∧ KP wr OB W) := Lib.hid fun W hW => by
        have g := fun o => World.cell?_of_block (w := wr) (a := ⟨b', o, none⟩) (hW.2 b' hbb (hob b' (by omega)))
        have g0 := fun o => World.cell?_of_block (w := wr) (a := ⟨w.heap.size, o, none⟩) (hW.2 w.heap.size (lt_of_block ZR.out) (hob _ (by omega)))
        exact ⟨(g0 _).trans hbx, (g _).trans a0, (g _).trans a1, (g _).trans a2, (g _).trans a3, (g _).trans a4, (g _).trans a5, (g _).trans a6, (g _).trans a7, hW⟩
      have OF : Hid (∀ W, (W.cell? ⟨w.heap.size, 7, none⟩ = some (.slice (some ⟨b', o', none⟩) l.length c) ∧ W.cell? ⟨b', o' + j * 8, none⟩ = some (.int .i64 tk) ∧ W.cell? ⟨b', o' + j * 8 + 1, none⟩ = some (.string tn) ∧ W.cell? ⟨b', o' + j * 8 + 2, none⟩ = some (.slice tan tns.length tcn) ∧ W.cell? ⟨b', o' + j * 8 + 3, none⟩ = some (.int .i64 tck) ∧ W.cell? ⟨b', o' + j * 8 + 4, none⟩ = some (.int .i64 tci) ∧ W.cell? ⟨b', o' + j * 8 + 5, none⟩ = some (.string tcs) ∧ W.cell? ⟨b', o' + j * 8 + 6, none⟩ = some (.slice tad tcl.length tcd) ∧ W.cell? ⟨b', o' + j * 8 + 7, none⟩ = some (.slice tak tl.length tck') ∧ KP wr OB W) → KP wr OB W) := Lib.hid fun W h => h.2.2.2.2.2.2.2.2.2
      have KP0 := KP.refl wr OB
      have HOd := Lib.hid HO.out.drewn
      have HSB : Hid (∀ B, wr.heap.size ≤ B → w.heap.size + 1 ≤ B ∧ some B ≠ OB) := Lib.hid fun B hB => ⟨by have := HBR.out.size; have := HS0.out; omega, fun e => by
        rw [← hOB] at e
        have := (HOWN.out B e.symm).2
        omega⟩
      have HCS : Hid (∀ B, wr.heap.size ≤ B → w.heap.size + 1 ≤ B) := Lib.hid fun B hB => (HSB.out B hB).1
      have ON := Lib.hid (fun (W W' : World) (hb : Below W.heap.size W W') (h : OutD W (w.heap.size + 1) (fun b => w.heap.size + 1 ≤ b) q (.slice av q.length cv)) => outNext hb h)
      have OA := Lib.hid (fun (W : World) (o : Obj) (h : OutD W (w.heap.size + 1) (fun b => w.heap.size + 1 ≤ b) q (.slice av q.length cv)) => outAlloc h o)
      have HBRS := Lib.hid HBR.out.size
      have HOB := Lib.hid hOB
      clear hd hOB hIHj hokj hE1 hob
      go_wp2
      go_region_held3 (fun W => W.cell? ⟨w.heap.size, 7, none⟩ = some (.slice (some ⟨b', o', none⟩) l.length c) ∧ W.cell? ⟨b', o' + j * 8, none⟩ = some (.int .i64 tk) ∧ W.cell? ⟨b', o' + j * 8 + 1, none⟩ = some (.string tn) ∧ W.cell? ⟨b', o' + j * 8 + 2, none⟩ = some (.slice tan tns.length tcn) ∧ W.cell? ⟨b', o' + j * 8 + 3, none⟩ = some (.int .i64 tck) ∧ W.cell? ⟨b', o' + j * 8 + 4, none⟩ = some (.int .i64 tci) ∧ W.cell? ⟨b', o' + j * 8 + 5, none⟩ = some (.string tcs) ∧ W.cell? ⟨b', o' + j * 8 + 6, none⟩ = some (.slice tad tcl.length tcd) ∧ W.cell? ⟨b', o' + j * 8 + 7, none⟩ = some (.slice tak tl.length tck') ∧ KP wr OB W)
        (first | (exact CC.out _ (by assumption)) | (exact CC.out _ (KP.drewn (by assumption))) | (exact CC.out _ (KP.alloc (by assumption) _)) | (exact CC.out _ (KP.alloc (KP.drewn (by assumption)) _)) | (exact CC.out _ (KP.alloc (OF.out _ (by assumption)) _)))
        (first
          | (go_at_call 59; refine (KS.out _).mono ?_; rintro e w6 ⟨rfl, hb6⟩; have kp6 := KP.next (OF.out _ (by assumption)) hb6; have HO6 := Lib.hid (ON.out _ _ hb6 (by first | exact HO7.out | exact HOd.out)); try have HD6 := Lib.hid (insNext hb6 HD7.out); clear hb6)
          | (go_at_call 34; refine (KD.out _ (OF.out _ (by assumption))).mono ?_; rintro e w7 ⟨⟨da, dc, rfl, hv7⟩, hb7⟩; have kp7 := KP.next (OF.out _ (by assumption)) hb7; have HO7 := Lib.hid (ON.out _ _ hb7 (by first | exact HO6.out | exact HOd.out)); have HV7 := Lib.hid (And.intro hv7.1 (And.intro hv7.2.1 hv7.2.2.1)); have HD7 := Lib.hid hv7.2.2.2; clear hb7 hv7)
          | (go_at_call 62; refine (list_any _ _ _ _).mono ?_; rintro e w8 ⟨rfl, hb8⟩; have kp8 := KP.next (OF.out _ (by assumption)) hb8; have HO8 := Lib.hid (ON.out _ _ hb8 (by first | exact OA.out _ _ HO7.out | exact OA.out _ _ HO6.out)); have HD8 := Lib.hid (by first | exact insNext hb8 (insAlloc HD7.out _) | exact insNext hb8 (insAlloc HD6.out _)); have HM8 := Lib.hid (two_ins ((hb8.block _ (lt_of_block (heap_alloc_new _ _))).trans (heap_alloc_new _ _)) (symV _ _ hsz) ⟨HV7.out.1, HV7.out.2.1, HV7.out.2.2, HD8.out⟩ (by first | exact HSB.out _ kp7.1.size | exact HSB.out _ kp6.1.size)); clear hb8)
          | (refine step_append_outD rfl _ _ rfl (w.heap.size + 1) (fun b => w.heap.size + 1 ≤ b) q (.slice av q.length cv) rfl (OA.out _ _ HO8.out) w8.heap.size 5 0 ⟨#[]⟩ [.mk 4 0 s [], .mk dk di ds dm] _ rfl (heap_alloc_new w8 _) ⟨by decide, by decide⟩ ⟨by decide, by decide⟩ (by decide) (by have h := HM8.out; rw [← HOB.out] at h; exact insAlloc h _) HLN.out (HCS.out _ (KP.alloc kp8 _).1.size) ?_; intro g cap w9 h1 h2 h3; have kp9 := KP.put (KP.alloc kp8 _) (h2.mono (Nat.zero_le _)) (by rw [← HOB.out]; exact h3); have H9 := Lib.hid h1; have HB9 := Lib.hid h2; clear h1 h2 h3))
      all_goals
        have HB10 := Lib.hid (HBR.out.trans (kp9.below (C := w.heap.size + 1) (by have := HBRS.out; have := HS0.out; omega) (fun b e => by rw [← HOB.out] at e; exact (HOWN.out b e.symm).1)))
        clear kp9 kp8
        go_wp2
        go_roundw
        case rel => exact ⟨j + 1, by omega, by go_num, by rw [HTS.out]; exact H9.out, HB10.out⟩
        case measure => simp [intOf]; omega
    · obtain rfl : j = ns.length := by omega
      rw [List.take_length] at ho
      have HO2 := Lib.hid ho.ins
      obtain ⟨av, cv, rfl, hown⟩ := ho.slice
      have HBW := Lib.hid (B0.out.trans (HBR.out.mono (by omega)))
      clear ho hbr hown
      go_wp2
      go_ret
      exact ⟨⟨_, rfl, insTo HO2.out (fun _ h _ => by rcases h with h | h <;> omega)⟩, HBW.out⟩
end Go.Proofs.YtjofdlnopchaeaaGreatDoor.Core
