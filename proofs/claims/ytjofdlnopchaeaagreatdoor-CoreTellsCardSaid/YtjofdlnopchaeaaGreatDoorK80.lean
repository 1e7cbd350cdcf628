/-
The document's Data, for every expression that may be. No condition.
-/
import Derived.Test.YtjofdlnopchaeaaGreatDoorK51
namespace Go.Proofs.YtjofdlnopchaeaaGreatDoor.Core
open Go.ChangeShapes Go.WideShapes Go.ChangeAt Go.RowKit Go.Deep
open Dat (PT ok64 RepV RepS)
set_option maxRecDepth 100000

set_option maxHeartbeats 4000000 in
theorem rwordK (k : Int) (hk : 0 ≤ k ∧ k ≤ 10 ∧ k ≠ 1) (w : World) : Calls Tryz.prog 37 #[.int .i64 k] w fun e w' => e = .returned (.string (wordS k)) ∧ Below w.heap.size w w' := by
  have h : k = 0 ∨ k = 2 ∨ k = 3 ∨ k = 4 ∨ k = 5 ∨ k = 6 ∨ k = 7 ∨ k = 8 ∨ k = 9 ∨ k = 10 := by omega
  rcases h with rfl | rfl | rfl | rfl | rfl | rfl | rfl | rfl | rfl | rfl
  all_goals
    go_enter Tryz.func37, Tryz.ntmps37
    go_wp2
    go_ret
    exact ⟨rfl, (Below.refl _ _).alloc (Nat.le_refl _) _⟩
theorem kinds_form {k : Int} {nm : ByteArray} {ns : List ByteArray} {ck ci : Int} {cs : ByteArray} {cl : List PT} {l : List PE} (h : formE (.mk k nm ns (.mk ck ci cs cl) l) = true) :
    k = 1 ∨ k = 5 ∨ k = 7 ∨ k = 2 ∨ ((k = 8 ∨ k = 9 ∨ k = 10) ∧ ns.length < l.length) ∨ (k = 3 ∨ k = 4 ∨ k = 6) ∨ (k = 0 ∧ l = [] ∧ cl = []) := by
  have hcl := form_nil h
  unfold formE at h
  rw [Bool.and_eq_true] at h
  have h1 := h.1
  unfold kidsB at h1
  by_cases h0 : k = 0
  · rw [if_pos (.inl h0)] at h1
    exact .inr (.inr (.inr (.inr (.inr (.inr ⟨h0, by simpa using h1, hcl⟩)))))
  by_cases hk1 : k = 1
  · exact .inl hk1
  rw [if_neg (by omega)] at h1
  by_cases h2 : k = 2
  · exact .inr (.inr (.inr (.inl h2)))
  rw [if_neg h2] at h1
  by_cases h3 : k = 3
  · exact .inr (.inr (.inr (.inr (.inr (.inl (.inl h3))))))
  rw [if_neg h3] at h1
  by_cases h4 : k = 4
  · exact .inr (.inr (.inr (.inr (.inr (.inl (.inr (.inl h4)))))))
  rw [if_neg h4] at h1
  by_cases h5 : k = 5
  · exact .inr (.inl h5)
  rw [if_neg h5] at h1
  by_cases h6 : k = 6
  · exact .inr (.inr (.inr (.inr (.inr (.inl (.inr (.inr h6)))))))
  rw [if_neg h6] at h1
  by_cases h7 : k = 7
  · exact .inr (.inr (.inl h7))
  rw [if_neg h7] at h1
  by_cases h8 : k = 8 ∨ k = 9
  · rw [if_pos h8] at h1
    have := of_decide_eq_true h1
    exact .inr (.inr (.inr (.inr (.inl ⟨by omega, by omega⟩))))
  rw [if_neg h8] at h1
  by_cases h10 : k = 10
  · rw [if_pos h10] at h1
    simp only [Bool.and_eq_true, decide_eq_true_eq] at h1
    exact .inr (.inr (.inr (.inr (.inl ⟨by omega, by omega⟩))))
  · rw [if_neg h10] at h1
    cases h1
def RDatOk (t : PE) : Prop := ∀ (w : World) (S : Nat → Prop) (vn vd vk : Value), InF w S t vn vd vk → (∀ b, S b → b < w.heap.size) → okE t →
  Calls Tryz.prog 20 #[t.val vn vd vk] w fun e w' => DatIs (fun b => w.heap.size ≤ b) (dataT t) e w' ∧ Below w.heap.size w w'
set_option maxHeartbeats 4000000 in
theorem rdat_step (k : Int) (nm : ByteArray) (ns : List ByteArray) (ck ci : Int) (cs : ByteArray) (cl : List PT) (l : List PE) (ih : ∀ t ∈ l, RDatOk t) : RDatOk (.mk k nm ns (.mk ck ci cs cl) l) := by
  intro w S vn vd vk h hS hok
  rw [okE] at hok
  obtain ⟨hform, hn4, hl4, hoks⟩ := hok
  have hkk := kinds_form hform
  have HCD := Lib.hid h.2.1
  have HI := Lib.hid h
  have HN := Lib.hid h.1.2.2
  have HK := Lib.hid h.2.2
  have IH := Lib.hid ih
  have HOKS := Lib.hid (fun t ht => okEs_mem hoks t ht)
  have HNMS := Lib.hid h.1.2.1
  have HSL := Lib.hid hS
  obtain ⟨⟨_, _, an, cn, rfl, hln, hmn, _, hr⟩, ⟨_, _, _, ad, cd, rfl, hld, hmd, _⟩, ak, c, rfl, hl, hm, _⟩ := h
  have HR := Lib.hid hr
  unfold maxLen at hmn hm hmd
  show Calls Tryz.prog 20 #[.agg #[.int .i64 k, .string nm, .slice an ns.length cn, .int .i64 ck, .int .i64 ci, .string cs, .slice ad cl.length cd, .slice ak l.length c]] w _
  obtain ⟨z0, z1, zb⟩ := two_new w (.cells #[.int .i64 k, .string nm, .slice an ns.length cn, .int .i64 ck, .int .i64 ci, .string cs, .slice ad cl.length cd, .slice ak l.length c] 28) (.cells #[.int .i64 0, .int .i64 0, .string ⟨#[]⟩, .slice none 0 0] 25)
  have hs0 : ((w.alloc (.cells #[.int .i64 k, .string nm, .slice an ns.length cn, .int .i64 ck, .int .i64 ci, .string cs, .slice ad cl.length cd, .slice ak l.length c] 28)).alloc (.cells #[.int .i64 0, .int .i64 0, .string ⟨#[]⟩, .slice none 0 0] 25)).heap.size = w.heap.size + 2 := by rw [size_new, size_new]
  generalize hw0 : (w.alloc (.cells #[.int .i64 k, .string nm, .slice an ns.length cn, .int .i64 ck, .int .i64 ci, .string cs, .slice ad cl.length cd, .slice ak l.length c] 28)).alloc (.cells #[.int .i64 0, .int .i64 0, .string ⟨#[]⟩, .slice none 0 0] 25) = w0 at z0 z1 zb hs0
  have HW0 := Lib.hid hw0
  have Z0 := Lib.hid z0
  have Z1 := Lib.hid z1
  have B0 := Lib.hid zb
  have HS0 := Lib.hid hs0
  have KS := Lib.hid (fun s W => rsym_any s W)
  have BOX : Hid (∀ W : World, W.heap[w.heap.size]? = some (.cells #[.int .i64 k, .string nm, .slice an ns.length cn, .int .i64 ck, .int .i64 ci, .string cs, .slice ad cl.length cd, .slice ak l.length c] 28 (0, 0)) → W.cell? ⟨w.heap.size, 0, none⟩ = some (.int .i64 k) ∧ W.cell? ⟨w.heap.size, 1, none⟩ = some (.string nm) ∧ W.cell? ⟨w.heap.size, 2, none⟩ = some (.slice an ns.length cn) ∧ W.cell? ⟨w.heap.size, 3, none⟩ = some (.int .i64 ck) ∧ W.cell? ⟨w.heap.size, 4, none⟩ = some (.int .i64 ci) ∧ W.cell? ⟨w.heap.size, 5, none⟩ = some (.string cs) ∧ W.cell? ⟨w.heap.size, 6, none⟩ = some (.slice ad cl.length cd) ∧ W.cell? ⟨w.heap.size, 7, none⟩ = some (.slice ak l.length c)) := Lib.hid fun W h1 => by
    refine ⟨?_, ?_, ?_, ?_, ?_, ?_, ?_, ?_⟩
    all_goals (rw [Lib.cell_of_heap h1]; rfl)
  obtain ⟨x0, x1, x2, x3, x4, x5, x6, x7⟩ := BOX.out _ z0
  clear hw0 z0 z1 zb ih hoks hS hr
  by_cases h1 : k = 1
  · subst h1
    have HDT : Hid (dataT (.mk 1 nm ns (.mk ck ci cs cl) l) = symT nm) := Lib.hid (by rw [dataT]; rfl)
    clear hkk hform
    go_enter Tryz.func20, Tryz.ntmps20
    go_upto_region 1 with fail
    rw [HW0.out]
    go_wp2_with fail
    refine (KS.out _ _).mono ?_
    rintro e w1 ⟨rfl, hb1⟩
    have Z1' := (hb1.block (w.heap.size + 1) (by omega)).trans Z1.out
    obtain ⟨⟨t0, t1, t2, t3⟩, g0, g1, g2, g3⟩ := look4 Z1'
    have HE := Lib.hid (dat_end B0.out HS0.out Z1.out hb1 (symV w1 _ HNMS.out))
    clear hb1 Z1' x0 x1 x2 x3 x4 x5 x6 x7
    go_wp2
    exact bodyPost_ret (results_cell_row (P := Tryz.prog) rfl _ _ (w.heap.size + 1) 25 _ (0, 0) _ rfl HE.out.1 Tryz.underlying25 rfl (by kernel_rfl)) rfl ⟨⟨_, rfl, by rw [HDT.out]; exact HE.out.2.1⟩, HE.out.2.2⟩
  have hk3 : 0 ≤ k ∧ k ≤ 10 ∧ k ≠ 1 := by omega
  have hb1 : (k == 1) = false := by simpa using h1
  have KW := Lib.hid (fun W => rwordK k hk3 W)
  have HWS := Lib.hid (word_size k)
  have HWK : Hid (∃ s, s = wordS k) := Lib.hid ⟨_, rfl⟩
  generalize hws : wordS k = s at KW HWS
  have HWE := Lib.hid hws
  clear hws h1 hform
  go_enter Tryz.func20, Tryz.ntmps20
  go_upto_region 1 with fail
  rw [HW0.out]
  go_wp2_with fail
  refine (KW.out _).mono ?_
  rintro e w1 ⟨rfl, hbw1⟩
  have HB1 := Lib.hid hbw1
  clear hbw1
  go_wp2_with fail
  refine (KS.out _ _).mono ?_
  rintro e w2 ⟨rfl, hbw2⟩
  have HB2 := Lib.hid (HB1.out.trans (hbw2.mono HB1.out.size))
  clear hbw2 x0 x1 x2 x3 x4 x5 x6 x7
  go_upto_region 5 with fail
  have s3 := size_new w2 (.cells #[.int .i64 4, .int .i64 0, .string s, .slice none 0 0] 25)
  have s4 := size_new (w2.alloc (.cells #[.int .i64 4, .int .i64 0, .string s, .slice none 0 0] 25)) (.cells #[] 25)
  have zl := Dat.blk_alloc (o := .cells #[] 25) (heap_alloc_new w2 (.cells #[.int .i64 4, .int .i64 0, .string s, .slice none 0 0] 25))
  have zk := heap_alloc_new (w2.alloc (.cells #[.int .i64 4, .int .i64 0, .string s, .slice none 0 0] 25)) (.cells #[] 25)
  have hb3 := ((Below.refl w2.heap.size w2).alloc (Nat.le_refl _) (.cells #[.int .i64 4, .int .i64 0, .string s, .slice none 0 0] 25)).alloc (by rw [s3]; omega) (.cells #[] 25)
  rw [s3] at zk s4
  generalize (w2.alloc (.cells #[.int .i64 4, .int .i64 0, .string s, .slice none 0 0] 25)).alloc (.cells #[] 25) = w3 at *
  have hL0 : w0.heap.size ≤ w2.heap.size := HB2.out.size
  have HB3 := Lib.hid (HB2.out.trans (hb3.mono hL0))
  generalize hL : w2.heap.size = L at *
  have HLR : Hid (OutD w3 w0.heap.size (fun _ => False) [symT s] (.slice (some ⟨L, 0, none⟩) 1 1)) := Lib.hid (OutD.lit zl hL0 ⟨by decide, by decide⟩ ⟨by decide, by decide⟩ HWS.out (symV _ _ HWS.out).2.2.2)
  have HKR : Hid (OutD w3 (L + 1) (fun b => L + 1 ≤ b) [] (.slice (some ⟨L + 1, 0, none⟩) 0 0)) := Lib.hid (OutD.lit0 zk (Nat.le_refl _))
  clear hb3 zl zk s3 hL
  go_wp2
  go_loopw [4, 5] (fun v i wr => ∃ j : Nat, j ≤ l.length ∧ i = .int .i64 j ∧ OutD wr (L + 1) (fun b => L + 1 ≤ b) ((l.take j).map dataT) v ∧ Below (L + 1) w3 wr) (fun _ i _ => l.length - (intOf i).toNat)
  case atStart => exact ⟨0, Nat.zero_le _, rfl, by rw [List.take_zero, List.map_nil]; exact HKR.out, Below.refl _ _⟩
  case round =>
    obtain ⟨j, hj, rfl, ho, hbr⟩ := hrel
    have HO := Lib.hid ho
    have HBR := Lib.hid hbr
    have HBW0 := Lib.hid (HB3.out.trans (hbr.mono (by omega)))
    have HBW := Lib.hid (B0.out.trans (HBW0.out.mono B0.out.size))
    have ZR := Lib.hid ((HBW0.out.block w.heap.size (by omega)).trans Z0.out)
    by_cases hlt : j < l.length
    · skip
      obtain ⟨b, o, c', ea, _, _, hS1, hE1⟩ := (HK.out.belowT HSL.out HBW.out).item j hlt
      cases ea
      have HTS : Hid ((l.take (j + 1)).map dataT = (l.take j).map dataT ++ [dataT l[j]]) := Lib.hid (by rw [List.take_succ_eq_append_getElem hlt, List.map_append]; rfl)
      have HLN : Hid (((l.take j).map dataT).length ≤ 100000) := Lib.hid (by rw [List.length_map, List.length_take]; omega)
      have hIHj := IH.out l[j] (List.getElem_mem hlt)
      have hokj := HOKS.out l[j] (List.getElem_mem hlt)
      obtain ⟨av, cv, rfl, hown⟩ := HO.out.slice
      have HOWN := Lib.hid hown
      clear ho hbr hown
      generalize (l.take j).map dataT = q at *
      generalize l[j] = t at hE1 hIHj hokj HTS
      obtain ⟨tk, tn, tns, ⟨tck, tci, tcs, tcl⟩, tl⟩ := t
      obtain ⟨tvn, tvd, tvk, hF1, a0, a1, a2, a3, a4, a5, a6, a7⟩ := hE1.cells
      have hbb := World.block_lt_of_cell? _ _ a0
      have hwl := lt_of_block ZR.out
      have x7 : wr.cell? ⟨w.heap.size, 7, none⟩ = some (.slice (some ⟨b, o, none⟩) l.length c) := by rw [Lib.cell_of_heap ZR.out]; rfl
      have KC := Lib.hid (hIHj wr S tvn tvd tvk hF1 (fun b h => by have := HSL.out b h; omega) hokj)
      obtain ⟨⟨_, _, hn1'⟩, ⟨_, _, _, hd1'⟩, hk1'⟩ := hF1
      obtain ⟨_, _, rfl, -⟩ := hn1'
      obtain ⟨_, _, rfl, -⟩ := hd1'
      obtain ⟨_, _, rfl, -⟩ := hk1'
      unfold PE.val at KC
      generalize dataT (.mk tk tn tns (.mk tck tci tcs tcl) tl) = d at KC HTS
      obtain ⟨dk, di, ds, dm⟩ := d
      clear hE1 hIHj hokj
      go_wp2_with fail
      refine KC.out.mono ?_
      rintro e w5 ⟨⟨v2, he, hv2⟩, hb2⟩
      obtain ⟨z1, z2, z3, z4⟩ := hv2
      obtain ⟨a2v, c2v, rfl, _⟩ := id z4
      change e = .returned (.agg #[.int .i64 dk, .int .i64 di, .string ds, .slice a2v dm.length c2v]) at he
      subst he
      have HB5 := Lib.hid hb2
      have HZ := Lib.hid z4
      have HO2 := Lib.hid ((HO.out.below HB5.out).below (bel_alloc' (Below.refl _ _) (.cells #[.int .i64 dk, .int .i64 di, .string ds, .slice a2v dm.length c2v] 25)))
      have hLr : L + 1 ≤ wr.heap.size := by have := HBR.out.size; omega
      have HB6 := Lib.hid ((HBR.out.trans (HB5.out.mono hLr)).trans ((bel_alloc' (Below.refl _ _) (.cells #[.int .i64 dk, .int .i64 di, .string ds, .slice a2v dm.length c2v] 25) : Below w5.heap.size w5 _).mono (Nat.le_trans hLr HB5.out.size)))
      have hL6 : L + 1 ≤ (w5.alloc (.cells #[.int .i64 dk, .int .i64 di, .string ds, .slice a2v dm.length c2v] 25)).heap.size := by have := HB5.out.size; rw [size_new]; omega
      have HM := Lib.hid (insBelow (insTo (S' := fun b => L + 1 ≤ b ∧ some b ≠ (Value.slice av q.length cv).ownBlock) HZ.out (fun b h1 h2 => by
        refine ⟨by omega, fun e => ?_⟩
        have := (HOWN.out b e.symm).2
        omega)) (bel_alloc' (Below.refl _ _) (.cells #[.int .i64 dk, .int .i64 di, .string ds, .slice a2v dm.length c2v] 25)))
      clear hb2 z4 a0 a1 a2 a3 a4 a5 a6 a7 x7
      go_wp2_with (at_builtin; refine wpList_append_outD rfl _ _ rfl (L + 1) (fun b => L + 1 ≤ b) q _ rfl HO2.out w5.heap.size dk di ds dm (.slice a2v dm.length c2v) rfl (heap_alloc_new w5 _) z1 z2 z3 HM.out HLN.out hL6 ?_; intro g cap w7 h1 h2 h3)
      have H1 := Lib.hid h1
      have HB7 := Lib.hid (HB6.out.trans h2)
      clear h1 h2 h3
      go_wp2
      go_roundw
      case rel => exact ⟨j + 1, by omega, by go_num, by rw [HTS.out]; exact H1.out, HB7.out⟩
      case measure => simp [intOf]; omega
    · obtain rfl : j = l.length := by omega
      rw [List.take_length, ← dataTs_map] at ho
      have hdl : (dataTs l).length = l.length := by rw [dataTs_map, List.length_map]
      obtain ⟨aV, cV, rfl, _⟩ := id ho.slice
      rw [hdl] at ho
      rw [hdl]
      have HKF := Lib.hid ho
      have HLF := Lib.hid ((HLR.out.kept (fun b e => by cases e; exact HBR.out.block L (by omega)) (fun b hb _ => hb.elim)).to (P' := fun b => L < b) (fun b hb _ => hb.elim))
      clear ho hbr HO
      obtain ⟨x0, x1, x2, x3, x4, x5, x6, x7⟩ := BOX.out _ ZR.out
      have hLw : L + 1 ≤ wr.heap.size := by have := HBR.out.size; omega
      have HKI : Hid (InS wr (fun b => L < b) (dataTs l) (.slice aV l.length cV)) := Lib.hid (insTo HKF.out.ins (fun b h _ => by rcases h with h | h <;> omega))
      have HC0 : Hid (w0.heap.size ≤ wr.heap.size) := Lib.hid (by omega)
      have HDLEN := Lib.hid hdl
      clear hdl
      clear HKR HLR
      rcases hkk with rfl | rfl | rfl | rfl | ⟨hk8, hnl⟩ | hkp | ⟨rfl, hl0, rfl⟩
      · cases hb1
      · have HDT : Hid (dataT (.mk 5 nm ns (.mk ck ci cs cl) l) = listT (symT s :: listT (ns.map symT) :: dataTs l)) := Lib.hid (by rw [dataT, ← HWE.out]; rfl)
        have hwl := lt_of_block ZR.out
        have HR6 : Hid (OutD (wr.alloc (.cells #[] 25)) wr.heap.size (fun b => L + 1 ≤ b) [] (.slice (some ⟨wr.heap.size, 0, none⟩) 0 0)) := Lib.hid (OutD.lit0 (heap_alloc_new wr _) (Nat.le_refl _))
        have HB6 := Lib.hid (bel_alloc' (Below.refl wr.heap.size wr) (.cells #[] 25))
        go_upto_region 18 with fail
        clear x0 x1 x2 x3 x4 x5 x6 x7
        generalize hw6 : wr.alloc (.cells #[] 25) = w6 at *
        clear hw6
        generalize hwk : wr = wk at *
        clear hwk
        generalize hRR : wk.heap.size = R at *
        have HRR := Lib.hid hRR
        clear hRR
        go_wp2
        go_loopw [7, 8] (fun v i wr => ∃ j : Nat, j ≤ ns.length ∧ i = .int .i64 j ∧ OutD wr R (fun b => L + 1 ≤ b) ((ns.take j).map symT) v ∧ Below R w6 wr) (fun _ i _ => ns.length - (intOf i).toNat)
        case atStart => exact ⟨0, Nat.zero_le _, rfl, by rw [List.take_zero]; exact HR6.out, Below.refl _ _⟩
        case round =>
          obtain ⟨j, hj, rfl, ho, hbx⟩ := hrel
          have HO := Lib.hid ho
          have HBX := Lib.hid hbx
          have HBXR : Hid (Below R wk wr) := Lib.hid (HB6.out.trans hbx)
          have HBXW := Lib.hid (HBW.out.trans (HBXR.out.mono (by omega)))
          have ZX := Lib.hid ((HBXR.out.block w.heap.size (by omega)).trans ZR.out)
          have hwlx : w.heap.size < wr.heap.size := lt_of_block ZX.out
          have x2 : wr.cell? ⟨w.heap.size, 2, none⟩ = some (.slice an ns.length cn) := by rw [Lib.cell_of_heap ZX.out]; rfl
          have hRx : R ≤ wr.heap.size := by have := HBXR.out.size; rw [HRR.out] at this; exact this
          by_cases hlt : j < ns.length
          · skip
            obtain ⟨b, o, rfl, hs, hc⟩ := HR.out.resolve_left (by rintro rfl; cases hlt)
            have c0 := cell_below HBXW.out (hc j hlt).1
            have hsz := (hc j hlt).2
            have hbl : b < wr.heap.size := World.block_lt_of_cell? _ _ c0
            have HTS : Hid ((ns.take (j + 1)).map symT = (ns.take j).map symT ++ [symT ns[j]]) := Lib.hid (by rw [List.take_succ_eq_append_getElem hlt, List.map_append]; rfl)
            have HLN : Hid (((ns.take j).map symT).length ≤ 100000) := Lib.hid (by rw [List.length_map, List.length_take]; omega)
            obtain ⟨av, cv, rfl, _⟩ := HO.out.slice
            clear hc ho hbx
            generalize ns[j] = u at *
            generalize (ns.take j).map symT = q at *
            go_wp2_with fail
            refine (KS.out _ _).mono ?_
            rintro e w7 ⟨rfl, hb7⟩
            have HO7 := Lib.hid ((HO.out.below hb7).below (bel_alloc' (Below.refl _ _) (.cells #[.int .i64 4, .int .i64 0, .string u, .slice none 0 0] 25)))
            have HB7 := Lib.hid ((HBX.out.trans (hb7.mono hRx)).trans ((bel_alloc' (Below.refl _ _) (.cells #[.int .i64 4, .int .i64 0, .string u, .slice none 0 0] 25) : Below w7.heap.size w7 _).mono (Nat.le_trans hRx hb7.size)))
            have hR7 : R ≤ (w7.alloc (.cells #[.int .i64 4, .int .i64 0, .string u, .slice none 0 0] 25)).heap.size := by have := hb7.size; rw [size_new]; omega
            clear hb7
            go_wp2_with (at_builtin; refine wpList_append_outD rfl _ _ rfl R (fun b => L + 1 ≤ b) q _ rfl HO7.out w7.heap.size 4 0 u [] (.slice none 0 0) rfl (heap_alloc_new w7 _) ⟨by decide, by decide⟩ ⟨by decide, by decide⟩ hsz (symV _ _ hsz).2.2.2 HLN.out hR7 ?_; intro g cap w8 h1 h2 h3)
            have H1 := Lib.hid h1
            have HB8 := Lib.hid (HB7.out.trans h2)
            clear h1 h2 h3
            go_wp2
            go_roundw
            case rel => exact ⟨j + 1, by omega, by go_num, by rw [HTS.out]; exact H1.out, HB8.out⟩
            case measure => simp [intOf]; omega
          · obtain rfl : ns.length = j := by omega
            rw [List.take_length] at ho
            obtain ⟨aR, cR, rfl, _⟩ := id ho.slice
            rw [List.length_map] at ho
            rw [List.length_map]
            have HRI := Lib.hid (insTo (S' := fun b => L < b) ho.ins (fun b h _ => by rcases h with h | h <;> omega))
            clear ho hbx HO
            go_wp2_with fail
            refine (rlist_any _ _ _ _).mono ?_
            rintro e w7 ⟨rfl, hb7⟩
            have h7l : L < w7.heap.size := by have := hb7.size; omega
            have HBx : Hid (Below R wk (w7.alloc (.cells #[.int .i64 5, .int .i64 0, .string ⟨#[]⟩, .slice aR ns.length cR] 25))) := Lib.hid (HBXR.out.trans ((hb7.mono hRx).trans (((Below.refl w7.heap.size w7).alloc (Nat.le_refl _) (.cells #[.int .i64 5, .int .i64 0, .string ⟨#[]⟩, .slice aR ns.length cR] 25)).mono (Nat.le_trans hRx hb7.size))))
            have HBxw : Hid (Below wk.heap.size wk (w7.alloc (.cells #[.int .i64 5, .int .i64 0, .string ⟨#[]⟩, .slice aR ns.length cR] 25))) := Lib.hid (HBx.out.mono (Nat.le_of_eq HRR.out))
            have HLa := Lib.hid (HLF.out.below HBxw.out)
            have HKa := Lib.hid (insBelow HKI.out HBxw.out)
            have HBa := Lib.hid (HBW0.out.trans (HBx.out.mono HC0.out))
            have HIa : Hid (InS (w7.alloc (.cells #[.int .i64 5, .int .i64 0, .string ⟨#[]⟩, .slice aR ns.length cR] 25)) (fun b => L < b ∧ some b ≠ (Value.slice (some ⟨L, 0, none⟩) 1 1).ownBlock) [.mk 5 0 ⟨#[]⟩ (ns.map symT)] (.slice (some ⟨w7.heap.size, 0, none⟩) 1 1)) := Lib.hid (one_ins (heap_alloc_new w7 _) ⟨⟨by decide, by decide⟩, ⟨by decide, by decide⟩, by decide, insTo (insBelow (insBelow HRI.out hb7) (bel_alloc' (Below.refl _ _) _)) (fun b hb _ => ⟨hb, fun e => by
              have h1 : L < b := hb
              have h2 : b = L := Option.some.inj e
              omega⟩)⟩ ⟨h7l, fun e => absurd (Option.some.inj (show some w7.heap.size = some L from e)) (by omega)⟩)
            clear hb7 x2
            go_upto_region 32 with (at_builtin; refine wpList_append_outDs rfl _ _ rfl w0.heap.size (fun b => L < b) [symT s] (.slice (some ⟨L, 0, none⟩) 1 1) rfl HLa.out [(PT.mk 5 0 ⟨#[]⟩ (ns.map symT))] (.slice (some ⟨w7.heap.size, 0, none⟩) 1 1) HIa.out rfl (by simp) HBa.out.size ?_; intro v8 w8 h1 h2 h3)
            obtain ⟨g8, c8, rfl, hc81, hc82⟩ := h1.one (by simp)
            have H8 := Lib.hid h1
            have HK8 := Lib.hid (ins_kp HKa.out h2 (.inl rfl))
            have HB8 := Lib.hid (HBa.out.trans (h2.below HBa.out.size (fun b e => by cases e; exact hL0)))
            have HK8b : Hid (InS w8 (fun b => L < b ∧ some b ≠ (Value.slice (some ⟨g8, 0, none⟩) ([symT s] ++ [(PT.mk 5 0 ⟨#[]⟩ (ns.map symT))]).length c8).ownBlock) (dataTs l) (.slice aV l.length cV)) := Lib.hid (insTo HK8.out (fun b hb _ => ⟨hb.1, fun e => by
              rcases h3 with e2 | e2
              · rw [e2] at e
                have h1 : L < b := hb.1
                have h2 : b = L := Option.some.inj e
                omega
              · have h1 := e2 b e.symm; have h2 := hb.2; omega⟩))
            clear h1 h2 h3
            try unfold maxLen at hc82
            simp only [List.length_append, List.length_cons, List.length_nil, Nat.zero_add] at hc81 H8 HK8b
            go_wp2_with (at_builtin; refine wpList_append_outDs rfl _ _ rfl w0.heap.size (fun b => L < b) ([symT s] ++ [(PT.mk 5 0 ⟨#[]⟩ (ns.map symT))]) _ rfl H8.out (dataTs l) (.slice aV l.length cV) HK8b.out rfl (by simp only [List.length_append, List.length_cons, List.length_nil]; rw [HDLEN.out]; omega) HB8.out.size ?_; intro v9 w9 h1 h2 h3)
            obtain ⟨g9, c9, rfl, hc91, hc92⟩ := h1.one (by simp)
            clear hc91
            generalize hn9 : (([symT s] ++ [(PT.mk 5 0 ⟨#[]⟩ (ns.map symT))]) ++ (dataTs l)).length = n9 at *
            clear hn9
            have H9 := Lib.hid h1
            have HB9 := Lib.hid (HB8.out.trans (h2.below HB8.out.size (fun b e => (World.ownsRow.lt H8.out.choose_spec.1 b e.symm).1)))
            clear h1 h2 h3
            go_wp2_with fail
            refine (rlist_any _ _ _ _).mono ?_
            rintro e w10 ⟨rfl, hb10⟩
            have HB10 := Lib.hid (HB9.out.trans (hb10.mono HB9.out.size))
            have HV10 := Lib.hid (insBelow (insTo (S' := fun b => w0.heap.size ≤ b) H9.out.ins (fun b h _ => by rcases h with h | h <;> omega)) hb10)
            have Z1' := (HB10.out.block (w.heap.size + 1) (by omega)).trans Z1.out
            obtain ⟨⟨t0, t1, t2, t3⟩, e0, e1, e2, e3⟩ := look4 Z1'
            have HE := Lib.hid (dat_end (k := 5) (i := 0) (s := ⟨#[]⟩) B0.out HS0.out Z1.out HB10.out ⟨⟨by decide, by decide⟩, ⟨by decide, by decide⟩, by decide, HV10.out⟩)
            clear hb10 Z1' hc92
            go_wp2
            exact bodyPost_ret (results_cell_row (P := Tryz.prog) rfl _ _ (w.heap.size + 1) 25 _ (0, 0) _ rfl HE.out.1 Tryz.underlying25 rfl (by kernel_rfl)) rfl ⟨⟨_, rfl, by rw [HDT.out]; exact HE.out.2.1⟩, HE.out.2.2⟩
      · skip
        have HDT : Hid (dataT (.mk 7 nm ns (.mk ck ci cs cl) l) = listT (symT s :: symT nm :: dataTs l)) := Lib.hid (by rw [dataT, ← HWE.out]; rfl)
        have hwl := lt_of_block ZR.out
        go_wp2_with fail
        refine (KS.out _ _).mono ?_
        rintro e w7 ⟨rfl, hb7⟩
        have HB7 := Lib.hid ((bel_alloc' (Below.refl _ _) (.cells #[] 25) : Below wr.heap.size wr _).trans (hb7.mono (by rw [size_new]; omega)))
        have h7l : L < w7.heap.size := by have := HB7.out.size; omega
        have HBx : Hid (Below wr.heap.size wr (w7.alloc (.cells #[.int .i64 4, .int .i64 0, .string nm, .slice none 0 0] 25))) := Lib.hid (HB7.out.trans (((Below.refl _ _).alloc (Nat.le_refl _) _).mono HB7.out.size))
        have HLa := Lib.hid (HLF.out.below HBx.out)
        have HKa := Lib.hid (insBelow HKI.out HBx.out)
        have HBa := Lib.hid (HBW0.out.trans (HBx.out.mono HC0.out))
        have HIa : Hid (InS (w7.alloc (.cells #[.int .i64 4, .int .i64 0, .string nm, .slice none 0 0] 25)) (fun b => L < b ∧ some b ≠ (Value.slice (some ⟨L, 0, none⟩) 1 1).ownBlock) [symT nm] (.slice (some ⟨w7.heap.size, 0, none⟩) 1 1)) := Lib.hid (one_ins (heap_alloc_new w7 _) (symV _ _ HNMS.out) ⟨h7l, fun e => absurd (Option.some.inj (show some w7.heap.size = some L from e)) (by omega)⟩)
        clear hb7 x0 x1 x2 x3 x4 x5 x6 x7
        go_upto_region 32 with (at_builtin; refine wpList_append_outDs rfl _ _ rfl w0.heap.size (fun b => L < b) [symT s] (.slice (some ⟨L, 0, none⟩) 1 1) rfl HLa.out [symT nm] (.slice (some ⟨w7.heap.size, 0, none⟩) 1 1) HIa.out rfl (by simp) HBa.out.size ?_; intro v8 w8 h1 h2 h3)
        obtain ⟨g8, c8, rfl, hc81, hc82⟩ := h1.one (by simp)
        have H8 := Lib.hid h1
        have HK8 := Lib.hid (ins_kp HKa.out h2 (.inl rfl))
        have HB8 := Lib.hid (HBa.out.trans (h2.below HBa.out.size (fun b e => by cases e; exact hL0)))
        have HK8b : Hid (InS w8 (fun b => L < b ∧ some b ≠ (Value.slice (some ⟨g8, 0, none⟩) ([symT s] ++ [symT nm]).length c8).ownBlock) (dataTs l) (.slice aV l.length cV)) := Lib.hid (insTo HK8.out (fun b hb _ => ⟨hb.1, fun e => by
          rcases h3 with e2 | e2
          · rw [e2] at e
            have h1 : L < b := hb.1
            have h2 : b = L := Option.some.inj e
            omega
          · have h1 := e2 b e.symm; have h2 := hb.2; omega⟩))
        clear h1 h2 h3
        try unfold maxLen at hc82
        simp only [List.length_append, List.length_cons, List.length_nil, Nat.zero_add] at hc81 H8 HK8b
        go_wp2_with (at_builtin; refine wpList_append_outDs rfl _ _ rfl w0.heap.size (fun b => L < b) ([symT s] ++ [symT nm]) _ rfl H8.out (dataTs l) (.slice aV l.length cV) HK8b.out rfl (by simp only [List.length_append, List.length_cons, List.length_nil]; rw [HDLEN.out]; omega) HB8.out.size ?_; intro v9 w9 h1 h2 h3)
        obtain ⟨g9, c9, rfl, hc91, hc92⟩ := h1.one (by simp)
        clear hc91
        generalize hn9 : (([symT s] ++ [symT nm]) ++ (dataTs l)).length = n9 at *
        clear hn9
        have H9 := Lib.hid h1
        have HB9 := Lib.hid (HB8.out.trans (h2.below HB8.out.size (fun b e => (World.ownsRow.lt H8.out.choose_spec.1 b e.symm).1)))
        clear h1 h2 h3
        go_wp2_with fail
        refine (rlist_any _ _ _ _).mono ?_
        rintro e w10 ⟨rfl, hb10⟩
        have HB10 := Lib.hid (HB9.out.trans (hb10.mono HB9.out.size))
        have HV10 := Lib.hid (insBelow (insTo (S' := fun b => w0.heap.size ≤ b) H9.out.ins (fun b h _ => by rcases h with h | h <;> omega)) hb10)
        have Z1' := (HB10.out.block (w.heap.size + 1) (by omega)).trans Z1.out
        obtain ⟨⟨t0, t1, t2, t3⟩, e0, e1, e2, e3⟩ := look4 Z1'
        have HE := Lib.hid (dat_end (k := 5) (i := 0) (s := ⟨#[]⟩) B0.out HS0.out Z1.out HB10.out ⟨⟨by decide, by decide⟩, ⟨by decide, by decide⟩, by decide, HV10.out⟩)
        clear hb10 Z1' hc92
        go_wp2
        exact bodyPost_ret (results_cell_row (P := Tryz.prog) rfl _ _ (w.heap.size + 1) 25 _ (0, 0) _ rfl HE.out.1 Tryz.underlying25 rfl (by kernel_rfl)) rfl ⟨⟨_, rfl, by rw [HDT.out]; exact HE.out.2.1⟩, HE.out.2.2⟩
      · skip
        have HDT : Hid (dataT (.mk 2 nm ns (.mk ck ci cs cl) l) = listT (symT s :: symT nm :: dataTs l)) := Lib.hid (by rw [dataT, ← HWE.out]; rfl)
        have hwl := lt_of_block ZR.out
        go_wp2_with fail
        refine (KS.out _ _).mono ?_
        rintro e w7 ⟨rfl, hb7⟩
        have HB7 := Lib.hid ((bel_alloc' (Below.refl _ _) (.cells #[] 25) : Below wr.heap.size wr _).trans (hb7.mono (by rw [size_new]; omega)))
        have h7l : L < w7.heap.size := by have := HB7.out.size; omega
        have HBx : Hid (Below wr.heap.size wr (w7.alloc (.cells #[.int .i64 4, .int .i64 0, .string nm, .slice none 0 0] 25))) := Lib.hid (HB7.out.trans (((Below.refl _ _).alloc (Nat.le_refl _) _).mono HB7.out.size))
        have HLa := Lib.hid (HLF.out.below HBx.out)
        have HKa := Lib.hid (insBelow HKI.out HBx.out)
        have HBa := Lib.hid (HBW0.out.trans (HBx.out.mono HC0.out))
        have HIa : Hid (InS (w7.alloc (.cells #[.int .i64 4, .int .i64 0, .string nm, .slice none 0 0] 25)) (fun b => L < b ∧ some b ≠ (Value.slice (some ⟨L, 0, none⟩) 1 1).ownBlock) [symT nm] (.slice (some ⟨w7.heap.size, 0, none⟩) 1 1)) := Lib.hid (one_ins (heap_alloc_new w7 _) (symV _ _ HNMS.out) ⟨h7l, fun e => absurd (Option.some.inj (show some w7.heap.size = some L from e)) (by omega)⟩)
        clear hb7 x0 x1 x2 x3 x4 x5 x6 x7
        go_upto_region 32 with (at_builtin; refine wpList_append_outDs rfl _ _ rfl w0.heap.size (fun b => L < b) [symT s] (.slice (some ⟨L, 0, none⟩) 1 1) rfl HLa.out [symT nm] (.slice (some ⟨w7.heap.size, 0, none⟩) 1 1) HIa.out rfl (by simp) HBa.out.size ?_; intro v8 w8 h1 h2 h3)
        obtain ⟨g8, c8, rfl, hc81, hc82⟩ := h1.one (by simp)
        have H8 := Lib.hid h1
        have HK8 := Lib.hid (ins_kp HKa.out h2 (.inl rfl))
        have HB8 := Lib.hid (HBa.out.trans (h2.below HBa.out.size (fun b e => by cases e; exact hL0)))
        have HK8b : Hid (InS w8 (fun b => L < b ∧ some b ≠ (Value.slice (some ⟨g8, 0, none⟩) ([symT s] ++ [symT nm]).length c8).ownBlock) (dataTs l) (.slice aV l.length cV)) := Lib.hid (insTo HK8.out (fun b hb _ => ⟨hb.1, fun e => by
          rcases h3 with e2 | e2
          · rw [e2] at e
            have h1 : L < b := hb.1
            have h2 : b = L := Option.some.inj e
            omega
          · have h1 := e2 b e.symm; have h2 := hb.2; omega⟩))
        clear h1 h2 h3
        try unfold maxLen at hc82
        simp only [List.length_append, List.length_cons, List.length_nil, Nat.zero_add] at hc81 H8 HK8b
        go_wp2_with (at_builtin; refine wpList_append_outDs rfl _ _ rfl w0.heap.size (fun b => L < b) ([symT s] ++ [symT nm]) _ rfl H8.out (dataTs l) (.slice aV l.length cV) HK8b.out rfl (by simp only [List.length_append, List.length_cons, List.length_nil]; rw [HDLEN.out]; omega) HB8.out.size ?_; intro v9 w9 h1 h2 h3)
        obtain ⟨g9, c9, rfl, hc91, hc92⟩ := h1.one (by simp)
        clear hc91
        generalize hn9 : (([symT s] ++ [symT nm]) ++ (dataTs l)).length = n9 at *
        clear hn9
        have H9 := Lib.hid h1
        have HB9 := Lib.hid (HB8.out.trans (h2.below HB8.out.size (fun b e => (World.ownsRow.lt H8.out.choose_spec.1 b e.symm).1)))
        clear h1 h2 h3
        go_wp2_with fail
        refine (rlist_any _ _ _ _).mono ?_
        rintro e w10 ⟨rfl, hb10⟩
        have HB10 := Lib.hid (HB9.out.trans (hb10.mono HB9.out.size))
        have HV10 := Lib.hid (insBelow (insTo (S' := fun b => w0.heap.size ≤ b) H9.out.ins (fun b h _ => by rcases h with h | h <;> omega)) hb10)
        have Z1' := (HB10.out.block (w.heap.size + 1) (by omega)).trans Z1.out
        obtain ⟨⟨t0, t1, t2, t3⟩, e0, e1, e2, e3⟩ := look4 Z1'
        have HE := Lib.hid (dat_end (k := 5) (i := 0) (s := ⟨#[]⟩) B0.out HS0.out Z1.out HB10.out ⟨⟨by decide, by decide⟩, ⟨by decide, by decide⟩, by decide, HV10.out⟩)
        clear hb10 Z1' hc92
        go_wp2
        exact bodyPost_ret (results_cell_row (P := Tryz.prog) rfl _ _ (w.heap.size + 1) 25 _ (0, 0) _ rfl HE.out.1 Tryz.underlying25 rfl (by kernel_rfl)) rfl ⟨⟨_, rfl, by rw [HDT.out]; exact HE.out.2.1⟩, HE.out.2.2⟩
      · have b0 : (k == 0) = false := by simp; omega
        have b2 : (k == 2) = false := by simp; omega
        have b7 : (k == 7) = false := by simp; omega
        have b5 : (k == 5) = false := by simp; omega
        have hb : (k == 8) = true ∨ ((k == 8) = false ∧ (k == 9) = true) ∨ ((k == 8) = false ∧ (k == 9) = false ∧ (k == 10) = true) := by
          rcases hk8 with rfl | rfl | rfl <;> decide
        have HK8' := Lib.hid hk8
        have HDT : Hid (dataT (.mk k nm ns (.mk ck ci cs cl) l) = listT (symT s :: listT (bindT ns (dataTs l)) :: (dataTs l).drop ns.length)) := Lib.hid (by rw [dataT, if_neg (by omega), if_neg (by omega), if_neg (by omega), if_neg (by omega), if_pos hk8, ← HWE.out])
        clear hk8
        rcases hb with b8 | ⟨b8, b9⟩ | ⟨b8, b9, b10⟩
        all_goals
          obtain ⟨bV, oV, rfl, hLV, _⟩ : ∃ b o, aV = some ⟨b, o, none⟩ ∧ L < b ∧ InAt wr (fun b => L < b) (dataTs l) b o := by
            obtain ⟨a', c', e, _, _, _, hr⟩ := id HKI.out
            rw [HDLEN.out] at e
            cases e
            exact hr.resolve_left (fun e => by have h1 := HDLEN.out; rw [e] at h1; simp only [List.length_nil] at h1; omega)
          obtain ⟨hlV, hmV⟩ : l.length ≤ cV ∧ cV ≤ maxLen := by
            obtain ⟨a', c', e, h1, h2, _⟩ := id HKI.out
            rw [HDLEN.out] at e
            cases e
            exact ⟨by rw [HDLEN.out] at h1; exact h1, h2⟩
          unfold maxLen at hmV
          have hncV : ns.length < cV := by omega
          have HbVR : Hid (bV < wr.heap.size) := Lib.hid (insLt HKI.out (by rw [HDLEN.out]; omega))
          have hwl := lt_of_block ZR.out
          have HR6 : Hid (OutD (wr.alloc (.cells #[] 25)) wr.heap.size (fun b => L < b) [] (.slice (some ⟨wr.heap.size, 0, none⟩) 0 0)) := Lib.hid (OutD.lit0 (heap_alloc_new wr _) (Nat.le_refl _))
          have HB6 := Lib.hid (bel_alloc' (Below.refl wr.heap.size wr) (.cells #[] 25))
          have hblen : (bindT ns (dataTs l)).length = ns.length := bind_full ns (dataTs l) (by rw [HDLEN.out]; omega)
          have HKD : Hid (InS wr (fun b => L < b) ((dataTs l).drop ns.length) (.slice (some ⟨bV, oV + ns.length * 4, none⟩) (l.length - ns.length) (cV - ns.length))) := Lib.hid (by have h := InS.dropQ HKI.out (q := ns.length) (by rw [HDLEN.out]; omega); rwa [HDLEN.out] at h)
          go_upto_region 26 with fail
          clear x0 x1 x2 x3 x4 x5 x6 x7
          generalize hw6 : wr.alloc (.cells #[] 25) = w6 at *
          clear hw6
          generalize hwk : wr = wk at *
          clear hwk
          generalize hRR : wk.heap.size = R at *
          have HRR := Lib.hid hRR
          clear hRR
          go_wp2
          go_loopw [7, 9] (fun v i wr => ∃ j : Nat, j ≤ ns.length ∧ i = .int .i64 j ∧ OutD wr R (fun b => L < b) (bindT (ns.take j) (dataTs l)) v ∧ Below R w6 wr) (fun _ i _ => ns.length - (intOf i).toNat)
          case atStart => exact ⟨0, Nat.zero_le _, rfl, by rw [List.take_zero]; exact HR6.out, Below.refl _ _⟩
          case round =>
            obtain ⟨j, hj, rfl, ho, hbx⟩ := hrel
            have HO := Lib.hid ho
            have HBX := Lib.hid hbx
            have HBXR : Hid (Below R wk wr) := Lib.hid (HB6.out.trans hbx)
            have HBXW := Lib.hid (HBW.out.trans (HBXR.out.mono (by omega)))
            have ZX := Lib.hid ((HBXR.out.block w.heap.size (by omega)).trans ZR.out)
            have hwlx : w.heap.size < wr.heap.size := lt_of_block ZX.out
            have x2 : wr.cell? ⟨w.heap.size, 2, none⟩ = some (.slice an ns.length cn) := by rw [Lib.cell_of_heap ZX.out]; rfl
            have hRx : R ≤ wr.heap.size := by have := HBXR.out.size; rw [HRR.out] at this; exact this
            by_cases hlt : j < ns.length
            · skip
              obtain ⟨b, o, rfl, hs, hc⟩ := HR.out.resolve_left (by rintro rfl; cases hlt)
              have c0 := cell_below HBXW.out (hc j hlt).1
              have hsz := (hc j hlt).2
              have hbl : b < wr.heap.size := World.block_lt_of_cell? _ _ c0
              have hlt2 : j < l.length := by omega
              have hltV : j < (dataTs l).length := by rw [HDLEN.out]; exact hlt2
              have HTS := Lib.hid (bind_take (ns := ns) (l := dataTs l) (j := j) hlt hltV)
              have HLN : Hid ((bindT (ns.take j) (dataTs l)).length ≤ 100000) := Lib.hid (by have := bind_len (ns.take j) (dataTs l); rw [List.length_take] at this; omega)
              obtain ⟨av, cv, rfl, hown⟩ := HO.out.slice
              have HOWN := Lib.hid hown
              have HKX := Lib.hid (insBelow (insTo (S' := fun b => L < b ∧ b < R) HKI.out (fun b h1 h2 => ⟨h1, by rw [HRR.out] at h2; exact h2⟩)) (HBXR.out.mono (Nat.le_of_eq HRR.out)))
              have hE := insItem HKX.out j hltV
              clear hc ho hbx hown
              generalize bindT (ns.take j) (dataTs l) = q at *
              generalize (dataTs l)[j] = d at hE HTS
              generalize ns[j] = u at *
              obtain ⟨dk, di, ds, dm⟩ := d
              rw [inD_mk] at hE
              obtain ⟨d1, d2, d3, a0, a1, a2, vd, a3, hdm⟩ := hE
              obtain ⟨da, dc, rfl, _⟩ := id hdm
              have HDM := Lib.hid hdm
              have hbV := World.block_lt_of_cell? _ _ a0
              have hbVR : bV < R := HbVR.out
              have hob : ∀ x, x < R → some x ≠ (Value.slice av q.length cv).ownBlock := fun x hx e => by have := (HOWN.out x e.symm).1; omega
              have hbR : b < R := by have h1 := HSL.out b hs; omega
              have hwR : w.heap.size < R := by omega
              generalize hOB : (Value.slice av q.length cv).ownBlock = OB at hob
              have CC : Hid (∀ W, KP wr OB W → (fun W => W.cell? ⟨w.heap.size, 2, none⟩ = some (.slice (some ⟨b, o, none⟩) ns.length cn) ∧ W.cell? ⟨b, o + j, none⟩ = some (.string u) ∧ W.cell? ⟨bV, oV + j * 4, none⟩ = some (.int .i64 dk) ∧ W.cell? ⟨bV, oV + j * 4 + 1, none⟩ = some (.int .i64 di) ∧ W.cell? ⟨bV, oV + j * 4 + 2, none⟩ = some (.string ds) ∧ W.cell? ⟨bV, oV + j * 4 + 3, none⟩ = some (.slice da dm.length dc) ∧ KP wr OB W) W) := Lib.hid fun W hW => by
                have g := fun o => World.cell?_of_block (w := wr) (a := ⟨b, o, none⟩) (hW.2 b hbl (hob b hbR))
                have gV := fun o => World.cell?_of_block (w := wr) (a := ⟨bV, o, none⟩) (hW.2 bV hbV (hob bV hbVR))
                have g0 := fun o => World.cell?_of_block (w := wr) (a := ⟨w.heap.size, o, none⟩) (hW.2 w.heap.size hwlx (hob _ hwR))
                exact ⟨(g0 _).trans x2, (g _).trans c0, (gV _).trans a0, (gV _).trans a1, (gV _).trans a2, (gV _).trans a3, hW⟩
              have OF : Hid (∀ W, (fun W => W.cell? ⟨w.heap.size, 2, none⟩ = some (.slice (some ⟨b, o, none⟩) ns.length cn) ∧ W.cell? ⟨b, o + j, none⟩ = some (.string u) ∧ W.cell? ⟨bV, oV + j * 4, none⟩ = some (.int .i64 dk) ∧ W.cell? ⟨bV, oV + j * 4 + 1, none⟩ = some (.int .i64 di) ∧ W.cell? ⟨bV, oV + j * 4 + 2, none⟩ = some (.string ds) ∧ W.cell? ⟨bV, oV + j * 4 + 3, none⟩ = some (.slice da dm.length dc) ∧ KP wr OB W) W → KP wr OB W) := Lib.hid fun W h => h.2.2.2.2.2.2
              have KP0 := KP.refl wr OB
              have HOd := Lib.hid HO.out.drewn
              have HD0 := Lib.hid (InS.drewn (insTo (S' := fun b => L < b ∧ some b ≠ OB) HDM.out (fun b h _ => ⟨h.1, hob b h.2⟩)))
              have HSB : Hid (∀ B, wr.heap.size ≤ B → L < B ∧ some B ≠ OB) := Lib.hid fun B hB => ⟨by omega, fun e => by
                rw [← hOB] at e
                have := (HOWN.out B e.symm).2
                omega⟩
              have HCS : Hid (∀ B, wr.heap.size ≤ B → R ≤ B) := Lib.hid fun B hB => by omega
              have ON := Lib.hid (fun (W W' : World) (hb : Below W.heap.size W W') (h : OutD W R (fun b => L < b) q (.slice av q.length cv)) => outNext hb h)
              have OA := Lib.hid (fun (W : World) (o : Obj) (h : OutD W R (fun b => L < b) q (.slice av q.length cv)) => outAlloc h o)
              have HOB := Lib.hid hOB
              have hjl : (j : Int) < (l.length : Int) := by omega
              clear hOB hob
              go_wp2
              go_region_held3 (fun W => W.cell? ⟨w.heap.size, 2, none⟩ = some (.slice (some ⟨b, o, none⟩) ns.length cn) ∧ W.cell? ⟨b, o + j, none⟩ = some (.string u) ∧ W.cell? ⟨bV, oV + j * 4, none⟩ = some (.int .i64 dk) ∧ W.cell? ⟨bV, oV + j * 4 + 1, none⟩ = some (.int .i64 di) ∧ W.cell? ⟨bV, oV + j * 4 + 2, none⟩ = some (.string ds) ∧ W.cell? ⟨bV, oV + j * 4 + 3, none⟩ = some (.slice da dm.length dc) ∧ KP wr OB W)
                (first | (with_reducible exact CC.out _ (KP.drewn KP0)) | (with_reducible exact CC.out _ kp9) | (with_reducible exact CC.out _ kp8) | (with_reducible exact CC.out _ (KP.alloc kp8 _)) | (with_reducible exact CC.out _ kp6) | (with_reducible exact CC.out _ (KP.alloc kp6 _)))
                (first
                  | (go_at_call 36; refine (KS.out _ _).mono ?_; rintro e w6 ⟨rfl, hb6⟩; have kp6 := KP.next (OF.out _ (by assumption)) hb6; have HO6 := Lib.hid (ON.out _ _ hb6 HOd.out); have HD6 := Lib.hid (insNext hb6 HD0.out); clear hb6)
                  | (go_at_call 38; refine (rlist_any _ _ _ _).mono ?_; rintro e w8 ⟨rfl, hb8⟩; have kp8 := KP.next (OF.out _ (by assumption)) hb8; have HO8 := Lib.hid (ON.out _ _ hb8 (OA.out _ _ HO6.out)); have HM8 := Lib.hid (two_ins ((hb8.block _ (lt_of_block (heap_alloc_new _ _))).trans (heap_alloc_new _ _)) (symV _ _ hsz) ⟨d1, d2, d3, insNext hb8 (insAlloc HD6.out _)⟩ (HSB.out _ kp6.1.size)); clear hb8)
                  | (refine step_append_outD rfl _ _ rfl R (fun b => L < b) q (.slice av q.length cv) rfl (OA.out _ _ HO8.out) w8.heap.size 5 0 ⟨#[]⟩ [.mk 4 0 u [], .mk dk di ds dm] _ rfl (heap_alloc_new w8 _) ⟨by decide, by decide⟩ ⟨by decide, by decide⟩ (by decide) (by have h := HM8.out; rw [← HOB.out] at h; exact insAlloc h _) HLN.out (HCS.out _ (KP.alloc kp8 _).1.size) ?_; intro g cap w9 h1 h2 h3; have kp9 := KP.put (KP.alloc kp8 _) (h2.mono (Nat.zero_le _)) (by rw [← HOB.out]; exact h3); have H9 := Lib.hid h1; clear h1 h2 h3))
              all_goals
                have HB10 := Lib.hid (HBX.out.trans (kp9.below (C := R) hRx (fun b e => by rw [← HOB.out] at e; exact (HOWN.out b e.symm).1)))
                clear kp9 kp8
                go_wp2
                go_roundw
                case rel => exact ⟨j + 1, by omega, by go_num, by rw [HTS.out]; exact H9.out, HB10.out⟩
                case measure => simp [intOf]; omega
            · obtain rfl : ns.length = j := by omega
              rw [List.take_length] at ho
              obtain ⟨aR, cR, rfl, _⟩ := id ho.slice
              rw [hblen] at ho
              rw [hblen]
              have HRI := Lib.hid (insTo (S' := fun b => L < b) ho.ins (fun b h _ => by rcases h with h | h <;> omega))
              clear ho hbx HO
              go_wp2_with fail
              refine (rlist_any _ _ _ _).mono ?_
              rintro e w7 ⟨rfl, hb7⟩
              have h7l : L < w7.heap.size := by have := hb7.size; omega
              have HBx : Hid (Below R wk (w7.alloc (.cells #[.int .i64 5, .int .i64 0, .string ⟨#[]⟩, .slice aR ns.length cR] 25))) := Lib.hid (HBXR.out.trans ((hb7.mono hRx).trans (((Below.refl w7.heap.size w7).alloc (Nat.le_refl _) (.cells #[.int .i64 5, .int .i64 0, .string ⟨#[]⟩, .slice aR ns.length cR] 25)).mono (Nat.le_trans hRx hb7.size))))
              have HBxw : Hid (Below wk.heap.size wk (w7.alloc (.cells #[.int .i64 5, .int .i64 0, .string ⟨#[]⟩, .slice aR ns.length cR] 25))) := Lib.hid (HBx.out.mono (Nat.le_of_eq HRR.out))
              have HLa := Lib.hid (HLF.out.below HBxw.out)
              have HKa := Lib.hid (insBelow HKD.out HBxw.out)
              have HBa := Lib.hid (HBW0.out.trans (HBx.out.mono HC0.out))
              have HIa : Hid (InS (w7.alloc (.cells #[.int .i64 5, .int .i64 0, .string ⟨#[]⟩, .slice aR ns.length cR] 25)) (fun b => L < b ∧ some b ≠ (Value.slice (some ⟨L, 0, none⟩) 1 1).ownBlock) [.mk 5 0 ⟨#[]⟩ (bindT ns (dataTs l))] (.slice (some ⟨w7.heap.size, 0, none⟩) 1 1)) := Lib.hid (one_ins (heap_alloc_new w7 _) ⟨⟨by decide, by decide⟩, ⟨by decide, by decide⟩, by decide, insTo (insBelow (insBelow HRI.out hb7) (bel_alloc' (Below.refl _ _) _)) (fun b hb _ => ⟨hb, fun e => by
                have h1 : L < b := hb
                have h2 : b = L := Option.some.inj e
                omega⟩)⟩ ⟨h7l, fun e => absurd (Option.some.inj (show some w7.heap.size = some L from e)) (by omega)⟩)
              clear hb7 x2
              go_upto_region 32 with (at_builtin; refine wpList_append_outDs rfl _ _ rfl w0.heap.size (fun b => L < b) [symT s] (.slice (some ⟨L, 0, none⟩) 1 1) rfl HLa.out [(PT.mk 5 0 ⟨#[]⟩ (bindT ns (dataTs l)))] (.slice (some ⟨w7.heap.size, 0, none⟩) 1 1) HIa.out rfl (by simp) HBa.out.size ?_; intro v8 w8 h1 h2 h3)
              obtain ⟨g8, c8, rfl, hc81, hc82⟩ := h1.one (by simp)
              have H8 := Lib.hid h1
              have HK8 := Lib.hid (ins_kp HKa.out h2 (.inl rfl))
              have HB8 := Lib.hid (HBa.out.trans (h2.below HBa.out.size (fun b e => by cases e; exact hL0)))
              have HK8b : Hid (InS w8 (fun b => L < b ∧ some b ≠ (Value.slice (some ⟨g8, 0, none⟩) ([symT s] ++ [(PT.mk 5 0 ⟨#[]⟩ (bindT ns (dataTs l)))]).length c8).ownBlock) ((dataTs l).drop ns.length) (.slice (some ⟨bV, oV + ns.length * 4, none⟩) (l.length - ns.length) (cV - ns.length))) := Lib.hid (insTo HK8.out (fun b hb _ => ⟨hb.1, fun e => by
                rcases h3 with e2 | e2
                · rw [e2] at e
                  have h1 : L < b := hb.1
                  have h2 : b = L := Option.some.inj e
                  omega
                · have h1 := e2 b e.symm; have h2 := hb.2; omega⟩))
              clear h1 h2 h3
              try unfold maxLen at hc82
              simp only [List.length_append, List.length_cons, List.length_nil, Nat.zero_add] at hc81 H8 HK8b
              go_wp2_with (at_builtin; refine wpList_append_outDs rfl _ _ rfl w0.heap.size (fun b => L < b) ([symT s] ++ [(PT.mk 5 0 ⟨#[]⟩ (bindT ns (dataTs l)))]) _ rfl H8.out ((dataTs l).drop ns.length) (.slice (some ⟨bV, oV + ns.length * 4, none⟩) (l.length - ns.length) (cV - ns.length)) HK8b.out rfl (by simp only [List.length_append, List.length_cons, List.length_nil]; rw [List.length_drop, HDLEN.out]; omega) HB8.out.size ?_; intro v9 w9 h1 h2 h3)
              obtain ⟨g9, c9, rfl, hc91, hc92⟩ := h1.one (by simp)
              clear hc91
              generalize hn9 : (([symT s] ++ [(PT.mk 5 0 ⟨#[]⟩ (bindT ns (dataTs l)))]) ++ ((dataTs l).drop ns.length)).length = n9 at *
              clear hn9
              have H9 := Lib.hid h1
              have HB9 := Lib.hid (HB8.out.trans (h2.below HB8.out.size (fun b e => (World.ownsRow.lt H8.out.choose_spec.1 b e.symm).1)))
              clear h1 h2 h3
              go_wp2_with fail
              refine (rlist_any _ _ _ _).mono ?_
              rintro e w10 ⟨rfl, hb10⟩
              have HB10 := Lib.hid (HB9.out.trans (hb10.mono HB9.out.size))
              have HV10 := Lib.hid (insBelow (insTo (S' := fun b => w0.heap.size ≤ b) H9.out.ins (fun b h _ => by rcases h with h | h <;> omega)) hb10)
              have Z1' := (HB10.out.block (w.heap.size + 1) (by omega)).trans Z1.out
              obtain ⟨⟨t0, t1, t2, t3⟩, e0, e1, e2, e3⟩ := look4 Z1'
              have HE := Lib.hid (dat_end (k := 5) (i := 0) (s := ⟨#[]⟩) B0.out HS0.out Z1.out HB10.out ⟨⟨by decide, by decide⟩, ⟨by decide, by decide⟩, by decide, HV10.out⟩)
              clear hb10 Z1' hc92
              go_wp2
              exact bodyPost_ret (results_cell_row (P := Tryz.prog) rfl _ _ (w.heap.size + 1) 25 _ (0, 0) _ rfl HE.out.1 Tryz.underlying25 rfl (by kernel_rfl)) rfl ⟨⟨_, by rw [HDT.out]; rfl, by rw [HDT.out]; exact HE.out.2.1⟩, HE.out.2.2⟩
      · have HDT : Hid (dataT (.mk k nm ns (.mk ck ci cs cl) l) = listT (symT s :: dataTs l)) := Lib.hid (by rw [dataT, if_neg (by omega), if_neg (by omega), if_neg (by omega), if_neg (by omega), if_neg (by omega), ← HWE.out])
        have b0 : (k == 0) = false := by simp; omega
        have b2 : (k == 2) = false := by simp; omega
        have b7 : (k == 7) = false := by simp; omega
        have b5 : (k == 5) = false := by simp; omega
        have b8 : (k == 8) = false := by simp; omega
        have b9 : (k == 9) = false := by simp; omega
        have b10 : (k == 10) = false := by simp; omega
        have hwl := lt_of_block ZR.out
        have HB7 := Lib.hid (bel_alloc' (Below.refl wr.heap.size wr) (.cells #[] 25))
        have HLa := Lib.hid (HLF.out.below HB7.out)
        have HKa := Lib.hid (insBelow HKI.out HB7.out)
        have HBa := Lib.hid (HBW0.out.trans (HB7.out.mono HC0.out))
        clear hkp
        go_upto_region 32 with fail
        clear x0 x1 x2 x3 x4 x5 x6 x7
        generalize wr.alloc (.cells #[] 25) = w8 at *
        have HKb : Hid (InS w8 (fun b => L < b ∧ some b ≠ (Value.slice (some ⟨L, 0, none⟩) 1 1).ownBlock) (dataTs l) (.slice aV l.length cV)) := Lib.hid (insTo HKa.out (fun b hb _ => ⟨hb, fun e => by
          have h1 : L < b := hb
          have h2 : b = L := Option.some.inj e
          omega⟩))
        go_wp2_with (at_builtin; refine wpList_append_outDs rfl _ _ rfl w0.heap.size (fun b => L < b) [symT s] _ rfl HLa.out (dataTs l) (.slice aV l.length cV) HKb.out rfl (by simp only [List.length_cons, List.length_nil]; rw [HDLEN.out]; omega) HBa.out.size ?_; intro v9 w9 h1 h2 h3)
        obtain ⟨g9, c9, rfl, hc91, hc92⟩ := h1.one (by simp)
        clear hc91
        generalize hn9 : ([symT s] ++ (dataTs l)).length = n9 at *
        clear hn9
        have H9 := Lib.hid h1
        have HB9 := Lib.hid (HBa.out.trans (h2.below HBa.out.size (fun b e => by cases e; exact hL0)))
        clear h1 h2 h3
        go_wp2_with fail
        refine (rlist_any _ _ _ _).mono ?_
        rintro e w10 ⟨rfl, hb10⟩
        have HB10 := Lib.hid (HB9.out.trans (hb10.mono HB9.out.size))
        have HV10 := Lib.hid (insBelow (insTo (S' := fun b => w0.heap.size ≤ b) H9.out.ins (fun b h _ => by rcases h with h | h <;> omega)) hb10)
        have Z1' := (HB10.out.block (w.heap.size + 1) (by omega)).trans Z1.out
        obtain ⟨⟨t0, t1, t2, t3⟩, e0, e1, e2, e3⟩ := look4 Z1'
        have HE := Lib.hid (dat_end (k := 5) (i := 0) (s := ⟨#[]⟩) B0.out HS0.out Z1.out HB10.out ⟨⟨by decide, by decide⟩, ⟨by decide, by decide⟩, by decide, HV10.out⟩)
        clear hb10 Z1' hc92
        go_wp2
        exact bodyPost_ret (results_cell_row (P := Tryz.prog) rfl _ _ (w.heap.size + 1) 25 _ (0, 0) _ rfl HE.out.1 Tryz.underlying25 rfl (by kernel_rfl)) rfl ⟨⟨_, by rw [HDT.out]; rfl, by rw [HDT.out]; exact HE.out.2.1⟩, HE.out.2.2⟩
      · have HDT : Hid (dataT (.mk 0 nm ns (.mk ck ci cs []) l) = listT (symT s :: [.mk ck ci cs []])) := Lib.hid (by rw [dataT, if_pos rfl, ← HWE.out])
        have HDN : Hid (dataTs l = []) := Lib.hid (by rw [hl0, dataTs])
        have hwl := lt_of_block ZR.out
        have HB6 := Lib.hid (bel_alloc' (Below.refl wr.heap.size wr) (.cells #[] 25))
        have ZR6 := Lib.hid ((HB6.out.block w.heap.size hwl).trans ZR.out)
        have hs6 := size_new wr (.cells #[] 25)
        clear hl0
        go_upto_region 13 with fail
        generalize wr.alloc (.cells #[] 25) = w7 at *
        have h7l : L < w7.heap.size := by omega
        obtain ⟨x0, x1, x2, x3, x4, x5, x6, x7⟩ := BOX.out _ ZR6.out
        have HBx : Hid (Below wr.heap.size wr (w7.alloc (.cells #[.int .i64 ck, .int .i64 ci, .string cs, .slice ad 0 cd] 25))) := Lib.hid (bel_alloc' HB6.out (.cells #[.int .i64 ck, .int .i64 ci, .string cs, .slice ad 0 cd] 25))
        have HLa := Lib.hid (HLF.out.below HBx.out)
        have HKa := Lib.hid (insBelow HKI.out HBx.out)
        have HBa := Lib.hid (HBW0.out.trans (HBx.out.mono HC0.out))
        have HIa : Hid (InS (w7.alloc (.cells #[.int .i64 ck, .int .i64 ci, .string cs, .slice ad 0 cd] 25)) (fun b => L < b ∧ some b ≠ (Value.slice (some ⟨L, 0, none⟩) 1 1).ownBlock) [.mk ck ci cs []] (.slice (some ⟨w7.heap.size, 0, none⟩) 1 1)) := Lib.hid (one_ins (heap_alloc_new w7 _) ⟨HCD.out.1, HCD.out.2.1, HCD.out.2.2.1, insNil HCD.out.2.2.2⟩ ⟨h7l, fun e => absurd (Option.some.inj (show some w7.heap.size = some L from e)) (by omega)⟩)
        clear hs6
        go_upto_region 32 with (at_builtin; refine wpList_append_outDs rfl _ _ rfl w0.heap.size (fun b => L < b) [symT s] (.slice (some ⟨L, 0, none⟩) 1 1) rfl HLa.out [PT.mk ck ci cs []] (.slice (some ⟨w7.heap.size, 0, none⟩) 1 1) HIa.out rfl (by simp) HBa.out.size ?_; intro v8 w8 h1 h2 h3)
        obtain ⟨g8, c8, rfl, hc81, hc82⟩ := h1.one (by simp)
        have H8 := Lib.hid h1
        have HK8 := Lib.hid (ins_kp HKa.out h2 (.inl rfl))
        have HB8 := Lib.hid (HBa.out.trans (h2.below HBa.out.size (fun b e => by cases e; exact hL0)))
        have HK8b : Hid (InS w8 (fun b => L < b ∧ some b ≠ (Value.slice (some ⟨g8, 0, none⟩) ([symT s] ++ [PT.mk ck ci cs []]).length c8).ownBlock) (dataTs l) (.slice aV l.length cV)) := Lib.hid (insTo HK8.out (fun b hb _ => ⟨hb.1, fun e => by
          rcases h3 with e2 | e2
          · rw [e2] at e
            have h1 : L < b := hb.1
            have h2 : b = L := Option.some.inj e
            omega
          · have h1 := e2 b e.symm; have h2 := hb.2; omega⟩))
        clear h1 h2 h3
        try unfold maxLen at hc82
        simp only [List.length_append, List.length_cons, List.length_nil, Nat.zero_add] at hc81 H8 HK8b
        go_wp2_with (at_builtin; refine wpList_append_outDs rfl _ _ rfl w0.heap.size (fun b => L < b) ([symT s] ++ [PT.mk ck ci cs []]) _ rfl H8.out (dataTs l) (.slice aV l.length cV) HK8b.out rfl (by simp only [List.length_append, List.length_cons, List.length_nil]; rw [HDLEN.out]; omega) HB8.out.size ?_; intro v9 w9 h1 h2 h3)
        obtain ⟨g9, c9, rfl, hc91, hc92⟩ := h1.one (by simp)
        clear hc91
        generalize hn9 : (([symT s] ++ [PT.mk ck ci cs []]) ++ (dataTs l)).length = n9 at *
        clear hn9
        have H9 := Lib.hid h1
        have HB9 := Lib.hid (HB8.out.trans (h2.below HB8.out.size (fun b e => (World.ownsRow.lt H8.out.choose_spec.1 b e.symm).1)))
        clear h1 h2 h3
        go_wp2_with fail
        refine (rlist_any _ _ _ _).mono ?_
        rintro e w10 ⟨rfl, hb10⟩
        have HB10 := Lib.hid (HB9.out.trans (hb10.mono HB9.out.size))
        have HV10 := Lib.hid (insBelow (insTo (S' := fun b => w0.heap.size ≤ b) H9.out.ins (fun b h _ => by rcases h with h | h <;> omega)) hb10)
        have Z1' := (HB10.out.block (w.heap.size + 1) (by omega)).trans Z1.out
        obtain ⟨⟨t0, t1, t2, t3⟩, e0, e1, e2, e3⟩ := look4 Z1'
        have HE := Lib.hid (dat_end (k := 5) (i := 0) (s := ⟨#[]⟩) B0.out HS0.out Z1.out HB10.out ⟨⟨by decide, by decide⟩, ⟨by decide, by decide⟩, by decide, HV10.out⟩)
        clear hb10 Z1' hc92
        go_wp2
        exact bodyPost_ret (results_cell_row (P := Tryz.prog) rfl _ _ (w.heap.size + 1) 25 _ (0, 0) _ rfl HE.out.1 Tryz.underlying25 rfl (by kernel_rfl)) rfl ⟨⟨_, by rw [HDT.out]; rfl, by rw [HDT.out, show symT s :: [PT.mk ck ci cs []] = ([symT s] ++ [PT.mk ck ci cs []]) ++ dataTs l by rw [HDN.out]; rfl]; exact HE.out.2.1⟩, HE.out.2.2⟩
mutual
theorem rdat_any : ∀ t : PE, RDatOk t
  | .mk k nm ns (.mk ck ci cs cl) l => rdat_step k nm ns ck ci cs cl l (rdat_all l)
theorem rdat_all : ∀ l : List PE, ∀ t ∈ l, RDatOk t
  | [], t, h => by cases h
  | u :: l, t, h => (List.mem_cons.1 h).elim (fun e => e ▸ rdat_any u) (fun h => rdat_all l t h)
end
end Go.Proofs.YtjofdlnopchaeaaGreatDoor.Core
