/-
The document's lift of what is no function, given that its kids are lifted. No condition but that the expression is small.
-/
import Derived.Test.YtkgofgkgnchhjaaWND
import Derived.Test.YtkgofgkgnchhjaaWNE

namespace Go.Proofs.Ytkgofgkgnchhjaa.Core
open Go.ChangeShapes Go.WideShapes Go.ChangeAt Go.RowKit Go.Deep
open Dat (PT ok64 RowX)
set_option maxRecDepth 100000

set_option maxHeartbeats 8000000 in
theorem rlift_else (k : Int) (hk5 : k ≠ 5) (nm : ByteArray) (ns : List ByteArray) (ck ci : Int) (cs : ByteArray) (cl : List PT) (l : List PE) (ih : ∀ t ∈ l, RLiftOk t) : RLiftOk (.mk k nm ns (.mk ck ci cs cl) l) := by
  intro w C P S fs v vn vd vk h hok hS hst hC hP hf hz
  rw [okE] at hok
  obtain rfl := form_items hok.1
  have HI := Lib.hid h
  obtain ⟨⟨_, _, an, cn, en, _⟩, ⟨_, _, _, ad, cd, ed, _⟩, ak, c, ek, hl, hm, _⟩ := id h
  subst en ed ek
  unfold maxLen at hm
  rw [sizeE] at hf hz
  have hlt := hst.lt
  have HLT := Lib.hid hlt
  have IH := Lib.hid ih
  have HOKS := Lib.hid (fun t ht => okEs_mem hok.2.2.2 t ht)
  have hl4 := hok.2.2.1
  have HSL := Lib.hid hS
  have HPN := Lib.hid hP
  have HLF := Lib.hid (liftT_else fs hk5 nm ns (.mk ck ci cs []) l)
  have hkb : (k == 5) = false := by simpa using hk5
  have HD9 : Hid (∀ (W : World) (S : Nat → Prop), InS W S [] (.slice ad 0 cd)) := Lib.hid (by
    obtain ⟨a', c', e, h1, h2, h3, _⟩ := HI.out.2.1.2.2.2
    cases e
    exact fun W S => ⟨_, _, rfl, h1, h2, h3, .inl rfl⟩)
  show Calls Try.prog 21 #[.agg #[.int .i64 k, .string nm, .slice an ns.length cn, .int .i64 ck, .int .i64 ci, .string cs, .slice ad 0 cd, .slice ak l.length c], v] w _
  have HRD0 : Hid (RvSt C P S w v (((w.alloc (.cells #[.int .i64 k, .string nm, .slice an ns.length cn, .int .i64 ck, .int .i64 ci, .string cs, .slice ad 0 cd, .slice ak l.length c] 28)).alloc (.cells #[.int .i64 0, .string ⟨#[]⟩, .slice none 0 0, .int .i64 0, .int .i64 0, .string ⟨#[]⟩, .slice none 0 0, .slice none 0 0] 28)).alloc (.cells #[.int .i64 k, .string nm, .slice an ns.length cn, .int .i64 ck, .int .i64 ci, .string cs, .slice ad 0 cd, .slice none 0 0] 28)) fs v [] (.slice none 0 0) (.cells #[.int .i64 k, .string nm, .slice an ns.length cn, .int .i64 ck, .int .i64 ci, .string cs, .slice ad 0 cd, .slice ak l.length c] 28) (.cells #[.int .i64 k, .string nm, .slice an ns.length cn, .int .i64 ck, .int .i64 ci, .string cs, .slice ad 0 cd, .slice none 0 0] 28)) := Lib.hid (by
    obtain ⟨z0, z1, zb⟩ := two_new w (.cells #[.int .i64 k, .string nm, .slice an ns.length cn, .int .i64 ck, .int .i64 ci, .string cs, .slice ad 0 cd, .slice ak l.length c] 28) (.cells #[.int .i64 0, .string ⟨#[]⟩, .slice none 0 0, .int .i64 0, .int .i64 0, .string ⟨#[]⟩, .slice none 0 0, .slice none 0 0] 28)
    have hs : ((w.alloc (.cells #[.int .i64 k, .string nm, .slice an ns.length cn, .int .i64 ck, .int .i64 ci, .string cs, .slice ad 0 cd, .slice ak l.length c] 28)).alloc (.cells #[.int .i64 0, .string ⟨#[]⟩, .slice none 0 0, .int .i64 0, .int .i64 0, .string ⟨#[]⟩, .slice none 0 0, .slice none 0 0] 28)).heap.size = w.heap.size + 2 := by rw [size_new, size_new]
    have z2 := heap_alloc_new ((w.alloc (.cells #[.int .i64 k, .string nm, .slice an ns.length cn, .int .i64 ck, .int .i64 ci, .string cs, .slice ad 0 cd, .slice ak l.length c] 28)).alloc (.cells #[.int .i64 0, .string ⟨#[]⟩, .slice none 0 0, .int .i64 0, .int .i64 0, .string ⟨#[]⟩, .slice none 0 0, .slice none 0 0] 28)) (.cells #[.int .i64 k, .string nm, .slice an ns.length cn, .int .i64 ck, .int .i64 ci, .string cs, .slice ad 0 cd, .slice none 0 0] 28)
    rw [hs] at z2
    have hb := bel_alloc' zb (.cells #[.int .i64 k, .string nm, .slice an ns.length cn, .int .i64 ck, .int .i64 ci, .string cs, .slice ad 0 cd, .slice none 0 0] 28)
    exact ⟨hst.at (fun b e => hb.block _ (hlt b e).2) fun b h1 h2 => ⟨hb.block b h2, h1, by omega, fun e => by cases e⟩, RfFr.of_below hC hb, OutE.nil _ _ _, (fun b e => by cases e), blk_skip' z0, blk_skip' z1, z2, hC, fun b e => .inl (hlt b e).2, fun b hb => ⟨(hS b hb).1, (hS b hb).2.1⟩⟩)
  obtain ⟨av, cv, ev, _⟩ := hst.slice
  subst ev
  clear ih hok hS hst hP hlt h
  go_enter Try.func21, Try.ntmps21
  go_upto_region 2 with fail
  generalize ((w.alloc (.cells #[.int .i64 k, .string nm, .slice an ns.length cn, .int .i64 ck, .int .i64 ci, .string cs, .slice ad 0 cd, .slice ak l.length c] 28)).alloc (.cells #[.int .i64 0, .string ⟨#[]⟩, .slice none 0 0, .int .i64 0, .int .i64 0, .string ⟨#[]⟩, .slice none 0 0, .slice none 0 0] 28)).alloc (.cells #[.int .i64 k, .string nm, .slice an ns.length cn, .int .i64 ck, .int .i64 ci, .string cs, .slice ad 0 cd, .slice none 0 0] 28) = w0 at *
  obtain ⟨x0, x1, x2, x3, x4, x5, x6, x7⟩ := look8n HRD0.out.eb
  go_wp2
  go_loopw [1, 10] (fun v' ix wr => ∃ (j : Nat) (vK : Value), j ≤ l.length ∧ ix = .int .i64 j ∧ RvSt C P S w (.slice av fs.length cv) wr (liftsT fs (l.take j)).2 v' (liftsT fs (l.take j)).1 vK (.cells #[.int .i64 k, .string nm, .slice an ns.length cn, .int .i64 ck, .int .i64 ci, .string cs, .slice ad 0 cd, .slice ak l.length c] 28) (.cells #[.int .i64 k, .string nm, .slice an ns.length cn, .int .i64 ck, .int .i64 ci, .string cs, .slice ad 0 cd, vK] 28)) (fun _ ix _ => l.length - (intOf ix).toNat)
  case atStart => exact ⟨0, _, Nat.zero_le _, rfl, by rw [List.take_zero, liftsT]; exact HRD0.out⟩
  case round =>
    obtain ⟨j, vK, hj, rfl, hrd⟩ := hrel
    have HRD := Lib.hid hrd
    clear x0 x1 x2 x3 x4 x5 x6 x7
    obtain ⟨x0, x1, x2, x3, x4, x5, x6, x7⟩ := look8n hrd.eb
    obtain ⟨av1, cv1, ev1, _⟩ := hrd.st.slice
    subst ev1
    by_cases hlt : j < l.length
    · have hk1 : InK wr S l (.slice ak l.length c) := HI.out.2.2.move (fun _ h _ => h) fun b o y hb hc => by
        rw [World.cell?_of_block (w := w) (a := ⟨b, o, none⟩) (HRD.out.offS b hb).2.2]; exact hc
      obtain ⟨b, o, c', ea, _, _, hS1, hE1⟩ := hk1.item j hlt
      cases ea
      have HTS := Lib.hid (liftsT_take (fs := fs) hlt)
      have hlen : (liftsT fs (l.take j)).1.length ≤ 100000 := by rw [liftsT_len, List.length_take]; omega
      have HBD : Hid ((liftsT fs (l.take j)).2.length + sizeE l[j] ≤ 60000 ∧ sizeE l[j] ≤ 40000) := Lib.hid (by
        have h1 := liftsT_count fs (l.take j)
        have h2 := lamssT_le (l.take j)
        have h3 : sizeEs (l.take (j + 1)) = sizeEs (l.take j) + sizeE l[j] := by rw [List.take_succ_eq_append_getElem hlt, sizeEs_snoc]
        have h4 := sizeEs_take l (j + 1)
        omega)
      have IT := Lib.hid (IH.out l[j] (List.getElem_mem hlt))
      have OT := Lib.hid (HOKS.out l[j] (List.getElem_mem hlt))
      generalize l[j] = t at hE1 IT OT HTS HBD
      obtain ⟨tk, tn, tns, ⟨tck, tci, tcs, tcl⟩, tl⟩ := t
      obtain ⟨tvn, tvd, tvk, hF1, a0, a1, a2, a3, a4, a5, a6, a7⟩ := hE1.cells
      have HF1 := Lib.hid hF1
      unfold InF at hF1
      obtain ⟨⟨_, _, hn1⟩, ⟨_, _, _, hd1⟩, hk1⟩ := hF1
      obtain ⟨n1, n2, en, -⟩ := hn1
      obtain ⟨d1, d2, ed, -⟩ := hd1
      obtain ⟨k1, k2, ek, -⟩ := hk1
      subst en ed ek
      obtain ⟨aT, cT, rfl, hown⟩ := hrd.row.slice
      have HOWN := Lib.hid hown
      have h3 := hrd.size
      have hvl := hrd.st.lt
      clear hrd hown hE1
      generalize (liftsT fs (l.take j)).1 = lt at *
      generalize (liftsT fs (l.take j)).2 = fj at *
      have HB1 := Lib.hid ((Below.refl wr.heap.size wr).alloc (Nat.le_refl _) (.cells #[.int .i64 0, .string ⟨#[]⟩, .slice none 0 0, .int .i64 0, .int .i64 0, .string ⟨#[]⟩, .slice none 0 0, .slice none 0 0] 28))
      have HZK := Lib.hid (heap_alloc_new wr (.cells #[.int .i64 0, .string ⟨#[]⟩, .slice none 0 0, .int .i64 0, .int .i64 0, .string ⟨#[]⟩, .slice none 0 0, .slice none 0 0] 28))
      have hs1 := size_new wr (.cells #[.int .i64 0, .string ⟨#[]⟩, .slice none 0 0, .int .i64 0, .int .i64 0, .string ⟨#[]⟩, .slice none 0 0, .slice none 0 0] 28)
      have HRDX : Hid (RvSt C (fun b => P b ∧ b ≠ wr.heap.size) S w (.slice av fs.length cv) (wr.alloc (.cells #[.int .i64 0, .string ⟨#[]⟩, .slice none 0 0, .int .i64 0, .int .i64 0, .string ⟨#[]⟩, .slice none 0 0, .slice none 0 0] 28)) fj (.slice av1 fj.length cv1) lt (.slice aT lt.length cT) (.cells #[.int .i64 k, .string nm, .slice an ns.length cn, .int .i64 ck, .int .i64 ci, .string cs, .slice ad 0 cd, .slice (some ⟨b, o, none⟩) l.length c] 28) (.cells #[.int .i64 k, .string nm, .slice an ns.length cn, .int .i64 ck, .int .i64 ci, .string cs, .slice ad 0 cd, .slice aT lt.length cT] 28)) := Lib.hid ((HRD.out.weakP (P' := fun b => P b ∧ b ≠ wr.heap.size) fun b h1 h2 => ⟨h1, by omega⟩).below HB1.out)
      have KC := Lib.hid (IT.out (wr.alloc (.cells #[.int .i64 0, .string ⟨#[]⟩, .slice none 0 0, .int .i64 0, .int .i64 0, .string ⟨#[]⟩, .slice none 0 0, .slice none 0 0] 28)) C (fun b => (P b ∧ b ≠ wr.heap.size) ∧ ¬ (w.heap.size ≤ b ∧ b < w.heap.size + 3) ∧ some b ≠ (Value.slice aT lt.length cT).ownBlock) S fj (.slice av1 fj.length cv1) _ _ _ (HF1.out.below HB1.out) OT.out (fun b hb2 => by
        obtain ⟨g1, g2, _⟩ := HRD.out.offS b hb2
        obtain ⟨g3, _, g4⟩ := HSL.out b hb2
        exact ⟨by omega, g2, ⟨g4, by omega⟩, by omega, fun e => by have := (HOWN.out b e.symm).1; omega⟩) HRDX.out.st (by omega) (fun b hb2 => by
        exact ⟨⟨HPN.out b (by omega), by omega⟩, by omega, fun e => by have := (HOWN.out b e.symm).2; omega⟩) HBD.out.1 HBD.out.2)
      unfold RLiftIs at KC
      have HVL := Lib.hid hvl
      have HS1 : Hid (w.heap.size + 3 ≤ wr.heap.size ∧ (wr.alloc (.cells #[.int .i64 0, .string ⟨#[]⟩, .slice none 0 0, .int .i64 0, .int .i64 0, .string ⟨#[]⟩, .slice none 0 0, .slice none 0 0] 28)).heap.size = wr.heap.size + 1) := Lib.hid ⟨h3, hs1⟩
      have c0 := cell_below HB1.out a0
      have c1 := cell_below HB1.out a1
      have c2 := cell_below HB1.out a2
      have c3 := cell_below HB1.out a3
      have c4 := cell_below HB1.out a4
      have c5 := cell_below HB1.out a5
      have c6 := cell_below HB1.out a6
      have c7 := cell_below HB1.out a7
      obtain ⟨y0, y1, y2, y3, y4, y5, y6, y7⟩ := look8n HRDX.out.eb
      clear IT HF1 hvl a0 a1 a2 a3 a4 a5 a6 a7 x0 x1 x2 x3 x4 x5 x6
      go_upto_region 14 with fail
      generalize wr.alloc (.cells #[.int .i64 0, .string ⟨#[]⟩, .slice none 0 0, .int .i64 0, .int .i64 0, .string ⟨#[]⟩, .slice none 0 0, .slice none 0 0] 28) = w1 at *
      go_wp2_with fail
      refine KC.out.mono ?_
      rintro e w2 ⟨rk, rn, rns, rck, rci, rcs, rcl, rl, rvn, rvd, rvk, v6, rfl, hr6, hf6, hst6, hfr6⟩
      obtain ⟨rn1, rn2, en, -⟩ := id hf6.1.2.2
      obtain ⟨rd1, rd2, ed, -⟩ := id hf6.2.1.2.2.2
      obtain ⟨rk1, rk2, ek, -⟩ := id hf6.2.2
      obtain ⟨av2, cv2, ev2, hvl6⟩ := hst6.slice
      subst en ed ek ev2
      have HR6 := Lib.hid hr6
      have HRD6 := Lib.hid (HRDX.out.call hst6 hfr6)
      have hq6 := hfr6.2 wr.heap.size (by have := HS1.out; omega) (fun e => by have := (HVL.out _ e.symm).2; omega)
      have hzk := hq6.1.trans HZK.out
      have HZK6 := Lib.hid hzk
      have HF6 := Lib.hid hf6
      have HQ6 := Lib.hid hq6.2
      obtain ⟨s0, s1, s2, s3, s4, s5, s6, s7⟩ := look8n hzk
      obtain ⟨f0, f1, f2, f3, f4, f5, f6, f7⟩ := free8n hzk
      clear hr6 hf6 hst6 hfr6 hq6 hzk KC hvl6 HRDX c0 c1 c2 c3 c4 c5 c6 c7 y0 y1 y2 y3 y4 y5 y6 y7
      go_upto_region 15 with fail
      have HX7 := Lib.hid (fun b (hb : b ≠ wr.heap.size) => bput8_other (W := w2) hb (.int .i64 rk) (.string rn) (.slice rn1 rns.length rn2) (.int .i64 rck) (.int .i64 rci) (.string rcs) (.slice rd1 rcl.length rd2) (.slice rk1 rl.length rk2))
      have HB7 := Lib.hid (bbel8 (Below.refl C w2) (show C ≤ wr.heap.size by have := HS1.out; omega) (.int .i64 rk) (.string rn) (.slice rn1 rns.length rn2) (.int .i64 rck) (.int .i64 rci) (.string rcs) (.slice rd1 rcl.length rd2) (.slice rk1 rl.length rk2))
      have HZ7 := Lib.hid (bput8 (v0 := .int .i64 rk) (v1 := .string rn) (v2 := .slice rn1 rns.length rn2) (v3 := .int .i64 rck) (v4 := .int .i64 rci) (v5 := .string rcs) (v6 := .slice rd1 rcl.length rd2) (v7 := .slice rk1 rl.length rk2) HZK6.out)
      have HRD7 := Lib.hid (HRD6.out.box HS1.out.1 (fun e => by have := (HOWN.out _ e).2; omega) (fun e => HQ6.out e.symm) HB7.out HX7.out)
      have HF7 := Lib.hid (HF6.out.stays (w9 := ((((((((w2.setCell ⟨wr.heap.size, 0, none⟩ (.int .i64 rk)).setCell ⟨wr.heap.size, 1, none⟩ (.string rn)).setCell ⟨wr.heap.size, 2, none⟩ (.slice rn1 rns.length rn2)).setCell ⟨wr.heap.size, 3, none⟩ (.int .i64 rck)).setCell ⟨wr.heap.size, 4, none⟩ (.int .i64 rci)).setCell ⟨wr.heap.size, 5, none⟩ (.string rcs)).setCell ⟨wr.heap.size, 6, none⟩ (.slice rd1 rcl.length rd2)).setCell ⟨wr.heap.size, 7, none⟩ (.slice rk1 rl.length rk2))) (S9 := fun b => (((S b ∨ w.heap.size + 3 ≤ b) ∧ P b) ∧ some b ≠ (Value.slice av2 (liftT fj (.mk tk tn tns (.mk tck tci tcs tcl) tl)).2.length cv2).ownBlock) ∧ some b ≠ (Value.slice aT lt.length cT).ownBlock) (fun b hb => by
        have g2 := HS1.out
        refine ⟨⟨⟨hb.1.imp id fun g => by omega, ?_⟩, hb.2⟩, fun e => ?_⟩
        · rcases hb.1 with g | g
          · exact (HSL.out b g).2.2
          · exact HPN.out b (by omega)
        · have g1 := HOWN.out b e.symm
          rcases hb.1 with g | g
          · have := (HSL.out b g).1
            omega
          · omega) (fun b hb => HX7.out b (by
        have g2 := HS1.out
        rcases hb.1 with g | g
        · have := (HSL.out b g).1
          omega
        · omega)))
      clear HX7 HB7 HF6 HRD6 HZK6 s0 s1 s2 s3 s4 s5 s6 s7 f0 f1 f2 f3 f4 f5 f6 f7
      generalize ((((((((w2.setCell ⟨wr.heap.size, 0, none⟩ (.int .i64 rk)).setCell ⟨wr.heap.size, 1, none⟩ (.string rn)).setCell ⟨wr.heap.size, 2, none⟩ (.slice rn1 rns.length rn2)).setCell ⟨wr.heap.size, 3, none⟩ (.int .i64 rck)).setCell ⟨wr.heap.size, 4, none⟩ (.int .i64 rci)).setCell ⟨wr.heap.size, 5, none⟩ (.string rcs)).setCell ⟨wr.heap.size, 6, none⟩ (.slice rd1 rcl.length rd2)).setCell ⟨wr.heap.size, 7, none⟩ (.slice rk1 rl.length rk2)) = w3 at *
      generalize (liftT fj (.mk tk tn tns (.mk tck tci tcs tcl) tl)).2 = fj2 at *
      have HB8 := Lib.hid ((Below.refl w3.heap.size w3).alloc (Nat.le_refl _) (.cells #[.int .i64 rk, .string rn, .slice rn1 rns.length rn2, .int .i64 rck, .int .i64 rci, .string rcs, .slice rd1 rcl.length rd2, .slice rk1 rl.length rk2] 28))
      have HRD8 := Lib.hid (HRD7.out.below HB8.out)
      have HF8 := Lib.hid (HF7.out.below HB8.out)
      have HC8 := Lib.hid (HRD8.out.size)
      obtain ⟨s0, s1, s2, s3, s4, s5, s6, s7⟩ := look8n HZ7.out
      have q7 : w3.cell? ⟨w.heap.size + 1 + 1, 7, none⟩ = some (.slice aT lt.length cT) := by rw [Lib.cell_of_heap HRD7.out.qb]; rfl
      go_wp2_with (at_builtin; refine wpList_append_e rfl _ _ rfl (w.heap.size + 3) _ lt (.slice aT lt.length cT) rfl HRD8.out.row w3.heap.size rk rn rns rck rci rcs rcl rl _ _ _ rfl (heap_alloc_new w3 _) HF8.out hlen HC8.out ?_; intro g cap w7 h7 hg7 hat7; go_must (have HRD9 := Lib.hid (HRD8.out.grow hg7 hat7 h7)); go_must (have q78 : w7.cell? ⟨w.heap.size + 1 + 1, 7, none⟩ = some (.slice aT lt.length cT) := (by rw [Lib.cell_of_heap HRD9.out.qb]; rfl)); go_must (have f78 : w7.frozen? ⟨w.heap.size + 1 + 1, 7, none⟩ = false := Lib.frozen_of_heap HRD9.out.qb 7); clear h7 hg7 hat7)
      go_roundw
      case rel => exact ⟨j + 1, _, by omega, by go_num, by rw [HTS.out, HR6.out]; exact HRD9.out.put 7 _⟩
      case measure => simp [intOf]; omega
    · obtain rfl : j = l.length := by omega
      rw [List.take_length] at hrd ⊢
      clear HRD
      have HRD := Lib.hid hrd
      obtain ⟨aT, cT, rfl, hown⟩ := hrd.row.slice
      have HL9 : Hid ((liftsT fs l).1.length = l.length) := Lib.hid (liftsT_len l fs)
      rw [HL9.out] at HRD
      clear hrd hown
      obtain ⟨y0, y1, y2, y3, y4, y5, y6, y7⟩ := look8n (show wr.heap[w.heap.size + 1 + 1]? = _ from HRD.out.qb)
      obtain ⟨z0, z1, z2, z3, z4, z5, z6, z7⟩ := look8n HRD.out.zb
      obtain ⟨f0, f1, f2, f3, f4, f5, f6, f7⟩ := free8n HRD.out.zb
      have HZ9 := Lib.hid (bput8 (v0 := .int .i64 k) (v1 := .string nm) (v2 := .slice an ns.length cn) (v3 := .int .i64 ck) (v4 := .int .i64 ci) (v5 := .string cs) (v6 := .slice ad 0 cd) (v7 := .slice aT l.length cT) HRD.out.zb)
      have HX9 := Lib.hid (fun b (hb : b ≠ w.heap.size + 1) => bput8_other (W := wr) hb (.int .i64 k) (.string nm) (.slice an ns.length cn) (.int .i64 ck) (.int .i64 ci) (.string cs) (.slice ad 0 cd) (.slice aT l.length cT))
      have HY9 := Lib.hid (HRD.out.fin (bbel8 HRD.out.fr.1 (show C ≤ w.heap.size + 1 by omega) (.int .i64 k) (.string nm) (.slice an ns.length cn) (.int .i64 ck) (.int .i64 ci) (.string cs) (.slice ad 0 cd) (.slice aT l.length cT)) HX9.out)
      have HN9 := Lib.hid (HI.out.1.2.2.stays (w9 := ((((((((wr.setCell ⟨w.heap.size + 1, 0, none⟩ (.int .i64 k)).setCell ⟨w.heap.size + 1, 1, none⟩ (.string nm)).setCell ⟨w.heap.size + 1, 2, none⟩ (.slice an ns.length cn)).setCell ⟨w.heap.size + 1, 3, none⟩ (.int .i64 ck)).setCell ⟨w.heap.size + 1, 4, none⟩ (.int .i64 ci)).setCell ⟨w.heap.size + 1, 5, none⟩ (.string cs)).setCell ⟨w.heap.size + 1, 6, none⟩ (.slice ad 0 cd)).setCell ⟨w.heap.size + 1, 7, none⟩ (.slice aT l.length cT))) (S9 := fun b => (S b ∨ w.heap.size ≤ b) ∧ some b ≠ (Value.slice av1 (liftsT fs l).2.length cv1).ownBlock) (fun b hb => ⟨.inl hb, (HRD.out.offS b hb).2.1⟩) (fun b hb => (HX9.out b (by have := (HSL.out b hb).1; omega)).trans (HRD.out.offS b hb).2.2))
      have HOK : Hid (ok64 k ∧ nm.size ≤ maxLen ∧ ok64 ck ∧ ok64 ci ∧ cs.size ≤ maxLen) := Lib.hid ⟨HI.out.1.1, HI.out.1.2.1, HI.out.2.1.1, HI.out.2.1.2.1, HI.out.2.1.2.2.1⟩
      clear HRD HX9 HI
      go_wp2
      refine bodyPost_ret (results_row_one (P := Try.prog) rfl _ _ (w.heap.size + 1) 28 _ (0, 0) _ rfl HZ9.out Try.underlying28 rfl (by kernel_rfl)) rfl ?_
      refine ⟨k, nm, ns, ck, ci, cs, [], (liftsT fs l).1, _, .slice ad 0 cd, _, _, rfl, by rw [HLF.out], ⟨⟨HOK.out.1, HOK.out.2.1, HN9.out⟩, ⟨HOK.out.2.2.1, HOK.out.2.2.2.1, HOK.out.2.2.2.2, HD9.out _ _⟩, HY9.out.1⟩, by rw [HLF.out]; exact HY9.out.2.1, HY9.out.2.2⟩
end Go.Proofs.Ytkgofgkgnchhjaa.Core
