/-
The document's question whether two programs are the same, of two that are. No condition.
-/
import Derived.Test.YtkgofgkgnchhjaaN12
import Derived.Test.YtkgofgkgnchhjaaK6
import Derived.BigRegion
import Derived.Deep.DeepCutAuto

namespace Go.Proofs.Ytkgofgkgnchhjaa.Core
open Go.ChangeShapes Go.WideShapes Go.ChangeAt Go.RowKit Go.Deep
open Dat (PT ok64 RowX)
set_option maxRecDepth 100000

theorem sameE_self (t : PE) : sameE t t = true := by simp [sameE]
theorem look10n {W : World} {g : Nat} {x0 x1 x2 x3 x4 x5 x6 x7 x8 x9 : Value} {ty : TypeId} (hb : W.heap[g]? = some (.cells #[x0, x1, x2, x3, x4, x5, x6, x7, x8, x9] ty)) :
    W.cell? ⟨g, 0, none⟩ = some x0 ∧ W.cell? ⟨g, 1, none⟩ = some x1 ∧ W.cell? ⟨g, 2, none⟩ = some x2 ∧ W.cell? ⟨g, 3, none⟩ = some x3 ∧ W.cell? ⟨g, 4, none⟩ = some x4 ∧ W.cell? ⟨g, 5, none⟩ = some x5 ∧ W.cell? ⟨g, 6, none⟩ = some x6 ∧ W.cell? ⟨g, 7, none⟩ = some x7 ∧ W.cell? ⟨g, 8, none⟩ = some x8 ∧ W.cell? ⟨g, 9, none⟩ = some x9 := by
  refine ⟨?_, ?_, ?_, ?_, ?_, ?_, ?_, ?_, ?_, ?_⟩
  all_goals (rw [Lib.cell_of_heap hb]; rfl)
set_option maxHeartbeats 4000000 in
theorem same14_any (t : PE) (fs : List FunT) (v u : Value) (w : World) (hv : InL w t fs v) (hu : InL w t fs u) :
    Calls Try.prog 8 #[v, u] w fun e w' => e = .returned (.bool true) ∧ Below w.heap.size w w' := by
  obtain ⟨vF, k, nm, ns, ck, ci, cs, cl, l, vn, vd, vk, rfl, rfl, hE, hF⟩ := hv
  obtain ⟨uF, k', nm', ns', ck', ci', cs', cl', l', un, ud, uk, rfl, e2, hE', hF'⟩ := hu
  cases e2
  have HE := Lib.hid hE
  have HE' := Lib.hid hE'
  have HF := Lib.hid hF
  have HF' := Lib.hid hF'
  obtain ⟨⟨_, _, an, cn, rfl, _⟩, ⟨_, _, _, ad, cd, rfl, _⟩, ak, c, rfl, _⟩ := hE
  obtain ⟨⟨_, _, an', cn', rfl, _⟩, ⟨_, _, _, ad', cd', rfl, _⟩, ak', c', rfl, _⟩ := hE'
  obtain ⟨af, cf, rfl, hfl, hfm, _⟩ := hF
  obtain ⟨af', cf', rfl, hfl', hfm', _⟩ := hF'
  unfold maxLen at hfm hfm'
  have KS := Lib.hid (fun W (hb : Below w.heap.size w W) => sameE_any (.mk k nm ns (.mk ck ci cs cl) l) (.mk k nm ns (.mk ck ci cs cl) l) W _ _ _ _ _ _ _ _ (HE.out.below hb) (HE'.out.below hb))
  rw [sameE_self] at KS
  unfold PE.val at KS
  clear HE HE'
  have hb0 := ((Below.refl w.heap.size w).alloc (Nat.le_refl _) (.cells #[.slice af fs.length cf, .int .i64 k, .string nm, .slice an ns.length cn, .int .i64 ck, .int .i64 ci, .string cs, .slice ad cl.length cd, .slice ak l.length c] 31))
  obtain ⟨z0, z1, zb⟩ := two_new w (.cells #[.slice af fs.length cf, .int .i64 k, .string nm, .slice an ns.length cn, .int .i64 ck, .int .i64 ci, .string cs, .slice ad cl.length cd, .slice ak l.length c] 31) (.cells #[.slice af' fs.length cf', .int .i64 k, .string nm, .slice an' ns.length cn', .int .i64 ck, .int .i64 ci, .string cs, .slice ad' cl.length cd', .slice ak' l.length c'] 31)
  have Z0 := Lib.hid z0
  have Z1 := Lib.hid z1
  have ZB := Lib.hid zb
  clear z0 z1 zb hb0
  go_enter Try.func8, Try.ntmps8
  go_wp2_with fail
  refine (KS.out _ ZB.out).mono ?_
  rintro e w1 ⟨rfl, hb1⟩
  have HB1 := Lib.hid (ZB.out.trans (hb1.mono ZB.out.size))
  have hc0 := (hb1.block _ (lt_of_block Z0.out)).trans Z0.out
  have hc1 := (hb1.block _ (lt_of_block Z1.out)).trans Z1.out
  have C0 := Lib.hid hc0
  have C1 := Lib.hid hc1
  clear hb1 hc0 hc1 Z0 Z1 ZB
  go_wp2
  go_loopw [5] (fun ix wr => ∃ j : Nat, j ≤ fs.length ∧ ix = .int .i64 j ∧ Below w1.heap.size w1 wr) (fun ix _ => fs.length - (intOf ix).toNat)
  case atStart => exact ⟨0, Nat.zero_le _, rfl, Below.refl _ _⟩
  case round =>
    obtain ⟨j, hj, rfl, hbr⟩ := hrel
    have HBR := Lib.hid hbr
    have D0 := Lib.hid ((hbr.block _ (lt_of_block C0.out)).trans C0.out)
    have D1 := Lib.hid ((hbr.block _ (lt_of_block C1.out)).trans C1.out)
    have x0 : wr.cell? ⟨w.heap.size, 0, none⟩ = some (.slice af fs.length cf) := by rw [Lib.cell_of_heap D0.out]; rfl
    have x1 : wr.cell? ⟨w.heap.size + 1, 0, none⟩ = some (.slice af' fs.length cf') := by rw [Lib.cell_of_heap D1.out]; rfl
    clear hbr
    by_cases hlt : j < fs.length
    · have hw2 := HB1.out.trans (HBR.out.mono HB1.out.size)
      have hg : fs[j]? = some fs[j] := List.getElem?_eq_getElem hlt
      generalize fs[j] = f at hg
      obtain ⟨ps, fr, fk, fnm, fns, ⟨fck, fci, fcs, fcl⟩, fl⟩ := f
      obtain ⟨b, o, c2, vp, vf, vn, vd, vk, e3, _, _, p1, p2, p3, a0, a1, a2, a3, a4, a5, a6, a7, a8, a9⟩ := (HF.out.below hw2).item j hg
      obtain ⟨b', o', c2', vp', vf', vn', vd', vk', e3', _, _, p1', p2', p3', b0, b1, b2, b3, b4, b5, b6, b7, b8, b9⟩ := (HF'.out.below hw2).item j hg
      cases e3
      cases e3'
      have P1 := Lib.hid p1
      have P2 := Lib.hid p2
      have P3 := Lib.hid p3
      have P1' := Lib.hid p1'
      have P2' := Lib.hid p2'
      have P3' := Lib.hid p3'
      have hbb : b < wr.heap.size := World.block_lt_of_cell? _ _ a0
      have hbb' : b' < wr.heap.size := World.block_lt_of_cell? _ _ b0
      have hww : w.heap.size < wr.heap.size := lt_of_block D0.out
      have hww1 : w.heap.size + 1 < wr.heap.size := lt_of_block D1.out
      obtain ⟨p1a, p1c, e1, -⟩ := p1
      obtain ⟨p2a, p2c, e2, -⟩ := p2
      obtain ⟨q1a, q1c, e3, -⟩ := p1'
      obtain ⟨q2a, q2c, e4, -⟩ := p2'
      obtain ⟨⟨-, -, p3a, p3c, e5, -⟩, ⟨-, -, -, p4a, p4c, e6, -⟩, p5a, p5c, e7, -⟩ := p3
      obtain ⟨⟨-, -, q3a, q3c, e8, -⟩, ⟨-, -, -, q4a, q4c, e9, -⟩, q5a, q5c, e10, -⟩ := p3'
      subst e1 e2 e3 e4 e5 e6 e7 e8 e9 e10
      go_upto_region 6 with fail
      go_cut [6, 7] from 23 to 61 (fun v6 v7 wx => ∃ g6 g7, v6 = .pointer (some ⟨g6, 0, none⟩) ∧ v7 = .pointer (some ⟨g7, 0, none⟩) ∧ wx.heap[g6]? = some (.cells #[.slice p1a ps.length p1c, .slice p2a fr.length p2c, .int .i64 fk, .string fnm, .slice p3a fns.length p3c, .int .i64 fck, .int .i64 fci, .string fcs, .slice p4a fcl.length p4c, .slice p5a fl.length p5c] 44) ∧ wx.heap[g7]? = some (.cells #[.slice q1a ps.length q1c, .slice q2a fr.length q2c, .int .i64 fk, .string fnm, .slice q3a fns.length q3c, .int .i64 fck, .int .i64 fci, .string fcs, .slice q4a fcl.length q4c, .slice q5a fl.length q5c] 44) ∧ Below wr.heap.size wr wx)
      case first =>
        go_region
        all_goals
          go_wp2
          go_meet
          first
            | exact ⟨_, _, rfl, rfl, (two_new wr (.cells #[.slice q1a ps.length q1c, .slice q2a fr.length q2c, .int .i64 fk, .string fnm, .slice q3a fns.length q3c, .int .i64 fck, .int .i64 fci, .string fcs, .slice q4a fcl.length q4c, .slice q5a fl.length q5c] 44) (.cells #[.slice p1a ps.length p1c, .slice p2a fr.length p2c, .int .i64 fk, .string fnm, .slice p3a fns.length p3c, .int .i64 fck, .int .i64 fci, .string fcs, .slice p4a fcl.length p4c, .slice p5a fl.length p5c] 44)).2.1, (two_new wr (.cells #[.slice q1a ps.length q1c, .slice q2a fr.length q2c, .int .i64 fk, .string fnm, .slice q3a fns.length q3c, .int .i64 fck, .int .i64 fci, .string fcs, .slice q4a fcl.length q4c, .slice q5a fl.length q5c] 44) (.cells #[.slice p1a ps.length p1c, .slice p2a fr.length p2c, .int .i64 fk, .string fnm, .slice p3a fns.length p3c, .int .i64 fck, .int .i64 fci, .string fcs, .slice p4a fcl.length p4c, .slice p5a fl.length p5c] 44)).1, (two_new wr (.cells #[.slice q1a ps.length q1c, .slice q2a fr.length q2c, .int .i64 fk, .string fnm, .slice q3a fns.length q3c, .int .i64 fck, .int .i64 fci, .string fcs, .slice q4a fcl.length q4c, .slice q5a fl.length q5c] 44) (.cells #[.slice p1a ps.length p1c, .slice p2a fr.length p2c, .int .i64 fk, .string fnm, .slice p3a fns.length p3c, .int .i64 fck, .int .i64 fci, .string fcs, .slice p4a fcl.length p4c, .slice p5a fl.length p5c] 44)).2.2.drew⟩
            | exact ⟨_, _, rfl, rfl, (two_new wr (.cells #[.slice p1a ps.length p1c, .slice p2a fr.length p2c, .int .i64 fk, .string fnm, .slice p3a fns.length p3c, .int .i64 fck, .int .i64 fci, .string fcs, .slice p4a fcl.length p4c, .slice p5a fl.length p5c] 44) (.cells #[.slice q1a ps.length q1c, .slice q2a fr.length q2c, .int .i64 fk, .string fnm, .slice q3a fns.length q3c, .int .i64 fck, .int .i64 fci, .string fcs, .slice q4a fcl.length q4c, .slice q5a fl.length q5c] 44)).1, (two_new wr (.cells #[.slice p1a ps.length p1c, .slice p2a fr.length p2c, .int .i64 fk, .string fnm, .slice p3a fns.length p3c, .int .i64 fck, .int .i64 fci, .string fcs, .slice p4a fcl.length p4c, .slice p5a fl.length p5c] 44) (.cells #[.slice q1a ps.length q1c, .slice q2a fr.length q2c, .int .i64 fk, .string fnm, .slice q3a fns.length q3c, .int .i64 fck, .int .i64 fci, .string fcs, .slice q4a fcl.length q4c, .slice q5a fl.length q5c] 44)).2.1, (two_new wr (.cells #[.slice p1a ps.length p1c, .slice p2a fr.length p2c, .int .i64 fk, .string fnm, .slice p3a fns.length p3c, .int .i64 fck, .int .i64 fci, .string fcs, .slice p4a fcl.length p4c, .slice p5a fl.length p5c] 44) (.cells #[.slice q1a ps.length q1c, .slice q2a fr.length q2c, .int .i64 fk, .string fnm, .slice q3a fns.length q3c, .int .i64 fck, .int .i64 fci, .string fcs, .slice q4a fcl.length q4c, .slice q5a fl.length q5c] 44)).2.2.drew⟩
      case rest =>
      obtain ⟨w5, hw5⟩ : ∃ x, x = wc := ⟨_, rfl⟩
      subst hw5
      obtain ⟨g6, g7, rfl, rfl, h6, h7, hb5⟩ := hcut
      have H6 := Lib.hid h6
      have H7 := Lib.hid h7
      have HB5 := Lib.hid hb5
      have KT1 := Lib.hid (fun W (hb : Below wr.heap.size wr W) => sameTexts_any ps ps _ _ _ _ W (P1.out.below hb) (P1'.out.below hb))
      have KT2 := Lib.hid (fun W (hb : Below wr.heap.size wr W) => sameTexts_any fr fr _ _ _ _ W (P2.out.below hb) (P2'.out.below hb))
      have KT3 := Lib.hid (fun W (hb : Below wr.heap.size wr W) => sameE_any (.mk fk fnm fns (.mk fck fci fcs fcl) fl) (.mk fk fnm fns (.mk fck fci fcs fcl) fl) W _ _ _ _ _ _ _ _ (P3.out.below hb) (P3'.out.below hb))
      rw [sameN_self] at KT1 KT2
      rw [sameE_self] at KT3
      simp only [PE.val] at KT3
      obtain ⟨s0, s1, s2, s3, s4, s5, s6, s7, s8, s9⟩ := look10n h6
      obtain ⟨t0, t1, t2, t3, t4, t5, t6, t7, t8, t9⟩ := look10n h7
      clear h6 h7 hb5 a0 a1 a2 a3 a4 a5 a6 a7 a8 a9 b0 b1 b2 b3 b4 b5 b6 b7 b8 b9 x0 x1 hbb hbb' hww hww1 P1 P1' P2 P2' P3 P3'
      go_wp2_with fail
      refine (KT1.out _ HB5.out).mono ?_
      rintro e w6 ⟨rfl, hb6⟩
      have HB6 := Lib.hid (HB5.out.trans (hb6.mono HB5.out.size))
      have h6 := (hb6.block _ (lt_of_block H6.out)).trans H6.out
      have h7 := (hb6.block _ (lt_of_block H7.out)).trans H7.out
      have H66 := Lib.hid h6
      have H76 := Lib.hid h7
      clear s0 s1 s2 s3 s4 s5 s6 s7 s8 s9 t0 t1 t2 t3 t4 t5 t6 t7 t8 t9 hb6
      obtain ⟨s0, s1, s2, s3, s4, s5, s6, s7, s8, s9⟩ := look10n h6
      obtain ⟨t0, t1, t2, t3, t4, t5, t6, t7, t8, t9⟩ := look10n h7
      clear h6 h7
      go_wp2_with fail
      refine (KT2.out _ HB6.out).mono ?_
      rintro e w7 ⟨rfl, hb7⟩
      have HB7 := Lib.hid (HB6.out.trans (hb7.mono HB6.out.size))
      have h6 := (hb7.block _ (lt_of_block H66.out)).trans H66.out
      have h7 := (hb7.block _ (lt_of_block H76.out)).trans H76.out
      clear s0 s1 s2 s3 s4 s5 s6 s7 s8 s9 t0 t1 t2 t3 t4 t5 t6 t7 t8 t9 hb7
      obtain ⟨s0, s1, s2, s3, s4, s5, s6, s7, s8, s9⟩ := look10n h6
      obtain ⟨t0, t1, t2, t3, t4, t5, t6, t7, t8, t9⟩ := look10n h7
      clear h6 h7
      go_wp2_with fail
      refine (KT3.out _ HB7.out).mono ?_
      rintro e w8 ⟨rfl, hb8⟩
      have HB8 := Lib.hid (HBR.out.trans ((HB7.out.trans (hb8.mono HB7.out.size)).mono HBR.out.size))
      clear hb8
      go_wp2
      go_roundw
      case rel => exact ⟨j + 1, by omega, by go_num, HB8.out⟩
      case measure => simp [intOf]; omega
    · obtain rfl : j = fs.length := by omega
      have HBF := Lib.hid (HB1.out.trans (HBR.out.mono HB1.out.size))
      go_wp2
      go_ret
      exact ⟨rfl, HBF.out⟩
end Go.Proofs.Ytkgofgkgnchhjaa.Core
