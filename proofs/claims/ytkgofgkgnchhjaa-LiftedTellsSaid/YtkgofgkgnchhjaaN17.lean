/-
The law of what comes of any expression when it is lifted, given that it lies in memory. No condition.
-/
import Derived.Test.YtkgofgkgnchhjaaN14
import Derived.Test.YtkgofgkgnchhjaaN15
import Derived.Test.YtkgofgkgnchhjaaN19

namespace Go.Proofs.Ytkgofgkgnchhjaa.Core
open Go.ChangeShapes Go.WideShapes Go.ChangeAt Go.RowKit Go.Deep
open Dat (PT ok64 RowX)
set_option maxRecDepth 100000

/-- What Lift answers, in pieces. -/
def PcIs (t : PE) (e : Ending) (w : World) : Prop := ∃ p1 p2 p3 p4 p5 p6 p7 p8 p9 pa pb pc pd pe pf pg ph, e = .returned (.tuple #[.agg #[.slice p1 p2 p3, .int .i64 p4, .string p5, .slice p6 p7 p8, .int .i64 p9, .int .i64 pa, .string pb, .slice pc pd pe, .slice pf pg ph], .int .i64 (codeL t)]) ∧ InL w (progL t).1 (progL t).2 (.agg #[.slice p1 p2 p3, .int .i64 p4, .string p5, .slice p6 p7 p8, .int .i64 p9, .int .i64 pa, .string pb, .slice pc pd pe, .slice pf pg ph])
theorem pc_of {t : PE} {e : Ending} {w : World} (h : LiftIs t e w) : PcIs t e w := by
  obtain ⟨v, he, hv⟩ := h
  have hv2 := hv
  unfold PcIs
  generalize (progL t).1 = p1 at *
  generalize (progL t).2 = p2 at *
  obtain ⟨vF, k, nm, ns, ck, ci, cs, cl, l, vn, vd, vk, rfl, _, hE, hF⟩ := hv
  obtain ⟨⟨_, _, a1, c1, e1, _⟩, ⟨_, _, _, a2, c2, e2, _⟩, a3, c3, e3, _⟩ := hE
  obtain ⟨a4, c4, e4, _⟩ := hF
  subst e1 e2 e3 e4
  exact ⟨_, _, _, _, _, _, _, _, _, _, _, _, _, _, _, _, _, he, hv2⟩
set_option maxHeartbeats 4000000 in
theorem tells14_walk (t : PE) (vn vd vk : Value) (w : World) (h : InF w (· < w.heap.size) t vn vd vk) :
    Calls Try.prog 3 #[t.val vn vd vk] w fun e w' => e = .returned (.bool true) ∧ Below w.heap.size w w' := by
  have KA := Lib.hid (fun W (hb : Below w.heap.size w W) => lift_any t (· < w.heap.size) vn vd vk W (h.belowT (fun b hb' => hb') hb) (fun b hb' => Nat.lt_of_lt_of_le hb' hb.size))
  have KB := Lib.hid (fun W (hb : Below w.heap.size w W) => rlift14_any t (· < w.heap.size) vn vd vk W (h.belowT (fun b hb' => hb') hb) (fun b hb' => Nat.lt_of_lt_of_le hb' hb.size))
  obtain ⟨k, nm, ns, ⟨ck, ci, cs, cl⟩, l⟩ := t
  obtain ⟨⟨_, _, an, cn, rfl, _⟩, ⟨_, _, _, ad, cd, rfl, _⟩, ak, c, rfl, _⟩ := h
  show Calls Try.prog 3 #[.agg #[.int .i64 k, .string nm, .slice an ns.length cn, .int .i64 ck, .int .i64 ci, .string cs, .slice ad cl.length cd, .slice ak l.length c]] w _
  simp only [PE.val] at KA KB
  generalize PE.mk k nm ns (.mk ck ci cs cl) l = T at *
  have HZ0 := Lib.hid (heap_alloc_new w (.cells #[.int .i64 k, .string nm, .slice an ns.length cn, .int .i64 ck, .int .i64 ci, .string cs, .slice ad cl.length cd, .slice ak l.length c] 28))
  have HB0 := Lib.hid ((Below.refl w.heap.size w).alloc (Nat.le_refl _) (.cells #[.int .i64 k, .string nm, .slice an ns.length cn, .int .i64 ck, .int .i64 ci, .string cs, .slice ad cl.length cd, .slice ak l.length c] 28))
  go_enter Try.func3, Try.ntmps3
  go_upto_region 1 with fail
  generalize w.alloc (.cells #[.int .i64 k, .string nm, .slice an ns.length cn, .int .i64 ck, .int .i64 ci, .string cs, .slice ad cl.length cd, .slice ak l.length c] 28) = w0 at *
  obtain ⟨x0, x1, x2, x3, x4, x5, x6, x7⟩ := look8n HZ0.out
  go_wp2_with fail
  refine (KA.out _ HB0.out).mono ?_
  rintro e w1 ⟨h1, hb1⟩
  obtain ⟨p1, p2, p3, p4, p5, p6, p7, p8, p9, pa, pb, pc, pd, pe, pf, pg, ph, rfl, hl1⟩ := pc_of h1
  have HL1 := Lib.hid hl1
  have hb2 := (Below.refl w1.heap.size w1).alloc (Nat.le_refl _) (.cells #[.slice p1 p2 p3, .int .i64 p4, .string p5, .slice p6 p7 p8, .int .i64 p9, .int .i64 pa, .string pb, .slice pc pd pe, .slice pf pg ph] 31)
  have HZ1 := Lib.hid (heap_alloc_new w1 (.cells #[.slice p1 p2 p3, .int .i64 p4, .string p5, .slice p6 p7 p8, .int .i64 p9, .int .i64 pa, .string pb, .slice pc pd pe, .slice pf pg ph] 31))
  have hb3 := hb1.trans (hb2.mono hb1.size)
  have HB2 := Lib.hid (HB0.out.trans (hb3.mono HB0.out.size))
  have HE2 := Lib.hid ((hb3.block _ (lt_of_block HZ0.out)).trans HZ0.out)
  have HL2 := Lib.hid (hl1.below hb2)
  clear x0 x1 x2 x3 x4 x5 x6 x7 h1 hl1 hb1 hb2 hb3 KA
  go_upto_region 2 with fail
  generalize w1.alloc (.cells #[.slice p1 p2 p3, .int .i64 p4, .string p5, .slice p6 p7 p8, .int .i64 p9, .int .i64 pa, .string pb, .slice pc pd pe, .slice pf pg ph] 31) = w2 at *
  obtain ⟨x0, x1, x2, x3, x4, x5, x6, x7⟩ := look8n HE2.out
  go_wp2_with fail
  refine (KB.out _ HB2.out).mono ?_
  rintro e w3 ⟨h1, hb3⟩
  obtain ⟨q1, q2, q3, q4, q5, q6, q7, q8, q9, qa, qb, qc, qd, qe, qf, qg, qh, rfl, hl3⟩ := pc_of h1
  have hb4 := (Below.refl w3.heap.size w3).alloc (Nat.le_refl _) (.cells #[.slice q1 q2 q3, .int .i64 q4, .string q5, .slice q6 q7 q8, .int .i64 q9, .int .i64 qa, .string qb, .slice qc qd qe, .slice qf qg qh] 31)
  have HZ3 := Lib.hid (heap_alloc_new w3 (.cells #[.slice q1 q2 q3, .int .i64 q4, .string q5, .slice q6 q7 q8, .int .i64 q9, .int .i64 qa, .string qb, .slice qc qd qe, .slice qf qg qh] 31))
  have hb5 := hb3.trans (hb4.mono hb3.size)
  have HB4 := Lib.hid (HB2.out.trans (hb5.mono HB2.out.size))
  have HP4 := Lib.hid ((hb5.block _ (lt_of_block HZ1.out)).trans HZ1.out)
  have HL4 := Lib.hid (HL2.out.below hb5)
  have HM4 := Lib.hid (hl3.below hb4)
  clear x0 x1 x2 x3 x4 x5 x6 x7 h1 hl3 hb3 hb4 hb5 KB
  go_upto_region 3 with fail
  generalize w3.alloc (.cells #[.slice q1 q2 q3, .int .i64 q4, .string q5, .slice q6 q7 q8, .int .i64 q9, .int .i64 qa, .string qb, .slice qc qd qe, .slice qf qg qh] 31) = w4 at *
  have KS := Lib.hid (fun W (hb : Below w4.heap.size w4 W) => same14_any (progL T).1 (progL T).2 _ _ W (HL4.out.below hb) (HM4.out.below hb))
  have KX := Lib.hid (fixedL_any w4)
  generalize codeL T = cc at *
  clear HL4 HM4 HL1 HL2
  go_wp2_with fail
  refine KX.out.mono ?_
  rintro e w5 ⟨rfl, hb5⟩
  have HB5 := Lib.hid hb5
  obtain ⟨x0, x1, x2, x3, x4, x5, x6, x7, x8⟩ := look9n ((hb5.block _ (lt_of_block HP4.out)).trans HP4.out)
  obtain ⟨y0, y1, y2, y3, y4, y5, y6, y7, y8⟩ := look9n ((hb5.block _ (lt_of_block HZ3.out)).trans HZ3.out)
  clear hb5
  go_wp2_with fail
  refine (KS.out _ HB5.out).mono ?_
  rintro e w6 ⟨rfl, hb6⟩
  have HB6 := Lib.hid (HB4.out.trans ((HB5.out.trans (hb6.mono HB5.out.size)).mono HB4.out.size))
  clear hb6
  go_wp2
  go_ret
  exact ⟨rfl, HB6.out⟩
end Go.Proofs.Ytkgofgkgnchhjaa.Core
