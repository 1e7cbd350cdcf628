/-
The document's Lift, for every expression in memory. No condition.
-/
import Derived.Test.YtkgofgkgnchhjaaN13c
import Derived.Test.YtkgofgkgnchhjaaN18
import Derived.Test.YtkgofgkgnchhjaaWNB
import Derived.Test.YtkgofgkgnchhjaaWKP

namespace Go.Proofs.Ytkgofgkgnchhjaa.Core
open Go.ChangeShapes Go.WideShapes Go.ChangeAt Go.RowKit Go.Deep
open Dat (PT ok64 RowX)
set_option maxRecDepth 100000

set_option maxHeartbeats 8000000 in
theorem rlift14_any (t : PE) (S : Nat → Prop) (vn vd vk : Value) (w : World) (h : InF w S t vn vd vk) (hS : ∀ b, S b → b < w.heap.size) :
    Calls Try.prog 6 #[t.val vn vd vk] w fun e w' => LiftIs t e w' ∧ Below w.heap.size w w' := by
  have hup : ∀ W, Below w.heap.size w W → InF W S t vn vd vk := fun W hb => h.belowT hS hb
  have hSW : ∀ W, Below w.heap.size w W → ∀ b, S b → b < W.heap.size := fun W hb b hb2 => Nat.lt_of_lt_of_le (hS b hb2) hb.size
  have KC := Lib.hid (fun W (hb : Below w.heap.size w W) => rcheck_any t S vn vd vk W (hup W hb))
  have KF := Lib.hid (fun (hc : checkE t = 0) W (hb : Below w.heap.size w W) => rFree_any t S vn vd vk W (hup W hb) (hSW W hb) (by have := large_of_check hc; omega))
  have KG9 := Lib.hid (fun W (hb : Below w.heap.size w W) => rhas_any 9 t S vn vd vk W (hup W hb))
  have KG2 := Lib.hid (fun W (hb : Below w.heap.size w W) => rhas_any 2 t S vn vd vk W (hup W hb))
  have HCG := Lib.hid (chg_has t)
  have KL := Lib.hid (fun (hc : checkE t = 0) W C P h1 h2 h3 h4 h5 => rlift_any t W C P S [] (.slice none 0 0) vn vd vk h1 (okE_of_check hc) h2 h3 h4 h5 (by have := large_of_check hc; simp only [List.length_nil]; omega) (by have := large_of_check hc; omega))
  have HUP := Lib.hid hup
  have HSWL := Lib.hid hSW
  obtain ⟨k, nm, ns, ⟨ck, ci, cs, cl⟩, l⟩ := t
  obtain ⟨⟨_, _, an, cn, rfl, _⟩, ⟨_, _, _, ad, cd, rfl, _⟩, ak, c, rfl, _⟩ := h
  show Calls Try.prog 6 #[.agg #[.int .i64 k, .string nm, .slice an ns.length cn, .int .i64 ck, .int .i64 ci, .string cs, .slice ad cl.length cd, .slice ak l.length c]] w _
  obtain ⟨z0, z1, zb⟩ := two_new w (.cells #[.int .i64 k, .string nm, .slice an ns.length cn, .int .i64 ck, .int .i64 ci, .string cs, .slice ad cl.length cd, .slice ak l.length c] 28) (.cells #[.slice none 0 0, .int .i64 0, .string ⟨#[]⟩, .slice none 0 0, .int .i64 0, .int .i64 0, .string ⟨#[]⟩, .slice none 0 0, .slice none 0 0] 31)
  have hs2 : ((w.alloc (.cells #[.int .i64 k, .string nm, .slice an ns.length cn, .int .i64 ck, .int .i64 ci, .string cs, .slice ad cl.length cd, .slice ak l.length c] 28)).alloc (.cells #[.slice none 0 0, .int .i64 0, .string ⟨#[]⟩, .slice none 0 0, .int .i64 0, .int .i64 0, .string ⟨#[]⟩, .slice none 0 0, .slice none 0 0] 31)).heap.size = w.heap.size + 2 := by rw [size_new, size_new]
  have HZ0 := Lib.hid z0
  have HZ1 := Lib.hid z1
  have HZB := Lib.hid zb
  have HS2 := Lib.hid hs2
  simp only [PE.val] at KC KF KG9 KG2 KL
  clear z0 z1 zb hs2 hS hup hSW
  generalize PE.mk k nm ns (.mk ck ci cs cl) l = T at *
  go_enter Try.func6, Try.ntmps6
  go_upto_region 1 with fail
  generalize (w.alloc (.cells #[.int .i64 k, .string nm, .slice an ns.length cn, .int .i64 ck, .int .i64 ci, .string cs, .slice ad cl.length cd, .slice ak l.length c] 28)).alloc (.cells #[.slice none 0 0, .int .i64 0, .string ⟨#[]⟩, .slice none 0 0, .int .i64 0, .int .i64 0, .string ⟨#[]⟩, .slice none 0 0, .slice none 0 0] 31) = w1 at *
  obtain ⟨q, hq⟩ : ∃ q : Bool, (q = true ↔ ¬ okL T) := ⟨by classical exact decide (¬ okL T), by simp⟩
  have HQ := Lib.hid hq
  clear hq
  go_cut [22] (fun v wx => v = .bool q ∧ Below w1.heap.size w1 wx)
  case first =>
    have BX : Hid (∀ W, Below w1.heap.size w1 W → W.heap[w.heap.size]? = some (.cells #[.int .i64 k, .string nm, .slice an ns.length cn, .int .i64 ck, .int .i64 ci, .string cs, .slice ad cl.length cd, .slice ak l.length c] 28)) := Lib.hid fun W hb => (hb.block _ (by rw [HS2.out]; omega)).trans HZ0.out
    obtain ⟨x0, x1, x2, x3, x4, x5, x6, x7⟩ := look8n HZ0.out
    by_cases hc : checkE T = 0
    · have hcb : (checkE T != 0) = false := by simpa using hc
      have HF := Lib.hid (fun W hb => KF.out hc W hb)
      have HC := Lib.hid hc
      clear hc
      go_wp2_with fail
      refine (KC.out _ HZB.out).mono ?_
      rintro e w2 ⟨rfl, hb2⟩
      have HB2 := Lib.hid hb2
      clear hb2 x0 x1 x2 x3 x4 x5 x6 x7
      obtain ⟨x0, x1, x2, x3, x4, x5, x6, x7⟩ := look8n (BX.out _ HB2.out)
      go_wp2_with fail
      refine (HF.out _ (HZB.out.trans (HB2.out.mono HZB.out.size))).mono ?_
      rintro e w3 ⟨a9, c9, rfl, hn, hb3⟩
      have HB3 := Lib.hid (HB2.out.trans (hb3.mono HB2.out.size))
      clear hb3 hn x0 x1 x2 x3 x4 x5 x6 x7
      obtain ⟨x0, x1, x2, x3, x4, x5, x6, x7⟩ := look8n (BX.out _ HB3.out)
      by_cases h0 : freeT T = []
      · have HL0 : Hid ((freeT T).length = 0) := Lib.hid (by rw [h0]; rfl)
        have HCH := Lib.hid h0
        generalize (freeT T).length = n9 at *
        obtain rfl := HL0.out
        clear h0
        have HV : Hid ((hasT 9 T || hasT 2 T) = q) := Lib.hid (by
          rw [← HCG.out, Bool.eq_iff_iff, HQ.out]
          exact ⟨fun g g2 => (by rw [g2.2.2] at g; cases g), fun g => by
            cases hg : chgT T with
            | true => rfl
            | false => exact absurd ⟨HC.out, HCH.out, hg⟩ g⟩)
        go_wp2_with fail
        refine (KG9.out _ (HZB.out.trans (HB3.out.mono HZB.out.size))).mono ?_
        rintro e w4 ⟨rfl, hb4⟩
        have HB4 := Lib.hid (HB3.out.trans (hb4.mono HB3.out.size))
        clear hb4 x0 x1 x2 x3 x4 x5 x6 x7
        obtain ⟨x0, x1, x2, x3, x4, x5, x6, x7⟩ := look8n (BX.out _ HB4.out)
        generalize hasT 9 T = r9 at *
        cases r9
        · go_wp2_with fail
          refine (KG2.out _ (HZB.out.trans (HB4.out.mono HZB.out.size))).mono ?_
          rintro e w5 ⟨rfl, hb5⟩
          have HB5 := Lib.hid (HB4.out.trans (hb5.mono HB4.out.size))
          clear hb5
          go_wp2
          go_meet
          exact ⟨by rw [← HV.out]; rfl, HB5.out⟩
        · go_wp2
          go_meet
          exact ⟨by rw [← HV.out]; rfl, HB4.out⟩
      · have hp : (0 : Int) < ((freeT T).length : Int) := by have := List.length_pos_iff.2 h0; omega
        have HV : Hid (q = true) := Lib.hid (HQ.out.2 fun g => h0 g.2.1)
        generalize (freeT T).length = n9 at *
        clear h0
        go_wp2
        go_meet
        exact ⟨by rw [HV.out], HB3.out⟩
    · have hcb : (checkE T != 0) = true := by simpa using hc
      have HV : Hid (q = true) := Lib.hid (HQ.out.2 fun g => hc g.1)
      clear hc
      go_wp2_with fail
      refine (KC.out _ HZB.out).mono ?_
      rintro e w2 ⟨rfl, hb2⟩
      have HB2 := Lib.hid hb2
      clear hb2 x0 x1 x2 x3 x4 x5 x6 x7
      go_wp2
      go_meet
      exact ⟨by rw [HV.out], HB2.out⟩
  case rest =>
  obtain ⟨rfl, hb2⟩ := hcut
  obtain ⟨w2, hw2⟩ : ∃ x, x = wc := ⟨_, rfl⟩
  subst hw2
  have HB2 := Lib.hid (HZB.out.trans (hb2.mono HZB.out.size))
  have hz2 := (hb2.block (w.heap.size + 1) (by rw [HS2.out]; omega)).trans HZ1.out
  have he2 := (hb2.block w.heap.size (by rw [HS2.out]; omega)).trans HZ0.out
  have HZ2 := Lib.hid hz2
  have HE2 := Lib.hid he2
  have HW2 : Hid (w.heap.size + 2 ≤ w2.heap.size) := Lib.hid (by have := hb2.size; rw [HS2.out] at this; exact this)
  clear hb2
  by_cases hok : okL T
  · have hq : q = false := by
      cases q with
      | false => rfl
      | true => exact absurd hok (HQ.out.1 rfl)
    subst hq
    have KL2 := Lib.hid (fun W C P h1 h2 h3 h4 h5 => KL.out hok.1 W C P h1 h2 h3 h4 h5)
    have HYES := Lib.hid hok
    obtain ⟨x0, x1, x2, x3, x4, x5, x6, x7⟩ := look8n he2
    have KQ := Lib.hid (KL2.out w2 w2.heap.size (fun b => b ≠ w.heap.size + 1) (HUP.out _ HB2.out) (fun b hb => ⟨HSWL.out _ HB2.out b hb, (by intro e; cases e), by have := HSWL.out w (Below.refl _ _) b hb; omega⟩) (OutF.nil _ _ _) (Nat.le_refl _) (fun b hb => by have := HW2.out; omega))
    clear hok hz2 he2 KC KF KG9 KG2 KL KL2 HUP
    unfold RLiftIs at KQ
    go_wp2_with fail
    refine KQ.out.mono ?_
    rintro e w5 ⟨k5, nm5, ns5, ck5, ci5, cs5, cl5, l5, vn5, vd5, vk5, v6, rfl, ht5, hf5, hst5, hfr5⟩
    obtain ⟨aF, cF, rfl, hownF⟩ := hst5.slice
    obtain ⟨n51, n52, en5, -⟩ := id hf5.1.2.2
    obtain ⟨d51, d52, ed5, -⟩ := id hf5.2.1.2.2.2
    obtain ⟨k51, k52, ek5, -⟩ := id hf5.2.2
    subst en5 ed5 ek5
    have HT5 := Lib.hid ht5
    have HF5 := Lib.hid hf5
    have HST5 := Lib.hid hst5
    have HOWN := Lib.hid hownF
    have hb6 := (Below.refl w5.heap.size w5).alloc (Nat.le_refl _) (.cells #[.int .i64 k5, .string nm5, .slice n51 ns5.length n52, .int .i64 ck5, .int .i64 ci5, .string cs5, .slice d51 cl5.length d52, .slice k51 l5.length k52] 28)
    have HZB6 := Lib.hid (heap_alloc_new w5 (.cells #[.int .i64 k5, .string nm5, .slice n51 ns5.length n52, .int .i64 ck5, .int .i64 ci5, .string cs5, .slice d51 cl5.length d52, .slice k51 l5.length k52] 28))
    have hz5 := (hfr5.1.block (w.heap.size + 1) (by have := HW2.out; omega)).trans HZ2.out
    have hz6 := (hb6.block _ (lt_of_block hz5)).trans hz5
    have HB6 := Lib.hid ((HB2.out.trans (hfr5.1.mono HB2.out.size)).trans (hb6.mono (Nat.le_trans HB2.out.size hfr5.1.size)))
    have HB56 := Lib.hid hb6
    have HZ6 := Lib.hid hz6
    clear ht5 hf5 hst5 hfr5 hownF hb6 hz5 hz6 KQ
    go_upto_region 4 with fail
    generalize w5.alloc (.cells #[.int .i64 k5, .string nm5, .slice n51 ns5.length n52, .int .i64 ck5, .int .i64 ci5, .string cs5, .slice d51 cl5.length d52, .slice k51 l5.length k52] 28) = w6 at *
    obtain ⟨y0, y1, y2, y3, y4, y5, y6, y7⟩ := look8n HZB6.out
    obtain ⟨z0, z1, z2, z3, z4, z5, z6, z7, z8⟩ := look9n HZ6.out
    obtain ⟨f0, f1, f2, f3, f4, f5, f6, f7, f8⟩ := free9n HZ6.out
    have HZ9 := Lib.hid (bput9 (v0 := .slice aF (liftT [] T).2.length cF) (v1 := .int .i64 k5) (v2 := .string nm5) (v3 := .slice n51 ns5.length n52) (v4 := .int .i64 ck5) (v5 := .int .i64 ci5) (v6 := .string cs5) (v7 := .slice d51 cl5.length d52) (v8 := .slice k51 l5.length k52) HZ6.out)
    have HB9 := Lib.hid (bbel9 HB6.out (Nat.le_succ w.heap.size) (.slice aF (liftT [] T).2.length cF) (.int .i64 k5) (.string nm5) (.slice n51 ns5.length n52) (.int .i64 ck5) (.int .i64 ci5) (.string cs5) (.slice d51 cl5.length d52) (.slice k51 l5.length k52))
    have HX9 := Lib.hid (fun b (hb : b ≠ w.heap.size + 1) => bput9_other (W := w6) hb (.slice aF (liftT [] T).2.length cF) (.int .i64 k5) (.string nm5) (.slice n51 ns5.length n52) (.int .i64 ck5) (.int .i64 ci5) (.string cs5) (.slice d51 cl5.length d52) (.slice k51 l5.length k52))
    have hf9 := HF5.out.below HB56.out
    have HF9 := Lib.hid (hf9.stays (w9 := (((((((((w6.setCell ⟨w.heap.size + 1, 0, none⟩ (.slice aF (liftT [] T).2.length cF)).setCell ⟨w.heap.size + 1, 1, none⟩ (.int .i64 k5)).setCell ⟨w.heap.size + 1, 2, none⟩ (.string nm5)).setCell ⟨w.heap.size + 1, 3, none⟩ (.slice n51 ns5.length n52)).setCell ⟨w.heap.size + 1, 4, none⟩ (.int .i64 ck5)).setCell ⟨w.heap.size + 1, 5, none⟩ (.int .i64 ci5)).setCell ⟨w.heap.size + 1, 6, none⟩ (.string cs5)).setCell ⟨w.heap.size + 1, 7, none⟩ (.slice d51 cl5.length d52)).setCell ⟨w.heap.size + 1, 8, none⟩ (.slice k51 l5.length k52))) (S9 := fun _ => True) (fun _ _ => trivial) fun b hb => HX9.out b (by have := HW2.out; rcases hb.1 with g | g; (have := HSWL.out w (Below.refl _ _) b g; omega); omega))
    have HR9 := Lib.hid (OutF.inFs (S := fun _ => True) (P := fun _ => True) ((HST5.out.below HB56.out).at (w' := (((((((((w6.setCell ⟨w.heap.size + 1, 0, none⟩ (.slice aF (liftT [] T).2.length cF)).setCell ⟨w.heap.size + 1, 1, none⟩ (.int .i64 k5)).setCell ⟨w.heap.size + 1, 2, none⟩ (.string nm5)).setCell ⟨w.heap.size + 1, 3, none⟩ (.slice n51 ns5.length n52)).setCell ⟨w.heap.size + 1, 4, none⟩ (.int .i64 ck5)).setCell ⟨w.heap.size + 1, 5, none⟩ (.int .i64 ci5)).setCell ⟨w.heap.size + 1, 6, none⟩ (.string cs5)).setCell ⟨w.heap.size + 1, 7, none⟩ (.slice d51 cl5.length d52)).setCell ⟨w.heap.size + 1, 8, none⟩ (.slice k51 l5.length k52))) (fun b e => HX9.out b (by have := (HOWN.out b e).1; have := HW2.out; omega)) (fun b hb _ => ⟨HX9.out b hb, trivial⟩)) (fun _ _ _ => trivial) (fun _ _ => trivial))
    clear hf9 HX9 HST5 HF5 HB56 HSWL
    go_wp2
    refine bodyPost_ret (results_row_one (P := Try.prog) rfl _ _ (w.heap.size + 1) 31 _ (0, 0) _ rfl HZ9.out Try.underlying31 rfl (by kernel_rfl)) rfl ⟨?_, HB9.out⟩
    exact liftIs_yes HYES.out ⟨_, _, _, _, _, _, _, _, _, _, _, _, rfl, HT5.out, HF9.out, HR9.out⟩
  · have hq : q = true := HQ.out.2 hok
    subst hq
    have HNO := Lib.hid hok
    clear hok he2
    obtain ⟨z0, z1, z2, z3, z4, z5, z6, z7, z8⟩ := look9n hz2
    obtain ⟨f0, f1, f2, f3, f4, f5, f6, f7, f8⟩ := free9n hz2
    have HZ9 := Lib.hid (bput9 (v0 := .slice none 0 0) (v1 := .int .i64 0) (v2 := .string ⟨#[]⟩) (v3 := .slice none 0 0) (v4 := .int .i64 0) (v5 := .int .i64 0) (v6 := .string ⟨#[]⟩) (v7 := .slice none 0 0) (v8 := .slice none 0 0) HZ2.out)
    have HB9 := Lib.hid (bbel9 HB2.out (Nat.le_succ w.heap.size) (.slice none 0 0) (.int .i64 0) (.string ⟨#[]⟩) (.slice none 0 0) (.int .i64 0) (.int .i64 0) (.string ⟨#[]⟩) (.slice none 0 0) (.slice none 0 0))
    clear hz2 KC KF KG9 KG2 KL HUP HSWL
    go_wp2
    refine bodyPost_ret (results_row_one (P := Try.prog) rfl _ _ (w.heap.size + 1) 31 _ (0, 0) _ rfl HZ9.out Try.underlying31 rfl (by kernel_rfl)) rfl ⟨?_, HB9.out⟩
    exact liftIs_no HNO.out
end Go.Proofs.Ytkgofgkgnchhjaa.Core
