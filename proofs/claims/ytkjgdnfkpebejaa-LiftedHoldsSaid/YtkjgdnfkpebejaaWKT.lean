/-
Texts K35, K36, one behind the other (a claim bears sixty files). Conditions: as each says.
-/
import Derived.Test.YtkjgdnfkpebejaaK33

/-
Package core's seek, further ways. No condition.
-/
namespace Go.Proofs.Ytkjgdnfkpebejaa.Core
open Go.ChangeShapes Go.WideShapes Go.ChangeAt Go.RowKit Go.Deep
open Dat (PT ok64)
set_option maxRecDepth 100000

set_option maxHeartbeats 40000000 in
theorem seek_none (k : Int) (nm : ByteArray) (ns : List ByteArray) (ck ci : Int) (cs : ByteArray) (cl : List PT) (l : List PE) (ih : ∀ t ∈ l, SeekOk t) (w : World) (S : Nat → Prop) (bb fb n : Nat) (B F VF : ByteArray → Int) (an ad : Option Addr) (cn cd c : Nat) (ak : Option Addr) (h : InF w S (.mk k nm ns (.mk ck ci cs cl) l) (.slice an ns.length cn) (.slice ad cl.length cd) (.slice ak l.length c)) (hS : ∀ b, S b → b < w.heap.size ∧ b ≠ bb ∧ b ≠ fb) (hne : bb ≠ fb) (hB : MapB w bb n B) (hF : MapF w fb n F) (hBn : ∀ s, 0 ≤ B s ∧ B s ≤ n) (hsz : n + 2 * (1 + ns.length + sizeEs l) ≤ 1000000000) (hln : ns.length ≤ cn) (hmn : cn ≤ maxLen) (hl : l.length ≤ c) (hm : c ≤ maxLen) (hl0 : l.length ≤ 0) (hak : (ak = none ∧ c ≤ 0) ∨ (∃ a, ak = some a) ∧ (c ≤ 0 ∨ 0 < c))
    (hv : (¬ (k = 1 ∨ k = 2) ∧ VF = F) ∨ ((k = 1 ∨ k = 2) ∧ B nm ≠ 0 ∧ VF = F) ∨ ((k = 1 ∨ k = 2) ∧ B nm = 0 ∧ VF = incF F nm)) :
    Calls Try.prog 34 #[.agg #[.map (some bb), .map (some fb)], .agg #[.int .i64 k, .string nm, .slice an ns.length cn, .int .i64 ck, .int .i64 ci, .string cs, .slice ad cl.length cd, .slice ak l.length c]] w fun e w' => e = .returned (.tuple #[]) ∧ MapB w' bb (n + 2 * (1 + ns.length + sizeEs l)) B ∧ MapF w' fb (n + 2 * (1 + ns.length + sizeEs l)) (seekEs (fun i => if fromT k l.length ≤ i then addB B ns 1 else B) 0 VF l) ∧ KQ w bb fb w' := by
  have HI := Lib.hid h
  have HK := Lib.hid h.2.2
  have IH := Lib.hid ih
  have HNMS := Lib.hid h.1.2.1
  unfold maxLen at hmn hm
  obtain ⟨z0, z1, zb⟩ := two_new w (.cells #[.map (some bb), .map (some fb)] 70) (.cells #[.int .i64 k, .string nm, .slice an ns.length cn, .int .i64 ck, .int .i64 ci, .string cs, .slice ad cl.length cd, .slice ak l.length c] 28)
  generalize hw0 : (w.alloc (.cells #[.map (some bb), .map (some fb)] 70)).alloc (.cells #[.int .i64 k, .string nm, .slice an ns.length cn, .int .i64 ck, .int .i64 ci, .string cs, .slice ad cl.length cd, .slice ak l.length c] 28) = w0 at z0 z1 zb
  have HW0 := Lib.hid hw0
  have HBL := Lib.hid hB.lt
  have HFL : Hid (fb < w.heap.size) := Lib.hid hF.1.lt
  have HZ0 : Hid (w0.heap.size = w.heap.size + 2) := Lib.hid (by rw [← hw0, size_new, size_new])
  have HQ0 : Hid (KQ w bb fb w0) := Lib.hid (by rw [← hw0]; exact ((KQ.refl _ _ _).alloc _).alloc _)
  have HX : Hid (∀ W, KQ w0 bb fb W → W.heap[w.heap.size]? = some (.cells #[.map (some bb), .map (some fb)] 70 (0, 0)) ∧ W.heap[w.heap.size + 1]? = some (.cells #[.int .i64 k, .string nm, .slice an ns.length cn, .int .i64 ck, .int .i64 ci, .string cs, .slice ad cl.length cd, .slice ak l.length c] 28 (0, 0))) := Lib.hid fun W hW =>
    ⟨(hW.2 _ (by rw [HZ0.out]; omega) (by have := HBL.out; omega) (by have := HFL.out; omega)).trans z0, (hW.2 _ (by rw [HZ0.out]; omega) (by have := HBL.out; omega) (by have := HFL.out; omega)).trans z1⟩
  have HMV : Hid (∀ W, KQ w0 bb fb W → InF W S (.mk k nm ns (.mk ck ci cs cl) l) (.slice an ns.length cn) (.slice ad cl.length cd) (.slice ak l.length c) ∧ ∀ b, S b → b < W.heap.size ∧ b ≠ bb ∧ b ≠ fb) := Lib.hid fun W hW =>
    ⟨HI.out.move (fun _ h _ => h) fun b o v hs hc => by
      have hb := hS b hs
      rw [World.cell?_of_block (w := w) (a := ⟨b, o, none⟩) ((hW.2 b (by rw [HZ0.out]; omega) hb.2.1 hb.2.2).trans (HQ0.out.2 b hb.1 hb.2.1 hb.2.2))]; exact hc, fun b h => ⟨by have := (hS b h).1; have := hW.1.size; rw [HZ0.out] at this; omega, (hS b h).2⟩⟩
  have HB0 : Hid (MapB w0 bb n B) := Lib.hid (hB.at (by rw [← hw0, Below.heap_alloc _ _ _ (by rw [size_new]; exact Nat.lt_succ_of_lt HBL.out), Below.heap_alloc _ _ _ HBL.out]))
  have HF0 : Hid (MapF w0 fb n F) := Lib.hid (hF.at (by rw [← hw0, Below.heap_alloc _ _ _ (by rw [size_new]; exact Nat.lt_succ_of_lt HFL.out), Below.heap_alloc _ _ _ HFL.out]))
  have BOXES : Hid (∀ W, KQ w0 bb fb W → W.cell? ⟨w.heap.size, 0, none⟩ = some (.map (some bb)) ∧ W.cell? ⟨w.heap.size, 1, none⟩ = some (.map (some fb)) ∧ W.cell? ⟨w.heap.size + 1, 0, none⟩ = some (.int .i64 k) ∧ W.cell? ⟨w.heap.size + 1, 1, none⟩ = some (.string nm) ∧ W.cell? ⟨w.heap.size + 1, 2, none⟩ = some (.slice an ns.length cn) ∧ W.cell? ⟨w.heap.size + 1, 3, none⟩ = some (.int .i64 ck) ∧ W.cell? ⟨w.heap.size + 1, 4, none⟩ = some (.int .i64 ci) ∧ W.cell? ⟨w.heap.size + 1, 5, none⟩ = some (.string cs) ∧ W.cell? ⟨w.heap.size + 1, 6, none⟩ = some (.slice ad cl.length cd) ∧ W.cell? ⟨w.heap.size + 1, 7, none⟩ = some (.slice ak l.length c)) := Lib.hid fun W hW => by
    obtain ⟨h1, h2⟩ := HX.out W hW
    refine ⟨?_, ?_, ?_, ?_, ?_, ?_, ?_, ?_, ?_, ?_⟩
    all_goals first | (rw [Lib.cell_of_heap h1]; rfl) | (rw [Lib.cell_of_heap h2]; rfl)
  have KV := Lib.hid (fun W => isVariable_any k nm (.slice an ns.length cn) ck ci cs (.slice ad cl.length cd) (.slice ak l.length c) W)
  have KF := Lib.hid (fun W => boundFrom_any k nm (.slice an ns.length cn) ck ci cs (.slice ad cl.length cd) ak l.length c W hl (by unfold maxLen; exact hm))
  have HFR : Hid (fromT k l.length ≤ l.length) := Lib.hid (by unfold fromT; split; omega; split; omega; omega)
  have Q0 : Hid (KQ w0 bb fb w0) := Lib.hid (KQ.refl _ _ _)
  have HBN := Lib.hid hBn
  have HSN := Lib.hid (fun (b : Nat) (hb : S b) => (hS b hb).2.1)
  clear hw0 z0 z1 zb ih hB hF hBn h
  have HVV := hv
  clear hv
  rcases HVV with hv | hv | hv
  focus
    obtain ⟨hv, hVF⟩ := hv
    have HVF := Lib.hid hVF
    clear hVF
    have hvb : (decide (k = 1) || decide (k = 2)) = false := by
      rw [Bool.or_eq_false_iff]
      simp only [decide_eq_false_iff_not]
      omega
    rw [hvb] at KV
    clear hv hvb
    obtain ⟨m0, m1, x0, x1, x2, x3, x4, x5, x6, x7⟩ := BOXES.out _ Q0.out
    go_enter Try.func34, Try.ntmps34
    go_wp2_with fail
    rw [HW0.out]
    refine (KV.out _).mono ?_
    rintro e w1 ⟨rfl, hb1⟩
    have HQ1 := Lib.hid (Q0.out.next hb1)
    have HB1 := Lib.hid ((HB0.out.at (hb1.block bb HB0.out.lt)).mono (n' := n + 1) (by omega))
    have HF1 := Lib.hid ((HF0.out.at (hb1.block fb HF0.out.1.lt)).mono (n' := n + 1) (by omega))
    clear hb1 m0 m1 x0 x1 x2 x3 x4 x5 x6 x7
    rw [← HVF.out] at HF1
  rotate_left
  focus
    obtain ⟨hv, hbn, hVF⟩ := hv
    have HVF := Lib.hid hVF
    clear hVF
    have hvb : (decide (k = 1) || decide (k = 2)) = true := by simpa using hv
    rw [hvb] at KV
    obtain ⟨mB, hmB, hmv⟩ := HB0.out
    have HMB := Lib.hid hmB
    have hcv := hmv nm HNMS.out
    generalize hbz : B nm = z at hcv hbn
    have hz : (z == 0) = false := by simpa using hbn
    have HCV := Lib.hid hcv
    clear hv hvb hmB hmv hbz hcv hbn
    obtain ⟨m0, m1, x0, x1, x2, x3, x4, x5, x6, x7⟩ := BOXES.out _ Q0.out
    go_enter Try.func34, Try.ntmps34
    go_wp2_with fail
    rw [HW0.out]
    refine (KV.out _).mono ?_
    rintro e w1 ⟨rfl, hb1⟩
    have HQ1 := Lib.hid (Q0.out.next hb1)
    have HB1 := Lib.hid ((HB0.out.at (hb1.block bb HB0.out.lt)).mono (n' := n + 1) (by omega))
    have HF1 := Lib.hid ((HF0.out.at (hb1.block fb HF0.out.1.lt)).mono (n' := n + 1) (by omega))
    have HMB1 := Lib.hid (HMB.out.at (hb1.block bb HB0.out.lt))
    clear hb1 m0 m1 x0 x1 x2 x3 x4 x5 x6 x7
    obtain ⟨m0, m1, x0, x1, x2, x3, x4, x5, x6, x7⟩ := BOXES.out _ HQ1.out
    have hlk := HMB1.out.look nm HNMS.out
    rw [HCV.out] at hlk
    rw [← HVF.out] at HF1
  rotate_left
  focus
    obtain ⟨hv, hbn, hVF⟩ := hv
    have HVF := Lib.hid hVF
    clear hVF
    have hvb : (decide (k = 1) || decide (k = 2)) = true := by simpa using hv
    rw [hvb] at KV
    obtain ⟨mB, hmB, hmv⟩ := HB0.out
    have HMB := Lib.hid hmB
    have hcv := hmv nm HNMS.out
    rw [hbn] at hcv
    have HCV := Lib.hid hcv
    clear hv hvb hmB hmv hcv hbn
    obtain ⟨m0, m1, x0, x1, x2, x3, x4, x5, x6, x7⟩ := BOXES.out _ Q0.out
    go_enter Try.func34, Try.ntmps34
    go_wp2_with fail
    rw [HW0.out]
    refine (KV.out _).mono ?_
    rintro e w3 ⟨rfl, hb3⟩
    have HQ3 := Lib.hid (Q0.out.next hb3)
    have HB3 := Lib.hid (HB0.out.at (hb3.block bb HB0.out.lt))
    have HF3 := Lib.hid (HF0.out.at (hb3.block fb HF0.out.1.lt))
    have HMB3 := Lib.hid (HMB.out.at (hb3.block bb HB0.out.lt))
    clear hb3 m0 m1 x0 x1 x2 x3 x4 x5 x6 x7
    obtain ⟨m0, m1, x0, x1, x2, x3, x4, x5, x6, x7⟩ := BOXES.out _ HQ3.out
    have hlk := HMB3.out.look nm HNMS.out
    rw [HCV.out] at hlk
    have hlk2 := HF3.out.1.look nm HNMS.out
    rw [toM_get] at hlk2
    have hF1 := (HF3.out.2 nm).1
    have hF2 := (HF3.out.2 nm).2
    have HINC := Lib.hid (fun w' h => MapF.inc (w := w') (b := fb) (n := n) (F := F) (s := nm) h HF3.out.2)
    generalize F nm = z at *
    obtain ⟨w1, hrun, hm1, hg1⟩ := HF3.out.1.store (by unfold maxLen; omega) nm (z + 1) HNMS.out ⟨by omega, by omega⟩
    have HF1 := Lib.hid (HINC.out w1 hm1)
    have HB1 := Lib.hid ((HB3.out.at (hg1.block bb HB3.out.lt (by simpa using hne))).mono (n' := n + 1) (by omega))
    have HQ1 := Lib.hid (HQ3.out.grow hg1 (.inr rfl))
    clear hm1 hg1
    rw [← HVF.out] at HF1
  rotate_left
  all_goals
    have D1 := Lib.hid (BOXES.out _ HQ1.out)
    obtain ⟨m0, m1, x0, x1, x2, x3, x4, x5, x6, x7⟩ := D1.out
    go_wp2_with fail
    refine (KF.out _).mono ?_
    rintro e w2 ⟨rfl, hb2⟩
    have HQ2 := Lib.hid (HQ1.out.next hb2)
    have HB2 := Lib.hid (HB1.out.at (hb2.block bb (HB1.out.lt)))
    have HF2 := Lib.hid (HF1.out.at (hb2.block fb (HF1.out.1.lt)))
    clear hb2 m0 m1 x0 x1 x2 x3 x4 x5 x6 x7
    obtain ⟨m0, m1, x0, x1, x2, x3, x4, x5, x6, x7⟩ := BOXES.out _ HQ2.out
    generalize hq : fromT k l.length = q at *
    have HQQ := Lib.hid hq
    clear hq
    rcases hak with ⟨rfl, hc0⟩ | ⟨⟨ak0, rfl⟩, hc0 | hc0⟩
    all_goals have hql := HFR.out
    all_goals have hqc : q ≤ c := by omega
    all_goals
      generalize hBs : (fun i => if q ≤ i then addB B ns 1 else B) = Bs
      have HBS : Hid (∀ i, Bs i = if q ≤ i then addB B ns 1 else B) := Lib.hid fun i => by rw [← hBs]
      have HBSE := Lib.hid hBs
      clear hBs
      go_wp2
      go_loopw [32] (fun ix wr => ∃ j : Nat, j ≤ q ∧ ix = .int .i64 j ∧ MapB wr bb (n + 1 + 2 * sizeEs (l.take j)) B ∧ MapF wr fb (n + 1 + 2 * sizeEs (l.take j)) (seekEs Bs 0 VF (l.take j)) ∧ KQ w0 bb fb wr) (fun i _ => q - (intOf i).toNat)
      case atStart => exact ⟨0, Nat.zero_le _, rfl, by rw [List.take_zero, sizeEs]; exact HB2.out, by rw [List.take_zero, sizeEs, seekEs]; exact HF2.out, HQ2.out⟩
      case round =>
        clear m0 m1 x0 x1 x2 x3 x4 x5 x6 x7
        obtain ⟨j, hj, rfl, hmb, hmf, hkq⟩ := hrel
        have HMB3 := Lib.hid hmb
        have HMF3 := Lib.hid hmf
        have HKQ3 := Lib.hid hkq
        by_cases hlt : j < q
        · exfalso; omega
        · obtain rfl : q = j := by omega
          have hsq : sizeEs (l.take q) ≤ sizeEs l := sizeEs_take _ _
          have KN := Lib.hid (count_any ns S (.slice an ns.length cn) fb 1 bb (n + 1 + 2 * sizeEs (l.take q)) B wr (HMV.out _ hkq).1.1.2.2 HSN.out HMB3.out (by omega) (.inl rfl) (fun s => by have := HBN.out s; omega))
          obtain ⟨m0, m1, x0, x1, x2, x3, x4, x5, x6, x7⟩ := BOXES.out _ hkq
          have hwl := lt_of_block (HX.out _ hkq).1
          have hwl1 := lt_of_block (HX.out _ hkq).2
          clear hmb hmf hkq
          go_wp2_with fail
          refine KN.out.mono ?_
          rintro e w4 ⟨rfl, hb4, hk4⟩
          have HMB4 := Lib.hid hb4
          have HMF4 := Lib.hid ((HMF3.out.at (hk4.2 fb HMF3.out.1.lt (by simpa using hne.symm))).mono (n' := n + 1 + 2 * sizeEs (l.take q) + ns.length) (by omega))
          have HKQ4 := Lib.hid (HKQ3.out.trans ⟨hk4.1, fun b h1 h2 h3 => hk4.2 b h1 (by simpa using h2)⟩)
          clear hb4 hk4 m0 m1 x0 x1 x2 x3 x4 x5 x6 x7
          obtain ⟨m0, m1, x0, x1, x2, x3, x4, x5, x6, x7⟩ := BOXES.out _ HKQ4.out
          go_wp2
          go_loopw [49] (fun ix wr => ∃ j : Nat, j ≤ l.length - q ∧ ix = .int .i64 j ∧ MapB wr bb (n + 1 + ns.length + 2 * sizeEs (l.take (q + j))) (addB B ns 1) ∧ MapF wr fb (n + 1 + ns.length + 2 * sizeEs (l.take (q + j))) (seekEs Bs 0 VF (l.take (q + j))) ∧ KQ w0 bb fb wr) (fun i _ => l.length - q - (intOf i).toNat)
          case atStart => exact ⟨0, Nat.zero_le _, rfl, by rw [show q + 0 = q from rfl, show n + 1 + ns.length + 2 * sizeEs (l.take q) = n + 1 + 2 * sizeEs (l.take q) + ns.length by omega]; exact HMB4.out, by rw [show q + 0 = q from rfl, show n + 1 + ns.length + 2 * sizeEs (l.take q) = n + 1 + 2 * sizeEs (l.take q) + ns.length by omega]; exact HMF4.out, HKQ4.out⟩
          case round =>
           rename_i wr0
           clear m0 m1 x0 x1 x2 x3 x4 x5 x6 x7
           obtain ⟨j, hj, rfl, hmb, hmf, hkq⟩ := hrel
           clear HMB3 HMF3 HKQ3
           have HMB3 := Lib.hid hmb
           have HMF3 := Lib.hid hmf
           have HKQ3 := Lib.hid hkq
           by_cases hlt : j < l.length - q
           · exfalso; omega
           · obtain rfl : j = l.length - q := by omega
             have hqe : q + (l.length - q) = l.length := by omega
             rw [hqe, List.take_length] at hmb hmf
             have HMB6 := Lib.hid hmb
             have HMF6 := Lib.hid hmf
             have KN2 := Lib.hid (count_any ns S (.slice an ns.length cn) fb (-1) bb (n + 1 + ns.length + 2 * sizeEs l) (addB B ns 1) wr (HMV.out _ hkq).1.1.2.2 HSN.out HMB6.out (by omega) (.inr rfl) (fun s => by have h1 := HBN.out s; have h2 := occ_bound ns s; unfold addB; omega))
             obtain ⟨m0, m1, x0, x1, x2, x3, x4, x5, x6, x7⟩ := BOXES.out _ hkq
             have hwl := lt_of_block (HX.out _ hkq).1
             have hwl1 := lt_of_block (HX.out _ hkq).2
             clear hmb hmf hkq hqe
             go_wp2_with fail
             refine KN2.out.mono ?_
             rintro e w6 ⟨rfl, hb6, hk6⟩
             have HE1 : Hid (MapB w6 bb (n + 2 * (1 + ns.length + sizeEs l)) B) := Lib.hid ((hb6.ext (fun s => by unfold addB; omega)).mono (by omega))
             have HE2 := Lib.hid ((HMF6.out.at (hk6.2 fb HMF6.out.1.lt (by simpa using hne.symm))).mono (n' := n + 2 * (1 + ns.length + sizeEs l)) (by omega))
             have HE3 := Lib.hid (HQ0.out.trans (HKQ3.out.trans ⟨hk6.1, fun b h1 h2 h3 => hk6.2 b h1 (by simpa using h2)⟩))
             clear hb6 hk6
             go_wp2
             go_end0
             exact ⟨rfl, HE1.out, by rw [HQQ.out, HBSE.out]; exact HE2.out, HE3.out⟩
end Go.Proofs.Ytkjgdnfkpebejaa.Core

/-
Package core's seek, for every expression. No condition.
-/
namespace Go.Proofs.Ytkjgdnfkpebejaa.Core
open Go.ChangeShapes Go.WideShapes Go.ChangeAt Go.RowKit Go.Deep
open Dat (PT ok64)
set_option maxRecDepth 100000

theorem seek_step (k : Int) (nm : ByteArray) (ns : List ByteArray) (ck ci : Int) (cs : ByteArray) (cl : List PT) (l : List PE) (ih : ∀ t ∈ l, SeekOk t) : SeekOk (.mk k nm ns (.mk ck ci cs cl) l) := by
  intro w S bb fb n B F vn vd vk h hS hne hB hF hBn hsz
  have h0 := h
  obtain ⟨⟨_, _, an, cn, rfl, hln, hmn, _⟩, ⟨_, _, _, ad, cd, rfl, _⟩, ak, c, rfl, hl, hm, ha, hr⟩ := h
  have hfr : fromT k l.length ≤ l.length := by unfold fromT; split; omega; split; omega; omega
  rw [sizeE] at hsz ⊢
  rw [seekE]
  show Calls Try.prog 34 #[.agg #[.map (some bb), .map (some fb)], .agg #[.int .i64 k, .string nm, .slice an ns.length cn, .int .i64 ck, .int .i64 ci, .string cs, .slice ad cl.length cd, .slice ak l.length c]] w _
  have hvv : ∃ VF, (if (k = 1 ∨ k = 2) ∧ B nm = 0 then incF F nm else F) = VF ∧ ((¬ (k = 1 ∨ k = 2) ∧ VF = F) ∨ ((k = 1 ∨ k = 2) ∧ B nm ≠ 0 ∧ VF = F) ∨ ((k = 1 ∨ k = 2) ∧ B nm = 0 ∧ VF = incF F nm)) := by
    by_cases hv : k = 1 ∨ k = 2
    · by_cases hb : B nm = 0
      · exact ⟨_, if_pos ⟨hv, hb⟩, .inr (.inr ⟨hv, hb, rfl⟩)⟩
      · exact ⟨_, if_neg (fun h => hb h.2), .inr (.inl ⟨hv, hb, rfl⟩)⟩
    · exact ⟨_, if_neg (fun h => hv h.1), .inl ⟨hv, rfl⟩⟩
  obtain ⟨VF, hVF, hv⟩ := hvv
  rw [hVF]
  rcases hr with hl0 | ⟨b0, o0, rfl, _⟩
  · refine seek_none k nm ns ck ci cs cl l ih w S bb fb n B F VF an ad cn cd c ak h0 hS hne hB hF hBn hsz hln hmn hl hm (by rw [hl0]; exact Nat.le_refl _) ?_ hv
    match ak, ha with
    | none, ha => exact .inl ⟨rfl, by rw [ha rfl]; exact Nat.le_refl _⟩
    | some a, _ => exact .inr ⟨⟨a, rfl⟩, by omega⟩
  · exact seek_some k nm ns ck ci cs cl l ih w S bb fb n B F VF an ad cn cd c b0 o0 h0 hS hne hB hF hBn hsz hln hmn hl hm (by omega) hv
mutual
theorem seek_any : ∀ t : PE, SeekOk t
  | .mk k nm ns (.mk ck ci cs cl) l => seek_step k nm ns ck ci cs cl l (seek_all l)
theorem seek_all : ∀ l : List PE, ∀ t ∈ l, SeekOk t
  | [], t, h => by cases h
  | u :: l, t, h => (List.mem_cons.1 h).elim (fun e => e ▸ seek_any u) (fun h => seek_all l t h)
end
end Go.Proofs.Ytkjgdnfkpebejaa.Core
