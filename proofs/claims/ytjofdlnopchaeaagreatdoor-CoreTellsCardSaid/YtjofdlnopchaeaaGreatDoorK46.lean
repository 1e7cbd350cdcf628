/-
Package core's renamed: one expression, where it is known of each kid. No condition.
-/
import Derived.Test.YtjofdlnopchaeaaGreatDoorWKG
import Derived.Deep.DeepCutAuto
import Derived.Deep.RegionLaw
import Derived.BigRegion
import Derived.IntWalk
namespace Go.Proofs.YtjofdlnopchaeaaGreatDoor.Core
open Go.ChangeShapes Go.WideShapes Go.ChangeAt Go.RowKit Go.Deep
open Dat (PT ok64 RowX)
set_option maxRecDepth 100000

set_option maxHeartbeats 8000000 in
theorem renamed_step0 (k : Int) (nm : ByteArray) (ns : List ByteArray) (ck ci : Int) (cs : ByteArray) (l : List PE) (ih : ∀ t ∈ l, RenamedOk t) (w : World) (S : Nat → Prop) (C rb sb bb n N : Nat) (U : List ByteArray) (m : ByteArray → Option Int) (f : ByteArray → Value) (env : ByteArray → List Nat) (nx : Nat) (an ad ak : Option Addr) (cn cd c : Nat)
    (h : InF w S (.mk k nm ns (.mk ck ci cs []) l) (.slice an ns.length cn) (.slice ad 0 cd) (.slice ak l.length c)) (hn4 : ns.length ≤ 4096) (hl4 : l.length ≤ 4096) (hoks : okEs l) (hS : ∀ b, S b → b < C) (hst : RenSt w C rb sb bb n N U m f env nx) (ht : TabOk w) (hg : 0 < C)
    (hN : N + 2 * (1 + ns.length + sizeEs l) ≤ 1000000000) (hnx : nx + (1 + ns.length + sizeEs l) + restN U nx ≤ 1000000000) (hE : ∀ s, (env s).length + (1 + ns.length + sizeEs l) ≤ 100000) (hln : ns.length ≤ cn) (hmn : cn ≤ maxLen) (hl : l.length ≤ c) (hm : c ≤ maxLen) :
    Calls Tryz.prog 27 #[.pointer (some ⟨rb, 0, none⟩), .agg #[.int .i64 k, .string nm, .slice an ns.length cn, .int .i64 ck, .int .i64 ci, .string cs, .slice ad 0 cd, .slice ak l.length c]] w fun e w' => RenamedIs C rb sb bb n N U m env nx w f (.mk k nm ns (.mk ck ci cs []) l) e w' := by
  have HI := Lib.hid h
  have HOKS := Lib.hid (fun t ht => okEs_mem hoks t ht)
  have IH := Lib.hid ih
  have HNMS := Lib.hid h.1.2.1
  have HOK := Lib.hid (And.intro h.1.1 (And.intro h.2.1.1 (And.intro h.2.1.2.1 h.2.1.2.2.1)))
  have HNS := Lib.hid h.1.2.2
  have HKS := Lib.hid h.2.2
  have hd0 := h.2.1.2.2.2
  have HSL := Lib.hid hS
  have HST := Lib.hid hst
  have HG := Lib.hid hg
  have HT := Lib.hid ht
  have HE := Lib.hid hE
  have HRL : Hid (rb < w.heap.size ∧ sb < w.heap.size ∧ bb < w.heap.size ∧ C ≤ rb) := Lib.hid ⟨lt_of_block hst.blk, hst.cnt.lt, hst.map.lt, hst.rbC⟩
  have HMK : Hid (ns.length ≤ cn ∧ cn ≤ maxLen ∧ l.length ≤ c ∧ c ≤ maxLen) := Lib.hid ⟨hln, hmn, hl, hm⟩
  unfold maxLen at hmn hm
  obtain ⟨z0, z1, zb⟩ := two_new w (.cells #[.int .i64 k, .string nm, .slice an ns.length cn, .int .i64 ck, .int .i64 ci, .string cs, .slice ad 0 cd, .slice ak l.length c] 28) (.cells #[.int .i64 0, .string ⟨#[]⟩, .slice none 0 0, .int .i64 0, .int .i64 0, .string ⟨#[]⟩, .slice none 0 0, .slice none 0 0] 28)
  generalize hw0 : (w.alloc (.cells #[.int .i64 k, .string nm, .slice an ns.length cn, .int .i64 ck, .int .i64 ci, .string cs, .slice ad 0 cd, .slice ak l.length c] 28)).alloc (.cells #[.int .i64 0, .string ⟨#[]⟩, .slice none 0 0, .int .i64 0, .int .i64 0, .string ⟨#[]⟩, .slice none 0 0, .slice none 0 0] 28) = w0 at z0 z1 zb
  have HW0 := Lib.hid hw0
  have Z0 := Lib.hid z0
  have HS0 : Hid (w0.heap.size = w.heap.size + 2) := Lib.hid (by rw [← hw0, size_new, size_new])
  have KM : Hid (∀ W, Below w0.heap.size w0 W → Calls Tryz.prog 43 #[.slice none 0 0, .agg #[.int .i64 ck, .int .i64 ci, .string cs, .slice ad 0 cd]] W fun e w' => (∃ a9 c9, e = .returned (.agg #[.int .i64 ck, .int .i64 ci, .string cs, .slice a9 0 c9]) ∧ InS w' S [] (.slice a9 0 c9)) ∧ Below W.heap.size W w') := Lib.hid fun W hW =>
    (Dat.make_none ck ci cs [] _ _ W W.heap.size ⟨none, 0, rfl, Nat.le_refl _, Nat.zero_le _, fun _ => rfl, .inl rfl⟩ ((show InV W (fun b => b < W.heap.size) (.mk ck ci cs []) (.slice ad 0 cd) from ⟨HOK.out.2.1, HOK.out.2.2.1, HOK.out.2.2.2, insNil hd0⟩).rep) (Nat.le_refl _) (by simp [Dat.numT, Dat.numsT])).mono fun e w' ⟨⟨x, he, _, hv⟩, hb⟩ => by
      obtain ⟨h1, h2, h3, h4⟩ := hv
      rw [← inS_new] at h4
      obtain ⟨a9, c9, e1, _⟩ := id h4
      subst e1
      exact ⟨⟨a9, c9, he, insNil h4⟩, hb⟩
  have CC : Hid (∀ W, Below w0.heap.size w0 W → (fun W => W.cell? ⟨w.heap.size, 0, none⟩ = some (.int .i64 k) ∧ W.cell? ⟨w.heap.size, 1, none⟩ = some (.string nm) ∧ W.cell? ⟨w.heap.size, 3, none⟩ = some (.int .i64 ck) ∧ W.cell? ⟨w.heap.size, 4, none⟩ = some (.int .i64 ci) ∧ W.cell? ⟨w.heap.size, 5, none⟩ = some (.string cs) ∧ W.cell? ⟨w.heap.size, 6, none⟩ = some (.slice ad 0 cd) ∧ Below w0.heap.size w0 W) W) := Lib.hid fun W hW => by
    have h1 := (hW.block w.heap.size (by rw [HS0.out]; omega)).trans Z0.out
    refine ⟨?_, ?_, ?_, ?_, ?_, ?_, hW⟩
    all_goals (rw [Lib.cell_of_heap h1]; rfl)
  have OF : Hid (∀ W, (fun W => W.cell? ⟨w.heap.size, 0, none⟩ = some (.int .i64 k) ∧ W.cell? ⟨w.heap.size, 1, none⟩ = some (.string nm) ∧ W.cell? ⟨w.heap.size, 3, none⟩ = some (.int .i64 ck) ∧ W.cell? ⟨w.heap.size, 4, none⟩ = some (.int .i64 ci) ∧ W.cell? ⟨w.heap.size, 5, none⟩ = some (.string cs) ∧ W.cell? ⟨w.heap.size, 6, none⟩ = some (.slice ad 0 cd) ∧ Below w0.heap.size w0 W) W → Below w0.heap.size w0 W) := Lib.hid fun W h => h.2.2.2.2.2.2
  have B00 := Below.refl w0.heap.size w0
  clear hw0 z0 z1 zb ih h hoks hS hst ht hg hE hd0
  go_enter Tryz.func27, Tryz.ntmps27
  go_upto_region 1 with fail
  rw [HW0.out]
  have hwl : w.heap.size < w0.heap.size := by rw [HS0.out]; omega
  go_cut [5] from 14 to 21 (fun v wx => ∃ q a9 c9, v = .pointer (some ⟨q, 0, none⟩) ∧ (∀ W, InS W S [] (.slice a9 0 c9)) ∧ RN C rb sb bb n U m w f q (.cells #[.int .i64 k, .string nm, .slice an ns.length cn, .int .i64 ck, .int .i64 ci, .string cs, .slice ad 0 cd, .slice ak l.length c] 28) (.cells #[.int .i64 0, .string ⟨#[]⟩, .slice none 0 0, .int .i64 0, .int .i64 0, .string ⟨#[]⟩, .slice none 0 0, .slice none 0 0] 28) (.cells #[.int .i64 k, .string nm, .slice none 0 0, .int .i64 ck, .int .i64 ci, .string cs, .slice a9 0 c9, .slice none 0 0] 28) [] (.slice none 0 0) [] (.slice none 0 0) wx f env nx N)
  case first =>
    go_region_held3 (fun W => W.cell? ⟨w.heap.size, 0, none⟩ = some (.int .i64 k) ∧ W.cell? ⟨w.heap.size, 1, none⟩ = some (.string nm) ∧ W.cell? ⟨w.heap.size, 3, none⟩ = some (.int .i64 ck) ∧ W.cell? ⟨w.heap.size, 4, none⟩ = some (.int .i64 ci) ∧ W.cell? ⟨w.heap.size, 5, none⟩ = some (.string cs) ∧ W.cell? ⟨w.heap.size, 6, none⟩ = some (.slice ad 0 cd) ∧ Below w0.heap.size w0 W)
      (first | (with_reducible exact CC.out _ (Below.drew B00)) | (with_reducible exact CC.out _ (Below.drew (bel_alloc' B00 _))) | (with_reducible exact CC.out _ (below8 BW (Nat.le_refl _) _ _ _ _ _ _ _ _)) | (with_reducible exact CC.out _ BW) | (with_reducible exact CC.out _ (bel_alloc' BW _)))
      (first | (go_at_call 43; refine (KM.out _ (OF.out _ (by assumption))).mono ?_; rintro e w6 ⟨⟨a9, c9, rfl, hd9⟩, hb6⟩; have BW := (OF.out _ (by assumption)).trans (hb6.mono (OF.out _ (by assumption)).size); (try ((with_reducible have q6 := blk_drew_alloc hb6); have d0 := (Lib.cell_of_heap q6 0).trans (show _ = some (Value.int .i64 0) from rfl); have f0 := Lib.frozen_of_heap q6 0; have d1 := (Lib.cell_of_heap q6 1).trans (show _ = some (Value.string ⟨#[]⟩) from rfl); have f1 := Lib.frozen_of_heap q6 1; have d2 := (Lib.cell_of_heap q6 2).trans (show _ = some (Value.slice none 0 0) from rfl); have f2 := Lib.frozen_of_heap q6 2; have d3 := (Lib.cell_of_heap q6 3).trans (show _ = some (Value.int .i64 0) from rfl); have f3 := Lib.frozen_of_heap q6 3; have d4 := (Lib.cell_of_heap q6 4).trans (show _ = some (Value.int .i64 0) from rfl); have f4 := Lib.frozen_of_heap q6 4; have d5 := (Lib.cell_of_heap q6 5).trans (show _ = some (Value.string ⟨#[]⟩) from rfl); have f5 := Lib.frozen_of_heap q6 5; have d6 := (Lib.cell_of_heap q6 6).trans (show _ = some (Value.slice none 0 0) from rfl); have f6 := Lib.frozen_of_heap q6 6; have d7 := (Lib.cell_of_heap q6 7).trans (show _ = some (Value.slice none 0 0) from rfl); have f7 := Lib.frozen_of_heap q6 7; have Q6 := Lib.hid q6; clear q6)); have hw6 := Nat.lt_of_lt_of_le hwl BW.size; have HD0 := Lib.hid (fun W => insNil (w' := W) (S' := S) hd9); clear hb6 hd9))
    all_goals
      go_wp2_with fail
      go_meet
      case rel =>
        first
          | (have H6 := Q6.out; refine ⟨w0.heap.size, a9, c9, rfl, HD0.out, ?_⟩; with_reducible exact RN.start HST.out HW0.out (below8 BW (Nat.le_refl _) _ _ _ _ _ _ _ _) (Nat.le_refl _) (put8 H6))
          | (refine ⟨w6.heap.size, a9, c9, rfl, HD0.out, ?_⟩; with_reducible exact RN.start HST.out HW0.out (bel_alloc' BW _) BW.size (heap_alloc_new w6 _))
  case rest =>
  obtain ⟨q, a9, c9, rfl, hd9, hrn⟩ := hcut
  have BOX : Hid (∀ W : World, W.heap[w.heap.size]? = some (.cells #[.int .i64 k, .string nm, .slice an ns.length cn, .int .i64 ck, .int .i64 ci, .string cs, .slice ad 0 cd, .slice ak l.length c] 28 (0, 0)) → W.cell? ⟨w.heap.size, 0, none⟩ = some (.int .i64 k) ∧ W.cell? ⟨w.heap.size, 1, none⟩ = some (.string nm) ∧ W.cell? ⟨w.heap.size, 2, none⟩ = some (.slice an ns.length cn) ∧ W.cell? ⟨w.heap.size, 3, none⟩ = some (.int .i64 ck) ∧ W.cell? ⟨w.heap.size, 4, none⟩ = some (.int .i64 ci) ∧ W.cell? ⟨w.heap.size, 5, none⟩ = some (.string cs) ∧ W.cell? ⟨w.heap.size, 6, none⟩ = some (.slice ad 0 cd) ∧ W.cell? ⟨w.heap.size, 7, none⟩ = some (.slice ak l.length c)) := Lib.hid fun W h1 => by
    refine ⟨?_, ?_, ?_, ?_, ?_, ?_, ?_, ?_⟩
    all_goals (rw [Lib.cell_of_heap h1]; rfl)
  have TB : Hid (∀ W f', RenFr C rb bb w f W f' → TabOk W) := Lib.hid fun W f' h => tab_below HT.out HG.out h.1
  have KV := Lib.hid (fun W => isVariable_any k nm (.slice an ns.length cn) ck ci cs (.slice ad 0 cd) (.slice ak l.length c) W)
  have HR0 := Lib.hid hrn
  have HD9 : Hid (∀ W, InS W S [] (.slice a9 0 c9)) := Lib.hid hd9
  obtain ⟨x0, x1, x2, x3, x4, x5, x6, x7⟩ := BOX.out _ hrn.eb
  obtain ⟨hlw, hlz, hlq, hlr, hlC⟩ := hrn.lts
  clear hrn B00
  go_wp2_with fail
  refine (KV.out _).mono ?_
  rintro e w1 ⟨rfl, hb1⟩
  have HR1 := Lib.hid (HR0.out.below hb1)
  clear hb1 x0 x1 x2 x3 x4 x5 x6 x7 hlw hlz hlq hlr hlC
  go_upto_if 23 with fail
  go_cut [] from 23 to 28 (fun wx => RN C rb sb bb n U m w f q (.cells #[.int .i64 k, .string nm, .slice an ns.length cn, .int .i64 ck, .int .i64 ci, .string cs, .slice ad 0 cd, .slice ak l.length c] 28) (.cells #[.int .i64 0, .string ⟨#[]⟩, .slice none 0 0, .int .i64 0, .int .i64 0, .string ⟨#[]⟩, .slice none 0 0, .slice none 0 0] 28) (.cells #[.int .i64 k, .string (if k = 1 ∨ k = 2 then nowT env nm else nm), .slice none 0 0, .int .i64 ck, .int .i64 ci, .string cs, .slice a9 0 c9, .slice none 0 0] 28) [] (.slice none 0 0) [] (.slice none 0 0) wx f env nx N)
  case first =>
    by_cases hv : k = 1 ∨ k = 2
    · have hvb : (decide (k = 1) || decide (k = 2)) = true := by simpa using hv
      rw [hvb]
      have KNN := Lib.hid (nameNow_any nm w1 C rb sb bb n N U m f env nx HR1.out.st HNMS.out (TB.out _ _ HR1.out.fr) (by omega))
      obtain ⟨x0, x1, x2, x3, x4, x5, x6, x7⟩ := BOX.out _ HR1.out.eb
      obtain ⟨hlw, hlz, hlq, hlr, hlC⟩ := HR1.out.lts
      clear hvb
      have HNM : Hid ((if k = 1 ∨ k = 2 then nowT env nm else nm) = nowT env nm) := Lib.hid (if_pos hv)
      clear hv
      go_wp2_with fail
      refine KNN.out.mono ?_
      rintro e w2 ⟨rfl, hb2⟩
      have HR2 := Lib.hid (HR1.out.below hb2)
      have y1 : w2.cell? ⟨q, 1, none⟩ = some (.string nm) := by rw [Lib.cell_of_heap HR2.out.qb]; rfl
      have g1 : w2.frozen? ⟨q, 1, none⟩ = false := Lib.frozen_of_heap HR2.out.qb 1
      clear hb2 x0 x1 x2 x3 x4 x5 x6 x7
      go_wp2
      go_meet
      rw [HNM.out]
      exact HR2.out.cellq rfl
    · have hvb : (decide (k = 1) || decide (k = 2)) = false := by
        rw [Bool.or_eq_false_iff]
        simp only [decide_eq_false_iff_not]
        omega
      rw [hvb]
      clear hvb
      go_wp2
      go_meet
      rw [if_neg hv]
      exact HR1.out
  case rest =>
  generalize hnm2 : (if k = 1 ∨ k = 2 then nowT env nm else nm) = nm2 at hcut
  have HNM2 := Lib.hid hnm2
  have HR2 := Lib.hid hcut
  clear hnm2 hcut HR0 HR1
  have KN := Lib.hid (numbers_any ns.length wc C rb sb bb n N U m f env nx HR2.out.st (TB.out _ _ HR2.out.fr) (by omega) (by omega))
  obtain ⟨x0, x1, x2, x3, x4, x5, x6, x7⟩ := BOX.out _ HR2.out.eb
  obtain ⟨hlw, hlz, hlq, hlr, hlC⟩ := HR2.out.lts
  go_wp2_with fail
  refine KN.out.mono ?_
  rintro e w3 ⟨⟨nums, n1, vN, rfl, hnl, hnlen, hrow, hst3⟩, hkp⟩
  have HR3 := Lib.hid (HR2.out.numbers hrow hst3 hkp)
  have HNL := Lib.hid hnl
  have HNLE := Lib.hid hnl.le
  have HNPOT := Lib.hid hnl.pot
  have HLEN := Lib.hid hnlen
  obtain ⟨aN, cN, rfl, _⟩ := hrow.slice
  clear hnl hrow hst3 hkp x0 x1 x2 x3 x4 x5 x6 x7 hlw hlz hlq hlr hlC HR2 KN
  have hj4 : nums.length ≤ 4096 := by rw [HLEN.out]; omega
  have HN1 : Hid (∀ i ∈ nums, i ≤ 1000000000) := Lib.hid fun i hi => by
    have := nums_lt HNL.out i hi
    have := HNPOT.out
    have := HLEN.out
    omega
  go_wp2
  go_loopw [36] (fun ix wr => ∃ j : Nat, j ≤ nums.length ∧ ix = .int .i64 j ∧ ∃ vT, RN C rb sb bb n U m w f q (.cells #[.int .i64 k, .string nm, .slice an ns.length cn, .int .i64 ck, .int .i64 ci, .string cs, .slice ad 0 cd, .slice ak l.length c] 28) (.cells #[.int .i64 0, .string ⟨#[]⟩, .slice none 0 0, .int .i64 0, .int .i64 0, .string ⟨#[]⟩, .slice none 0 0, .slice none 0 0] 28) (.cells #[.int .i64 k, .string nm2, vT, .int .i64 ck, .int .i64 ci, .string cs, .slice a9 0 c9, .slice none 0 0] 28) nums (.slice aN nums.length cN) ((nums.take j).map numS) (vT) wr f env n1 N) (fun i _ => nums.length - (intOf i).toNat)
  case atStart => exact ⟨0, Nat.zero_le _, rfl, _, by rw [List.take_zero, List.map_nil]; exact HR3.out⟩
  case round =>
    obtain ⟨j, hj, rfl, vT, hrn⟩ := hrel
    have HR4 := Lib.hid (hrn.below (Below.refl _ _).drew)
    by_cases hlt : j < nums.length
    · obtain ⟨gN, rfl, hcN, hgN⟩ := hrn.num.one hlt
      have hi9 := HN1.out nums[j] (List.getElem_mem hlt)
      have HTS : Hid ((nums.take (j + 1)).map numS = (nums.take j).map numS ++ [numS nums[j]]) := Lib.hid (by rw [List.take_succ_eq_append_getElem hlt, List.map_append]; rfl)
      have hlen : ((nums.take j).map numS).length ≤ 100000 := by rw [List.length_map, List.length_take]; omega
      have y2 : wr.cell? ⟨q, 2, none⟩ = some vT := by rw [Lib.cell_of_heap hrn.qb]; rfl
      obtain ⟨hlw, hlz, hlq, hlr, hlC⟩ := hrn.lts
      obtain ⟨aT, cT, rfl, _⟩ := hrn.nam.slice
      have KB := Lib.hid (fun W hW => numbered_any nums[j] W hi9 hW)
      generalize nums[j] = i at *
      generalize (nums.take j).map numS = nms at *
      clear hrn
      go_wp2
      go_region_law (first
        | (go_simp; go_at_call 47; refine (KB.out _ (TB.out _ _ HR4.out.fr)).mono ?_; rintro e w6 ⟨rfl, hb6⟩; have HR6 := Lib.hid (HR4.out.below hb6); have y6 : w6.cell? ⟨q, 2, none⟩ = some (.slice aT nms.length cT) := (by rw [Lib.cell_of_heap HR6.out.qb]; rfl); have hl6 := HR6.out.lts.2.2.1; have HR7 := Lib.hid (HR6.out.alloc (.cells #[.string (numS i)] 9)); clear hb6)
        | (refine step_append_t rfl _ _ rfl (w.heap.size + 2) nms (.slice aT nms.length cT) rfl (HR7.out).nam w6.heap.size (numS i) rfl (heap_alloc_new w6 _) hlen (by have h1 := HR7.out.hq; have h2 := HR7.out.lts.2.2.1; omega) ?_; intro g cap w7 h7 hg7 hat7; have HR8 := Lib.hid (HR7.out.addName hg7 h7 hat7); have y8 : w7.cell? ⟨q, 2, none⟩ = some (.slice aT nms.length cT) := (by rw [Lib.cell_of_heap HR8.out.qb]; rfl); have g8 : w7.frozen? ⟨q, 2, none⟩ = false := Lib.frozen_of_heap HR8.out.qb 2; clear h7 hg7 hat7))
      all_goals
        go_wp2
        go_roundw
        case rel => exact ⟨j + 1, by omega, by go_num, _, by rw [HTS.out]; exact HR8.out.cellq rfl⟩
        case measure => simp [intOf]; omega
    · obtain rfl : j = nums.length := by omega
      rw [List.take_length] at hrn
      clear HR4
      have HR4 := Lib.hid hrn
      clear hrn HR3 hlt hj
      have HNM3 : Hid (∀ s ∈ nums.map numS, s.size ≤ maxLen) := Lib.hid fun s hs => by
        obtain ⟨i, hi, rfl⟩ := List.mem_map.1 hs
        exact numS_size i (HN1.out i hi)
      have KF := Lib.hid (fun W => boundFrom_any k nm (.slice an ns.length cn) ck ci cs (.slice ad 0 cd) ak l.length c W hl (by unfold maxLen; exact hm))
      have HFR : Hid (fromT k l.length ≤ l.length) := Lib.hid (by unfold fromT; split; omega; split; omega; omega)
      obtain ⟨x0, x1, x2, x3, x4, x5, x6, x7⟩ := BOX.out _ HR4.out.eb
      obtain ⟨hlw, hlz, hlq, hlr, hlC⟩ := HR4.out.lts
      go_wp2_with fail
      refine (KF.out _).mono ?_
      rintro e w4 ⟨rfl, hb4⟩
      have HR5 := Lib.hid (HR4.out.below hb4)
      clear hb4 x0 x1 x2 x3 x4 x5 x6 x7 hlw hlz hlq hlr hlC HR4 KF KV
      generalize hfr : fromT k l.length = fr at *
      have HFE := Lib.hid hfr
      have hfl := HFR.out
      have hfc : fr ≤ c := by omega
      clear hfr
      go_upto_region 11 with fail
      go_cut [] from 50 to 58 (fun wx => ∃ C1 kids1 vK nx2 f2 N2, RN C rb sb bb n U m w f q (.cells #[.int .i64 k, .string nm, .slice an ns.length cn, .int .i64 ck, .int .i64 ci, .string cs, .slice ad 0 cd, .slice ak l.length c] 28) (.cells #[.int .i64 0, .string ⟨#[]⟩, .slice none 0 0, .int .i64 0, .int .i64 0, .string ⟨#[]⟩, .slice none 0 0, .slice none 0 0] 28) (.cells #[.int .i64 k, .string nm2, vT, .int .i64 ck, .int .i64 ci, .string cs, .slice a9 0 c9, vK] 28) nums (.slice aN nums.length cN) (nums.map numS) (vT) wx f2 env nx2 N2 ∧ KidSt C1 wx f2 kids1 vK ∧ RenRs U env env 0 n1 (l.take fr) kids1 nx2 ∧ N2 ≤ N + 2 * sizeEs (l.take fr) ∧ q < C1 ∧ w.heap.size + 2 ≤ C1 ∧ C1 ≤ wx.heap.size ∧ (∀ b, (Value.slice aN nums.length cN).ownBlock = some b → b < C1) ∧ (∀ b, vT.ownBlock = some b → b < C1))
      case first =>
        have HSZ : Hid (sizeEs (l.take fr) ≤ sizeEs l) := Lib.hid (sizeEs_take _ _)
        have HR5d := Lib.hid (HR5.out.below (Below.refl _ _).drew)
        have HKT : Hid (InK w4.drew S (l.take fr) (.slice ak fr c)) := Lib.hid ((HKS.out.belowC HSL.out HR5d.out.fr.1).takeQ hfl)
        have KA := Lib.hid (fun vA (hvA : InK w4.drew S (l.take fr) vA) => renamedAll_any (l.take fr) (fun t h => IH.out t (List.mem_of_mem_take h)) (fun t h => HOKS.out t (List.mem_of_mem_take h)) w4.drew S C w4.drew.heap.size rb sb bb n N U m f env n1 [] (.slice none 0 0) vA hvA HSL.out (HR5d.out.all (KidSt.nil _ _ _)) HR5d.out.lts.2.2.2.1 (Nat.lt_of_lt_of_le HR5d.out.hs HR5d.out.fr.1.size) (Nat.lt_of_lt_of_le HR5d.out.hb HR5d.out.fr.1.size) (Nat.le_refl _) (TB.out _ _ HR5d.out.fr) HG.out (by have := HSZ.out; omega) (by have := HSZ.out; have := HNPOT.out; have := HLEN.out; omega) (fun s => by have := HE.out s; have := HSZ.out; omega) (by rw [List.length_take, List.length_nil]; omega))
        obtain ⟨x0, x1, x2, x3, x4, x5, x6, x7⟩ := BOX.out _ HR5.out.eb
        have y7 : w4.cell? ⟨q, 7, none⟩ = some (.slice none 0 0) := by rw [Lib.cell_of_heap HR5.out.qb]; rfl
        obtain ⟨hlw, hlz, hlq, hlr, hlC⟩ := HR5.out.lts
        have HA : (ak = none ∧ c ≤ 0) ∨ ∃ ak0, ak = some ak0 := by
          obtain ⟨a', c', e, _, _, ha, _⟩ := id HKS.out
          cases e
          cases ak with
          | none => exact .inl ⟨rfl, by rw [ha rfl]; exact Nat.le_refl _⟩
          | some a => exact .inr ⟨a, rfl⟩
        have HW5 := Lib.hid (show w4.drew.heap.size = w4.heap.size from rfl)
        rcases HA with ⟨rfl, hc0⟩ | ⟨ak0, rfl⟩
        all_goals
          go_still_tail 7, (by kernel_rfl)
          change wpList _ _ _ _ _ w4.drew
          generalize w4.drew = w5 at HR5d KA HKT ⊢
          clear x0 x1 x2 x3 x4 x5 x6 x7 y7 hlw hlz hlq hlr hlC
          go_wp2_with fail
          first | (with_reducible refine (KA.out _ HKT.out).mono ?_) | (refine (KA.out (.slice none fr 0) (by have h := HKT.out; rwa [show c = 0 by omega] at h)).mono ?_)
          rintro e w6 ⟨kids1, vK, nx2, f2, N2, rfl, hrs, hA2, hN2⟩
          rw [List.nil_append] at hA2
          obtain ⟨aK, cK, rfl, _⟩ := hA2.row.slice
          have HR6 := Lib.hid (HR5d.out.callX hA2.st hA2.fr (fun b e => by cases e))
          have HK6 := Lib.hid (show KidSt w5.heap.size w6 f2 kids1 _ from ⟨hA2.row, hA2.own⟩)
          have HRS6 := Lib.hid hrs
          have HSZ6 := Lib.hid hA2.fr.1.size
          clear hA2 hrs
          have y7 : w6.cell? ⟨q, 7, none⟩ = some (.slice none 0 0) := by rw [Lib.cell_of_heap HR6.out.qb]; rfl
          have g7 : w6.frozen? ⟨q, 7, none⟩ = false := Lib.frozen_of_heap HR6.out.qb 7
          go_wp2
          go_meet
          case rel =>
            exact ⟨w5.heap.size, kids1, _, nx2, f2, N2, HR6.out.cellq rfl, HK6.out.cellq HR5d.out.lts.2.2.1, HRS6.out, hN2, HR5d.out.lts.2.2.1, by have h1 := HR5d.out.hq; have h2 := HR5d.out.lts.2.2.1; omega, by rw [World.size_setCell]; exact HSZ6.out, fun b e => (World.ownsRow.lt HR5d.out.num b e).2, fun b e => (World.ownsRow.lt HR5d.out.nam b e).2⟩
      case rest =>
      obtain ⟨C1, kids1, vK, nx2, f2, N2, hrn, hks, hrs, hN2, hqC, hwC, hCw, hnC, htC⟩ := hcut
      obtain ⟨aK, cK, rfl, _⟩ := hks.1.slice
      have HR6 := Lib.hid hrn
      have HK6 := Lib.hid hks
      have HRS6 := Lib.hid hrs
      have HBC : Hid ((∀ b, (Value.slice aN nums.length cN).ownBlock = some b → b < C1) ∧ (∀ b, vT.ownBlock = some b → b < C1)) := Lib.hid ⟨hnC, htC⟩
      have HPOT2 := Lib.hid hrs.pot
      have HLE2 := Lib.hid (RenRs.le hrs)
      have hrC1 : rb < C1 := by have := hrn.hr; omega
      have hbC1 : bb < C1 := by have := hrn.hb; omega
      have hsC1 : sb < C1 := by have := hrn.hs; omega
      have HSZ1 : Hid (sizeEs (l.take fr) + sizeEs (l.drop fr) = sizeEs l) := Lib.hid (sizeEs_split l fr)
      obtain ⟨x0, x1, x2, x3, x4, x5, x6, x7⟩ := BOX.out _ hrn.eb
      obtain ⟨hlw, hlz, hlq, hlr, hlC⟩ := hrn.lts
      clear hrn hks hrs hnC htC HR5
      go_wp2
      go_loopw [62] (fun ix wr => ∃ j : Nat, j ≤ ns.length ∧ ix = .int .i64 j ∧ ∃ f3, RN C rb sb bb n U m w f q (.cells #[.int .i64 k, .string nm, .slice an ns.length cn, .int .i64 ck, .int .i64 ci, .string cs, .slice ad 0 cd, .slice ak l.length c] 28) (.cells #[.int .i64 0, .string ⟨#[]⟩, .slice none 0 0, .int .i64 0, .int .i64 0, .string ⟨#[]⟩, .slice none 0 0, .slice none 0 0] 28) (.cells #[.int .i64 k, .string nm2, vT, .int .i64 ck, .int .i64 ci, .string cs, .slice a9 0 c9, .slice aK kids1.length cK] 28) nums (.slice aN nums.length cN) (nums.map numS) (vT) wr f3 (pushE env (ns.take j) (nums.take j)) nx2 (N2 + j) ∧ KidSt C1 wr f3 kids1 (.slice aK kids1.length cK) ∧ C1 ≤ wr.heap.size) (fun i _ => ns.length - (intOf i).toNat)
      case atStart => exact ⟨0, Nat.zero_le _, rfl, f2, by rw [List.take_zero, List.take_zero]; exact HR6.out, HK6.out, hCw⟩
      case round =>
        rename_i wr
        clear x0 x1 x2 x3 x4 x5 x6 x7 hlw hlz hlq hlr hlC
        obtain ⟨j, hj, rfl, f3, hrn, hks, hCr⟩ := hrel
        by_cases hlt : j < ns.length
        · skip
          have hltN : j < nums.length := by rw [HLEN.out]; exact hlt
          obtain ⟨b1, o1, rfl, hs1, hc1⟩ : ∃ b o, an = some ⟨b, o, none⟩ ∧ S b ∧ ∀ (j : Nat) (h : j < ns.length), w.cell? ⟨b, o + j, none⟩ = some (.string ns[j]) ∧ ns[j].size ≤ maxLen := by
            obtain ⟨a', c', e, _, _, _, hr⟩ := id HNS.out
            cases e
            exact hr.resolve_left (by rintro rfl; cases hlt)
          have c0 : wr.cell? ⟨b1, o1 + j, none⟩ = some (.string ns[j]) := by rw [World.cell?_of_block (w := w) (a := ⟨b1, o1 + j, none⟩) (hrn.fr.1.block b1 (HSL.out b1 hs1))]; exact (hc1 j hlt).1
          have hsz := (hc1 j hlt).2
          obtain ⟨gN, rfl, cN1, hgN⟩ := hrn.num.one hltN
          have cb1 := hrn.rbc
          have hi := nums_lt HNL.out nums[j] (List.getElem_mem hltN)
          have hi2 : nums[j] < nx2 := by have := HLE2.out; omega
          have HPU := Lib.hid (take_push (env := env) hlt hltN)
          have hEl : (pushE env (ns.take j) (nums.take j) ns[j]).length ≤ 100000 := by
            have h1 := push_len (ns.take j) (nums.take j) env ns[j]
            have h2 := HE.out ns[j]
            rw [List.length_take] at h1
            omega
          generalize ns[j] = s at *
          generalize nums[j] = i at *
          generalize pushE env (ns.take j) (nums.take j) = env3 at *
          have HR7 := Lib.hid ((hrn.alloc (.cells #[.int .i64 (i : Int)] 3)).below (Below.refl _ _).drew)
          have HK7 := Lib.hid (hks.alloc hrn hrC1 hbC1 (((Below.refl wr.heap.size wr).alloc (Nat.le_refl _) (.cells #[.int .i64 (i : Int)] 3)).drew))
          obtain ⟨aF, cF, hfs, _⟩ := (hrn.st.rows s).slice
          have hlk1 : (Instr.lookup 50 (.map (some bb)) (.string s) false).run Tryz.prog wr.drew = .ok (.slice aF (env3 s).length cF) wr.drew := by rw [← hfs]; exact (hrn.below (Below.refl _ _).drew).st.map.look s hsz
          have hlk2 : (Instr.lookup 50 (.map (some bb)) (.string s) false).run Tryz.prog (wr.alloc (.cells #[.int .i64 (i : Int)] 3)).drew = .ok (.slice aF (env3 s).length cF) (wr.alloc (.cells #[.int .i64 (i : Int)] 3)).drew := by rw [← hfs]; exact HR7.out.st.map.look s hsz
          have HFS := Lib.hid hfs
          have HROW := Lib.hid (HR7.out.st.rows s)
          rw [hfs] at HROW
          have hCa : C ≤ (wr.alloc (.cells #[.int .i64 (i : Int)] 3)).drew.heap.size := HR7.out.sizeC
          have hNm : N2 + j < maxLen := by have := hN2; have := HSZ1.out; unfold maxLen; omega
          have hrbl := hrn.lts.2.2.2.1
          have hbl1 := World.block_lt_of_cell? _ _ c0
          have CD : Hid (wr.drew.cell? ⟨rb, 1, none⟩ = some (.map (some bb)) ∧ wr.drew.cell? ⟨gN, j, none⟩ = some (.int .i64 (i : Int))) := Lib.hid ⟨cb1, cN1⟩
          have CA : Hid ((wr.alloc (.cells #[.int .i64 (i : Int)] 3)).drew.cell? ⟨rb, 1, none⟩ = some (.map (some bb)) ∧ (wr.alloc (.cells #[.int .i64 (i : Int)] 3)).drew.cell? ⟨gN, j, none⟩ = some (.int .i64 (i : Int))) := Lib.hid ⟨HR7.out.rbc, (World.cell?_of_block (w := wr) (a := ⟨gN, j, none⟩) (Below.heap_alloc wr _ gN hgN)).trans cN1⟩
          clear hrn hks hfs hc1
          go_wp2
          go_region_held3 (fun W => W.cell? ⟨rb, 1, none⟩ = some (.map (some bb)) ∧ W.cell? ⟨gN, j, none⟩ = some (.int .i64 (i : Int)))
            (first | (with_reducible exact z7) | (with_reducible exact z8) | (with_reducible exact CD.out) | (with_reducible exact CA.out))
            (first | (refine step_append_n rfl _ _ rfl C (env3 s) (.slice aF (env3 s).length cF) rfl HROW.out wr.heap.size i rfl (heap_alloc_new wr _) hEl hCa ?_; intro g cap w7 h7 hg7 hat7; obtain ⟨w8, z7, hrun8, z8, hb8⟩ := HR7.out.bindStep HK7.out hrC1 hbC1 hi2 HFS.out h7 hg7 hat7 hNm hsz rfl CA.out.2; have HB8 := Lib.hid hb8; clear h7 hg7 hat7 hb8))
          all_goals
            go_wp2
            go_roundw
            case rel => exact ⟨j + 1, by omega, by go_num, _, by rw [HPU.out]; exact HB8.out.1, HB8.out.2.1, Nat.le_trans (Nat.le_trans hCr (Nat.le_trans (Nat.le_succ _) (Nat.le_of_eq (size_new wr (.cells #[.int .i64 (i : Int)] 3)).symm))) HB8.out.2.2⟩
            case measure => simp [intOf]; omega
        · obtain rfl : ns.length = j := by omega
          rw [List.take_length, show nums.take ns.length = nums by rw [← HLEN.out, List.take_length]] at hrn
          have HPE2 : Hid (∀ s, (pushE env ns nums s).length ≤ (env s).length + ns.length) := Lib.hid fun s => push_len _ _ _ _
          generalize hpe : pushE env ns nums = env2 at *
          have HPE := Lib.hid hpe
          have HR8 := Lib.hid hrn
          have HK8 := Lib.hid hks
          clear hrn hks hpe HR6 HK6 hlt
          go_upto_region 17 with fail
          go_cut [] from 85 to 93 (fun wx => ∃ kids2 aL cL nx3 f4 N3, RN C rb sb bb n U m w f q (.cells #[.int .i64 k, .string nm, .slice an ns.length cn, .int .i64 ck, .int .i64 ci, .string cs, .slice ad 0 cd, .slice ak l.length c] 28) (.cells #[.int .i64 0, .string ⟨#[]⟩, .slice none 0 0, .int .i64 0, .int .i64 0, .string ⟨#[]⟩, .slice none 0 0, .slice none 0 0] 28) (.cells #[.int .i64 k, .string nm2, vT, .int .i64 ck, .int .i64 ci, .string cs, .slice a9 0 c9, .slice aL (kids1 ++ kids2).length cL] 28) nums (.slice aN nums.length cN) (nums.map numS) (vT) wx f4 env2 nx3 N3 ∧ KidSt C1 wx f4 (kids1 ++ kids2) (.slice aL (kids1 ++ kids2).length cL) ∧ RenRs U env2 env2 0 nx2 (l.drop fr) kids2 nx3 ∧ N3 ≤ N2 + ns.length + 2 * sizeEs (l.drop fr))
          case first =>
            have HR8d := Lib.hid (HR8.out.below (Below.refl _ _).drew)
            have HK8d := Lib.hid (HK8.out.alloc HR8.out hrC1 hbC1 (Below.refl _ _).drew)
            have HCR : Hid (C1 ≤ wr.drew.heap.size) := Lib.hid hCr
            have HKD : Hid (InK wr.drew S l (.slice ak l.length c)) := Lib.hid (HKS.out.belowC HSL.out HR8d.out.fr.1)
            have HKL := Lib.hid (ren_len HRS6.out)
            have KA := Lib.hid (fun vA (hvA : InK wr.drew S (l.drop fr) vA) => renamedAll_any (l.drop fr) (fun t h => IH.out t (List.mem_of_mem_drop h)) (fun t h => HOKS.out t (List.mem_of_mem_drop h)) wr.drew S C C1 rb sb bb n (N2 + ns.length) U m f3 env2 nx2 kids1 (.slice aK kids1.length cK) vA hvA HSL.out (HR8d.out.all HK8d.out) hrC1 hsC1 hbC1 HCR.out (TB.out _ _ HR8d.out.fr) HG.out (by have := HSZ1.out; omega) (by have := HSZ1.out; have := HPOT2.out; have := HNPOT.out; have := HLEN.out; omega) (fun s => by have := HE.out s; have := HSZ1.out; have := HPE2.out s; omega) (by rw [List.length_drop, HKL.out, List.length_take]; omega))
            obtain ⟨x0, x1, x2, x3, x4, x5, x6, x7⟩ := BOX.out _ HR8.out.eb
            have y7 : wr.cell? ⟨q, 7, none⟩ = some (.slice aK kids1.length cK) := by rw [Lib.cell_of_heap HR8.out.qb]; rfl
            obtain ⟨hlw, hlz, hlq, hlr, hlC⟩ := HR8.out.lts
            have HA : (ak = none ∧ c ≤ 0) ∨ (∃ ak0, ak = some ak0 ∧ l.length ≤ 0 ∧ fr = c) ∨ (∃ ak0, ak = some ak0 ∧ l.length ≤ 0 ∧ 0 < c) ∨ (∃ b0 o0, ak = some ⟨b0, o0, none⟩ ∧ fr < c ∧ fr < l.length) ∨ (∃ b0 o0, ak = some ⟨b0, o0, none⟩ ∧ fr < c ∧ l.length ≤ fr) ∨ (∃ b0 o0, ak = some ⟨b0, o0, none⟩ ∧ fr = c) := by
              obtain ⟨a', c', e, _, _, ha, hr⟩ := id HKS.out
              cases e
              cases ak with
              | none => exact .inl ⟨rfl, by rw [ha rfl]; exact Nat.le_refl _⟩
              | some a =>
                by_cases hc0 : c ≤ 0
                · exact .inr (.inl ⟨a, rfl, by omega, by omega⟩)
                · rcases hr with h0 | ⟨b0, o0, e, _⟩
                  · exact .inr (.inr (.inl ⟨a, rfl, by rw [h0]; exact Nat.le_refl _, by omega⟩))
                  · cases e
                    by_cases hfc2 : fr < c
                    · by_cases hfl2 : fr < l.length
                      · exact .inr (.inr (.inr (.inl ⟨b0, o0, rfl, hfc2, hfl2⟩)))
                      · exact .inr (.inr (.inr (.inr (.inl ⟨b0, o0, rfl, hfc2, by omega⟩))))
                    · exact .inr (.inr (.inr (.inr (.inr ⟨b0, o0, rfl, by omega⟩))))
            rcases HA with ⟨rfl, hc0⟩ | ⟨ak0, rfl, hl0, rfl⟩ | ⟨ak0, rfl, hl0, hc0⟩ | ⟨b0, o0, rfl, hfc2, hfl2⟩ | ⟨b0, o0, rfl, hfc2, hfl2⟩ | ⟨b0, o0, rfl, rfl⟩
            all_goals
              first
                | have HKV : Hid (InK wr.drew S (l.drop fr) (.slice (some ⟨b0, o0 + fr * 8, none⟩) (l.length - fr) (c - fr))) := Lib.hid (HKD.out.dropQ (show fr < l.length from hfl2))
                | have HKV : Hid (InK wr.drew S (l.drop fr) (.slice (some ⟨b0, o0 + fr * 8, none⟩) 0 (c - fr))) := Lib.hid (InK.dropNil (by have := (show l.length ≤ fr from hfl2); omega) (show l.length ≤ fr from hfl2) (fun e => by cases e) (by unfold maxLen; omega))
                | have HKV : Hid (InK wr.drew S (l.drop fr) (.slice (some ⟨b0, o0, none⟩) 0 0)) := Lib.hid (InK.dropNil (by omega) hl (fun e => by cases e) (by unfold maxLen; omega))
                | have HKV : Hid (InK wr.drew S (l.drop fr) (.slice (some (ak0.add (fr * 8))) (l.length - fr) (c - fr))) := Lib.hid (InK.dropNil (by have := (show 0 < c from hc0); rfl) (by have := show l.length ≤ 0 from hl0; omega) (fun e => by cases e) (by unfold maxLen; omega))
                | have HKV : Hid (InK wr.drew S (l.drop fr) (.slice (some ak0) 0 0)) := Lib.hid (InK.dropNil (by omega) (by omega) (fun e => by cases e) (by unfold maxLen; omega))
                | have HKV : Hid (InK wr.drew S (l.drop fr) (.slice none (l.length - fr) (c - fr))) := Lib.hid (InK.dropNil rfl (by omega) (fun _ => by omega) (by unfold maxLen; omega))
              clear HKD
              go_still_tail 7, (by kernel_rfl)
              change wpList _ _ _ _ _ wr.drew
              generalize wr.drew = w5 at HR8d HK8d HCR KA HKV ⊢
              clear x0 x1 x2 x3 x4 x5 x6 x7 y7 hlw hlz hlq hlr hlC
              go_wp2_with fail
              with_reducible refine (KA.out _ HKV.out).mono ?_
              rintro e w6 ⟨kids2, vK2, nx3, f4, N3, rfl, hrs, hA2, hN3⟩
              obtain ⟨aL, cL, rfl, _⟩ := hA2.row.slice
              have HR9 := Lib.hid (HR8d.out.callX hA2.st hA2.fr (fun b e => ⟨by have := (World.ownsRow.lt HK8d.out.1.choose_spec.1 b e).1; omega, by have := (World.ownsRow.lt HK8d.out.1.choose_spec.1 b e).1; omega, fun e2 => by have := (World.ownsRow.lt HK8d.out.1.choose_spec.1 b e).1; have := HBC.out.1 b e2.symm; omega, fun e2 => by have := (World.ownsRow.lt HK8d.out.1.choose_spec.1 b e).1; have := HBC.out.2 b e2.symm; omega⟩))
              have HK9 := Lib.hid (show KidSt C1 w6 f4 (kids1 ++ kids2) _ from ⟨hA2.row, hA2.own⟩)
              have HRS9 := Lib.hid hrs
              clear hA2 hrs
              have y7 : w6.cell? ⟨q, 7, none⟩ = some (.slice aK kids1.length cK) := by rw [Lib.cell_of_heap HR9.out.qb]; rfl
              have g7 : w6.frozen? ⟨q, 7, none⟩ = false := Lib.frozen_of_heap HR9.out.qb 7
              generalize hkk : (kids1 ++ kids2).length = kl at *
              go_wp2
              go_meet
              case rel =>
                subst hkk
                exact ⟨kids2, aL, cL, nx3, f4, N3, HR9.out.cellq rfl, HK9.out.cellq hqC, HRS9.out, hN3⟩
          case rest =>
          obtain ⟨kids2, aL, cL, nx3, f4, N3, hrn, hks, hrs, hN3⟩ := hcut
          have HR9 := Lib.hid hrn
          have HK9 := Lib.hid hks
          have HRS9 := Lib.hid hrs
          obtain ⟨x0, x1, x2, x3, x4, x5, x6, x7⟩ := BOX.out _ hrn.eb
          obtain ⟨hlw, hlz, hlq, hlr, hlC⟩ := hrn.lts
          have hNb : N3 + ns.length ≤ 1000000000 := by have := HSZ1.out; omega
          clear hrn hks hrs HR8 HK8
          generalize hkk : (kids1 ++ kids2).length = kl at *
          have HKK := Lib.hid hkk
          clear hkk
          go_wp2
          go_loopw [97] (fun ix wr => ∃ j : Nat, j ≤ ns.length ∧ ix = .int .i64 j ∧ ∃ f5, RN C rb sb bb n U m w f q (.cells #[.int .i64 k, .string nm, .slice an ns.length cn, .int .i64 ck, .int .i64 ci, .string cs, .slice ad 0 cd, .slice ak l.length c] 28) (.cells #[.int .i64 0, .string ⟨#[]⟩, .slice none 0 0, .int .i64 0, .int .i64 0, .string ⟨#[]⟩, .slice none 0 0, .slice none 0 0] 28) (.cells #[.int .i64 k, .string nm2, vT, .int .i64 ck, .int .i64 ci, .string cs, .slice a9 0 c9, .slice aL kl cL] 28) nums (.slice aN nums.length cN) (nums.map numS) (vT) wr f5 (popE env2 (ns.take j)) nx3 (N3 + j) ∧ KidSt C1 wr f5 (kids1 ++ kids2) (.slice aL kl cL)) (fun i _ => ns.length - (intOf i).toNat)
          case atStart => exact ⟨0, Nat.zero_le _, rfl, f4, by rw [List.take_zero]; exact HR9.out, HK9.out⟩
          case round =>
            rename_i wr
            clear x0 x1 x2 x3 x4 x5 x6 x7 hlw hlz hlq hlr hlC
            obtain ⟨j, hj, rfl, f5, hrn, hks⟩ := hrel
            by_cases hlt : j < ns.length
            · skip
              obtain ⟨b1, o1, rfl, hs1, hc1⟩ : ∃ b o, an = some ⟨b, o, none⟩ ∧ S b ∧ ∀ (j : Nat) (h : j < ns.length), w.cell? ⟨b, o + j, none⟩ = some (.string ns[j]) ∧ ns[j].size ≤ maxLen := by
                obtain ⟨a', c', e, _, _, _, hr⟩ := id HNS.out
                cases e
                exact hr.resolve_left (by rintro rfl; cases hlt)
              have c0 : wr.cell? ⟨b1, o1 + j, none⟩ = some (.string ns[j]) := by rw [World.cell?_of_block (w := w) (a := ⟨b1, o1 + j, none⟩) (hrn.fr.1.block b1 (HSL.out b1 hs1))]; exact (hc1 j hlt).1
              have hsz := (hc1 j hlt).2
              have cb1 := hrn.rbc
              have hne : popE env2 (ns.take j) ns[j] ≠ [] := by rw [← HPE.out]; exact pop_some ns nums env HLEN.out j hlt
              have HPU := Lib.hid (take_pop (env := env2) hlt)
              generalize ns[j] = s at *
              generalize popE env2 (ns.take j) = env3 at *
              obtain ⟨gF, cF, hfs, hkc, hcm⟩ := (hrn.st.rows s).full hne
              obtain ⟨kF, hkF⟩ : ∃ kF, (env3 s).length = kF + 1 := ⟨(env3 s).length - 1, by have := List.length_pos_iff.2 hne; omega⟩
              rw [hkF] at hfs hkc
              have hkc2 : kF ≤ cF := by omega
              unfold maxLen at hcm
              have hkc3 : IntKind.i64.wrap (kF : Int) = kF := IntWalk.i64_in _ (by omega)
              have hlk1 : (Instr.lookup 50 (.map (some bb)) (.string s) false).run Tryz.prog wr.drew = .ok (.slice (some ⟨gF, 0, none⟩) (kF + 1) cF) wr.drew := by rw [← hfs]; exact (hrn.below (Below.refl _ _).drew).st.map.look s hsz
              have HRd := Lib.hid (hrn.below (Below.refl _ _).drew)
              have HKd := Lib.hid (hks.alloc hrn hrC1 hbC1 (Below.refl _ _).drew)
              obtain ⟨w8, hrun8, hm8, hg8⟩ := HRd.out.st.map.store (show N3 + j < maxLen by unfold maxLen; omega) s (.slice (some ⟨gF, 0, none⟩) kF cF) hsz
              have HB8 := Lib.hid (HRd.out.unbind1 HKd.out hrC1 hbC1 (k := kF + 1) hfs hne hm8 hg8)
              have hrbl := hrn.lts.2.2.2.1
              have hbl1 := World.block_lt_of_cell? _ _ c0
              clear hrn hks hfs hc1 hm8 hg8 hne hkF
              go_wp2
              go_still_tail 20, (by kernel_rfl)
              change wpList _ _ _ _ _ wr.drew
              go_wp2
              go_roundw
              case rel => exact ⟨j + 1, by omega, by go_num, _, by rw [HPU.out]; exact HB8.out.1, HB8.out.2⟩
              case measure => simp [intOf]; omega
            · obtain rfl : ns.length = j := by omega
              rw [List.take_length, ← HPE.out, pop_push ns nums env HLEN.out] at hrn
              have HNX3 : Hid (RenR U env nx (.mk k nm ns (.mk ck ci cs []) l) (.mk k nm2 (nums.map numS) (.mk ck ci cs []) (kids1 ++ kids2)) nx3) := Lib.hid (by
                rw [RenR, HFE.out, HNM2.out.symm]
                refine ⟨nums, n1, kids1 ++ kids2, HNL.out, HLEN.out, ?_, rfl⟩
                have h2 := HRS9.out
                rw [← HPE.out] at h2
                exact renRs_split HRS6.out h2)
              have HNMZ : Hid (nm2.size ≤ maxLen) := Lib.hid (by
                rw [← HNM2.out]
                split
                · exact now_size HNMS.out fun i hi => by
                    have := HST.out.old nm i hi
                    omega
                · exact HNMS.out)
              have hks2 : KidSt C1 wr f5 (kids1 ++ kids2) (.slice aL kl cL) := hks
              have HEND := Lib.hid (renamed_end (N0 := N) hrn hks2 hwC HOK.out.1 HNMZ.out HOK.out.2.1 HOK.out.2.2.1 HOK.out.2.2.2 HNM3.out S (HD9.out _) HNX3.out (by have := HSZ1.out; rw [sizeE]; omega))
              have z8 : wr.cell? ⟨q, 0, none⟩ = some (.int .i64 k) ∧ wr.cell? ⟨q, 1, none⟩ = some (.string nm2) ∧ wr.cell? ⟨q, 2, none⟩ = some vT ∧ wr.cell? ⟨q, 3, none⟩ = some (.int .i64 ck) ∧ wr.cell? ⟨q, 4, none⟩ = some (.int .i64 ci) ∧ wr.cell? ⟨q, 5, none⟩ = some (.string cs) ∧ wr.cell? ⟨q, 6, none⟩ = some (.slice a9 0 c9) ∧ wr.cell? ⟨q, 7, none⟩ = some (.slice aL kl cL) := by
                refine ⟨?_, ?_, ?_, ?_, ?_, ?_, ?_, ?_⟩
                all_goals (rw [Lib.cell_of_heap hrn.qb]; rfl)
              obtain ⟨aT, cT, rfl, _⟩ := hrn.nam.slice
              have hlm : (nums.map numS).length = ns.length := by rw [List.length_map, HLEN.out]
              rw [hlm] at HEND z8
              obtain ⟨z0, z1, z2, z3, z4, z5, z6, z7⟩ := z8
              have t8 : wr.cell? ⟨w.heap.size + 1, 0, none⟩ = some (.int .i64 0) ∧ wr.cell? ⟨w.heap.size + 1, 1, none⟩ = some (.string ⟨#[]⟩) ∧ wr.cell? ⟨w.heap.size + 1, 2, none⟩ = some (.slice none 0 0) ∧ wr.cell? ⟨w.heap.size + 1, 3, none⟩ = some (.int .i64 0) ∧ wr.cell? ⟨w.heap.size + 1, 4, none⟩ = some (.int .i64 0) ∧ wr.cell? ⟨w.heap.size + 1, 5, none⟩ = some (.string ⟨#[]⟩) ∧ wr.cell? ⟨w.heap.size + 1, 6, none⟩ = some (.slice none 0 0) ∧ wr.cell? ⟨w.heap.size + 1, 7, none⟩ = some (.slice none 0 0) := by
                refine ⟨?_, ?_, ?_, ?_, ?_, ?_, ?_, ?_⟩
                all_goals (rw [Lib.cell_of_heap hrn.zb]; rfl)
              have g8 := fun i => Lib.frozen_of_heap hrn.zb i
              have g0 := g8 0
              have g1 := g8 1
              have g2 := g8 2
              have g3 := g8 3
              have g4 := g8 4
              have g5 := g8 5
              have g6 := g8 6
              have g7 := g8 7
              obtain ⟨t0, t1, t2, t3, t4, t5, t6, t7⟩ := t8
              clear hrn hks hks2 g8 hlm
              go_wp2
              exact bodyPost_ret (results_cell_row (P := Tryz.prog) rfl _ _ (w.heap.size + 1) 28 _ (0, 0) _ rfl HEND.out.1 Tryz.underlying28 rfl (by kernel_rfl)) rfl HEND.out.2
end Go.Proofs.YtjofdlnopchaeaaGreatDoor.Core
