/-
The document's heap: Make. No condition but that the heap lies in memory.
-/
import Derived.Test.YtpejhilfopjckaaDoorQGk
import Derived.Test.YtpejhilfopjckaaDoorQ66
namespace Go.Proofs.YtpejhilfopjckaaDoor.Hp
open Go.ChangeShapes Go.WideShapes Go.ChangeAt Go.RowKit Go.Deep
open Dat (PT ok64 RepV RepS RowX infoDatum)
set_option maxRecDepth 100000

theorem HeapR.lenM {w : World} {hb : Nat} {T : List (Int × List PV)} {F : Nat → Prop} (h : HeapR w hb T F) : LenM w hb T.length := h.len
theorem chars_iff {l : List PV} : charsB l = true ↔ ∀ t ∈ l, t.k = 2 := by
  unfold charsB
  rw [List.all_eq_true]
  exact ⟨fun h t ht => by simpa using h t ht, fun h t ht => by simpa using h t ht⟩
set_option maxHeartbeats 4000000 in
theorem rmk_any (kd : Int) (l : List PV) (v : Value) (S : Nat → Prop) (hb : Nat) (T : List (Int × List PV)) (F : Nat → Prop) (w : World) (hH : HeapR w hb T F) (hF : ∀ b, F b → b < w.heap.size) (hP : InP w S l v) (hl : l.length ≤ 1000) (hT : T.length ≤ 100000) :
    Calls Tryd.prog 9 #[.pointer (some ⟨hb, 0, none⟩), .int .i64 kd, v] w fun e w' => DoR w hb F (madeT T kd l).1 (madeT T kd l).2.1 (madeT T kd l).2.2 e w' := by
  have Z0 := Lib.hid (heap_alloc_new w (.cells #[.int .i64 0, .int .i64 0, .string ⟨#[]⟩] 36))
  have B0 := Lib.hid ((Below.refl w.heap.size w).alloc (Nat.le_refl _) (.cells #[.int .i64 0, .int .i64 0, .string ⟨#[]⟩] 36))
  have hs0 := size_new w (.cells #[.int .i64 0, .int .i64 0, .string ⟨#[]⟩] 36)
  have HH := Lib.hid hH
  have HF := Lib.hid hF
  obtain ⟨q, HQ⟩ : ∃ q, Hid (q = madeT T kd l) := ⟨_, Lib.hid rfl⟩
  rw [← HQ.out]
  have HP := Lib.hid hP
  have HLM := Lib.hid hH.lenM
  obtain ⟨a, c, rfl, h1, h2, h3, h4⟩ := hP
  unfold maxLen at h2
  have nb : decide (1000 < (l.length : Int)) = false := decide_eq_false (by omega)
  clear hH hF h3 h4
  have ways : kd < 0 ∨ 4 < kd ∨ (kd = 0 ∧ l.length ≠ 2) ∨ (kd = 3 ∧ l.length ≠ 1) ∨ (kd = 0 ∧ l.length = 2) ∨ (kd = 3 ∧ l.length = 1) ∨ kd = 1 ∨ kd = 4 ∨ kd = 2 := by omega
  rcases ways with hk | hk | ⟨rfl, hn⟩ | ⟨rfl, hn⟩ | ⟨rfl, hn⟩ | ⟨rfl, hn⟩ | rfl | rfl | rfl
  · have HQ1 : Hid (q = (⟨0, 0, ⟨#[]⟩⟩, 1, T)) := Lib.hid (by rw [HQ.out, madeT_no (by rw [madeB, show mayB kd l.length = false from (by rw [mayB, if_neg (by omega), if_neg (by omega), if_neg (by omega)]; exact beq_eq_false_iff_ne.2 (by omega))]; rfl)])
    have d0 : decide (kd < 0) = true := decide_eq_true hk
    clear hk
    go_enter Tryd.func9, Tryd.ntmps9
    go_upto_region 1 with fail
    generalize w.alloc (.cells #[.int .i64 0, .int .i64 0, .string ⟨#[]⟩] 36) = w0 at *
    obtain ⟨⟨y0, y1, y2⟩, f0, f1, f2⟩ := look3 Z0.out
    go_wp2
    exact bodyPost_ret (res_ve (t := 7) (p := 6) rfl _ _ w.heap.size _ _ _ rfl (put3 Z0.out _ _ _)) rfl (by rw [HQ1.out]; exact DoR.of HH.out rfl (put3_below B0.out (Nat.le_refl _) _ _ _))
  · have HQ1 : Hid (q = (⟨0, 0, ⟨#[]⟩⟩, 1, T)) := Lib.hid (by rw [HQ.out, madeT_no (by rw [madeB, show mayB kd l.length = false from (by rw [mayB, if_neg (by omega), if_neg (by omega), if_neg (by omega)]; exact beq_eq_false_iff_ne.2 (by omega))]; rfl)])
    have d0 : decide (kd < 0) = false := decide_eq_false (by omega)
    have d4 : decide (4 < kd) = true := decide_eq_true hk
    clear hk
    go_enter Tryd.func9, Tryd.ntmps9
    go_upto_region 1 with fail
    generalize w.alloc (.cells #[.int .i64 0, .int .i64 0, .string ⟨#[]⟩] 36) = w0 at *
    obtain ⟨⟨y0, y1, y2⟩, f0, f1, f2⟩ := look3 Z0.out
    go_wp2
    exact bodyPost_ret (res_ve (t := 7) (p := 6) rfl _ _ w.heap.size _ _ _ rfl (put3 Z0.out _ _ _)) rfl (by rw [HQ1.out]; exact DoR.of HH.out rfl (put3_below B0.out (Nat.le_refl _) _ _ _))
  · have HQ1 : Hid (q = (⟨0, 0, ⟨#[]⟩⟩, 1, T)) := Lib.hid (by rw [HQ.out, madeT_no (by rw [madeB, show mayB 0 l.length = false from (by simp [mayB, hn])]; rfl)])
    have e2 : ((l.length : Int) == 2) = false := by simp; omega
    have e3 : ((l.length : Int) != 2) = true := by simp; omega
    clear hn
    go_enter Tryd.func9, Tryd.ntmps9
    go_upto_region 1 with fail
    generalize w.alloc (.cells #[.int .i64 0, .int .i64 0, .string ⟨#[]⟩] 36) = w0 at *
    obtain ⟨⟨y0, y1, y2⟩, f0, f1, f2⟩ := look3 Z0.out
    go_wp2
    exact bodyPost_ret (res_ve (t := 7) (p := 6) rfl _ _ w.heap.size _ _ _ rfl (put3 Z0.out _ _ _)) rfl (by rw [HQ1.out]; exact DoR.of HH.out rfl (put3_below B0.out (Nat.le_refl _) _ _ _))
  · have HQ1 : Hid (q = (⟨0, 0, ⟨#[]⟩⟩, 1, T)) := Lib.hid (by rw [HQ.out, madeT_no (by rw [madeB, show mayB 3 l.length = false from (by simp [mayB, hn])]; rfl)])
    have e2 : ((l.length : Int) == 1) = false := by simp; omega
    have e3 : ((l.length : Int) != 1) = true := by simp; omega
    clear hn
    go_enter Tryd.func9, Tryd.ntmps9
    go_upto_region 1 with fail
    generalize w.alloc (.cells #[.int .i64 0, .int .i64 0, .string ⟨#[]⟩] 36) = w0 at *
    obtain ⟨⟨y0, y1, y2⟩, f0, f1, f2⟩ := look3 Z0.out
    go_wp2
    exact bodyPost_ret (res_ve (t := 7) (p := 6) rfl _ _ w.heap.size _ _ _ rfl (put3 Z0.out _ _ _)) rfl (by rw [HQ1.out]; exact DoR.of HH.out rfl (put3_below B0.out (Nat.le_refl _) _ _ _))
  · have HMB : Hid (mayB 0 l.length = true) := Lib.hid (by simp [mayB, hn])
    have e2 : ((l.length : Int) == 2) = true := by simp; omega
    have e3 : ((l.length : Int) != 2) = false := by simp; omega
    clear hn
    go_enter Tryd.func9, Tryd.ntmps9
    go_upto_region 1 with fail
    generalize w.alloc (.cells #[.int .i64 0, .int .i64 0, .string ⟨#[]⟩] 36) = w0 at *
    go_wp2
    go_loopw [9] (fun x wr => ∃ j : Nat, j ≤ l.length ∧ x = .int .i64 j ∧ (∀ (q : Nat) (hq : q < l.length), q < j → hasB T.length l[q] = true) ∧ Below w0.heap.size w0 wr) (fun x _ => l.length - (intOf x).toNat)
    case atStart => exact ⟨0, Nat.zero_le _, rfl, fun q _ h => by omega, Below.refl _ _⟩
    case round =>
      obtain ⟨j, hj, rfl, hall, hbr⟩ := hrel
      have HA := Lib.hid hall
      have HB := Lib.hid (B0.out.trans (hbr.mono B0.out.size))
      have HW := Lib.hid hbr
      have ZR := Lib.hid ((hbr.block w.heap.size (by omega)).trans Z0.out)
      have hsr : w.heap.size + 1 ≤ wr.heap.size := by have := hbr.size; omega
      by_cases hlt : j < l.length
      · obtain ⟨b, o, c', e, hs, hbl, hv⟩ := HP.out.cells (by rintro rfl; cases hlt)
        cases e
        obtain ⟨c0, c1, c2, ok⟩ := hv.item j hlt
        replace c0 := (HB.out.cell (p := ⟨b, o + j * 3, none⟩) hbl).trans c0
        replace c1 := (HB.out.cell (p := ⟨b, o + j * 3 + 1, none⟩) hbl).trans c1
        replace c2 := (HB.out.cell (p := ⟨b, o + j * 3 + 2, none⟩) hbl).trans c2
        have HT : Hid (hasB T.length l[j] = true → ∀ (q : Nat) (hq : q < l.length), q < j + 1 → hasB T.length l[q] = true) := Lib.hid (fun hk q hq hqj => by
          by_cases e : q = j
          · subst e; exact hk
          · exact HA.out q hq (by omega))
        have HM : Hid (l[j] ∈ l) := Lib.hid (List.getElem_mem hlt)
        generalize l[j] = t at c0 c1 c2 ok HT HM
        obtain ⟨tk, ti, ts⟩ := t
        dsimp only at c0 c1 c2
        have KH := Lib.hid (rmay_any tk ti ts hb T.length wr ok.2.2 (LenM.below HLM.out HB.out))
        clear hall hbr hv ok
        by_cases hok : hasB T.length ⟨tk, ti, ts⟩ = true
        · rw [hok] at KH
          have HOK := Lib.hid hok
          clear hok
          have HT' := Lib.hid (HT.out HOK.out)
          clear HT
          go_wp2_with fail
          refine KH.out.mono ?_
          rintro e w1 ⟨rfl, hb1⟩
          have B1 := Lib.hid (HW.out.trans (hb1.mono HW.out.size))
          have d0 := (hb1.cell (p := ⟨b, o + j * 3, none⟩) (Nat.lt_of_lt_of_le hbl HB.out.size)).trans c0
          clear hb1
          go_wp2
          go_roundw
          case rel => exact ⟨j + 1, by omega, by go_num, HT'.out, B1.out⟩
          case measure => simp [intOf]; omega
        · have hf : hasB T.length ⟨tk, ti, ts⟩ = false := by simpa using hok
          rw [hf] at KH
          have HQ1 : Hid (q = (⟨0, 0, ⟨#[]⟩⟩, 1, T)) := Lib.hid (by rw [HQ.out, madeT_no (by
            rw [madeB, show l.all (hasB T.length) = false from by
              cases hr : l.all (hasB T.length)
              · rfl
              · exact absurd (List.all_eq_true.1 hr _ HM.out) hok]
            simp)])
          clear hok hf HT
          go_wp2_with fail
          refine KH.out.mono ?_
          rintro e w1 ⟨rfl, hb1⟩
          have B1 := Lib.hid (HB.out.trans (hb1.mono HB.out.size))
          have Z1 := Lib.hid ((hb1.block w.heap.size (by omega)).trans ZR.out)
          obtain ⟨⟨y0, y1, y2⟩, f0, f1, f2⟩ := look3 Z1.out
          clear hb1
          go_wp2
          exact bodyPost_ret (res_ve (t := 7) (p := 6) rfl _ _ w.heap.size _ _ _ rfl (put3 Z1.out _ _ _)) rfl (by rw [HQ1.out]; exact DoR.of HH.out rfl (put3_below B1.out (Nat.le_refl _) _ _ _))
      · have HQ1 : Hid (q = (⟨8, T.length, ⟨#[]⟩⟩, 0, T ++ [(0, l)])) := Lib.hid (by
          have hall2 : l.all (hasB T.length) = true := List.all_eq_true.2 (fun t ht => by
            obtain ⟨q, hq, rfl⟩ := List.mem_iff_getElem.1 ht
            exact (HA.out q hq (by omega)))
          rw [HQ.out, madeT, madeB, HMB.out, hall2]
          rfl)
        have KA := Lib.hid (radd_any 0 l _ S hb T F wr (HH.out.below HB.out) (fun b hf => by have := HF.out b hf; omega) ⟨by decide, by decide⟩ (HP.out.belowP HB.out) (by omega) hT)
        clear hall hbr
        go_wp2_with fail
        refine KA.out.mono ?_
        rintro e w4 hA
        obtain ⟨he, F', q1, q2, q3, q4⟩ := hA.use (show w.heap.size < wr.heap.size by omega) (fun hf => by have := HF.out _ hf; omega)
        dsimp only at he
        subst he
        have HQ2 := Lib.hid (putR_res q1 ((Stp.of_below HB.out).trans q2) q3 (Nat.le_refl _) (.int .i64 8) (.int .i64 T.length) (.string ⟨#[]⟩))
        have HR5 := Lib.hid (q4.trans ZR.out)
        obtain ⟨⟨y0, y1, y2⟩, f0, f1, f2⟩ := look3 HR5.out
        clear hA q1 q2 q3 q4
        go_wp2
        exact bodyPost_ret (res_ve (t := 7) (p := 6) rfl _ _ w.heap.size _ _ _ rfl (put3 HR5.out _ _ _)) rfl (by rw [HQ1.out]; exact ⟨rfl, F', HQ2.out.1, HQ2.out.2⟩)
  · have HMB : Hid (mayB 3 l.length = true) := Lib.hid (by simp [mayB, hn])
    have e2 : ((l.length : Int) == 1) = true := by simp; omega
    have e3 : ((l.length : Int) != 1) = false := by simp; omega
    clear hn
    go_enter Tryd.func9, Tryd.ntmps9
    go_upto_region 1 with fail
    generalize w.alloc (.cells #[.int .i64 0, .int .i64 0, .string ⟨#[]⟩] 36) = w0 at *
    go_wp2
    go_loopw [9] (fun x wr => ∃ j : Nat, j ≤ l.length ∧ x = .int .i64 j ∧ (∀ (q : Nat) (hq : q < l.length), q < j → hasB T.length l[q] = true) ∧ Below w0.heap.size w0 wr) (fun x _ => l.length - (intOf x).toNat)
    case atStart => exact ⟨0, Nat.zero_le _, rfl, fun q _ h => by omega, Below.refl _ _⟩
    case round =>
      obtain ⟨j, hj, rfl, hall, hbr⟩ := hrel
      have HA := Lib.hid hall
      have HB := Lib.hid (B0.out.trans (hbr.mono B0.out.size))
      have HW := Lib.hid hbr
      have ZR := Lib.hid ((hbr.block w.heap.size (by omega)).trans Z0.out)
      have hsr : w.heap.size + 1 ≤ wr.heap.size := by have := hbr.size; omega
      by_cases hlt : j < l.length
      · obtain ⟨b, o, c', e, hs, hbl, hv⟩ := HP.out.cells (by rintro rfl; cases hlt)
        cases e
        obtain ⟨c0, c1, c2, ok⟩ := hv.item j hlt
        replace c0 := (HB.out.cell (p := ⟨b, o + j * 3, none⟩) hbl).trans c0
        replace c1 := (HB.out.cell (p := ⟨b, o + j * 3 + 1, none⟩) hbl).trans c1
        replace c2 := (HB.out.cell (p := ⟨b, o + j * 3 + 2, none⟩) hbl).trans c2
        have HT : Hid (hasB T.length l[j] = true → ∀ (q : Nat) (hq : q < l.length), q < j + 1 → hasB T.length l[q] = true) := Lib.hid (fun hk q hq hqj => by
          by_cases e : q = j
          · subst e; exact hk
          · exact HA.out q hq (by omega))
        have HM : Hid (l[j] ∈ l) := Lib.hid (List.getElem_mem hlt)
        generalize l[j] = t at c0 c1 c2 ok HT HM
        obtain ⟨tk, ti, ts⟩ := t
        dsimp only at c0 c1 c2
        have KH := Lib.hid (rmay_any tk ti ts hb T.length wr ok.2.2 (LenM.below HLM.out HB.out))
        clear hall hbr hv ok
        by_cases hok : hasB T.length ⟨tk, ti, ts⟩ = true
        · rw [hok] at KH
          have HOK := Lib.hid hok
          clear hok
          have HT' := Lib.hid (HT.out HOK.out)
          clear HT
          go_wp2_with fail
          refine KH.out.mono ?_
          rintro e w1 ⟨rfl, hb1⟩
          have B1 := Lib.hid (HW.out.trans (hb1.mono HW.out.size))
          have d0 := (hb1.cell (p := ⟨b, o + j * 3, none⟩) (Nat.lt_of_lt_of_le hbl HB.out.size)).trans c0
          clear hb1
          go_wp2
          go_roundw
          case rel => exact ⟨j + 1, by omega, by go_num, HT'.out, B1.out⟩
          case measure => simp [intOf]; omega
        · have hf : hasB T.length ⟨tk, ti, ts⟩ = false := by simpa using hok
          rw [hf] at KH
          have HQ1 : Hid (q = (⟨0, 0, ⟨#[]⟩⟩, 1, T)) := Lib.hid (by rw [HQ.out, madeT_no (by
            rw [madeB, show l.all (hasB T.length) = false from by
              cases hr : l.all (hasB T.length)
              · rfl
              · exact absurd (List.all_eq_true.1 hr _ HM.out) hok]
            simp)])
          clear hok hf HT
          go_wp2_with fail
          refine KH.out.mono ?_
          rintro e w1 ⟨rfl, hb1⟩
          have B1 := Lib.hid (HB.out.trans (hb1.mono HB.out.size))
          have Z1 := Lib.hid ((hb1.block w.heap.size (by omega)).trans ZR.out)
          obtain ⟨⟨y0, y1, y2⟩, f0, f1, f2⟩ := look3 Z1.out
          clear hb1
          go_wp2
          exact bodyPost_ret (res_ve (t := 7) (p := 6) rfl _ _ w.heap.size _ _ _ rfl (put3 Z1.out _ _ _)) rfl (by rw [HQ1.out]; exact DoR.of HH.out rfl (put3_below B1.out (Nat.le_refl _) _ _ _))
      · have HQ1 : Hid (q = (⟨8, T.length, ⟨#[]⟩⟩, 0, T ++ [(3, l)])) := Lib.hid (by
          have hall2 : l.all (hasB T.length) = true := List.all_eq_true.2 (fun t ht => by
            obtain ⟨q, hq, rfl⟩ := List.mem_iff_getElem.1 ht
            exact (HA.out q hq (by omega)))
          rw [HQ.out, madeT, madeB, HMB.out, hall2]
          rfl)
        have KA := Lib.hid (radd_any 3 l _ S hb T F wr (HH.out.below HB.out) (fun b hf => by have := HF.out b hf; omega) ⟨by decide, by decide⟩ (HP.out.belowP HB.out) (by omega) hT)
        clear hall hbr
        go_wp2_with fail
        refine KA.out.mono ?_
        rintro e w4 hA
        obtain ⟨he, F', q1, q2, q3, q4⟩ := hA.use (show w.heap.size < wr.heap.size by omega) (fun hf => by have := HF.out _ hf; omega)
        dsimp only at he
        subst he
        have HQ2 := Lib.hid (putR_res q1 ((Stp.of_below HB.out).trans q2) q3 (Nat.le_refl _) (.int .i64 8) (.int .i64 T.length) (.string ⟨#[]⟩))
        have HR5 := Lib.hid (q4.trans ZR.out)
        obtain ⟨⟨y0, y1, y2⟩, f0, f1, f2⟩ := look3 HR5.out
        clear hA q1 q2 q3 q4
        go_wp2
        exact bodyPost_ret (res_ve (t := 7) (p := 6) rfl _ _ w.heap.size _ _ _ rfl (put3 HR5.out _ _ _)) rfl (by rw [HQ1.out]; exact ⟨rfl, F', HQ2.out.1, HQ2.out.2⟩)
  · have HMB : Hid (mayB 1 l.length = true) := Lib.hid (by simp [mayB, hl])

    go_enter Tryd.func9, Tryd.ntmps9
    go_upto_region 1 with fail
    generalize w.alloc (.cells #[.int .i64 0, .int .i64 0, .string ⟨#[]⟩] 36) = w0 at *
    go_wp2
    go_loopw [9] (fun x wr => ∃ j : Nat, j ≤ l.length ∧ x = .int .i64 j ∧ (∀ (q : Nat) (hq : q < l.length), q < j → hasB T.length l[q] = true) ∧ Below w0.heap.size w0 wr) (fun x _ => l.length - (intOf x).toNat)
    case atStart => exact ⟨0, Nat.zero_le _, rfl, fun q _ h => by omega, Below.refl _ _⟩
    case round =>
      obtain ⟨j, hj, rfl, hall, hbr⟩ := hrel
      have HA := Lib.hid hall
      have HB := Lib.hid (B0.out.trans (hbr.mono B0.out.size))
      have HW := Lib.hid hbr
      have ZR := Lib.hid ((hbr.block w.heap.size (by omega)).trans Z0.out)
      have hsr : w.heap.size + 1 ≤ wr.heap.size := by have := hbr.size; omega
      by_cases hlt : j < l.length
      · obtain ⟨b, o, c', e, hs, hbl, hv⟩ := HP.out.cells (by rintro rfl; cases hlt)
        cases e
        obtain ⟨c0, c1, c2, ok⟩ := hv.item j hlt
        replace c0 := (HB.out.cell (p := ⟨b, o + j * 3, none⟩) hbl).trans c0
        replace c1 := (HB.out.cell (p := ⟨b, o + j * 3 + 1, none⟩) hbl).trans c1
        replace c2 := (HB.out.cell (p := ⟨b, o + j * 3 + 2, none⟩) hbl).trans c2
        have HT : Hid (hasB T.length l[j] = true → ∀ (q : Nat) (hq : q < l.length), q < j + 1 → hasB T.length l[q] = true) := Lib.hid (fun hk q hq hqj => by
          by_cases e : q = j
          · subst e; exact hk
          · exact HA.out q hq (by omega))
        have HM : Hid (l[j] ∈ l) := Lib.hid (List.getElem_mem hlt)
        generalize l[j] = t at c0 c1 c2 ok HT HM
        obtain ⟨tk, ti, ts⟩ := t
        dsimp only at c0 c1 c2
        have KH := Lib.hid (rmay_any tk ti ts hb T.length wr ok.2.2 (LenM.below HLM.out HB.out))
        clear hall hbr hv ok
        by_cases hok : hasB T.length ⟨tk, ti, ts⟩ = true
        · rw [hok] at KH
          have HOK := Lib.hid hok
          clear hok
          have HT' := Lib.hid (HT.out HOK.out)
          clear HT
          go_wp2_with fail
          refine KH.out.mono ?_
          rintro e w1 ⟨rfl, hb1⟩
          have B1 := Lib.hid (HW.out.trans (hb1.mono HW.out.size))
          have d0 := (hb1.cell (p := ⟨b, o + j * 3, none⟩) (Nat.lt_of_lt_of_le hbl HB.out.size)).trans c0
          clear hb1
          go_wp2
          go_roundw
          case rel => exact ⟨j + 1, by omega, by go_num, HT'.out, B1.out⟩
          case measure => simp [intOf]; omega
        · have hf : hasB T.length ⟨tk, ti, ts⟩ = false := by simpa using hok
          rw [hf] at KH
          have HQ1 : Hid (q = (⟨0, 0, ⟨#[]⟩⟩, 1, T)) := Lib.hid (by rw [HQ.out, madeT_no (by
            rw [madeB, show l.all (hasB T.length) = false from by
              cases hr : l.all (hasB T.length)
              · rfl
              · exact absurd (List.all_eq_true.1 hr _ HM.out) hok]
            simp)])
          clear hok hf HT
          go_wp2_with fail
          refine KH.out.mono ?_
          rintro e w1 ⟨rfl, hb1⟩
          have B1 := Lib.hid (HB.out.trans (hb1.mono HB.out.size))
          have Z1 := Lib.hid ((hb1.block w.heap.size (by omega)).trans ZR.out)
          obtain ⟨⟨y0, y1, y2⟩, f0, f1, f2⟩ := look3 Z1.out
          clear hb1
          go_wp2
          exact bodyPost_ret (res_ve (t := 7) (p := 6) rfl _ _ w.heap.size _ _ _ rfl (put3 Z1.out _ _ _)) rfl (by rw [HQ1.out]; exact DoR.of HH.out rfl (put3_below B1.out (Nat.le_refl _) _ _ _))
      · have HQ1 : Hid (q = (⟨8, T.length, ⟨#[]⟩⟩, 0, T ++ [(1, l)])) := Lib.hid (by
          have hall2 : l.all (hasB T.length) = true := List.all_eq_true.2 (fun t ht => by
            obtain ⟨q, hq, rfl⟩ := List.mem_iff_getElem.1 ht
            exact (HA.out q hq (by omega)))
          rw [HQ.out, madeT, madeB, HMB.out, hall2]
          rfl)
        have KA := Lib.hid (radd_any 1 l _ S hb T F wr (HH.out.below HB.out) (fun b hf => by have := HF.out b hf; omega) ⟨by decide, by decide⟩ (HP.out.belowP HB.out) (by omega) hT)
        clear hall hbr
        go_wp2_with fail
        refine KA.out.mono ?_
        rintro e w4 hA
        obtain ⟨he, F', q1, q2, q3, q4⟩ := hA.use (show w.heap.size < wr.heap.size by omega) (fun hf => by have := HF.out _ hf; omega)
        dsimp only at he
        subst he
        have HQ2 := Lib.hid (putR_res q1 ((Stp.of_below HB.out).trans q2) q3 (Nat.le_refl _) (.int .i64 8) (.int .i64 T.length) (.string ⟨#[]⟩))
        have HR5 := Lib.hid (q4.trans ZR.out)
        obtain ⟨⟨y0, y1, y2⟩, f0, f1, f2⟩ := look3 HR5.out
        clear hA q1 q2 q3 q4
        go_wp2
        exact bodyPost_ret (res_ve (t := 7) (p := 6) rfl _ _ w.heap.size _ _ _ rfl (put3 HR5.out _ _ _)) rfl (by rw [HQ1.out]; exact ⟨rfl, F', HQ2.out.1, HQ2.out.2⟩)
  · have HMB : Hid (mayB 4 l.length = true) := Lib.hid (by simp [mayB])

    go_enter Tryd.func9, Tryd.ntmps9
    go_upto_region 1 with fail
    generalize w.alloc (.cells #[.int .i64 0, .int .i64 0, .string ⟨#[]⟩] 36) = w0 at *
    go_wp2
    go_loopw [9] (fun x wr => ∃ j : Nat, j ≤ l.length ∧ x = .int .i64 j ∧ (∀ (q : Nat) (hq : q < l.length), q < j → hasB T.length l[q] = true) ∧ Below w0.heap.size w0 wr) (fun x _ => l.length - (intOf x).toNat)
    case atStart => exact ⟨0, Nat.zero_le _, rfl, fun q _ h => by omega, Below.refl _ _⟩
    case round =>
      obtain ⟨j, hj, rfl, hall, hbr⟩ := hrel
      have HA := Lib.hid hall
      have HB := Lib.hid (B0.out.trans (hbr.mono B0.out.size))
      have HW := Lib.hid hbr
      have ZR := Lib.hid ((hbr.block w.heap.size (by omega)).trans Z0.out)
      have hsr : w.heap.size + 1 ≤ wr.heap.size := by have := hbr.size; omega
      by_cases hlt : j < l.length
      · obtain ⟨b, o, c', e, hs, hbl, hv⟩ := HP.out.cells (by rintro rfl; cases hlt)
        cases e
        obtain ⟨c0, c1, c2, ok⟩ := hv.item j hlt
        replace c0 := (HB.out.cell (p := ⟨b, o + j * 3, none⟩) hbl).trans c0
        replace c1 := (HB.out.cell (p := ⟨b, o + j * 3 + 1, none⟩) hbl).trans c1
        replace c2 := (HB.out.cell (p := ⟨b, o + j * 3 + 2, none⟩) hbl).trans c2
        have HT : Hid (hasB T.length l[j] = true → ∀ (q : Nat) (hq : q < l.length), q < j + 1 → hasB T.length l[q] = true) := Lib.hid (fun hk q hq hqj => by
          by_cases e : q = j
          · subst e; exact hk
          · exact HA.out q hq (by omega))
        have HM : Hid (l[j] ∈ l) := Lib.hid (List.getElem_mem hlt)
        generalize l[j] = t at c0 c1 c2 ok HT HM
        obtain ⟨tk, ti, ts⟩ := t
        dsimp only at c0 c1 c2
        have KH := Lib.hid (rmay_any tk ti ts hb T.length wr ok.2.2 (LenM.below HLM.out HB.out))
        clear hall hbr hv ok
        by_cases hok : hasB T.length ⟨tk, ti, ts⟩ = true
        · rw [hok] at KH
          have HOK := Lib.hid hok
          clear hok
          have HT' := Lib.hid (HT.out HOK.out)
          clear HT
          go_wp2_with fail
          refine KH.out.mono ?_
          rintro e w1 ⟨rfl, hb1⟩
          have B1 := Lib.hid (HW.out.trans (hb1.mono HW.out.size))
          have d0 := (hb1.cell (p := ⟨b, o + j * 3, none⟩) (Nat.lt_of_lt_of_le hbl HB.out.size)).trans c0
          clear hb1
          go_wp2
          go_roundw
          case rel => exact ⟨j + 1, by omega, by go_num, HT'.out, B1.out⟩
          case measure => simp [intOf]; omega
        · have hf : hasB T.length ⟨tk, ti, ts⟩ = false := by simpa using hok
          rw [hf] at KH
          have HQ1 : Hid (q = (⟨0, 0, ⟨#[]⟩⟩, 1, T)) := Lib.hid (by rw [HQ.out, madeT_no (by
            rw [madeB, show l.all (hasB T.length) = false from by
              cases hr : l.all (hasB T.length)
              · rfl
              · exact absurd (List.all_eq_true.1 hr _ HM.out) hok]
            simp)])
          clear hok hf HT
          go_wp2_with fail
          refine KH.out.mono ?_
          rintro e w1 ⟨rfl, hb1⟩
          have B1 := Lib.hid (HB.out.trans (hb1.mono HB.out.size))
          have Z1 := Lib.hid ((hb1.block w.heap.size (by omega)).trans ZR.out)
          obtain ⟨⟨y0, y1, y2⟩, f0, f1, f2⟩ := look3 Z1.out
          clear hb1
          go_wp2
          exact bodyPost_ret (res_ve (t := 7) (p := 6) rfl _ _ w.heap.size _ _ _ rfl (put3 Z1.out _ _ _)) rfl (by rw [HQ1.out]; exact DoR.of HH.out rfl (put3_below B1.out (Nat.le_refl _) _ _ _))
      · have HQ1 : Hid (q = (⟨8, T.length, ⟨#[]⟩⟩, 0, T ++ [(4, l)])) := Lib.hid (by
          have hall2 : l.all (hasB T.length) = true := List.all_eq_true.2 (fun t ht => by
            obtain ⟨q, hq, rfl⟩ := List.mem_iff_getElem.1 ht
            exact (HA.out q hq (by omega)))
          rw [HQ.out, madeT, madeB, HMB.out, hall2]
          rfl)
        have KA := Lib.hid (radd_any 4 l _ S hb T F wr (HH.out.below HB.out) (fun b hf => by have := HF.out b hf; omega) ⟨by decide, by decide⟩ (HP.out.belowP HB.out) (by omega) hT)
        clear hall hbr
        go_wp2_with fail
        refine KA.out.mono ?_
        rintro e w4 hA
        obtain ⟨he, F', q1, q2, q3, q4⟩ := hA.use (show w.heap.size < wr.heap.size by omega) (fun hf => by have := HF.out _ hf; omega)
        dsimp only at he
        subst he
        have HQ2 := Lib.hid (putR_res q1 ((Stp.of_below HB.out).trans q2) q3 (Nat.le_refl _) (.int .i64 8) (.int .i64 T.length) (.string ⟨#[]⟩))
        have HR5 := Lib.hid (q4.trans ZR.out)
        obtain ⟨⟨y0, y1, y2⟩, f0, f1, f2⟩ := look3 HR5.out
        clear hA q1 q2 q3 q4
        go_wp2
        exact bodyPost_ret (res_ve (t := 7) (p := 6) rfl _ _ w.heap.size _ _ _ rfl (put3 HR5.out _ _ _)) rfl (by rw [HQ1.out]; exact ⟨rfl, F', HQ2.out.1, HQ2.out.2⟩)
  · have HMB : Hid (mayB 2 l.length = true) := Lib.hid (by simp [mayB, hl])

    go_enter Tryd.func9, Tryd.ntmps9
    go_upto_region 1 with fail
    generalize w.alloc (.cells #[.int .i64 0, .int .i64 0, .string ⟨#[]⟩] 36) = w0 at *
    go_wp2
    go_loopw [9] (fun x wr => ∃ j : Nat, j ≤ l.length ∧ x = .int .i64 j ∧ (∀ (q : Nat) (hq : q < l.length), q < j → hasB T.length l[q] = true ∧ (l[q]).k = 2) ∧ Below w0.heap.size w0 wr) (fun x _ => l.length - (intOf x).toNat)
    case atStart => exact ⟨0, Nat.zero_le _, rfl, fun q _ h => by omega, Below.refl _ _⟩
    case round =>
      obtain ⟨j, hj, rfl, hall, hbr⟩ := hrel
      have HA := Lib.hid hall
      have HB := Lib.hid (B0.out.trans (hbr.mono B0.out.size))
      have HW := Lib.hid hbr
      have ZR := Lib.hid ((hbr.block w.heap.size (by omega)).trans Z0.out)
      have hsr : w.heap.size + 1 ≤ wr.heap.size := by have := hbr.size; omega
      by_cases hlt : j < l.length
      · obtain ⟨b, o, c', e, hs, hbl, hv⟩ := HP.out.cells (by rintro rfl; cases hlt)
        cases e
        obtain ⟨c0, c1, c2, ok⟩ := hv.item j hlt
        replace c0 := (HB.out.cell (p := ⟨b, o + j * 3, none⟩) hbl).trans c0
        replace c1 := (HB.out.cell (p := ⟨b, o + j * 3 + 1, none⟩) hbl).trans c1
        replace c2 := (HB.out.cell (p := ⟨b, o + j * 3 + 2, none⟩) hbl).trans c2
        have HT : Hid (hasB T.length l[j] = true ∧ (l[j]).k = 2 → ∀ (q : Nat) (hq : q < l.length), q < j + 1 → hasB T.length l[q] = true ∧ (l[q]).k = 2) := Lib.hid (fun hk q hq hqj => by
          by_cases e : q = j
          · subst e; exact hk
          · exact HA.out q hq (by omega))
        have HM : Hid (l[j] ∈ l) := Lib.hid (List.getElem_mem hlt)
        generalize l[j] = t at c0 c1 c2 ok HT HM
        obtain ⟨tk, ti, ts⟩ := t
        dsimp only at c0 c1 c2
        have KH := Lib.hid (rmay_any tk ti ts hb T.length wr ok.2.2 (LenM.below HLM.out HB.out))
        clear hall hbr hv ok
        by_cases hok : hasB T.length ⟨tk, ti, ts⟩ = true
        · rw [hok] at KH
          have HOK := Lib.hid hok
          clear hok
          by_cases hch : tk = 2
          · have k2 : (tk != 2) = false := by simp [hch]
            have HT' := Lib.hid (HT.out ⟨HOK.out, hch⟩)
            clear HT hch
            go_wp2_with fail
            refine KH.out.mono ?_
            rintro e w1 ⟨rfl, hb1⟩
            have B1 := Lib.hid (HW.out.trans (hb1.mono HW.out.size))
            have d0 := (hb1.cell (p := ⟨b, o + j * 3, none⟩) (Nat.lt_of_lt_of_le hbl HB.out.size)).trans c0
            clear hb1
            go_wp2
            go_roundw
            case rel => exact ⟨j + 1, by omega, by go_num, HT'.out, B1.out⟩
            case measure => simp [intOf]; omega
          · have k2 : (tk != 2) = true := by simp [hch]
            have HQ1 : Hid (q = (⟨0, 0, ⟨#[]⟩⟩, 1, T)) := Lib.hid (by rw [HQ.out, madeT_no (by
              rw [madeB, show charsB l = false from by
                cases hr : charsB l
                · rfl
                · exact absurd (chars_iff.1 hr _ HM.out) hch]
              simp)])
            clear HT hch
            go_wp2_with fail
            refine KH.out.mono ?_
            rintro e w1 ⟨rfl, hb1⟩
            have B1 := Lib.hid (HW.out.trans (hb1.mono HW.out.size))
            have d0 := (hb1.cell (p := ⟨b, o + j * 3, none⟩) (Nat.lt_of_lt_of_le hbl HB.out.size)).trans c0
            have Z1 := Lib.hid ((hb1.block w.heap.size (by omega)).trans ZR.out)
            have B2 := Lib.hid (HB.out.trans (hb1.mono HB.out.size))
            obtain ⟨⟨y0, y1, y2⟩, f0, f1, f2⟩ := look3 Z1.out
            clear hb1
            go_wp2
            exact bodyPost_ret (res_ve (t := 7) (p := 6) rfl _ _ w.heap.size _ _ _ rfl (put3 Z1.out _ _ _)) rfl (by rw [HQ1.out]; exact DoR.of HH.out rfl (put3_below B2.out (Nat.le_refl _) _ _ _))
        · have hf : hasB T.length ⟨tk, ti, ts⟩ = false := by simpa using hok
          rw [hf] at KH
          have HQ1 : Hid (q = (⟨0, 0, ⟨#[]⟩⟩, 1, T)) := Lib.hid (by rw [HQ.out, madeT_no (by
            rw [madeB, show l.all (hasB T.length) = false from by
              cases hr : l.all (hasB T.length)
              · rfl
              · exact absurd (List.all_eq_true.1 hr _ HM.out) hok]
            simp)])
          clear hok hf HT
          go_wp2_with fail
          refine KH.out.mono ?_
          rintro e w1 ⟨rfl, hb1⟩
          have B1 := Lib.hid (HB.out.trans (hb1.mono HB.out.size))
          have Z1 := Lib.hid ((hb1.block w.heap.size (by omega)).trans ZR.out)
          obtain ⟨⟨y0, y1, y2⟩, f0, f1, f2⟩ := look3 Z1.out
          clear hb1
          go_wp2
          exact bodyPost_ret (res_ve (t := 7) (p := 6) rfl _ _ w.heap.size _ _ _ rfl (put3 Z1.out _ _ _)) rfl (by rw [HQ1.out]; exact DoR.of HH.out rfl (put3_below B1.out (Nat.le_refl _) _ _ _))
      · have HQ1 : Hid (q = (⟨8, T.length, ⟨#[]⟩⟩, 0, T ++ [(2, l)])) := Lib.hid (by
          have hall2 : l.all (hasB T.length) = true := List.all_eq_true.2 (fun t ht => by
            obtain ⟨q, hq, rfl⟩ := List.mem_iff_getElem.1 ht
            exact (HA.out q hq (by omega)).1)
          have hch : charsB l = true := chars_iff.2 (fun t ht => by
            obtain ⟨q, hq, rfl⟩ := List.mem_iff_getElem.1 ht
            exact (HA.out q hq (by omega)).2)
          rw [HQ.out, madeT, madeB, HMB.out, hall2, hch]
          rfl)
        have KA := Lib.hid (radd_any 2 l _ S hb T F wr (HH.out.below HB.out) (fun b hf => by have := HF.out b hf; omega) ⟨by decide, by decide⟩ (HP.out.belowP HB.out) (by omega) hT)
        clear hall hbr
        go_wp2_with fail
        refine KA.out.mono ?_
        rintro e w4 hA
        obtain ⟨he, F', q1, q2, q3, q4⟩ := hA.use (show w.heap.size < wr.heap.size by omega) (fun hf => by have := HF.out _ hf; omega)
        dsimp only at he
        subst he
        have HQ2 := Lib.hid (putR_res q1 ((Stp.of_below HB.out).trans q2) q3 (Nat.le_refl _) (.int .i64 8) (.int .i64 T.length) (.string ⟨#[]⟩))
        have HR5 := Lib.hid (q4.trans ZR.out)
        obtain ⟨⟨y0, y1, y2⟩, f0, f1, f2⟩ := look3 HR5.out
        clear hA q1 q2 q3 q4
        go_wp2
        exact bodyPost_ret (res_ve (t := 7) (p := 6) rfl _ _ w.heap.size _ _ _ rfl (put3 HR5.out _ _ _)) rfl (by rw [HQ1.out]; exact ⟨rfl, F', HQ2.out.1, HQ2.out.2⟩)
end Go.Proofs.YtpejhilfopjckaaDoor.Hp
