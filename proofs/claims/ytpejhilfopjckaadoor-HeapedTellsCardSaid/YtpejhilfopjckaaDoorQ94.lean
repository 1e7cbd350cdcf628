/-
The law HeapedTells: behind any calls both heaps tell one and the same of any value. Where the table of what is reckoned is as the program lays it.
-/
import Derived.Test.YtpejhilfopjckaaDoorQGq
import Derived.Test.YtpejhilfopjckaaDoorQ93
namespace Go.Proofs.YtpejhilfopjckaaDoor.Hp
open Go.ChangeShapes Go.WideShapes Go.ChangeAt Go.RowKit Go.Deep
open Dat (PT ok64 RepV RepS RowX infoDatum)
set_option maxRecDepth 100000

/-- How things stand where the law's loop begins a round. -/
def RndT (w : World) (hb mb n j : Nat) (p : Value) (W : World) : Prop :=
  ∃ (told : List PV) (T : List (Int × List PV)) (F G : Nat → Prop), j ≤ n ∧ j ≤ 60 ∧ DSt w hb mb T T F G W ∧ Told F G w.heap.size told p W ∧ told.length ≤ j + 1 ∧ T.length ≤ j ∧ (∀ t ∈ T, t.2.length ≤ 1000) ∧ WfT T
set_option maxHeartbeats 8000000 in
theorem tells_walk (ops : List POp) (v : Value) (k0 i0' : Int) (s0 : ByteArray) (w : World) (hO : InO w ops v) (hR : RecOk w) (hv : okV ⟨k0, i0', s0⟩) :
    Calls Tryd.prog 4 #[v, .agg #[.int .i64 k0, .int .i64 i0', .string s0]] w fun e w' => e = .returned (.bool true) ∧ Below w.heap.size w w' := by
  obtain ⟨i0, hi, hz0, hz1, hz2⟩ := info_parts infoVal
  have HO := Lib.hid hO
  have HR := Lib.hid hR
  have HV := Lib.hid hv
  obtain ⟨a, c, rfl, h1, h2, -⟩ := hO
  unfold maxLen at h2
  have ZV := Lib.hid (heap_alloc_new w (.cells #[.int .i64 k0, .int .i64 i0', .string s0] 36))
  have BV := Lib.hid (al w (.cells #[.int .i64 k0, .int .i64 i0', .string s0] 36))
  have SV := size_new w (.cells #[.int .i64 k0, .int .i64 i0', .string s0] 36)
  have HSV := Lib.hid SV
  clear hR hv SV
  go_enter Tryd.func4, Tryd.ntmps4
  go_wp2_with fail
  generalize w.alloc (.cells #[.int .i64 k0, .int .i64 i0', .string s0] 36) = w0 at *
  refine (new_any w0).mono ?_
  rintro e w1 ⟨rfl, hm1, hb1, hlt1⟩
  have hsv : w.heap.size < w0.heap.size := by have := HSV.out; omega
  generalize w0.heap.size = hb at *
  have D2 : DSt w hb w1.heap.size [] [] (· = hb) (· = w1.heap.size) (w1.alloc (.cells #[.slice none 0 0] 28)) :=
    ⟨hm1.below (al w1 _), heapR_new w1, fun b e => by subst e; exact ⟨by omega, by rw [size_new]; omega⟩, fun b e => by subst e; exact ⟨by omega, by rw [size_new]; omega⟩, fun b e e' => by omega, (BV.out.trans (hb1.mono (by omega))).trans ((al w1 _).mono (by omega))⟩
  have HD2 := Lib.hid D2
  have OV2 : Hid (Own (· = hb) (· = w1.heap.size) w.heap.size (.cells #[.int .i64 k0, .int .i64 i0', .string s0] 36 (0, 0)) (w1.alloc (.cells #[.slice none 0 0] 28))) :=
    Lib.hid ⟨blk_skip' ((hb1.block w.heap.size (by omega)).trans ZV.out), ⟨by omega, by omega⟩⟩
  clear D2 hm1 hb1
  go_upto_region 2 with fail
  generalize w1.alloc (.cells #[.slice none 0 0] 28) = w2 at *
  generalize w1.heap.size = mb at *
  have KF := Lib.hid (fixed_any w2 (HR.out.at HD2.out.b))
  go_wp2_with fail
  refine KF.out.mono ?_
  rintro e w3 ⟨rfl, hb3⟩
  have D3 := HD2.out.below hb3
  have O3 := OV2.out.kept (Kept.of_below hb3)
  have D4 := D3.below (al w3 (.cells #[.int .i64 k0, .int .i64 i0', .string s0] 36))
  have R0 : RndT w hb mb ops.length 0 (.slice (some ⟨w3.heap.size, 0, none⟩) 1 1) (w3.alloc (.cells #[.int .i64 k0, .int .i64 i0', .string s0] 36)) :=
    ⟨[⟨k0, i0', s0⟩], [], _, _, Nat.zero_le _, Nat.zero_le _, D4, ⟨⟨rfl, .inr ⟨w3.heap.size, 1, #[.int .i64 k0, .int .i64 i0', .string s0], rfl, D3.b.size, heap_alloc_new w3 _, Nat.le_refl _, by decide, rfl, rfl⟩⟩, fun u hu => (by rw [List.mem_singleton.1 hu]; exact HV.out), fun b e => (by cases e; exact D3.apart (Nat.le_refl _))⟩, Nat.le_refl _, Nat.le_refl _, fun t ht => (by cases ht), fun t ht => (by cases ht)⟩
  have HR0 := Lib.hid R0
  obtain ⟨⟨x0, x1, x2⟩, -⟩ := look3 O3.1
  clear R0 D3 D4 hb3 KF HD2 hlt1 OV2 O3 hsv
  go_upto_region 5 with fail
  generalize w3.alloc (.cells #[.int .i64 k0, .int .i64 i0', .string s0] 36) = w4 at *
  generalize Value.slice (some ⟨w3.heap.size, 0, none⟩) 1 1 = p0 at *
  clear x0 x1 x2
  go_wp2
  go_loopw [7, 8] (fun p x wr => ∃ (j : Nat) (pv : Value), pv = p ∧ x = .int .i64 j ∧ RndT w hb mb ops.length j pv wr) (fun _ x _ => 60 - (intOf x).toNat)
  case atStart => exact ⟨0, _, rfl, rfl, HR0.out⟩
  case round =>
    obtain ⟨j, pv, rfl, rfl, told, T, F, G, hj, hj60, hD, hT, htl, hTl, hTs, hWf⟩ := hrel
    have HTS := Lib.hid hTs
    have HWF := Lib.hid hWf
    clear hTs hWf
    clear HR0
    have HD := Lib.hid hD
    have HT := Lib.hid hT
    clear hD hT
    by_cases hlt : j < ops.length
    · have d1 : (j : Int) < (ops.length : Int) := by omega
      by_cases h60 : j < 60
      · have d2 : (j : Int) < 60 := by omega
        obtain ⟨_, _, e0, _, _, hrow⟩ := HO.out
        cases e0
        obtain ⟨b, o, vv, av, e1, hbl, ⟨q0, q1, q2, q3⟩, hvals, hago, hvl⟩ := hrow j hlt
        subst e1
        generalize ops[j] = op at q0 q1 hvals hago hvl
        obtain ⟨prim, kind, vals, ago⟩ := op
        dsimp only at q0 q1 hvals hago hvl
        have HQW := Lib.hid q0
        have HKW := Lib.hid q1
        have mvc : ∀ q, _ := fun q => HD.out.b.cell (p := ⟨b, q, none⟩) hbl
        replace q0 := (mvc _).trans q0
        replace q1 := (mvc _).trans q1
        replace q2 := (mvc _).trans q2
        replace q3 := (mvc _).trans q3
        obtain ⟨S0, hin⟩ := HT.out.inP
        have KF := Lib.hid (lfilled_any prim kind vals told ago vv av _ (· < w.heap.size) S0 wr (hvals.belowP HD.out.b) hin (hago.below HD.out.b) hvl)
        clear hrow mvc hvals hago hin
        go_wp2_with fail
        refine KF.out.mono ?_
        rintro e w5 ⟨⟨l, g, va, hll, rfl, hp, hg⟩, hb5⟩
        have HD5 := Lib.hid (HD.out.below hb5)
        have HT5 := Lib.hid (HT.out.kept (Kept.of_below hb5))
        have HA5 : Hid (ArgsA F G w5.heap.size l va w5) := Lib.hid (args_of (F := F) (G := G) hp hg (fun b hb => HD.out.apart hb))
        obtain ⟨ra, rc, rfl, hrl, hrm⟩ := hp.slice
        unfold maxLen at hrm
        clear hp hg hb5 q0 q1 q2 q3 KF HD HT hll hvl
        by_cases h40 : 40 < l.length
        · have d3 : (40 : Int) < (l.length : Int) := by omega
          have HA6 : Hid (ArgsA F G w5.heap.size (l.take 40) (.slice ra 40 rc) w5) := Lib.hid (InP.take HA5.out (by omega))
          have hl6 : (l.take 40).length ≤ 1000 := by rw [List.length_take]; omega
          clear HA5
          go_upto_region 11 with fail
          generalize Value.slice ra 40 rc = va at *
          generalize l.take 40 = la at *
          clear d3 h40 hrl hrm
          go_upto_region 13 with fail
          have zB := heap_alloc_new w5 (.cells #[.int .i64 0, .int .i64 0, .string ⟨#[]⟩] 36)
          have B7 := al w5 (.cells #[.int .i64 0, .int .i64 0, .string ⟨#[]⟩] 36)
          have HD7 := Lib.hid (HD5.out.below B7)
          have HT7 := Lib.hid (HT5.out.kept (Kept.of_below B7))
          have HTB := Lib.hid (fun b hb => (HT5.out.1.lt b hb).2)
          have HA7 := Lib.hid (HA6.out.kept (Nat.le_refl _) (Kept.of_below B7))
          have OB7 : Hid (Own F G w5.heap.size (.cells #[.int .i64 0, .int .i64 0, .string ⟨#[]⟩] 36 (0, 0)) _) := Lib.hid ⟨zB, HD5.out.apart (Nat.le_refl _)⟩
          have hAw : w.heap.size ≤ w5.heap.size := HD5.out.b.size
          have hA7 := Lib.hid (lt_of_block zB)
          clear zB B7 HD5 HT5 HA6
          generalize w5.alloc (.cells #[.int .i64 0, .int .i64 0, .string ⟨#[]⟩] 36) = w7 at *
          generalize w5.heap.size = A at *
          have q0 := (HD7.out.b.cell (p := ⟨b, o + j * 4, none⟩) hbl).trans HQW.out
          have q1 := (HD7.out.b.cell (p := ⟨b, o + j * 4 + 1, none⟩) hbl).trans HKW.out
          have hT5 : T.length ≤ 100000 := by omega
          by_cases hpr : prim.toList = []
          · have e0 : (prim.toList == []) = true := by rw [hpr]; rfl
            obtain ⟨q, hq⟩ : ∃ q, q = madeT T kind la := ⟨_, rfl⟩
            have K1 := mk_any kind la va _ hb T F w7 HD7.out.h (fun b hf => (HD7.out.f b hf).2) HA7.out hl6 hT5
            have K2 := fun W F' (hD : DSt w hb mb q.2.2 T F' G W) (hA : ArgsA F' G A la va W) => rmk_any kind la va _ mb T G W hD.m (fun b hf => (hD.g b hf).2) hA hl6 hT5
            have K3 := (okres_made : OkRes la T (madeT T kind la)) (okV_all HA7.out) hl6 (HD7.out.m.parts_ok HTS.out) hT5
            have K4 := (wfr_made hl6 : WfR T (madeT T kind la)) HWF.out
            rw [← hq] at K1 K2 K3 K4
            obtain ⟨⟨uk, ui, us⟩, err, T'⟩ := q
            dsimp only at K1 K2 K3 K4
            have KC := Lib.hid K1
            have KD := Lib.hid K2
            have HOKR := Lib.hid K3
            have HWF2 : Hid (WfT T') := Lib.hid K4
            clear K1 K2 K3 K4 hq hpr
            go_wp2_with fail
            refine KC.out.mono ?_
            rintro e w8 hd
            obtain ⟨rfl, F8, d8, k8⟩ := HD7.out.useH hd
            have HD8 := Lib.hid d8
            have HT8 := Lib.hid (HT7.out.kept k8)
            have HA8 := Lib.hid (HA7.out.kept (by have := hA7.out; omega) k8)
            have OB8 := Lib.hid (OB7.out.kept k8)
            clear d8 k8 hd q0 q1 HD7 HT7 HA7 OB7 hA7 KC
            unfold VE
            go_upto_region 15 with fail
            have q0 := (HD8.out.b.cell (p := ⟨b, o + j * 4, none⟩) hbl).trans HQW.out
            have q1 := (HD8.out.b.cell (p := ⟨b, o + j * 4 + 1, none⟩) hbl).trans HKW.out
            go_wp2_with fail
            refine (KD.out _ _ HD8.out HA8.out).mono ?_
            rintro e w10 hd
            obtain ⟨rfl, G10, d10, k10⟩ := HD8.out.useM hd
            have ob10 := OB8.out.kept k10
            have HD11 := Lib.hid (d10.put ob10.2 (by omega) (.int .i64 uk) (.int .i64 ui) (.string us))
            have HT11 := Lib.hid ((HT8.out.kept k10).put HTB.out (Nat.le_refl A) (.int .i64 uk) (.int .i64 ui) (.string us))
            have OB11 := Lib.hid (ob10.put_same (.int .i64 uk) (.int .i64 ui) (.string us))
            obtain ⟨⟨a0, a1, a2⟩, fa0, fa1, fa2⟩ := look3 ob10.1
            clear d10 k10 ob10 hd q0 q1 HD8 HT8 HA8 OB8 KD
            unfold VE
            go_upto_region 18 with fail
            generalize ((w10.setCell ⟨A, 0, none⟩ (.int .i64 uk)).setCell ⟨A, 1, none⟩ (.int .i64 ui)).setCell ⟨A, 2, none⟩ (.string us) = w12 at *
            clear a0 a1 a2 fa0 fa1 fa2
            by_cases he : err = 0
            · subst he
              obtain ⟨⟨a0, a1, a2⟩, -⟩ := look3 OB11.out.1
              have HAL := Lib.hid (HD11.out.below (al w12 (.cells #[.int .i64 uk, .int .i64 ui, .string us] 36)))
              have HTA := Lib.hid (HT11.out.kept (Kept.of_below (al w12 (.cells #[.int .i64 uk, .int .i64 ui, .string us] 36))))
              have hsz := HAL.out.b.size
              have htl6 : told.length + 1 ≤ 1000 := by omega
              go_wp2_with (at_builtin; refine wpList_append_own_at _ rfl _ _ 30 rfl w.heap.size 36 i0 _ 3 32 Tryd.underlying30 hi hz0 hz1 hz2 rfl (by decide) _ told.length _ rfl HTA.out.1 ⟨w12.heap.size, 0, none⟩ 1 1 [.int .i64 uk, .int .i64 ui, .string us] rfl rfl (World.news_of_block (heap_alloc_new w12 _)) (by intro u hu; simp only [List.mem_cons, List.not_mem_nil, or_false] at hu; rcases hu with rfl | rfl | rfl <;> rfl) (by unfold maxLen; omega) (by omega) hsz ?_; intro v' w13 ho13 hg13 _ hv13)
              have HD13 := Lib.hid (HAL.out.grown hg13 (fun b e => ⟨(HTA.out.1.lt b e).1, HTA.out.2.2 b e⟩))
              have HT13 := Lib.hid (HTA.out.snoc (u := ⟨uk, ui, us⟩) ho13 HOKR.out.1 (fun b e => by
                rcases hv13 with e1 | e1
                · exact .inl (e1 ▸ e)
                · rw [e1] at e
                  cases e
                  exact .inr (HAL.out.apart (Nat.le_refl _))))
              clear ho13 hg13 hv13 HAL HTA a0 a1 a2
              exact ⟨⟨j + 1, _, rfl, by go_num, told ++ [⟨uk, ui, us⟩], T', F8, G10, by omega, by omega, HD13.out, HT13.out, by rw [List.length_append]; exact Nat.succ_le_succ htl, by have := HOKR.out.2.1; omega, HOKR.out.2.2, HWF2.out⟩, by simp [intOf]; omega⟩
            · have e4 : (err == 0) = false := by simpa using he
              go_wp2
              go_roundw
              case rel => exact ⟨j + 1, _, rfl, by go_num, told, T', F8, G10, by omega, by omega, HD11.out, HT11.out, by omega, by have := HOKR.out.2.1; omega, HOKR.out.2.2, HWF2.out⟩
              case measure => simp [intOf]; omega
          · have e0 : (prim.toList == []) = false := by simpa using hpr
            obtain ⟨q, K1', K2', K3', K4'⟩ := both_do prim la hT5
            have K1 := K1' va _ hb F w7 (HR.out.at HD7.out.b) HD7.out.h (fun b hf => (HD7.out.f b hf).2) HA7.out
            have K2 := fun W F' (hD : DSt w hb mb q.2.2 T F' G W) (hA : ArgsA F' G A la va W) => K2' va _ mb G W hD.m (fun b hf => (hD.g b hf).2) hA
            have K3 := K3' (okV_all HA7.out) hl6 (HD7.out.m.parts_ok HTS.out) hT5
            have K4 := K4' HWF.out
            obtain ⟨⟨uk, ui, us⟩, err, T'⟩ := q
            dsimp only at K1 K2 K3 K4
            have KC := Lib.hid K1
            have KD := Lib.hid K2
            have HOKR := Lib.hid K3
            have HWF2 : Hid (WfT T') := Lib.hid K4
            clear K1 K2 K3 K4 K1' K2' K3' K4' hpr
            go_wp2_with fail
            refine KC.out.mono ?_
            rintro e w8 hd
            obtain ⟨rfl, F8, d8, k8⟩ := HD7.out.useH hd
            have HD8 := Lib.hid d8
            have HT8 := Lib.hid (HT7.out.kept k8)
            have HA8 := Lib.hid (HA7.out.kept (by have := hA7.out; omega) k8)
            have OB8 := Lib.hid (OB7.out.kept k8)
            clear d8 k8 hd q0 q1 HD7 HT7 HA7 OB7 hA7 KC
            unfold VE
            go_upto_region 17 with fail
            have q0 := (HD8.out.b.cell (p := ⟨b, o + j * 4, none⟩) hbl).trans HQW.out
            have q1 := (HD8.out.b.cell (p := ⟨b, o + j * 4 + 1, none⟩) hbl).trans HKW.out
            go_wp2_with fail
            refine (KD.out _ _ HD8.out HA8.out).mono ?_
            rintro e w10 hd
            obtain ⟨rfl, G10, d10, k10⟩ := HD8.out.useM hd
            have ob10 := OB8.out.kept k10
            have HD11 := Lib.hid (d10.put ob10.2 (by omega) (.int .i64 uk) (.int .i64 ui) (.string us))
            have HT11 := Lib.hid ((HT8.out.kept k10).put HTB.out (Nat.le_refl A) (.int .i64 uk) (.int .i64 ui) (.string us))
            have OB11 := Lib.hid (ob10.put_same (.int .i64 uk) (.int .i64 ui) (.string us))
            obtain ⟨⟨a0, a1, a2⟩, fa0, fa1, fa2⟩ := look3 ob10.1
            clear d10 k10 ob10 hd q0 q1 HD8 HT8 HA8 OB8 KD
            unfold VE
            go_upto_region 18 with fail
            generalize ((w10.setCell ⟨A, 0, none⟩ (.int .i64 uk)).setCell ⟨A, 1, none⟩ (.int .i64 ui)).setCell ⟨A, 2, none⟩ (.string us) = w12 at *
            clear a0 a1 a2 fa0 fa1 fa2
            by_cases he : err = 0
            · subst he
              obtain ⟨⟨a0, a1, a2⟩, -⟩ := look3 OB11.out.1
              have HAL := Lib.hid (HD11.out.below (al w12 (.cells #[.int .i64 uk, .int .i64 ui, .string us] 36)))
              have HTA := Lib.hid (HT11.out.kept (Kept.of_below (al w12 (.cells #[.int .i64 uk, .int .i64 ui, .string us] 36))))
              have hsz := HAL.out.b.size
              have htl6 : told.length + 1 ≤ 1000 := by omega
              go_wp2_with (at_builtin; refine wpList_append_own_at _ rfl _ _ 30 rfl w.heap.size 36 i0 _ 3 32 Tryd.underlying30 hi hz0 hz1 hz2 rfl (by decide) _ told.length _ rfl HTA.out.1 ⟨w12.heap.size, 0, none⟩ 1 1 [.int .i64 uk, .int .i64 ui, .string us] rfl rfl (World.news_of_block (heap_alloc_new w12 _)) (by intro u hu; simp only [List.mem_cons, List.not_mem_nil, or_false] at hu; rcases hu with rfl | rfl | rfl <;> rfl) (by unfold maxLen; omega) (by omega) hsz ?_; intro v' w13 ho13 hg13 _ hv13)
              have HD13 := Lib.hid (HAL.out.grown hg13 (fun b e => ⟨(HTA.out.1.lt b e).1, HTA.out.2.2 b e⟩))
              have HT13 := Lib.hid (HTA.out.snoc (u := ⟨uk, ui, us⟩) ho13 HOKR.out.1 (fun b e => by
                rcases hv13 with e1 | e1
                · exact .inl (e1 ▸ e)
                · rw [e1] at e
                  cases e
                  exact .inr (HAL.out.apart (Nat.le_refl _))))
              clear ho13 hg13 hv13 HAL HTA a0 a1 a2
              exact ⟨⟨j + 1, _, rfl, by go_num, told ++ [⟨uk, ui, us⟩], T', F8, G10, by omega, by omega, HD13.out, HT13.out, by rw [List.length_append]; exact Nat.succ_le_succ htl, by have := HOKR.out.2.1; omega, HOKR.out.2.2, HWF2.out⟩, by simp [intOf]; omega⟩
            · have e4 : (err == 0) = false := by simpa using he
              go_wp2
              go_roundw
              case rel => exact ⟨j + 1, _, rfl, by go_num, told, T', F8, G10, by omega, by omega, HD11.out, HT11.out, by omega, by have := HOKR.out.2.1; omega, HOKR.out.2.2, HWF2.out⟩
              case measure => simp [intOf]; omega
        · have d3 : ¬ (40 : Int) < (l.length : Int) := by omega
          have HA6 := HA5
          have hl6 : l.length ≤ 1000 := by omega
          clear HA5
          go_upto_region 11 with fail
          generalize Value.slice ra l.length rc = va at *
          generalize l = la at *
          clear d3 h40 hrl hrm
          go_upto_region 13 with fail
          have zB := heap_alloc_new w5 (.cells #[.int .i64 0, .int .i64 0, .string ⟨#[]⟩] 36)
          have B7 := al w5 (.cells #[.int .i64 0, .int .i64 0, .string ⟨#[]⟩] 36)
          have HD7 := Lib.hid (HD5.out.below B7)
          have HT7 := Lib.hid (HT5.out.kept (Kept.of_below B7))
          have HTB := Lib.hid (fun b hb => (HT5.out.1.lt b hb).2)
          have HA7 := Lib.hid (HA6.out.kept (Nat.le_refl _) (Kept.of_below B7))
          have OB7 : Hid (Own F G w5.heap.size (.cells #[.int .i64 0, .int .i64 0, .string ⟨#[]⟩] 36 (0, 0)) _) := Lib.hid ⟨zB, HD5.out.apart (Nat.le_refl _)⟩
          have hAw : w.heap.size ≤ w5.heap.size := HD5.out.b.size
          have hA7 := Lib.hid (lt_of_block zB)
          clear zB B7 HD5 HT5 HA6
          generalize w5.alloc (.cells #[.int .i64 0, .int .i64 0, .string ⟨#[]⟩] 36) = w7 at *
          generalize w5.heap.size = A at *
          have q0 := (HD7.out.b.cell (p := ⟨b, o + j * 4, none⟩) hbl).trans HQW.out
          have q1 := (HD7.out.b.cell (p := ⟨b, o + j * 4 + 1, none⟩) hbl).trans HKW.out
          have hT5 : T.length ≤ 100000 := by omega
          by_cases hpr : prim.toList = []
          · have e0 : (prim.toList == []) = true := by rw [hpr]; rfl
            obtain ⟨q, hq⟩ : ∃ q, q = madeT T kind la := ⟨_, rfl⟩
            have K1 := mk_any kind la va _ hb T F w7 HD7.out.h (fun b hf => (HD7.out.f b hf).2) HA7.out hl6 hT5
            have K2 := fun W F' (hD : DSt w hb mb q.2.2 T F' G W) (hA : ArgsA F' G A la va W) => rmk_any kind la va _ mb T G W hD.m (fun b hf => (hD.g b hf).2) hA hl6 hT5
            have K3 := (okres_made : OkRes la T (madeT T kind la)) (okV_all HA7.out) hl6 (HD7.out.m.parts_ok HTS.out) hT5
            have K4 := (wfr_made hl6 : WfR T (madeT T kind la)) HWF.out
            rw [← hq] at K1 K2 K3 K4
            obtain ⟨⟨uk, ui, us⟩, err, T'⟩ := q
            dsimp only at K1 K2 K3 K4
            have KC := Lib.hid K1
            have KD := Lib.hid K2
            have HOKR := Lib.hid K3
            have HWF2 : Hid (WfT T') := Lib.hid K4
            clear K1 K2 K3 K4 hq hpr
            go_wp2_with fail
            refine KC.out.mono ?_
            rintro e w8 hd
            obtain ⟨rfl, F8, d8, k8⟩ := HD7.out.useH hd
            have HD8 := Lib.hid d8
            have HT8 := Lib.hid (HT7.out.kept k8)
            have HA8 := Lib.hid (HA7.out.kept (by have := hA7.out; omega) k8)
            have OB8 := Lib.hid (OB7.out.kept k8)
            clear d8 k8 hd q0 q1 HD7 HT7 HA7 OB7 hA7 KC
            unfold VE
            go_upto_region 15 with fail
            have q0 := (HD8.out.b.cell (p := ⟨b, o + j * 4, none⟩) hbl).trans HQW.out
            have q1 := (HD8.out.b.cell (p := ⟨b, o + j * 4 + 1, none⟩) hbl).trans HKW.out
            go_wp2_with fail
            refine (KD.out _ _ HD8.out HA8.out).mono ?_
            rintro e w10 hd
            obtain ⟨rfl, G10, d10, k10⟩ := HD8.out.useM hd
            have ob10 := OB8.out.kept k10
            have HD11 := Lib.hid (d10.put ob10.2 (by omega) (.int .i64 uk) (.int .i64 ui) (.string us))
            have HT11 := Lib.hid ((HT8.out.kept k10).put HTB.out (Nat.le_refl A) (.int .i64 uk) (.int .i64 ui) (.string us))
            have OB11 := Lib.hid (ob10.put_same (.int .i64 uk) (.int .i64 ui) (.string us))
            obtain ⟨⟨a0, a1, a2⟩, fa0, fa1, fa2⟩ := look3 ob10.1
            clear d10 k10 ob10 hd q0 q1 HD8 HT8 HA8 OB8 KD
            unfold VE
            go_upto_region 18 with fail
            generalize ((w10.setCell ⟨A, 0, none⟩ (.int .i64 uk)).setCell ⟨A, 1, none⟩ (.int .i64 ui)).setCell ⟨A, 2, none⟩ (.string us) = w12 at *
            clear a0 a1 a2 fa0 fa1 fa2
            by_cases he : err = 0
            · subst he
              obtain ⟨⟨a0, a1, a2⟩, -⟩ := look3 OB11.out.1
              have HAL := Lib.hid (HD11.out.below (al w12 (.cells #[.int .i64 uk, .int .i64 ui, .string us] 36)))
              have HTA := Lib.hid (HT11.out.kept (Kept.of_below (al w12 (.cells #[.int .i64 uk, .int .i64 ui, .string us] 36))))
              have hsz := HAL.out.b.size
              have htl6 : told.length + 1 ≤ 1000 := by omega
              go_wp2_with (at_builtin; refine wpList_append_own_at _ rfl _ _ 30 rfl w.heap.size 36 i0 _ 3 32 Tryd.underlying30 hi hz0 hz1 hz2 rfl (by decide) _ told.length _ rfl HTA.out.1 ⟨w12.heap.size, 0, none⟩ 1 1 [.int .i64 uk, .int .i64 ui, .string us] rfl rfl (World.news_of_block (heap_alloc_new w12 _)) (by intro u hu; simp only [List.mem_cons, List.not_mem_nil, or_false] at hu; rcases hu with rfl | rfl | rfl <;> rfl) (by unfold maxLen; omega) (by omega) hsz ?_; intro v' w13 ho13 hg13 _ hv13)
              have HD13 := Lib.hid (HAL.out.grown hg13 (fun b e => ⟨(HTA.out.1.lt b e).1, HTA.out.2.2 b e⟩))
              have HT13 := Lib.hid (HTA.out.snoc (u := ⟨uk, ui, us⟩) ho13 HOKR.out.1 (fun b e => by
                rcases hv13 with e1 | e1
                · exact .inl (e1 ▸ e)
                · rw [e1] at e
                  cases e
                  exact .inr (HAL.out.apart (Nat.le_refl _))))
              clear ho13 hg13 hv13 HAL HTA a0 a1 a2
              exact ⟨⟨j + 1, _, rfl, by go_num, told ++ [⟨uk, ui, us⟩], T', F8, G10, by omega, by omega, HD13.out, HT13.out, by rw [List.length_append]; exact Nat.succ_le_succ htl, by have := HOKR.out.2.1; omega, HOKR.out.2.2, HWF2.out⟩, by simp [intOf]; omega⟩
            · have e4 : (err == 0) = false := by simpa using he
              go_wp2
              go_roundw
              case rel => exact ⟨j + 1, _, rfl, by go_num, told, T', F8, G10, by omega, by omega, HD11.out, HT11.out, by omega, by have := HOKR.out.2.1; omega, HOKR.out.2.2, HWF2.out⟩
              case measure => simp [intOf]; omega
          · have e0 : (prim.toList == []) = false := by simpa using hpr
            obtain ⟨q, K1', K2', K3', K4'⟩ := both_do prim la hT5
            have K1 := K1' va _ hb F w7 (HR.out.at HD7.out.b) HD7.out.h (fun b hf => (HD7.out.f b hf).2) HA7.out
            have K2 := fun W F' (hD : DSt w hb mb q.2.2 T F' G W) (hA : ArgsA F' G A la va W) => K2' va _ mb G W hD.m (fun b hf => (hD.g b hf).2) hA
            have K3 := K3' (okV_all HA7.out) hl6 (HD7.out.m.parts_ok HTS.out) hT5
            have K4 := K4' HWF.out
            obtain ⟨⟨uk, ui, us⟩, err, T'⟩ := q
            dsimp only at K1 K2 K3 K4
            have KC := Lib.hid K1
            have KD := Lib.hid K2
            have HOKR := Lib.hid K3
            have HWF2 : Hid (WfT T') := Lib.hid K4
            clear K1 K2 K3 K4 K1' K2' K3' K4' hpr
            go_wp2_with fail
            refine KC.out.mono ?_
            rintro e w8 hd
            obtain ⟨rfl, F8, d8, k8⟩ := HD7.out.useH hd
            have HD8 := Lib.hid d8
            have HT8 := Lib.hid (HT7.out.kept k8)
            have HA8 := Lib.hid (HA7.out.kept (by have := hA7.out; omega) k8)
            have OB8 := Lib.hid (OB7.out.kept k8)
            clear d8 k8 hd q0 q1 HD7 HT7 HA7 OB7 hA7 KC
            unfold VE
            go_upto_region 17 with fail
            have q0 := (HD8.out.b.cell (p := ⟨b, o + j * 4, none⟩) hbl).trans HQW.out
            have q1 := (HD8.out.b.cell (p := ⟨b, o + j * 4 + 1, none⟩) hbl).trans HKW.out
            go_wp2_with fail
            refine (KD.out _ _ HD8.out HA8.out).mono ?_
            rintro e w10 hd
            obtain ⟨rfl, G10, d10, k10⟩ := HD8.out.useM hd
            have ob10 := OB8.out.kept k10
            have HD11 := Lib.hid (d10.put ob10.2 (by omega) (.int .i64 uk) (.int .i64 ui) (.string us))
            have HT11 := Lib.hid ((HT8.out.kept k10).put HTB.out (Nat.le_refl A) (.int .i64 uk) (.int .i64 ui) (.string us))
            have OB11 := Lib.hid (ob10.put_same (.int .i64 uk) (.int .i64 ui) (.string us))
            obtain ⟨⟨a0, a1, a2⟩, fa0, fa1, fa2⟩ := look3 ob10.1
            clear d10 k10 ob10 hd q0 q1 HD8 HT8 HA8 OB8 KD
            unfold VE
            go_upto_region 18 with fail
            generalize ((w10.setCell ⟨A, 0, none⟩ (.int .i64 uk)).setCell ⟨A, 1, none⟩ (.int .i64 ui)).setCell ⟨A, 2, none⟩ (.string us) = w12 at *
            clear a0 a1 a2 fa0 fa1 fa2
            by_cases he : err = 0
            · subst he
              obtain ⟨⟨a0, a1, a2⟩, -⟩ := look3 OB11.out.1
              have HAL := Lib.hid (HD11.out.below (al w12 (.cells #[.int .i64 uk, .int .i64 ui, .string us] 36)))
              have HTA := Lib.hid (HT11.out.kept (Kept.of_below (al w12 (.cells #[.int .i64 uk, .int .i64 ui, .string us] 36))))
              have hsz := HAL.out.b.size
              have htl6 : told.length + 1 ≤ 1000 := by omega
              go_wp2_with (at_builtin; refine wpList_append_own_at _ rfl _ _ 30 rfl w.heap.size 36 i0 _ 3 32 Tryd.underlying30 hi hz0 hz1 hz2 rfl (by decide) _ told.length _ rfl HTA.out.1 ⟨w12.heap.size, 0, none⟩ 1 1 [.int .i64 uk, .int .i64 ui, .string us] rfl rfl (World.news_of_block (heap_alloc_new w12 _)) (by intro u hu; simp only [List.mem_cons, List.not_mem_nil, or_false] at hu; rcases hu with rfl | rfl | rfl <;> rfl) (by unfold maxLen; omega) (by omega) hsz ?_; intro v' w13 ho13 hg13 _ hv13)
              have HD13 := Lib.hid (HAL.out.grown hg13 (fun b e => ⟨(HTA.out.1.lt b e).1, HTA.out.2.2 b e⟩))
              have HT13 := Lib.hid (HTA.out.snoc (u := ⟨uk, ui, us⟩) ho13 HOKR.out.1 (fun b e => by
                rcases hv13 with e1 | e1
                · exact .inl (e1 ▸ e)
                · rw [e1] at e
                  cases e
                  exact .inr (HAL.out.apart (Nat.le_refl _))))
              clear ho13 hg13 hv13 HAL HTA a0 a1 a2
              exact ⟨⟨j + 1, _, rfl, by go_num, told ++ [⟨uk, ui, us⟩], T', F8, G10, by omega, by omega, HD13.out, HT13.out, by rw [List.length_append]; exact Nat.succ_le_succ htl, by have := HOKR.out.2.1; omega, HOKR.out.2.2, HWF2.out⟩, by simp [intOf]; omega⟩
            · have e4 : (err == 0) = false := by simpa using he
              go_wp2
              go_roundw
              case rel => exact ⟨j + 1, _, rfl, by go_num, told, T', F8, G10, by omega, by omega, HD11.out, HT11.out, by omega, by have := HOKR.out.2.1; omega, HOKR.out.2.2, HWF2.out⟩
              case measure => simp [intOf]; omega
      · have d2 : ¬ (j : Int) < 60 := by omega
        obtain ⟨ta, tc, rfl, hta, htc⟩ : ∃ ta tc, pv = .slice ta told.length tc ∧ told.length ≤ tc ∧ tc ≤ maxLen := by
          obtain ⟨S0, hin⟩ := HT.out.inP
          obtain ⟨a', c', e, h1, h2, _⟩ := hin
          exact ⟨a', c', e, h1, h2⟩
        unfold maxLen at htc
        go_upto_region 20 with fail
        go_wp2
        go_loopw [12] (fun x wq => ∃ i : Nat, i ≤ told.length ∧ x = .int .i64 i ∧ DSt w hb mb T T F G wq ∧ Told F G w.heap.size told (.slice ta told.length tc) wq) (fun x _ => told.length - (intOf x).toNat)
        case atStart => exact ⟨0, Nat.zero_le _, rfl, HD.out, HT.out⟩
        case round =>
          obtain ⟨i, hi1, rfl, hDq, hTq⟩ := hrel
          have HDQ := Lib.hid hDq
          have HTQ := Lib.hid hTq
          clear hDq hTq
          by_cases hilt : i < told.length
          · have d3 : (i : Int) < (told.length : Int) := by omega
            have hne : told ≠ [] := fun e => by rw [e] at hilt; exact absurd hilt (Nat.not_lt_zero _)
            obtain ⟨S0, hin⟩ := HTQ.out.inP
            obtain ⟨b9, o9, c9, e9, _, hbl9, hv9⟩ := hin.cells hne
            cases e9
            obtain ⟨u0, u1, u2, uo⟩ := hv9.item i hilt
            have HCW : Hid (∀ W, Kept F G wr F G W → W.cell? ⟨b9, o9 + i * 3, none⟩ = some (.int .i64 told[i].k) ∧ W.cell? ⟨b9, o9 + i * 3 + 1, none⟩ = some (.int .i64 told[i].i) ∧ W.cell? ⟨b9, o9 + i * 3 + 2, none⟩ = some (.string told[i].s)) := Lib.hid (fun W hk => by
              have hap : Apart F G b9 := HTQ.out.2.2 b9 rfl
              have hbb := (hk.2 b9 hbl9 hap).2
              exact ⟨(World.cell?_of_block (w := wr) (a := ⟨b9, o9 + i * 3, none⟩) hbb).trans u0, (World.cell?_of_block (w := wr) (a := ⟨b9, o9 + i * 3 + 1, none⟩) hbb).trans u1, (World.cell?_of_block (w := wr) (a := ⟨b9, o9 + i * 3 + 2, none⟩) hbb).trans u2⟩)
            have hul : okV told[i] := uo
            have HIL := Lib.hid hilt
            generalize told[i] = u at u0 u1 u2 hul HCW
            obtain ⟨uk, ui, us⟩ := u
            dsimp only at u0 u1 u2 HCW
            have KT := Lib.hid (tellc_any uk ui us hb T F wr HWF.out HDQ.out.h (fun b hf => (HDQ.out.f b hf).2) hul)
            have KR := Lib.hid (fun W (hD : DSt w hb mb T T F G W) => rtells_any uk ui us mb T G W HWF.out hD.m (fun b hf => (hD.g b hf).2) hul)
            generalize tellT T ⟨uk, ui, us⟩ = r at KT KR
            obtain ⟨rd, rb⟩ := r
            obtain ⟨rk, ri, rs, rl⟩ := rd
            clear hin hv9 uo hne hul hilt
            go_wp2_with fail
            refine KT.out.mono ?_
            rintro e w20 ⟨⟨k1, i1, s1, l1, za, zn, zc, hr1, rfl, hn1⟩, hb20⟩
            cases hr1
            have A21 := al w20 (.cells #[.int .i64 rk, .int .i64 ri, .string rs, .slice za zn zc] 50)
            have Z21 := Lib.hid (heap_alloc_new w20 (.cells #[.int .i64 rk, .int .i64 ri, .string rs, .slice za zn zc] 50))
            have kp21 := (Kept.of_below (F := F) (G := G) hb20).trans (Kept.of_below A21)
            have HD21 := Lib.hid ((HDQ.out.below hb20).below A21)
            have HT21 := Lib.hid (HTQ.out.kept kp21)
            have HN21 := Lib.hid (hn1.rep)
            have HA21 := Lib.hid A21
            obtain ⟨v0, v1, v2⟩ := HCW.out _ kp21
            have KP21 := Lib.hid kp21
            clear hn1 hb20 u0 u1 u2 HDQ HTQ KT A21 kp21
            go_upto_region 24 with fail
            generalize w20.alloc (.cells #[.int .i64 rk, .int .i64 ri, .string rs, .slice za zn zc] 50) = w21 at *
            go_wp2_with fail
            refine (KR.out _ HD21.out).mono ?_
            rintro e w22 ⟨⟨k1, i1, s1, l1, ya, yn, yc, hr1, rfl, hn1⟩, hb22⟩
            cases hr1
            have A23 := al w22 (.cells #[.int .i64 rk, .int .i64 ri, .string rs, .slice ya yn yc] 50)
            have Z23 := heap_alloc_new w22 (.cells #[.int .i64 rk, .int .i64 ri, .string rs, .slice ya yn yc] 50)
            have kp23 := (Kept.of_below (F := F) (G := G) hb22).trans (Kept.of_below A23)
            have HD23 := Lib.hid ((HD21.out.below hb22).below A23)
            have HT23 := Lib.hid (HT21.out.kept kp23)
            have Z13 := (A23.block _ (Nat.lt_of_lt_of_le (lt_of_block Z21.out) hb22.size)).trans ((hb22.block _ (lt_of_block Z21.out)).trans Z21.out)
            have hNa := Dat.RepV.mono (Dat.RepV.below (Dat.RepV.below HN21.out HA21.out (Nat.le_refl _)) (hb22.mono HA21.out.size) (Nat.le_refl _)) (Nat.le_trans HA21.out.size hb22.size)
            have hNa2 := Dat.RepV.mono (Dat.RepV.below hNa A23 (Nat.le_refl _)) A23.size
            have hNb := Dat.RepV.mono (Dat.RepV.below hn1.rep A23 (Nat.le_refl _)) A23.size
            have KS0 := Dat.same_any (.mk rk ri rs rl) (.mk rk ri rs rl) _ _ _ _ hNa2 hNb (Nat.le_refl _)
            rw [Dat.sameB_refl] at KS0
            have KS := Lib.hid KS0
            obtain ⟨⟨p0, p1, p2, p3⟩, -⟩ := look4 Z13
            obtain ⟨⟨q0, q1, q2, q3⟩, -⟩ := look4 Z23
            clear hn1 hb22 v0 v1 v2 HD21 HT21 A23 Z23 Z13 hNa hNa2 hNb KS0 kp23 HN21 HA21 Z21 KP21 KR HCW
            cases rb
            all_goals
              go_upto_region 25 with fail
              generalize w22.alloc (.cells #[.int .i64 rk, .int .i64 ri, .string rs, .slice ya yn yc] 50) = w23 at *
              go_wp2_with fail
              refine KS.out.mono ?_
              rintro e w24 ⟨rfl, hb24⟩
              have HD24 := Lib.hid (HD23.out.below hb24)
              have HT24 := Lib.hid (HT23.out.kept (Kept.of_below hb24))
              have hilt := HIL.out
              clear hb24 HD23 HT23
              go_wp2
              go_roundw
              case rel => exact ⟨i + 1, by omega, by go_num, HD24.out, HT24.out⟩
              case measure => simp [intOf]; omega
          · have d3 : ¬ (i : Int) < (told.length : Int) := by omega
            go_wp2
            go_ret
            exact ⟨rfl, HDQ.out.b⟩
    · have d1 : ¬ (j : Int) < (ops.length : Int) := by omega
      obtain ⟨ta, tc, rfl, hta, htc⟩ : ∃ ta tc, pv = .slice ta told.length tc ∧ told.length ≤ tc ∧ tc ≤ maxLen := by
        obtain ⟨S0, hin⟩ := HT.out.inP
        obtain ⟨a', c', e, h1, h2, _⟩ := hin
        exact ⟨a', c', e, h1, h2⟩
      unfold maxLen at htc
      go_upto_region 20 with fail
      go_wp2
      go_loopw [12] (fun x wq => ∃ i : Nat, i ≤ told.length ∧ x = .int .i64 i ∧ DSt w hb mb T T F G wq ∧ Told F G w.heap.size told (.slice ta told.length tc) wq) (fun x _ => told.length - (intOf x).toNat)
      case atStart => exact ⟨0, Nat.zero_le _, rfl, HD.out, HT.out⟩
      case round =>
        obtain ⟨i, hi1, rfl, hDq, hTq⟩ := hrel
        have HDQ := Lib.hid hDq
        have HTQ := Lib.hid hTq
        clear hDq hTq
        by_cases hilt : i < told.length
        · have d3 : (i : Int) < (told.length : Int) := by omega
          have hne : told ≠ [] := fun e => by rw [e] at hilt; exact absurd hilt (Nat.not_lt_zero _)
          obtain ⟨S0, hin⟩ := HTQ.out.inP
          obtain ⟨b9, o9, c9, e9, _, hbl9, hv9⟩ := hin.cells hne
          cases e9
          obtain ⟨u0, u1, u2, uo⟩ := hv9.item i hilt
          have HCW : Hid (∀ W, Kept F G wr F G W → W.cell? ⟨b9, o9 + i * 3, none⟩ = some (.int .i64 told[i].k) ∧ W.cell? ⟨b9, o9 + i * 3 + 1, none⟩ = some (.int .i64 told[i].i) ∧ W.cell? ⟨b9, o9 + i * 3 + 2, none⟩ = some (.string told[i].s)) := Lib.hid (fun W hk => by
            have hap : Apart F G b9 := HTQ.out.2.2 b9 rfl
            have hbb := (hk.2 b9 hbl9 hap).2
            exact ⟨(World.cell?_of_block (w := wr) (a := ⟨b9, o9 + i * 3, none⟩) hbb).trans u0, (World.cell?_of_block (w := wr) (a := ⟨b9, o9 + i * 3 + 1, none⟩) hbb).trans u1, (World.cell?_of_block (w := wr) (a := ⟨b9, o9 + i * 3 + 2, none⟩) hbb).trans u2⟩)
          have hul : okV told[i] := uo
          have HIL := Lib.hid hilt
          generalize told[i] = u at u0 u1 u2 hul HCW
          obtain ⟨uk, ui, us⟩ := u
          dsimp only at u0 u1 u2 HCW
          have KT := Lib.hid (tellc_any uk ui us hb T F wr HWF.out HDQ.out.h (fun b hf => (HDQ.out.f b hf).2) hul)
          have KR := Lib.hid (fun W (hD : DSt w hb mb T T F G W) => rtells_any uk ui us mb T G W HWF.out hD.m (fun b hf => (hD.g b hf).2) hul)
          generalize tellT T ⟨uk, ui, us⟩ = r at KT KR
          obtain ⟨rd, rb⟩ := r
          obtain ⟨rk, ri, rs, rl⟩ := rd
          clear hin hv9 uo hne hul hilt
          go_wp2_with fail
          refine KT.out.mono ?_
          rintro e w20 ⟨⟨k1, i1, s1, l1, za, zn, zc, hr1, rfl, hn1⟩, hb20⟩
          cases hr1
          have A21 := al w20 (.cells #[.int .i64 rk, .int .i64 ri, .string rs, .slice za zn zc] 50)
          have Z21 := Lib.hid (heap_alloc_new w20 (.cells #[.int .i64 rk, .int .i64 ri, .string rs, .slice za zn zc] 50))
          have kp21 := (Kept.of_below (F := F) (G := G) hb20).trans (Kept.of_below A21)
          have HD21 := Lib.hid ((HDQ.out.below hb20).below A21)
          have HT21 := Lib.hid (HTQ.out.kept kp21)
          have HN21 := Lib.hid (hn1.rep)
          have HA21 := Lib.hid A21
          obtain ⟨v0, v1, v2⟩ := HCW.out _ kp21
          have KP21 := Lib.hid kp21
          clear hn1 hb20 u0 u1 u2 HDQ HTQ KT A21 kp21
          go_upto_region 24 with fail
          generalize w20.alloc (.cells #[.int .i64 rk, .int .i64 ri, .string rs, .slice za zn zc] 50) = w21 at *
          go_wp2_with fail
          refine (KR.out _ HD21.out).mono ?_
          rintro e w22 ⟨⟨k1, i1, s1, l1, ya, yn, yc, hr1, rfl, hn1⟩, hb22⟩
          cases hr1
          have A23 := al w22 (.cells #[.int .i64 rk, .int .i64 ri, .string rs, .slice ya yn yc] 50)
          have Z23 := heap_alloc_new w22 (.cells #[.int .i64 rk, .int .i64 ri, .string rs, .slice ya yn yc] 50)
          have kp23 := (Kept.of_below (F := F) (G := G) hb22).trans (Kept.of_below A23)
          have HD23 := Lib.hid ((HD21.out.below hb22).below A23)
          have HT23 := Lib.hid (HT21.out.kept kp23)
          have Z13 := (A23.block _ (Nat.lt_of_lt_of_le (lt_of_block Z21.out) hb22.size)).trans ((hb22.block _ (lt_of_block Z21.out)).trans Z21.out)
          have hNa := Dat.RepV.mono (Dat.RepV.below (Dat.RepV.below HN21.out HA21.out (Nat.le_refl _)) (hb22.mono HA21.out.size) (Nat.le_refl _)) (Nat.le_trans HA21.out.size hb22.size)
          have hNa2 := Dat.RepV.mono (Dat.RepV.below hNa A23 (Nat.le_refl _)) A23.size
          have hNb := Dat.RepV.mono (Dat.RepV.below hn1.rep A23 (Nat.le_refl _)) A23.size
          have KS0 := Dat.same_any (.mk rk ri rs rl) (.mk rk ri rs rl) _ _ _ _ hNa2 hNb (Nat.le_refl _)
          rw [Dat.sameB_refl] at KS0
          have KS := Lib.hid KS0
          obtain ⟨⟨p0, p1, p2, p3⟩, -⟩ := look4 Z13
          obtain ⟨⟨q0, q1, q2, q3⟩, -⟩ := look4 Z23
          clear hn1 hb22 v0 v1 v2 HD21 HT21 A23 Z23 Z13 hNa hNa2 hNb KS0 kp23 HN21 HA21 Z21 KP21 KR HCW
          cases rb
          all_goals
            go_upto_region 25 with fail
            generalize w22.alloc (.cells #[.int .i64 rk, .int .i64 ri, .string rs, .slice ya yn yc] 50) = w23 at *
            go_wp2_with fail
            refine KS.out.mono ?_
            rintro e w24 ⟨rfl, hb24⟩
            have HD24 := Lib.hid (HD23.out.below hb24)
            have HT24 := Lib.hid (HT23.out.kept (Kept.of_below hb24))
            have hilt := HIL.out
            clear hb24 HD23 HT23
            go_wp2
            go_roundw
            case rel => exact ⟨i + 1, by omega, by go_num, HD24.out, HT24.out⟩
            case measure => simp [intOf]; omega
        · have d3 : ¬ (i : Int) < (told.length : Int) := by omega
          go_wp2
          go_ret
          exact ⟨rfl, HDQ.out.b⟩
end Go.Proofs.YtpejhilfopjckaaDoor.Hp
