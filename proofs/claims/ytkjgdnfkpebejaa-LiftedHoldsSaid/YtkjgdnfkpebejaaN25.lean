/-
The law of what closures hold, given its row of numbers in memory: the tree. No condition.
-/
import Derived.Test.YtkjgdnfkpebejaaN24
import Derived.Deep.DeepCutAuto

namespace Go.Proofs.Ytkjgdnfkpebejaa.Core
open Go.ChangeShapes Go.WideShapes Go.ChangeAt Go.RowKit Go.Deep
open Dat (PT ok64 RowX)
set_option maxRecDepth 100000

set_option maxHeartbeats 8000000 in
theorem holds14_walk (us : List Int) (v : Value) (w : World) (h : InZ14 w us v) :
    Calls Try.prog 5 #[v] w fun e w' => e = .returned (.bool true) ∧ Below w.heap.size w w' := by
  have HV := Lib.hid h
  obtain ⟨a, c, rfl, hlc, hcm, _⟩ := h
  have KX := Lib.hid (fun W => fixedL_any W)
  by_cases h8 : 8 < us.length
  · have h8' : decide ((us.length : Int) > 8) = true := decide_eq_true (by omega)
    go_enter Try.func5, Try.ntmps5
    go_wp2_with fail
    refine (KX.out _).mono ?_
    rintro e w1 ⟨rfl, hb1⟩
    have HB1 := Lib.hid hb1
    clear hb1
    go_wp2_with fail
    refine (KX.out _).mono ?_
    rintro e w2 ⟨rfl, hb2⟩
    have HB2 := Lib.hid (HB1.out.trans (hb2.mono HB1.out.size))
    clear hb2
    go_wp2
    go_ret
    exact ⟨rfl, HB2.out⟩
  · have h8' : decide ((us.length : Int) > 8) = false := decide_eq_false (by omega)
    have h8n : us.length ≤ 8 := by omega
    clear h8
    go_enter Try.func5, Try.ntmps5
    go_wp2_with fail
    refine (KX.out _).mono ?_
    rintro e w1 ⟨rfl, hb1⟩
    have HG := Lib.hid (heap_alloc_new w1 (.cells #[.int .i64 0, .string ⟨#[]⟩, .slice none 0 0, .int .i64 5, .int .i64 0, .string ⟨#[]⟩, .slice none 0 0, .slice none 0 0] 28))
    have HB2 := Lib.hid (bel_alloc' hb1 (.cells #[.int .i64 0, .string ⟨#[]⟩, .slice none 0 0, .int .i64 5, .int .i64 0, .string ⟨#[]⟩, .slice none 0 0, .slice none 0 0] 28))
    have HGW : Hid (w.heap.size ≤ w1.heap.size) := Lib.hid hb1.size
    clear hb1 KX
    go_upto_region 5 with fail
    generalize w1.alloc (.cells #[.int .i64 0, .string ⟨#[]⟩, .slice none 0 0, .int .i64 5, .int .i64 0, .string ⟨#[]⟩, .slice none 0 0, .slice none 0 0] 28) = w2 at *
    generalize w1.heap.size = g at *
    go_wp2
    go_loopw [5] (fun iv wr => ∃ (i : Nat) (z : Int), i ≤ us.length ∧ z = (i : Int) - 1 ∧ iv = .int .i64 z ∧ BoxH wr g (holdT (useN fun k => us.getD k 0) i (us.length - i)) ∧ Below w.heap.size w wr) (fun iv _ => (intOf iv + 1).toNat)
    case atStart => exact ⟨us.length, _, Nat.le_refl _, rfl, rfl, by rw [Nat.sub_self]; exact BoxH.start _ _ HG.out, HB2.out⟩
    case round =>
      obtain ⟨i, z, hi, hz, rfl, hbx, hbr⟩ := hrel
      have HBX := Lib.hid hbx
      have HBR := Lib.hid hbr
      clear hbx hbr
      rcases i with _ | q
      · obtain rfl : z = -1 := by omega
        obtain ⟨hk, hc, ns, l, vn, vd, vk, et, hF, hZ⟩ := HBX.out
        rw [Nat.sub_zero] at et
        have hof : ∀ k, useN (fun k => us.getD k 0) k ≤ k := use_le _
        have KL := Lib.hid (lift_hold (useN fun k => us.getD k 0) hof h8n wr et hF)
        have HZ := Lib.hid hZ
        clear hz hi HBX hF
        generalize hfe : (fun k => us.getD k 0) = f at *
        obtain ⟨x0, x1, x2, x3, x4, x5, x6, x7⟩ := look8n hZ
        clear hZ et
        go_wp2_with fail
        refine KL.out.mono ?_
        rintro e w3 ⟨⟨p1, p3, p4, p5, p6, p7, p8, p9, pa, pb, pc, pd, pe, pf, ph, rfl, hp1, hp3, hfs⟩, hb3⟩
        have HFS := Lib.hid (hfs.below ((Below.refl w3.heap.size w3).alloc (Nat.le_refl _) (.cells #[.slice p1 us.length p3, .int .i64 p4, .string p5, .slice p6 p7 p8, .int .i64 p9, .int .i64 pa, .string pb, .slice pc pd pe, .slice pf 0 ph] 31)))
        have HL4 := Lib.hid (heap_alloc_new w3 (.cells #[.slice p1 us.length p3, .int .i64 p4, .string p5, .slice p6 p7 p8, .int .i64 p9, .int .i64 pa, .string pb, .slice pc pd pe, .slice pf 0 ph] 31))
        have HB4 := Lib.hid (bel_alloc' (HBR.out.trans (hb3.mono HBR.out.size)) (.cells #[.slice p1 us.length p3, .int .i64 p4, .string p5, .slice p6 p7 p8, .int .i64 p9, .int .i64 pa, .string pb, .slice pc pd pe, .slice pf 0 ph] 31))
        clear x0 x1 x2 x3 x4 x5 x6 x7 KL hfs hb3
        go_upto_region 12 with fail
        generalize w3.alloc (.cells #[.slice p1 us.length p3, .int .i64 p4, .string p5, .slice p6 p7 p8, .int .i64 p9, .int .i64 pa, .string pb, .slice pc pd pe, .slice pf 0 ph] 31) = w4 at *
        generalize w3.heap.size = lb at *
        obtain ⟨x0, x1, x2, x3, x4, x5, x6, x7, x8⟩ := look9n HL4.out
        have hnn : ((us.length : Int) != (us.length : Int)) = false := by simp
        unfold maxLen at hp3 hcm
        go_wp2
        clear x0 x1 x2 x3 x4 x5 x6 x7 x8
        go_loopw [10] (fun iv wx => ∃ i : Nat, i ≤ us.length ∧ iv = .int .i64 (i : Int) ∧ Below w4.heap.size w4 wx) (fun iv _ => us.length - (intOf iv).toNat)
        case atStart => exact ⟨0, Nat.zero_le _, rfl, Below.refl _ _⟩
        case round =>
          obtain ⟨i, hi, rfl, hb5⟩ := hrel
          obtain ⟨w5, hw5⟩ : ∃ x, x = wr := ⟨_, rfl⟩
          subst hw5
          have HB5 := Lib.hid hb5
          have HBW5 := Lib.hid (HB4.out.trans (hb5.mono HB4.out.size))
          clear hb5
          by_cases hlt : i < us.length
          · have HO0 : Hid (OutT (w5.alloc (.cells #[] 9)) w5.heap.size [] (.slice (some ⟨w5.heap.size, 0, none⟩) 0 0)) := Lib.hid (OutT.lit0 (heap_alloc_new w5 _) (Nat.le_refl _))
            have HBO : Hid (Below w5.heap.size w5 (w5.alloc (.cells #[] 9))) := Lib.hid ((Below.refl _ _).alloc (Nat.le_refl _) _)
            go_upto_region 18 with fail
            generalize w5.alloc (.cells #[] 9) = w6 at *
            go_wp2
            go_loopw [11, 12] (fun ov pv wx => ∃ p : Nat, p ≤ i ∧ pv = .int .i64 (p : Int) ∧ OutT wx w5.heap.size (wantP (useN f) us.length i p) ov ∧ Below w5.heap.size w5 wx) (fun _ pv _ => i - (intOf pv).toNat)
            case atStart => exact ⟨0, Nat.zero_le _, rfl, by rw [show wantP (useN f) us.length i 0 = [] from rfl]; exact HO0.out, HBO.out⟩
            case round =>
              obtain ⟨p, hp, rfl, hot, hb7⟩ := hrel
              obtain ⟨w7, hw7⟩ : ∃ x, x = wr := ⟨_, rfl⟩
              subst hw7
              have HOT := Lib.hid hot
              have HB7 := Lib.hid hb7
              clear hot hb7
              by_cases hpl : p < i
              · go_wp2
                go_loopw [11, 13] (fun ov kv wx => ∃ k : Nat, i ≤ k ∧ k ≤ us.length ∧ kv = .int .i64 (k : Int) ∧ OutT wx w5.heap.size (wantK (useN f) us.length i p k) ov ∧ Below w5.heap.size w5 wx) (fun _ kv _ => us.length - (intOf kv).toNat)
                case atStart => exact ⟨i, Nat.le_refl _, hi, rfl, by rw [wantK_start]; exact HOT.out, HB7.out⟩
                case round =>
                  obtain ⟨k, hik, hkn, rfl, hot, hb8⟩ := hrel
                  obtain ⟨w8, hw8⟩ : ∃ x, x = wr := ⟨_, rfl⟩
                  subst hw8
                  have HOT2 := Lib.hid hot
                  have HB8 := Lib.hid hb8
                  clear hot hb8
                  by_cases hkl : k < us.length
                  · obtain ⟨a', c', ea, _, _, h3⟩ := HV.out.below (HBW5.out.trans (HB8.out.mono HBW5.out.size))
                    cases ea
                    obtain ⟨hok, b0, o0, rfl, hb0, hc0⟩ := h3 k hkl
                    have hgx : us.getD k 0 = us[k] := by rw [List.getD_eq_getElem?_getD, List.getElem?_eq_getElem hkl]; rfl
                    have hgx2 : f k = us[k] := by rw [← hfe]; exact hgx
                    have hU := use_mod f k
                    rw [hgx2] at hU
                    obtain ⟨hu1, hu2, hu3, hu4⟩ := @use_eq us[k] k
                    obtain ⟨hok1, hok2⟩ := hok
                    have hdiv : ¬ ((k : Int) + 1 = 0) := by omega
                    have hp8 : p ≤ 8 := by omega
                    have HFL : ∀ W, Sem.run Try.prog (Instr.field 28 (.agg #[.int .i64 1, .string (nmP p), .slice none 0 0, .int .i64 0, .int .i64 0, .string ⟨#[]⟩, .slice none 0 0, .slice none 0 0]) 1) W = .ok (.string (nmP p)) W := fun W => by kernel_rfl
                    have HN := Lib.hid (fun h => wantK_keep (of := useN f) (n := us.length) hp8 hik h)
                    have HP := Lib.hid (fun h => wantK_put (of := useN f) (n := us.length) hp8 hik h)
                    have HLK := Lib.hid (wantK_len (useN f) us.length i p k)
                    have HSZ : Hid (∀ s ∈ wantK (useN f) us.length i p k, s.size ≤ maxLen) := Lib.hid fun s hs => by rw [wantK_size hs]; decide
                    clear h3 hgx hgx2
                    generalize us[k] = x at *
                    by_cases he : useN f k = p
                    · have hu : ((x.tmod ((k : Int) + 1) + k + 1) % ((k : Int) + 1) == (p : Int)) = true := by rw [hU, he]; simp
                      have HE := Lib.hid he
                      clear he hU
                      go_wp2_with fail
                      refine (par_any p hp8 _).mono ?_
                      rintro e w9 ⟨rfl, hb9⟩
                      have HO9 := Lib.hid (HOT2.out.below hb9)
                      have HB9 := Lib.hid (HB8.out.trans (hb9.mono HB8.out.size))
                      have KH := Lib.hid (has_any _ (fun _ => True) _ (nmP p) w9 (HO9.out.inN HSZ.out (fun _ _ => trivial)))
                      clear hb9
                      by_cases hm : nmP p ∈ wantK (useN f) us.length i p k
                      · rw [hasB_yes hm] at KH
                        have HE2 := Lib.hid (HN.out (.inr hm))
                        clear hm
                        go_wp2_with fail
                        refine KH.out.mono ?_
                        rintro e w10 ⟨rfl, rfl⟩
                        go_wp2
                        go_roundw
                        case rel => exact ⟨k + 1, by omega, by omega, by go_num, by rw [HE2.out]; exact HO9.out, HB9.out⟩
                        case measure => simp [intOf]; omega
                      · rw [hasB_no hm] at KH
                        have HE2 := Lib.hid (HP.out HE.out hm)
                        clear hm
                        go_wp2_with fail
                        refine KH.out.mono ?_
                        rintro e w10 ⟨rfl, rfl⟩
                        go_wp2_with fail
                        refine (par_any p hp8 _).mono ?_
                        rintro e w11 ⟨rfl, hb11⟩
                        have HO11 := Lib.hid ((HO9.out.below hb11).below ((Below.refl w11.heap.size w11).alloc (Nat.le_refl _) (.cells #[.string (nmP p)] 9)))
                        have HB11 := Lib.hid (bel_alloc' (HB9.out.trans (hb11.mono HB9.out.size)) (.cells #[.string (nmP p)] 9))
                        have hlk := HLK.out
                        clear hb11
                        go_wp2_with (at_builtin; refine wpList_append_ts rfl _ _ rfl w5.heap.size (wantK (useN f) us.length i p k) _ rfl HO11.out (fun _ => True) [nmP p] _ (inN_lit (heap_alloc_new _ _) (by show 2 ≤ maxLen; decide)) rfl (by simp only [List.length_cons, List.length_nil]; omega) HB11.out.size ?_; intro v12 w12 ho12 hk12 ha12)
                        have HO12 := Lib.hid ho12
                        have HB12 : Hid (Below w5.heap.size w5 w12) := Lib.hid (HB11.out.trans (hk12.toBelow HO11.out HB11.out.size))
                        clear ho12 hk12 ha12
                        go_wp2
                        go_roundw
                        case rel => exact ⟨k + 1, by omega, by omega, by go_num, by rw [HE2.out]; exact HO12.out, HB12.out⟩
                        case measure => simp [intOf]; omega
                    · have hu : ((x.tmod ((k : Int) + 1) + k + 1) % ((k : Int) + 1) == (p : Int)) = false := by rw [hU]; simpa using fun h => he (by omega)
                      have HE := Lib.hid (HN.out (.inl he))
                      clear he hU
                      go_wp2
                      go_roundw
                      case rel => exact ⟨k + 1, by omega, by omega, by go_num, by rw [HE.out]; exact HOT2.out, HB8.out⟩
                      case measure => simp [intOf]; omega
                  · obtain rfl : k = us.length := by omega
                    go_wp2
                    go_roundw
                    case rel => exact ⟨p + 1, by omega, by go_num, by rw [← wantK_end]; exact HOT2.out, HB8.out⟩
                    case measure => simp [intOf]; omega
              · obtain rfl : p = i := by omega
                have HB47 := Lib.hid (HB5.out.trans (HB7.out.mono HB5.out.size))
                have hl7 := (HB47.out.block _ (lt_of_block HL4.out)).trans HL4.out
                obtain ⟨⟨ip, fr, ⟨bk, bnm, bns, ⟨bck, bci, bcs, bcl⟩, bl⟩⟩, hfp⟩ : ∃ u, (funsT (useN f) 0 us.length 0)[p]? = some u := ⟨_, List.getElem?_eq_getElem (by rw [funs_len]; exact hlt)⟩
                have hfr := funs_frees (useN f) us.length 0 0 p hlt
                rw [hfp, Nat.zero_add, hold_want (useN f) hof us.length p (Nat.le_of_lt hlt) h8n, wantT_P] at hfr
                obtain rfl : fr = wantP (useN f) us.length p p := Option.some.inj hfr
                obtain ⟨fb, fo, fc, vp, vf, -, -, -, ef, -, -, -, hnf, -, -, c1, -⟩ := (HFS.out.below HB47.out).item p hfp
                rw [funs_len] at ef
                cases ef
                obtain ⟨fa, fcc, efv, -⟩ := id hnf
                subst efv
                have KS := Lib.hid (sameTexts_any _ _ _ _ _ _ w7 hnf (HOT.out.inN (S := fun _ => True) (fun s hs => by rw [wantP_in hs]; decide) (fun _ _ => trivial)))
                rw [sameN_self] at KS
                have hc1 : w7.cell? ⟨fb, fo + p * 10 + 1, none⟩ = some (.slice fa (wantP (useN f) us.length p p).length fcc) := c1
                obtain ⟨x0, x1, x2, x3, x4, x5, x6, x7, x8⟩ := look9n hl7
                have hbf := World.block_lt_of_cell? _ _ hc1
                clear hfp hfr hnf c1 hl7
                go_wp2_with fail
                refine KS.out.mono ?_
                rintro e w8 ⟨rfl, hb8⟩
                have HB8 := Lib.hid (HB47.out.trans (hb8.mono HB47.out.size))
                clear hb8
                go_wp2
                go_roundw
                case rel => exact ⟨p + 1, by omega, by go_num, HB8.out⟩
                case measure => simp [intOf]; omega
          · obtain rfl : i = us.length := by omega
            have hl5 := (HB5.out.block _ (lt_of_block HL4.out)).trans HL4.out
            obtain ⟨x0, x1, x2, x3, x4, x5, x6, x7, x8⟩ := look9n hl5
            go_wp2_with fail
            refine (size_any _ _ _ _ _ _ _ _ _ _ _ _ _ _).mono ?_
            rintro e w6 ⟨rfl, hb6⟩
            have HB6 := Lib.hid (HBW5.out.trans (hb6.mono HBW5.out.size))
            clear hb6 hl5
            go_wp2
            go_ret
            exact ⟨rfl, HB6.out⟩
      obtain rfl : z = (q : Int) := by omega
      clear hz
      have hql : q < us.length := hi
      obtain ⟨a', c', ea, _, _, h3⟩ := HV.out.below HBR.out
      cases ea
      obtain ⟨hok, b0, o0, rfl, hb0, hc0⟩ := h3 q hql
      have hgx : us.getD q 0 = us[q] := by rw [List.getD_eq_getElem?_getD, List.getElem?_eq_getElem hql]; rfl
      generalize hof : (fun k => us.getD k 0) = f at *
      have hgx2 : f q = us[q] := by rw [← hof]; exact hgx
      have hU := use_mod f q
      rw [hgx2] at hU
      obtain ⟨hu1, hu2, hu3, hu4⟩ := @use_eq us[q] q
      have HU := Lib.hid hU
      have hp8 : useN f q ≤ 8 := Nat.le_trans (use_le f q) (by omega)
      obtain ⟨hok1, hok2⟩ := hok
      have HEQ : Hid (us.length - q = us.length - (q + 1) + 1) := Lib.hid (by omega)
      clear h3 hgx hgx2 hU
      generalize us[q] = x at *
      generalize hp : useN f q = p at *
      have hdiv : ¬ ((q : Int) + 1 = 0) := by omega
      go_upto_region 8 with fail
      go_cut [6] from 31 to 43 (fun v wx => v = .int .i64 (p : Int) ∧ wx = wr)
      case first =>
        go_wp2
        go_meet
        case rel => exact ⟨by rw [HU.out], rfl⟩
      case rest =>
      obtain ⟨rfl, hwc⟩ := hcut
      have hwc2 := hwc.symm
      clear hwc
      subst hwc2
      obtain ⟨hk, hc, ns, l, vn, vd, vk, et, hF, hZ⟩ := HBX.out
      have HF := Lib.hid hF
      have HZ := Lib.hid hZ
      have HET := Lib.hid et
      have hgl := lt_of_block hZ
      clear HBX et hF hZ hdiv hu1 hu2 hu3 hu4 hok1 hok2 hc0 HU
      go_upto_region 9 with fail
      go_cut [7] from 44 to 52 (fun v wx => ∃ b B, v = .pointer (some ⟨b, 0, none⟩) ∧ BodyH wx (g + 1) b B [refL (nmP p), refL (nmP q), .mk hk ⟨#[]⟩ ns (.mk hc 0 ⟨#[]⟩ []) l] ∧ Below wr.heap.size wr wx)
      case first =>
        refine Rg.wp_region_grow (by kernel_rfl) wr.heap.size (Nat.le_refl _) (R9 (g + 1) wr.heap.size (.func (.func 15) #[] #[]) p q hk hc ns l vn vd vk) R9.mono (by kernel_rfl) ?_ ?_
        · intro i o d hi hd vs W hb hR
          have hCW : g + 1 ≤ W.heap.size := Nat.le_trans hgl hb.size
          have HR := Lib.hid hR
          have HB := Lib.hid hb
          clear hR hb
          rcases i with _ | _ | _ | _ | _ | _ | _ | _ | _ | _ | _ | i
          all_goals simp only [List.getElem?_cons_zero, List.getElem?_cons_succ, List.getElem?_nil, Option.some.injEq, reduceCtorEq] at hi
          all_goals subst hi
          all_goals simp only [Option.some.injEq, reduceCtorEq] at hd
          all_goals subst hd
          all_goals try simp only [Rg.putAll, Act.put, List.setIfInBounds_toArray, List.set_cons_zero, List.set_cons_succ, Nat.zero_add, Nat.reduceAdd]
          · go_simp
            exact ⟨_, rfl, rfl, Below.refl _ _⟩
          · go_simp
            exact ⟨_, rfl, rfl, Below.refl _ _⟩
          · have e0 := (HR.out 0 (by decide) (by kernel_rfl) : vs 0 = _)
            have e1 := (HR.out 1 (by decide) (by kernel_rfl) : vs 1 = _)
            rw [e0, e1]
            go_simp
            refine (par_any p hp8 _).mono ?_
            rintro e w5 ⟨rfl, hb5⟩
            exact ⟨_, rfl, rfl, hb5⟩
          · go_simp
            exact ⟨_, rfl, rfl, Below.refl _ _⟩
          · go_simp
            exact ⟨_, rfl, rfl, Below.refl _ _⟩
          · have e0 := (HR.out 3 (by decide) (by kernel_rfl) : vs 3 = _)
            have e1 := (HR.out 4 (by decide) (by kernel_rfl) : vs 4 = _)
            rw [e0, e1]
            go_simp
            refine (par_any q (by omega) _).mono ?_
            rintro e w5 ⟨rfl, hb5⟩
            exact ⟨_, rfl, rfl, hb5⟩
          · obtain ⟨x0, x1, x2, x3, x4, x5, x6, x7⟩ := look8n ((HB.out.block g hgl).trans HZ.out)
            go_simp
            exact ⟨_, rfl, ⟨rfl, inF_upH HF.out HB.out⟩, Below.refl _ _⟩
          · have e2 := (HR.out 2 (by decide) (by kernel_rfl) : vs 2 = _)
            have e5 := (HR.out 5 (by decide) (by kernel_rfl) : vs 5 = _)
            obtain ⟨e6, h6⟩ := (HR.out 6 (by decide) (by kernel_rfl) : R9 (g + 1) wr.heap.size (.func (.func 15) #[] #[]) p q hk hc ns l vn vd vk 6 (vs 6) W)
            rw [e2, e5, e6]
            unfold refV
            go_simp
            exact ⟨_, rfl, ⟨_, rfl, three_kids hCW h6⟩, (Below.refl _ _).alloc (Nat.le_refl _) _⟩
          · obtain ⟨B, e7, h7⟩ := (HR.out 7 (by decide) (by kernel_rfl) : R9 (g + 1) wr.heap.size (.func (.func 15) #[] #[]) p q hk hc ns l vn vd vk 7 (vs 7) W)
            rw [e7] at h7 ⊢
            go_simp
            exact ⟨_, rfl, ⟨_, rfl, h7⟩, Below.refl _ _⟩
          · go_simp
            exact ⟨_, rfl, ⟨_, rfl, HB.out.size, heap_alloc_new W _⟩, (Below.refl _ _).alloc (Nat.le_refl _) _⟩
        · intro o ho vs W hb hR
          simp only [List.length_cons, List.length_nil, Nat.reduceAdd, Nat.reduceSub, List.getElem?_cons_zero, List.getElem?_cons_succ, Option.some.injEq] at ho
          subst ho
          simp only [Rg.putAll, Act.put, List.setIfInBounds_toArray, List.set_cons_zero, List.set_cons_succ, Nat.zero_add, Nat.reduceAdd]
          obtain ⟨B, e8, h8⟩ := (hR 8 (by decide) : R9 (g + 1) wr.heap.size (.func (.func 15) #[] #[]) p q hk hc ns l vn vd vk 8 (vs 8) W)
          obtain ⟨b, e9, hCb, hz⟩ := (hR 9 (by decide) : R9 (g + 1) wr.heap.size (.func (.func 15) #[] #[]) p q hk hc ns l vn vd vk 9 (vs 9) W)
          have HB := Lib.hid hb
          have HK8 := Lib.hid h8
          have HZ9 := Lib.hid hz
          obtain ⟨x0, x1, x2, x3, x4, x5, x6, x7⟩ := look8n hz
          obtain ⟨f0, f1, f2, f3, f4, f5, f6, f7⟩ := free8n hz
          clear hR hb h8 hz
          rw [e8, e9]
          unfold seqV
          clear e8 e9
          generalize vs 0 = q0, vs 1 = q1, vs 2 = q2, vs 3 = q3, vs 4 = q4, vs 5 = q5, vs 6 = q6, vs 7 = q7
          go_simp
          go_wp2_with fail
          go_meet
          case rel => exact ⟨b, B, rfl, BodyH.put (Nat.le_trans hgl hCb) HK8.out HZ9.out (fun c hc => boff8 _ _ _ _ _ _ _ _ hc) (bput8 HZ9.out), bbel8 HB.out hCb _ _ _ _ _ _ _ _⟩
      case rest =>
      obtain ⟨b, B, rfl, ⟨hCb, hbz, hbk⟩, hb1⟩ := hcut
      have HBK := Lib.hid hbk
      have HBZ := Lib.hid hbz
      have HB1 := Lib.hid hb1
      have HG1 := Lib.hid ((hb1.block g hgl).trans HZ.out)
      have hgl1 : g < wc.heap.size := Nat.lt_of_lt_of_le hgl hb1.size
      have hbl := lt_of_block hbz
      clear hbk hbz hb1 HF HZ
      obtain ⟨w5, hw5⟩ : ∃ x, x = wc := ⟨_, rfl⟩
      subst hw5
      go_upto_region 10 with fail
      · refine Rg.wp_region_grow (by kernel_rfl) w5.heap.size (Nat.le_refl _) (R10 (g + 1) (.func (.func 15) #[] #[]) q B (.mk 4 ⟨#[]⟩ [] PT0 [refL (nmP p), refL (nmP q), .mk hk ⟨#[]⟩ ns (.mk hc 0 ⟨#[]⟩ []) l])) R10.mono (by kernel_rfl) ?_ ?_
        · intro i o d hi hd vs W hb hR
          have hCW : g + 1 ≤ W.heap.size := Nat.le_trans hgl1 hb.size
          have HR := Lib.hid hR
          have HB := Lib.hid hb
          clear hR hb
          rcases i with _ | _ | _ | _ | _ | _ | _ | _ | _ | i
          all_goals simp only [List.getElem?_cons_zero, List.getElem?_cons_succ, List.getElem?_nil, Option.some.injEq, reduceCtorEq] at hi
          all_goals subst hi
          all_goals simp only [Option.some.injEq, reduceCtorEq] at hd
          all_goals subst hd
          all_goals try simp only [Rg.putAll, Act.put, List.setIfInBounds_toArray, List.set_cons_zero, List.set_cons_succ, Nat.zero_add, Nat.reduceAdd]
          · go_simp
            exact ⟨_, rfl, rfl, Below.refl _ _⟩
          · go_simp
            exact ⟨_, rfl, rfl, Below.refl _ _⟩
          · have e0 := (HR.out 0 (by decide) (by kernel_rfl) : vs 0 = _)
            have e1 := (HR.out 1 (by decide) (by kernel_rfl) : vs 1 = _)
            rw [e0, e1]
            go_simp
            refine (par_any q (by omega) _).mono ?_
            rintro e w7 ⟨rfl, hb7⟩
            exact ⟨_, rfl, rfl, hb7⟩
          · have e2 := (HR.out 2 (by decide) (by kernel_rfl) : vs 2 = _)
            rw [e2]
            unfold refV
            go_simp
            exact ⟨_, rfl, rfl, Below.refl _ _⟩
          · have e3 := (HR.out 3 (by decide) (by kernel_rfl) : vs 3 = _)
            rw [e3]
            go_simp
            exact ⟨_, rfl, ⟨_, rfl, inN_rowH (heap_alloc_new W _) ⟨hCW, by rw [heap_alloc_new]; intro e; cases e⟩ (by show 2 ≤ maxLen; decide)⟩, (Below.refl _ _).alloc (Nat.le_refl _) _⟩
          · obtain ⟨x0, x1, x2, x3, x4, x5, x6, x7⟩ := look8n ((HB.out.block b hbl).trans HBZ.out)
            go_simp
            exact ⟨_, rfl, rfl, Below.refl _ _⟩
          · have e5 := (HR.out 5 (by decide) (by kernel_rfl) : vs 5 = _)
            rw [e5]
            unfold seqV
            go_simp
            exact ⟨_, rfl, ⟨_, rfl, one_kid hCW (inK_upH HBK.out HB.out)⟩, (Below.refl _ _).alloc (Nat.le_refl _) _⟩
          · obtain ⟨D, e4, h4⟩ := (HR.out 4 (by decide) (by kernel_rfl) : R10 (g + 1) (.func (.func 15) #[] #[]) q B (.mk 4 ⟨#[]⟩ [] PT0 [refL (nmP p), refL (nmP q), .mk hk ⟨#[]⟩ ns (.mk hc 0 ⟨#[]⟩ []) l]) 4 (vs 4) W)
            obtain ⟨E, e6, h6⟩ := (HR.out 6 (by decide) (by kernel_rfl) : R10 (g + 1) (.func (.func 15) #[] #[]) q B (.mk 4 ⟨#[]⟩ [] PT0 [refL (nmP p), refL (nmP q), .mk hk ⟨#[]⟩ ns (.mk hc 0 ⟨#[]⟩ []) l]) 6 (vs 6) W)
            rw [e4] at h4 ⊢
            rw [e6] at h6 ⊢
            go_simp
            exact ⟨_, rfl, ⟨_, _, rfl, h4, h6⟩, Below.refl _ _⟩
        · intro o ho vs W hb hR
          simp only [List.length_cons, List.length_nil, Nat.reduceAdd, Nat.reduceSub, List.getElem?_cons_zero, List.getElem?_cons_succ, Option.some.injEq] at ho
          subst ho
          simp only [Rg.putAll, Act.put, List.setIfInBounds_toArray, List.set_cons_zero, List.set_cons_succ, Nat.zero_add, Nat.reduceAdd]
          obtain ⟨D, E, e7, h4, h6⟩ := (hR 7 (by decide) : R10 (g + 1) (.func (.func 15) #[] #[]) q B (.mk 4 ⟨#[]⟩ [] PT0 [refL (nmP p), refL (nmP q), .mk hk ⟨#[]⟩ ns (.mk hc 0 ⟨#[]⟩ []) l]) 7 (vs 7) W)
          have HB := Lib.hid hb
          have HN4 := Lib.hid h4
          have HK6 := Lib.hid h6
          have hz := (hb.block g hgl1).trans HG1.out
          have HZ := Lib.hid hz
          obtain ⟨x0, x1, x2, x3, x4, x5, x6, x7⟩ := look8n hz
          obtain ⟨f0, f1, f2, f3, f4, f5, f6, f7⟩ := free8n hz
          clear hR hb h4 h6 hz
          rw [e7]
          unfold lamV
          clear e7
          generalize vs 0 = q0, vs 1 = q1, vs 2 = q2, vs 3 = q3, vs 4 = q4, vs 5 = q5, vs 6 = q6
          go_simp
          go_wp2_with fail
          go_roundw
          case rel =>
            refine ⟨q, _, by omega, rfl, by go_num, ?_, bbel8 (HBR.out.trans ((HB1.out.trans (HB.out.mono HB1.out.size)).mono HBR.out.size)) HGW.out _ _ _ _ _ _ _ _⟩
            rw [HEQ.out]
            exact BoxH.put (useN f) HN4.out HK6.out (fun c hc => boff8 _ _ _ _ _ _ _ _ hc) (bput8 HZ.out) (by rw [hp, HET.out])
          case measure => simp [intOf]
end Go.Proofs.Ytkjgdnfkpebejaa.Core
