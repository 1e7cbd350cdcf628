/-
Texts Q71, Q72, one behind the other (a claim bears sixty files). Conditions: as each says.
-/
import Derived.Test.YtpejhilfopjckaaDoorQGg

/-
Package heap's Make of any kind. No condition but that the heap lies in memory.
-/
namespace Go.Proofs.YtpejhilfopjckaaDoor.Hp
open Go.ChangeShapes Go.WideShapes Go.ChangeAt Go.RowKit Go.Deep
open Dat (PT ok64 RepV RepS RowX infoDatum)
set_option maxRecDepth 100000

/-- May a thing of a kind have so many parts? -/
def mayB (k : Int) (n : Nat) : Bool := if k = 0 then n == 2 else if k = 3 then n == 1 else if k = 1 ∨ k = 2 then decide (n ≤ 1000) else k == 4
theorem mayHave_any (k : Int) (n : Nat) (w : World) : Calls Tryd.prog 19 #[.int .i64 k, .int .i64 n] w fun e w' => e = .returned (.bool (mayB k n)) ∧ w' = w := by
  have HR : Hid (mayB k n = if k = 0 then n == 2 else if k = 3 then n == 1 else if k = 1 ∨ k = 2 then decide (n ≤ 1000) else k == 4) := Lib.hid rfl
  generalize mayB k n = r at HR
  have ways : k = 0 ∨ k = 3 ∨ k = 1 ∨ k = 2 ∨ (k ≠ 0 ∧ k ≠ 3 ∧ k ≠ 1 ∧ k ≠ 2) := by omega
  rcases ways with rfl | rfl | rfl | rfl | ⟨h0, h3, h1, h2⟩
  · by_cases hn : n = 2
    · have e : ((n : Int) == 2) = true := by simp; omega
      have HE : Hid (r = true) := Lib.hid (by rw [HR.out]; simp [hn])
      clear HR hn
      go_enter Tryd.func19, Tryd.ntmps19
      go_wp2
      go_ret
      exact ⟨by rw [HE.out]; rfl, rfl⟩
    · have e : ((n : Int) == 2) = false := by simp; omega
      have HE : Hid (r = false) := Lib.hid (by rw [HR.out]; simp [hn])
      clear HR hn
      go_enter Tryd.func19, Tryd.ntmps19
      go_wp2
      go_ret
      exact ⟨by rw [HE.out]; rfl, rfl⟩
  · by_cases hn : n = 1
    · have e : ((n : Int) == 1) = true := by simp; omega
      have HE : Hid (r = true) := Lib.hid (by rw [HR.out]; simp [hn])
      clear HR hn
      go_enter Tryd.func19, Tryd.ntmps19
      go_wp2
      go_ret
      exact ⟨by rw [HE.out]; rfl, rfl⟩
    · have e : ((n : Int) == 1) = false := by simp; omega
      have HE : Hid (r = false) := Lib.hid (by rw [HR.out]; simp [hn])
      clear HR hn
      go_enter Tryd.func19, Tryd.ntmps19
      go_wp2
      go_ret
      exact ⟨by rw [HE.out]; rfl, rfl⟩
  · by_cases hn : n ≤ 1000
    · have h : (n : Int) ≤ 1000 := by omega
      have HE : Hid (r = true) := Lib.hid (by rw [HR.out]; simp [hn])
      clear HR hn
      go_enter Tryd.func19, Tryd.ntmps19
      go_wp2
      go_ret
      exact ⟨by rw [HE.out]; rfl, rfl⟩
    · have h : decide ((n : Int) ≤ 1000) = false := decide_eq_false (by omega)
      have HE : Hid (r = false) := Lib.hid (by rw [HR.out]; simp [hn])
      clear HR hn
      go_enter Tryd.func19, Tryd.ntmps19
      go_wp2
      go_ret
      exact ⟨by rw [HE.out]; rfl, rfl⟩
  · by_cases hn : n ≤ 1000
    · have h : (n : Int) ≤ 1000 := by omega
      have HE : Hid (r = true) := Lib.hid (by rw [HR.out]; simp [hn])
      clear HR hn
      go_enter Tryd.func19, Tryd.ntmps19
      go_wp2
      go_ret
      exact ⟨by rw [HE.out]; rfl, rfl⟩
    · have h : decide ((n : Int) ≤ 1000) = false := decide_eq_false (by omega)
      have HE : Hid (r = false) := Lib.hid (by rw [HR.out]; simp [hn])
      clear HR hn
      go_enter Tryd.func19, Tryd.ntmps19
      go_wp2
      go_ret
      exact ⟨by rw [HE.out]; rfl, rfl⟩
  · have e0 : (k == 0) = false := by simp; omega
    have e1 : (k == 1) = false := by simp; omega
    have e2 : (k == 2) = false := by simp; omega
    have e3 : (k == 3) = false := by simp; omega
    have HE : Hid (r = (k == 4)) := Lib.hid (by rw [HR.out, if_neg h0, if_neg h3, if_neg (by omega)])
    clear HR h0 h1 h2 h3
    go_enter Tryd.func19, Tryd.ntmps19
    go_wp2
    go_ret
    exact ⟨by rw [HE.out]; rfl, rfl⟩
theorem isNoChar_any (k i : Int) (s : ByteArray) (w : World) : Calls Tryd.prog 22 #[.agg #[.int .i64 k, .int .i64 i, .string s]] w fun e w' => e = .returned (.bool (k != 2)) ∧ Below w.heap.size w w' := by
  have B0 := Lib.hid ((Below.refl w.heap.size w).alloc (Nat.le_refl _) (.cells #[.int .i64 k, .int .i64 i, .string s] 36))
  go_enter Tryd.func22, Tryd.ntmps22
  go_wp2
  go_ret
  exact ⟨rfl, B0.out⟩
/-- Are all characters? -/
def charsB (l : List PV) : Bool := l.all (fun v => v.k == 2)
set_option maxHeartbeats 1000000 in
theorem indexNo_any (l : List PV) (v : Value) (S : Nat → Prop) (w : World) (h : InP w S l v) :
    Calls Tryd.prog 43 #[v, .func (.func 22) #[] #[]] w fun e w' => (∃ x : Int, e = .returned (.int .i64 x) ∧ (decide (0 ≤ x)) = !charsB l) ∧ Below w.heap.size w w' := by
  have HI := Lib.hid h
  have HR : Hid (charsB l = true ↔ ∀ t ∈ l, t.k = 2) := Lib.hid (by unfold charsB; rw [List.all_eq_true]; exact ⟨fun h t ht => by simpa using h t ht, fun h t ht => by simpa using h t ht⟩)
  generalize charsB l = r at HR
  obtain ⟨a, c, rfl, h1, h2, h3, h4⟩ := h
  unfold maxLen at h2
  clear h3 h4
  go_enter Tryd.func43, Tryd.ntmps43
  go_wp2
  go_loopw [8] (fun i wr => ∃ j : Nat, j ≤ l.length ∧ i = .int .i64 j ∧ (∀ (q : Nat) (hq : q < l.length), q < j → l[q].k = 2) ∧ Below w.heap.size w wr) (fun i _ => l.length - (intOf i).toNat)
  case atStart => exact ⟨0, Nat.zero_le _, rfl, fun q _ h => by omega, Below.refl _ _⟩
  case round =>
    obtain ⟨j, hj, rfl, hall, hbr⟩ := hrel
    have HA := Lib.hid hall
    have HB := Lib.hid hbr
    by_cases hlt : j < l.length
    · obtain ⟨b, o, c', e, hs, hbl, hv⟩ := HI.out.cells (by rintro rfl; cases hlt)
      cases e
      obtain ⟨c0, c1, c2, ok⟩ := hv.item j hlt
      replace c0 := (HB.out.cell (p := ⟨b, o + j * 3, none⟩) hbl).trans c0
      replace c1 := (HB.out.cell (p := ⟨b, o + j * 3 + 1, none⟩) hbl).trans c1
      replace c2 := (HB.out.cell (p := ⟨b, o + j * 3 + 2, none⟩) hbl).trans c2
      have HT : Hid (l[j].k = 2 → ∀ (q : Nat) (hq : q < l.length), q < j + 1 → l[q].k = 2) := Lib.hid (fun hk q hq hqj => by
        by_cases e : q = j
        · subst e; exact hk
        · exact HA.out q hq (by omega))
      have HM : Hid (l[j] ∈ l) := Lib.hid (List.getElem_mem hlt)
      generalize l[j] = t at c0 c1 c2 ok HT HM
      obtain ⟨tk, ti, ts⟩ := t
      dsimp only at c0 c1 c2
      have KH := Lib.hid (isNoChar_any tk ti ts)
      clear hall hbr hv ok
      by_cases hok : tk = 2
      · have e2 : (tk != 2) = false := by simp [hok]
        rw [e2] at KH
        have HT' := Lib.hid (HT.out hok)
        clear hok e2 HT
        go_wp2_with (go_at_call 22; refine (KH.out _).mono ?_; rintro e w1 ⟨rfl, hb1⟩)
        go_roundw
        case rel => exact ⟨j + 1, by omega, by go_num, HT'.out, HB.out.trans (hb1.mono HB.out.size)⟩
        case measure => simp [intOf]; omega
      · have e2 : (tk != 2) = true := by simp [hok]
        rw [e2] at KH
        have HF : Hid (r = false) := Lib.hid (by
          cases hr : r
          · rfl
          · exact absurd (HR.out.1 hr _ HM.out) hok)
        clear hok e2 HT
        go_wp2_with (go_at_call 22; refine (KH.out _).mono ?_; rintro e w1 ⟨rfl, hb1⟩)
        go_ret
        exact ⟨⟨j, rfl, by rw [HF.out]; simp⟩, HB.out.trans (hb1.mono HB.out.size)⟩
    · go_wp2
      go_ret
      refine ⟨⟨-1, rfl, ?_⟩, HB.out⟩
      have : r = true := HR.out.2 (fun t ht => by
        obtain ⟨q, hq, rfl⟩ := List.mem_iff_getElem.1 ht
        exact HA.out q hq (by omega))
      rw [this]
      rfl
theorem containsNo_any (l : List PV) (v : Value) (S : Nat → Prop) (w : World) (h : InP w S l v) :
    Calls Tryd.prog 21 #[v, .func (.func 22) #[] #[]] w fun e w' => e = .returned (.bool (!charsB l)) ∧ Below w.heap.size w w' := by
  have K := Lib.hid (indexNo_any l v S w h)
  go_enter Tryd.func21, Tryd.ntmps21
  go_wp2_with fail
  refine K.out.mono ?_
  rintro e w1 ⟨⟨x, rfl, hx⟩, hb1⟩
  have HX := Lib.hid hx
  have HB := Lib.hid hb1
  clear hx hb1
  go_wp2
  go_ret
  exact ⟨by rw [← HX.out]; rfl, HB.out⟩
end Go.Proofs.YtpejhilfopjckaaDoor.Hp

/-
Package heap's Make. No condition but that the heap lies in memory.
-/
namespace Go.Proofs.YtpejhilfopjckaaDoor.Hp
open Go.ChangeShapes Go.WideShapes Go.ChangeAt Go.RowKit Go.Deep
open Dat (PT ok64 RepV RepS RowX infoDatum NewV NewS makeT MakeOk numT numsT)
set_option maxRecDepth 100000

/-- May a thing of this kind, of these parts, be made? -/
def madeB (T : List (Int × List PV)) (kd : Int) (l : List PV) : Bool := mayB kd l.length && (l.all (hasB T.length) && (kd != 2 || charsB l))
/-- What Make answers. -/
def madeT (T : List (Int × List PV)) (kd : Int) (l : List PV) : PV × Int × List (Int × List PV) := if madeB T kd l = true then (⟨8, T.length, ⟨#[]⟩⟩, 0, T ++ [(kd, l)]) else (⟨0, 0, ⟨#[]⟩⟩, 1, T)
theorem mayB_kind {k : Int} {n : Nat} (h : mayB k n = true) : 0 ≤ k ∧ k ≤ 4 := by
  unfold mayB at h
  by_cases h0 : k = 0
  · omega
  by_cases h3 : k = 3
  · omega
  by_cases h1 : k = 1 ∨ k = 2
  · omega
  rw [if_neg h0, if_neg h3, if_neg h1] at h
  have := beq_iff_eq.1 h
  omega
theorem madeT_no {T : List (Int × List PV)} {kd : Int} {l : List PV} (h : madeB T kd l = false) : madeT T kd l = (⟨0, 0, ⟨#[]⟩⟩, 1, T) := by
  unfold madeT
  rw [h]
  rfl
set_option maxHeartbeats 2000000 in
theorem mk_any (kd : Int) (l : List PV) (v : Value) (S : Nat → Prop) (hb : Nat) (T : List (Int × List PV)) (F : Nat → Prop) (w : World) (hH : HeapM w hb T F) (hF : ∀ b, F b → b < w.heap.size) (hP : InP w S l v) (hl : l.length ≤ 1000) (hT : T.length ≤ 100000) :
    Calls Tryd.prog 8 #[.pointer (some ⟨hb, 0, none⟩), .int .i64 kd, v] w fun e w' => DoOk w hb F (madeT T kd l).1 (madeT T kd l).2.1 (madeT T kd l).2.2 e w' := by
  have Z0 := Lib.hid (heap_alloc_new w (.cells #[.int .i64 0, .int .i64 0, .string ⟨#[]⟩] 36))
  have B0 := Lib.hid ((Below.refl w.heap.size w).alloc (Nat.le_refl _) (.cells #[.int .i64 0, .int .i64 0, .string ⟨#[]⟩] 36))
  have hs0 := size_new w (.cells #[.int .i64 0, .int .i64 0, .string ⟨#[]⟩] 36)
  have HH := Lib.hid hH
  have HF := Lib.hid hF
  obtain ⟨q, HQ⟩ : ∃ q, Hid (q = madeT T kd l) := ⟨_, Lib.hid rfl⟩
  rw [← HQ.out]
  have HP := Lib.hid hP
  have KM := Lib.hid (fun W => mayHave_any kd l.length W)
  have KA := Lib.hid (hasAll_any l v S hb T.length _ (hP.belowP B0.out) (LenM.below hH.len B0.out))
  have KC := Lib.hid (fun W (hW : Below w.heap.size w W) => clone_any l v S W (hP.belowP hW) (by omega))
  have KX := Lib.hid (fun W (hW : Below w.heap.size w W) => containsNo_any l v S W (hP.belowP hW))
  obtain ⟨a, c, rfl, h1, h2, h3, h4⟩ := hP
  unfold maxLen at h2
  clear hH hF h3 h4
  go_enter Tryd.func8, Tryd.ntmps8
  go_wp2_with fail
  generalize w.alloc (.cells #[.int .i64 0, .int .i64 0, .string ⟨#[]⟩] 36) = w0 at *
  refine (KM.out _).mono ?_
  rintro e w1 ⟨rfl, rfl⟩
  by_cases hmay : mayB kd l.length = true
  · rw [hmay]
    have HK := Lib.hid (mayB_kind hmay)
    by_cases hall : l.all (hasB T.length) = true
    · rw [hall] at KA
      by_cases h2k : kd = 2
      · by_cases hch : charsB l = true
        · have HQ1 : Hid (q = (⟨8, T.length, ⟨#[]⟩⟩, 0, T ++ [(kd, l)])) := Lib.hid (by rw [HQ.out, madeT, madeB, hmay, hall, hch, Bool.or_true]; rfl)
          rw [hch] at KX
          have k2 : (kd == 2) = true := by simp [h2k]
          clear hmay hall hch h2k
          go_wp2_with fail
          refine KA.out.mono ?_
          rintro e w2 ⟨rfl, hb2⟩
          have B2 := Lib.hid (B0.out.trans (hb2.mono B0.out.size))
          have Z2 := Lib.hid ((hb2.block w.heap.size (by omega)).trans Z0.out)
          have hs2 : w.heap.size + 1 ≤ w2.heap.size := by have := hb2.size; omega
          clear hb2 KA
          go_wp2_with fail
          refine (KX.out _ B2.out).mono ?_
          rintro e w2x ⟨rfl, hb2x⟩
          have B2x := Lib.hid (B2.out.trans (hb2x.mono B2.out.size))
          have Z2x := Lib.hid ((hb2x.block w.heap.size (by omega)).trans Z2.out)
          have hs2x : w.heap.size + 1 ≤ w2x.heap.size := by have := hb2x.size; omega
          clear hb2x
          go_wp2_with fail
          refine (KC.out _ B2x.out).mono ?_
          rintro e w3 ⟨⟨pv, g, rfl, hp, hg⟩, hb3⟩
          have B3 := B2x.out.trans (hb3.mono B2x.out.size)
          have hgg : l ≠ [] → w.heap.size + 1 ≤ g ∧ g < w3.heap.size := fun h => by have := hg h; omega
          have KD := Lib.hid (add_any kd l g pv hb T F w3 (HH.out.below B3) (fun b h => by have := HF.out b h; have := B3.size; omega) ⟨by have := HK.out; omega, by have := HK.out; omega⟩ hp (fun h => ⟨fun hf => by have := HF.out g hf; have := (hgg h).1; omega, (hgg h).2⟩) hT)
          have HGG := Lib.hid hgg
          have HB3 := Lib.hid B3
          have hs3 : w.heap.size + 1 ≤ w3.heap.size := by have := hb3.size; omega
          have Z3 := Lib.hid ((hb3.block w.heap.size (by omega)).trans Z2x.out)
          clear hp hg hb3 B3 hgg
          go_wp2_with fail
          refine KD.out.mono ?_
          rintro e w4 hA
          obtain ⟨rfl, F', q1, q2, q3⟩ := hA.doOk (w := w) HB3.out (fun h => by have := (HGG.out h).1; omega)
          obtain ⟨q4, q5⟩ := q3 w.heap.size (by omega) (fun hf => by have := HF.out _ hf; omega) (fun h e => by have := (HGG.out h).1; omega)
          have E4 := q5.trans Z3.out
          have HS := Lib.hid (put_res q1 q2 q4 (Nat.le_refl _) (.int .i64 8) (.int .i64 T.length) (.string ⟨#[]⟩))
          have HE := Lib.hid (put3 E4 (.int .i64 8) (.int .i64 T.length) (.string ⟨#[]⟩))
          obtain ⟨⟨y0, y1, y2⟩, f0, f1, f2⟩ := look3 E4
          clear hA q1 q2 q3 q4 q5 E4 KD
          go_wp2
          have hE := HE.out
          have hS := HS.out
          clear HE HS
          generalize ((w4.setCell ⟨w.heap.size, 0, none⟩ (.int .i64 8)).setCell ⟨w.heap.size, 1, none⟩ (.int .i64 T.length)).setCell ⟨w.heap.size, 2, none⟩ (.string ⟨#[]⟩) = W at hE hS ⊢
          exact bodyPost_ret (res_ve (t := 7) (p := 6) rfl _ _ w.heap.size _ _ _ rfl hE) rfl (by rw [HQ1.out]; exact ⟨rfl, F', hS.1, hS.2⟩)
        · have hch' : charsB l = false := by simpa using hch
          have HQ1 : Hid (q = (⟨0, 0, ⟨#[]⟩⟩, 1, T)) := Lib.hid (by rw [HQ.out, madeT_no (by rw [madeB, hch', h2k]; simp)])
          rw [hch'] at KX
          have k2 : (kd == 2) = true := by simp [h2k]
          clear hmay hall hch hch' h2k
          go_wp2_with fail
          refine KA.out.mono ?_
          rintro e w2 ⟨rfl, hb2⟩
          have B2 := Lib.hid (B0.out.trans (hb2.mono B0.out.size))
          have Z2 := Lib.hid ((hb2.block w.heap.size (by omega)).trans Z0.out)
          have hs2 : w.heap.size + 1 ≤ w2.heap.size := by have := hb2.size; omega
          clear hb2 KA
          go_wp2_with fail
          refine (KX.out _ B2.out).mono ?_
          rintro e w3 ⟨rfl, hb3⟩
          have B3 := Lib.hid (B2.out.trans (hb3.mono B2.out.size))
          have Z3 := Lib.hid ((hb3.block w.heap.size (by omega)).trans Z2.out)
          obtain ⟨⟨y0, y1, y2⟩, f0, f1, f2⟩ := look3 Z3.out
          clear hb3
          go_wp2
          exact bodyPost_ret (res_ve (t := 7) (p := 6) rfl _ _ w.heap.size _ _ _ rfl (put3 Z3.out _ _ _)) rfl (by rw [HQ1.out]; exact DoOk.of HH.out rfl (put3_below B3.out (Nat.le_refl _) _ _ _))
      · have k2 : (kd == 2) = false := by simp [h2k]
        have HQ1 : Hid (q = (⟨8, T.length, ⟨#[]⟩⟩, 0, T ++ [(kd, l)])) := Lib.hid (by rw [HQ.out, madeT, madeB, hmay, hall, show (kd != 2) = true from by simp [h2k]]; rfl)
        clear hmay hall h2k
        go_wp2_with fail
        refine KA.out.mono ?_
        rintro e w2 ⟨rfl, hb2⟩
        have B2 := Lib.hid (B0.out.trans (hb2.mono B0.out.size))
        have Z2 := Lib.hid ((hb2.block w.heap.size (by omega)).trans Z0.out)
        have hs2 : w.heap.size + 1 ≤ w2.heap.size := by have := hb2.size; omega
        clear hb2 KA
        go_wp2_with fail
        refine (KC.out _ B2.out).mono ?_
        rintro e w3 ⟨⟨pv, g, rfl, hp, hg⟩, hb3⟩
        have B3 := B2.out.trans (hb3.mono B2.out.size)
        have hgg : l ≠ [] → w.heap.size + 1 ≤ g ∧ g < w3.heap.size := fun h => by have := hg h; omega
        have KD := Lib.hid (add_any kd l g pv hb T F w3 (HH.out.below B3) (fun b h => by have := HF.out b h; have := B3.size; omega) ⟨by have := HK.out; omega, by have := HK.out; omega⟩ hp (fun h => ⟨fun hf => by have := HF.out g hf; have := (hgg h).1; omega, (hgg h).2⟩) hT)
        have HGG := Lib.hid hgg
        have HB3 := Lib.hid B3
        have hs3 : w.heap.size + 1 ≤ w3.heap.size := by have := hb3.size; omega
        have Z3 := Lib.hid ((hb3.block w.heap.size (by omega)).trans Z2.out)
        clear hp hg hb3 B3 hgg
        go_wp2_with fail
        refine KD.out.mono ?_
        rintro e w4 hA
        obtain ⟨rfl, F', q1, q2, q3⟩ := hA.doOk (w := w) HB3.out (fun h => by have := (HGG.out h).1; omega)
        obtain ⟨q4, q5⟩ := q3 w.heap.size (by omega) (fun hf => by have := HF.out _ hf; omega) (fun h e => by have := (HGG.out h).1; omega)
        have E4 := q5.trans Z3.out
        have HS := Lib.hid (put_res q1 q2 q4 (Nat.le_refl _) (.int .i64 8) (.int .i64 T.length) (.string ⟨#[]⟩))
        have HE := Lib.hid (put3 E4 (.int .i64 8) (.int .i64 T.length) (.string ⟨#[]⟩))
        obtain ⟨⟨y0, y1, y2⟩, f0, f1, f2⟩ := look3 E4
        clear hA q1 q2 q3 q4 q5 E4 KD
        go_wp2
        have hE := HE.out
        have hS := HS.out
        clear HE HS
        generalize ((w4.setCell ⟨w.heap.size, 0, none⟩ (.int .i64 8)).setCell ⟨w.heap.size, 1, none⟩ (.int .i64 T.length)).setCell ⟨w.heap.size, 2, none⟩ (.string ⟨#[]⟩) = W at hE hS ⊢
        exact bodyPost_ret (res_ve (t := 7) (p := 6) rfl _ _ w.heap.size _ _ _ rfl hE) rfl (by rw [HQ1.out]; exact ⟨rfl, F', hS.1, hS.2⟩)
    · have hf : l.all (hasB T.length) = false := by simpa using hall
      rw [hf] at KA
      have HQ1 : Hid (q = (⟨0, 0, ⟨#[]⟩⟩, 1, T)) := Lib.hid (by rw [HQ.out, madeT_no (by rw [madeB, hf]; simp)])
      clear hmay hall hf
      go_wp2_with fail
      refine KA.out.mono ?_
      rintro e w2 ⟨rfl, hb2⟩
      have B2 := Lib.hid (B0.out.trans (hb2.mono B0.out.size))
      have Z2 := Lib.hid ((hb2.block w.heap.size (by omega)).trans Z0.out)
      obtain ⟨⟨y0, y1, y2⟩, f0, f1, f2⟩ := look3 Z2.out
      clear hb2
      go_wp2
      exact bodyPost_ret (res_ve (t := 7) (p := 6) rfl _ _ w.heap.size _ _ _ rfl (put3 Z2.out _ _ _)) rfl (by rw [HQ1.out]; exact DoOk.of HH.out rfl (put3_below B2.out (Nat.le_refl _) _ _ _))
  · have hm : mayB kd l.length = false := by simpa using hmay
    rw [hm]
    have HQ1 : Hid (q = (⟨0, 0, ⟨#[]⟩⟩, 1, T)) := Lib.hid (by rw [HQ.out, madeT_no (by rw [madeB, hm]; simp)])
    clear hmay hm
    obtain ⟨⟨y0, y1, y2⟩, f0, f1, f2⟩ := look3 Z0.out
    go_wp2
    exact bodyPost_ret (res_ve (t := 7) (p := 6) rfl _ _ w.heap.size _ _ _ rfl (put3 Z0.out _ _ _)) rfl (by rw [HQ1.out]; exact DoOk.of HH.out rfl (put3_below B0.out (Nat.le_refl _) _ _ _))
end Go.Proofs.YtpejhilfopjckaaDoor.Hp
