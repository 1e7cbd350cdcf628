/-
The law SignApart of layer 3: its walk. Where the two errors of strconv are as the program lays them.
-/
import Derived.Test.YtookdlbgadfbgaaDoorT17
namespace Go.Proofs.YtookdlbgadfbgaaDoor
open Go.ChangeShapes Go.WideShapes Go.ChangeAt Go.RowKit

theorem toks_err {l : List UInt8} (h : (toksT l).2.2 ≠ 0) : (toksT l).1 = [] := by
  unfold toksT at h ⊢
  split
  · rfl
  · rename_i h1
    rw [if_neg h1] at h
    split at h
    · exact absurd rfl h
    · rename_i h2; rw [if_neg h2]
theorem fits_drop {s : List UInt8} : ∀ {ts : List TkP} {e k : Nat} (h : k < ts.length), Fits s e (ts.drop k) → e ≤ ts[k].a ∧ ts[k].a < ts[k].b ∧ ts[k].b ≤ s.length ∧ oneT (s.drop ts[k].a) = (ts[k].t, ts[k].b - ts[k].a, 0) ∧ gapS false (s.drop ts[k].a) = s.drop ts[k].a ∧ Fits s ts[k].b (ts.drop (k + 1)) := by
  intro ts e k h hf
  rw [List.drop_eq_getElem_cons h, Fits] at hf
  exact hf
theorem toks_len {l : List UInt8} (h : (toksT l).2.2 = 0) : (toksT l).1.length ≤ 4096 := by
  obtain ⟨h1, h2, h3, _⟩ := toks_ok h
  rw [h3]
  have := run_length l.length _ 0 (gapS false l) (Nat.le_refl _)
  have := gapS_le false l
  omega

set_option maxRecDepth 100000 in
set_option maxHeartbeats 2000000 in
theorem apart_walk (s : ByteArray) (w : World) (hs : s.size ≤ maxLen) (hE : ErrsOk w) :
    Calls Tryd.prog 5 #[.string s] w fun e w' => e = .returned (.bool true) ∧ Below w.heap.size w w' := by
  have HE := Lib.hid (fun W (h : Below w.heap.size w W) => hE.below h hE.two)
  have C := tokens_any s w hs hE
  have HF := Lib.hid (fun W h => fixed_any W h)
  by_cases hr : (toksT s.data.toList).2.2 = 0
  · have hfit := toks_fits hr
    have hlen := toks_len hr
    obtain ⟨hsz, _, _, hpl⟩ := toks_ok hr
    rw [len_data] at hsz
    obtain ⟨q, hq⟩ : ∃ q, q = toksT s.data.toList := ⟨_, rfl⟩
    rw [← hq] at C hr hfit hlen hpl
    obtain ⟨ts, pl, er⟩ := q
    simp only at hr hfit hlen hpl
    subst hr hpl
    have HFIT := Lib.hid hfit
    have H := Lib.hid C
    have HTA : Hid (∀ (x : ByteArray) W, x.size ≤ 4096 → Below w.heap.size w W → Calls Tryd.prog 8 #[.string x] W fun e w' => ToksOk (toksT x.data.toList) W.heap.size e w' ∧ Below W.heap.size W w') := Lib.hid (fun x W h hb => tokens_any x W (by unfold maxLen; omega) (HE.out W hb))
    have HL := Lib.hid (len_data s)
    clear C hfit hE hs hq
    go_enter Tryd.func5, Tryd.ntmps5
    go_wp2_with fail
    refine H.out.mono ?_
    rintro e w1 ⟨⟨v, rfl, o1⟩, hb1⟩
    have B1 := Lib.hid hb1
    have O1 := Lib.hid o1.at
    clear o1 hb1
    go_wp2_with fail
    refine (HF.out w1 (HE.out w1 B1.out)).mono ?_
    rintro e w2 ⟨rfl, hb2⟩
    have B2 := Lib.hid (B1.out.trans (hb2.mono B1.out.size))
    have O2 := Lib.hid (O1.out.below hb2 (Nat.le_refl _))
    have hsz2 : w.heap.size ≤ w2.heap.size := B2.out.size
    clear hb2 O1 B1
    obtain ⟨a, c, e, hc1, hc2, hcells⟩ := O2.out
    subst e
    have HCL := Lib.hid hcells
    unfold maxLen at hc2
    clear hcells
    go_wp2
    go_loopw [6, 7] (fun en i wr => ∃ k e : Nat, k ≤ ts.length ∧ i = .int .i64 k ∧ en = .int .i64 e ∧ e ≤ 4096 ∧ Fits s.data.toList e (ts.drop k) ∧ Below w2.heap.size w2 wr) (fun _ i _ => ts.length - (intOf i).toNat)
    case atStart => exact ⟨0, 0, Nat.zero_le _, rfl, rfl, Nat.zero_le _, HFIT.out, Below.refl _ _⟩
    case round =>
      obtain ⟨k, en, hk, rfl, rfl, hen, hf, hbr⟩ := hrel
      have HB := Lib.hid hbr
      have hszr : w2.heap.size ≤ wr.heap.size := HB.out.size
      by_cases hlt : k < ts.length
      · obtain ⟨p1, p2, p3, p4, p5, p6⟩ := fits_drop hlt hf
        rw [HL.out] at p3
        rcases HCL.out with h0 | ⟨g, o, rfl, hg, hcell⟩
        · rw [h0] at hlt; simp at hlt
        have hcr : ∀ (j : Nat) x, (cellsOf ts)[j]? = some x → wr.cell? ⟨g, o + j, none⟩ = some x := fun j x hj => by
          rw [hbr.cell (p := ⟨g, o + j, none⟩) (by show g < _; omega)]; exact hcell j x hj
        obtain ⟨x0, x1, x2, x3, x4⟩ := cells_item hcr k hlt
        have HONE : Hid (∀ W, Below w2.heap.size w2 W → TokAt W [ts[k]] (.slice (some ⟨g, o + k * 5, none⟩) 1 (c - k))) := Lib.hid (fun W hbW => by
          refine ⟨_, c - k, rfl, by simp; omega, by unfold maxLen; omega, .inr ⟨g, o + k * 5, rfl, by have := hbW.size; omega, fun j x hj => ?_⟩⟩
          have hj5 : j < 5 := by
            have := (List.getElem?_eq_some_iff.1 hj).1
            rw [cellsOf_len] at this; simpa using this
          rw [Nat.add_assoc, hbW.cell (p := ⟨g, o + (k * 5 + j), none⟩) (by show g < _; omega)]
          refine hcell _ x ?_
          rw [cellsOf_get ts k hlt j hj5]
          rw [cellsOf_one] at hj
          exact hj)
        clear hcr hbr hf hcell
        generalize ts[k] = q at p1 p2 p3 p4 p5 p6 x0 x1 x2 x3 x4 HONE
        obtain ⟨t, qa, qb⟩ := q
        simp only at p1 p2 p3 p4 p5 p6 x0 x1 x2 x3 x4
        have P6 := Lib.hid p6
        by_cases h40 : 40 < k
        · clear p4 p5 p6
          have h40' : (40 : Int) < (k : Int) := by omega
          go_wp2
          go_roundw
          case rel => exact ⟨k + 1, qb, by omega, by go_num, rfl, by omega, P6.out, HB.out.alloc hszr _⟩
          case measure => simp [intOf]; omega
        · have h40' : (k : Int) ≤ 40 := by omega
          have hal : toksT (s.extract qa qb).data.toList = ([⟨t, 0, qb - qa⟩], 0, 0) := by
            rw [extract_list]
            exact toks_alone p4 p5 (by omega)
          have CT := fun W hb => HTA.out (s.extract qa qb) W (by simp; omega) hb
          rw [hal] at CT
          have HCT := Lib.hid CT
          clear p4 p5 p6 hal CT h40
          go_wp2_with fail
          refine (HCT.out _ ((B2.out.trans (HB.out.mono B2.out.size)).alloc (by omega) _)).mono ?_
          rintro e w3 ⟨⟨v3, rfl, o3⟩, hb3⟩
          have B3 := Lib.hid ((HB.out.alloc hszr _).trans (hb3.mono (by simp; omega)))
          have O3 := Lib.hid o3.at
          clear o3 hb3
          go_wp2_with fail
          refine (alike_any [⟨t, 0, qb - qa⟩] [⟨t, qa, qb⟩] rfl _ _ w3 O3.out (HONE.out w3 B3.out) (by simp)).mono ?_
          rintro e w4 ⟨rfl, hb4⟩
          have B4 := Lib.hid (B3.out.trans (hb4.mono B3.out.size))
          clear hb4
          go_wp2
          go_roundw
          case rel => exact ⟨k + 1, qb, by omega, by go_num, rfl, by omega, P6.out, B4.out⟩
          case measure => simp [intOf]; omega
      · obtain rfl : k = ts.length := by omega
        clear hf
        go_wp2
        go_ret
        exact ⟨rfl, B2.out.trans (HB.out.mono B2.out.size)⟩
  · have h0 := toks_err hr
    generalize toksT s.data.toList = q at C h0 hr
    obtain ⟨ts, pl, er⟩ := q
    simp only at C h0 hr
    subst h0
    have H := Lib.hid C
    have hr' : (er != 0) = true := by simpa using hr
    have hr'' : (er == 0) = false := by simpa using hr
    clear C hr hE
    go_enter Tryd.func5, Tryd.ntmps5
    go_wp2_with fail
    refine H.out.mono ?_
    rintro e w1 ⟨⟨v, rfl, o1⟩, hb1⟩
    have B1 := Lib.hid hb1
    obtain ⟨a, c, rfl⟩ := TokOwn.shape o1
    clear o1 hb1
    go_wp2_with fail
    refine (HF.out w1 (HE.out w1 B1.out)).mono ?_
    rintro e w2 ⟨rfl, hb2⟩
    have B2 := Lib.hid (B1.out.trans (hb2.mono B1.out.size))
    clear hb2
    go_wp2_with fail
    refine (HF.out w2 (HE.out w2 B2.out)).mono ?_
    rintro e w3 ⟨rfl, hb3⟩
    have B3 := Lib.hid (B2.out.trans (hb3.mono B2.out.size))
    clear hb3
    go_wp2
    go_ret
    exact ⟨rfl, B3.out⟩
end Go.Proofs.YtookdlbgadfbgaaDoor
