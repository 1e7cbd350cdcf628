/-
Package core's seek: which names are free in an expression. No condition.
-/
import Derived.Test.YtkjgdnfkpebejaaK32

namespace Go.Proofs.Ytkjgdnfkpebejaa.Core
open Go.ChangeShapes Go.WideShapes Go.ChangeAt Go.RowKit Go.Deep
open Dat (PT ok64)
set_option maxRecDepth 100000

def incF (F : ByteArray → Int) (s : ByteArray) : ByteArray → Int := fun t => if t = s then F s + 1 else F t
mutual
/-- How often each name is free, behind what there is; B: how often each is bound. -/
def seekE (B F : ByteArray → Int) : PE → ByteArray → Int
  | .mk k nm ns _ l => seekEs (fun i => if fromT k l.length ≤ i then addB B ns 1 else B) 0 (if (k = 1 ∨ k = 2) ∧ B nm = 0 then incF F nm else F) l
def seekEs (Bs : Nat → ByteArray → Int) (i : Nat) (F : ByteArray → Int) : List PE → ByteArray → Int
  | [] => F
  | t :: l => seekEs Bs (i + 1) (seekE (Bs i) F t) l
end
theorem seekEs_snoc (Bs : Nat → ByteArray → Int) : ∀ (l : List PE) (t : PE) (i : Nat) (F : ByteArray → Int), seekEs Bs i F (l ++ [t]) = seekE (Bs (i + l.length)) (seekEs Bs i F l) t
  | [], t, i, F => by simp [seekEs]
  | u :: l, t, i, F => by
    simp only [List.cons_append, seekEs, List.length_cons]
    rw [seekEs_snoc Bs l t]
    congr 2
    omega
/-- The counts as a map's entries. -/
def toM (F : ByteArray → Int) : ByteArray → Option Int := fun s => if F s = 0 then none else some (F s)
theorem toM_get (F : ByteArray → Int) (s : ByteArray) : (toM F s).getD 0 = F s := by
  unfold toM
  split
  · rename_i h; rw [h]; rfl
  · rfl
theorem toM_inc (F : ByteArray → Int) (s : ByteArray) (h : 0 ≤ F s) : setM (toM F) s (F s + 1) = toM (incF F s) := by
  funext t
  unfold setM toM incF
  by_cases e : t = s
  · subst e
    simp
    omega
  · simp [e]
/-- Free counts in a map: no more than so many. -/
def MapF (w : World) (b n : Nat) (F : ByteArray → Int) : Prop := MapI w b n (toM F) ∧ ∀ s, 0 ≤ F s ∧ F s ≤ n
theorem MapF.at {w w' : World} {b n : Nat} {F : ByteArray → Int} (h : MapF w b n F) (hb : w'.heap[b]? = w.heap[b]?) : MapF w' b n F := ⟨h.1.at hb, h.2⟩
theorem MapF.mono {w : World} {b n n' : Nat} {F : ByteArray → Int} (h : MapF w b n F) (hn : n ≤ n') : MapF w b n' F := ⟨h.1.mono hn, fun s => by have := h.2 s; omega⟩
theorem MapF.inc {w : World} {b n : Nat} {F : ByteArray → Int} {s : ByteArray} (h : MapI w b (n + 1) (setM (toM F) s (F s + 1))) (hF : ∀ s, 0 ≤ F s ∧ F s ≤ (n : Int)) : MapF w b (n + 1) (incF F s) := by
  refine ⟨by rw [← toM_inc F s (hF s).1]; exact h, fun t => ?_⟩
  have h1 := hF t
  have h2 := hF s
  unfold incF
  split <;> omega
def SeekOk (t : PE) : Prop := ∀ (w : World) (S : Nat → Prop) (bb fb n : Nat) (B F : ByteArray → Int) (vn vd vk : Value), InF w S t vn vd vk → (∀ b, S b → b < w.heap.size ∧ b ≠ bb ∧ b ≠ fb) → bb ≠ fb → MapB w bb n B → MapF w fb n F → (∀ s, 0 ≤ B s ∧ B s ≤ n) → n + 2 * sizeE t ≤ 1000000000 →
  Calls Try.prog 34 #[.agg #[.map (some bb), .map (some fb)], t.val vn vd vk] w fun e w' => e = .returned (.tuple #[]) ∧ MapB w' bb (n + 2 * sizeE t) B ∧ MapF w' fb (n + 2 * sizeE t) (seekE B F t) ∧ KQ w bb fb w'
set_option maxHeartbeats 40000000 in
theorem seek_some (k : Int) (nm : ByteArray) (ns : List ByteArray) (ck ci : Int) (cs : ByteArray) (cl : List PT) (l : List PE) (ih : ∀ t ∈ l, SeekOk t) (w : World) (S : Nat → Prop) (bb fb n : Nat) (B F VF : ByteArray → Int) (an ad : Option Addr) (cn cd c : Nat) (b0 o0 : Nat) (h : InF w S (.mk k nm ns (.mk ck ci cs cl) l) (.slice an ns.length cn) (.slice ad cl.length cd) (.slice (some ⟨b0, o0, none⟩) l.length c)) (hS : ∀ b, S b → b < w.heap.size ∧ b ≠ bb ∧ b ≠ fb) (hne : bb ≠ fb) (hB : MapB w bb n B) (hF : MapF w fb n F) (hBn : ∀ s, 0 ≤ B s ∧ B s ≤ n) (hsz : n + 2 * (1 + ns.length + sizeEs l) ≤ 1000000000) (hln : ns.length ≤ cn) (hmn : cn ≤ maxLen) (hl : l.length ≤ c) (hm : c ≤ maxLen) (hcap : fromT k l.length < c ∨ fromT k l.length = c)
    (hv : (¬ (k = 1 ∨ k = 2) ∧ VF = F) ∨ ((k = 1 ∨ k = 2) ∧ B nm ≠ 0 ∧ VF = F) ∨ ((k = 1 ∨ k = 2) ∧ B nm = 0 ∧ VF = incF F nm)) :
    Calls Try.prog 34 #[.agg #[.map (some bb), .map (some fb)], .agg #[.int .i64 k, .string nm, .slice an ns.length cn, .int .i64 ck, .int .i64 ci, .string cs, .slice ad cl.length cd, .slice (some ⟨b0, o0, none⟩) l.length c]] w fun e w' => e = .returned (.tuple #[]) ∧ MapB w' bb (n + 2 * (1 + ns.length + sizeEs l)) B ∧ MapF w' fb (n + 2 * (1 + ns.length + sizeEs l)) (seekEs (fun i => if fromT k l.length ≤ i then addB B ns 1 else B) 0 VF l) ∧ KQ w bb fb w' := by
  have HI := Lib.hid h
  have HK := Lib.hid h.2.2
  have IH := Lib.hid ih
  have HNMS := Lib.hid h.1.2.1
  unfold maxLen at hmn hm
  obtain ⟨z0, z1, zb⟩ := two_new w (.cells #[.map (some bb), .map (some fb)] 70) (.cells #[.int .i64 k, .string nm, .slice an ns.length cn, .int .i64 ck, .int .i64 ci, .string cs, .slice ad cl.length cd, .slice (some ⟨b0, o0, none⟩) l.length c] 28)
  generalize hw0 : (w.alloc (.cells #[.map (some bb), .map (some fb)] 70)).alloc (.cells #[.int .i64 k, .string nm, .slice an ns.length cn, .int .i64 ck, .int .i64 ci, .string cs, .slice ad cl.length cd, .slice (some ⟨b0, o0, none⟩) l.length c] 28) = w0 at z0 z1 zb
  have HW0 := Lib.hid hw0
  have HBL := Lib.hid hB.lt
  have HFL : Hid (fb < w.heap.size) := Lib.hid hF.1.lt
  have HZ0 : Hid (w0.heap.size = w.heap.size + 2) := Lib.hid (by rw [← hw0, size_new, size_new])
  have HQ0 : Hid (KQ w bb fb w0) := Lib.hid (by rw [← hw0]; exact ((KQ.refl _ _ _).alloc _).alloc _)
  have HX : Hid (∀ W, KQ w0 bb fb W → W.heap[w.heap.size]? = some (.cells #[.map (some bb), .map (some fb)] 70 (0, 0)) ∧ W.heap[w.heap.size + 1]? = some (.cells #[.int .i64 k, .string nm, .slice an ns.length cn, .int .i64 ck, .int .i64 ci, .string cs, .slice ad cl.length cd, .slice (some ⟨b0, o0, none⟩) l.length c] 28 (0, 0))) := Lib.hid fun W hW =>
    ⟨(hW.2 _ (by rw [HZ0.out]; omega) (by have := HBL.out; omega) (by have := HFL.out; omega)).trans z0, (hW.2 _ (by rw [HZ0.out]; omega) (by have := HBL.out; omega) (by have := HFL.out; omega)).trans z1⟩
  have HMV : Hid (∀ W, KQ w0 bb fb W → InF W S (.mk k nm ns (.mk ck ci cs cl) l) (.slice an ns.length cn) (.slice ad cl.length cd) (.slice (some ⟨b0, o0, none⟩) l.length c) ∧ ∀ b, S b → b < W.heap.size ∧ b ≠ bb ∧ b ≠ fb) := Lib.hid fun W hW =>
    ⟨HI.out.move (fun _ h _ => h) fun b o v hs hc => by
      have hb := hS b hs
      rw [World.cell?_of_block (w := w) (a := ⟨b, o, none⟩) ((hW.2 b (by rw [HZ0.out]; omega) hb.2.1 hb.2.2).trans (HQ0.out.2 b hb.1 hb.2.1 hb.2.2))]; exact hc, fun b h => ⟨by have := (hS b h).1; have := hW.1.size; rw [HZ0.out] at this; omega, (hS b h).2⟩⟩
  have HB0 : Hid (MapB w0 bb n B) := Lib.hid (hB.at (by rw [← hw0, Below.heap_alloc _ _ _ (by rw [size_new]; exact Nat.lt_succ_of_lt HBL.out), Below.heap_alloc _ _ _ HBL.out]))
  have HF0 : Hid (MapF w0 fb n F) := Lib.hid (hF.at (by rw [← hw0, Below.heap_alloc _ _ _ (by rw [size_new]; exact Nat.lt_succ_of_lt HFL.out), Below.heap_alloc _ _ _ HFL.out]))
  have BOXES : Hid (∀ W, KQ w0 bb fb W → W.cell? ⟨w.heap.size, 0, none⟩ = some (.map (some bb)) ∧ W.cell? ⟨w.heap.size, 1, none⟩ = some (.map (some fb)) ∧ W.cell? ⟨w.heap.size + 1, 0, none⟩ = some (.int .i64 k) ∧ W.cell? ⟨w.heap.size + 1, 1, none⟩ = some (.string nm) ∧ W.cell? ⟨w.heap.size + 1, 2, none⟩ = some (.slice an ns.length cn) ∧ W.cell? ⟨w.heap.size + 1, 3, none⟩ = some (.int .i64 ck) ∧ W.cell? ⟨w.heap.size + 1, 4, none⟩ = some (.int .i64 ci) ∧ W.cell? ⟨w.heap.size + 1, 5, none⟩ = some (.string cs) ∧ W.cell? ⟨w.heap.size + 1, 6, none⟩ = some (.slice ad cl.length cd) ∧ W.cell? ⟨w.heap.size + 1, 7, none⟩ = some (.slice (some ⟨b0, o0, none⟩) l.length c)) := Lib.hid fun W hW => by
    obtain ⟨h1, h2⟩ := HX.out W hW
    refine ⟨?_, ?_, ?_, ?_, ?_, ?_, ?_, ?_, ?_, ?_⟩
    all_goals first | (rw [Lib.cell_of_heap h1]; rfl) | (rw [Lib.cell_of_heap h2]; rfl)
  have KV := Lib.hid (fun W => isVariable_any k nm (.slice an ns.length cn) ck ci cs (.slice ad cl.length cd) (.slice (some ⟨b0, o0, none⟩) l.length c) W)
  have KF := Lib.hid (fun W => boundFrom_any k nm (.slice an ns.length cn) ck ci cs (.slice ad cl.length cd) (some ⟨b0, o0, none⟩) l.length c W hl (by unfold maxLen; exact hm))
  have HFR : Hid (fromT k l.length ≤ l.length) := Lib.hid (by unfold fromT; split; omega; split; omega; omega)
  have Q0 : Hid (KQ w0 bb fb w0) := Lib.hid (KQ.refl _ _ _)
  have HBN := Lib.hid hBn
  have HSN := Lib.hid (fun (b : Nat) (hb : S b) => (hS b hb).2.1)
  clear hw0 z0 z1 zb ih hB hF hBn h
  have HVV := hv
  clear hv
  rcases HVV with hv | hv | hv
  focus
    obtain ⟨hv, hVF⟩ := hv
    have HVF := Lib.hid hVF
    clear hVF
    have hvb : (decide (k = 1) || decide (k = 2)) = false := by
      rw [Bool.or_eq_false_iff]
      simp only [decide_eq_false_iff_not]
      omega
    rw [hvb] at KV
    clear hv hvb
    obtain ⟨m0, m1, x0, x1, x2, x3, x4, x5, x6, x7⟩ := BOXES.out _ Q0.out
    go_enter Try.func34, Try.ntmps34
    go_wp2_with fail
    rw [HW0.out]
    refine (KV.out _).mono ?_
    rintro e w1 ⟨rfl, hb1⟩
    have HQ1 := Lib.hid (Q0.out.next hb1)
    have HB1 := Lib.hid ((HB0.out.at (hb1.block bb HB0.out.lt)).mono (n' := n + 1) (by omega))
    have HF1 := Lib.hid ((HF0.out.at (hb1.block fb HF0.out.1.lt)).mono (n' := n + 1) (by omega))
    clear hb1 m0 m1 x0 x1 x2 x3 x4 x5 x6 x7
    rw [← HVF.out] at HF1
  rotate_left
  focus
    obtain ⟨hv, hbn, hVF⟩ := hv
    have HVF := Lib.hid hVF
    clear hVF
    have hvb : (decide (k = 1) || decide (k = 2)) = true := by simpa using hv
    rw [hvb] at KV
    obtain ⟨mB, hmB, hmv⟩ := HB0.out
    have HMB := Lib.hid hmB
    have hcv := hmv nm HNMS.out
    generalize hbz : B nm = z at hcv hbn
    have hz : (z == 0) = false := by simpa using hbn
    have HCV := Lib.hid hcv
    clear hv hvb hmB hmv hbz hcv hbn
    obtain ⟨m0, m1, x0, x1, x2, x3, x4, x5, x6, x7⟩ := BOXES.out _ Q0.out
    go_enter Try.func34, Try.ntmps34
    go_wp2_with fail
    rw [HW0.out]
    refine (KV.out _).mono ?_
    rintro e w1 ⟨rfl, hb1⟩
    have HQ1 := Lib.hid (Q0.out.next hb1)
    have HB1 := Lib.hid ((HB0.out.at (hb1.block bb HB0.out.lt)).mono (n' := n + 1) (by omega))
    have HF1 := Lib.hid ((HF0.out.at (hb1.block fb HF0.out.1.lt)).mono (n' := n + 1) (by omega))
    have HMB1 := Lib.hid (HMB.out.at (hb1.block bb HB0.out.lt))
    clear hb1 m0 m1 x0 x1 x2 x3 x4 x5 x6 x7
    obtain ⟨m0, m1, x0, x1, x2, x3, x4, x5, x6, x7⟩ := BOXES.out _ HQ1.out
    have hlk := HMB1.out.look nm HNMS.out
    rw [HCV.out] at hlk
    rw [← HVF.out] at HF1
  rotate_left
  focus
    obtain ⟨hv, hbn, hVF⟩ := hv
    have HVF := Lib.hid hVF
    clear hVF
    have hvb : (decide (k = 1) || decide (k = 2)) = true := by simpa using hv
    rw [hvb] at KV
    obtain ⟨mB, hmB, hmv⟩ := HB0.out
    have HMB := Lib.hid hmB
    have hcv := hmv nm HNMS.out
    rw [hbn] at hcv
    have HCV := Lib.hid hcv
    clear hv hvb hmB hmv hcv hbn
    obtain ⟨m0, m1, x0, x1, x2, x3, x4, x5, x6, x7⟩ := BOXES.out _ Q0.out
    go_enter Try.func34, Try.ntmps34
    go_wp2_with fail
    rw [HW0.out]
    refine (KV.out _).mono ?_
    rintro e w3 ⟨rfl, hb3⟩
    have HQ3 := Lib.hid (Q0.out.next hb3)
    have HB3 := Lib.hid (HB0.out.at (hb3.block bb HB0.out.lt))
    have HF3 := Lib.hid (HF0.out.at (hb3.block fb HF0.out.1.lt))
    have HMB3 := Lib.hid (HMB.out.at (hb3.block bb HB0.out.lt))
    clear hb3 m0 m1 x0 x1 x2 x3 x4 x5 x6 x7
    obtain ⟨m0, m1, x0, x1, x2, x3, x4, x5, x6, x7⟩ := BOXES.out _ HQ3.out
    have hlk := HMB3.out.look nm HNMS.out
    rw [HCV.out] at hlk
    have hlk2 := HF3.out.1.look nm HNMS.out
    rw [toM_get] at hlk2
    have hF1 := (HF3.out.2 nm).1
    have hF2 := (HF3.out.2 nm).2
    have HINC := Lib.hid (fun w' h => MapF.inc (w := w') (b := fb) (n := n) (F := F) (s := nm) h HF3.out.2)
    generalize F nm = z at *
    obtain ⟨w1, hrun, hm1, hg1⟩ := HF3.out.1.store (by unfold maxLen; omega) nm (z + 1) HNMS.out ⟨by omega, by omega⟩
    have HF1 := Lib.hid (HINC.out w1 hm1)
    have HB1 := Lib.hid ((HB3.out.at (hg1.block bb HB3.out.lt (by simpa using hne))).mono (n' := n + 1) (by omega))
    have HQ1 := Lib.hid (HQ3.out.grow hg1 (.inr rfl))
    clear hm1 hg1
    rw [← HVF.out] at HF1
  rotate_left
  all_goals
    have D1 := Lib.hid (BOXES.out _ HQ1.out)
    obtain ⟨m0, m1, x0, x1, x2, x3, x4, x5, x6, x7⟩ := D1.out
    go_wp2_with fail
    refine (KF.out _).mono ?_
    rintro e w2 ⟨rfl, hb2⟩
    have HQ2 := Lib.hid (HQ1.out.next hb2)
    have HB2 := Lib.hid (HB1.out.at (hb2.block bb (HB1.out.lt)))
    have HF2 := Lib.hid (HF1.out.at (hb2.block fb (HF1.out.1.lt)))
    clear hb2 m0 m1 x0 x1 x2 x3 x4 x5 x6 x7
    obtain ⟨m0, m1, x0, x1, x2, x3, x4, x5, x6, x7⟩ := BOXES.out _ HQ2.out
    generalize hq : fromT k l.length = q at *
    have HQQ := Lib.hid hq
    clear hq
    rcases hcap with hcap | hcap
    rotate_left
    focus
      subst hcap
      have hql := HFR.out
      have hqc : q ≤ q := Nat.le_refl _
    rotate_left
    focus
      have hql := HFR.out
      have hqc : q ≤ c := by omega
    all_goals
      generalize hBs : (fun i => if q ≤ i then addB B ns 1 else B) = Bs
      have HBS : Hid (∀ i, Bs i = if q ≤ i then addB B ns 1 else B) := Lib.hid fun i => by rw [← hBs]
      have HBSE := Lib.hid hBs
      clear hBs
      go_wp2
      go_loopw [32] (fun ix wr => ∃ j : Nat, j ≤ q ∧ ix = .int .i64 j ∧ MapB wr bb (n + 1 + 2 * sizeEs (l.take j)) B ∧ MapF wr fb (n + 1 + 2 * sizeEs (l.take j)) (seekEs Bs 0 VF (l.take j)) ∧ KQ w0 bb fb wr) (fun i _ => q - (intOf i).toNat)
      case atStart => exact ⟨0, Nat.zero_le _, rfl, by rw [List.take_zero, sizeEs]; exact HB2.out, by rw [List.take_zero, sizeEs, seekEs]; exact HF2.out, HQ2.out⟩
      case round =>
        clear m0 m1 x0 x1 x2 x3 x4 x5 x6 x7
        obtain ⟨j, hj, rfl, hmb, hmf, hkq⟩ := hrel
        have HMB3 := Lib.hid hmb
        have HMF3 := Lib.hid hmf
        have HKQ3 := Lib.hid hkq
        by_cases hlt : j < q
        · have hlt2 : j < l.length := by omega
          obtain ⟨b', o', c', ea, _, _, hS1, hE1⟩ := (HMV.out _ hkq).1.2.2.item (j) (by omega)
          cases ea
          have HTS : Hid (seekEs Bs 0 VF (l.take (j + 1)) = seekE (B) (seekEs Bs 0 VF (l.take (j))) l[j]) := Lib.hid (by
            rw [List.take_succ_eq_append_getElem (by omega), seekEs_snoc, List.length_take, Nat.min_eq_left (by omega), HBS.out]
            rw [if_neg (by omega)])
          have HTZ : Hid (sizeEs (l.take (j + 1)) = sizeEs (l.take (j)) + sizeE l[j]) := Lib.hid (by rw [List.take_succ_eq_append_getElem (by omega), sizeEs_snoc])
          have hIHj := IH.out l[j] (List.getElem_mem _)
          have hzz : sizeEs (l.take (j)) + sizeE l[j] ≤ sizeEs l := by rw [← HTZ.out]; exact sizeEs_take _ _
          have hS3 := (HMV.out _ hkq).2
          clear hmb hmf hkq
          generalize seekEs Bs 0 VF (l.take (j)) = F' at *
          generalize sizeEs (l.take (j)) = z' at *
          generalize l[j] = t at hE1 hIHj HTS HTZ hzz
          obtain ⟨tk, tn, tns, ⟨tck, tci, tcs, tcl⟩, tl⟩ := t
          obtain ⟨tvn, tvd, tvk, hF1', a0, a1, a2, a3, a4, a5, a6, a7⟩ := hE1.cells
          have hbb := World.block_lt_of_cell? _ _ a0
          have KC := Lib.hid (fun o : Obj => hIHj (wr.alloc o) S bb fb (n + 1 + 2 * z') (B) F' tvn tvd tvk (hF1'.below (bel_alloc' (Below.refl _ _) o)) (fun b h => ⟨by have := (hS3 b h).1; rw [size_new]; omega, (hS3 b h).2⟩) hne (HMB3.out.at (Below.heap_alloc _ _ _ HMB3.out.lt)) (HMF3.out.at (Below.heap_alloc _ _ _ HMF3.out.1.lt)) (fun s => by have h1 := HBN.out s; omega) (by omega))
          have D3 := BOXES.out _ HKQ3.out
          have hwl := lt_of_block (HX.out _ HKQ3.out).1
          have hwl1 := lt_of_block (HX.out _ HKQ3.out).2
          obtain ⟨m0, m1, x0, x1, x2, x3, x4, x5, x6, x7⟩ := D3
          obtain ⟨⟨_, _, hn1'⟩, ⟨_, _, _, hd1'⟩, hk1'⟩ := hF1'
          obtain ⟨_, _, rfl, -⟩ := hn1'
          obtain ⟨_, _, rfl, -⟩ := hd1'
          obtain ⟨_, _, rfl, -⟩ := hk1'
          unfold PE.val at KC
          generalize sizeE (.mk tk tn tns (.mk tck tci tcs tcl) tl) = z'' at KC HTZ hzz
          generalize seekE (B) F' (.mk tk tn tns (.mk tck tci tcs tcl) tl) = F'' at KC HTS
          clear hE1 hIHj hS3
          go_wp2_with fail
          refine (KC.out _).mono ?_
          rintro e w5 ⟨rfl, hb5, hf5, hk5⟩
          have HMB5 := Lib.hid hb5
          have HMF5 := Lib.hid hf5
          have HKQ5 := Lib.hid ((HKQ3.out.alloc _).trans hk5)
          clear hb5 hf5 hk5 m0 m1 x0 x1 x2 x3 x4 x5 x6 x7
          go_wp2
          go_roundw
          case rel => exact ⟨j + 1, by omega, by go_num, by rw [show j + 1 = j + 1 from rfl, HTZ.out, Nat.mul_add, ← Nat.add_assoc]; exact HMB5.out, by rw [show j + 1 = j + 1 from rfl, HTS.out, HTZ.out, Nat.mul_add, ← Nat.add_assoc]; exact HMF5.out, HKQ5.out⟩
          case measure => simp [intOf]; omega
        · obtain rfl : q = j := by omega
          have hsq : sizeEs (l.take q) ≤ sizeEs l := sizeEs_take _ _
          have KN := Lib.hid (count_any ns S (.slice an ns.length cn) fb 1 bb (n + 1 + 2 * sizeEs (l.take q)) B wr (HMV.out _ hkq).1.1.2.2 HSN.out HMB3.out (by omega) (.inl rfl) (fun s => by have := HBN.out s; omega))
          obtain ⟨m0, m1, x0, x1, x2, x3, x4, x5, x6, x7⟩ := BOXES.out _ hkq
          have hwl := lt_of_block (HX.out _ hkq).1
          have hwl1 := lt_of_block (HX.out _ hkq).2
          clear hmb hmf hkq
          go_wp2_with fail
          refine KN.out.mono ?_
          rintro e w4 ⟨rfl, hb4, hk4⟩
          have HMB4 := Lib.hid hb4
          have HMF4 := Lib.hid ((HMF3.out.at (hk4.2 fb HMF3.out.1.lt (by simpa using hne.symm))).mono (n' := n + 1 + 2 * sizeEs (l.take q) + ns.length) (by omega))
          have HKQ4 := Lib.hid (HKQ3.out.trans ⟨hk4.1, fun b h1 h2 h3 => hk4.2 b h1 (by simpa using h2)⟩)
          clear hb4 hk4 m0 m1 x0 x1 x2 x3 x4 x5 x6 x7
          obtain ⟨m0, m1, x0, x1, x2, x3, x4, x5, x6, x7⟩ := BOXES.out _ HKQ4.out
          go_wp2
          go_loopw [49] (fun ix wr => ∃ j : Nat, j ≤ l.length - q ∧ ix = .int .i64 j ∧ MapB wr bb (n + 1 + ns.length + 2 * sizeEs (l.take (q + j))) (addB B ns 1) ∧ MapF wr fb (n + 1 + ns.length + 2 * sizeEs (l.take (q + j))) (seekEs Bs 0 VF (l.take (q + j))) ∧ KQ w0 bb fb wr) (fun i _ => l.length - q - (intOf i).toNat)
          case atStart => exact ⟨0, Nat.zero_le _, rfl, by rw [show q + 0 = q from rfl, show n + 1 + ns.length + 2 * sizeEs (l.take q) = n + 1 + 2 * sizeEs (l.take q) + ns.length by omega]; exact HMB4.out, by rw [show q + 0 = q from rfl, show n + 1 + ns.length + 2 * sizeEs (l.take q) = n + 1 + 2 * sizeEs (l.take q) + ns.length by omega]; exact HMF4.out, HKQ4.out⟩
          case round =>
           rename_i wr0
           clear m0 m1 x0 x1 x2 x3 x4 x5 x6 x7
           obtain ⟨j, hj, rfl, hmb, hmf, hkq⟩ := hrel
           clear HMB3 HMF3 HKQ3
           have HMB3 := Lib.hid hmb
           have HMF3 := Lib.hid hmf
           have HKQ3 := Lib.hid hkq
           by_cases hlt : j < l.length - q
           · first
             | (exfalso; omega)
             | (
                   have hlt2 : q + j < l.length := by omega
                   obtain ⟨b', o', c', ea, _, _, hS1, hE1⟩ := (HMV.out _ hkq).1.2.2.item (q + j) (by omega)
                   cases ea
                   have HTS : Hid (seekEs Bs 0 VF (l.take (q + j + 1)) = seekE (addB B ns 1) (seekEs Bs 0 VF (l.take (q + j))) l[q + j]) := Lib.hid (by
                     rw [List.take_succ_eq_append_getElem (by omega), seekEs_snoc, List.length_take, Nat.min_eq_left (by omega), HBS.out]
                     rw [if_pos (by omega)])
                   have HTZ : Hid (sizeEs (l.take (q + j + 1)) = sizeEs (l.take (q + j)) + sizeE l[q + j]) := Lib.hid (by rw [List.take_succ_eq_append_getElem (by omega), sizeEs_snoc])
                   have hIHj := IH.out l[q + j] (List.getElem_mem _)
                   have hzz : sizeEs (l.take (q + j)) + sizeE l[q + j] ≤ sizeEs l := by rw [← HTZ.out]; exact sizeEs_take _ _
                   have hS3 := (HMV.out _ hkq).2
                   clear hmb hmf hkq
                   generalize seekEs Bs 0 VF (l.take (q + j)) = F' at *
                   generalize sizeEs (l.take (q + j)) = z' at *
                   generalize l[q + j] = t at hE1 hIHj HTS HTZ hzz
                   obtain ⟨tk, tn, tns, ⟨tck, tci, tcs, tcl⟩, tl⟩ := t
                   obtain ⟨tvn, tvd, tvk, hF1', a0, a1, a2, a3, a4, a5, a6, a7⟩ := hE1.cells
                   rw [show o0 + (q + j) * 8 = o0 + q * 8 + j * 8 by omega] at a0 a1 a2 a3 a4 a5 a6 a7
                   have hbb := World.block_lt_of_cell? _ _ a0
                   have KC := Lib.hid (fun o : Obj => hIHj (wr.alloc o) S bb fb (n + 1 + ns.length + 2 * z') (addB B ns 1) F' tvn tvd tvk (hF1'.below (bel_alloc' (Below.refl _ _) o)) (fun b h => ⟨by have := (hS3 b h).1; rw [size_new]; omega, (hS3 b h).2⟩) hne (HMB3.out.at (Below.heap_alloc _ _ _ HMB3.out.lt)) (HMF3.out.at (Below.heap_alloc _ _ _ HMF3.out.1.lt)) (fun s => by have h1 := HBN.out s; have h2 := occ_bound ns s; unfold addB; omega) (by omega))
                   have D3 := BOXES.out _ HKQ3.out
                   have hwl := lt_of_block (HX.out _ HKQ3.out).1
                   have hwl1 := lt_of_block (HX.out _ HKQ3.out).2
                   obtain ⟨m0, m1, x0, x1, x2, x3, x4, x5, x6, x7⟩ := D3
                   obtain ⟨⟨_, _, hn1'⟩, ⟨_, _, _, hd1'⟩, hk1'⟩ := hF1'
                   obtain ⟨_, _, rfl, -⟩ := hn1'
                   obtain ⟨_, _, rfl, -⟩ := hd1'
                   obtain ⟨_, _, rfl, -⟩ := hk1'
                   unfold PE.val at KC
                   generalize sizeE (.mk tk tn tns (.mk tck tci tcs tcl) tl) = z'' at KC HTZ hzz
                   generalize seekE (addB B ns 1) F' (.mk tk tn tns (.mk tck tci tcs tcl) tl) = F'' at KC HTS
                   clear hE1 hIHj hS3
                   go_wp2_with fail
                   refine (KC.out _).mono ?_
                   rintro e w5 ⟨rfl, hb5, hf5, hk5⟩
                   have HMB5 := Lib.hid hb5
                   have HMF5 := Lib.hid hf5
                   have HKQ5 := Lib.hid ((HKQ3.out.alloc _).trans hk5)
                   clear hb5 hf5 hk5 m0 m1 x0 x1 x2 x3 x4 x5 x6 x7
                   go_wp2
                   go_roundw
                   case rel => exact ⟨j + 1, by omega, by go_num, by rw [show q + (j + 1) = q + j + 1 by omega, HTZ.out, Nat.mul_add, ← Nat.add_assoc]; exact HMB5.out, by rw [show q + (j + 1) = q + j + 1 by omega, HTS.out, HTZ.out, Nat.mul_add, ← Nat.add_assoc]; exact HMF5.out, HKQ5.out⟩
                   case measure => simp [intOf]; omega)
           · obtain rfl : j = l.length - q := by omega
             have hqe : q + (l.length - q) = l.length := by omega
             rw [hqe, List.take_length] at hmb hmf
             have HMB6 := Lib.hid hmb
             have HMF6 := Lib.hid hmf
             have KN2 := Lib.hid (count_any ns S (.slice an ns.length cn) fb (-1) bb (n + 1 + ns.length + 2 * sizeEs l) (addB B ns 1) wr (HMV.out _ hkq).1.1.2.2 HSN.out HMB6.out (by omega) (.inr rfl) (fun s => by have h1 := HBN.out s; have h2 := occ_bound ns s; unfold addB; omega))
             obtain ⟨m0, m1, x0, x1, x2, x3, x4, x5, x6, x7⟩ := BOXES.out _ hkq
             have hwl := lt_of_block (HX.out _ hkq).1
             have hwl1 := lt_of_block (HX.out _ hkq).2
             clear hmb hmf hkq hqe
             go_wp2_with fail
             refine KN2.out.mono ?_
             rintro e w6 ⟨rfl, hb6, hk6⟩
             have HE1 : Hid (MapB w6 bb (n + 2 * (1 + ns.length + sizeEs l)) B) := Lib.hid ((hb6.ext (fun s => by unfold addB; omega)).mono (by omega))
             have HE2 := Lib.hid ((HMF6.out.at (hk6.2 fb HMF6.out.1.lt (by simpa using hne.symm))).mono (n' := n + 2 * (1 + ns.length + sizeEs l)) (by omega))
             have HE3 := Lib.hid (HQ0.out.trans (HKQ3.out.trans ⟨hk6.1, fun b h1 h2 h3 => hk6.2 b h1 (by simpa using h2)⟩))
             clear hb6 hk6
             go_wp2
             go_end0
             exact ⟨rfl, HE1.out, by rw [HQQ.out, HBSE.out]; exact HE2.out, HE3.out⟩
end Go.Proofs.Ytkjgdnfkpebejaa.Core
