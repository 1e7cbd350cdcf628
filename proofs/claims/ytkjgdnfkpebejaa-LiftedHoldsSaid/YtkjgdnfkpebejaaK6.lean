/-
When two expressions are the same: the document's Same (layer 6), for every two. No condition.
-/
import Derived.Test.YtkjgdnfkpebejaaWKA
import Derived.StillTailTactics

namespace Go.Proofs.Ytkjgdnfkpebejaa.Core
open Go.ChangeShapes Go.WideShapes Go.ChangeAt Go.RowKit Go.Deep
open Dat (PT ok64 RepV RepS sameB)

open Classical in
/-- Are two expressions the same? -/
noncomputable def sameE (t u : PE) : Bool := decide (t = u)
open Classical in
noncomputable def sameEs (l m : List PE) : Bool := decide (l = m)
def SameEOk (t : PE) : Prop := ∀ (u : PE) (w : World) (S T : Nat → Prop) (vn vd vk un ud uk : Value), InF w S t vn vd vk → InF w T u un ud uk →
  Calls Try.prog 12 #[t.val vn vd vk, u.val un ud uk] w fun e w' => e = .returned (.bool (sameE t u)) ∧ Below w.heap.size w w'
theorem two_new (w : World) (x y : Obj) : ((w.alloc x).alloc y).heap[w.heap.size]? = some x ∧ ((w.alloc x).alloc y).heap[w.heap.size + 1]? = some y ∧ Below w.heap.size w ((w.alloc x).alloc y) := by
  have h1 := heap_alloc_new (w.alloc x) y
  rw [size_new] at h1
  exact ⟨Dat.blk_alloc (heap_alloc_new w x), h1, ((Below.refl _ _).alloc (Nat.le_refl _) x).alloc (by rw [size_new]; omega) y⟩
theorem kids_take {l m : List PE} {j : Nat} (h1 : j < l.length) (h2 : j < m.length) (ht : l.take j = m.take j) (h : l[j] = m[j]) : l.take (j + 1) = m.take (j + 1) := by
  rw [List.take_succ_eq_append_getElem h1, List.take_succ_eq_append_getElem h2, ht, h]
set_option maxRecDepth 100000 in
set_option maxHeartbeats 1000000 in
theorem sameE_step (k : Int) (nm : ByteArray) (ns : List ByteArray) (ck ci : Int) (cs : ByteArray) (cl : List PT) (l : List PE) (ih : ∀ t ∈ l, SameEOk t) : SameEOk (.mk k nm ns (.mk ck ci cs cl) l) := by
  rintro ⟨k', nm', ns', ⟨ck', ci', cs', cl'⟩, m⟩ w S T vn vd vk un ud uk ⟨⟨ok1, ok2, hn⟩, ⟨ok3, ok4, ok5, hd⟩, hk⟩ ⟨⟨ok1', ok2', hn'⟩, ⟨ok3', ok4', ok5', hd'⟩, hk'⟩
  have HTX := Lib.hid (fun W (hW : Below w.heap.size w W) => sameTexts_any ns ns' S T vn un W (hn.below hW) (hn'.below hW))
  have HSD := Lib.hid (fun W (hW : Below w.heap.size w W) => Dat.same_any (.mk ck ci cs cl) (.mk ck' ci' cs' cl') W w.heap.size vd ud ⟨ok3, ok4, ok5, hd.rep.below hW (Nat.le_refl _)⟩ ⟨ok3', ok4', ok5', hd'.rep.below hW (Nat.le_refl _)⟩ hW.size)
  have HK := Lib.hid hk
  have HK' := Lib.hid hk'
  obtain ⟨an, cn, rfl, _⟩ := hn
  obtain ⟨an', cn', rfl, _⟩ := hn'
  obtain ⟨ad, cd, rfl, _⟩ := hd
  obtain ⟨ad', cd', rfl, _⟩ := hd'
  obtain ⟨ak, cap, rfl, hl, hm, _⟩ := hk
  obtain ⟨ak', cap', rfl, hl', hm', _⟩ := hk'
  unfold Dat.PT.val at HSD
  show Calls Try.prog 12 #[.agg #[.int .i64 k, .string nm, .slice an ns.length cn, .int .i64 ck, .int .i64 ci, .string cs, .slice ad cl.length cd, .slice ak l.length cap], .agg #[.int .i64 k', .string nm', .slice an' ns'.length cn', .int .i64 ck', .int .i64 ci', .string cs', .slice ad' cl'.length cd', .slice ak' m.length cap']] w _
  have IH := Lib.hid ih
  have HNO : Hid (∀ P : Prop, (∀ (e : PE.mk k nm ns (.mk ck ci cs cl) l = .mk k' nm' ns' (.mk ck' ci' cs' cl') m), P) → ¬ P → sameE (.mk k nm ns (.mk ck ci cs cl) l) (.mk k' nm' ns' (.mk ck' ci' cs' cl') m) = false) := Lib.hid (fun P h hP => by
    unfold sameE
    rw [decide_eq_false_iff_not]
    exact fun e => hP (h e))
  obtain ⟨z0, z1, zb⟩ := two_new w (.cells #[.int .i64 k, .string nm, .slice an ns.length cn, .int .i64 ck, .int .i64 ci, .string cs, .slice ad cl.length cd, .slice ak l.length cap] 28) (.cells #[.int .i64 k', .string nm', .slice an' ns'.length cn', .int .i64 ck', .int .i64 ci', .string cs', .slice ad' cl'.length cd', .slice ak' m.length cap'] 28)
  have Z0 := Lib.hid z0
  have Z1 := Lib.hid z1
  have ZB := Lib.hid zb
  unfold maxLen at hm hm'
  clear ih ok1 ok2 ok3 ok4 ok5 ok1' ok2' ok3' ok4' ok5' z0 z1 zb
  by_cases h1 : k = k'
  rotate_left
  · have HR := Lib.hid (HNO.out (k = k') (fun e => by cases e; rfl) h1)
    have hq : (k != k') = true := by simpa using h1
    have hq2 : (k == k') = false := by simpa using h1
    clear h1
    go_enter Try.func12, Try.ntmps12
    go_wp2
    go_ret
    exact ⟨ret_bool HR.out.symm, ZB.out⟩
  subst h1
  by_cases h2 : nm = nm'
  rotate_left
  · have HR := Lib.hid (HNO.out (nm = nm') (fun e => by cases e; rfl) h2)
    have hq := text_ne h2
    clear h2
    go_enter Try.func12, Try.ntmps12
    go_wp2
    go_ret
    exact ⟨ret_bool HR.out.symm, ZB.out⟩
  subst h2
  by_cases h3 : ns = ns'
  rotate_left
  · have HR := Lib.hid (HNO.out (ns = ns') (fun e => by cases e; rfl) h3)
    rw [sameN_no h3] at HTX
    clear h3
    go_enter Try.func12, Try.ntmps12
    go_wp2_with fail
    refine (HTX.out _ ZB.out).mono ?_
    rintro e w1 ⟨rfl, hb1⟩
    have HB1 := Lib.hid (ZB.out.trans (hb1.mono ZB.out.size))
    clear hb1
    go_wp2
    go_ret
    exact ⟨ret_bool HR.out.symm, HB1.out⟩
  subst h3
  rw [sameN_self] at HTX
  by_cases h4 : sameB (.mk ck ci cs cl) (.mk ck' ci' cs' cl') = true
  rotate_left
  · have h4' : sameB (.mk ck ci cs cl) (.mk ck' ci' cs' cl') = false := by simpa using h4
    have HR := Lib.hid (HNO.out (sameB (.mk ck ci cs cl) (.mk ck' ci' cs' cl') = true) (fun e => by cases e; simp [sameB]) h4)
    rw [h4'] at HSD
    clear h4 h4'
    go_enter Try.func12, Try.ntmps12
    go_wp2_with fail
    refine (HTX.out _ ZB.out).mono ?_
    rintro e w1 ⟨rfl, hb1⟩
    have HB1 := Lib.hid (ZB.out.trans (hb1.mono ZB.out.size))
    have q0 := (hb1.block w.heap.size (lt_of_block Z0.out)).trans Z0.out
    have q1 := (hb1.block (w.heap.size + 1) (lt_of_block Z1.out)).trans Z1.out
    have c3 : w1.cell? ⟨w.heap.size, 3, none⟩ = some (.int .i64 ck) := by rw [Lib.cell_of_heap q0]; rfl
    have c4 : w1.cell? ⟨w.heap.size, 4, none⟩ = some (.int .i64 ci) := by rw [Lib.cell_of_heap q0]; rfl
    have c5 : w1.cell? ⟨w.heap.size, 5, none⟩ = some (.string cs) := by rw [Lib.cell_of_heap q0]; rfl
    have c6 : w1.cell? ⟨w.heap.size, 6, none⟩ = some (.slice ad cl.length cd) := by rw [Lib.cell_of_heap q0]; rfl
    have c7 : w1.cell? ⟨w.heap.size, 7, none⟩ = some (.slice ak l.length cap) := by rw [Lib.cell_of_heap q0]; rfl
    have d3 : w1.cell? ⟨w.heap.size + 1, 3, none⟩ = some (.int .i64 ck') := by rw [Lib.cell_of_heap q1]; rfl
    have d4 : w1.cell? ⟨w.heap.size + 1, 4, none⟩ = some (.int .i64 ci') := by rw [Lib.cell_of_heap q1]; rfl
    have d5 : w1.cell? ⟨w.heap.size + 1, 5, none⟩ = some (.string cs') := by rw [Lib.cell_of_heap q1]; rfl
    have d6 : w1.cell? ⟨w.heap.size + 1, 6, none⟩ = some (.slice ad' cl'.length cd') := by rw [Lib.cell_of_heap q1]; rfl
    have d7 : w1.cell? ⟨w.heap.size + 1, 7, none⟩ = some (.slice ak' m.length cap') := by rw [Lib.cell_of_heap q1]; rfl
    clear hb1 q0 q1
    go_wp2_with fail
    refine (HSD.out _ HB1.out).mono ?_
    rintro e w2 ⟨rfl, hb2⟩
    have HB2 := Lib.hid (HB1.out.trans (hb2.mono HB1.out.size))
    clear hb2
    go_wp2
    go_ret
    exact ⟨ret_bool HR.out.symm, HB2.out⟩
  rw [h4] at HSD
  have hde : PT.mk ck ci cs cl = .mk ck' ci' cs' cl' := by simpa [sameB] using h4
  clear h4
  by_cases h5 : l.length = m.length
  rotate_left
  · have HR := Lib.hid (HNO.out (l.length = m.length) (fun e => by cases e; rfl) h5)
    have hq : ((l.length : Int) != (m.length : Int)) = true := by simp; omega
    have hq2 : ((l.length : Int) == (m.length : Int)) = false := by simp; omega
    clear h5 hde
    go_enter Try.func12, Try.ntmps12
    go_wp2_with fail
    refine (HTX.out _ ZB.out).mono ?_
    rintro e w1 ⟨rfl, hb1⟩
    have HB1 := Lib.hid (ZB.out.trans (hb1.mono ZB.out.size))
    have q0 := (hb1.block w.heap.size (lt_of_block Z0.out)).trans Z0.out
    have q1 := (hb1.block (w.heap.size + 1) (lt_of_block Z1.out)).trans Z1.out
    have c3 : w1.cell? ⟨w.heap.size, 3, none⟩ = some (.int .i64 ck) := by rw [Lib.cell_of_heap q0]; rfl
    have c4 : w1.cell? ⟨w.heap.size, 4, none⟩ = some (.int .i64 ci) := by rw [Lib.cell_of_heap q0]; rfl
    have c5 : w1.cell? ⟨w.heap.size, 5, none⟩ = some (.string cs) := by rw [Lib.cell_of_heap q0]; rfl
    have c6 : w1.cell? ⟨w.heap.size, 6, none⟩ = some (.slice ad cl.length cd) := by rw [Lib.cell_of_heap q0]; rfl
    have c7 : w1.cell? ⟨w.heap.size, 7, none⟩ = some (.slice ak l.length cap) := by rw [Lib.cell_of_heap q0]; rfl
    have d3 : w1.cell? ⟨w.heap.size + 1, 3, none⟩ = some (.int .i64 ck') := by rw [Lib.cell_of_heap q1]; rfl
    have d4 : w1.cell? ⟨w.heap.size + 1, 4, none⟩ = some (.int .i64 ci') := by rw [Lib.cell_of_heap q1]; rfl
    have d5 : w1.cell? ⟨w.heap.size + 1, 5, none⟩ = some (.string cs') := by rw [Lib.cell_of_heap q1]; rfl
    have d6 : w1.cell? ⟨w.heap.size + 1, 6, none⟩ = some (.slice ad' cl'.length cd') := by rw [Lib.cell_of_heap q1]; rfl
    have d7 : w1.cell? ⟨w.heap.size + 1, 7, none⟩ = some (.slice ak' m.length cap') := by rw [Lib.cell_of_heap q1]; rfl
    have Q0 := Lib.hid q0
    have Q1 := Lib.hid q1
    clear hb1 q0 q1
    go_wp2_with fail
    refine (HSD.out _ HB1.out).mono ?_
    rintro e w2 ⟨rfl, hb2⟩
    have HB2 := Lib.hid (HB1.out.trans (hb2.mono HB1.out.size))
    have e7 : w2.cell? ⟨w.heap.size, 7, none⟩ = some (.slice ak l.length cap) := by rw [Lib.cell_of_heap ((hb2.block _ (lt_of_block Q0.out)).trans Q0.out)]; rfl
    have f7 : w2.cell? ⟨w.heap.size + 1, 7, none⟩ = some (.slice ak' m.length cap') := by rw [Lib.cell_of_heap ((hb2.block _ (lt_of_block Q1.out)).trans Q1.out)]; rfl
    clear hb2
    go_wp2
    go_ret
    exact ⟨ret_bool HR.out.symm, HB2.out⟩
  have HEQ : Hid (sameE (.mk k nm ns (.mk ck ci cs cl) l) (.mk k nm ns (.mk ck' ci' cs' cl') m) = sameEs l m) := Lib.hid (by
    unfold sameE sameEs
    rw [hde]
    simp)
  have hq : ((l.length : Int) != (m.length : Int)) = false := by simp; omega
  have hlm1 : l.length ≤ m.length := by omega
  have HLM := Lib.hid h5
  clear h5 hde HNO
  go_enter Try.func12, Try.ntmps12
  go_wp2_with fail
  refine (HTX.out _ ZB.out).mono ?_
  rintro e w1 ⟨rfl, hb1⟩
  have HB1 := Lib.hid (ZB.out.trans (hb1.mono ZB.out.size))
  have q0 := (hb1.block w.heap.size (lt_of_block Z0.out)).trans Z0.out
  have q1 := (hb1.block (w.heap.size + 1) (lt_of_block Z1.out)).trans Z1.out
  have c3 : w1.cell? ⟨w.heap.size, 3, none⟩ = some (.int .i64 ck) := by rw [Lib.cell_of_heap q0]; rfl
  have c4 : w1.cell? ⟨w.heap.size, 4, none⟩ = some (.int .i64 ci) := by rw [Lib.cell_of_heap q0]; rfl
  have c5 : w1.cell? ⟨w.heap.size, 5, none⟩ = some (.string cs) := by rw [Lib.cell_of_heap q0]; rfl
  have c6 : w1.cell? ⟨w.heap.size, 6, none⟩ = some (.slice ad cl.length cd) := by rw [Lib.cell_of_heap q0]; rfl
  have c7 : w1.cell? ⟨w.heap.size, 7, none⟩ = some (.slice ak l.length cap) := by rw [Lib.cell_of_heap q0]; rfl
  have d3 : w1.cell? ⟨w.heap.size + 1, 3, none⟩ = some (.int .i64 ck') := by rw [Lib.cell_of_heap q1]; rfl
  have d4 : w1.cell? ⟨w.heap.size + 1, 4, none⟩ = some (.int .i64 ci') := by rw [Lib.cell_of_heap q1]; rfl
  have d5 : w1.cell? ⟨w.heap.size + 1, 5, none⟩ = some (.string cs') := by rw [Lib.cell_of_heap q1]; rfl
  have d6 : w1.cell? ⟨w.heap.size + 1, 6, none⟩ = some (.slice ad' cl'.length cd') := by rw [Lib.cell_of_heap q1]; rfl
  have d7 : w1.cell? ⟨w.heap.size + 1, 7, none⟩ = some (.slice ak' m.length cap') := by rw [Lib.cell_of_heap q1]; rfl
  have Q0 := Lib.hid q0
  have Q1 := Lib.hid q1
  clear hb1 q0 q1
  go_wp2_with fail
  refine (HSD.out _ HB1.out).mono ?_
  rintro e w2 ⟨rfl, hb2⟩
  have HB2 := Lib.hid (HB1.out.trans (hb2.mono HB1.out.size))
  have r7 : w2.cell? ⟨w.heap.size, 7, none⟩ = some (.slice ak l.length cap) := by rw [Lib.cell_of_heap ((hb2.block _ (lt_of_block Q0.out)).trans Q0.out)]; rfl
  have s7 : w2.cell? ⟨w.heap.size + 1, 7, none⟩ = some (.slice ak' m.length cap') := by rw [Lib.cell_of_heap ((hb2.block _ (lt_of_block Q1.out)).trans Q1.out)]; rfl
  have R7 := Lib.hid r7
  have S7 := Lib.hid s7
  clear hb2
  go_wp2
  go_loopw [5] (fun ix wr => ∃ j : Nat, j ≤ l.length ∧ ix = .int .i64 j ∧ l.take j = m.take j ∧ Below w2.heap.size w2 wr) (fun i _ => l.length - (intOf i).toNat)
  case atStart => exact ⟨0, Nat.zero_le _, rfl, rfl, Below.refl _ _⟩
  case round =>
    obtain ⟨j, hj, rfl, ht, hbr⟩ := hrel
    have x7 := cell_below hbr R7.out
    have y7 := cell_below hbr S7.out
    have HBR := Lib.hid (HB2.out.trans (hbr.mono HB2.out.size))
    have HB2R := Lib.hid hbr
    by_cases hlt : j < l.length
    · have hltm : j < m.length := by omega
      have HT := Lib.hid ht
      obtain ⟨b, o, c, ea, _, _, hS1, hE1⟩ := (HK.out.below HBR.out).item j hlt
      obtain ⟨b', o', c', ea', _, _, hS2, hE2⟩ := (HK'.out.below HBR.out).item j hltm
      cases ea
      cases ea'
      have hIHj := IH.out l[j] (List.getElem_mem hlt)
      have HE : Hid (∀ q, sameE l[j] m[j] = q → (q = true → l.take (j + 1) = m.take (j + 1)) ∧ (q = false → sameEs l m = false)) := Lib.hid (fun q hq => ⟨fun e => kids_take hlt hltm ht (by subst e; simpa [sameE] using hq), fun e => by
        subst e
        unfold sameEs
        rw [decide_eq_false_iff_not]
        rintro rfl
        simp [sameE] at hq⟩)
      clear ht hbr
      generalize l[j] = t at hE1 hIHj HE
      generalize m[j] = u at hE2 HE
      obtain ⟨tk, tn, tns, ⟨tck, tci, tcs, tcl⟩, tl⟩ := t
      obtain ⟨uk, un, uns, ⟨uck, uci, ucs, ucl⟩, ul⟩ := u
      obtain ⟨tvn, tvd, tvk, hF1, a0, a1, a2, a3, a4, a5, a6, a7⟩ := hE1.cells
      obtain ⟨uvn, uvd, uvk, hF2, b0, b1, b2, b3, b4, b5, b6, b7⟩ := hE2.cells
      have KS := Lib.hid (hIHj (.mk uk un uns (.mk uck uci ucs ucl) ul) wr.drew S T tvn tvd tvk uvn uvd uvk (hF1.move (w' := wr.drew) (fun _ h _ => h) fun _ _ _ _ h => h) (hF2.move (w' := wr.drew) (fun _ h _ => h) fun _ _ _ _ h => h))
      have hbb := World.block_lt_of_cell? _ _ a0
      have hbb' := World.block_lt_of_cell? _ _ b0
      have HF1 := Lib.hid hF1
      have HF2 := Lib.hid hF2
      obtain ⟨⟨_, _, hn1⟩, ⟨_, _, _, hd1⟩, hk1⟩ := hF1
      obtain ⟨⟨_, _, hn2⟩, ⟨_, _, _, hd2⟩, hk2⟩ := hF2
      obtain ⟨_, _, rfl, -⟩ := hn1
      obtain ⟨_, _, rfl, -⟩ := hd1
      obtain ⟨_, _, rfl, -⟩ := hk1
      obtain ⟨_, _, rfl, -⟩ := hn2
      obtain ⟨_, _, rfl, -⟩ := hd2
      obtain ⟨_, _, rfl, -⟩ := hk2
      unfold PE.val at KS
      have HBD := Lib.hid HBR.out.drew
      have HB2D := Lib.hid HB2R.out.drew
      clear hE1 hE2 hIHj
      by_cases hs : sameE (.mk tk tn tns (.mk tck tci tcs tcl) tl) (.mk uk un uns (.mk uck uci ucs ucl) ul) = true
      · have HN := Lib.hid ((HE.out _ hs).1 rfl)
        rw [hs] at KS
        clear hs HE
        go_wp2
        go_still_tail 10, (by kernel_rfl)
        change wpList _ _ _ _ _ wr.drew
        clear a0 a1 a2 a3 a4 a5 a6 a7 b0 b1 b2 b3 b4 b5 b6 b7 x7 y7 hbb hbb'
        generalize wr.drew = w3 at KS HBD HB2D ⊢
        go_wp2_with fail
        refine KS.out.mono ?_
        rintro e w4 ⟨rfl, hb4⟩
        have HB4 := Lib.hid (HB2D.out.trans (hb4.mono HB2D.out.size))
        clear hb4
        go_wp2
        go_roundw
        case rel => exact ⟨j + 1, by omega, by go_num, HN.out, HB4.out⟩
        case measure => simp [intOf]; omega
      · have hs' : sameE (.mk tk tn tns (.mk tck tci tcs tcl) tl) (.mk uk un uns (.mk uck uci ucs ucl) ul) = false := by simpa using hs
        have HN := Lib.hid ((HE.out _ hs').2 rfl)
        rw [hs'] at KS
        clear hs hs' HE
        go_wp2
        go_still_tail 10, (by kernel_rfl)
        change wpList _ _ _ _ _ wr.drew
        clear a0 a1 a2 a3 a4 a5 a6 a7 b0 b1 b2 b3 b4 b5 b6 b7 x7 y7 hbb hbb'
        generalize wr.drew = w3 at KS HBD HB2D ⊢
        go_wp2_with fail
        refine KS.out.mono ?_
        rintro e w4 ⟨rfl, hb4⟩
        have HB4 := Lib.hid (HBD.out.trans (hb4.mono HBD.out.size))
        clear hb4
        go_wp2
        go_ret
        exact ⟨ret_bool (HEQ.out.trans HN.out).symm, HB4.out⟩
    · obtain rfl : j = l.length := by omega
      have HFI : Hid (sameEs l m = true) := Lib.hid (by
        rw [List.take_length, List.take_of_length_le (by have := HLM.out; omega)] at ht
        simp [sameEs, ht])
      clear ht hbr
      go_wp2
      go_ret
      exact ⟨ret_bool (HEQ.out.trans HFI.out).symm, HBR.out⟩
mutual
theorem sameE_any : ∀ t : PE, SameEOk t
  | .mk k nm ns (.mk ck ci cs cl) l => sameE_step k nm ns ck ci cs cl l (sameE_all l)
theorem sameE_all : ∀ l : List PE, ∀ t ∈ l, SameEOk t
  | [], t, h => by cases h
  | u :: l, t, h => (List.mem_cons.1 h).elim (fun e => e ▸ sameE_any u) (fun h => sameE_all l t h)
end
end Go.Proofs.Ytkjgdnfkpebejaa.Core
