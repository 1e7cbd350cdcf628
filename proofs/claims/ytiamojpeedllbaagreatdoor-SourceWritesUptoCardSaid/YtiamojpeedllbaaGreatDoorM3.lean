/-
The law DatumMakes of layer 2: package data's copied, copiedList: every datum, every row of data is copied, down to the last item. No condition but a bound on how many data there are.
-/
import Derived.Test.YtiamojpeedllbaaGreatDoorM2
namespace Go.Proofs.YtiamojpeedllbaaGreatDoor.Dat
open Go.ChangeShapes Go.WideShapes Go.ChangeAt Go.RowKit
set_option maxRecDepth 100000
/-- Four cells that are set hold what was set. -/
theorem row_set4 {w : World} {g : Nat} {x0 x1 x2 x3 : Value} (hb : w.heap[g]? = some (.cells #[x0, x1, x2, x3] 28 (0, 0))) (y0 y1 y2 y3 : Value) :
    ((((w.setCell ⟨g, 0, none⟩ y0).setCell ⟨g, 1, none⟩ y1).setCell ⟨g, 2, none⟩ y2).setCell ⟨g, 3, none⟩ y3).heap[g]? = some (.cells #[y0, y1, y2, y3] 28 (0, 0)) :=
  heap_setCell_same _ g 3 _ 28 y3 (heap_setCell_same _ g 2 _ 28 y2 (heap_setCell_same _ g 1 _ 28 y1 (heap_setCell_same w g 0 _ 28 y0 hb)))
theorem nums_len : ∀ l : List PT, l.length ≤ numsT l
  | [] => by simp [numsT]
  | .mk k i s m :: l => by
    have := nums_len l
    simp only [List.length_cons, numsT, numT]
    omega
theorem nums_get {l : List PT} {j : Nat} (h : j < l.length) : numT l[j] ≤ numsT l := by
  have h1 := numsT_take l j h
  have h2 := numsT_le l (j + 1)
  omega

def CopyOk (t : PT) : Prop := ∀ (w : World) (B : Nat) (v : Value), RepV w B t v → B ≤ w.heap.size → numT t ≤ 200000 →
  Calls Tryz.prog 45 #[t.val v] w fun e w' => (∃ v', e = .returned (t.val v') ∧ NewV w' w.heap.size t v') ∧ Below w.heap.size w w'

set_option maxRecDepth 100000 in
theorem copied_of (k i : Int) (s : ByteArray) (l : List PT) (w : World) (B : Nat) (v : Value) (hv : RepV w B (.mk k i s l) v) (_ : B ≤ w.heap.size)
    (C : ∀ W, Below w.heap.size w W → Calls Tryz.prog 47 #[v] W fun e w' => (∃ v', e = .returned v' ∧ NewS w' W.heap.size l v') ∧ Below W.heap.size W w') :
    Calls Tryz.prog 45 #[.agg #[.int .i64 k, .int .i64 i, .string s, v]] w fun e w' => (∃ v', e = .returned (.agg #[.int .i64 k, .int .i64 i, .string s, v']) ∧ NewV w' w.heap.size (.mk k i s l) v') ∧ Below w.heap.size w w' := by
  have HV := Lib.hid hv
  have HC := Lib.hid C
  obtain ⟨a, c, rfl, _⟩ := hv.2.2.2
  clear hv C
  go_enter Tryz.func45, Tryz.ntmps45
  go_wp2_with fail
  refine (HC.out _ (((Below.refl _ _).alloc (Nat.le_refl _) _).alloc (by simp) _)).mono ?_
  rintro e w1 ⟨⟨v', rfl, hn⟩, hb1⟩
  have hn' := Lib.hid hn
  obtain ⟨a', c', rfl, _⟩ := hn
  have b0 : w1.heap[w.heap.size]? = some (.cells #[.int .i64 k, .int .i64 i, .string s, .slice a l.length c] 28 (0, 0)) := by
    rw [hb1.block _ (by simp; omega)]
    rw [Lib.alloc_old _ _ _ (by simp)]
    exact heap_alloc_new w _
  have b1 : w1.heap[w.heap.size + 1]? = some (.cells #[.int .i64 0, .int .i64 0, .string ⟨#[]⟩, .slice none 0 0] 28 (0, 0)) := by
    rw [hb1.block _ (by simp)]
    have := heap_alloc_new (w.alloc (.cells #[.int .i64 k, .int .i64 i, .string s, .slice a l.length c] 28)) (.cells #[.int .i64 0, .int .i64 0, .string ⟨#[]⟩, .slice none 0 0] 28)
    simpa using this
  have c0 : w1.cell? ⟨w.heap.size, 0, none⟩ = some (.int .i64 k) := by rw [Lib.cell_of_heap b0]; rfl
  have c1 : w1.cell? ⟨w.heap.size, 1, none⟩ = some (.int .i64 i) := by rw [Lib.cell_of_heap b0]; rfl
  have c2 : w1.cell? ⟨w.heap.size, 2, none⟩ = some (.string s) := by rw [Lib.cell_of_heap b0]; rfl
  have c3 : w1.cell? ⟨w.heap.size, 3, none⟩ = some (.slice a l.length c) := by rw [Lib.cell_of_heap b0]; rfl
  have d0 : w1.cell? ⟨w.heap.size + 1, 0, none⟩ = some (.int .i64 0) := by rw [Lib.cell_of_heap b1]; rfl
  have d1 : w1.cell? ⟨w.heap.size + 1, 1, none⟩ = some (.int .i64 0) := by rw [Lib.cell_of_heap b1]; rfl
  have d2 : w1.cell? ⟨w.heap.size + 1, 2, none⟩ = some (.string ⟨#[]⟩) := by rw [Lib.cell_of_heap b1]; rfl
  have d3 : w1.cell? ⟨w.heap.size + 1, 3, none⟩ = some (.slice none 0 0) := by rw [Lib.cell_of_heap b1]; rfl
  have f3 : w1.frozen? ⟨w.heap.size, 3, none⟩ = false := Lib.frozen_of_heap b0 3
  have g0 : w1.frozen? ⟨w.heap.size + 1, 0, none⟩ = false := Lib.frozen_of_heap b1 0
  have g1 : w1.frozen? ⟨w.heap.size + 1, 1, none⟩ = false := Lib.frozen_of_heap b1 1
  have g2 : w1.frozen? ⟨w.heap.size + 1, 2, none⟩ = false := Lib.frozen_of_heap b1 2
  have g3 : w1.frozen? ⟨w.heap.size + 1, 3, none⟩ = false := Lib.frozen_of_heap b1 3
  go_wp2
  have e4 := row_set4 (w := w1.setCell ⟨w.heap.size, 3, none⟩ (.slice a' l.length c')) (g := w.heap.size + 1) (by rw [heap_setCell_other _ _ _ _ (by show w.heap.size + 1 ≠ w.heap.size; omega)]; exact b1) (.int .i64 k) (.int .i64 i) (.string s) (.slice a' l.length c')
  refine bodyPost_ret (results_cell_row (P := Tryz.prog) rfl _ _ (w.heap.size + 1) 28 _ (0, 0) _ rfl e4 Tryz.underlying28 rfl (by kernel_rfl)) rfl ⟨⟨_, rfl, HV.out.1, HV.out.2.1, HV.out.2.2.1, hn'.out.move (by simp; omega) fun b o v hb h => ?_⟩, ?_⟩
  · refine Keep.cell (C := w.heap.size + 2) (((((Keep.refl _ _).setCell ?_ _).setCell ?_ _).setCell ?_ _).setCell ?_ _ |>.setCell ?_ _) b o v (by simp at hb; omega) h
    all_goals (simp only []; omega)
  · have hb2 := (((Below.refl w.heap.size w).alloc (Nat.le_refl _) _).alloc (by simp) _).trans (hb1.mono (by simp; omega))
    refine ((((hb2.setCell ?_ _).setCell ?_ _).setCell ?_ _).setCell ?_ _).setCell ?_ _
    all_goals (simp only []; omega)

set_option maxRecDepth 100000 in
theorem copiedList_of (l : List PT) (ih : ∀ t ∈ l, CopyOk t) (w : World) (B : Nat) (v : Value) (hv : RepS w B l v) (hB : B ≤ w.heap.size) (hn : numsT l ≤ 200000) :
    Calls Tryz.prog 47 #[v] w fun e w' => (∃ v', e = .returned v' ∧ NewS w' w.heap.size l v') ∧ Below w.heap.size w w' := by
  obtain ⟨a, c, rfl, hl, hm, hna, hr⟩ := hv
  unfold maxLen at hm
  rcases hr with rfl | ⟨b, o, rfl, hb, hr⟩
  · go_enter Tryz.func47, Tryz.ntmps47
    go_wp2
    go_ret
    exact ⟨⟨_, rfl, none, 0, rfl, Nat.le_refl _, Nat.zero_le _, fun _ => rfl, .inl rfl⟩, Below.refl _ _⟩
  by_cases h0 : l = []
  · subst h0
    clear hr ih
    go_enter Tryz.func47, Tryz.ntmps47
    go_wp2
    go_ret
    exact ⟨⟨_, rfl, none, 0, rfl, Nat.le_refl _, Nat.zero_le _, fun _ => rfl, .inl rfl⟩, Below.refl _ _⟩
  obtain ⟨i0, hi, hz0, hz1, hz2⟩ := info_parts infoDatum
  have hlen : l.length ≤ 200000 := by have := nums_len l; omega
  have hpos : 0 < l.length := List.length_pos_iff.2 h0
  have hz : ((l.length : Int) == 0) = false := by simp; omega
  have IH := Lib.hid ih
  have HR := Lib.hid hr
  have HN := Lib.hid hn
  clear ih hr hn h0
  go_enter Tryz.func47, Tryz.ntmps47
  go_wp2_with (refine wpList_make_full w rfl _ _ 26 rfl w.heap.size 28 i0 _ 4 Tryz.underlying26 hi hz0 hz1 .i64 .i64 _ _ l.length rfl rfl rfl rfl (by rw [hz2]; omega) (by unfold maxLen; omega) (Nat.le_refl _) ?_)
  intro w1 ho1 hg1
  have hb1 : Below w.heap.size w w1 := ⟨hg1.os, hg1.tape, hg1.output, hg1.size, fun k hk => hg1.block k hk (by simp)⟩
  have hF1 : Filled w1 w.heap.size l.length [] (w.heap.size + 1) := by
    rcases ho1.2 with ⟨h, _⟩ | ⟨g, cap, cur, h, _, hg, _, _, hs, _⟩
    · cases h
    · simp only [Value.slice.injEq, Option.some.injEq, Addr.mk.injEq, and_true, true_and] at h
      obtain ⟨rfl, rfl⟩ := h
      exact ⟨cur, hg, hs, [], by rw [NewX, RowX], fun j u h => by simp at h⟩
  have HF1 := Lib.hid hF1
  clear ho1 hg1 hF1
  go_wp2
  go_loopw [14] (fun ix wr => ∃ j : Nat, j ≤ l.length ∧ ix = .int .i64 j ∧ Filled wr w.heap.size l.length (l.take j) (w.heap.size + 1) ∧ Below w.heap.size w wr) (fun i _ => l.length - (intOf i).toNat)
  case atStart => exact ⟨0, Nat.zero_le _, rfl, HF1.out, hb1⟩
  case round =>
    obtain ⟨j, hj, rfl, hF, hbr⟩ := hrel
    have HF := Lib.hid hF
    clear hF
    by_cases hlt : j < l.length
    · obtain ⟨k1, i1, s1, n1, v1, hj1, ok1, ok2, hs1, d0, d1, d2, d3, hv1⟩ := repAt_item (RepAt.below HR.out hbr hB hb) hlt
      have HV1 := Lib.hid hv1
      have hbs1 : b < wr.heap.size := World.block_lt_of_cell? _ _ d0
      obtain ⟨a1, c1', rfl, _⟩ := hv1
      have hL : CopyOk (.mk k1 i1 s1 n1) := hj1 ▸ IH.out l[j] (List.getElem_mem _)
      have hnum : numT (.mk k1 i1 s1 n1) ≤ 200000 := by
        have h1 := nums_get hlt
        rw [hj1] at h1
        have := HN.out
        omega
      have htk : l.take (j + 1) = l.take j ++ [.mk k1 i1 s1 n1] := by rw [List.take_succ_eq_append_getElem hlt, hj1]
      have hsz := hbr.size
      have HC := Lib.hid (fun o1 : Obj => hL (wr.alloc o1) B (.slice a1 n1.length c1') ⟨ok1, ok2, hs1, HV1.out.below ((Below.refl wr.heap.size wr).alloc (Nat.le_refl _) _) (by omega)⟩ (by simp; omega) hnum)
      have HTK := Lib.hid htk
      have HHL := Lib.hid (fun o1 : Obj => (HF.out.below ((Below.refl wr.heap.size wr).alloc (Nat.le_refl _) o1)))
      have HBR := Lib.hid (fun o1 : Obj => hbr.alloc hsz o1)
      have htl : (l.take j).length = j := by rw [List.length_take]; omega
      have hwr : w.heap.size < wr.heap.size := by obtain ⟨cs, hg, _⟩ := HF.out; exact lt_of_block hg
      clear hL hnum htk hj1
      go_wp2_with fail
      refine (HC.out _).mono ?_
      rintro e w2 ⟨⟨v', he, hnv⟩, hb2⟩
      change e = .returned (.agg #[.int .i64 k1, .int .i64 i1, .string s1, v']) at he
      subst he
      have hF2 := (HHL.out _).below hb2
      have hbr2 := (HBR.out _).trans (hb2.mono (by simp; omega))
      have hnv2 : NewV w2 (w.heap.size + 1) (.mk k1 i1 s1 n1) v' := ⟨hnv.1, hnv.2.1, hnv.2.2.1, hnv.2.2.2.move (by simp; omega) fun _ _ _ _ h => h⟩
      have P := Filled.put hF2 (by omega) (by rw [htl]; exact hlt) hnv2
      rw [htl, ← HTK.out] at P
      have HP := Lib.hid P
      obtain ⟨cs, hg, hs, _⟩ := hF2
      obtain ⟨a2, c2, rfl, _⟩ := hnv.2.2.2
      have f0 : w2.frozen? ⟨w.heap.size, j * 4, none⟩ = false := Lib.frozen_of_heap hg _
      have f1 : w2.frozen? ⟨w.heap.size, j * 4 + 1, none⟩ = false := Lib.frozen_of_heap hg _
      have f2 : w2.frozen? ⟨w.heap.size, j * 4 + 2, none⟩ = false := Lib.frozen_of_heap hg _
      have f3 : w2.frozen? ⟨w.heap.size, j * 4 + 3, none⟩ = false := Lib.frozen_of_heap hg _
      have x0 : w2.cell? ⟨w.heap.size, j * 4, none⟩ = some (cs[j * 4]'(by omega)) := by rw [Lib.cell_of_heap hg]; simp
      have x1 : w2.cell? ⟨w.heap.size, j * 4 + 1, none⟩ = some (cs[j * 4 + 1]'(by omega)) := by rw [Lib.cell_of_heap hg]; simp
      have x2 : w2.cell? ⟨w.heap.size, j * 4 + 2, none⟩ = some (cs[j * 4 + 2]'(by omega)) := by rw [Lib.cell_of_heap hg]; simp
      have x3 : w2.cell? ⟨w.heap.size, j * 4 + 3, none⟩ = some (cs[j * 4 + 3]'(by omega)) := by rw [Lib.cell_of_heap hg]; simp
      have HB2 := Lib.hid hbr2
      clear P hnv hnv2 hbr2 hb2
      generalize cs[j * 4]'(by omega) = y0 at x0
      generalize cs[j * 4 + 1]'(by omega) = y1 at x1
      generalize cs[j * 4 + 2]'(by omega) = y2 at x2
      generalize cs[j * 4 + 3]'(by omega) = y3 at x3
      go_wp2
      go_roundw
      case rel =>
        refine ⟨j + 1, by omega, by go_num, HP.out, ?_⟩
        refine ((((HB2.out.setCell ?_ _).setCell ?_ _).setCell ?_ _).setCell ?_ _)
        all_goals exact Nat.le_refl _
      case measure => simp [intOf]; omega
    · obtain rfl : j = l.length := by omega
      go_wp2
      go_ret
      refine ⟨⟨_, rfl, ?_⟩, hbr⟩
      have := HF.out
      rw [List.take_length] at this
      exact this.done (Nat.le_refl _) (by omega) rfl (by unfold maxLen; omega)

theorem copied_step (k i : Int) (s : ByteArray) (l : List PT) (ih : ∀ t ∈ l, CopyOk t) : CopyOk (.mk k i s l) := by
  intro w B v hv hB hn
  rw [numT] at hn
  exact copied_of k i s l w B v hv hB fun W h => copiedList_of l ih W B v (hv.2.2.2.below h hB) (by have := h.size; omega) (by omega)
mutual
theorem copied_any : ∀ t : PT, CopyOk t
  | .mk k i s l => copied_step k i s l (copied_all l)
theorem copied_all : ∀ l : List PT, ∀ t ∈ l, CopyOk t
  | [], t, h => by cases h
  | u :: l, t, h => (List.mem_cons.1 h).elim (fun e => e ▸ copied_any u) (fun h => copied_all l t h)
end
theorem copiedList_any (l : List PT) (w : World) (B : Nat) (v : Value) (hv : RepS w B l v) (hB : B ≤ w.heap.size) (hn : numsT l ≤ 200000) :
    Calls Tryz.prog 47 #[v] w fun e w' => (∃ v', e = .returned v' ∧ NewS w' w.heap.size l v') ∧ Below w.heap.size w w' := copiedList_of l (copied_all l) w B v hv hB hn
end Go.Proofs.YtiamojpeedllbaaGreatDoor.Dat
