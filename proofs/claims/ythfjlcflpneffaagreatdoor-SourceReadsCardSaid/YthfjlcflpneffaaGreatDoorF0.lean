/-
The document's Make once more: where the rows lie of what it answers. No condition but a bound on how many data there are.
-/
import Derived.Test.YthfjlcflpneffaaGreatDoorWM
namespace Go.Proofs.YthfjlcflpneffaaGreatDoor.Dat
open Go.ChangeShapes Go.WideShapes Go.ChangeAt Go.RowKit
set_option maxRecDepth 100000

theorem end_own {w w2 : World} {v : Value} {B : Nat} {L : List PT} (ho : RowOwn w2 (w.heap.size + 2) B L v) (hB : B ≤ w.heap.size) (K : Int) :
    RowOwn ((((w2.setCell ⟨w.heap.size + 1, 0, none⟩ (.int .i64 K)).setCell ⟨w.heap.size + 1, 1, none⟩ (.int .i64 0)).setCell ⟨w.heap.size + 1, 2, none⟩ (.string ⟨#[]⟩)).setCell ⟨w.heap.size + 1, 3, none⟩ v) (w.heap.size + 2) B L v :=
  ((((ho.setCell (a := ⟨w.heap.size + 1, 0, none⟩) (by simp only []; omega) (by simp only []; omega) (.int .i64 K)).setCell (a := ⟨w.heap.size + 1, 1, none⟩) (by simp only []; omega) (by simp only []; omega) (.int .i64 0)).setCell (a := ⟨w.heap.size + 1, 2, none⟩) (by simp only []; omega) (by simp only []; omega) (.string ⟨#[]⟩)).setCell (a := ⟨w.heap.size + 1, 3, none⟩) (by simp only []; omega) (by simp only []; omega) v)

set_option maxRecDepth 100000 in
set_option maxHeartbeats 2000000 in
theorem rmake_own (l : List PT) (v : Value) (k i : Int) (s : ByteArray) (m : List PT) (x : Value) (w : World) (B : Nat) (hv : RepS w B l v) (hx : RepV w B (.mk k i s m) x) (hB : B ≤ w.heap.size) (h1 : l.length ≤ 200000) (h2 : m.length ≤ 200000) (r : PT) (hr : r = makeT l (.mk k i s m)) :
    Calls Tryz.prog 42 #[v, .agg #[.int .i64 k, .int .i64 i, .string s, x]] w fun e w' => (∃ x', e = .returned (r.val x') ∧ RepV w' w'.heap.size r x' ∧ (l = [] ∧ x' = x ∨ ∃ rk ri rs rl, r = .mk rk ri rs rl ∧ RowOwn w' (w.heap.size + 2) B rl x')) ∧ Below w.heap.size w w' := by
  have HV := Lib.hid hv
  have HX := Lib.hid hx
  obtain ⟨a, c, rfl, hl, hm, _⟩ := hv
  obtain ⟨a', c', e, hl', hm', _⟩ := hx.2.2.2
  subst e
  unfold maxLen at hm hm'
  clear hx
  have S0 := Lib.hid (St2.first w #[.int .i64 k, .int .i64 i, .string s, .slice a' m.length c'] #[.int .i64 0, .int .i64 0, .string ⟨#[]⟩, .slice none 0 0])
  by_cases h0 : l = []
  · have e : makeT l (.mk k i s m) = .mk k i s m := by rw [makeT, if_pos h0]
    rw [e] at hr
    subst hr
    subst h0
    clear e
    go_enter Tryz.func42, Tryz.ntmps42
    go_wp2
    have S1 := St2.first w #[.int .i64 k, .int .i64 i, .string s, .slice a' m.length c'] #[.int .i64 k, .int .i64 i, .string s, .slice a' m.length c']
    refine bodyPost_ret (results_cell_row (P := Tryz.prog) rfl _ _ (w.heap.size + 1) 34 _ (0, 0) _ rfl S1.2.2 Tryz.underlying34 rfl (by kernel_rfl)) rfl ?_
    exact ⟨⟨_, rfl, (HX.out.below S1.1 hB).mono (Nat.le_trans hB S1.1.size), (by first | exact .inl ⟨rfl, rfl⟩ | exact .inl rfl)⟩, S1.1⟩
  · have hz : ((l.length : Int) == 0) = false := by
      have := List.length_pos_iff.2 h0
      simp; omega
    have HR0 : Hid (RowOwn (((w.alloc (.cells #[.int .i64 k, .int .i64 i, .string s, .slice a' m.length c'] 34)).alloc (.cells #[.int .i64 0, .int .i64 0, .string ⟨#[]⟩, .slice none 0 0] 34)).alloc (.cells #[] 34)) (w.heap.size + 2) B [] (.slice (some ⟨w.heap.size + 1 + 1, 0, none⟩) 0 0)) := by
      refine Lib.hid ⟨[], ?_, by rw [RepX, RowX]⟩
      have := World.ownsRow_made (base := w.heap.size + 2) (e := 34) (size := 4) ((w.alloc (.cells #[.int .i64 k, .int .i64 i, .string s, .slice a' m.length c'] 34)).alloc (.cells #[.int .i64 0, .int .i64 0, .string ⟨#[]⟩, .slice none 0 0] 34)) #[] 0 (by simp) (Nat.zero_le _) rfl
      simpa using this
    have HV0 := Lib.hid (HV.out.below (B := B) (C := w.heap.size) ((S0.out.1).alloc (by simp; omega) (.cells #[] 34)) hB).src
    have hl0 : ([] : List PT).length + l.length ≤ 1000000 := by simp; omega
    have hsz0 : w.heap.size + 2 ≤ (((w.alloc (.cells #[.int .i64 k, .int .i64 i, .string s, .slice a' m.length c'] 34)).alloc (.cells #[.int .i64 0, .int .i64 0, .string ⟨#[]⟩, .slice none 0 0] 34)).alloc (.cells #[] 34)).heap.size := by simp
    have hB2 : B ≤ w.heap.size + 2 := by omega
    go_enter Tryz.func42, Tryz.ntmps42
    go_wp2_with (at_builtin; refine wpList_append_rows rfl _ _ rfl (w.heap.size + 2) B [] l _ _ rfl rfl HR0.out HV0.out hl0 hsz0 hB2 ?_)
    intro v1 w1 ho1 hbb1 _ _
    have S1 := Lib.hid ((S0.out.next ((Below.refl _ _).alloc (Nat.le_refl _) (.cells #[] 34))).nextB hbb1 (Nat.le_refl _))
    have HO1 := Lib.hid ho1
    clear ho1 hbb1 HR0 HV0 hsz0
    obtain ⟨c0, c1, c2, c3, d0, d1, d2, d3, _⟩ := S1.out.cells
    have hsz1 : w.heap.size + 2 ≤ w1.heap.size := S1.out.lt
    rcases (show k = 5 ∨ k = 6 ∨ (k ≠ 5 ∧ k ≠ 6) by omega) with rfl | rfl | ⟨k5, k6⟩
    · have e : makeT l (.mk 5 i s m) = .mk 5 0 ⟨#[]⟩ (l ++ m) := by rw [makeT, if_neg h0, if_pos (by omega)]
      have ER := Lib.hid (hr.trans e)
      clear hr e
      go_wp2
      have HBA := Lib.hid ((Below.refl w1.heap.size w1).drew)
      have S1D := Lib.hid S1.out.drew
      have HO2 : Hid (RowOwn w1.drew (w.heap.size + 2) B l v1) := by
        obtain ⟨xs, ho, hxs⟩ := HO1.out
        exact Lib.hid ⟨xs, ho, hxs.move (w := w1) (w' := w1.drew) (Nat.le_refl _) fun _ _ _ => rfl⟩
      have HSR : Hid (SrcS w1.drew B m (.slice a' m.length c')) := Lib.hid ((((HX.out.2.2.2.below S1.out.1 hB)).move (w := w1) (w' := w1.drew) (Nat.le_refl _) fun _ _ _ => rfl).src)
      have hsz2 : w.heap.size + 2 ≤ w1.drew.heap.size := hsz1
      have hl2 : l.length + m.length ≤ 1000000 := by omega
      go_region_law (first
        | (refine step_append_rows rfl _ _ rfl (w.heap.size + 2) B l m v1 _ rfl rfl HO2.out HSR.out hl2 hsz2 hB2 ?_
           intro v2 w2 ho2 hbb2 _ _
           have S2 := Lib.hid (S1D.out.nextB hbb2 (Nat.le_refl _))
           obtain ⟨a2, c2, rfl, _⟩ := ho2.rep (by have := S2.out.lt; omega)
           have HR2 := Lib.hid ho2
           clear ho2 hbb2
           obtain ⟨e0, e1, e2, e3, q0, q1, q2, q3, _⟩ := S2.out.cells
           have g0 : w2.frozen? ⟨w.heap.size + 1, 0, none⟩ = false := Lib.frozen_of_heap S2.out.2.2 0
           have g1 : w2.frozen? ⟨w.heap.size + 1, 1, none⟩ = false := Lib.frozen_of_heap S2.out.2.2 1
           have g2 : w2.frozen? ⟨w.heap.size + 1, 2, none⟩ = false := Lib.frozen_of_heap S2.out.2.2 2
           have g3 : w2.frozen? ⟨w.heap.size + 1, 3, none⟩ = false := Lib.frozen_of_heap S2.out.2.2 3))
      all_goals
        have er := ER.out
        subst er
        clear ER
        go_wp2
        obtain ⟨e4, r4, b4⟩ := end_facts S2.out HR2.out hB 5 (ok_small (by decide))
        have o4 := end_own HR2.out hB 5
        simp only [List.length_append] at e4 r4 b4 o4
        exact bodyPost_ret (results_cell_row (P := Tryz.prog) rfl _ _ (w.heap.size + 1) 34 _ (0, 0) _ rfl e4 Tryz.underlying34 rfl (by kernel_rfl)) rfl ⟨⟨_, rfl, r4, .inr ⟨_, _, _, _, rfl, o4⟩⟩, b4⟩
    · have e : makeT l (.mk 6 i s m) = .mk 6 0 ⟨#[]⟩ (l ++ m) := by rw [makeT, if_neg h0, if_pos (by omega)]
      have ER := Lib.hid (hr.trans e)
      clear hr e
      go_wp2
      have HBA := Lib.hid ((Below.refl w1.heap.size w1).drew)
      have S1D := Lib.hid S1.out.drew
      have HO2 : Hid (RowOwn w1.drew (w.heap.size + 2) B l v1) := by
        obtain ⟨xs, ho, hxs⟩ := HO1.out
        exact Lib.hid ⟨xs, ho, hxs.move (w := w1) (w' := w1.drew) (Nat.le_refl _) fun _ _ _ => rfl⟩
      have HSR : Hid (SrcS w1.drew B m (.slice a' m.length c')) := Lib.hid ((((HX.out.2.2.2.below S1.out.1 hB)).move (w := w1) (w' := w1.drew) (Nat.le_refl _) fun _ _ _ => rfl).src)
      have hsz2 : w.heap.size + 2 ≤ w1.drew.heap.size := hsz1
      have hl2 : l.length + m.length ≤ 1000000 := by omega
      go_region_law (first
        | (refine step_append_rows rfl _ _ rfl (w.heap.size + 2) B l m v1 _ rfl rfl HO2.out HSR.out hl2 hsz2 hB2 ?_
           intro v2 w2 ho2 hbb2 _ _
           have S2 := Lib.hid (S1D.out.nextB hbb2 (Nat.le_refl _))
           obtain ⟨a2, c2, rfl, _⟩ := ho2.rep (by have := S2.out.lt; omega)
           have HR2 := Lib.hid ho2
           clear ho2 hbb2
           obtain ⟨e0, e1, e2, e3, q0, q1, q2, q3, _⟩ := S2.out.cells
           have g0 : w2.frozen? ⟨w.heap.size + 1, 0, none⟩ = false := Lib.frozen_of_heap S2.out.2.2 0
           have g1 : w2.frozen? ⟨w.heap.size + 1, 1, none⟩ = false := Lib.frozen_of_heap S2.out.2.2 1
           have g2 : w2.frozen? ⟨w.heap.size + 1, 2, none⟩ = false := Lib.frozen_of_heap S2.out.2.2 2
           have g3 : w2.frozen? ⟨w.heap.size + 1, 3, none⟩ = false := Lib.frozen_of_heap S2.out.2.2 3))
      all_goals
        have er := ER.out
        subst er
        clear ER
        go_wp2
        obtain ⟨e4, r4, b4⟩ := end_facts S2.out HR2.out hB 6 (ok_small (by decide))
        have o4 := end_own HR2.out hB 6
        simp only [List.length_append] at e4 r4 b4 o4
        exact bodyPost_ret (results_cell_row (P := Tryz.prog) rfl _ _ (w.heap.size + 1) 34 _ (0, 0) _ rfl e4 Tryz.underlying34 rfl (by kernel_rfl)) rfl ⟨⟨_, rfl, r4, .inr ⟨_, _, _, _, rfl, o4⟩⟩, b4⟩
    · have e : makeT l (.mk k i s m) = .mk 6 0 ⟨#[]⟩ (l ++ [.mk k i s m]) := by rw [makeT, if_neg h0, if_neg (by omega)]
      have ER := Lib.hid (hr.trans e)
      clear hr e
      have k5' : (k == 5) = false := by simpa using k5
      have k6' : (k == 6) = false := by simpa using k6
      clear k5 k6
      have hx1 := HX.out.below S1.out.1 hB
      have hat : RepAt (w1.alloc (.cells #[.int .i64 k, .int .i64 i, .string s, .slice a' m.length c'] 34)) B [.mk k i s m] w1.heap.size 0 := by
        have h := heap_alloc_new w1 (.cells #[.int .i64 k, .int .i64 i, .string s, .slice a' m.length c'] 34)
        have hx2 := hx1.below ((Below.refl w1.heap.size w1).alloc (Nat.le_refl _) (.cells #[.int .i64 k, .int .i64 i, .string s, .slice a' m.length c'] 34)) (by omega)
        rw [RepAt, RepAt, repD_mk]
        refine ⟨⟨hx2.1, hx2.2.1, hx2.2.2.1, ?_, ?_, ?_, _, ?_, hx2.2.2.2⟩, trivial⟩
        all_goals (rw [Lib.cell_of_heap h]; rfl)
      have HSR : Hid (SrcS (w1.alloc (.cells #[.int .i64 k, .int .i64 i, .string s, .slice a' m.length c'] 34)) B [.mk k i s m] (.slice (some ⟨w1.heap.size, 0, none⟩) 1 1)) := Lib.hid ⟨_, 1, rfl, Nat.le_refl _, by decide, (fun h => by cases h), .inr ⟨_, _, rfl, hat⟩⟩
      have HO2 : Hid (RowOwn (w1.alloc (.cells #[.int .i64 k, .int .i64 i, .string s, .slice a' m.length c'] 34)) (w.heap.size + 2) B l v1) := by
        obtain ⟨xs, ho, hxs⟩ := HO1.out
        exact Lib.hid ⟨xs, ho.alloc _, hxs.move (Nat.le_refl _) fun b o hb => by
          refine World.cell?_of_block (w := w1) (a := ⟨b, o, none⟩) ?_
          exact Lib.alloc_old _ _ _ (by show b < _; omega)⟩
      have hl2 : l.length + [PT.mk k i s m].length ≤ 1000000 := by simp; omega
      have hsz2 : w.heap.size + 2 ≤ (w1.alloc (.cells #[.int .i64 k, .int .i64 i, .string s, .slice a' m.length c'] 34)).heap.size := by simp; omega
      have HBA := Lib.hid ((Below.refl w1.heap.size w1).alloc (Nat.le_refl _) (.cells #[.int .i64 k, .int .i64 i, .string s, .slice a' m.length c'] 34))
      clear hat hx1
      go_wp2_with (at_builtin; refine wpList_append_rows rfl _ _ rfl (w.heap.size + 2) B l [.mk k i s m] v1 _ rfl rfl HO2.out HSR.out hl2 hsz2 hB2 ?_)
      intro v2 w2 ho2 hbb2 _ _
      have S2 := Lib.hid ((S1.out.next HBA.out).nextB hbb2 (Nat.le_refl _))
      obtain ⟨a2, c2, rfl, _⟩ := ho2.rep (by have := S2.out.lt; omega)
      have HR2 := Lib.hid ho2
      clear ho2 hbb2 c0 c1 c3 d0 d1 d2 d3
      obtain ⟨_, _, _, _, d0, d1, d2, d3, _⟩ := S2.out.cells
      have g0 : w2.frozen? ⟨w.heap.size + 1, 0, none⟩ = false := Lib.frozen_of_heap S2.out.2.2 0
      have g1 : w2.frozen? ⟨w.heap.size + 1, 1, none⟩ = false := Lib.frozen_of_heap S2.out.2.2 1
      have g2 : w2.frozen? ⟨w.heap.size + 1, 2, none⟩ = false := Lib.frozen_of_heap S2.out.2.2 2
      have g3 : w2.frozen? ⟨w.heap.size + 1, 3, none⟩ = false := Lib.frozen_of_heap S2.out.2.2 3
      have er := ER.out
      subst er
      clear ER
      go_wp2
      obtain ⟨e4, r4, b4⟩ := end_facts S2.out HR2.out hB 6 (ok_small (by decide))
      have o4 := end_own HR2.out hB 6
      simp only [List.length_append, List.length_cons, List.length_nil] at e4 r4 b4 o4
      exact bodyPost_ret (results_cell_row (P := Tryz.prog) rfl _ _ (w.heap.size + 1) 34 _ (0, 0) _ rfl e4 Tryz.underlying34 rfl (by kernel_rfl)) rfl ⟨⟨_, rfl, r4, .inr ⟨_, _, _, _, rfl, o4⟩⟩, b4⟩
end Go.Proofs.YthfjlcflpneffaaGreatDoor.Dat
