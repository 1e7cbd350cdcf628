/-
The law DatumMakes of layer 2: package data's Items at a dotted list.
-/
import Derived.Test.YtphgcdmjnmopiaaDoorM7
namespace Go.Proofs.YtphgcdmjnmopiaaDoor
open Go.ChangeShapes Go.WideShapes Go.ChangeAt Go.RowKit

theorem nums_take (l : List PT) (j : Nat) : numsT (l.take j) ≤ numsT l := numsT_le l j

set_option maxRecDepth 100000 in
set_option maxHeartbeats 4000000 in
theorem items_dotted (i : Int) (s : ByteArray) (l : List PT) (v : Value) (w : World) (B : Nat) (hv : RepV w B (.mk 6 i s l) v) (hB : B ≤ w.heap.size) (hn : numT (.mk 6 i s l) ≤ 200000) (h0 : l ≠ []) :
    Calls Tryd.prog 21 #[.agg #[.int .i64 6, .int .i64 i, .string s, v]] w fun e w' => ItemsOk (.mk 6 i s l) e w' ∧ Below w.heap.size w w' := by
  rw [numT] at hn
  obtain ⟨a, c, e, hl, hm, hna, hr⟩ := hv.2.2.2
  subst e
  unfold maxLen at hm
  clear hv
  rcases hr with hr | ⟨b, o, rfl, hb, hr⟩
  · exact absurd hr h0
  have S0 := Lib.hid (St2.first w #[.int .i64 6, .int .i64 i, .string s, .slice (some ⟨b, o, none⟩) l.length c] #[.int .i64 0, .int .i64 0, .string ⟨#[]⟩, .slice none 0 0])
  obtain ⟨j, hj⟩ : ∃ j, l.length = j + 1 := ⟨l.length - 1, by have := List.length_pos_iff.2 h0; omega⟩
  have hjl : j < l.length := by omega
  obtain ⟨k1, i1, s1, n1, v1, hj1, ok1, ok2, hs1, d0, d1, d2, d3, hv1⟩ := repAt_item hr hjl
  obtain ⟨a1, c1', rfl, hv1'⟩ := hv1
  have HV1 : Hid (RepS w B n1 (.slice a1 n1.length c1')) := Lib.hid ⟨a1, c1', rfl, hv1'⟩
  have hlen : (l.take j).length = j := by rw [List.length_take]; omega
  have hnum1 : numT (.mk k1 i1 s1 n1) ≤ 200000 := by
    have := nums_get hjl
    rw [hj1] at this
    omega
  have eT : itemsT (.mk 6 i s l) = .mk k1 i1 s1 n1 := by
    rw [itemsT, if_neg (by decide), if_pos rfl, List.getLast?_eq_getElem?, hj, Nat.add_sub_cancel, List.getElem?_eq_getElem hjl, hj1]
    rfl
  have eL : itemsL (.mk 6 i s l) = l.take j := by rw [itemsL, if_neg (by decide), if_pos rfl, List.dropLast_eq_take, hj]; rfl
  have C39 : Hid (∀ W, St2 w #[.int .i64 6, .int .i64 i, .string s, .slice (some ⟨b, o, none⟩) l.length c] #[.int .i64 0, .int .i64 0, .string ⟨#[]⟩, .slice none 0 0] W → Calls Tryd.prog 39 #[.slice (some ⟨b, o, none⟩) j c] W fun e w' => (∃ v', e = .returned v' ∧ NewS w' (w.heap.size + 2) (l.take j) v') ∧ Below W.heap.size W w') := Lib.hid fun W hW => by
    have hr' := repAt_take j (hr.below hW.1 hB hb)
    have hv' : RepS W B (l.take j) (.slice (some ⟨b, o, none⟩) j c) := ⟨_, c, by rw [hlen], by omega, by unfold maxLen; omega, (fun h => by cases h), .inr ⟨b, o, rfl, hb, hr'⟩⟩
    refine (copiedList_any (l.take j) W B _ hv' (by have := hW.lt; omega) (by have := nums_take l j; omega)).mono ?_
    rintro e w' ⟨⟨v', he, hn'⟩, hb'⟩
    exact ⟨⟨v', he, hn'.move hW.lt fun _ _ _ _ h => h⟩, hb'⟩
  have C37 : Hid (∀ W, St2 w #[.int .i64 6, .int .i64 i, .string s, .slice (some ⟨b, o, none⟩) l.length c] #[.int .i64 0, .int .i64 0, .string ⟨#[]⟩, .slice none 0 0] W → Calls Tryd.prog 37 #[.agg #[.int .i64 k1, .int .i64 i1, .string s1, .slice a1 n1.length c1']] W fun e w' => (∃ a2 c2, e = .returned (.agg #[.int .i64 k1, .int .i64 i1, .string s1, .slice a2 n1.length c2]) ∧ NewV w' (w.heap.size + 2) (.mk k1 i1 s1 n1) (.slice a2 n1.length c2)) ∧ Below W.heap.size W w') := Lib.hid fun W hW => by
    refine (copied_any (.mk k1 i1 s1 n1) W B (.slice a1 n1.length c1') ⟨ok1, ok2, hs1, HV1.out.below hW.1 hB⟩ (by have := hW.lt; omega) hnum1).mono ?_
    rintro e w' ⟨⟨v', he, hn'⟩, hb'⟩
    have hm := NewV.move (C' := w.heap.size + 2) hW.lt (fun _ _ _ _ h => h) hn'
    obtain ⟨a2, c2, rfl, _⟩ := hn'.2.2.2
    exact ⟨⟨a2, c2, he, hm⟩, hb'⟩
  have DC : Hid (∀ W, Below w.heap.size w W → W.cell? ⟨b, o + j * 4, none⟩ = some (.int .i64 k1) ∧ W.cell? ⟨b, o + j * 4 + 1, none⟩ = some (.int .i64 i1) ∧ W.cell? ⟨b, o + j * 4 + 2, none⟩ = some (.string s1) ∧ W.cell? ⟨b, o + j * 4 + 3, none⟩ = some (.slice a1 n1.length c1')) := Lib.hid fun W h => by
    refine ⟨?_, ?_, ?_, ?_⟩
    · rw [h.cell (p := ⟨b, o + j * 4, none⟩) (by show b < _; omega)]; exact d0
    · rw [h.cell (p := ⟨b, o + j * 4 + 1, none⟩) (by show b < _; omega)]; exact d1
    · rw [h.cell (p := ⟨b, o + j * 4 + 2, none⟩) (by show b < _; omega)]; exact d2
    · rw [h.cell (p := ⟨b, o + j * 4 + 3, none⟩) (by show b < _; omega)]; exact d3
  have FIN : Hid (∀ W v1 a2 c2, St2 w #[.int .i64 6, .int .i64 i, .string s, .slice (some ⟨b, o, none⟩) l.length c] #[.int .i64 0, .int .i64 0, .string ⟨#[]⟩, .slice none 0 0] W → NewS W (w.heap.size + 2) (l.take j) v1 → NewV W (w.heap.size + 2) (.mk k1 i1 s1 n1) (.slice a2 n1.length c2) →
      ((((W.setCell ⟨w.heap.size + 1, 0, none⟩ (.int .i64 k1)).setCell ⟨w.heap.size + 1, 1, none⟩ (.int .i64 i1)).setCell ⟨w.heap.size + 1, 2, none⟩ (.string s1)).setCell ⟨w.heap.size + 1, 3, none⟩ (.slice a2 n1.length c2)).heap[w.heap.size + 1]? = some (.cells #[.int .i64 k1, .int .i64 i1, .string s1, .slice a2 n1.length c2] 24 (0, 0)) ∧
      ItemsOk (.mk 6 i s l) (.returned (.tuple #[v1, .agg #[.int .i64 k1, .int .i64 i1, .string s1, .slice a2 n1.length c2]])) ((((W.setCell ⟨w.heap.size + 1, 0, none⟩ (.int .i64 k1)).setCell ⟨w.heap.size + 1, 1, none⟩ (.int .i64 i1)).setCell ⟨w.heap.size + 1, 2, none⟩ (.string s1)).setCell ⟨w.heap.size + 1, 3, none⟩ (.slice a2 n1.length c2)) ∧
      Below w.heap.size w ((((W.setCell ⟨w.heap.size + 1, 0, none⟩ (.int .i64 k1)).setCell ⟨w.heap.size + 1, 1, none⟩ (.int .i64 i1)).setCell ⟨w.heap.size + 1, 2, none⟩ (.string s1)).setCell ⟨w.heap.size + 1, 3, none⟩ (.slice a2 n1.length c2))) := Lib.hid fun W v1 a2 c2 hS h1 h2 => by
    obtain ⟨e4, K4, b4⟩ := new_end hS (.int .i64 k1) (.int .i64 i1) (.string s1) (.slice a2 n1.length c2)
    refine ⟨e4, ⟨v1, .slice a2 n1.length c2, ?_, ?_, ?_⟩, b4⟩
    · rw [eT]; rfl
    · rw [eL]; exact (h1.move (Nat.le_refl _) K4.cell).rep
    · rw [eT]; exact (h2.move (Nat.le_refl _) K4.cell).rep
  have hpos : (0 : Int) < (l.length : Int) := by omega
  have hm1 : (l.length : Int) - 1 = (j : Int) := by omega
  have hjc : j ≤ c := by omega
  have S0d := S0.out.drew
  have HSD := Lib.hid S0d
  obtain ⟨q0, q1, q2, q3, y0, y1, y2, y3, _⟩ := S0d.cells
  obtain ⟨z0, z1, z2, z3⟩ := DC.out _ S0d.1
  clear hr hj hj1 h0 eT eL hlen d0 d1 d2 d3 hv1' hna
  go_enter Tryd.func21, Tryd.ntmps21
  go_wp2
  go_region_with (first
    | (go_at_call 39; refine (C39.out _ (by assumption)).mono ?_; rintro e w1 ⟨⟨v1, rfl, g1⟩, hb1⟩; have s1' := St2.next (w := w) (by assumption) hb1; (try have g2 := NewV.move (Nat.le_refl _) (fun b o v _ h => kept_of_below hb1 b o v h) (by assumption : NewV _ (w.heap.size + 2) (.mk k1 i1 s1 n1) _)); obtain ⟨p0, p1, p2, p3, p4, p5, p6, p7, _⟩ := s1'.cells; obtain ⟨r0, r1, r2, r3⟩ := DC.out _ s1'.1; obtain ⟨f0, f1, f2, f3⟩ := s1'.froz)
    | (go_at_call 37; refine (C37.out _ (by assumption)).mono ?_; rintro e w1 ⟨⟨a2, c2, rfl, g2⟩, hb1⟩; have s1' := St2.next (w := w) (by assumption) hb1; (try have g1 := NewS.move (Nat.le_refl _) (fun b o v _ h => kept_of_below hb1 b o v h) (by assumption : NewS _ (w.heap.size + 2) (l.take j) _)); obtain ⟨p0, p1, p2, p3, p4, p5, p6, p7, _⟩ := s1'.cells; obtain ⟨r0, r1, r2, r3⟩ := DC.out _ s1'.1; obtain ⟨f0, f1, f2, f3⟩ := s1'.froz))
  all_goals
    go_wp2
    refine bodyPost_ret (results_tmp_row (P := Tryd.prog) (t := 2) (p := 3) rfl _ _ (w.heap.size + 1) 24 _ (0, 0) _ rfl (FIN.out _ _ _ _ (by assumption) (by assumption) (by assumption)).1 Tryd.underlying24 rfl (by kernel_rfl)) rfl (show ItemsOk _ _ _ ∧ _ from (FIN.out _ _ _ _ (by assumption) (by assumption) (by assumption)).2)

/-- Package data's Items, at every datum. -/
theorem items_any (k i : Int) (s : ByteArray) (l : List PT) (v : Value) (w : World) (B : Nat) (hv : RepV w B (.mk k i s l) v) (hB : B ≤ w.heap.size) (hn : numT (.mk k i s l) ≤ 200000) :
    Calls Tryd.prog 21 #[.agg #[.int .i64 k, .int .i64 i, .string s, v]] w fun e w' => ItemsOk (.mk k i s l) e w' ∧ Below w.heap.size w w' := by
  by_cases h5 : k = 5
  · subst h5
    exact items_list i s l v w B hv hB hn
  · by_cases h6 : k = 6
    · by_cases h : l = []
      · exact items_leaf k i s l v w B hv hB hn h5 (.inr ⟨h6, h⟩)
      · subst h6
        exact items_dotted i s l v w B hv hB hn h
    · exact items_leaf k i s l v w B hv hB hn h5 (.inl h6)
end Go.Proofs.YtphgcdmjnmopiaaDoor
