/-
The law DatumMakes of layer 2: package data's Items.
-/
import Derived.Test.YtphgcdmjnmopiaaDoorM6
namespace Go.Proofs.YtphgcdmjnmopiaaDoor
open Go.ChangeShapes Go.WideShapes Go.ChangeAt Go.RowKit

theorem NewV.rep {w : World} {C : Nat} {t : PT} {v : Value} (h : NewV w C t v) : RepV w w.heap.size t v := by
  match t with
  | .mk k i s l => exact ⟨h.1, h.2.1, h.2.2.1, h.2.2.2.rep⟩
theorem NewV.move {w w' : World} {C C' : Nat} (hC : C' ≤ C) (hc : ∀ b o v, C ≤ b → w.cell? ⟨b, o, none⟩ = some v → w'.cell? ⟨b, o, none⟩ = some v) {t : PT} {v : Value} (h : NewV w C t v) : NewV w' C' t v := by
  match t with
  | .mk k i s l => exact ⟨h.1, h.2.1, h.2.2.1, h.2.2.2.move hC hc⟩

/-- Behind the four stores to a result's cell. -/
theorem new_end {w W : World} {cs : Array Value} {y0 y1 y2 y3 : Value} (S : St2 w cs #[y0, y1, y2, y3] W) (x0 x1 x2 x3 : Value) :
    ((((W.setCell ⟨w.heap.size + 1, 0, none⟩ x0).setCell ⟨w.heap.size + 1, 1, none⟩ x1).setCell ⟨w.heap.size + 1, 2, none⟩ x2).setCell ⟨w.heap.size + 1, 3, none⟩ x3).heap[w.heap.size + 1]? = some (.cells #[x0, x1, x2, x3] 24 (0, 0)) ∧
    Keep (w.heap.size + 2) W ((((W.setCell ⟨w.heap.size + 1, 0, none⟩ x0).setCell ⟨w.heap.size + 1, 1, none⟩ x1).setCell ⟨w.heap.size + 1, 2, none⟩ x2).setCell ⟨w.heap.size + 1, 3, none⟩ x3) ∧
    Below w.heap.size w ((((W.setCell ⟨w.heap.size + 1, 0, none⟩ x0).setCell ⟨w.heap.size + 1, 1, none⟩ x1).setCell ⟨w.heap.size + 1, 2, none⟩ x2).setCell ⟨w.heap.size + 1, 3, none⟩ x3) :=
  ⟨row_set4 S.2.2 _ _ _ _,
    ((((Keep.refl _ _).setCell (a := ⟨w.heap.size + 1, 0, none⟩) (by simp only []; omega) _).setCell (a := ⟨w.heap.size + 1, 1, none⟩) (by simp only []; omega) _).setCell (a := ⟨w.heap.size + 1, 2, none⟩) (by simp only []; omega) _).setCell (a := ⟨w.heap.size + 1, 3, none⟩) (by simp only []; omega) _,
    ((((S.1.setCell (p := ⟨w.heap.size + 1, 0, none⟩) (by simp only []; omega) _).setCell (p := ⟨w.heap.size + 1, 1, none⟩) (by simp only []; omega) _).setCell (p := ⟨w.heap.size + 1, 2, none⟩) (by simp only []; omega) _).setCell (p := ⟨w.heap.size + 1, 3, none⟩) (by simp only []; omega) _)⟩

theorem St2.froz {w W : World} {cs : Array Value} {y0 y1 y2 y3 : Value} (S : St2 w cs #[y0, y1, y2, y3] W) :
    W.frozen? ⟨w.heap.size + 1, 0, none⟩ = false ∧ W.frozen? ⟨w.heap.size + 1, 1, none⟩ = false ∧ W.frozen? ⟨w.heap.size + 1, 2, none⟩ = false ∧ W.frozen? ⟨w.heap.size + 1, 3, none⟩ = false :=
  ⟨Lib.frozen_of_heap S.2.2 0, Lib.frozen_of_heap S.2.2 1, Lib.frozen_of_heap S.2.2 2, Lib.frozen_of_heap S.2.2 3⟩

set_option maxRecDepth 100000 in
theorem items_list (i : Int) (s : ByteArray) (l : List PT) (v : Value) (w : World) (B : Nat) (hv : RepV w B (.mk 5 i s l) v) (hB : B ≤ w.heap.size) (hn : numT (.mk 5 i s l) ≤ 200000) :
    Calls Tryd.prog 21 #[.agg #[.int .i64 5, .int .i64 i, .string s, v]] w fun e w' => ItemsOk (.mk 5 i s l) e w' ∧ Below w.heap.size w w' := by
  have HV := Lib.hid hv
  have HN := Lib.hid hn
  obtain ⟨a, c, e, hl, hm, hna, hr⟩ := hv.2.2.2
  subst e
  unfold maxLen at hm
  clear hv hn
  have S0 := Lib.hid (St2.first w #[.int .i64 5, .int .i64 i, .string s, .slice a l.length c] #[.int .i64 0, .int .i64 0, .string ⟨#[]⟩, .slice none 0 0])
  clear hr hna
  have C := Lib.hid (copiedList_any l ((w.alloc (.cells #[.int .i64 5, .int .i64 i, .string s, .slice a l.length c] 24)).alloc (.cells #[.int .i64 0, .int .i64 0, .string ⟨#[]⟩, .slice none 0 0] 24)) B (.slice a l.length c) (HV.out.2.2.2.below S0.out.1 hB) (by have := S0.out.1.size; omega) (by have := HN.out; rw [numT] at this; omega))
  go_enter Tryd.func21, Tryd.ntmps21
  go_wp2_with fail
  refine C.out.mono ?_
  rintro e w1 ⟨⟨v', rfl, hn1⟩, hb1⟩
  have S1 := Lib.hid (S0.out.next hb1)
  have N1 := Lib.hid (hn1.move (C' := w.heap.size + 2) (by simp) fun _ _ _ _ h => h)
  obtain ⟨a', c', rfl, _⟩ := hn1
  obtain ⟨g0, g1, g2, g3⟩ := S1.out.froz
  obtain ⟨_, _, _, _, d0, d1, d2, d3, _⟩ := S1.out.cells
  clear hb1 C
  go_wp2
  obtain ⟨e4, K4, b4⟩ := new_end S1.out (.int .i64 5) (.int .i64 0) (.string ⟨#[]⟩) (.slice none 0 0)
  refine bodyPost_ret (results_tmp_row (P := Tryd.prog) (t := 2) (p := 3) rfl _ _ (w.heap.size + 1) 24 _ (0, 0) _ rfl e4 Tryd.underlying24 rfl (by kernel_rfl)) rfl ?_
  exact ⟨⟨.slice a' l.length c', .slice none 0 0, rfl, (N1.out.move (Nat.le_refl _) K4.cell).rep, ok_small (by decide), ok_small (by decide), by decide, rep_nil _ _⟩, b4⟩

set_option maxRecDepth 100000 in
set_option maxHeartbeats 2000000 in
theorem items_leaf (k i : Int) (s : ByteArray) (l : List PT) (v : Value) (w : World) (B : Nat) (hv : RepV w B (.mk k i s l) v) (hB : B ≤ w.heap.size) (hn : numT (.mk k i s l) ≤ 200000) (k5 : k ≠ 5) (k6 : k ≠ 6 ∨ k = 6 ∧ l = []) :
    Calls Tryd.prog 21 #[.agg #[.int .i64 k, .int .i64 i, .string s, v]] w fun e w' => ItemsOk (.mk k i s l) e w' ∧ Below w.heap.size w w' := by
  have HV := Lib.hid hv
  have HN := Lib.hid hn
  obtain ⟨a, c, e, hl, hm, hna, hr⟩ := hv.2.2.2
  subst e
  unfold maxLen at hm
  clear hv hn
  have S0 := Lib.hid (St2.first w #[.int .i64 k, .int .i64 i, .string s, .slice a l.length c] #[.int .i64 0, .int .i64 0, .string ⟨#[]⟩, .slice none 0 0])
  have eT : itemsT (.mk k i s l) = .mk k i s l := by
    rw [itemsT, if_neg k5]
    rcases k6 with k6 | ⟨rfl, rfl⟩
    · rw [if_neg k6]
    · rw [if_pos rfl]; rfl
  have eL : itemsL (.mk k i s l) = [] := by
    rw [itemsL, if_neg k5]
    rcases k6 with k6 | ⟨rfl, rfl⟩
    · rw [if_neg k6]
    · rw [if_pos rfl]; rfl
  have C := Lib.hid (copied_any (.mk k i s l) ((w.alloc (.cells #[.int .i64 k, .int .i64 i, .string s, .slice a l.length c] 24)).alloc (.cells #[.int .i64 0, .int .i64 0, .string ⟨#[]⟩, .slice none 0 0] 24)) B (.slice a l.length c) (HV.out.below S0.out.1 hB) (by have := S0.out.1.size; omega) HN.out)
  have ET := Lib.hid eT
  have EL := Lib.hid eL
  have k5' : (k == 5) = false := by simpa using k5
  clear eT eL hr k5 hna
  have k6' : (k == 6) = false ∨ (k == 6) = true ∧ l = [] := by
    rcases k6 with k6 | ⟨rfl, rfl⟩
    · exact .inl (by simpa using k6)
    · exact .inr ⟨rfl, rfl⟩
  clear k6
  rcases k6' with k6 | ⟨k6, rfl⟩
  · go_enter Tryd.func21, Tryd.ntmps21
    go_wp2_with fail
    refine C.out.mono ?_
    rintro e w1 ⟨⟨v', he, hn1⟩, hb1⟩
    change e = .returned (.agg #[.int .i64 k, .int .i64 i, .string s, v']) at he
    subst he
    have S1 := Lib.hid (S0.out.next hb1)
    have N1 := Lib.hid (hn1.move (C' := w.heap.size + 2) (by simp) fun _ _ _ _ h => h)
    obtain ⟨a', c', rfl, _⟩ := hn1.2.2.2
    obtain ⟨g0, g1, g2, g3⟩ := S1.out.froz
    obtain ⟨_, _, _, _, d0, d1, d2, d3, _⟩ := S1.out.cells
    clear hb1 C hn1
    go_wp2
    obtain ⟨e4, K4, b4⟩ := new_end S1.out (.int .i64 k) (.int .i64 i) (.string s) (.slice a' l.length c')
    refine bodyPost_ret (results_tmp_row (P := Tryd.prog) (t := 2) (p := 3) rfl _ _ (w.heap.size + 1) 24 _ (0, 0) _ rfl e4 Tryd.underlying24 rfl (by kernel_rfl)) rfl ?_
    refine ⟨⟨.slice none 0 0, .slice a' l.length c', ?_, ?_, ?_⟩, b4⟩
    · rw [ET.out]; rfl
    · rw [EL.out]; exact rep_nil _ _
    · rw [ET.out]; exact (N1.out.move (Nat.le_refl _) K4.cell).rep
  · go_enter Tryd.func21, Tryd.ntmps21
    go_wp2_with fail
    refine C.out.mono ?_
    rintro e w1 ⟨⟨v', he, hn1⟩, hb1⟩
    change e = .returned (.agg #[.int .i64 k, .int .i64 i, .string s, v']) at he
    subst he
    have S1 := Lib.hid (S0.out.next hb1)
    have N1 := Lib.hid (hn1.move (C' := w.heap.size + 2) (by simp) fun _ _ _ _ h => h)
    obtain ⟨a', c', rfl, _⟩ := hn1.2.2.2
    obtain ⟨g0, g1, g2, g3⟩ := S1.out.froz
    obtain ⟨_, _, _, _, d0, d1, d2, d3, _⟩ := S1.out.cells
    clear hb1 C hn1
    go_wp2
    obtain ⟨e4, K4, b4⟩ := new_end S1.out (.int .i64 k) (.int .i64 i) (.string s) (.slice a' 0 c')
    refine bodyPost_ret (results_tmp_row (P := Tryd.prog) (t := 2) (p := 3) rfl _ _ (w.heap.size + 1) 24 _ (0, 0) _ rfl e4 Tryd.underlying24 rfl (by kernel_rfl)) rfl ?_
    refine ⟨⟨.slice none 0 0, .slice a' 0 c', ?_, ?_, ?_⟩, b4⟩
    · rw [ET.out]; rfl
    · rw [EL.out]; exact rep_nil _ _
    · rw [ET.out]; exact (N1.out.move (Nat.le_refl _) K4.cell).rep
end Go.Proofs.YtphgcdmjnmopiaaDoor
