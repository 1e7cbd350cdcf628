/-
The law DatumEquals of layer 2: its walk. Where the table of tens is as the program lays it.
-/
import Derived.Test.YtphgcdmjnmopiaaDoorE2
import Derived.Test.YtphgcdmjnmopiaaDoorE3
import Derived.Test.YtphgcdmjnmopiaaDoorD20
import Derived.Deep.RegionHeld3
namespace Go.Proofs.YtphgcdmjnmopiaaDoor
open Go.ChangeShapes Go.WideShapes Go.ChangeAt Go.RowKit

/-- The world W has come of w, and the data in the first two new blocks are as they were. -/
def St2 (w : World) (cs ds : Array Value) (W : World) : Prop := Below w.heap.size w W ∧ W.heap[w.heap.size]? = some (.cells cs 24 (0, 0)) ∧ W.heap[w.heap.size + 1]? = some (.cells ds 24 (0, 0))
theorem St2.first (w : World) (cs ds : Array Value) : St2 w cs ds ((w.alloc (.cells cs 24)).alloc (.cells ds 24)) := by
  refine ⟨((Below.refl _ _).alloc (Nat.le_refl _) _).alloc (by simp) _, blk_alloc (heap_alloc_new w _), ?_⟩
  have := heap_alloc_new (w.alloc (.cells cs 24)) (.cells ds 24)
  rwa [show (w.alloc (.cells cs 24)).heap.size = w.heap.size + 1 by simp] at this
theorem St2.lt {w W : World} {cs ds : Array Value} (h : St2 w cs ds W) : w.heap.size + 1 < W.heap.size := lt_of_block h.2.2
theorem St2.next {w W W' : World} {cs ds : Array Value} (h : St2 w cs ds W) (hb : Below W.heap.size W W') : St2 w cs ds W' :=
  ⟨h.1.trans (hb.mono (by have := h.lt; omega)), (hb.block _ (lt_of_block h.2.1)).trans h.2.1, (hb.block _ (lt_of_block h.2.2)).trans h.2.2⟩
theorem St2.drew {w W : World} {cs ds : Array Value} (h : St2 w cs ds W) : St2 w cs ds W.drew := ⟨h.1.drew, h.2⟩
theorem St2.cells {w W : World} {x0 x1 x2 x3 y0 y1 y2 y3 : Value} (h : St2 w #[x0, x1, x2, x3] #[y0, y1, y2, y3] W) :
    W.cell? ⟨w.heap.size, 0, none⟩ = some x0 ∧ W.cell? ⟨w.heap.size, 1, none⟩ = some x1 ∧ W.cell? ⟨w.heap.size, 2, none⟩ = some x2 ∧ W.cell? ⟨w.heap.size, 3, none⟩ = some x3 ∧
    W.cell? ⟨w.heap.size + 1, 0, none⟩ = some y0 ∧ W.cell? ⟨w.heap.size + 1, 1, none⟩ = some y1 ∧ W.cell? ⟨w.heap.size + 1, 2, none⟩ = some y2 ∧ W.cell? ⟨w.heap.size + 1, 3, none⟩ = some y3 ∧ St2 w #[x0, x1, x2, x3] #[y0, y1, y2, y3] W := by
  refine ⟨?_, ?_, ?_, ?_, ?_, ?_, ?_, ?_, h⟩
  · rw [Lib.cell_of_heap h.2.1]; rfl
  · rw [Lib.cell_of_heap h.2.1]; rfl
  · rw [Lib.cell_of_heap h.2.1]; rfl
  · rw [Lib.cell_of_heap h.2.1]; rfl
  · rw [Lib.cell_of_heap h.2.2]; rfl
  · rw [Lib.cell_of_heap h.2.2]; rfl
  · rw [Lib.cell_of_heap h.2.2]; rfl
  · rw [Lib.cell_of_heap h.2.2]; rfl

theorem St2.of {w W : World} {cs ds : Array Value} {a0 a1 a2 a3 a4 a5 a6 a7 : Prop} (h : a0 ∧ a1 ∧ a2 ∧ a3 ∧ a4 ∧ a5 ∧ a6 ∧ a7 ∧ St2 w cs ds W) : St2 w cs ds W := h.2.2.2.2.2.2.2.2

theorem sameB_refl (t : PT) : sameB t t = true := by simp [sameB]
theorem sameB_symm (t u : PT) : sameB t u = sameB u t := by simp [sameB, eq_comm]

theorem repS_two {W : World} {B n : Nat} {k i : Int} {s : ByteArray} {l : List PT} {v : Value} {k' i' : Int} {s' : ByteArray} {l' : List PT} {v' : Value} (hn : n < B) (hb : W.heap[n]? = some (.cells #[.int .i64 k, .int .i64 i, .string s, v, .int .i64 k', .int .i64 i', .string s', v'] 24 (0, 0)))
    (h1 : RepV W B (.mk k i s l) v) (h2 : RepV W B (.mk k' i' s' l') v') : RepS W B [.mk k i s l, .mk k' i' s' l'] (.slice (some ⟨n, 0, none⟩) 2 2) := by
  refine ⟨some ⟨n, 0, none⟩, 2, rfl, by simp, by decide, (fun h => by cases h), .inr ⟨n, 0, rfl, hn, ?_⟩⟩
  rw [RepAt, RepAt, RepAt]
  refine ⟨repD_mk.2 ⟨h1.1, h1.2.1, h1.2.2.1, ?_, ?_, ?_, v, ?_, h1.2.2.2⟩, repD_mk.2 ⟨h2.1, h2.2.1, h2.2.2.1, ?_, ?_, ?_, v', ?_, h2.2.2.2⟩, trivial⟩
  all_goals (rw [Lib.cell_of_heap hb]; rfl)
theorem RepV.below {w w' : World} {B C : Nat} {t : PT} {v : Value} (h : RepV w B t v) (hb : Below C w w') (hB : B ≤ C) : RepV w' B t v := by
  match t with
  | .mk k i s l => exact ⟨h.1, h.2.1, h.2.2.1, h.2.2.2.below hb hB⟩
theorem RepV.mono {w : World} {B C : Nat} {t : PT} {v : Value} (h : RepV w B t v) (hB : B ≤ C) : RepV w C t v := by
  match t with
  | .mk k i s l => exact ⟨h.1, h.2.1, h.2.2.1, h.2.2.2.move hB (fun _ _ _ => rfl)⟩

set_option maxHeartbeats 4000000 in
theorem equals_walk (k i : Int) (s : ByteArray) (v : Value) (l : List PT) (k' i' : Int) (s' : ByteArray) (v' : Value) (l' : List PT) (w : World) (hv : RepV w w.heap.size (.mk k i s l) v) (hv' : RepV w w.heap.size (.mk k' i' s' l') v') (htab : TabOk w) :
    Calls Tryd.prog 5 #[.agg #[.int .i64 k, .int .i64 i, .string s, v], .agg #[.int .i64 k', .int .i64 i', .string s', v']] w fun e w' => e = .returned (.bool true) ∧ Below w.heap.size w w' := by
  have h2 : 2 ≤ w.heap.size := by obtain ⟨T, fr, h⟩ := htab; have := lt_of_block h; omega
  obtain ⟨a, c, e, _⟩ := hv.2.2.2
  subst e
  obtain ⟨b, d, e, _⟩ := hv'.2.2.2
  subst e
  have s0 := St2.first w #[.int .i64 k, .int .i64 i, .string s, .slice a l.length c] #[.int .i64 k', .int .i64 i', .string s', .slice b l'.length d]
  have C9 := Lib.hid (fun W (h : St2 w #[.int .i64 k, .int .i64 i, .string s, .slice a l.length c] #[.int .i64 k', .int .i64 i', .string s', .slice b l'.length d] W) => fixed_any W (by have := h.lt; omega) (tabOk_below htab h.1 h2))
  have D1 : ∀ W, St2 w #[.int .i64 k, .int .i64 i, .string s, .slice a l.length c] #[.int .i64 k', .int .i64 i', .string s', .slice b l'.length d] W → Calls Tryd.prog 18 #[.agg #[.int .i64 k, .int .i64 i, .string s, .slice a l.length c], .agg #[.int .i64 k', .int .i64 i', .string s', .slice b l'.length d]] W fun e w' => e = .returned (.bool (sameB (.mk k i s l) (.mk k' i' s' l'))) ∧ Below W.heap.size W w' := fun W h => eq_any (.mk k i s l) (.mk k' i' s' l') W w.heap.size _ _ (hv.below h.1 (Nat.le_refl _)) (hv'.below h.1 (Nat.le_refl _)) (by have := h.lt; omega)
  have D2 : ∀ W, St2 w #[.int .i64 k, .int .i64 i, .string s, .slice a l.length c] #[.int .i64 k', .int .i64 i', .string s', .slice b l'.length d] W → Calls Tryd.prog 18 #[.agg #[.int .i64 k, .int .i64 i, .string s, .slice a l.length c], .agg #[.int .i64 k, .int .i64 i, .string s, .slice a l.length c]] W fun e w' => e = .returned (.bool (sameB (.mk k i s l) (.mk k i s l))) ∧ Below W.heap.size W w' := fun W h => eq_any (.mk k i s l) (.mk k i s l) W w.heap.size _ _ (hv.below h.1 (Nat.le_refl _)) (hv.below h.1 (Nat.le_refl _)) (by have := h.lt; omega)
  have D3 : ∀ W, St2 w #[.int .i64 k, .int .i64 i, .string s, .slice a l.length c] #[.int .i64 k', .int .i64 i', .string s', .slice b l'.length d] W → Calls Tryd.prog 18 #[.agg #[.int .i64 k', .int .i64 i', .string s', .slice b l'.length d], .agg #[.int .i64 k, .int .i64 i, .string s, .slice a l.length c]] W fun e w' => e = .returned (.bool (sameB (.mk k' i' s' l') (.mk k i s l))) ∧ Below W.heap.size W w' := fun W h => eq_any (.mk k' i' s' l') (.mk k i s l) W w.heap.size _ _ (hv'.below h.1 (Nat.le_refl _)) (hv.below h.1 (Nat.le_refl _)) (by have := h.lt; omega)
  have D4 : ∀ W, St2 w #[.int .i64 k, .int .i64 i, .string s, .slice a l.length c] #[.int .i64 k', .int .i64 i', .string s', .slice b l'.length d] W → Calls Tryd.prog 19 #[.agg #[.int .i64 k, .int .i64 i, .string s, .slice a l.length c], .agg #[.int .i64 k', .int .i64 i', .string s', .slice b l'.length d]] W fun e w' => e = .returned (.bool (sameB (.mk k i s l) (.mk k' i' s' l'))) ∧ Below W.heap.size W w' := fun W h => same_any (.mk k i s l) (.mk k' i' s' l') W w.heap.size _ _ (hv.below h.1 (Nat.le_refl _)) (hv'.below h.1 (Nat.le_refl _)) (by have := h.lt; omega)
  rw [sameB_refl] at D2
  rw [sameB_symm (.mk k' i' s' l') (.mk k i s l)] at D3
  generalize sameB (.mk k i s l) (.mk k' i' s' l') = q at D1 D3 D4
  have C1 := Lib.hid D1
  have C2 := Lib.hid D2
  have C3 := Lib.hid D3
  have C4 := Lib.hid D4
  have S0 := Lib.hid s0
  have CH := Lib.hid (fun (W : World) (n : Nat) (hn : n < W.heap.size) (h : Below w.heap.size w W) (hb : W.heap[n]? = _) => huge_any _ _ W W.heap.size (repS_two hn hb ((hv.below h (Nat.le_refl _)).mono h.size) ((hv'.below h (Nat.le_refl _)).mono h.size)) (Nat.le_refl _))
  clear D1 D2 D3 D4 s0 hv hv' htab
  go_enter Tryd.func5, Tryd.ntmps5
  go_wp2_with fail
  refine (CH.out _ _ (by simp) (S0.out.1.alloc (by simp; omega) _) ?_).mono ?_
  · have h := heap_alloc_new ((w.alloc (.cells #[.int .i64 k, .int .i64 i, .string s, .slice a l.length c] 24)).alloc (.cells #[.int .i64 k', .int .i64 i', .string s', .slice b l'.length d] 24)) (.cells #[.int .i64 k, .int .i64 i, .string s, .slice a l.length c, .int .i64 k', .int .i64 i', .string s', .slice b l'.length d] 24)
    rwa [show ((w.alloc (.cells #[.int .i64 k, .int .i64 i, .string s, .slice a l.length c] 24)).alloc (.cells #[.int .i64 k', .int .i64 i', .string s', .slice b l'.length d] 24)).heap.size = w.heap.size + 1 + 1 by simp] at h
  · rintro e w1 ⟨rfl, hb1⟩
    have s1 := (S0.out.next ((Below.refl _ _).alloc (Nat.le_refl _) _)).next hb1
    obtain ⟨c0, c1, c2, c3, d0, d1, d2, d3, _⟩ := s1.cells
    clear hb1 S0 CH
    cases hugeB [.mk k i s l, .mk k' i' s' l']
    · go_wp2
      go_region_held3 (fun W => W.cell? ⟨w.heap.size, 0, none⟩ = some (.int .i64 k) ∧ W.cell? ⟨w.heap.size, 1, none⟩ = some (.int .i64 i) ∧ W.cell? ⟨w.heap.size, 2, none⟩ = some (.string s) ∧ W.cell? ⟨w.heap.size, 3, none⟩ = some (.slice a l.length c) ∧
        W.cell? ⟨w.heap.size + 1, 0, none⟩ = some (.int .i64 k') ∧ W.cell? ⟨w.heap.size + 1, 1, none⟩ = some (.int .i64 i') ∧ W.cell? ⟨w.heap.size + 1, 2, none⟩ = some (.string s') ∧ W.cell? ⟨w.heap.size + 1, 3, none⟩ = some (.slice b l'.length d) ∧ St2 w #[.int .i64 k, .int .i64 i, .string s, .slice a l.length c] #[.int .i64 k', .int .i64 i', .string s', .slice b l'.length d] W)
        (first | (exact St2.cells (by assumption)) | (exact St2.cells (St2.drew (by assumption))))
        (first
          | (go_at_call 9; refine (C9.out _ (St2.of (by assumption))).mono ?_; rintro e w2 ⟨rfl, hb2⟩; have s2 := St2.next (St2.of (by assumption)) hb2)
          | (go_at_call 19; refine (C4.out _ (St2.of (by assumption))).mono ?_; rintro e w2 ⟨rfl, hb2⟩; have s2 := St2.next (St2.of (by assumption)) hb2)
          | (go_at_call 18; ((first | (with_reducible refine (C1.out _ (St2.of (by assumption))).mono ?_) | (with_reducible refine (C2.out _ (St2.of (by assumption))).mono ?_) | (with_reducible refine (C3.out _ (St2.of (by assumption))).mono ?_))); rintro e w2 ⟨rfl, hb2⟩; have s2 := St2.next (St2.of (by assumption)) hb2))
      go_wp2
      go_ret
      exact ⟨rfl, (by assumption : St2 w #[.int .i64 k, .int .i64 i, .string s, .slice a l.length c] #[.int .i64 k', .int .i64 i', .string s', .slice b l'.length d] _).1⟩
    · go_wp2_with fail
      refine (C9.out _ s1).mono ?_
      rintro e w2 ⟨rfl, hb2⟩
      go_wp2
      go_ret
      exact ⟨rfl, (s1.next hb2).1⟩
end Go.Proofs.YtphgcdmjnmopiaaDoor
