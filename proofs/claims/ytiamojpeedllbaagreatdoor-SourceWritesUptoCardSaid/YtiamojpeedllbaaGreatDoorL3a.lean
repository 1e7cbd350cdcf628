/-
Data in new blocks, carried through calls; two rows that are one. No condition.
-/
import Derived.Test.YtiamojpeedllbaaGreatDoorE2
import Derived.Test.YtiamojpeedllbaaGreatDoorE3
import Derived.Test.YtiamojpeedllbaaGreatDoorD20a
import Derived.Deep.RegionHeld3
namespace Go.Proofs.YtiamojpeedllbaaGreatDoor.Dat
open Go.ChangeShapes Go.WideShapes Go.ChangeAt Go.RowKit
set_option maxRecDepth 100000
/-- The world W has come of w, and the datum in the first new block is as it was. -/
def St (w : World) (cs : Array Value) (W : World) : Prop := Below w.heap.size w W ∧ W.heap[w.heap.size]? = some (.cells cs 28 (0, 0))
theorem St.first (w : World) (cs : Array Value) : St w cs (w.alloc (.cells cs 28)) := ⟨(Below.refl _ _).alloc (Nat.le_refl _) _, heap_alloc_new w _⟩
theorem St.next {w W W' : World} {cs : Array Value} (h : St w cs W) (hb : Below W.heap.size W W') : St w cs W' :=
  ⟨h.1.trans (hb.mono (Nat.le_of_lt (lt_of_block h.2))), (hb.block _ (lt_of_block h.2)).trans h.2⟩
theorem St.drew {w W : World} {cs : Array Value} (h : St w cs W) : St w cs W.drew := ⟨h.1.drew, h.2⟩
theorem St.cell {w W : World} {cs : Array Value} (h : St w cs W) (j : Nat) (v : Value) (hv : cs[j]? = some v) : W.cell? ⟨w.heap.size, j, none⟩ = some v := by
  rw [Lib.cell_of_heap h.2]; exact hv
theorem St.lt {w W : World} {cs : Array Value} (h : St w cs W) : w.heap.size < W.heap.size := lt_of_block h.2


/-- The world W has come of w, and the data in the first two new blocks are as they were. -/
def St2 (w : World) (cs ds : Array Value) (W : World) : Prop := Below w.heap.size w W ∧ W.heap[w.heap.size]? = some (.cells cs 28 (0, 0)) ∧ W.heap[w.heap.size + 1]? = some (.cells ds 28 (0, 0))
theorem St2.first (w : World) (cs ds : Array Value) : St2 w cs ds ((w.alloc (.cells cs 28)).alloc (.cells ds 28)) := by
  refine ⟨((Below.refl _ _).alloc (Nat.le_refl _) _).alloc (by simp) _, blk_alloc (heap_alloc_new w _), ?_⟩
  have := heap_alloc_new (w.alloc (.cells cs 28)) (.cells ds 28)
  rwa [show (w.alloc (.cells cs 28)).heap.size = w.heap.size + 1 by simp] at this
theorem St2.lt {w W : World} {cs ds : Array Value} (h : St2 w cs ds W) : w.heap.size + 1 < W.heap.size := lt_of_block h.2.2
theorem St2.next {w W W' : World} {cs ds : Array Value} (h : St2 w cs ds W) (hb : Below W.heap.size W W') : St2 w cs ds W' :=
  ⟨h.1.trans (hb.mono (by have := h.lt; omega)), (hb.block _ (lt_of_block h.2.1)).trans h.2.1, (hb.block _ (lt_of_block h.2.2)).trans h.2.2⟩
theorem St2.drew {w W : World} {cs ds : Array Value} (h : St2 w cs ds W) : St2 w cs ds W.drew := ⟨h.1.drew, h.2⟩
theorem St2.cells {w W : World} {x0 x1 x2 x3 y0 y1 y2 y3 : Value} (h : St2 w #[x0, x1, x2, x3] #[y0, y1, y2, y3] W) :
    W.cell? ⟨w.heap.size, 0, none⟩ = some x0 ∧ W.cell? ⟨w.heap.size, 1, none⟩ = some x1 ∧ W.cell? ⟨w.heap.size, 2, none⟩ = some x2 ∧ W.cell? ⟨w.heap.size, 3, none⟩ = some x3 ∧
    W.cell? ⟨w.heap.size + 1, 0, none⟩ = some y0 ∧ W.cell? ⟨w.heap.size + 1, 1, none⟩ = some y1 ∧ W.cell? ⟨w.heap.size + 1, 2, none⟩ = some y2 ∧ W.cell? ⟨w.heap.size + 1, 3, none⟩ = some y3 ∧ St2 w #[x0, x1, x2, x3] #[y0, y1, y2, y3] W := by
  refine ⟨?_, ?_, ?_, ?_, ?_, ?_, ?_, ?_, h⟩
  · rw [Lib.cell_of_heap h.2.1]; rfl
  · rw [Lib.cell_of_heap h.2.1]; rfl
  · rw [Lib.cell_of_heap h.2.1]; rfl
  · rw [Lib.cell_of_heap h.2.1]; rfl
  · rw [Lib.cell_of_heap h.2.2]; rfl
  · rw [Lib.cell_of_heap h.2.2]; rfl
  · rw [Lib.cell_of_heap h.2.2]; rfl
  · rw [Lib.cell_of_heap h.2.2]; rfl

theorem St2.of {w W : World} {cs ds : Array Value} {a0 a1 a2 a3 a4 a5 a6 a7 : Prop} (h : a0 ∧ a1 ∧ a2 ∧ a3 ∧ a4 ∧ a5 ∧ a6 ∧ a7 ∧ St2 w cs ds W) : St2 w cs ds W := h.2.2.2.2.2.2.2.2

theorem sameB_refl (t : PT) : sameB t t = true := by simp [sameB]
theorem sameB_symm (t u : PT) : sameB t u = sameB u t := by simp [sameB, eq_comm]

theorem repS_two {W : World} {B n : Nat} {k i : Int} {s : ByteArray} {l : List PT} {v : Value} {k' i' : Int} {s' : ByteArray} {l' : List PT} {v' : Value} (hn : n < B) (hb : W.heap[n]? = some (.cells #[.int .i64 k, .int .i64 i, .string s, v, .int .i64 k', .int .i64 i', .string s', v'] 28 (0, 0)))
    (h1 : RepV W B (.mk k i s l) v) (h2 : RepV W B (.mk k' i' s' l') v') : RepS W B [.mk k i s l, .mk k' i' s' l'] (.slice (some ⟨n, 0, none⟩) 2 2) := by
  refine ⟨some ⟨n, 0, none⟩, 2, rfl, by simp, by decide, (fun h => by cases h), .inr ⟨n, 0, rfl, hn, ?_⟩⟩
  rw [RepAt, RepAt, RepAt]
  refine ⟨repD_mk.2 ⟨h1.1, h1.2.1, h1.2.2.1, ?_, ?_, ?_, v, ?_, h1.2.2.2⟩, repD_mk.2 ⟨h2.1, h2.2.1, h2.2.2.1, ?_, ?_, ?_, v', ?_, h2.2.2.2⟩, trivial⟩
  all_goals (rw [Lib.cell_of_heap hb]; rfl)
theorem RepV.below {w w' : World} {B C : Nat} {t : PT} {v : Value} (h : RepV w B t v) (hb : Below C w w') (hB : B ≤ C) : RepV w' B t v := by
  match t with
  | .mk k i s l => exact ⟨h.1, h.2.1, h.2.2.1, h.2.2.2.below hb hB⟩
theorem RepV.mono {w : World} {B C : Nat} {t : PT} {v : Value} (h : RepV w B t v) (hB : B ≤ C) : RepV w C t v := by
  match t with
  | .mk k i s l => exact ⟨h.1, h.2.1, h.2.2.1, h.2.2.2.move hB (fun _ _ _ => rfl)⟩


end Go.Proofs.YtiamojpeedllbaaGreatDoor.Dat
