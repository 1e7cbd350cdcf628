/-
New data behind the stores to a result. No condition.
-/
import Derived.Test.YtiamojpeedllbaaGreatDoorM6
namespace Go.Proofs.YtiamojpeedllbaaGreatDoor.Dat
open Go.ChangeShapes Go.WideShapes Go.ChangeAt Go.RowKit
set_option maxRecDepth 100000

theorem NewV.rep {w : World} {C : Nat} {t : PT} {v : Value} (h : NewV w C t v) : RepV w w.heap.size t v := by
  match t with
  | .mk k i s l => exact ⟨h.1, h.2.1, h.2.2.1, h.2.2.2.rep⟩
theorem NewV.move {w w' : World} {C C' : Nat} (hC : C' ≤ C) (hc : ∀ b o v, C ≤ b → w.cell? ⟨b, o, none⟩ = some v → w'.cell? ⟨b, o, none⟩ = some v) {t : PT} {v : Value} (h : NewV w C t v) : NewV w' C' t v := by
  match t with
  | .mk k i s l => exact ⟨h.1, h.2.1, h.2.2.1, h.2.2.2.move hC hc⟩

/-- Behind the four stores to a result's cell. -/
theorem new_end {w W : World} {cs : Array Value} {y0 y1 y2 y3 : Value} (S : St2 w cs #[y0, y1, y2, y3] W) (x0 x1 x2 x3 : Value) :
    ((((W.setCell ⟨w.heap.size + 1, 0, none⟩ x0).setCell ⟨w.heap.size + 1, 1, none⟩ x1).setCell ⟨w.heap.size + 1, 2, none⟩ x2).setCell ⟨w.heap.size + 1, 3, none⟩ x3).heap[w.heap.size + 1]? = some (.cells #[x0, x1, x2, x3] 28 (0, 0)) ∧
    Keep (w.heap.size + 2) W ((((W.setCell ⟨w.heap.size + 1, 0, none⟩ x0).setCell ⟨w.heap.size + 1, 1, none⟩ x1).setCell ⟨w.heap.size + 1, 2, none⟩ x2).setCell ⟨w.heap.size + 1, 3, none⟩ x3) ∧
    Below w.heap.size w ((((W.setCell ⟨w.heap.size + 1, 0, none⟩ x0).setCell ⟨w.heap.size + 1, 1, none⟩ x1).setCell ⟨w.heap.size + 1, 2, none⟩ x2).setCell ⟨w.heap.size + 1, 3, none⟩ x3) :=
  ⟨row_set4 S.2.2 _ _ _ _,
    ((((Keep.refl _ _).setCell (a := ⟨w.heap.size + 1, 0, none⟩) (by simp only []; omega) _).setCell (a := ⟨w.heap.size + 1, 1, none⟩) (by simp only []; omega) _).setCell (a := ⟨w.heap.size + 1, 2, none⟩) (by simp only []; omega) _).setCell (a := ⟨w.heap.size + 1, 3, none⟩) (by simp only []; omega) _,
    ((((S.1.setCell (p := ⟨w.heap.size + 1, 0, none⟩) (by simp only []; omega) _).setCell (p := ⟨w.heap.size + 1, 1, none⟩) (by simp only []; omega) _).setCell (p := ⟨w.heap.size + 1, 2, none⟩) (by simp only []; omega) _).setCell (p := ⟨w.heap.size + 1, 3, none⟩) (by simp only []; omega) _)⟩

theorem St2.froz {w W : World} {cs : Array Value} {y0 y1 y2 y3 : Value} (S : St2 w cs #[y0, y1, y2, y3] W) :
    W.frozen? ⟨w.heap.size + 1, 0, none⟩ = false ∧ W.frozen? ⟨w.heap.size + 1, 1, none⟩ = false ∧ W.frozen? ⟨w.heap.size + 1, 2, none⟩ = false ∧ W.frozen? ⟨w.heap.size + 1, 3, none⟩ = false :=
  ⟨Lib.frozen_of_heap S.2.2 0, Lib.frozen_of_heap S.2.2 1, Lib.frozen_of_heap S.2.2 2, Lib.frozen_of_heap S.2.2 3⟩

end Go.Proofs.YtiamojpeedllbaaGreatDoor.Dat
