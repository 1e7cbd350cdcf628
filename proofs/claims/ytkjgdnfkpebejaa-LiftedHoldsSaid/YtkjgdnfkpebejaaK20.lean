/-
Package core's datumOf: its parts. No condition.
-/
import Derived.Test.YtkjgdnfkpebejaaK19

namespace Go.Proofs.Ytkjgdnfkpebejaa.Core
open Go.ChangeShapes Go.WideShapes Go.ChangeAt Go.RowKit Go.Deep
open Dat (PT ok64 RepV RepS RowX infoDatum NewV NewS NewD)
set_option maxRecDepth 100000

theorem const_nil {k i : Int} {s : ByteArray} {l : List PT} (h : constB (.mk k i s l) = true) : l = [] := by
  unfold constB at h
  simp only [Bool.and_eq_true, decide_eq_true_eq, Bool.or_eq_true] at h
  obtain ⟨h1, h2⟩ := h
  rcases h2 with ((((rfl | rfl) | rfl) | rfl) | ⟨rfl, h2⟩)
  · exact leaf_nil (by simp [Dat.nestB]) h1
  · exact leaf_nil (by simp [Dat.nestB]) h1
  · exact leaf_nil (by simp [Dat.nestB]) h1
  · exact leaf_nil (by simp [Dat.nestB]) h1
  · exact List.length_eq_zero_iff.1 h2
theorem one_ins {W : World} {S : Nat → Prop} {g : Nat} {k i : Int} {s : ByteArray} {m : List PT} {x : Value}
    (hb : W.heap[g]? = some (.cells #[.int .i64 k, .int .i64 i, .string s, x] 25 (0, 0))) (h1 : InV W S (.mk k i s m) x) (hg : S g) : InS W S [.mk k i s m] (.slice (some ⟨g, 0, none⟩) 1 1) := by
  refine ⟨some ⟨g, 0, none⟩, 1, rfl, Nat.le_refl _, by decide, (fun h => by cases h), .inr ⟨g, 0, rfl, hg, ?_⟩⟩
  rw [InAt, InAt]
  refine ⟨inD_mk.2 ⟨h1.1, h1.2.1, h1.2.2.1, ?_, ?_, ?_, x, ?_, h1.2.2.2⟩, trivial⟩
  all_goals (rw [Lib.cell_of_heap hb]; rfl)
/-- The datum stored into the result's variable. -/
theorem dat_end {w w0 w9 : World} {k i : Int} {s : ByteArray} {m : List PT} {x : Value} {z0 z1 z2 z3 : Value} (B0 : Below w.heap.size w w0) (HS0 : w0.heap.size = w.heap.size + 2) (Z1 : w0.heap[w.heap.size + 1]? = some (.cells #[z0, z1, z2, z3] 25 (0, 0))) (hb : Below w0.heap.size w0 w9) (hv : InV w9 (fun b => w0.heap.size ≤ b) (.mk k i s m) x) :
    ((((w9.setCell ⟨w.heap.size + 1, 0, none⟩ (.int .i64 k)).setCell ⟨w.heap.size + 1, 1, none⟩ (.int .i64 i)).setCell ⟨w.heap.size + 1, 2, none⟩ (.string s)).setCell ⟨w.heap.size + 1, 3, none⟩ x).heap[w.heap.size + 1]? = some (.cells #[.int .i64 k, .int .i64 i, .string s, x] 25 (0, 0)) ∧
    InV ((((w9.setCell ⟨w.heap.size + 1, 0, none⟩ (.int .i64 k)).setCell ⟨w.heap.size + 1, 1, none⟩ (.int .i64 i)).setCell ⟨w.heap.size + 1, 2, none⟩ (.string s)).setCell ⟨w.heap.size + 1, 3, none⟩ x) (fun b => w.heap.size ≤ b) (.mk k i s m) x ∧
    Below w.heap.size w ((((w9.setCell ⟨w.heap.size + 1, 0, none⟩ (.int .i64 k)).setCell ⟨w.heap.size + 1, 1, none⟩ (.int .i64 i)).setCell ⟨w.heap.size + 1, 2, none⟩ (.string s)).setCell ⟨w.heap.size + 1, 3, none⟩ x) := by
  have Z9 := (hb.block (w.heap.size + 1) (by omega)).trans Z1
  obtain ⟨h1, h2, h3⟩ := put4 Z9 (.int .i64 k) (.int .i64 i) (.string s) x
  exact ⟨h1, ⟨hv.1, hv.2.1, hv.2.2.1, insTo (insOff hv.2.2.2 (by omega) h2) (fun b h _ => by omega)⟩, h3 _ _ (B0.trans (hb.mono B0.size)) (by omega)⟩
theorem dat_put {w w0 w9 : World} (hb : KP w0 (some (w.heap.size + 1)) w9) (y0 y1 y2 y3 : Value) : KP w0 (some (w.heap.size + 1)) ((((w9.setCell ⟨w.heap.size + 1, 0, none⟩ y0).setCell ⟨w.heap.size + 1, 1, none⟩ y1).setCell ⟨w.heap.size + 1, 2, none⟩ y2).setCell ⟨w.heap.size + 1, 3, none⟩ y3) :=
  hb.put ((((Below.refl 0 w9).setCell (Nat.zero_le _) _).setCell (Nat.zero_le _) _).setCell (Nat.zero_le _) _ |>.setCell (Nat.zero_le _) _) fun b _ hne => by
    have h : b ≠ w.heap.size + 1 := fun e => hne (by rw [e])
    rw [Below.heap_setCell _ _ _ _ h, Below.heap_setCell _ _ _ _ h, Below.heap_setCell _ _ _ _ h, Below.heap_setCell _ _ _ _ h]
theorem kpOf {w w0 W : World} (hb : Below w0.heap.size w0 W) : KP w0 (some (w.heap.size + 1)) W := ⟨hb.mono (Nat.zero_le _), fun b h1 _ => hb.block b h1⟩
theorem drop_data {l : List PE} {n : Nat} (h : l.length = n + 1) : (dataTs l).drop n = [dataT (l[n]'(by omega))] := by
  rw [dataTs_map, List.drop_eq_getElem_cons (by rw [List.length_map]; omega), List.getElem_map, List.drop_of_length_le (by rw [List.length_map]; omega)]
end Go.Proofs.Ytkjgdnfkpebejaa.Core
