/-
What is open, its last one with other data. No condition.
-/
import Derived.Test.YthfjlcflpneffaaGreatDoorF6
namespace Go.Proofs.YthfjlcflpneffaaGreatDoor
open Go.ChangeShapes Go.WideShapes Go.ChangeAt Go.RowKit
open Dat (PT makeT RepS RepV)

theorem OpX.snoc {R : List PT → Value → Prop} {l : List Op} {ys : List Value} (h : OpX R l ys) (o : Op) (v : Value) (h1 : Dat.ok64 o.kind) (h2 : Dat.ok64 o.dot) (h3 : R o.list v) : OpX R (l ++ [o]) (ys ++ [.int .i64 o.kind, v, .int .i64 o.dot]) := by
  refine OpX.append ?_ h
  rw [OpX]
  exact ⟨v, [], rfl, h1, h2, h3, by rw [OpX]⟩
theorem stk_put {w W : World} {C q g cap n : Nat} {l l1 r : List Op} {o : Op} (h : StkOwn w C q l (.slice (some ⟨g, 0, none⟩) n cap)) (e : l = (l1 ++ [o]) ++ r) (lst : List PT) (a8 : Option Addr) (c8 : Nat)
    (hv : InS W (· ≠ q) lst (.slice a8 lst.length c8)) (hg : W.heap[g]? = (w.setCell ⟨g, l1.length * 3 + 1, none⟩ (.slice a8 lst.length c8)).heap[g]?) (hk : ∀ b, b < w.heap.size → b ≠ g → W.heap[b]? = w.heap[b]?) :
    StkOwn W C q (l1 ++ [⟨o.kind, lst, o.dot⟩]) (.slice (some ⟨g, 0, none⟩) (l1.length + 1) cap) := by
  obtain ⟨g', cap', cur, e1, h1, h2, h3, h4, h5, h6, h7⟩ := h
  cases e1
  have h8 := h7.take (l1.length + 1)
  have e2 : l.take (l1.length + 1) = l1 ++ [o] := by rw [e, List.take_left' (by simp)]
  have hll : l1.length + 1 ≤ l.length := by rw [e]; simp
  rw [e2, List.take_take, Nat.min_eq_left (by omega)] at h8
  obtain ⟨ys, v, e3, e4, h9, k1, k2, h10⟩ := h8.last
  have hb := heap_setCell_same w g (l1.length * 3 + 1) cur 55 (.slice a8 lst.length c8) h2
  rw [hb] at hg
  have mv : ∀ m u, InS w (· ≠ q) m u → InS W (· ≠ q) m u := fun m u hq => ins_far h2 h6 hk hq
  have hlen : (l1 ++ [(⟨o.kind, lst, o.dot⟩ : Op)]).length = l1.length + 1 := by simp
  refine ⟨g, cap, _, by rw [hlen], h1, hg, by rw [hlen]; omega, h4, by rw [Array.size_setIfInBounds]; exact h5, ?_, ?_⟩
  · intro s hs
    rw [Array.toList_setIfInBounds] at hs
    rcases List.mem_or_eq_of_mem_set hs with hs | hs
    · exact h6 s hs
    · cases hs
  · rw [hlen, Array.toList_setIfInBounds, List.take_set, e3]
    have e5 : (ys ++ [Value.int .i64 o.kind, v, .int .i64 o.dot]).set (l1.length * 3 + 1) (.slice a8 lst.length c8) = ys ++ [Value.int .i64 o.kind, .slice a8 lst.length c8, .int .i64 o.dot] := by
      rw [List.set_append_right _ _ (by omega), e4, show l1.length * 3 + 1 - l1.length * 3 = 1 by omega]
      rfl
    rw [e5]
    exact (h9.imp mv).snoc ⟨o.kind, lst, o.dot⟩ _ k1 k2 hv
end Go.Proofs.YthfjlcflpneffaaGreatDoor
