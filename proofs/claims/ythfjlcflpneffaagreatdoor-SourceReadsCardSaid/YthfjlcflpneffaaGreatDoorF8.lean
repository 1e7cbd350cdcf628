/-
What is open: its last one with a dot; one more; one less. No condition.
-/
import Derived.Test.YthfjlcflpneffaaGreatDoorF7
namespace Go.Proofs.YthfjlcflpneffaaGreatDoor
open Go.ChangeShapes Go.WideShapes Go.ChangeAt Go.RowKit
open Dat (PT makeT RepS RepV)

theorem stk_dot {w : World} {C q g cap n : Nat} {l1 : List Op} {o : Op} (h : StkOwn w C q (l1 ++ [o]) (.slice (some ⟨g, 0, none⟩) n cap)) (D : Int) (hD : Dat.ok64 D) :
    StkOwn (w.setCell ⟨g, l1.length * 3 + 2, none⟩ (.int .i64 D)) C q (l1 ++ [⟨o.kind, o.list, D⟩]) (.slice (some ⟨g, 0, none⟩) n cap) ∧ Below C w (w.setCell ⟨g, l1.length * 3 + 2, none⟩ (.int .i64 D)) ∧
      (∀ m u, InS w (· ≠ q) m u → InS (w.setCell ⟨g, l1.length * 3 + 2, none⟩ (.int .i64 D)) (· ≠ q) m u) := by
  obtain ⟨g', cap', cur, e1, h1, h2, h3, h4, h5, h6, h7⟩ := h
  cases e1
  have hlen : (l1 ++ [(⟨o.kind, o.list, D⟩ : Op)]).length = (l1 ++ [o]).length := by simp
  have hln : (l1 ++ [o]).length = l1.length + 1 := by simp
  obtain ⟨ys, v, e3, e4, h9, k1, _, h10⟩ := h7.last
  have hb := heap_setCell_same w g (l1.length * 3 + 2) cur 55 (.int .i64 D) h2
  have hk : ∀ b, b < w.heap.size → b ≠ g → (w.setCell ⟨g, l1.length * 3 + 2, none⟩ (.int .i64 D)).heap[b]? = w.heap[b]? := fun b _ hb => Below.heap_setCell _ _ _ _ hb
  have mv : ∀ m u, InS w (· ≠ q) m u → InS (w.setCell ⟨g, l1.length * 3 + 2, none⟩ (.int .i64 D)) (· ≠ q) m u := fun m u hq => ins_far h2 h6 hk hq
  refine ⟨⟨g, cap, _, by rw [hlen], h1, hb, by rw [hlen]; exact h3, h4, by rw [Array.size_setIfInBounds]; exact h5, ?_, ?_⟩, (Below.refl C w).setCell (p := ⟨g, l1.length * 3 + 2, none⟩) h1 _, mv⟩
  · intro s hs
    rw [Array.toList_setIfInBounds] at hs
    rcases List.mem_or_eq_of_mem_set hs with hs | hs
    · exact h6 s hs
    · cases hs
  · rw [hlen, Array.toList_setIfInBounds, List.take_set, e3]
    have e5 : (ys ++ [Value.int .i64 o.kind, v, .int .i64 o.dot]).set (l1.length * 3 + 2) (.int .i64 D) = ys ++ [Value.int .i64 o.kind, v, .int .i64 D] := by
      rw [List.set_append_right _ _ (by omega), e4, show l1.length * 3 + 2 - l1.length * 3 = 2 by omega]
      rfl
    rw [e5]
    exact (h9.imp mv).snoc ⟨o.kind, o.list, D⟩ _ k1 hD (mv _ _ h10)
/-- One open thing, as a row of its own. -/
theorem op_one {w : World} {x : Nat} {S : Nat → Prop} (k : Int) (hk : Dat.ok64 k) (h : w.heap[x]? = some (.cells #[.int .i64 k, .slice none 0 0, .int .i64 (-1)] 55 (0, 0))) :
    OpX (InS w S) [⟨k, [], -1⟩] [.int .i64 k, .slice none 0 0, .int .i64 (-1)] ∧ ∀ j u, [Value.int .i64 k, .slice none 0 0, .int .i64 (-1)][j]? = some u → w.cell? ((⟨x, 0, none⟩ : Addr).add j) = some u := by
  refine ⟨?_, fun j u hj => ?_⟩
  · rw [OpX]
    exact ⟨_, [], rfl, hk, Dat.ok_small (show -1000 ≤ (-1 : Int) ∧ (-1 : Int) ≤ 1000 by decide), ⟨none, 0, rfl, Nat.le_refl _, Nat.zero_le _, fun _ => rfl, .inl rfl⟩, by rw [OpX]⟩
  · rw [add_plain, Nat.zero_add, Lib.cell_of_heap h]
    simpa using hj
/-- The cells of a stack, as a row to be appended from. -/
theorem stk_cells {w : World} {C q g cap n : Nat} {l : List Op} (h : StkOwn w C q l (.slice (some ⟨g, 0, none⟩) n cap)) : ∃ ys, OpX (InS w (· ≠ q)) l ys ∧ ∀ j u, ys[j]? = some u → w.cell? ((⟨g, 0, none⟩ : Addr).add j) = some u := by
  obtain ⟨g', cap', cur, e1, h1, h2, h3, h4, h5, h6, h7⟩ := h
  cases e1
  refine ⟨_, h7, fun j u hj => ?_⟩
  rw [add_plain, Nat.zero_add, Lib.cell_of_heap h2]
  rw [List.getElem?_take] at hj
  split at hj
  · simpa using hj
  · cases hj
/-- append of what is open, as a step of a region that draws. -/
theorem step_append_stk {ops : Array Oper} {o : Oper} {a : Act} {w : World} {K : Act → World → Prop} {Q : Exit → Act → World → Prop} {E : Prop} (hgd : o.guard = none) (sl x : Operand)
    (ho : o.op = .call { callee := .builtin .append, args := #[sl, x], argTypes := #[50, 50] }) (C q : Nat) (l m : List Op) (v : Value) (hs : a.eval sl = v) (h : StkOwn w C q l v) (ad : Addr) (c : Nat) (ys : List Value) (hx : a.eval x = .slice (some ad) m.length c)
    (hys : OpX (InS w (· ≠ q)) m ys) (hc : ∀ j u, ys[j]? = some u → w.cell? (ad.add j) = some u) (hlen : l.length + m.length ≤ 1000000) (hC : C ≤ w.heap.size)
    (k : ∀ v' w', StkOwn w' C q (l ++ m) v' → Below C w w' → (∀ k, k < w.heap.size → some k ≠ v.ownBlock → w'.heap[k]? = w.heap[k]?) → K (a.put o.dst v') w') : if Region.wanted o (yielded ops a.tmps) = true then Oper.wp Tryz.prog o a w K Q else E := by
  have hw : Region.wanted o (yielded ops a.tmps) = true := by simp [Region.wanted, hgd]
  rw [if_pos hw]
  obtain ⟨v', w', hr, h2, h3, h4⟩ := run_append_stk w C q l m v h ad c ys hys hc o.type hlen hC
  unfold Oper.wp execOp
  simp only [ho, resolve, invoke, builtin, Sem.run_bind, Sem.run_pure, Result.andThen_ok, List.map_toArray, List.map_cons, List.map_nil, hs, hx, hr]
  exact k v' w' h2 h3 h4
end Go.Proofs.YthfjlcflpneffaaGreatDoor
