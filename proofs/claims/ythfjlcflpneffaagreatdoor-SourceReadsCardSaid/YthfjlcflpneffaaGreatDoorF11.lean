/-
The document's row of what is read, in memory: what it holds; append to it. No condition.
-/
import Derived.Test.YthfjlcflpneffaaGreatDoorF10
import Derived.Deep.AppendLies
namespace Go.Proofs.YthfjlcflpneffaaGreatDoor
open Go.ChangeShapes Go.WideShapes Go.ChangeAt Go.RowKit
open Dat (PT makeT RepS RepV RowX infoDatum)

/-- A row of data of the call's own, in block q; their rows lie elsewhere. -/
def OutOwn (w : World) (C q : Nat) (l : List PT) (v : Value) : Prop :=
  ∃ xs, w.ownsRow C 34 4 v l.length xs ∧ v.ownBlock = some q ∧ RowX (InS w (· ≠ q)) l xs
theorem out_new (w : World) (C : Nat) (hC : C ≤ w.heap.size) : OutOwn (w.alloc (.cells #[] 34)) C w.heap.size [] (.slice (some ⟨w.heap.size, 0, none⟩) 0 0) :=
  ⟨[], World.ownsRow_made w #[] 0 hC (Nat.zero_le _) rfl, rfl, by rw [RowX]⟩
theorem OutOwn.block {w : World} {C q : Nat} {l : List PT} {v : Value} (h : OutOwn w C q l v) : ∃ cap cur, v = .slice (some ⟨q, 0, none⟩) l.length cap ∧ C ≤ q ∧ w.heap[q]? = some (.cells cur 34 (0, 0)) ∧ l.length ≤ cap ∧ cap ≤ maxLen := by
  obtain ⟨xs, ho, hb, _⟩ := h
  rcases ho.2 with ⟨rfl, _⟩ | ⟨g, cap, cur, rfl, h1, h2, h3, h4, _⟩
  · cases hb
  · simp only [Value.ownBlock, Option.some.injEq] at hb
    subst hb
    exact ⟨cap, cur, rfl, h1, h2, h3, h4⟩
theorem OutOwn.kept {w w' : World} {C q : Nat} {l : List PT} {v : Value} (h : OutOwn w C q l v) (hq : w'.heap[q]? = w.heap[q]?) (mv : ∀ m u, InS w (· ≠ q) m u → InS w' (· ≠ q) m u) : OutOwn w' C q l v := by
  obtain ⟨xs, ho, hb, hx⟩ := h
  refine ⟨xs, ⟨ho.1, ho.2.imp id ?_⟩, hb, RowX.imp mv hx⟩
  rintro ⟨g, cap, cur, rfl, h1, h2, h3⟩
  simp only [Value.ownBlock, Option.some.injEq] at hb
  subst hb
  exact ⟨g, cap, cur, rfl, h1, hq.trans h2, h3⟩
theorem OutOwn.moved {w w' : World} {C q : Nat} {l : List PT} {v : Value} (h : OutOwn w C q l v) (hb : Below w.heap.size w w') : OutOwn w' C q l v := by
  obtain ⟨_, cur, _, _, h2, _⟩ := h.block
  exact h.kept (hb.block q (lt_of_block h2)) fun m u hm => ins_below hm hb
theorem OutOwn.far {w w' : World} {C q g : Nat} {cur : Array Value} {T : TypeId} {fr : Nat × Nat} {l : List PT} {v : Value} (h : OutOwn w C q l v) (hb : w.heap[g]? = some (.cells cur T fr)) (hn : NoStr cur.toList) (hgq : q ≠ g) (hk : ∀ b, b < w.heap.size → b ≠ g → w'.heap[b]? = w.heap[b]?) : OutOwn w' C q l v := by
  obtain ⟨_, cur2, _, _, h2, _⟩ := h.block
  exact h.kept (hk q (lt_of_block h2) hgq) fun m u hm => ins_far hb hn hk hm
theorem OutOwn.ins {w : World} {C q : Nat} {l : List PT} {v : Value} (h : OutOwn w C q l v) : RepS w w.heap.size l v := by
  obtain ⟨xs, ho, hb, hx⟩ := h
  have h1 : RowOwnS w 0 (fun _ => True) l v := by
    refine ⟨xs, ⟨ho.1, ho.2.imp id ?_⟩, RowX.imp (fun m u hm => hm.move (fun _ _ _ => trivial) (fun _ _ _ _ h => h)) hx⟩
    rintro ⟨g, cap, cur, e, h1, h2⟩
    exact ⟨g, cap, cur, e, Nat.zero_le _, h2⟩
  exact h1.ins.rep
/-- The stack and the row that is read lie apart. -/
theorem out_apart {w : World} {C D q r g n cap : Nat} {l : List PT} {v : Value} {s : List Op} (h : OutOwn w C q l v) (hs : StkOwn w D r s (.slice (some ⟨g, 0, none⟩) n cap)) : q ≠ g := by
  obtain ⟨_, cur, _, _, h2, _⟩ := h.block
  obtain ⟨g', cap', cur', e, _, h3, _⟩ := hs
  cases e
  rintro rfl
  rw [h2] at h3
  cases h3
theorem StkOwn.le {w : World} {C D q : Nat} {l : List Op} {v : Value} (h : StkOwn w C q l v) (hD : D ≤ C) : StkOwn w D q l v := by
  obtain ⟨g, cap, cur, e, h1, h2⟩ := h
  exact ⟨g, cap, cur, e, Nat.le_trans hD h1, h2⟩
/-- An empty stack is one whatever block is left out. -/
theorem stk_empty {w w' : World} {C q r : Nat} {v : Value} (h : StkOwn w C q [] v) (hk : ∀ b, v.ownBlock = some b → w'.heap[b]? = w.heap[b]?) : StkOwn w' C r [] v := by
  obtain ⟨g, cap, cur, rfl, h1, h2, h3, h4, h5, h6, _⟩ := h
  exact ⟨g, cap, cur, rfl, h1, (hk g rfl).trans h2, h3, h4, h5, h6, by show OpX _ [] (cur.toList.take 0); rw [List.take_zero, OpX]⟩
theorem rowX_one {w : World} {S : Nat → Prop} {k i : Int} {s : ByteArray} {m : List PT} {x : Value} (h1 : Dat.ok64 k) (h2 : Dat.ok64 i) (h3 : s.size ≤ maxLen) (hm : InS w S m x) : RowX (InS w S) [.mk k i s m] [.int .i64 k, .int .i64 i, .string s, x] := by
  rw [RowX]
  exact ⟨x, [], rfl, h1, h2, h3, hm, by rw [RowX]⟩
theorem wpList_append_out {ops : Array Oper} {rest : List Oper} {o : Oper} {a : Act} {w : World} {Q : Exit → Act → World → Prop} (hgd : o.guard = none) (sl x : Operand)
    (ho : o.op = .call { callee := .builtin .append, args := #[sl, x], argTypes := #[22, 22] }) (C q : Nat) (l : List PT) (v : Value) (hs : a.eval sl = v) (h : OutOwn w C q l v) (B : Nat) (k i : Int) (s : ByteArray) (m : List PT) (xv : Value) (hx : a.eval x = .slice (some ⟨B, 0, none⟩) 1 1)
    (hB : w.heap[B]? = some (.cells #[.int .i64 k, .int .i64 i, .string s, xv] 34 (0, 0))) (h1 : Dat.ok64 k) (h2 : Dat.ok64 i) (h3 : s.size ≤ maxLen) (hm : InS w (· ≠ q) m xv) (hlen : l.length ≤ 100000) (hC : C ≤ w.heap.size)
    (kk : ∀ q' v' w', OutOwn w' C q' (l ++ [.mk k i s m]) v' → (q' = q ∨ w.heap.size ≤ q') → Below C w w' → (∀ b, b < w.heap.size → b ≠ q → w'.heap[b]? = w.heap[b]?) → wpList Tryz.prog ops Q rest (a.put o.dst v') w') : wpList Tryz.prog ops Q (o :: rest) a w := by
  obtain ⟨i0, hi, hz0, hz1, hz2⟩ := info_parts infoDatum
  obtain ⟨xs, hxs, hvb, hrx⟩ := h
  obtain ⟨ax, cx, rfl, _⟩ := id hm
  refine wpList_append_lies w hgd sl x 22 ho C 34 i0 _ 4 56 Tryz.underlying22 hi hz0 hz1 hz2 rfl (by decide) v l.length xs hs hxs ⟨B, 0, none⟩ 1 1 [.int .i64 k, .int .i64 i, .string s, .slice ax m.length cx] hx rfl (World.news_of_block hB) ?_ (by decide) (by unfold maxLen; omega) (by omega) hC w.heap.size rfl ?_
  · intro u hu
    simp only [List.mem_cons, List.not_mem_nil, or_false] at hu
    rcases hu with rfl | rfl | rfl | rfl <;> rfl
  · intro g cap w' hown hgrow hat hlt
    have hkeep : ∀ b, b < w.heap.size → b ≠ q → w'.heap[b]? = w.heap[b]? := fun b hb hne => hgrow.block b hb (by rw [hvb]; exact fun e => hne (Option.some.inj e))
    have hgq : g = q ∨ g = w.heap.size := by
      rcases hat with h | h
      · rw [hvb] at h; exact .inl (Option.some.inj h).symm
      · exact .inr h
    have mv : ∀ z u, InS w (· ≠ q) z u → InS w' (· ≠ g) z u := fun z u hz => hz.move (fun b hb hlt => by rcases hgq with rfl | rfl; exact hb; omega) (fun b o' y hb hc => by
      rw [World.cell?_of_block (w := w) (a := ⟨b, o', none⟩) (hkeep b (World.block_lt_of_cell? _ _ hc) hb)]; exact hc)
    refine kk g _ w' ⟨_, by rw [List.length_append]; exact hown, rfl, RowX.append (rowX_one h1 h2 h3 (mv _ _ hm)) (RowX.imp mv hrx)⟩ ?_ ((Below.refl C w).grown hgrow hC (fun b hb => (hxs.lt b hb).1)) hkeep
    rcases hgq with h | h
    · exact .inl h
    · exact .inr (by omega)
end Go.Proofs.YthfjlcflpneffaaGreatDoor
