/-
The document's ended, in memory: what it answers. No condition but small numbers.
-/
import Derived.Test.YthfjlcflpneffaaGreatDoorF4
import Derived.Test.YthfjlcflpneffaaGreatDoorF5
namespace Go.Proofs.YthfjlcflpneffaaGreatDoor
open Go.ChangeShapes Go.WideShapes Go.ChangeAt Go.RowKit
open Dat (PT makeT RepS RepV)

/-- A box that holds a datum whose rows lie in blocks of S. -/
def BoxS (w : World) (P : Nat) (S : Nat → Prop) (t : PT) : Prop :=
  ∃ k i s m v, t = .mk k i s m ∧ Dat.ok64 k ∧ Dat.ok64 i ∧ s.size ≤ maxLen ∧ w.heap[P]? = some (.cells #[.int .i64 k, .int .i64 i, .string s, v] 34 (0, 0)) ∧ InS w S m v
theorem boxS_next {w w' : World} {P : Nat} {S : Nat → Prop} {k i : Int} {s : ByteArray} {m : List PT} {v : Value} (h1 : Dat.ok64 k) (h2 : Dat.ok64 i) (h3 : s.size ≤ maxLen) (hm : InS w S m v) (hS : S w.heap.size) (hSP : ¬ S P)
    (hold : ∀ b, b < w.heap.size → b ≠ P → w'.heap[b]? = w.heap[b]?)
    (hnew : w'.heap[w.heap.size]? = some (.cells #[.int .i64 4, .int .i64 0, .string quoteS, .slice none 0 0, .int .i64 k, .int .i64 i, .string s, v] 34 (0, 0)))
    (hbox : w'.heap[P]? = some (.cells #[.int .i64 5, .int .i64 0, .string ⟨#[]⟩, .slice (some ⟨w.heap.size, 0, none⟩) 2 2] 34 (0, 0))) : BoxS w' P S (quoteD (.mk k i s m)) := by
  have hcell : ∀ b o u, S b → w.cell? ⟨b, o, none⟩ = some u → w'.cell? ⟨b, o, none⟩ = some u := fun b o u hb hc => by
    rw [World.cell?_of_block (w := w) (a := ⟨b, o, none⟩) (hold b (World.block_lt_of_cell? _ _ hc) (fun e => hSP (e ▸ hb)))]; exact hc
  have hm' : InS w' S m v := hm.move (fun b hb _ => hb) (fun b o u hb hc => hcell b o u hb hc)
  refine ⟨5, 0, ⟨#[]⟩, _, _, rfl, Dat.ok_small (by decide), Dat.ok_small (by decide), by decide, hbox, ⟨_, 2, rfl, by simp, by decide, (fun h => by cases h), .inr ⟨w.heap.size, 0, rfl, hS, ?_⟩⟩⟩
  rw [InAt, InAt, InAt, inD_mk, inD_mk]
  refine ⟨⟨Dat.ok_small (by decide), Dat.ok_small (by decide), by decide, ?_, ?_, ?_, .slice none 0 0, ?_, ⟨none, 0, rfl, Nat.le_refl _, Nat.zero_le _, fun _ => rfl, .inl rfl⟩⟩, ⟨h1, h2, h3, ?_, ?_, ?_, v, ?_, hm'⟩, trivial⟩
  all_goals (rw [Lib.cell_of_heap hnew]; rfl)
theorem ended_app (l : List Op) (o : Op) (d : PT) : endedM (l ++ [o]).reverse d = if o.kind = 3 then endedM l.reverse (quoteD d) else ((l ++ [(⟨o.kind, o.list ++ [d], o.dot⟩ : Op)]).reverse, none) := by
  rw [List.reverse_append, List.reverse_append]
  simp only [List.reverse_cons, List.reverse_nil, List.nil_append, List.cons_append]
  rw [endedM]
/-- The stack, as it was handed in: so many of it. -/
theorem stk_top {w : World} {C q g cap : Nat} {l : List Op} (h : StkOwn w C q l (.slice (some ⟨g, 0, none⟩) l.length cap)) {l1 : List Op} {o : Op} {l2 : List Op} (e : l = (l1 ++ [o]) ++ l2) :
    ∃ v, w.cell? ⟨g, l1.length * 3, none⟩ = some (.int .i64 o.kind) ∧ w.cell? ⟨g, l1.length * 3 + 1, none⟩ = some v ∧ w.cell? ⟨g, l1.length * 3 + 2, none⟩ = some (.int .i64 o.dot) ∧ InS w (· ≠ q) o.list v ∧ w.frozen? ⟨g, l1.length * 3 + 1, none⟩ = false := by
  obtain ⟨g', cap', cur, e1, h1, h2, h3, h4, h5, h6, h7⟩ := h
  cases e1
  have h8 := h7.take (l1.length + 1)
  have e2 : l.take (l1.length + 1) = l1 ++ [o] := by
    rw [e, List.take_left' (by simp)]
  rw [e2] at h8
  obtain ⟨ys, v, e3, e4, _, _, _, h9⟩ := h8.last
  have hget : ∀ j u, (ys ++ [Value.int .i64 o.kind, v, .int .i64 o.dot])[j]? = some u → w.cell? ⟨g, j, none⟩ = some u := fun j u hj => by
    rw [← e3, List.take_take, List.getElem?_take] at hj
    split at hj
    · rw [Lib.cell_of_heap h2]; simpa using hj
    · cases hj
  refine ⟨v, hget _ _ ?_, hget _ _ ?_, hget _ _ ?_, h9, Lib.frozen_of_heap h2 _⟩
  · rw [List.getElem?_append_right (by omega), e4]; simp
  · rw [List.getElem?_append_right (by omega), e4, show l1.length * 3 + 1 - l1.length * 3 = 1 by omega]; rfl
  · rw [List.getElem?_append_right (by omega), e4, show l1.length * 3 + 2 - l1.length * 3 = 2 by omega]; rfl
end Go.Proofs.YthfjlcflpneffaaGreatDoor
