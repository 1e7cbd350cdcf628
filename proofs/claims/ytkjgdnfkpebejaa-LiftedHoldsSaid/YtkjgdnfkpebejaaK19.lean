/-
Package core's bindings: the row of names with what they are bound to. No condition.
-/
import Derived.Test.YtkjgdnfkpebejaaWKD

namespace Go.Proofs.Ytkjgdnfkpebejaa.Core
open Go.ChangeShapes Go.WideShapes Go.ChangeAt Go.RowKit Go.Deep
open Dat (PT ok64 RepV RepS RowX infoDatum NewV NewS NewD)
set_option maxRecDepth 100000

/-- All that was there is as it was, but for one block. -/
def KP (wr : World) (ob : Option Nat) (W : World) : Prop := Below 0 wr W ∧ ∀ b, b < wr.heap.size → some b ≠ ob → W.heap[b]? = wr.heap[b]?
theorem KP.refl (w : World) (ob : Option Nat) : KP w ob w := ⟨Below.refl _ _, fun _ _ _ => rfl⟩
theorem KP.drewn {w W : World} {ob : Option Nat} (h : KP w ob W) : KP w ob W.drew := ⟨h.1.drew, h.2⟩
theorem KP.alloc {w W : World} {ob : Option Nat} (h : KP w ob W) (o : Obj) : KP w ob (W.alloc o) :=
  ⟨h.1.alloc (Nat.zero_le _) o, fun b h1 h2 => (Below.heap_alloc W o b (Nat.lt_of_lt_of_le h1 h.1.size)).trans (h.2 b h1 h2)⟩
theorem KP.next {w W W' : World} {ob : Option Nat} (h : KP w ob W) (hb : Below W.heap.size W W') : KP w ob W' :=
  ⟨h.1.trans (hb.mono (Nat.zero_le _)), fun b h1 h2 => (hb.block b (Nat.lt_of_lt_of_le h1 h.1.size)).trans (h.2 b h1 h2)⟩
theorem KP.put {w W W' : World} {ob : Option Nat} (h : KP w ob W) (hs : Below 0 W W') (hk : ∀ b, b < W.heap.size → some b ≠ ob → W'.heap[b]? = W.heap[b]?) : KP w ob W' :=
  ⟨h.1.trans hs, fun b h1 h2 => (hk b (Nat.lt_of_lt_of_le h1 h.1.size) h2).trans (h.2 b h1 h2)⟩
theorem KP.below {w W : World} {ob : Option Nat} {C : Nat} (h : KP w ob W) (hC : C ≤ w.heap.size) (ho : ∀ b, some b = ob → C ≤ b) : Below C w W :=
  ⟨h.1.os, h.1.tape, h.1.output, h.1.size, fun b hb => h.2 b (by omega) (fun e => by have := ho b e; omega)⟩
theorem outNext {w w' : World} {C : Nat} {P : Nat → Prop} {l : List PT} {v : Value} (hb : Below w.heap.size w w') (h : OutD w C P l v) : OutD w' C P l v := h.below hb
theorem OutD.drewn {w : World} {C : Nat} {P : Nat → Prop} {l : List PT} {v : Value} (h : OutD w C P l v) : OutD w.drew C P l v := by
  obtain ⟨xs, ho, hx⟩ := h
  exact ⟨xs, ho, RowX.imp (fun m x hm => hm.drewn) hx⟩
theorem outAlloc {w : World} {C : Nat} {P : Nat → Prop} {l : List PT} {v : Value} (h : OutD w C P l v) (o : Obj) : OutD (w.alloc o) C P l v := h.below (bel_alloc' (Below.refl _ _) o)
theorem insAlloc {w : World} {S : Nat → Prop} {l : List PT} {v : Value} (h : InS w S l v) (o : Obj) : InS (w.alloc o) S l v := insBelow h (bel_alloc' (Below.refl _ _) o)
theorem insNext {w w' : World} {S : Nat → Prop} {l : List PT} {v : Value} (hb : Below w.heap.size w w') (h : InS w S l v) : InS w' S l v := insBelow h hb
theorem two_ins {W : World} {S : Nat → Prop} {g : Nat} {k i : Int} {s : ByteArray} {m : List PT} {x : Value} {k' i' : Int} {s' : ByteArray} {m' : List PT} {x' : Value}
    (hb : W.heap[g]? = some (.cells #[.int .i64 k, .int .i64 i, .string s, x, .int .i64 k', .int .i64 i', .string s', x'] 25 (0, 0))) (h1 : InV W S (.mk k i s m) x) (h2 : InV W S (.mk k' i' s' m') x') (hg : S g) :
    InS W S [.mk k i s m, .mk k' i' s' m'] (.slice (some ⟨g, 0, none⟩) 2 2) := by
  refine ⟨some ⟨g, 0, none⟩, 2, rfl, Nat.le_refl _, by decide, (fun h => by cases h), .inr ⟨g, 0, rfl, hg, ?_⟩⟩
  rw [InAt, InAt, InAt]
  refine ⟨inD_mk.2 ⟨h1.1, h1.2.1, h1.2.2.1, ?_, ?_, ?_, x, ?_, h1.2.2.2⟩, inD_mk.2 ⟨h2.1, h2.2.1, h2.2.2.1, ?_, ?_, ?_, x', ?_, h2.2.2.2⟩, trivial⟩
  all_goals (rw [Lib.cell_of_heap hb]; rfl)
theorem bind_take : ∀ {ns : List ByteArray} {l : List PT} {j : Nat} (h1 : j < ns.length) (h2 : j < l.length), bindT (ns.take (j + 1)) l = bindT (ns.take j) l ++ [listT [symT ns[j], l[j]]]
  | s :: ns, d :: l, 0, _, _ => by simp [bindT]
  | s :: ns, d :: l, j + 1, h1, h2 => by
    simp only [List.length_cons] at h1 h2
    simp only [List.take_succ_cons, bindT, List.cons_append, List.getElem_cons_succ]
    rw [bind_take (by omega) (by omega)]
theorem bind_len : ∀ (ns : List ByteArray) (l : List PT), (bindT ns l).length ≤ ns.length
  | [], l => by cases l <;> simp [bindT]
  | s :: ns, [] => by simp [bindT]
  | s :: ns, d :: l => by simp only [bindT, List.length_cons]; have := bind_len ns l; omega
end Go.Proofs.Ytkjgdnfkpebejaa.Core
