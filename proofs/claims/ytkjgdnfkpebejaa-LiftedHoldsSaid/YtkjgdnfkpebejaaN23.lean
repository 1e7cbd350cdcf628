/-
The tree of functions within one another, as the law of what closures hold lays it in memory: what its statements leave. No condition.
-/
import Derived.Test.YtkjgdnfkpebejaaWRG
import Derived.Test.YtkjgdnfkpebejaaN22
import Derived.Test.YtkjgdnfkpebejaaN21
import Derived.Test.YtkjgdnfkpebejaaN19

namespace Go.Proofs.Ytkjgdnfkpebejaa.Core
open Go.ChangeShapes Go.WideShapes Go.ChangeAt Go.RowKit Go.Deep
open Dat (PT ok64 RowX)
set_option maxRecDepth 100000

/-- A block from C on that is no variable of an expression's that stands empty. -/
def NzH (C : Nat) (W : World) (b : Nat) : Prop := C ≤ b ∧ W.heap[b]? ≠ some (.cells #[.int .i64 0, .string ⟨#[]⟩, .slice none 0 0, .int .i64 0, .int .i64 0, .string ⟨#[]⟩, .slice none 0 0, .slice none 0 0] 28 (0, 0))
theorem NzH.up {C : Nat} {W W' : World} (hb : Below W.heap.size W W') {b : Nat} (h : NzH C W b) (hlt : b < W.heap.size) : NzH C W' b := ⟨h.1, by rw [hb.block b hlt]; exact h.2⟩
theorem inN_upH {C : Nat} {W W' : World} {l : List ByteArray} {v : Value} (h : InN W (NzH C W) l v) (hb : Below W.heap.size W W') : InN W' (NzH C W') l v := h.move (fun _ h hl => h.up hb hl) fun _ _ _ _ hc => cell_below hb hc
theorem inK_upH {C : Nat} {W W' : World} {l : List PE} {v : Value} (h : InK W (NzH C W) l v) (hb : Below W.heap.size W W') : InK W' (NzH C W') l v := h.move (fun _ h hl => h.up hb hl) fun _ _ _ _ hc => cell_below hb hc
theorem inF_upH {C : Nat} {W W' : World} {e : PE} {vn vd vk : Value} (h : InF W (NzH C W) e vn vd vk) (hb : Below W.heap.size W W') : InF W' (NzH C W') e vn vd vk := h.move (fun _ h hl => h.up hb hl) fun _ _ _ _ hc => cell_below hb hc
/-- Behind a store into a block that none of them is. -/
theorem NzH.off {C g : Nat} {W W' : World} (hW : ∀ b, b ≠ g → W'.heap[b]? = W.heap[b]?) {b : Nat} (h : NzH C W b) (hg : b ≠ g) : NzH C W' b := ⟨h.1, by rw [hW b hg]; exact h.2⟩
theorem cell_off {g : Nat} {W W' : World} (hW : ∀ b, b ≠ g → W'.heap[b]? = W.heap[b]?) {b o : Nat} {y : Value} (hg : b ≠ g) (hc : W.cell? ⟨b, o, none⟩ = some y) : W'.cell? ⟨b, o, none⟩ = some y := by
  rw [World.cell?_of_block (w := W) (a := ⟨b, o, none⟩) (hW b hg)]
  exact hc
theorem NzH.ne {C : Nat} {W : World} {b g : Nat} (h : NzH C W b) (hg : W.heap[g]? = some (.cells #[.int .i64 0, .string ⟨#[]⟩, .slice none 0 0, .int .i64 0, .int .i64 0, .string ⟨#[]⟩, .slice none 0 0, .slice none 0 0] 28 (0, 0))) : b ≠ g := fun e => h.2 (by rw [e]; exact hg)
/-- A row of expressions, of one name, that was just laid. -/
theorem inK_rowH {W : World} {C B : Nat} {l : List PE} {xs : Array Value} {ty : TypeId} (hB : W.heap[B]? = some (.cells xs ty (0, 0))) (hn : NzH C W B) (h : RowE W (NzH C W) l xs.toList) (hl : l.length ≤ 1000) : InK W (NzH C W) l (.slice (some ⟨B, 0, none⟩) l.length l.length) :=
  ⟨_, _, rfl, Nat.le_refl _, by unfold maxLen; omega, (fun h => by cases h), .inr ⟨B, 0, rfl, hn, ats_of_rowE h fun j u hj => by
    rw [Lib.cell_of_heap hB, Nat.zero_add]
    simpa using hj⟩⟩
theorem inN_rowH {W : World} {C B : Nat} {s : ByteArray} {ty : TypeId} (hB : W.heap[B]? = some (.cells #[.string s] ty (0, 0))) (hn : NzH C W B) (hs : s.size ≤ maxLen) : InN W (NzH C W) [s] (.slice (some ⟨B, 0, none⟩) 1 1) :=
  ⟨_, 1, rfl, Nat.le_refl _, by decide, (fun h => by cases h), .inr ⟨B, 0, rfl, hn, fun j hj => by
    obtain rfl : j = 0 := by simp at hj; omega
    exact ⟨by rw [Lib.cell_of_heap hB]; rfl, hs⟩⟩⟩
theorem inF_nodeH {W : World} {S : Nat → Prop} {k ck ci : Int} {nm cs : ByteArray} {ns : List ByteArray} {l : List PE} {vn vk : Value} (hk : ok64 k) (hnm : nm.size ≤ maxLen) (hck : ok64 ck) (hci : ok64 ci) (hcs : cs.size ≤ maxLen) (hn : InN W S ns vn) (hl : InK W S l vk) : InF W S (.mk k nm ns (.mk ck ci cs []) l) vn (.slice none 0 0) vk :=
  ⟨⟨hk, hnm, hn⟩, ⟨hck, hci, hcs, ⟨none, 0, rfl, Nat.le_refl _, Nat.zero_le _, fun _ => rfl, .inl rfl⟩⟩, hl⟩
theorem boff8 {W : World} {b : Nat} (v0 v1 v2 v3 v4 v5 v6 v7 : Value) {c : Nat} (hc : c ≠ b) : ((((((((W.setCell ⟨b, 0, none⟩ v0).setCell ⟨b, 1, none⟩ v1).setCell ⟨b, 2, none⟩ v2).setCell ⟨b, 3, none⟩ v3).setCell ⟨b, 4, none⟩ v4).setCell ⟨b, 5, none⟩ v5).setCell ⟨b, 6, none⟩ v6).setCell ⟨b, 7, none⟩ v7).heap[c]? = W.heap[c]? := by
  rw [Below.heap_setCell _ _ _ _ hc, Below.heap_setCell _ _ _ _ hc, Below.heap_setCell _ _ _ _ hc, Below.heap_setCell _ _ _ _ hc, Below.heap_setCell _ _ _ _ hc, Below.heap_setCell _ _ _ _ hc, Below.heap_setCell _ _ _ _ hc, Below.heap_setCell _ _ _ _ hc]
/-- What stands in the variable of the tree. -/
def BoxH (W : World) (g : Nat) (t : PE) : Prop := ∃ hk hc ns l vn vd vk, t = .mk hk ⟨#[]⟩ ns (.mk hc 0 ⟨#[]⟩ []) l ∧ InF W (NzH (g + 1) W) (.mk hk ⟨#[]⟩ ns (.mk hc 0 ⟨#[]⟩ []) l) vn vd vk ∧ W.heap[g]? = some (.cells #[.int .i64 hk, .string ⟨#[]⟩, vn, .int .i64 hc, .int .i64 0, .string ⟨#[]⟩, vd, vk] 28 (0, 0))
theorem BoxH.start {W : World} {g : Nat} (of : Nat → Nat) (i : Nat) (hg : W.heap[g]? = some (.cells #[.int .i64 0, .string ⟨#[]⟩, .slice none 0 0, .int .i64 5, .int .i64 0, .string ⟨#[]⟩, .slice none 0 0, .slice none 0 0] 28 (0, 0))) : BoxH W g (holdT of i 0) :=
  ⟨0, 5, [], [], _, _, _, by rw [holdT], inF_nodeH (by constructor <;> decide) (by decide) (by constructor <;> decide) (by constructor <;> decide) (by decide) inN_nil' inK_nil', hg⟩
/-- A row of numbers in memory that is only read. -/
def InZ14 (w : World) (l : List Int) (v : Value) : Prop := ∃ a c, v = .slice a l.length c ∧ l.length ≤ c ∧ c ≤ maxLen ∧ ∀ (j : Nat) (h : j < l.length), ok64 l[j] ∧ ∃ b o, a = some ⟨b, o, none⟩ ∧ b < w.heap.size ∧ w.cell? ⟨b, o + j, none⟩ = some (.int .i64 l[j])
theorem InZ14.below {w w' : World} {l : List Int} {v : Value} (h : InZ14 w l v) (hb : Below w.heap.size w w') : InZ14 w' l v := by
  obtain ⟨a, c, e, h1, h2, h3⟩ := h
  refine ⟨a, c, e, h1, h2, fun j hj => ?_⟩
  obtain ⟨g, b, o, ea, hlt, hc⟩ := h3 j hj
  exact ⟨g, b, o, ea, Nat.lt_of_lt_of_le hlt hb.size, cell_below hb hc⟩
end Go.Proofs.Ytkjgdnfkpebejaa.Core
