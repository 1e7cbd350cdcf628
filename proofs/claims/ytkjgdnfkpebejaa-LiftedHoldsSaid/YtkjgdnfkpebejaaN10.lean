/-
How package lift's lifter stands in memory, and what its calls leave as it was. No condition.
-/
import Derived.Test.YtkjgdnfkpebejaaWNF
import Derived.Test.YtkjgdnfkpebejaaWNA

namespace Go.Proofs.Ytkjgdnfkpebejaa.Core
open Go.ChangeShapes Go.WideShapes Go.ChangeAt Go.RowKit Go.Deep
open Dat (PT ok64 RowX)
set_option maxRecDepth 100000

/-- How the lifter stands: its box holds a row of functions of its own, whose rows lie in blocks of P. -/
structure LfSt (w : World) (C lb : Nat) (P : Nat → Prop) (fs : List FunT) (v : Value) : Prop where
  blk : w.heap[lb]? = some (.cells #[v] 56 (0, 0))
  row : OutF w C (fun b => P b ∧ b ≠ lb) fs v
  lbC : C ≤ lb
  ne : v.ownBlock ≠ some lb
/-- What a call leaves as it was. -/
def LfFr (C lb : Nat) (w : World) (v : Value) (w' : World) (v' : Value) : Prop := Below C w w' ∧ ∀ b, b < w.heap.size → b ≠ lb → some b ≠ v.ownBlock → w'.heap[b]? = w.heap[b]? ∧ some b ≠ v'.ownBlock
theorem LfFr.refl (C lb : Nat) (w : World) (v : Value) : LfFr C lb w v w v := ⟨Below.refl _ _, fun _ _ _ h => ⟨rfl, h⟩⟩
theorem LfFr.trans {C lb : Nat} {w w1 w2 : World} {v v1 v2 : Value} (h : LfFr C lb w v w1 v1) (g : LfFr C lb w1 v1 w2 v2) : LfFr C lb w v w2 v2 :=
  ⟨h.1.trans g.1, fun b h1 h2 h3 => by
    obtain ⟨a1, a2⟩ := h.2 b h1 h2 h3
    obtain ⟨b1, b2⟩ := g.2 b (Nat.lt_of_lt_of_le h1 h.1.size) h2 a2
    exact ⟨b1.trans a1, b2⟩⟩
theorem LfFr.of_below {C lb : Nat} {w w' : World} {v : Value} (hC : C ≤ w.heap.size) (h : Below w.heap.size w w') : LfFr C lb w v w' v := ⟨h.mono hC, fun b h1 _ h3 => ⟨h.block b h1, h3⟩⟩
theorem LfSt.lt {w : World} {C lb : Nat} {P : Nat → Prop} {fs : List FunT} {v : Value} (h : LfSt w C lb P fs v) : lb < w.heap.size ∧ C ≤ w.heap.size ∧ ∀ b, v.ownBlock = some b → C ≤ b ∧ b < w.heap.size := by
  have h1 := lt_of_block h.blk
  have h2 := h.lbC
  obtain ⟨_, _, _, h3⟩ := h.row.slice
  exact ⟨h1, by omega, h3⟩
theorem LfSt.at {w w' : World} {C lb : Nat} {P P' : Nat → Prop} {fs : List FunT} {v : Value} (h : LfSt w C lb P fs v) (hl : w'.heap[lb]? = w.heap[lb]?) (hv : ∀ b, v.ownBlock = some b → w'.heap[b]? = w.heap[b]?) (hP : ∀ b, P b → b < w.heap.size → w'.heap[b]? = w.heap[b]? ∧ P' b) : LfSt w' C lb P' fs v :=
  ⟨hl.trans h.blk, h.row.at hv fun b hb hlt => ⟨(hP b hb.1 hlt).1, (hP b hb.1 hlt).2, hb.2⟩, h.lbC, h.ne⟩
theorem LfSt.weak {w : World} {C lb : Nat} {P P' : Nat → Prop} {fs : List FunT} {v : Value} (h : LfSt w C lb P fs v) (hP : ∀ b, P b → b < w.heap.size → P' b) : LfSt w C lb P' fs v := h.at rfl (fun _ _ => rfl) fun b h1 h2 => ⟨rfl, hP b h1 h2⟩
theorem LfSt.below {w w' : World} {C lb : Nat} {P : Nat → Prop} {fs : List FunT} {v : Value} (h : LfSt w C lb P fs v) (hb : Below w.heap.size w w') : LfSt w' C lb P fs v :=
  h.at (hb.block _ h.lt.1) (fun b e => hb.block _ (h.lt.2.2 b e).2) fun b h1 h2 => ⟨hb.block b h2, h1⟩
/-- What the caller has besides is not touched. -/
def Off (lb : Nat) (v : Value) (b : Nat) : Prop := b ≠ lb ∧ some b ≠ v.ownBlock
/-- How things stand while over goes on: the lifter, the box of the expression, the box of what is made, the row of its kids. -/
structure LvSt (C lb : Nat) (P S : Nat → Prop) (w : World) (v : Value) (wr : World) (fs : List FunT) (v' : Value) (l : List PE) (vK : Value) (EB OB : Obj) : Prop where
  st : LfSt wr C lb (fun b => P b ∧ ¬ (w.heap.size ≤ b ∧ b < w.heap.size + 3) ∧ some b ≠ vK.ownBlock) fs v'
  fr : LfFr C lb w v wr v'
  row : OutE wr (w.heap.size + 3) (fun b => (S b ∨ w.heap.size + 3 ≤ b) ∧ Off lb v' b) l vK
  own : ∀ b, vK.ownBlock = some b → Off lb v' b
  eb : wr.heap[w.heap.size]? = some EB
  zb : wr.heap[w.heap.size + 1]? = some (.cells #[.int .i64 0, .string ⟨#[]⟩, .slice none 0 0, .int .i64 0, .int .i64 0, .string ⟨#[]⟩, .slice none 0 0, .slice none 0 0] 28)
  qb : wr.heap[w.heap.size + 2]? = some OB
  hlb : lb < w.heap.size
  hC : C ≤ w.heap.size
  hv : ∀ b, v'.ownBlock = some b → b < w.heap.size ∨ w.heap.size + 3 ≤ b
  hS : ∀ b, S b → b < w.heap.size ∧ Off lb v b
theorem LvSt.size {C lb : Nat} {P S : Nat → Prop} {w : World} {v : Value} {wr : World} {fs : List FunT} {v' : Value} {l : List PE} {vK : Value} {EB OB : Obj} (h : LvSt C lb P S w v wr fs v' l vK EB OB) : w.heap.size + 3 ≤ wr.heap.size := by
  have := lt_of_block h.qb
  omega
theorem LvSt.offS {C lb : Nat} {P S : Nat → Prop} {w : World} {v : Value} {wr : World} {fs : List FunT} {v' : Value} {l : List PE} {vK : Value} {EB OB : Obj} (h : LvSt C lb P S w v wr fs v' l vK EB OB) : ∀ b, S b → b < wr.heap.size ∧ Off lb v' b ∧ wr.heap[b]? = w.heap[b]? := fun b hb => by
  obtain ⟨h1, h2, h3⟩ := h.hS b hb
  obtain ⟨h4, h5⟩ := h.fr.2 b h1 h2 h3
  exact ⟨by have := h.size; omega, ⟨h2, h5⟩, h4⟩
/-- .. behind a call that only makes memory. -/
theorem LvSt.below {C lb : Nat} {P S : Nat → Prop} {w : World} {v : Value} {wr W : World} {fs : List FunT} {v' : Value} {l : List PE} {vK : Value} {EB OB : Obj} (h : LvSt C lb P S w v wr fs v' l vK EB OB) (hb : Below wr.heap.size wr W) : LvSt C lb P S w v W fs v' l vK EB OB :=
  ⟨h.st.below hb, h.fr.trans (LfFr.of_below (by have := h.size; have := h.hC; omega) hb), h.row.below hb, h.own, (hb.block _ (lt_of_block h.eb)).trans h.eb, (hb.block _ (lt_of_block h.zb)).trans h.zb, (hb.block _ (lt_of_block h.qb)).trans h.qb, h.hlb, h.hC, h.hv, h.hS⟩
/-- .. behind a call of lifted. -/
theorem LvSt.call {C lb : Nat} {P S : Nat → Prop} {w : World} {v : Value} {wr W : World} {fs fs2 : List FunT} {v' v2 : Value} {l : List PE} {vK : Value} {EB OB : Obj} (h : LvSt C lb P S w v wr fs v' l vK EB OB) (hst : LfSt W C lb (fun b => P b ∧ ¬ (w.heap.size ≤ b ∧ b < w.heap.size + 3) ∧ some b ≠ vK.ownBlock) fs2 v2) (hfr : LfFr C lb wr v' W v2) : LvSt C lb P S w v W fs2 v2 l vK EB OB := by
  have hz := h.size
  have hl := h.hlb
  have box : ∀ i, i < 3 → W.heap[w.heap.size + i]? = wr.heap[w.heap.size + i]? ∧ some (w.heap.size + i) ≠ v2.ownBlock := fun i hi => hfr.2 _ (by omega) (by omega) fun e => by
    rcases h.hv _ e.symm with h1 | h1 <;> omega
  obtain ⟨_, _, _, hkl⟩ := h.row.slice
  refine ⟨hst, h.fr.trans hfr, h.row.at (fun b e => ?_) (fun b hb hlt => ?_), fun b e => ?_, (box 0 (by omega)).1.trans h.eb, (box 1 (by omega)).1.trans h.zb, (box 2 (by omega)).1.trans h.qb, h.hlb, h.hC, fun b e => ?_, h.hS⟩
  · have h1 := h.own b e
    exact (hfr.2 b (hkl b e).2 h1.1 h1.2).1
  · obtain ⟨h1, h2⟩ := hfr.2 b hlt hb.2.1 hb.2.2
    exact ⟨h1, hb.1, hb.2.1, h2⟩
  · have h1 := h.own b e
    exact ⟨h1.1, (hfr.2 b (hkl b e).2 h1.1 h1.2).2⟩
  · rcases Nat.lt_or_ge b w.heap.size with h1 | h1
    · exact .inl h1
    · refine .inr ?_
      rcases Nat.lt_or_ge b (w.heap.size + 3) with h2 | h2
      · have h3 := (box (b - w.heap.size) (by omega)).2
        rw [show w.heap.size + (b - w.heap.size) = b by omega] at h3
        exact absurd e.symm h3
      · exact h2
/-- .. behind append of a kid. -/
theorem LvSt.grow {C lb : Nat} {P S : Nat → Prop} {w : World} {v : Value} {wr W : World} {fs : List FunT} {v' : Value} {l l' : List PE} {vK : Value} {EB OB : Obj} {g n cap : Nat} (h : LvSt C lb P S w v wr fs v' l vK EB OB) (hg : wr.grownBy W vK.ownBlock) (hat : vK.ownBlock = some g ∨ g = wr.heap.size) (hrow : OutE W (w.heap.size + 3) (fun b => (S b ∨ w.heap.size + 3 ≤ b) ∧ Off lb v' b) l' (.slice (some ⟨g, 0, none⟩) n cap)) : LvSt C lb P S w v W fs v' l' (.slice (some ⟨g, 0, none⟩) n cap) EB OB := by
  have hz := h.size
  obtain ⟨_, _, _, hkl⟩ := h.row.slice
  have hvl := h.st.lt
  have box : ∀ i, i < 3 → W.heap[w.heap.size + i]? = wr.heap[w.heap.size + i]? := fun i hi => hg.block _ (by omega) fun e => by
    have := (hkl _ e.symm).1
    omega
  refine ⟨h.st.at (hg.block _ hvl.1 fun e => (h.own _ e.symm).1 rfl) (fun b e => hg.block _ (hvl.2.2 b e).2 fun e2 => (h.own _ e2.symm).2 e.symm) fun b hb hlt => ⟨hg.block b hlt hb.2.2, hb.1, hb.2.1, ?_⟩, ⟨h.fr.1.grown hg (by have := h.hC; omega) (fun b e => by have := (hkl b e).1; have := h.hC; omega), fun b h1 h2 h3 => ?_⟩, hrow, fun b e => ?_, (box 0 (by omega)).trans h.eb, (box 1 (by omega)).trans h.zb, (box 2 (by omega)).trans h.qb, h.hlb, h.hC, h.hv, h.hS⟩
  · intro e
    obtain rfl : b = g := by cases e; rfl
    rcases hat with e | e
    · exact hb.2.2 e.symm
    · omega
  · obtain ⟨a1, a2⟩ := h.fr.2 b h1 h2 h3
    exact ⟨(hg.block b (by omega) fun e => by have := (hkl b e.symm).1; omega).trans a1, a2⟩
  · obtain rfl : g = b := by cases e; rfl
    rcases hat with e | e
    · exact h.own _ e
    · exact ⟨by omega, fun e2 => by have := (hvl.2.2 _ e2.symm).2; omega⟩
/-- .. behind a store into the box of what is made. -/
theorem LvSt.put {C lb : Nat} {P S : Nat → Prop} {w : World} {v : Value} {wr : World} {fs : List FunT} {v' : Value} {l : List PE} {vK : Value} {EB : Obj} {cells : Array Value} {ty : TypeId} (h : LvSt C lb P S w v wr fs v' l vK EB (.cells cells ty)) (j : Nat) (x : Value) : LvSt C lb P S w v (wr.setCell ⟨w.heap.size + 2, j, none⟩ x) fs v' l vK EB (.cells (cells.setIfInBounds j x) ty) := by
  have hz := h.size
  have hl := h.hlb
  obtain ⟨_, _, _, hkl⟩ := h.row.slice
  have hvl := h.st.lt
  have oth : ∀ b, b ≠ w.heap.size + 2 → (wr.setCell ⟨w.heap.size + 2, j, none⟩ x).heap[b]? = wr.heap[b]? := fun b hb => Below.heap_setCell _ _ _ _ hb
  refine ⟨h.st.at (oth _ (by omega)) (fun b e => oth _ ?_) (fun b hb hlt => ⟨oth _ (by omega), hb⟩), ⟨h.fr.1.setCell (p := ⟨w.heap.size + 2, j, none⟩) (by show C ≤ w.heap.size + 2; have := h.hC; omega) x, fun b h1 h2 h3 => ?_⟩, h.row.at (fun b e => oth _ ?_) (fun b hb hlt => ⟨oth _ ?_, hb⟩), h.own, (oth _ (by omega)).trans h.eb, (oth _ (by omega)).trans h.zb, heap_setCell_same _ _ _ _ _ _ h.qb, h.hlb, h.hC, h.hv, h.hS⟩
  · rcases h.hv b e with h1 | h1 <;> omega
  · obtain ⟨a1, a2⟩ := h.fr.2 b h1 h2 h3
    exact ⟨(oth b (by omega)).trans a1, a2⟩
  · have := (hkl b e).1
    omega
  · rcases hb.1 with h1 | h1
    · have := (h.hS b h1).1
      omega
    · omega
/-- .. at the end: what is made is laid into the box of the answer. -/
theorem LvSt.fin {C lb : Nat} {P S : Nat → Prop} {w : World} {v : Value} {wr w9 : World} {fs : List FunT} {v' : Value} {l : List PE} {vK : Value} {EB OB : Obj} (h : LvSt C lb P S w v wr fs v' l vK EB OB) (hb : Below C w w9) (ho : ∀ b, b ≠ w.heap.size + 1 → w9.heap[b]? = wr.heap[b]?) : InK w9 (fun b => (S b ∨ w.heap.size ≤ b) ∧ Off lb v' b) l vK ∧ LfSt w9 C lb P fs v' ∧ LfFr C lb w v w9 v' := by
  have hl := h.hlb
  obtain ⟨_, _, _, hkl⟩ := h.row.slice
  refine ⟨OutE.inK (C := w.heap.size + 3) (P := fun b => (S b ∨ w.heap.size + 3 ≤ b) ∧ Off lb v' b) (h.row.at (fun b e => ho b ?_) fun b hb2 hlt => ⟨ho b ?_, hb2⟩) (fun b hb2 => ⟨hb2.1.imp id fun g => by omega, hb2.2⟩) fun b e => ⟨.inr ?_, h.own b e⟩, h.st.at (ho lb (by omega)) (fun b e => ho b ?_) fun b hb2 hlt => ⟨ho b (by omega), hb2.1⟩, hb, fun b h1 h2 h3 => ?_⟩
  · have := (hkl b e).1
    omega
  · rcases hb2.1 with g | g
    · have := (h.hS b g).1
      omega
    · omega
  · have := (hkl b e).1
    omega
  · rcases h.hv b e with h1 | h1 <;> omega
  · obtain ⟨a1, a2⟩ := h.fr.2 b h1 h2 h3
    exact ⟨(ho b (by omega)).trans a1, a2⟩
/-- What lifted answers. -/
def LiftedIs (C lb : Nat) (P S : Nat → Prop) (fs : List FunT) (v : Value) (w : World) (t : PE) (e : Ending) (w' : World) : Prop :=
  ∃ k nm ns ck ci cs cl l vn vd vk v', e = .returned (.agg #[.int .i64 k, .string nm, vn, .int .i64 ck, .int .i64 ci, .string cs, vd, vk]) ∧ (liftT fs t).1 = .mk k nm ns (.mk ck ci cs cl) l ∧ InF w' (fun b => (S b ∨ w.heap.size ≤ b) ∧ Off lb v' b) (.mk k nm ns (.mk ck ci cs cl) l) vn vd vk ∧ LfSt w' C lb P (liftT fs t).2 v' ∧ LfFr C lb w v w' v'
def LiftedOk (t : PE) : Prop := ∀ (w : World) (C lb : Nat) (P S : Nat → Prop) (fs : List FunT) (v vn vd vk : Value), InF w S t vn vd vk → okE t → (∀ b, S b → b < w.heap.size ∧ Off lb v b ∧ P b) → LfSt w C lb P fs v → (∀ b, w.heap.size ≤ b → P b) → fs.length + sizeE t ≤ 60000 → sizeE t ≤ 40000 →
  Calls Try.prog 21 #[.pointer (some ⟨lb, 0, none⟩), t.val vn vd vk] w fun e w' => LiftedIs C lb P S fs v w t e w'
end Go.Proofs.Ytkjgdnfkpebejaa.Core
