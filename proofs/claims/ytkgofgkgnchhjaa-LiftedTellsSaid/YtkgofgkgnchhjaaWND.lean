/-
Texts N13, N13a, one behind the other (a claim bears sixty files). Conditions: as each says.
-/
import Derived.Test.YtkgofgkgnchhjaaN5
import Derived.Test.YtkgofgkgnchhjaaN10

/-
The document's Free, for every small expression in memory. No condition but that.
-/
namespace Go.Proofs.Ytkgofgkgnchhjaa.Core
open Go.ChangeShapes Go.WideShapes Go.ChangeAt Go.RowKit Go.Deep
open Dat (PT ok64 RowX)
set_option maxRecDepth 100000

theorem rFree_any (t : PE) (S : Nat → Prop) (vn vd vk : Value) (w : World) (h : InF w S t vn vd vk) (hS : ∀ b, S b → b < w.heap.size) (hz : sizeE t ≤ 40000) :
    Calls Try.prog 19 #[t.val vn vd vk] w fun e w' => ∃ a9 c9, e = .returned (.slice a9 (freeT t).length c9) ∧ InN w' (fun b => w.heap.size ≤ b) (freeT t) (.slice a9 (freeT t).length c9) ∧ Below w.heap.size w w' := by
  obtain ⟨k, nm, ns, ⟨ck, ci, cs, cl⟩, l⟩ := t
  have HI := Lib.hid h
  obtain ⟨⟨_, _, an, cn, rfl, _⟩, ⟨_, _, _, ad, cd, rfl, _⟩, ak, c, rfl, _⟩ := h
  show Calls Try.prog 19 #[.agg #[.int .i64 k, .string nm, .slice an ns.length cn, .int .i64 ck, .int .i64 ci, .string cs, .slice ad cl.length cd, .slice ak l.length c]] w _
  have K := Lib.hid (fun W (hb : Below w.heap.size w W) => rfree_any (.mk k nm ns (.mk ck ci cs cl) l) S (fun _ => False) _ _ _ (.slice none 0 0) (.slice none 0 0) [] [] W (HI.out.belowT hS hb) (fun b hb' => Nat.lt_of_lt_of_le (hS b hb') hb.size) (fun _ h => h.elim) inN_nil' inN_nil' (by simpa using hz) (by simpa using hz))
  clear HI hz
  unfold freeT
  go_enter Try.func19, Try.ntmps19
  go_wp2_with fail
  refine (K.out _ ((Below.refl _ _).alloc (Nat.le_refl _) _)).mono ?_
  rintro e w1 ⟨v, rfl, hn, hb⟩
  obtain ⟨a9, c9, e9, -⟩ := id hn
  subst e9
  have HN := Lib.hid (hn.weak (S' := fun b => w.heap.size ≤ b) fun b h _ => h.elim (fun g => g.elim) fun g => by rw [size_new] at g; omega)
  have HB1 := Lib.hid (((Below.refl w.heap.size w).alloc (Nat.le_refl _) _).trans (hb.mono (by rw [size_new]; omega)))
  clear hn hb
  go_wp2
  go_ret
  exact ⟨_, _, rfl, HN.out, HB1.out⟩
end Go.Proofs.Ytkgofgkgnchhjaa.Core

/-
How the document's lift stands in memory while it goes on, and what its calls leave as it was. No condition.
-/
namespace Go.Proofs.Ytkgofgkgnchhjaa.Core
open Go.ChangeShapes Go.WideShapes Go.ChangeAt Go.RowKit Go.Deep
open Dat (PT ok64 RowX)
set_option maxRecDepth 100000

/-- What a call leaves as it was. -/
def RfFr (C : Nat) (w : World) (v : Value) (w' : World) (v' : Value) : Prop := Below C w w' ∧ ∀ b, b < w.heap.size → some b ≠ v.ownBlock → w'.heap[b]? = w.heap[b]? ∧ some b ≠ v'.ownBlock
theorem RfFr.refl (C : Nat) (w : World) (v : Value) : RfFr C w v w v := ⟨Below.refl _ _, fun _ _ h => ⟨rfl, h⟩⟩
theorem RfFr.trans {C : Nat} {w w1 w2 : World} {v v1 v2 : Value} (h : RfFr C w v w1 v1) (g : RfFr C w1 v1 w2 v2) : RfFr C w v w2 v2 :=
  ⟨h.1.trans g.1, fun b h1 h3 => by
    obtain ⟨a1, a2⟩ := h.2 b h1 h3
    obtain ⟨b1, b2⟩ := g.2 b (Nat.lt_of_lt_of_le h1 h.1.size) a2
    exact ⟨b1.trans a1, b2⟩⟩
theorem RfFr.of_below {C : Nat} {w w' : World} {v : Value} (hC : C ≤ w.heap.size) (h : Below w.heap.size w w') : RfFr C w v w' v := ⟨h.mono hC, fun b h1 h3 => ⟨h.block b h1, h3⟩⟩
theorem OutF.lt {w : World} {C : Nat} {P : Nat → Prop} {fs : List FunT} {v : Value} (h : OutF w C P fs v) : ∀ b, v.ownBlock = some b → C ≤ b ∧ b < w.heap.size := by
  obtain ⟨_, _, _, h3⟩ := h.slice
  exact h3
/-- How things stand while kids are lifted: the row of functions, three boxes of the call, the row of its kids. -/
structure RvSt (C : Nat) (P S : Nat → Prop) (w : World) (v : Value) (wr : World) (fs : List FunT) (v' : Value) (l : List PE) (vK : Value) (EB OB : Obj) : Prop where
  st : OutF wr C (fun b => P b ∧ ¬ (w.heap.size ≤ b ∧ b < w.heap.size + 3) ∧ some b ≠ vK.ownBlock) fs v'
  fr : RfFr C w v wr v'
  row : OutE wr (w.heap.size + 3) (fun b => ((S b ∨ w.heap.size + 3 ≤ b) ∧ P b) ∧ some b ≠ v'.ownBlock) l vK
  own : ∀ b, vK.ownBlock = some b → some b ≠ v'.ownBlock
  eb : wr.heap[w.heap.size]? = some EB
  zb : wr.heap[w.heap.size + 1]? = some (.cells #[.int .i64 0, .string ⟨#[]⟩, .slice none 0 0, .int .i64 0, .int .i64 0, .string ⟨#[]⟩, .slice none 0 0, .slice none 0 0] 28)
  qb : wr.heap[w.heap.size + 2]? = some OB
  hC : C ≤ w.heap.size
  hv : ∀ b, v'.ownBlock = some b → b < w.heap.size ∨ w.heap.size + 3 ≤ b
  hS : ∀ b, S b → b < w.heap.size ∧ some b ≠ v.ownBlock
theorem RvSt.size {C : Nat} {P S : Nat → Prop} {w : World} {v : Value} {wr : World} {fs : List FunT} {v' : Value} {l : List PE} {vK : Value} {EB OB : Obj} (h : RvSt C P S w v wr fs v' l vK EB OB) : w.heap.size + 3 ≤ wr.heap.size := by
  have := lt_of_block h.qb
  omega
theorem RvSt.offS {C : Nat} {P S : Nat → Prop} {w : World} {v : Value} {wr : World} {fs : List FunT} {v' : Value} {l : List PE} {vK : Value} {EB OB : Obj} (h : RvSt C P S w v wr fs v' l vK EB OB) : ∀ b, S b → b < wr.heap.size ∧ some b ≠ v'.ownBlock ∧ wr.heap[b]? = w.heap[b]? := fun b hb => by
  obtain ⟨h1, h3⟩ := h.hS b hb
  obtain ⟨h4, h5⟩ := h.fr.2 b h1 h3
  exact ⟨by have := h.size; omega, h5, h4⟩
/-- .. behind a call that only makes memory. -/
theorem RvSt.below {C : Nat} {P S : Nat → Prop} {w : World} {v : Value} {wr W : World} {fs : List FunT} {v' : Value} {l : List PE} {vK : Value} {EB OB : Obj} (h : RvSt C P S w v wr fs v' l vK EB OB) (hb : Below wr.heap.size wr W) : RvSt C P S w v W fs v' l vK EB OB :=
  ⟨h.st.below hb, h.fr.trans (RfFr.of_below (by have := h.size; have := h.hC; omega) hb), h.row.below hb, h.own, (hb.block _ (lt_of_block h.eb)).trans h.eb, (hb.block _ (lt_of_block h.zb)).trans h.zb, (hb.block _ (lt_of_block h.qb)).trans h.qb, h.hC, h.hv, h.hS⟩
/-- .. behind a call of lift. -/
theorem RvSt.call {C : Nat} {P S : Nat → Prop} {w : World} {v : Value} {wr W : World} {fs fs2 : List FunT} {v' v2 : Value} {l : List PE} {vK : Value} {EB OB : Obj} (h : RvSt C P S w v wr fs v' l vK EB OB) (hst : OutF W C (fun b => P b ∧ ¬ (w.heap.size ≤ b ∧ b < w.heap.size + 3) ∧ some b ≠ vK.ownBlock) fs2 v2) (hfr : RfFr C wr v' W v2) : RvSt C P S w v W fs2 v2 l vK EB OB := by
  have hz := h.size
  have box : ∀ i, i < 3 → W.heap[w.heap.size + i]? = wr.heap[w.heap.size + i]? ∧ some (w.heap.size + i) ≠ v2.ownBlock := fun i hi => hfr.2 _ (by omega) fun e => by
    rcases h.hv _ e.symm with h1 | h1 <;> omega
  obtain ⟨_, _, _, hkl⟩ := h.row.slice
  refine ⟨hst, h.fr.trans hfr, h.row.at (fun b e => ?_) (fun b hb hlt => ?_), fun b e => ?_, (box 0 (by omega)).1.trans h.eb, (box 1 (by omega)).1.trans h.zb, (box 2 (by omega)).1.trans h.qb, h.hC, fun b e => ?_, h.hS⟩
  · exact (hfr.2 b (hkl b e).2 (h.own b e)).1
  · obtain ⟨h1, h2⟩ := hfr.2 b hlt hb.2
    exact ⟨h1, hb.1, h2⟩
  · exact (hfr.2 b (hkl b e).2 (h.own b e)).2
  · rcases Nat.lt_or_ge b w.heap.size with h1 | h1
    · exact .inl h1
    · refine .inr ?_
      rcases Nat.lt_or_ge b (w.heap.size + 3) with h2 | h2
      · have h3 := (box (b - w.heap.size) (by omega)).2
        rw [show w.heap.size + (b - w.heap.size) = b by omega] at h3
        exact absurd e.symm h3
      · exact h2
/-- .. behind append of a kid. -/
theorem RvSt.grow {C : Nat} {P S : Nat → Prop} {w : World} {v : Value} {wr W : World} {fs : List FunT} {v' : Value} {l l' : List PE} {vK : Value} {EB OB : Obj} {g n cap : Nat} (h : RvSt C P S w v wr fs v' l vK EB OB) (hg : wr.grownBy W vK.ownBlock) (hat : vK.ownBlock = some g ∨ g = wr.heap.size) (hrow : OutE W (w.heap.size + 3) (fun b => ((S b ∨ w.heap.size + 3 ≤ b) ∧ P b) ∧ some b ≠ v'.ownBlock) l' (.slice (some ⟨g, 0, none⟩) n cap)) : RvSt C P S w v W fs v' l' (.slice (some ⟨g, 0, none⟩) n cap) EB OB := by
  have hz := h.size
  obtain ⟨_, _, _, hkl⟩ := h.row.slice
  have hvl := h.st.lt
  have box : ∀ i, i < 3 → W.heap[w.heap.size + i]? = wr.heap[w.heap.size + i]? := fun i hi => hg.block _ (by omega) fun e => by
    have := (hkl _ e.symm).1
    omega
  refine ⟨h.st.at (fun b e => hg.block _ (hvl b e).2 fun e2 => h.own _ e2.symm e.symm) fun b hb hlt => ⟨hg.block b hlt hb.2.2, hb.1, hb.2.1, ?_⟩, ⟨h.fr.1.grown hg (by have := h.hC; omega) (fun b e => by have := (hkl b e).1; have := h.hC; omega), fun b h1 h3 => ?_⟩, hrow, fun b e => ?_, (box 0 (by omega)).trans h.eb, (box 1 (by omega)).trans h.zb, (box 2 (by omega)).trans h.qb, h.hC, h.hv, h.hS⟩
  · intro e
    obtain rfl : b = g := by cases e; rfl
    rcases hat with e | e
    · exact hb.2.2 e.symm
    · omega
  · obtain ⟨a1, a2⟩ := h.fr.2 b h1 h3
    exact ⟨(hg.block b (by omega) fun e => by have := (hkl b e.symm).1; omega).trans a1, a2⟩
  · obtain rfl : g = b := by cases e; rfl
    rcases hat with e | e
    · exact h.own _ e
    · intro e2
      have := (hvl _ e2.symm).2
      omega
/-- .. behind a store into the box of what is made. -/
theorem RvSt.put {C : Nat} {P S : Nat → Prop} {w : World} {v : Value} {wr : World} {fs : List FunT} {v' : Value} {l : List PE} {vK : Value} {EB : Obj} {cells : Array Value} {ty : TypeId} (h : RvSt C P S w v wr fs v' l vK EB (.cells cells ty)) (j : Nat) (x : Value) : RvSt C P S w v (wr.setCell ⟨w.heap.size + 2, j, none⟩ x) fs v' l vK EB (.cells (cells.setIfInBounds j x) ty) := by
  have hz := h.size
  obtain ⟨_, _, _, hkl⟩ := h.row.slice
  have hvl := h.st.lt
  have oth : ∀ b, b ≠ w.heap.size + 2 → (wr.setCell ⟨w.heap.size + 2, j, none⟩ x).heap[b]? = wr.heap[b]? := fun b hb => Below.heap_setCell _ _ _ _ hb
  refine ⟨h.st.at (fun b e => oth _ ?_) (fun b hb hlt => ⟨oth _ (by omega), hb⟩), ⟨h.fr.1.setCell (p := ⟨w.heap.size + 2, j, none⟩) (by show C ≤ w.heap.size + 2; have := h.hC; omega) x, fun b h1 h3 => ?_⟩, h.row.at (fun b e => oth _ ?_) (fun b hb hlt => ⟨oth _ ?_, hb⟩), h.own, (oth _ (by omega)).trans h.eb, (oth _ (by omega)).trans h.zb, heap_setCell_same _ _ _ _ _ _ h.qb, h.hC, h.hv, h.hS⟩
  · rcases h.hv b e with h1 | h1 <;> omega
  · obtain ⟨a1, a2⟩ := h.fr.2 b h1 h3
    exact ⟨(oth b (by omega)).trans a1, a2⟩
  · have := (hkl b e).1
    omega
  · rcases hb.1.1 with h1 | h1
    · have := (h.hS b h1).1
      omega
    · omega
/-- .. with fewer blocks for what is new. -/
theorem RvSt.weakP {C : Nat} {P P' S : Nat → Prop} {w : World} {v : Value} {wr : World} {fs : List FunT} {v' : Value} {l : List PE} {vK : Value} {EB OB : Obj} (h : RvSt C P S w v wr fs v' l vK EB OB) (hP : ∀ b, P b → b < wr.heap.size → P' b) : RvSt C P' S w v wr fs v' l vK EB OB :=
  ⟨h.st.at (fun _ _ => rfl) fun b hb hlt => ⟨rfl, hP b hb.1 hlt, hb.2⟩, h.fr, h.row.at (fun _ _ => rfl) fun b hb hlt => ⟨rfl, ⟨hb.1.1, hP b hb.1.2 hlt⟩, hb.2⟩, h.own, h.eb, h.zb, h.qb, h.hC, h.hv, h.hS⟩
/-- .. behind stores into a box that nothing else lies in. -/
theorem RvSt.box {C q : Nat} {P S : Nat → Prop} {w : World} {v : Value} {wr W : World} {fs : List FunT} {v' : Value} {l : List PE} {vK : Value} {EB OB : Obj} (h : RvSt C (fun b => P b ∧ b ≠ q) S w v wr fs v' l vK EB OB) (hq : w.heap.size + 3 ≤ q) (h1 : vK.ownBlock ≠ some q) (h2 : v'.ownBlock ≠ some q) (hb : Below C wr W) (ho : ∀ b, b ≠ q → W.heap[b]? = wr.heap[b]?) : RvSt C P S w v W fs v' l vK EB OB := by
  have hC := h.hC
  refine ⟨h.st.at (fun b e => ho b fun e2 => h2 (by rw [e, e2])) fun b hb hlt => ⟨ho b hb.1.2, hb.1.1, hb.2⟩, ⟨h.fr.1.trans hb, fun b g1 g2 => ?_⟩, h.row.at (fun b e => ho b fun e2 => h1 (by rw [e, e2])) fun b hb hlt => ⟨ho b hb.1.2.2, ⟨hb.1.1, hb.1.2.1⟩, hb.2⟩, h.own, (ho _ (by omega)).trans h.eb, (ho _ (by omega)).trans h.zb, (ho _ (by omega)).trans h.qb, h.hC, h.hv, h.hS⟩
  obtain ⟨a1, a2⟩ := h.fr.2 b g1 g2
  exact ⟨(ho b (by omega)).trans a1, a2⟩
/-- .. at the end: what is made is laid into the box of the answer. -/
theorem RvSt.fin {C : Nat} {P S : Nat → Prop} {w : World} {v : Value} {wr w9 : World} {fs : List FunT} {v' : Value} {l : List PE} {vK : Value} {EB OB : Obj} (h : RvSt C P S w v wr fs v' l vK EB OB) (hb : Below C w w9) (ho : ∀ b, b ≠ w.heap.size + 1 → w9.heap[b]? = wr.heap[b]?) : InK w9 (fun b => (S b ∨ w.heap.size ≤ b) ∧ some b ≠ v'.ownBlock) l vK ∧ OutF w9 C P fs v' ∧ RfFr C w v w9 v' := by
  obtain ⟨_, _, _, hkl⟩ := h.row.slice
  refine ⟨OutE.inK (C := w.heap.size + 3) (P := fun b => ((S b ∨ w.heap.size + 3 ≤ b) ∧ P b) ∧ some b ≠ v'.ownBlock) (h.row.at (fun b e => ho b ?_) fun b hb2 hlt => ⟨ho b ?_, hb2⟩) (fun b hb2 => ⟨hb2.1.1.imp id fun g => by omega, hb2.2⟩) fun b e => ⟨.inr ?_, h.own b e⟩, h.st.at (fun b e => ho b ?_) fun b hb2 hlt => ⟨ho b (by omega), hb2.1⟩, hb, fun b h1 h3 => ?_⟩
  · have := (hkl b e).1
    omega
  · rcases hb2.1.1 with g | g
    · have := (h.hS b g).1
      omega
    · omega
  · have := (hkl b e).1
    omega
  · rcases h.hv b e with h1 | h1 <;> omega
  · obtain ⟨a1, a2⟩ := h.fr.2 b h1 h3
    exact ⟨(ho b (by omega)).trans a1, a2⟩
/-- What the document's lift answers. -/
def RLiftIs (C : Nat) (P S : Nat → Prop) (fs : List FunT) (v : Value) (w : World) (t : PE) (e : Ending) (w' : World) : Prop :=
  ∃ k nm ns ck ci cs cl l vn vd vk v', e = .returned (.tuple #[.agg #[.int .i64 k, .string nm, vn, .int .i64 ck, .int .i64 ci, .string cs, vd, vk], v']) ∧ (liftT fs t).1 = .mk k nm ns (.mk ck ci cs cl) l ∧ InF w' (fun b => (S b ∨ w.heap.size ≤ b) ∧ some b ≠ v'.ownBlock) (.mk k nm ns (.mk ck ci cs cl) l) vn vd vk ∧ OutF w' C P (liftT fs t).2 v' ∧ RfFr C w v w' v'
def RLiftOk (t : PE) : Prop := ∀ (w : World) (C : Nat) (P S : Nat → Prop) (fs : List FunT) (v vn vd vk : Value), InF w S t vn vd vk → okE t → (∀ b, S b → b < w.heap.size ∧ some b ≠ v.ownBlock ∧ P b) → OutF w C P fs v → C ≤ w.heap.size → (∀ b, w.heap.size ≤ b → P b) → fs.length + sizeE t ≤ 60000 → sizeE t ≤ 40000 →
  Calls Try.prog 21 #[t.val vn vd vk, v] w fun e w' => RLiftIs C P S fs v w t e w'
end Go.Proofs.Ytkgofgkgnchhjaa.Core
