/-
Values and things of layer 8, as plain data; rows of values in memory; a heap in memory: its things, each thing's parts in a block of their own. No condition.
-/
import Derived.Test.YtjplfgenobmbnaaDoorK0
import Derived.Deep.AppendLies
import Derived.Deep.RegionHeld3
import Derived.StillTailTactics
import Derived.IntWalk
namespace Go.Proofs.YtjplfgenobmbnaaDoor.Hp
open Go.ChangeShapes Go.WideShapes Go.ChangeAt Go.RowKit Go.Deep
open Dat (PT ok64 RepV RepS RowX infoDatum)
set_option maxRecDepth 100000

theorem infoVal : (Tryd.prog.info? 28).map (fun i => (i.zero, i.size, i.bytes)) = some (some (.agg #[.int .i64 0, .int .i64 0, .string ⟨#[]⟩]), 3, 32) := by kernel_rfl
theorem infoPiece : (Tryd.prog.info? 70).map (fun i => (i.zero, i.size, i.bytes)) = some (some (.agg #[.int .i64 0, .int .i64 0, .slice none 0 0, .map none]), 4, 48) := by kernel_rfl

/-- A value: its kind, its number, its text. -/
structure PV where
  k : Int
  i : Int
  s : ByteArray
def PV.val (v : PV) : Value := .agg #[.int .i64 v.k, .int .i64 v.i, .string v.s]
def okV (v : PV) : Prop := ok64 v.k ∧ ok64 v.i ∧ v.s.size ≤ maxLen
/-- The cells of a row of values. -/
def vCells : List PV → List Value
  | [] => []
  | v :: l => .int .i64 v.k :: .int .i64 v.i :: .string v.s :: vCells l
theorem vCells_len : ∀ l : List PV, (vCells l).length = l.length * 3
  | [] => rfl
  | v :: l => by simp only [vCells, List.length_cons]; have := vCells_len l; omega
theorem vCells_one : ∀ (l : List PV) (u : Value), u ∈ vCells l → u.oneCell' = true
  | [], u, h => by cases h
  | v :: l, u, h => by
    simp only [vCells, List.mem_cons] at h
    rcases h with rfl | rfl | rfl | h
    · rfl
    · rfl
    · rfl
    · exact vCells_one l u h
theorem vCells_append : ∀ (l m : List PV), vCells (l ++ m) = vCells l ++ vCells m
  | [], m => rfl
  | v :: l, m => by simp only [List.cons_append, vCells, vCells_append l m]
theorem vCells_get : ∀ (l : List PV) (j : Nat) (h : j < l.length), (vCells l)[j * 3]? = some (.int .i64 l[j].k) ∧ (vCells l)[j * 3 + 1]? = some (.int .i64 l[j].i) ∧ (vCells l)[j * 3 + 2]? = some (.string l[j].s)
  | v :: l, 0, _ => ⟨rfl, rfl, rfl⟩
  | v :: l, j + 1, h => by
    have := vCells_get l j (by simpa using h)
    simp only [vCells, List.getElem_cons_succ]
    rw [show (j + 1) * 3 = j * 3 + 1 + 1 + 1 by omega]
    simp only [List.getElem?_cons_succ]
    exact ⟨this.1, by simpa using this.2.1, by simpa using this.2.2⟩

/-- A row of values lies from ⟨b, o⟩ on. -/
def VAt (w : World) (l : List PV) (b o : Nat) : Prop := (∀ j u, (vCells l)[j]? = some u → w.cell? ⟨b, o + j, none⟩ = some u) ∧ ∀ v ∈ l, okV v
theorem VAt.item {w : World} {l : List PV} {b o : Nat} (h : VAt w l b o) (j : Nat) (hj : j < l.length) :
    w.cell? ⟨b, o + j * 3, none⟩ = some (.int .i64 l[j].k) ∧ w.cell? ⟨b, o + j * 3 + 1, none⟩ = some (.int .i64 l[j].i) ∧ w.cell? ⟨b, o + j * 3 + 2, none⟩ = some (.string l[j].s) ∧ okV l[j] := by
  have g := vCells_get l j hj
  exact ⟨h.1 _ _ g.1, by rw [Nat.add_assoc]; exact h.1 _ _ g.2.1, by rw [Nat.add_assoc]; exact h.1 _ _ g.2.2, h.2 _ (List.getElem_mem hj)⟩
theorem VAt.move {w w' : World} {l : List PV} {b o : Nat} (h : VAt w l b o) (hc : w'.heap[b]? = w.heap[b]?) : VAt w' l b o :=
  ⟨fun j u hu => (World.cell?_of_block (w := w) (a := ⟨b, o + j, none⟩) hc).trans (h.1 j u hu), h.2⟩
theorem VAt.lt {w : World} {l : List PV} {b o : Nat} (h : VAt w l b o) (h0 : l ≠ []) : b < w.heap.size := by
  have hp := List.length_pos_iff.2 h0
  exact World.block_lt_of_cell? _ _ (h.item 0 hp).1

/-- A slice's value leads to the row of values, in a block of S. -/
def InP (w : World) (S : Nat → Prop) (l : List PV) (v : Value) : Prop :=
  ∃ a c, v = .slice a l.length c ∧ l.length ≤ c ∧ c ≤ maxLen ∧ (a = none → c = 0) ∧ (l = [] ∨ ∃ b o, a = some ⟨b, o, none⟩ ∧ S b ∧ VAt w l b o)
theorem InP.move {w w' : World} {S S' : Nat → Prop} {l : List PV} {v : Value} (h : InP w S l v) (hS : ∀ b, S b → b < w.heap.size → S' b ∧ w'.heap[b]? = w.heap[b]?) : InP w' S' l v := by
  obtain ⟨a, c, e, h1, h2, h3, h4⟩ := h
  refine ⟨a, c, e, h1, h2, h3, ?_⟩
  by_cases h0 : l = []
  · exact .inl h0
  · obtain ⟨b, o, e, hs, hv⟩ := h4.resolve_left h0
    have := hS b hs (hv.lt h0)
    exact .inr ⟨b, o, e, this.1, hv.move this.2⟩

/-- A thing's parts lie in the block g (or there are none). -/
def PartsM (w : World) (l : List PV) (g : Nat) (v : Value) : Prop :=
  (l = [] ∧ ∃ a c, v = .slice a 0 c ∧ c ≤ maxLen ∧ (a = none → c = 0)) ∨
  (l ≠ [] ∧ (∀ v ∈ l, okV v) ∧ ∃ cap cur, v = .slice (some ⟨g, 0, none⟩) l.length cap ∧ l.length ≤ cap ∧ cap ≤ maxLen ∧ w.heap[g]? = some (.cells cur 28 (0, 0)) ∧ cur.size = cap * 3 ∧ cur.toList.take (l.length * 3) = vCells l)
theorem PartsM.move {w w' : World} {l : List PV} {g : Nat} {v : Value} (h : PartsM w l g v) (hc : l ≠ [] → w'.heap[g]? = w.heap[g]?) : PartsM w' l g v := by
  rcases h with h | ⟨h0, ho, cap, cur, e, h1, h2, h3, h4, h5⟩
  · exact .inl h
  · exact .inr ⟨h0, ho, cap, cur, e, h1, h2, (hc h0).trans h3, h4, h5⟩
theorem take_get {xs ys : List Value} {n j : Nat} {u : Value} (h : xs.take n = ys) (hu : ys[j]? = some u) : xs[j]? = some u := by
  subst h
  rw [List.getElem?_take] at hu
  split at hu
  · exact hu
  · cases hu
theorem PartsM.at {w : World} {l : List PV} {g : Nat} {v : Value} (h : PartsM w l g v) (h0 : l ≠ []) : VAt w l g 0 := by
  rcases h with h | ⟨_, ho, cap, cur, e, h1, h2, h3, h4, h5⟩
  · exact absurd h.1 h0
  · refine ⟨fun j u hu => ?_, ho⟩
    rw [Lib.cell_of_heap h3, Nat.zero_add]
    have := take_get h5 hu
    simpa using this
theorem PartsM.inP {w : World} {l : List PV} {g : Nat} {v : Value} (h : PartsM w l g v) : InP w (· = g) l v := by
  have h' := h
  rcases h with ⟨rfl, a, c, e, h1, h2⟩ | ⟨h0, ho, cap, cur, e, h1, h2, h3, h4, h5⟩
  · exact ⟨a, c, e, Nat.zero_le _, h1, h2, .inl rfl⟩
  · exact ⟨_, cap, e, h1, h2, (fun h => by cases h), .inr ⟨g, 0, rfl, rfl, h'.at h0⟩⟩

/-- A thing's four cells: its kind, how many parts it has, the slice of its parts, and no other parts. -/
def PieceAt (xs : List Value) (j : Nat) (t : Int × List PV) (v : Value) : Prop :=
  xs[j * 4]? = some (.int .i64 t.1) ∧ xs[j * 4 + 1]? = some (.int .i64 (t.2.length : Int)) ∧ xs[j * 4 + 2]? = some v ∧ xs[j * 4 + 3]? = some (.map none)
/-- A heap at the block hb: its things are T, each with all its parts in a row of its own; all that belongs to it lies in blocks of F. -/
def HeapM (w : World) (hb : Nat) (T : List (Int × List PV)) (F : Nat → Prop) : Prop :=
  ∃ (sv : Value) (xs : List Value) (g : Nat → Nat) (pv : Nat → Value), w.heap[hb]? = some (.cells #[sv] 43 (0, 0)) ∧ F hb ∧
    w.ownsRow 0 70 4 sv T.length xs ∧ (∀ b, sv.ownBlock = some b → F b) ∧
    (∀ j (h : j < T.length), PieceAt xs j T[j] (pv j) ∧ ok64 T[j].1 ∧ PartsM w T[j].2 (g j) (pv j) ∧ (T[j].2 ≠ [] → F (g j)) ∧
      ∀ k (hk : k < T.length), j ≠ k → T[j].2 ≠ [] → T[k].2 ≠ [] → g j ≠ g k)

/-- What is in no block of F is as it was. -/
def KpF (F : Nat → Prop) (w w' : World) : Prop := Below 0 w w' ∧ ∀ b, b < w.heap.size → ¬ F b → w'.heap[b]? = w.heap[b]?
theorem KpF.refl (F : Nat → Prop) (w : World) : KpF F w w := ⟨Below.refl _ _, fun _ _ _ => rfl⟩
theorem KpF.of_below {F : Nat → Prop} {w w' : World} (h : Below w.heap.size w w') : KpF F w w' := ⟨h.mono (Nat.zero_le _), fun b hb _ => h.block b hb⟩
/-- A step from w with the blocks F to w' with the blocks F': new blocks may come to F. -/
def Stp (F : Nat → Prop) (w : World) (F' : Nat → Prop) (w' : World) : Prop := KpF F w w' ∧ ∀ b, F' b → F b ∨ w.heap.size ≤ b
theorem Stp.refl (F : Nat → Prop) (w : World) : Stp F w F w := ⟨KpF.refl _ _, fun _ h => .inl h⟩
theorem Stp.of_below {F : Nat → Prop} {w w' : World} (h : Below w.heap.size w w') : Stp F w F w' := ⟨KpF.of_below h, fun _ h => .inl h⟩
theorem Stp.trans {F F' F'' : Nat → Prop} {w w' w'' : World} (h : Stp F w F' w') (k : Stp F' w' F'' w'') : Stp F w F'' w'' := by
  refine ⟨⟨h.1.1.trans k.1.1, fun b hb hF => ?_⟩, fun b hb => ?_⟩
  · rw [k.1.2 b (Nat.lt_of_lt_of_le hb h.1.1.size) (fun e => by rcases h.2 b e with e | e; exact hF e; omega)]
    exact h.1.2 b hb hF
  · rcases k.2 b hb with e | e
    · exact h.2 b e
    · exact .inr (Nat.le_trans h.1.1.size e)
theorem Stp.below {F F' : Nat → Prop} {w w' : World} {C : Nat} (h : Stp F w F' w') (hF : ∀ b, F b → C ≤ b) (hC : C ≤ w.heap.size) : Below C w w' :=
  ⟨h.1.1.os, h.1.1.tape, h.1.1.output, h.1.1.size, fun b hb => h.1.2 b (by omega) (fun e => by have := hF b e; omega)⟩
theorem Stp.from {F F' : Nat → Prop} {w w' : World} {C : Nat} (h : Stp F w F' w') (hF : ∀ b, F b → C ≤ b) (hC : C ≤ w.heap.size) : ∀ b, F' b → C ≤ b := fun b hb => by
  rcases h.2 b hb with e | e
  · exact hF b e
  · omega
theorem Stp.inP {F F' : Nat → Prop} {w w' : World} {S : Nat → Prop} {l : List PV} {v : Value} (h : Stp F w F' w') (hp : InP w S l v) (hS : ∀ b, S b → ¬ F b) : InP w' S l v :=
  hp.move fun b hb hlt => ⟨hb, h.1.2 b hlt (hS b hb)⟩

theorem HeapM.move {w w' : World} {hb : Nat} {T : List (Int × List PV)} {F F' : Nat → Prop} (h : HeapM w hb T F) (hc : ∀ b, F b → b < w.heap.size → w'.heap[b]? = w.heap[b]?) (hF : ∀ b, F b → F' b) : HeapM w' hb T F' := by
  obtain ⟨sv, xs, g, pv, h1, h2, h3, h4, h5⟩ := h
  have mv : ∀ {b : Nat} {o : Obj}, F b → w.heap[b]? = some o → w'.heap[b]? = some o := fun hf ho => (hc _ hf (lt_of_block ho)).trans ho
  refine ⟨sv, xs, g, pv, mv h2 h1, hF _ h2, ⟨h3.1, h3.2.imp id ?_⟩, fun b hb => hF _ (h4 b hb), fun j hj => ?_⟩
  · rintro ⟨t, cap, cur, e, a1, a2, a3⟩
    exact ⟨t, cap, cur, e, a1, mv (h4 t (by rw [e]; rfl)) a2, a3⟩
  · obtain ⟨a1, a3, a4, a5, a6⟩ := h5 j hj
    refine ⟨a1, a3, ?_, fun h => hF _ (a5 h), a6⟩
    rcases a4 with a4 | ⟨h0, ho, cap, cur, e, b1, b2, b3, b4, b5⟩
    · exact .inl a4
    · exact .inr ⟨h0, ho, cap, cur, e, b1, b2, mv (a5 h0) b3, b4, b5⟩
theorem HeapM.below {w w' : World} {hb : Nat} {T : List (Int × List PV)} {F : Nat → Prop} (h : HeapM w hb T F) (hb' : Below w.heap.size w w') : HeapM w' hb T F :=
  h.move (fun b _ hlt => hb'.block b hlt) fun _ h => h
theorem HeapM.lt {w : World} {hb : Nat} {T : List (Int × List PV)} {F : Nat → Prop} (h : HeapM w hb T F) : hb < w.heap.size := by
  obtain ⟨sv, xs, g, pv, h1, _⟩ := h
  exact lt_of_block h1
theorem take_at {xs : List Value} {cur : Array Value} {n j : Nat} {u : Value} (h : cur.toList.take n = xs) (hu : xs[j]? = some u) : cur[j]? = some u := by
  have := take_get h hu
  simpa using this
/-- One of the things. -/
theorem HeapM.thing {w : World} {hb : Nat} {T : List (Int × List PV)} {F : Nat → Prop} (h : HeapM w hb T F) (j : Nat) (hj : j < T.length) :
    ∃ tb cap g pv, w.cell? ⟨hb, 0, none⟩ = some (.slice (some ⟨tb, 0, none⟩) T.length cap) ∧ T.length ≤ cap ∧ cap ≤ maxLen ∧ w.cell? ⟨tb, j * 4, none⟩ = some (.int .i64 T[j].1) ∧ w.cell? ⟨tb, j * 4 + 1, none⟩ = some (.int .i64 (T[j].2.length : Int)) ∧ w.cell? ⟨tb, j * 4 + 2, none⟩ = some pv ∧ w.cell? ⟨tb, j * 4 + 3, none⟩ = some (.map none) ∧ ok64 T[j].1 ∧ PartsM w T[j].2 g pv ∧ F tb ∧ (T[j].2 ≠ [] → F g) := by
  obtain ⟨sv, xs, g, pv, h1, h2, h3, h4, h5⟩ := h
  obtain ⟨⟨a1, a2, a7, a8⟩, a3, a4, a5, a6⟩ := h5 j hj
  rcases h3.2 with ⟨_, h0⟩ | ⟨tb, cap, cur, rfl, b1, b2, b3, b4, b5, b6⟩
  · omega
  · refine ⟨tb, cap, g j, pv j, by rw [Lib.cell_of_heap h1]; rfl, b3, b4, ?_, ?_, ?_, ?_, a3, a4, h4 tb rfl, a5⟩
    · rw [Lib.cell_of_heap b2]; exact take_at b6 a1
    · rw [Lib.cell_of_heap b2]; exact take_at b6 a2
    · rw [Lib.cell_of_heap b2]; exact take_at b6 a7
    · rw [Lib.cell_of_heap b2]; exact take_at b6 a8
/-- How many there are. -/
theorem HeapM.len {w : World} {hb : Nat} {T : List (Int × List PV)} {F : Nat → Prop} (h : HeapM w hb T F) : ∃ a c, w.cell? ⟨hb, 0, none⟩ = some (.slice a T.length c) ∧ T.length ≤ maxLen := by
  obtain ⟨sv, xs, g, pv, h1, h2, h3, h4, h5⟩ := h
  rcases h3.2 with ⟨rfl, h0⟩ | ⟨tb, cap, cur, rfl, b1, b2, b3, b4, b5, b6⟩
  · exact ⟨none, 0, by rw [Lib.cell_of_heap h1, h0]; rfl, by rw [h0]; exact Nat.zero_le _⟩
  · exact ⟨_, cap, by rw [Lib.cell_of_heap h1]; rfl, by omega⟩
end Go.Proofs.YtjplfgenobmbnaaDoor.Hp
