/-
Values and things of layer 8, as plain data; rows of values in memory; a heap in memory: its things, each thing's parts in a block of their own. No condition.
-/
import Derived.Test.YtlolkhnaaelelaaDoorK0
import Derived.Deep.AppendLies
import Derived.Deep.RegionHeld3
import Derived.StillTailTactics
import Derived.IntWalk
import Derived.Maps.OwnSet
namespace Go.Proofs.YtlolkhnaaelelaaDoor.Hp
open Go.ChangeShapes Go.WideShapes Go.ChangeAt Go.RowKit Go.Deep
open Dat (PT ok64 RepV RepS RowX infoDatum)
set_option maxRecDepth 100000

theorem infoVal : (Tryd.prog.info? 36).map (fun i => (i.zero, i.size, i.bytes)) = some (some (.agg #[.int .i64 0, .int .i64 0, .string ⟨#[]⟩]), 3, 32) := by kernel_rfl
theorem infoPiece : (Tryd.prog.info? 83).map (fun i => (i.zero, i.size, i.bytes)) = some (some (.agg #[.int .i64 0, .int .i64 0, .slice none 0 0, .map none]), 4, 48) := by kernel_rfl

/-- A value: its kind, its number, its text. -/
structure PV where
  k : Int
  i : Int
  s : ByteArray
def PV.val (v : PV) : Value := .agg #[.int .i64 v.k, .int .i64 v.i, .string v.s]
def okV (v : PV) : Prop := ok64 v.k ∧ ok64 v.i ∧ v.s.size ≤ maxLen
/-- The cells of a row of values. -/
def vCells : List PV → List Value
  | [] => []
  | v :: l => .int .i64 v.k :: .int .i64 v.i :: .string v.s :: vCells l
theorem vCells_len : ∀ l : List PV, (vCells l).length = l.length * 3
  | [] => rfl
  | v :: l => by simp only [vCells, List.length_cons]; have := vCells_len l; omega
theorem vCells_one : ∀ (l : List PV) (u : Value), u ∈ vCells l → u.oneCell' = true
  | [], u, h => by cases h
  | v :: l, u, h => by
    simp only [vCells, List.mem_cons] at h
    rcases h with rfl | rfl | rfl | h
    · rfl
    · rfl
    · rfl
    · exact vCells_one l u h
theorem vCells_append : ∀ (l m : List PV), vCells (l ++ m) = vCells l ++ vCells m
  | [], m => rfl
  | v :: l, m => by simp only [List.cons_append, vCells, vCells_append l m]
theorem vCells_get : ∀ (l : List PV) (j : Nat) (h : j < l.length), (vCells l)[j * 3]? = some (.int .i64 l[j].k) ∧ (vCells l)[j * 3 + 1]? = some (.int .i64 l[j].i) ∧ (vCells l)[j * 3 + 2]? = some (.string l[j].s)
  | v :: l, 0, _ => ⟨rfl, rfl, rfl⟩
  | v :: l, j + 1, h => by
    have := vCells_get l j (by simpa using h)
    simp only [vCells, List.getElem_cons_succ]
    rw [show (j + 1) * 3 = j * 3 + 1 + 1 + 1 by omega]
    simp only [List.getElem?_cons_succ]
    exact ⟨this.1, by simpa using this.2.1, by simpa using this.2.2⟩

/-- A row of values lies from ⟨b, o⟩ on. -/
def VAt (w : World) (l : List PV) (b o : Nat) : Prop := (∀ j u, (vCells l)[j]? = some u → w.cell? ⟨b, o + j, none⟩ = some u) ∧ ∀ v ∈ l, okV v
theorem VAt.item {w : World} {l : List PV} {b o : Nat} (h : VAt w l b o) (j : Nat) (hj : j < l.length) :
    w.cell? ⟨b, o + j * 3, none⟩ = some (.int .i64 l[j].k) ∧ w.cell? ⟨b, o + j * 3 + 1, none⟩ = some (.int .i64 l[j].i) ∧ w.cell? ⟨b, o + j * 3 + 2, none⟩ = some (.string l[j].s) ∧ okV l[j] := by
  have g := vCells_get l j hj
  exact ⟨h.1 _ _ g.1, by rw [Nat.add_assoc]; exact h.1 _ _ g.2.1, by rw [Nat.add_assoc]; exact h.1 _ _ g.2.2, h.2 _ (List.getElem_mem hj)⟩
theorem VAt.move {w w' : World} {l : List PV} {b o : Nat} (h : VAt w l b o) (hc : w'.heap[b]? = w.heap[b]?) : VAt w' l b o :=
  ⟨fun j u hu => (World.cell?_of_block (w := w) (a := ⟨b, o + j, none⟩) hc).trans (h.1 j u hu), h.2⟩
theorem VAt.lt {w : World} {l : List PV} {b o : Nat} (h : VAt w l b o) (h0 : l ≠ []) : b < w.heap.size := by
  have hp := List.length_pos_iff.2 h0
  exact World.block_lt_of_cell? _ _ (h.item 0 hp).1

/-- A slice's value leads to the row of values, in a block of S. -/
def InP (w : World) (S : Nat → Prop) (l : List PV) (v : Value) : Prop :=
  ∃ a c, v = .slice a l.length c ∧ l.length ≤ c ∧ c ≤ maxLen ∧ (a = none → c = 0) ∧ (l = [] ∨ ∃ b o, a = some ⟨b, o, none⟩ ∧ S b ∧ VAt w l b o)
theorem InP.move {w w' : World} {S S' : Nat → Prop} {l : List PV} {v : Value} (h : InP w S l v) (hS : ∀ b, S b → b < w.heap.size → S' b ∧ w'.heap[b]? = w.heap[b]?) : InP w' S' l v := by
  obtain ⟨a, c, e, h1, h2, h3, h4⟩ := h
  refine ⟨a, c, e, h1, h2, h3, ?_⟩
  by_cases h0 : l = []
  · exact .inl h0
  · obtain ⟨b, o, e, hs, hv⟩ := h4.resolve_left h0
    have := hS b hs (hv.lt h0)
    exact .inr ⟨b, o, e, this.1, hv.move this.2⟩

/-- A thing's parts lie in the block g (or there are none). -/
def PartsM (w : World) (l : List PV) (g : Nat) (v : Value) : Prop :=
  (l = [] ∧ ∃ a c, v = .slice a 0 c ∧ c ≤ maxLen ∧ (a = none → c = 0)) ∨
  (l ≠ [] ∧ (∀ v ∈ l, okV v) ∧ ∃ cap cur, v = .slice (some ⟨g, 0, none⟩) l.length cap ∧ l.length ≤ cap ∧ cap ≤ maxLen ∧ w.heap[g]? = some (.cells cur 36 (0, 0)) ∧ cur.size = cap * 3 ∧ cur.toList.take (l.length * 3) = vCells l)
theorem PartsM.move {w w' : World} {l : List PV} {g : Nat} {v : Value} (h : PartsM w l g v) (hc : l ≠ [] → w'.heap[g]? = w.heap[g]?) : PartsM w' l g v := by
  rcases h with h | ⟨h0, ho, cap, cur, e, h1, h2, h3, h4, h5⟩
  · exact .inl h
  · exact .inr ⟨h0, ho, cap, cur, e, h1, h2, (hc h0).trans h3, h4, h5⟩
theorem take_get {xs ys : List Value} {n j : Nat} {u : Value} (h : xs.take n = ys) (hu : ys[j]? = some u) : xs[j]? = some u := by
  subst h
  rw [List.getElem?_take] at hu
  split at hu
  · exact hu
  · cases hu
theorem PartsM.at {w : World} {l : List PV} {g : Nat} {v : Value} (h : PartsM w l g v) (h0 : l ≠ []) : VAt w l g 0 := by
  rcases h with h | ⟨_, ho, cap, cur, e, h1, h2, h3, h4, h5⟩
  · exact absurd h.1 h0
  · refine ⟨fun j u hu => ?_, ho⟩
    rw [Lib.cell_of_heap h3, Nat.zero_add]
    have := take_get h5 hu
    simpa using this
theorem PartsM.inP {w : World} {l : List PV} {g : Nat} {v : Value} (h : PartsM w l g v) : InP w (· = g) l v := by
  have h' := h
  rcases h with ⟨rfl, a, c, e, h1, h2⟩ | ⟨h0, ho, cap, cur, e, h1, h2, h3, h4, h5⟩
  · exact ⟨a, c, e, Nat.zero_le _, h1, h2, .inl rfl⟩
  · exact ⟨_, cap, e, h1, h2, (fun h => by cases h), .inr ⟨g, 0, rfl, rfl, h'.at h0⟩⟩

/-! ### a map of a thing's own: the parts that were put -/
/-- Each element reads as itself. -/
def RV (v : Value) : Option (DataW Value × List MemPlace) := some (.held v, [])
def zP : PV := ⟨0, 0, ⟨#[]⟩⟩
theorem lawI : Go.Maps.Keyed Tryd.prog 3 := Go.Maps.int_keyed Tryd.underlying3
theorem ok_small {i : Nat} (h : i < 1000) : ok64 (i : Int) := ⟨by omega, by omega⟩
theorem key_i {i : Nat} (h : i < 1000) : keyOf Tryd.prog 3 (.int .i64 i) = some (.int .i64 i) := Go.Maps.keyOf_int_mk Tryd.underlying3 (WalkArith.wf_i64 (ok_small h))
theorem zeroP (w : World) : (zeroValue 36).run Tryd.prog w = .ok zP.val w := by kernel_rfl
/-- How many places have a part that was put there. -/
def cntM (L : Nat) (m : Nat → Option PV) : Nat := (List.range L).countP (fun i => (m i).isSome)
def setN (m : Nat → Option PV) (a : Nat) (u : PV) : Nat → Option PV := fun i => if i = a then some u else m i
theorem cnt_other (m : Nat → Option PV) (a : Nat) (u : PV) : ∀ L, L ≤ a → cntM L (setN m a u) = cntM L m := fun L h => by
  unfold cntM
  refine List.countP_congr fun i hi => ?_
  have := List.mem_range.1 hi
  rw [show setN m a u i = m i from if_neg (by omega)]
theorem cnt_set (m : Nat → Option PV) (a : Nat) (u : PV) : ∀ L, a < L → cntM L (setN m a u) = if (m a).isSome then cntM L m else cntM L m + 1
  | 0, h => by omega
  | L + 1, h => by
    have e : ∀ f : Nat → Option PV, cntM (L + 1) f = cntM L f + if (f L).isSome then 1 else 0 := fun f => by
      unfold cntM
      rw [List.range_succ, List.countP_append]
      simp [List.countP_cons]
    rw [e, e]
    by_cases hl : a = L
    · subst hl
      rw [cnt_other m a u a (Nat.le_refl _), show setN m a u a = some u from if_pos rfl]
      cases m a <;> simp
    · rw [cnt_set m a u L (by omega), show setN m a u L = m L from if_neg (by omega)]
      cases m a <;> simp <;> omega
theorem cnt_le (L : Nat) (m : Nat → Option PV) : cntM L m ≤ L := by
  have := List.countP_le_length (p := fun i => (m i).isSome) (l := List.range L)
  rw [List.length_range] at this
  exact this
/-- The map in block b holds just what m says of the first L places. -/
def MapP (w : World) (b L : Nat) (m : Nat → Option PV) : Prop := ∃ D : DataW Value, w.ownsMap Tryd.prog 3 RV b L D ∧ Go.Maps.size D = cntM L m ∧ ∀ i : Nat, i < L → D.atKey (.int .i64 i) (.held zP.val) = .held ((m i).getD zP).val ∧ Go.Maps.has D (.int .i64 i) = (m i).isSome
theorem MapP.made (w : World) (L : Nat) : MapP (w.alloc (.map #[] 0)) w.heap.size L (fun _ => none) :=
  ⟨_, (World.ownsMap_made _ _ _ _).mono (Nat.zero_le _), by simp [cntM, Go.Maps.size], fun _ _ => ⟨rfl, rfl⟩⟩
theorem MapP.at {w w' : World} {b L : Nat} {m : Nat → Option PV} (h : MapP w b L m) (hb : w'.heap[b]? = w.heap[b]?) : MapP w' b L m := by
  obtain ⟨D, ⟨es, clock, h1, h2⟩, h3⟩ := h
  exact ⟨D, ⟨es, clock, hb.trans h1, h2⟩, h3⟩
theorem MapP.obj {w : World} {b L : Nat} {m : Nat → Option PV} (h : MapP w b L m) : ∃ es c, w.heap[b]? = some (.map es c) := by
  obtain ⟨D, ⟨es, clock, h1, h2⟩, h3⟩ := h
  exact ⟨es, clock, h1⟩
theorem MapP.look {w : World} {b L : Nat} {m : Nat → Option PV} (h : MapP w b L m) (i : Nat) (hi : i < L) (hL : L ≤ 1000) :
    (Instr.lookup 81 (.map (some b)) (.int .i64 i) true).run Tryd.prog w = .ok (.tuple #[((m i).getD zP).val, .bool (m i).isSome]) w := by
  obtain ⟨D, h1, _, h2⟩ := h
  obtain ⟨v, ps, hrun, hv⟩ := h1.look_ok lawI Tryd.underlying81 (zeroP w) (zd := .held zP.val) (zp := []) rfl (key_i (show i < 1000 by omega))
  rw [(h2 i hi).1] at hv
  unfold RV at hv
  simp only [Option.some.injEq, Prod.mk.injEq, DataW.held.injEq] at hv
  rw [hrun, hv.1, (h2 i hi).2]
theorem MapP.store {w : World} {b L : Nat} {m : Nat → Option PV} (h : MapP w b L m) (hL : L ≤ 1000) (a : Nat) (ha : a < L) (u : PV) :
    ∃ w', (Instr.mapUpdate 81 (.map (some b)) (.int .i64 a) u.val).run Tryd.prog w = .ok () w' ∧ MapP w' b L (setN m a u) ∧ w.mapTurned w' b := by
  obtain ⟨D, h1, hc, h2⟩ := h
  obtain ⟨w', hrun, h3, h4⟩ := h1.store lawI Tryd.underlying81 (by unfold maxLen; omega) (key_i (show a < 1000 by omega)) (val := u.val) (d := .held u.val) (ps := []) rfl
  have hk : WideAt.IsKeyLit (.int .i64 (a : Int)) := trivial
  have hs : Go.Maps.size (D.put (.int .i64 a) (.held u.val)) = cntM L (setN m a u) := by
    rw [Go.Maps.size_put (h1.tidy lawI), (h2 a ha).2, hc, cnt_set m a u L ha]
  refine ⟨w', hrun, ⟨_, ?_, hs, fun i hi => ?_⟩, h4⟩
  · obtain ⟨es, clock, q1, q2, q3, q4⟩ := h3
    refine ⟨es, clock, q1, q2, ?_, q4⟩
    have hle := cnt_le L (setN m a u)
    rw [← hs, q4] at hle
    simpa [Go.Maps.size, length_sorted] using hle
  · by_cases e : i = a
    · subst e
      rw [Go.Maps.atKey_put_same h1.isMap hk, Go.Maps.has_put_same h1.isMap hk]
      simp [setN]
    · have hne : (Lit.int .i64 (i : Int)) ≠ .int .i64 (a : Int) := by
        intro h
        simp only [Lit.int.injEq] at h
        exact e (by omega)
      rw [Go.Maps.atKey_put_other hne, Go.Maps.has_put_other hne]
      simpa [setN, e] using h2 i hi

/-- A thing's four cells: its kind, how many parts it has, the slice of its first parts, the map of what was put. -/
def PieceAt (xs : List Value) (j : Nat) (t : Int × List PV) (v mv : Value) : Prop :=
  xs[j * 4]? = some (.int .i64 t.1) ∧ xs[j * 4 + 1]? = some (.int .i64 (t.2.length : Int)) ∧ xs[j * 4 + 2]? = some v ∧ xs[j * 4 + 3]? = some mv
/-- What a thing's parts are: all in a row of its own; or there are none; or one stands for all but for what was put. -/
def Piece (w : World) (t : Int × List PV) (g : Nat) (v mv : Value) : Prop :=
  (mv = .map none ∧ PartsM w t.2 g v) ∨
  (mv = .map none ∧ t.2 = [] ∧ ∃ a n c, v = .slice a n c) ∨
  (t.1 ≠ 0 ∧ 2 ≤ t.2.length ∧ t.2.length ≤ 1000 ∧ (∀ v ∈ t.2, okV v) ∧ ∃ p, PartsM w [p] g v ∧ ((mv = .map none ∧ t.2 = List.replicate t.2.length p) ∨
    ∃ b m, mv = .map (some b) ∧ MapP w b t.2.length m ∧ ∀ i (h : i < t.2.length), t.2[i] = (m i).getD p))
theorem Piece.move {w w' : World} {t : Int × List PV} {g : Nat} {v mv : Value} (h : Piece w t g v mv) (hc : t.2 ≠ [] → w'.heap[g]? = w.heap[g]?) (hm : ∀ b, mv = .map (some b) → w'.heap[b]? = w.heap[b]?) : Piece w' t g v mv := by
  rcases h with ⟨h1, h2⟩ | h | ⟨h0, h1, h2, h3, p, h4, h5⟩
  · exact .inl ⟨h1, h2.move hc⟩
  · exact .inr (.inl h)
  · refine .inr (.inr ⟨h0, h1, h2, h3, p, h4.move fun _ => hc (fun e => by rw [e] at h1; simp at h1), ?_⟩)
    rcases h5 with h5 | ⟨b, m, e, h6, h7⟩
    · exact .inl h5
    · exact .inr ⟨b, m, e, h6.at (hm b e), h7⟩
theorem PartsM.cells {w : World} {l : List PV} {g : Nat} {v : Value} (h : PartsM w l g v) (h0 : l ≠ []) : ∃ cur, w.heap[g]? = some (.cells cur 36 (0, 0)) := by
  rcases h with h | ⟨_, _, cp, cur, _, _, _, c3, _⟩
  · exact absurd h.1 h0
  · exact ⟨cur, c3⟩
theorem Piece.cells {w : World} {t : Int × List PV} {g : Nat} {v mv : Value} (h : Piece w t g v mv) (h0 : t.2 ≠ []) : ∃ cur, w.heap[g]? = some (.cells cur 36 (0, 0)) := by
  rcases h with ⟨_, h2⟩ | ⟨_, h, _⟩ | ⟨_, _, _, _, p, h4, _⟩
  · exact h2.cells h0
  · exact absurd h h0
  · exact h4.cells (by simp)
theorem Piece.obj {w : World} {t : Int × List PV} {g b : Nat} {v mv : Value} (h : Piece w t g v mv) (h0 : mv = .map (some b)) : ∃ es c, w.heap[b]? = some (.map es c) := by
  rcases h with ⟨e, _⟩ | ⟨e, _⟩ | ⟨_, _, _, _, p, _, ⟨e, _⟩ | ⟨b', m, e, h6, _⟩⟩
  · rw [e] at h0; cases h0
  · rw [e] at h0; cases h0
  · rw [e] at h0; cases h0
  · rw [e] at h0; cases h0; exact h6.obj
/-- A heap at the block hb: its things are T; all that belongs to it lies in blocks of F. -/
def HeapM (w : World) (hb : Nat) (T : List (Int × List PV)) (F : Nat → Prop) : Prop :=
  ∃ (sv : Value) (xs : List Value) (g : Nat → Nat) (pv mv : Nat → Value), w.heap[hb]? = some (.cells #[sv] 59 (0, 0)) ∧ F hb ∧
    w.ownsRow 0 83 4 sv T.length xs ∧ (∀ b, sv.ownBlock = some b → F b) ∧
    (∀ j (h : j < T.length), PieceAt xs j T[j] (pv j) (mv j) ∧ ok64 T[j].1 ∧ Piece w T[j] (g j) (pv j) (mv j) ∧ (T[j].2 ≠ [] → F (g j)) ∧ (∀ b, mv j = .map (some b) → F b) ∧
      ∀ k (hk : k < T.length), j ≠ k → (T[j].2 ≠ [] → T[k].2 ≠ [] → g j ≠ g k) ∧ (mv j = mv k → mv j = .map none))

/-- What is in no block of F is as it was. -/
def KpF (F : Nat → Prop) (w w' : World) : Prop := Below 0 w w' ∧ ∀ b, b < w.heap.size → ¬ F b → w'.heap[b]? = w.heap[b]?
theorem KpF.refl (F : Nat → Prop) (w : World) : KpF F w w := ⟨Below.refl _ _, fun _ _ _ => rfl⟩
theorem KpF.of_below {F : Nat → Prop} {w w' : World} (h : Below w.heap.size w w') : KpF F w w' := ⟨h.mono (Nat.zero_le _), fun b hb _ => h.block b hb⟩
/-- A step from w with the blocks F to w' with the blocks F': new blocks may come to F. -/
def Stp (F : Nat → Prop) (w : World) (F' : Nat → Prop) (w' : World) : Prop := KpF F w w' ∧ ∀ b, F' b → F b ∨ w.heap.size ≤ b
theorem Stp.refl (F : Nat → Prop) (w : World) : Stp F w F w := ⟨KpF.refl _ _, fun _ h => .inl h⟩
theorem Stp.of_below {F : Nat → Prop} {w w' : World} (h : Below w.heap.size w w') : Stp F w F w' := ⟨KpF.of_below h, fun _ h => .inl h⟩
theorem Stp.trans {F F' F'' : Nat → Prop} {w w' w'' : World} (h : Stp F w F' w') (k : Stp F' w' F'' w'') : Stp F w F'' w'' := by
  refine ⟨⟨h.1.1.trans k.1.1, fun b hb hF => ?_⟩, fun b hb => ?_⟩
  · rw [k.1.2 b (Nat.lt_of_lt_of_le hb h.1.1.size) (fun e => by rcases h.2 b e with e | e; exact hF e; omega)]
    exact h.1.2 b hb hF
  · rcases k.2 b hb with e | e
    · exact h.2 b e
    · exact .inr (Nat.le_trans h.1.1.size e)
theorem Stp.below {F F' : Nat → Prop} {w w' : World} {C : Nat} (h : Stp F w F' w') (hF : ∀ b, F b → C ≤ b) (hC : C ≤ w.heap.size) : Below C w w' :=
  ⟨h.1.1.os, h.1.1.tape, h.1.1.output, h.1.1.size, fun b hb => h.1.2 b (by omega) (fun e => by have := hF b e; omega)⟩
theorem Stp.from {F F' : Nat → Prop} {w w' : World} {C : Nat} (h : Stp F w F' w') (hF : ∀ b, F b → C ≤ b) (hC : C ≤ w.heap.size) : ∀ b, F' b → C ≤ b := fun b hb => by
  rcases h.2 b hb with e | e
  · exact hF b e
  · omega
theorem Stp.inP {F F' : Nat → Prop} {w w' : World} {S : Nat → Prop} {l : List PV} {v : Value} (h : Stp F w F' w') (hp : InP w S l v) (hS : ∀ b, S b → ¬ F b) : InP w' S l v :=
  hp.move fun b hb hlt => ⟨hb, h.1.2 b hlt (hS b hb)⟩

theorem HeapM.move {w w' : World} {hb : Nat} {T : List (Int × List PV)} {F F' : Nat → Prop} (h : HeapM w hb T F) (hc : ∀ b, F b → b < w.heap.size → w'.heap[b]? = w.heap[b]?) (hF : ∀ b, F b → F' b) : HeapM w' hb T F' := by
  obtain ⟨sv, xs, g, pv, mv, h1, h2, h3, h4, h5⟩ := h
  have tr : ∀ {b : Nat} {o : Obj}, F b → w.heap[b]? = some o → w'.heap[b]? = some o := fun hf ho => (hc _ hf (lt_of_block ho)).trans ho
  refine ⟨sv, xs, g, pv, mv, tr h2 h1, hF _ h2, ⟨h3.1, h3.2.imp id ?_⟩, fun b hb => hF _ (h4 b hb), fun j hj => ?_⟩
  · rintro ⟨t, cap, cur, e, a1, a2, a3⟩
    exact ⟨t, cap, cur, e, a1, tr (h4 t (by rw [e]; rfl)) a2, a3⟩
  · obtain ⟨a1, a3, a4, a5, a6, a7⟩ := h5 j hj
    refine ⟨a1, a3, a4.move (fun h0 => ?_) (fun b e => ?_), fun h => hF _ (a5 h), fun b e => hF _ (a6 b e), a7⟩
    · obtain ⟨cur, q⟩ := a4.cells h0
      exact hc _ (a5 h0) (lt_of_block q)
    · obtain ⟨es, c, q⟩ := a4.obj e
      exact hc _ (a6 b e) (lt_of_block q)
theorem HeapM.below {w w' : World} {hb : Nat} {T : List (Int × List PV)} {F : Nat → Prop} (h : HeapM w hb T F) (hb' : Below w.heap.size w w') : HeapM w' hb T F :=
  h.move (fun b _ hlt => hb'.block b hlt) fun _ h => h
theorem HeapM.lt {w : World} {hb : Nat} {T : List (Int × List PV)} {F : Nat → Prop} (h : HeapM w hb T F) : hb < w.heap.size := by
  obtain ⟨sv, xs, g, pv, mv, h1, _⟩ := h
  exact lt_of_block h1
theorem take_at {xs : List Value} {cur : Array Value} {n j : Nat} {u : Value} (h : cur.toList.take n = xs) (hu : xs[j]? = some u) : cur[j]? = some u := by
  have := take_get h hu
  simpa using this
/-- One of the things. -/
theorem HeapM.thing {w : World} {hb : Nat} {T : List (Int × List PV)} {F : Nat → Prop} (h : HeapM w hb T F) (j : Nat) (hj : j < T.length) :
    ∃ tb cap g pv mv, w.cell? ⟨hb, 0, none⟩ = some (.slice (some ⟨tb, 0, none⟩) T.length cap) ∧ T.length ≤ cap ∧ cap ≤ maxLen ∧ w.cell? ⟨tb, j * 4, none⟩ = some (.int .i64 T[j].1) ∧ w.cell? ⟨tb, j * 4 + 1, none⟩ = some (.int .i64 (T[j].2.length : Int)) ∧ w.cell? ⟨tb, j * 4 + 2, none⟩ = some pv ∧ w.cell? ⟨tb, j * 4 + 3, none⟩ = some mv ∧ ok64 T[j].1 ∧ Piece w T[j] g pv mv ∧ F tb ∧ (T[j].2 ≠ [] → F g) := by
  obtain ⟨sv, xs, g, pv, mv, h1, h2, h3, h4, h5⟩ := h
  obtain ⟨⟨a1, a2, a7, a8⟩, a3, a4, a5, a6⟩ := h5 j hj
  rcases h3.2 with ⟨_, h0⟩ | ⟨tb, cap, cur, rfl, b1, b2, b3, b4, b5, b6⟩
  · omega
  · refine ⟨tb, cap, g j, pv j, mv j, by rw [Lib.cell_of_heap h1]; rfl, b3, b4, ?_, ?_, ?_, ?_, a3, a4, h4 tb rfl, a5⟩
    · rw [Lib.cell_of_heap b2]; exact take_at b6 a1
    · rw [Lib.cell_of_heap b2]; exact take_at b6 a2
    · rw [Lib.cell_of_heap b2]; exact take_at b6 a7
    · rw [Lib.cell_of_heap b2]; exact take_at b6 a8
/-- A pair: all its parts lie in a row. -/
theorem HeapM.thing0 {w : World} {hb : Nat} {T : List (Int × List PV)} {F : Nat → Prop} (h : HeapM w hb T F) (j : Nat) (hj : j < T.length) (h0 : T[j].1 = 0) (hne : T[j].2 ≠ []) :
    ∃ tb cap g pv, w.cell? ⟨hb, 0, none⟩ = some (.slice (some ⟨tb, 0, none⟩) T.length cap) ∧ T.length ≤ cap ∧ cap ≤ maxLen ∧ w.cell? ⟨tb, j * 4, none⟩ = some (.int .i64 T[j].1) ∧ w.cell? ⟨tb, j * 4 + 1, none⟩ = some (.int .i64 (T[j].2.length : Int)) ∧ w.cell? ⟨tb, j * 4 + 2, none⟩ = some pv ∧ w.cell? ⟨tb, j * 4 + 3, none⟩ = some (.map none) ∧ ok64 T[j].1 ∧ PartsM w T[j].2 g pv ∧ F tb ∧ (T[j].2 ≠ [] → F g) := by
  obtain ⟨tb, cap, g, pv, mv, a1, a2, a3, a4, a5, a6, a7, a8, a9, a10⟩ := h.thing j hj
  rcases a9 with ⟨rfl, h2⟩ | ⟨_, h, _⟩ | ⟨h, _⟩
  · exact ⟨tb, cap, g, pv, a1, a2, a3, a4, a5, a6, a7, a8, h2, a10⟩
  · exact absurd h hne
  · exact absurd h0 h
/-- How many there are. -/
theorem HeapM.len {w : World} {hb : Nat} {T : List (Int × List PV)} {F : Nat → Prop} (h : HeapM w hb T F) : ∃ a c, w.cell? ⟨hb, 0, none⟩ = some (.slice a T.length c) ∧ T.length ≤ maxLen := by
  obtain ⟨sv, xs, g, pv, mv, h1, h2, h3, h4, h5⟩ := h
  rcases h3.2 with ⟨rfl, h0⟩ | ⟨tb, cap, cur, rfl, b1, b2, b3, b4, b5, b6⟩
  · exact ⟨none, 0, by rw [Lib.cell_of_heap h1, h0]; rfl, by rw [h0]; exact Nat.zero_le _⟩
  · exact ⟨_, cap, by rw [Lib.cell_of_heap h1]; rfl, by omega⟩
end Go.Proofs.YtlolkhnaaelelaaDoor.Hp
