/-
Texts Q1, Q2, Q3, Q4, one behind the other (a claim bears sixty files). Conditions: as each says.
-/
import Derived.Test.YtpejhilfopjckaaDoorK0
import Derived.Deep.AppendLies
import Derived.Deep.RegionHeld3
import Derived.StillTailTactics
import Derived.IntWalk
import Derived.Maps.OwnSet
import Derived.Test.YtpejhilfopjckaaDoorWN

/-
Values and things of layer 8, as plain data; rows of values in memory; a heap in memory: its things, each thing's parts in a block of their own. No condition.
-/
namespace Go.Proofs.YtpejhilfopjckaaDoor.Hp
open Go.ChangeShapes Go.WideShapes Go.ChangeAt Go.RowKit Go.Deep
open Dat (PT ok64 RepV RepS RowX infoDatum)
set_option maxRecDepth 100000

theorem infoVal : (Tryd.prog.info? 36).map (fun i => (i.zero, i.size, i.bytes)) = some (some (.agg #[.int .i64 0, .int .i64 0, .string ⟨#[]⟩]), 3, 32) := by kernel_rfl
theorem infoPiece : (Tryd.prog.info? 83).map (fun i => (i.zero, i.size, i.bytes)) = some (some (.agg #[.int .i64 0, .int .i64 0, .slice none 0 0, .map none]), 4, 48) := by kernel_rfl

/-- A value: its kind, its number, its text. -/
structure PV where
  k : Int
  i : Int
  s : ByteArray
def PV.val (v : PV) : Value := .agg #[.int .i64 v.k, .int .i64 v.i, .string v.s]
def okV (v : PV) : Prop := ok64 v.k ∧ ok64 v.i ∧ v.s.size ≤ maxLen
/-- The cells of a row of values. -/
def vCells : List PV → List Value
  | [] => []
  | v :: l => .int .i64 v.k :: .int .i64 v.i :: .string v.s :: vCells l
theorem vCells_len : ∀ l : List PV, (vCells l).length = l.length * 3
  | [] => rfl
  | v :: l => by simp only [vCells, List.length_cons]; have := vCells_len l; omega
theorem vCells_one : ∀ (l : List PV) (u : Value), u ∈ vCells l → u.oneCell' = true
  | [], u, h => by cases h
  | v :: l, u, h => by
    simp only [vCells, List.mem_cons] at h
    rcases h with rfl | rfl | rfl | h
    · rfl
    · rfl
    · rfl
    · exact vCells_one l u h
theorem vCells_append : ∀ (l m : List PV), vCells (l ++ m) = vCells l ++ vCells m
  | [], m => rfl
  | v :: l, m => by simp only [List.cons_append, vCells, vCells_append l m]
theorem vCells_get : ∀ (l : List PV) (j : Nat) (h : j < l.length), (vCells l)[j * 3]? = some (.int .i64 l[j].k) ∧ (vCells l)[j * 3 + 1]? = some (.int .i64 l[j].i) ∧ (vCells l)[j * 3 + 2]? = some (.string l[j].s)
  | v :: l, 0, _ => ⟨rfl, rfl, rfl⟩
  | v :: l, j + 1, h => by
    have := vCells_get l j (by simpa using h)
    simp only [vCells, List.getElem_cons_succ]
    rw [show (j + 1) * 3 = j * 3 + 1 + 1 + 1 by omega]
    simp only [List.getElem?_cons_succ]
    exact ⟨this.1, by simpa using this.2.1, by simpa using this.2.2⟩

/-- A row of values lies from ⟨b, o⟩ on. -/
def VAt (w : World) (l : List PV) (b o : Nat) : Prop := (∀ j u, (vCells l)[j]? = some u → w.cell? ⟨b, o + j, none⟩ = some u) ∧ ∀ v ∈ l, okV v
theorem VAt.item {w : World} {l : List PV} {b o : Nat} (h : VAt w l b o) (j : Nat) (hj : j < l.length) :
    w.cell? ⟨b, o + j * 3, none⟩ = some (.int .i64 l[j].k) ∧ w.cell? ⟨b, o + j * 3 + 1, none⟩ = some (.int .i64 l[j].i) ∧ w.cell? ⟨b, o + j * 3 + 2, none⟩ = some (.string l[j].s) ∧ okV l[j] := by
  have g := vCells_get l j hj
  exact ⟨h.1 _ _ g.1, by rw [Nat.add_assoc]; exact h.1 _ _ g.2.1, by rw [Nat.add_assoc]; exact h.1 _ _ g.2.2, h.2 _ (List.getElem_mem hj)⟩
theorem VAt.move {w w' : World} {l : List PV} {b o : Nat} (h : VAt w l b o) (hc : w'.heap[b]? = w.heap[b]?) : VAt w' l b o :=
  ⟨fun j u hu => (World.cell?_of_block (w := w) (a := ⟨b, o + j, none⟩) hc).trans (h.1 j u hu), h.2⟩
theorem VAt.lt {w : World} {l : List PV} {b o : Nat} (h : VAt w l b o) (h0 : l ≠ []) : b < w.heap.size := by
  have hp := List.length_pos_iff.2 h0
  exact World.block_lt_of_cell? _ _ (h.item 0 hp).1

/-- A slice's value leads to the row of values, in a block of S. -/
def InP (w : World) (S : Nat → Prop) (l : List PV) (v : Value) : Prop :=
  ∃ a c, v = .slice a l.length c ∧ l.length ≤ c ∧ c ≤ maxLen ∧ (a = none → c = 0) ∧ (l = [] ∨ ∃ b o, a = some ⟨b, o, none⟩ ∧ S b ∧ VAt w l b o)
theorem InP.move {w w' : World} {S S' : Nat → Prop} {l : List PV} {v : Value} (h : InP w S l v) (hS : ∀ b, S b → b < w.heap.size → S' b ∧ w'.heap[b]? = w.heap[b]?) : InP w' S' l v := by
  obtain ⟨a, c, e, h1, h2, h3, h4⟩ := h
  refine ⟨a, c, e, h1, h2, h3, ?_⟩
  by_cases h0 : l = []
  · exact .inl h0
  · obtain ⟨b, o, e, hs, hv⟩ := h4.resolve_left h0
    have := hS b hs (hv.lt h0)
    exact .inr ⟨b, o, e, this.1, hv.move this.2⟩

/-- A thing's parts lie in the block g (or there are none). -/
def PartsM (w : World) (l : List PV) (g : Nat) (v : Value) : Prop :=
  (l = [] ∧ ∃ a c, v = .slice a 0 c ∧ c ≤ maxLen ∧ (a = none → c = 0)) ∨
  (l ≠ [] ∧ (∀ v ∈ l, okV v) ∧ ∃ cap cur, v = .slice (some ⟨g, 0, none⟩) l.length cap ∧ l.length ≤ cap ∧ cap ≤ maxLen ∧ w.heap[g]? = some (.cells cur 36 (0, 0)) ∧ cur.size = cap * 3 ∧ cur.toList.take (l.length * 3) = vCells l)
theorem PartsM.move {w w' : World} {l : List PV} {g : Nat} {v : Value} (h : PartsM w l g v) (hc : l ≠ [] → w'.heap[g]? = w.heap[g]?) : PartsM w' l g v := by
  rcases h with h | ⟨h0, ho, cap, cur, e, h1, h2, h3, h4, h5⟩
  · exact .inl h
  · exact .inr ⟨h0, ho, cap, cur, e, h1, h2, (hc h0).trans h3, h4, h5⟩
theorem take_get {xs ys : List Value} {n j : Nat} {u : Value} (h : xs.take n = ys) (hu : ys[j]? = some u) : xs[j]? = some u := by
  subst h
  rw [List.getElem?_take] at hu
  split at hu
  · exact hu
  · cases hu
theorem PartsM.at {w : World} {l : List PV} {g : Nat} {v : Value} (h : PartsM w l g v) (h0 : l ≠ []) : VAt w l g 0 := by
  rcases h with h | ⟨_, ho, cap, cur, e, h1, h2, h3, h4, h5⟩
  · exact absurd h.1 h0
  · refine ⟨fun j u hu => ?_, ho⟩
    rw [Lib.cell_of_heap h3, Nat.zero_add]
    have := take_get h5 hu
    simpa using this
theorem PartsM.inP {w : World} {l : List PV} {g : Nat} {v : Value} (h : PartsM w l g v) : InP w (· = g) l v := by
  have h' := h
  rcases h with ⟨rfl, a, c, e, h1, h2⟩ | ⟨h0, ho, cap, cur, e, h1, h2, h3, h4, h5⟩
  · exact ⟨a, c, e, Nat.zero_le _, h1, h2, .inl rfl⟩
  · exact ⟨_, cap, e, h1, h2, (fun h => by cases h), .inr ⟨g, 0, rfl, rfl, h'.at h0⟩⟩

/-! ### a map of a thing's own: the parts that were put -/
/-- Each element reads as itself. -/
def RV (v : Value) : Option (DataW Value × List MemPlace) := some (.held v, [])
def zP : PV := ⟨0, 0, ⟨#[]⟩⟩
theorem lawI : Go.Maps.Keyed Tryd.prog 3 := Go.Maps.int_keyed Tryd.underlying3
theorem ok_small {i : Nat} (h : i < 1000) : ok64 (i : Int) := ⟨by omega, by omega⟩
theorem key_i {i : Nat} (h : i < 1000) : keyOf Tryd.prog 3 (.int .i64 i) = some (.int .i64 i) := Go.Maps.keyOf_int_mk Tryd.underlying3 (WalkArith.wf_i64 (ok_small h))
theorem zeroP (w : World) : (zeroValue 36).run Tryd.prog w = .ok zP.val w := by kernel_rfl
/-- How many places have a part that was put there. -/
def cntM (L : Nat) (m : Nat → Option PV) : Nat := (List.range L).countP (fun i => (m i).isSome)
def setN (m : Nat → Option PV) (a : Nat) (u : PV) : Nat → Option PV := fun i => if i = a then some u else m i
theorem cnt_other (m : Nat → Option PV) (a : Nat) (u : PV) : ∀ L, L ≤ a → cntM L (setN m a u) = cntM L m := fun L h => by
  unfold cntM
  refine List.countP_congr fun i hi => ?_
  have := List.mem_range.1 hi
  rw [show setN m a u i = m i from if_neg (by omega)]
theorem cnt_set (m : Nat → Option PV) (a : Nat) (u : PV) : ∀ L, a < L → cntM L (setN m a u) = if (m a).isSome then cntM L m else cntM L m + 1
  | 0, h => by omega
  | L + 1, h => by
    have e : ∀ f : Nat → Option PV, cntM (L + 1) f = cntM L f + if (f L).isSome then 1 else 0 := fun f => by
      unfold cntM
      rw [List.range_succ, List.countP_append]
      simp [List.countP_cons]
    rw [e, e]
    by_cases hl : a = L
    · subst hl
      rw [cnt_other m a u a (Nat.le_refl _), show setN m a u a = some u from if_pos rfl]
      cases m a <;> simp
    · rw [cnt_set m a u L (by omega), show setN m a u L = m L from if_neg (by omega)]
      cases m a <;> simp <;> omega
theorem cnt_le (L : Nat) (m : Nat → Option PV) : cntM L m ≤ L := by
  have := List.countP_le_length (p := fun i => (m i).isSome) (l := List.range L)
  rw [List.length_range] at this
  exact this
/-- The map in block b holds just what m says of the first L places. -/
def MapP (w : World) (b L : Nat) (m : Nat → Option PV) : Prop := ∃ D : DataW Value, w.ownsMap Tryd.prog 3 RV b L D ∧ Go.Maps.size D = cntM L m ∧ ∀ i : Nat, i < L → D.atKey (.int .i64 i) (.held zP.val) = .held ((m i).getD zP).val ∧ Go.Maps.has D (.int .i64 i) = (m i).isSome
theorem MapP.made (w : World) (L : Nat) : MapP (w.alloc (.map #[] 0)) w.heap.size L (fun _ => none) :=
  ⟨_, (World.ownsMap_made _ _ _ _).mono (Nat.zero_le _), by simp [cntM, Go.Maps.size], fun _ _ => ⟨rfl, rfl⟩⟩
theorem MapP.at {w w' : World} {b L : Nat} {m : Nat → Option PV} (h : MapP w b L m) (hb : w'.heap[b]? = w.heap[b]?) : MapP w' b L m := by
  obtain ⟨D, ⟨es, clock, h1, h2⟩, h3⟩ := h
  exact ⟨D, ⟨es, clock, hb.trans h1, h2⟩, h3⟩
theorem MapP.obj {w : World} {b L : Nat} {m : Nat → Option PV} (h : MapP w b L m) : ∃ es c, w.heap[b]? = some (.map es c) := by
  obtain ⟨D, ⟨es, clock, h1, h2⟩, h3⟩ := h
  exact ⟨es, clock, h1⟩
theorem MapP.look {w : World} {b L : Nat} {m : Nat → Option PV} (h : MapP w b L m) (i : Nat) (hi : i < L) (hL : L ≤ 1000) :
    (Instr.lookup 81 (.map (some b)) (.int .i64 i) true).run Tryd.prog w = .ok (.tuple #[((m i).getD zP).val, .bool (m i).isSome]) w := by
  obtain ⟨D, h1, _, h2⟩ := h
  obtain ⟨v, ps, hrun, hv⟩ := h1.look_ok lawI Tryd.underlying81 (zeroP w) (zd := .held zP.val) (zp := []) rfl (key_i (show i < 1000 by omega))
  rw [(h2 i hi).1] at hv
  unfold RV at hv
  simp only [Option.some.injEq, Prod.mk.injEq, DataW.held.injEq] at hv
  rw [hrun, hv.1, (h2 i hi).2]
theorem MapP.store {w : World} {b L : Nat} {m : Nat → Option PV} (h : MapP w b L m) (hL : L ≤ 1000) (a : Nat) (ha : a < L) (u : PV) :
    ∃ w', (Instr.mapUpdate 81 (.map (some b)) (.int .i64 a) u.val).run Tryd.prog w = .ok () w' ∧ MapP w' b L (setN m a u) ∧ w.mapTurned w' b := by
  obtain ⟨D, h1, hc, h2⟩ := h
  obtain ⟨w', hrun, h3, h4⟩ := h1.store lawI Tryd.underlying81 (by unfold maxLen; omega) (key_i (show a < 1000 by omega)) (val := u.val) (d := .held u.val) (ps := []) rfl
  have hk : WideAt.IsKeyLit (.int .i64 (a : Int)) := trivial
  have hs : Go.Maps.size (D.put (.int .i64 a) (.held u.val)) = cntM L (setN m a u) := by
    rw [Go.Maps.size_put (h1.tidy lawI), (h2 a ha).2, hc, cnt_set m a u L ha]
  refine ⟨w', hrun, ⟨_, ?_, hs, fun i hi => ?_⟩, h4⟩
  · obtain ⟨es, clock, q1, q2, q3, q4⟩ := h3
    refine ⟨es, clock, q1, q2, ?_, q4⟩
    have hle := cnt_le L (setN m a u)
    rw [← hs, q4] at hle
    simpa [Go.Maps.size, length_sorted] using hle
  · by_cases e : i = a
    · subst e
      rw [Go.Maps.atKey_put_same h1.isMap hk, Go.Maps.has_put_same h1.isMap hk]
      simp [setN]
    · have hne : (Lit.int .i64 (i : Int)) ≠ .int .i64 (a : Int) := by
        intro h
        simp only [Lit.int.injEq] at h
        exact e (by omega)
      rw [Go.Maps.atKey_put_other hne, Go.Maps.has_put_other hne]
      simpa [setN, e] using h2 i hi

/-- A thing's four cells: its kind, how many parts it has, the slice of its first parts, the map of what was put. -/
def PieceAt (xs : List Value) (j : Nat) (t : Int × List PV) (v mv : Value) : Prop :=
  xs[j * 4]? = some (.int .i64 t.1) ∧ xs[j * 4 + 1]? = some (.int .i64 (t.2.length : Int)) ∧ xs[j * 4 + 2]? = some v ∧ xs[j * 4 + 3]? = some mv
/-- What a thing's parts are: all in a row of its own; or there are none; or one stands for all but for what was put. -/
def Piece (w : World) (t : Int × List PV) (g : Nat) (v mv : Value) : Prop :=
  (mv = .map none ∧ PartsM w t.2 g v) ∨
  (mv = .map none ∧ t.2 = [] ∧ ∃ a n c, v = .slice a n c) ∨
  (t.1 ≠ 0 ∧ 2 ≤ t.2.length ∧ t.2.length ≤ 1000 ∧ (∀ v ∈ t.2, okV v) ∧ ∃ p, PartsM w [p] g v ∧ ((mv = .map none ∧ t.2 = List.replicate t.2.length p) ∨
    ∃ b m, mv = .map (some b) ∧ MapP w b t.2.length m ∧ ∀ i (h : i < t.2.length), t.2[i] = (m i).getD p))
theorem Piece.move {w w' : World} {t : Int × List PV} {g : Nat} {v mv : Value} (h : Piece w t g v mv) (hc : t.2 ≠ [] → w'.heap[g]? = w.heap[g]?) (hm : ∀ b, mv = .map (some b) → w'.heap[b]? = w.heap[b]?) : Piece w' t g v mv := by
  rcases h with ⟨h1, h2⟩ | h | ⟨h0, h1, h2, h3, p, h4, h5⟩
  · exact .inl ⟨h1, h2.move hc⟩
  · exact .inr (.inl h)
  · refine .inr (.inr ⟨h0, h1, h2, h3, p, h4.move fun _ => hc (fun e => by rw [e] at h1; simp at h1), ?_⟩)
    rcases h5 with h5 | ⟨b, m, e, h6, h7⟩
    · exact .inl h5
    · exact .inr ⟨b, m, e, h6.at (hm b e), h7⟩
theorem PartsM.cells {w : World} {l : List PV} {g : Nat} {v : Value} (h : PartsM w l g v) (h0 : l ≠ []) : ∃ cur, w.heap[g]? = some (.cells cur 36 (0, 0)) := by
  rcases h with h | ⟨_, _, cp, cur, _, _, _, c3, _⟩
  · exact absurd h.1 h0
  · exact ⟨cur, c3⟩
theorem Piece.cells {w : World} {t : Int × List PV} {g : Nat} {v mv : Value} (h : Piece w t g v mv) (h0 : t.2 ≠ []) : ∃ cur, w.heap[g]? = some (.cells cur 36 (0, 0)) := by
  rcases h with ⟨_, h2⟩ | ⟨_, h, _⟩ | ⟨_, _, _, _, p, h4, _⟩
  · exact h2.cells h0
  · exact absurd h h0
  · exact h4.cells (by simp)
theorem Piece.obj {w : World} {t : Int × List PV} {g b : Nat} {v mv : Value} (h : Piece w t g v mv) (h0 : mv = .map (some b)) : ∃ es c, w.heap[b]? = some (.map es c) := by
  rcases h with ⟨e, _⟩ | ⟨e, _⟩ | ⟨_, _, _, _, p, _, ⟨e, _⟩ | ⟨b', m, e, h6, _⟩⟩
  · rw [e] at h0; cases h0
  · rw [e] at h0; cases h0
  · rw [e] at h0; cases h0
  · rw [e] at h0; cases h0; exact h6.obj
/-- A heap at the block hb: its things are T; all that belongs to it lies in blocks of F. -/
def HeapM (w : World) (hb : Nat) (T : List (Int × List PV)) (F : Nat → Prop) : Prop :=
  ∃ (sv : Value) (xs : List Value) (g : Nat → Nat) (pv mv : Nat → Value), w.heap[hb]? = some (.cells #[sv] 57 (0, 0)) ∧ F hb ∧
    w.ownsRow 0 83 4 sv T.length xs ∧ (∀ b, sv.ownBlock = some b → F b) ∧
    (∀ j (h : j < T.length), PieceAt xs j T[j] (pv j) (mv j) ∧ ok64 T[j].1 ∧ Piece w T[j] (g j) (pv j) (mv j) ∧ (T[j].2 ≠ [] → F (g j)) ∧ (∀ b, mv j = .map (some b) → F b) ∧
      ∀ k (hk : k < T.length), j ≠ k → (T[j].2 ≠ [] → T[k].2 ≠ [] → g j ≠ g k) ∧ (mv j = mv k → mv j = .map none))

/-- What is in no block of F is as it was. -/
def KpF (F : Nat → Prop) (w w' : World) : Prop := Below 0 w w' ∧ ∀ b, b < w.heap.size → ¬ F b → w'.heap[b]? = w.heap[b]?
theorem KpF.refl (F : Nat → Prop) (w : World) : KpF F w w := ⟨Below.refl _ _, fun _ _ _ => rfl⟩
theorem KpF.of_below {F : Nat → Prop} {w w' : World} (h : Below w.heap.size w w') : KpF F w w' := ⟨h.mono (Nat.zero_le _), fun b hb _ => h.block b hb⟩
/-- A step from w with the blocks F to w' with the blocks F': new blocks may come to F. -/
def Stp (F : Nat → Prop) (w : World) (F' : Nat → Prop) (w' : World) : Prop := KpF F w w' ∧ ∀ b, F' b → F b ∨ w.heap.size ≤ b
theorem Stp.refl (F : Nat → Prop) (w : World) : Stp F w F w := ⟨KpF.refl _ _, fun _ h => .inl h⟩
theorem Stp.of_below {F : Nat → Prop} {w w' : World} (h : Below w.heap.size w w') : Stp F w F w' := ⟨KpF.of_below h, fun _ h => .inl h⟩
theorem Stp.trans {F F' F'' : Nat → Prop} {w w' w'' : World} (h : Stp F w F' w') (k : Stp F' w' F'' w'') : Stp F w F'' w'' := by
  refine ⟨⟨h.1.1.trans k.1.1, fun b hb hF => ?_⟩, fun b hb => ?_⟩
  · rw [k.1.2 b (Nat.lt_of_lt_of_le hb h.1.1.size) (fun e => by rcases h.2 b e with e | e; exact hF e; omega)]
    exact h.1.2 b hb hF
  · rcases k.2 b hb with e | e
    · exact h.2 b e
    · exact .inr (Nat.le_trans h.1.1.size e)
theorem Stp.below {F F' : Nat → Prop} {w w' : World} {C : Nat} (h : Stp F w F' w') (hF : ∀ b, F b → C ≤ b) (hC : C ≤ w.heap.size) : Below C w w' :=
  ⟨h.1.1.os, h.1.1.tape, h.1.1.output, h.1.1.size, fun b hb => h.1.2 b (by omega) (fun e => by have := hF b e; omega)⟩
theorem Stp.from {F F' : Nat → Prop} {w w' : World} {C : Nat} (h : Stp F w F' w') (hF : ∀ b, F b → C ≤ b) (hC : C ≤ w.heap.size) : ∀ b, F' b → C ≤ b := fun b hb => by
  rcases h.2 b hb with e | e
  · exact hF b e
  · omega
theorem Stp.inP {F F' : Nat → Prop} {w w' : World} {S : Nat → Prop} {l : List PV} {v : Value} (h : Stp F w F' w') (hp : InP w S l v) (hS : ∀ b, S b → ¬ F b) : InP w' S l v :=
  hp.move fun b hb hlt => ⟨hb, h.1.2 b hlt (hS b hb)⟩

theorem HeapM.move {w w' : World} {hb : Nat} {T : List (Int × List PV)} {F F' : Nat → Prop} (h : HeapM w hb T F) (hc : ∀ b, F b → b < w.heap.size → w'.heap[b]? = w.heap[b]?) (hF : ∀ b, F b → F' b) : HeapM w' hb T F' := by
  obtain ⟨sv, xs, g, pv, mv, h1, h2, h3, h4, h5⟩ := h
  have tr : ∀ {b : Nat} {o : Obj}, F b → w.heap[b]? = some o → w'.heap[b]? = some o := fun hf ho => (hc _ hf (lt_of_block ho)).trans ho
  refine ⟨sv, xs, g, pv, mv, tr h2 h1, hF _ h2, ⟨h3.1, h3.2.imp id ?_⟩, fun b hb => hF _ (h4 b hb), fun j hj => ?_⟩
  · rintro ⟨t, cap, cur, e, a1, a2, a3⟩
    exact ⟨t, cap, cur, e, a1, tr (h4 t (by rw [e]; rfl)) a2, a3⟩
  · obtain ⟨a1, a3, a4, a5, a6, a7⟩ := h5 j hj
    refine ⟨a1, a3, a4.move (fun h0 => ?_) (fun b e => ?_), fun h => hF _ (a5 h), fun b e => hF _ (a6 b e), a7⟩
    · obtain ⟨cur, q⟩ := a4.cells h0
      exact hc _ (a5 h0) (lt_of_block q)
    · obtain ⟨es, c, q⟩ := a4.obj e
      exact hc _ (a6 b e) (lt_of_block q)
theorem HeapM.below {w w' : World} {hb : Nat} {T : List (Int × List PV)} {F : Nat → Prop} (h : HeapM w hb T F) (hb' : Below w.heap.size w w') : HeapM w' hb T F :=
  h.move (fun b _ hlt => hb'.block b hlt) fun _ h => h
theorem HeapM.lt {w : World} {hb : Nat} {T : List (Int × List PV)} {F : Nat → Prop} (h : HeapM w hb T F) : hb < w.heap.size := by
  obtain ⟨sv, xs, g, pv, mv, h1, _⟩ := h
  exact lt_of_block h1
theorem take_at {xs : List Value} {cur : Array Value} {n j : Nat} {u : Value} (h : cur.toList.take n = xs) (hu : xs[j]? = some u) : cur[j]? = some u := by
  have := take_get h hu
  simpa using this
/-- One of the things. -/
theorem HeapM.thing {w : World} {hb : Nat} {T : List (Int × List PV)} {F : Nat → Prop} (h : HeapM w hb T F) (j : Nat) (hj : j < T.length) :
    ∃ tb cap g pv mv, w.cell? ⟨hb, 0, none⟩ = some (.slice (some ⟨tb, 0, none⟩) T.length cap) ∧ T.length ≤ cap ∧ cap ≤ maxLen ∧ w.cell? ⟨tb, j * 4, none⟩ = some (.int .i64 T[j].1) ∧ w.cell? ⟨tb, j * 4 + 1, none⟩ = some (.int .i64 (T[j].2.length : Int)) ∧ w.cell? ⟨tb, j * 4 + 2, none⟩ = some pv ∧ w.cell? ⟨tb, j * 4 + 3, none⟩ = some mv ∧ ok64 T[j].1 ∧ Piece w T[j] g pv mv ∧ F tb ∧ (T[j].2 ≠ [] → F g) := by
  obtain ⟨sv, xs, g, pv, mv, h1, h2, h3, h4, h5⟩ := h
  obtain ⟨⟨a1, a2, a7, a8⟩, a3, a4, a5, a6⟩ := h5 j hj
  rcases h3.2 with ⟨_, h0⟩ | ⟨tb, cap, cur, rfl, b1, b2, b3, b4, b5, b6⟩
  · omega
  · refine ⟨tb, cap, g j, pv j, mv j, by rw [Lib.cell_of_heap h1]; rfl, b3, b4, ?_, ?_, ?_, ?_, a3, a4, h4 tb rfl, a5⟩
    · rw [Lib.cell_of_heap b2]; exact take_at b6 a1
    · rw [Lib.cell_of_heap b2]; exact take_at b6 a2
    · rw [Lib.cell_of_heap b2]; exact take_at b6 a7
    · rw [Lib.cell_of_heap b2]; exact take_at b6 a8
/-- A pair: all its parts lie in a row. -/
theorem HeapM.thing0 {w : World} {hb : Nat} {T : List (Int × List PV)} {F : Nat → Prop} (h : HeapM w hb T F) (j : Nat) (hj : j < T.length) (h0 : T[j].1 = 0) (hne : T[j].2 ≠ []) :
    ∃ tb cap g pv, w.cell? ⟨hb, 0, none⟩ = some (.slice (some ⟨tb, 0, none⟩) T.length cap) ∧ T.length ≤ cap ∧ cap ≤ maxLen ∧ w.cell? ⟨tb, j * 4, none⟩ = some (.int .i64 T[j].1) ∧ w.cell? ⟨tb, j * 4 + 1, none⟩ = some (.int .i64 (T[j].2.length : Int)) ∧ w.cell? ⟨tb, j * 4 + 2, none⟩ = some pv ∧ w.cell? ⟨tb, j * 4 + 3, none⟩ = some (.map none) ∧ ok64 T[j].1 ∧ PartsM w T[j].2 g pv ∧ F tb ∧ (T[j].2 ≠ [] → F g) := by
  obtain ⟨tb, cap, g, pv, mv, a1, a2, a3, a4, a5, a6, a7, a8, a9, a10⟩ := h.thing j hj
  rcases a9 with ⟨rfl, h2⟩ | ⟨_, h, _⟩ | ⟨h, _⟩
  · exact ⟨tb, cap, g, pv, a1, a2, a3, a4, a5, a6, a7, a8, h2, a10⟩
  · exact absurd h hne
  · exact absurd h0 h
/-- How many there are. -/
theorem HeapM.len {w : World} {hb : Nat} {T : List (Int × List PV)} {F : Nat → Prop} (h : HeapM w hb T F) : ∃ a c, w.cell? ⟨hb, 0, none⟩ = some (.slice a T.length c) ∧ T.length ≤ maxLen := by
  obtain ⟨sv, xs, g, pv, mv, h1, h2, h3, h4, h5⟩ := h
  rcases h3.2 with ⟨rfl, h0⟩ | ⟨tb, cap, cur, rfl, b1, b2, b3, b4, b5, b6⟩
  · exact ⟨none, 0, by rw [Lib.cell_of_heap h1, h0]; rfl, by rw [h0]; exact Nat.zero_le _⟩
  · exact ⟨_, cap, by rw [Lib.cell_of_heap h1]; rfl, by omega⟩
end Go.Proofs.YtpejhilfopjckaaDoor.Hp

/-
Package heap's small functions: isNumbered, has, hasAll, isThing, is. No condition but that the heap lies in memory.
-/
namespace Go.Proofs.YtpejhilfopjckaaDoor.Hp
open Go.ChangeShapes Go.WideShapes Go.ChangeAt Go.RowKit Go.Deep
open Dat (PT ok64 RepV RepS RowX infoDatum)
set_option maxRecDepth 100000

def numB (i : Int) (s : ByteArray) (least most : Int) : Bool := decide (least ≤ i ∧ i ≤ most ∧ s.toList = [])
theorem isNumbered_any (k i : Int) (s : ByteArray) (least most : Int) (w : World) :
    Calls Tryd.prog 58 #[.agg #[.int .i64 k, .int .i64 i, .string s], .int .i64 least, .int .i64 most] w fun e w' => e = .returned (.bool (numB i s least most)) ∧ Below w.heap.size w w' := by
  have HR : Hid (numB i s least most = decide (least ≤ i ∧ i ≤ most ∧ s.toList = [])) := Lib.hid rfl
  generalize numB i s least most = r at HR
  by_cases h1 : least ≤ i
  · by_cases h2 : i ≤ most
    · by_cases h3 : s.toList = []
      all_goals
        go_enter Tryd.func58, Tryd.ntmps58
        go_wp2
        go_ret
        exact ⟨ret_bool (by rw [HR.out]; simp [*]), (Below.refl _ _).alloc (Nat.le_refl _) _⟩
    · go_enter Tryd.func58, Tryd.ntmps58
      go_wp2
      go_ret
      exact ⟨ret_bool (by rw [HR.out]; simp [*]; intros; omega), (Below.refl _ _).alloc (Nat.le_refl _) _⟩
  · go_enter Tryd.func58, Tryd.ntmps58
    go_wp2
    go_ret
    exact ⟨ret_bool (by rw [HR.out]; simp [*]; intros; omega), (Below.refl _ _).alloc (Nat.le_refl _) _⟩

/-- Is it a value of a heap of n things? -/
def hasB (n : Nat) (v : PV) : Bool :=
  if v.k = 0 then numB v.i v.s 0 1 else if v.k = 1 then numB v.i v.s (-1152921504606846976) 1152921504606846975 else if v.k = 2 then numB v.i v.s 0 255
  else if v.k = 3 then decide (v.i = 0) && nameB v.s.data.toList else if v.k = 4 ∨ v.k = 5 ∨ v.k = 6 ∨ v.k = 7 then numB v.i v.s 0 0 else if v.k = 8 then numB v.i v.s 0 ((n : Int) - 1) else false
theorem kind9 (k : Int) : k = 0 ∨ k = 1 ∨ k = 2 ∨ k = 3 ∨ k = 4 ∨ k = 5 ∨ k = 6 ∨ k = 7 ∨ k = 8 ∨ (k < 0 ∨ 8 < k) := by omega
def LenM (w : World) (hb n : Nat) : Prop := ∃ a c, w.cell? ⟨hb, 0, none⟩ = some (.slice a n c) ∧ n ≤ maxLen
theorem LenM.below {w w' : World} {hb n : Nat} (h : LenM w hb n) (hb' : Below w.heap.size w w') : LenM w' hb n := by
  obtain ⟨a, c, e, h1⟩ := h
  exact ⟨a, c, (hb'.cell (p := ⟨hb, 0, none⟩) (World.block_lt_of_cell? _ _ e)).trans e, h1⟩
theorem LenM.move {w w1 w2 : World} {hb n : Nat} (h : LenM w hb n) (h1 : Below w.heap.size w w1) (h2 : Below w1.heap.size w1 w2) : LenM w2 hb n := (h.below h1).below h2
set_option maxHeartbeats 1000000 in
theorem has_any (k i : Int) (s : ByteArray) (hb n : Nat) (w : World) (hs : s.size ≤ maxLen) (hl : LenM w hb n) :
    Calls Tryd.prog 38 #[.pointer (some ⟨hb, 0, none⟩), .agg #[.int .i64 k, .int .i64 i, .string s]] w fun e w' => e = .returned (.bool (hasB n ⟨k, i, s⟩)) ∧ Below w.heap.size w w' := by
  have HR : Hid (hasB n ⟨k, i, s⟩ = if k = 0 then numB i s 0 1 else if k = 1 then numB i s (-1152921504606846976) 1152921504606846975 else if k = 2 then numB i s 0 255
  else if k = 3 then decide (i = 0) && nameB s.data.toList else if k = 4 ∨ k = 5 ∨ k = 6 ∨ k = 7 then numB i s 0 0 else if k = 8 then numB i s 0 ((n : Int) - 1) else false) := Lib.hid rfl
  generalize hasB n ⟨k, i, s⟩ = r at HR
  obtain ⟨a, c, hc, hm⟩ := hl
  have hlt : hb < w.heap.size := World.block_lt_of_cell? _ _ hc
  have B0 := Lib.hid ((Below.refl w.heap.size w).alloc (Nat.le_refl _) (.cells #[.int .i64 k, .int .i64 i, .string s] 36))
  have hc0 := (B0.out.cell (p := ⟨hb, 0, none⟩) hlt).trans hc
  have HS := Lib.hid hs
  unfold maxLen at hm
  have KN := Lib.hid (fun a b W => isNumbered_any k i s a b W)
  have KM := Lib.hid (fun W => name_any s W hs)
  rcases kind9 k with rfl | rfl | rfl | rfl | rfl | rfl | rfl | rfl | rfl | hk
  all_goals try
    (go_enter Tryd.func38, Tryd.ntmps38
     go_wp2_with (go_at_call 58; ((with_reducible refine (KN.out _ _ _).mono ?_); rintro e w1 ⟨rfl, hb1⟩))
     go_ret
     exact ⟨ret_bool (by rw [HR.out]; rfl), B0.out.trans (hb1.mono B0.out.size)⟩)
  · by_cases hi : i = 0
    · subst hi
      go_enter Tryd.func38, Tryd.ntmps38
      go_wp2_with (go_at_call 59; ((with_reducible refine (KM.out _).mono ?_); rintro e w1 ⟨rfl, rfl⟩))
      go_ret
      exact ⟨ret_bool (by rw [HR.out]; rfl), B0.out⟩
    · have hi' : (i == 0) = false := by simpa using hi
      go_enter Tryd.func38, Tryd.ntmps38
      go_wp2
      go_ret
      exact ⟨ret_bool (by rw [HR.out]; simp [hi]), B0.out⟩
  · have Z := heap_alloc_new w (.cells #[.int .i64 8, .int .i64 i, .string s] 36)
    go_enter Tryd.func38, Tryd.ntmps38
    go_wp2
    generalize w.alloc (.cells #[.int .i64 8, .int .i64 i, .string s] 36) = w0 at hc0 B0 Z ⊢
    have z0 : w0.cell? ⟨w.heap.size, 0, none⟩ = some (.int .i64 8) := by rw [Lib.cell_of_heap Z]; rfl
    have z1 : w0.cell? ⟨w.heap.size, 1, none⟩ = some (.int .i64 i) := by rw [Lib.cell_of_heap Z]; rfl
    have z2 : w0.cell? ⟨w.heap.size, 2, none⟩ = some (.string s) := by rw [Lib.cell_of_heap Z]; rfl
    clear Z
    go_still_tail 7, (by kernel_rfl)
    change wpList _ _ _ _ _ w0.drew
    go_wp2_with (go_at_call 58; ((with_reducible refine (KN.out _ _ _).mono ?_); rintro e w1 ⟨rfl, hb1⟩))
    go_ret
    exact ⟨ret_bool (by rw [HR.out]; rfl), B0.out.drew.trans (hb1.mono B0.out.size)⟩
  · have b0 : (k == 0) = false := by simp; omega
    have b1 : (k == 1) = false := by simp; omega
    have b2 : (k == 2) = false := by simp; omega
    have b3 : (k == 3) = false := by simp; omega
    have b4 : (k == 4) = false := by simp; omega
    have b5 : (k == 5) = false := by simp; omega
    have b6 : (k == 6) = false := by simp; omega
    have b7 : (k == 7) = false := by simp; omega
    have b8 : (k == 8) = false := by simp; omega
    have HR2 : Hid (r = false) := Lib.hid (by rw [HR.out, if_neg (by omega), if_neg (by omega), if_neg (by omega), if_neg (by omega), if_neg (by omega), if_neg (by omega)])
    clear hk
    go_enter Tryd.func38, Tryd.ntmps38
    go_wp2
    go_ret
    exact ⟨ret_bool (by rw [HR2.out]), B0.out⟩

/-- The facts on one value of a row. -/
theorem InP.cells {w : World} {S : Nat → Prop} {l : List PV} {v : Value} (h : InP w S l v) (h0 : l ≠ []) : ∃ b o c, v = .slice (some ⟨b, o, none⟩) l.length c ∧ S b ∧ b < w.heap.size ∧ VAt w l b o := by
  obtain ⟨a, c, e, h1, h2, h3, h4⟩ := h
  obtain ⟨b, o, rfl, hs, hv⟩ := h4.resolve_left h0
  exact ⟨b, o, c, e, hs, hv.lt h0, hv⟩
theorem all_take {l : List PV} {p : PV → Bool} {j : Nat} (hj : j < l.length) (h : ∀ t ∈ l.take j, p t = true) (hn : p l[j] = true) : ∀ t ∈ l.take (j + 1), p t = true := by
  intro t ht
  rw [List.take_succ_eq_append_getElem hj] at ht
  rcases List.mem_append.1 ht with ht | ht
  · exact h t ht
  · obtain rfl : t = l[j] := by simpa using ht
    exact hn
set_option maxHeartbeats 1000000 in
theorem hasAll_any (l : List PV) (v : Value) (S : Nat → Prop) (hb n : Nat) (w : World) (h : InP w S l v) (hl : LenM w hb n) :
    Calls Tryd.prog 20 #[.pointer (some ⟨hb, 0, none⟩), v] w fun e w' => e = .returned (.bool (l.all (hasB n))) ∧ Below w.heap.size w w' := by
  have HI := Lib.hid h
  have HL := Lib.hid hl
  have HR : Hid (l.all (hasB n) = true ↔ ∀ t ∈ l, hasB n t = true) := Lib.hid List.all_eq_true
  generalize l.all (hasB n) = r at HR
  obtain ⟨a, c, rfl, h1, h2, h3, h4⟩ := h
  unfold maxLen at h2
  clear hl h3 h4
  go_enter Tryd.func20, Tryd.ntmps20
  go_wp2
  go_loopw [9] (fun i wr => ∃ j : Nat, j ≤ l.length ∧ i = .int .i64 j ∧ (∀ t ∈ l.take j, hasB n t = true) ∧ Below w.heap.size w wr) (fun i _ => l.length - (intOf i).toNat)
  case atStart => exact ⟨0, Nat.zero_le _, rfl, by simp, Below.refl _ _⟩
  case round =>
    obtain ⟨j, hj, rfl, hall, hbr⟩ := hrel
    have HA := Lib.hid hall
    have HB := Lib.hid hbr
    by_cases hlt : j < l.length
    · obtain ⟨b, o, c', e, hs, hbl, hv⟩ := HI.out.cells (by rintro rfl; cases hlt)
      cases e
      obtain ⟨c0, c1, c2, ok⟩ := hv.item j hlt
      replace c0 := (HB.out.cell (p := ⟨b, o + j * 3, none⟩) hbl).trans c0
      replace c1 := (HB.out.cell (p := ⟨b, o + j * 3 + 1, none⟩) hbl).trans c1
      replace c2 := (HB.out.cell (p := ⟨b, o + j * 3 + 2, none⟩) hbl).trans c2
      have HT : Hid (hasB n l[j] = true → ∀ t ∈ l.take (j + 1), hasB n t = true) := Lib.hid (all_take hlt HA.out)
      have HM : Hid (l[j] ∈ l) := Lib.hid (List.getElem_mem hlt)
      generalize l[j] = t at c0 c1 c2 ok HT HM
      obtain ⟨tk, ti, ts⟩ := t
      dsimp only at c0 c1 c2
      have hts : ts.size ≤ maxLen := ok.2.2
      have HLN := Lib.hid (fun W (hW : Below wr.heap.size wr W) => (HL.out.move hbr hW : LenM W hb n))
      clear hall hbr hv ok
      by_cases hok : hasB n ⟨tk, ti, ts⟩ = true
      · have KH := Lib.hid (fun W hW => hok ▸ has_any tk ti ts hb n W hts hW)
        have HT' := Lib.hid (HT.out hok)
        clear hok HT hts
        go_wp2_with (go_at_call 38; ((with_reducible refine (KH.out _ (HLN.out _ ((Below.refl _ _).alloc (Nat.le_refl _) _))).mono ?_); rintro e w1 ⟨rfl, hb1⟩))
        go_roundw
        case rel => exact ⟨j + 1, by omega, by go_num, HT'.out, HB.out.trans ((((Below.refl _ _).alloc (Nat.le_refl _) _).trans (hb1.mono (by simp))).mono HB.out.size)⟩
        case measure => simp [intOf]; omega
      · have hok' : hasB n ⟨tk, ti, ts⟩ = false := by simpa using hok
        have KH := Lib.hid (fun W hW => hok' ▸ has_any tk ti ts hb n W hts hW)
        have HF : Hid (r = false) := Lib.hid (by
          cases hr : r
          · rfl
          · exact absurd (HR.out.1 hr _ HM.out) (by simp [hok']))
        clear hok hok' HT hts
        go_wp2_with (go_at_call 38; ((with_reducible refine (KH.out _ (HLN.out _ ((Below.refl _ _).alloc (Nat.le_refl _) _))).mono ?_); rintro e w1 ⟨rfl, hb1⟩))
        go_ret
        exact ⟨ret_bool (by rw [HF.out]), HB.out.trans ((((Below.refl _ _).alloc (Nat.le_refl _) _).trans (hb1.mono (by simp))).mono HB.out.size)⟩
    · go_wp2
      go_ret
      exact ⟨ret_bool (by rw [Bool.eq_iff_iff, HR.out]; rw [List.take_of_length_le (by omega)] at hall; simpa using hall), HB.out⟩
end Go.Proofs.YtpejhilfopjckaaDoor.Hp

/-
Package heap's isThing, is, part: what one asks of the things in memory. No condition but that the heap lies there, and that the value is one of its own.
-/
namespace Go.Proofs.YtpejhilfopjckaaDoor.Hp
open Go.ChangeShapes Go.WideShapes Go.ChangeAt Go.RowKit Go.Deep
open Dat (PT ok64 RepV RepS RowX infoDatum)
set_option maxRecDepth 100000

/-- Is the value a thing of this kind? -/
def thB (T : List (Int × List PV)) (v : PV) (kind : Int) : Bool := decide (v.k = 8 ∧ T[v.i.toNat]?.map (·.1) = some kind)
/-- A thing's number is in range. -/
def InT (T : List (Int × List PV)) (v : PV) : Prop := v.k = 8 → 0 ≤ v.i ∧ v.i < T.length
set_option maxHeartbeats 1000000 in
theorem isThing_any (k i : Int) (s : ByteArray) (kind : Int) (hb : Nat) (T : List (Int × List PV)) (F : Nat → Prop) (w : World) (h : HeapM w hb T F) (hi : InT T ⟨k, i, s⟩) :
    Calls Tryd.prog 48 #[.pointer (some ⟨hb, 0, none⟩), .agg #[.int .i64 k, .int .i64 i, .string s], .int .i64 kind] w fun e w' => e = .returned (.bool (thB T ⟨k, i, s⟩ kind)) ∧ Below w.heap.size w w' := by
  have Z := heap_alloc_new w (.cells #[.int .i64 k, .int .i64 i, .string s] 36)
  have B0 := Lib.hid ((Below.refl w.heap.size w).alloc (Nat.le_refl _) (.cells #[.int .i64 k, .int .i64 i, .string s] 36))
  by_cases h8 : k = 8
  · obtain ⟨h0, hlt⟩ := hi h8
    dsimp only at hlt h0
    have hlt : i.toNat < T.length := by omega
    obtain ⟨tb, cap, g, pv, _, c0, h1, h2, c1, -, -, -, -, -, -, -⟩ := h.thing i.toNat hlt
    replace c0 := (B0.out.cell (p := ⟨hb, 0, none⟩) (World.block_lt_of_cell? _ _ c0)).trans c0
    replace c1 := (B0.out.cell (p := ⟨tb, i.toNat * 4, none⟩) (World.block_lt_of_cell? _ _ c1)).trans c1
    have HR : Hid (thB T ⟨k, i, s⟩ kind = decide (T[i.toNat].1 = kind)) := Lib.hid (by simp [thB, h8, hlt])
    generalize thB T ⟨k, i, s⟩ kind = r at HR
    generalize T[i.toNat].1 = tk at c1 HR
    unfold maxLen at h2
    have hL : i < (T.length : Int) := by omega
    subst h8
    clear h hi
    go_enter Tryd.func48, Tryd.ntmps48
    go_wp2
    generalize w.alloc (.cells #[.int .i64 8, .int .i64 i, .string s] 36) = w0 at *
    have z0 : w0.cell? ⟨w.heap.size, 0, none⟩ = some (.int .i64 8) := by rw [Lib.cell_of_heap Z]; rfl
    have z1 : w0.cell? ⟨w.heap.size, 1, none⟩ = some (.int .i64 i) := by rw [Lib.cell_of_heap Z]; rfl
    clear Z
    go_quiet (fail)
    go_wp2
    go_ret
    exact ⟨ret_bool (by rw [HR.out]; rfl), Dat.below_drewN B0.out _⟩
  · have h8' : (k == 8) = false := by simpa using h8
    have HR : Hid (thB T ⟨k, i, s⟩ kind = false) := Lib.hid (by simp [thB, h8])
    clear h hi
    go_enter Tryd.func48, Tryd.ntmps48
    go_wp2
    generalize w.alloc (.cells #[.int .i64 k, .int .i64 i, .string s] 36) = w0 at B0 Z ⊢
    have z0 : w0.cell? ⟨w.heap.size, 0, none⟩ = some (.int .i64 k) := by rw [Lib.cell_of_heap Z]; rfl
    clear Z h8
    go_region
    go_wp2
    go_ret
    exact ⟨ret_bool (by rw [HR.out]), (by first | exact B0.out | exact Dat.below_drewN B0.out _ | exact B0.out.drew)⟩

/-- Is the value what is wanted? -/
def isB (T : List (Int × List PV)) (v : PV) (q : Int) : Bool :=
  if q = 1 then v.k == 0 else if q = 2 then v.k == 1 else if q = 3 then v.k == 2 else if q = 4 then v.k == 3 else if q = 5 then v.k == 4 else if q = 6 then v.k == 6
  else if q = 7 then thB T v 0 else if q = 8 then thB T v 1 else if q = 9 then thB T v 2 else if q = 10 then thB T v 3 else if q = 11 then thB T v 4 else true
theorem want12 (q : Int) (h0 : 0 ≤ q) (h1 : q ≤ 11) : q = 0 ∨ q = 1 ∨ q = 2 ∨ q = 3 ∨ q = 4 ∨ q = 5 ∨ q = 6 ∨ q = 7 ∨ q = 8 ∨ q = 9 ∨ q = 10 ∨ q = 11 := by omega
set_option maxHeartbeats 2000000 in
theorem is_any (k i : Int) (s : ByteArray) (q : Int) (h0 : 0 ≤ q) (h1 : q ≤ 11) (hb : Nat) (T : List (Int × List PV)) (F : Nat → Prop) (w : World) (h : HeapM w hb T F) (hi : InT T ⟨k, i, s⟩) :
    Calls Tryd.prog 28 #[.pointer (some ⟨hb, 0, none⟩), .agg #[.int .i64 k, .int .i64 i, .string s], .int .i64 q] w fun e w' => e = .returned (.bool (isB T ⟨k, i, s⟩ q)) ∧ Below w.heap.size w w' := by
  have B0 := Lib.hid ((Below.refl w.heap.size w).alloc (Nat.le_refl _) (.cells #[.int .i64 k, .int .i64 i, .string s] 36))
  have KT := Lib.hid (fun kd => isThing_any k i s kd hb T F _ (h.below B0.out) hi)
  clear h hi
  rcases want12 q h0 h1 with rfl | rfl | rfl | rfl | rfl | rfl | rfl | rfl | rfl | rfl | rfl | rfl
  all_goals
    go_enter Tryd.func28, Tryd.ntmps28
    go_wp2_with (go_at_call 48; ((with_reducible refine (KT.out _).mono ?_); rintro e w1 ⟨rfl, hb1⟩))
    go_ret
    first
      | exact ⟨rfl, B0.out⟩
      | exact ⟨rfl, B0.out.trans (hb1.mono B0.out.size)⟩

/-- The part of a thing. -/
def partT (T : List (Int × List PV)) (v : PV) (at_ : Int) : PV × Int :=
  match T[v.i.toNat]? with
  | some t => if 0 ≤ at_ then (match t.2[at_.toNat]? with | some u => (u, 0) | none => (⟨0, 0, ⟨#[]⟩⟩, 83)) else (⟨0, 0, ⟨#[]⟩⟩, 83)
  | none => (⟨0, 0, ⟨#[]⟩⟩, 83)
end Go.Proofs.YtpejhilfopjckaaDoor.Hp

/-
A part of a thing, read and written, in memory; how functions that answer values end; package heap's part and put. No condition but that the heap lies in memory, and that the value is a thing of its own.
-/
namespace Go.Proofs.YtpejhilfopjckaaDoor.Hp
open Go.ChangeShapes Go.WideShapes Go.ChangeAt Go.RowKit Go.Deep
open Dat (PT ok64 RepV RepS RowX infoDatum)
set_option maxRecDepth 100000

theorem vCells_set : ∀ (l : List PV) (i : Nat) (u : PV), vCells (l.set i u) = if i < l.length then (((vCells l).set (i * 3) (.int .i64 u.k)).set (i * 3 + 1) (.int .i64 u.i)).set (i * 3 + 2) (.string u.s) else vCells l
  | [], i, u => by simp [vCells]
  | v :: l, 0, u => by simp [vCells]
  | v :: l, i + 1, u => by
    have := vCells_set l i u
    simp only [List.set_cons_succ, vCells, List.length_cons, this]
    by_cases h : i < l.length
    · rw [if_pos h, if_pos (by omega)]
      rw [show (i + 1) * 3 = i * 3 + 1 + 1 + 1 by omega, show i * 3 + 1 + 1 + 1 + 1 = i * 3 + 1 + 1 + 1 + 1 from rfl]
      simp only [List.set_cons_succ]
    · rw [if_neg h, if_neg (by omega)]
/-- The value u in the place of a part. -/
def setT (T : List (Int × List PV)) (j i : Nat) (u : PV) : List (Int × List PV) := match T[j]? with | some t => T.set j (t.1, t.2.set i u) | none => T
theorem setT_len (T : List (Int × List PV)) (j i : Nat) (u : PV) : (setT T j i u).length = T.length := by unfold setT; split <;> simp
theorem setT_get {T : List (Int × List PV)} {j i : Nat} {u : PV} (hj : j < T.length) (k : Nat) (hk : k < (setT T j i u).length) : (setT T j i u)[k] = if k = j then (T[j].1, T[j].2.set i u) else T[k]'(by rw [setT_len] at hk; exact hk) := by
  have e : setT T j i u = T.set j (T[j].1, T[j].2.set i u) := by unfold setT; rw [List.getElem?_eq_getElem hj]
  simp only [e, List.getElem_set]
  by_cases h : j = k
  · rw [if_pos h, if_pos h.symm]
  · rw [if_neg h, if_neg (fun e => h e.symm)]
def set3 (w : World) (g o : Nat) (u : PV) : World := ((w.setCell ⟨g, o, none⟩ (.int .i64 u.k)).setCell ⟨g, o + 1, none⟩ (.int .i64 u.i)).setCell ⟨g, o + 2, none⟩ (.string u.s)
theorem set3_other {w : World} {g o : Nat} {u : PV} {b : Nat} (h : b ≠ g) : (set3 w g o u).heap[b]? = w.heap[b]? := by
  unfold set3
  rw [Below.heap_setCell _ _ _ _ h, Below.heap_setCell _ _ _ _ h, Below.heap_setCell _ _ _ _ h]
theorem set3_below {w : World} {g o : Nat} {u : PV} {C : Nat} (h : C ≤ g) : Below C w (set3 w g o u) :=
  ((((Below.refl C w).setCell (p := ⟨g, o, none⟩) h _).setCell (p := ⟨g, o + 1, none⟩) h _).setCell (p := ⟨g, o + 2, none⟩) h _)
theorem set3_same {w : World} {g o : Nat} {u : PV} {cur : Array Value} {t : TypeId} (h : w.heap[g]? = some (.cells cur t (0, 0))) :
    (set3 w g o u).heap[g]? = some (.cells (((cur.setIfInBounds o (.int .i64 u.k)).setIfInBounds (o + 1) (.int .i64 u.i)).setIfInBounds (o + 2) (.string u.s)) t (0, 0)) :=
  heap_setCell_same _ g (o + 2) _ t _ (heap_setCell_same _ g (o + 1) _ t _ (heap_setCell_same w g o _ t _ h))
theorem set_ne_nil {l : List PV} {i : Nat} {u : PV} : l.set i u ≠ [] ↔ l ≠ [] := by
  cases l <;> cases i <;> simp
/-- What is known of each thing of a heap. -/
abbrev Each (w : World) (T : List (Int × List PV)) (F : Nat → Prop) (xs : List Value) (g : Nat → Nat) (pv mv : Nat → Value) : Prop :=
  ∀ j (h : j < T.length), PieceAt xs j T[j] (pv j) (mv j) ∧ ok64 T[j].1 ∧ Piece w T[j] (g j) (pv j) (mv j) ∧ (T[j].2 ≠ [] → F (g j)) ∧ (∀ b, mv j = .map (some b) → F b) ∧
      ∀ k (hk : k < T.length), j ≠ k → (T[j].2 ≠ [] → T[k].2 ≠ [] → g j ≠ g k) ∧ (mv j = mv k → mv j = .map none)
/-- A heap of which one thing has changed. -/
theorem HeapM.upd {w w' : World} {hb : Nat} {T T' : List (Int × List PV)} {F F' : Nat → Prop} {sv : Value} {xs xs' : List Value} {g : Nat → Nat} {pv mv : Nat → Value} {j : Nat} {mv' : Value}
    (h5 : Each w T F xs g pv mv) (hl : T'.length = T.length) (hj : j < T.length) (he : ∀ k (hk : k < T.length), k ≠ j → T'[k]'(by omega) = T[k]) (hj1 : (T'[j]'(by omega)).1 = T[j].1) (hj2 : (T'[j]'(by omega)).2.length = T[j].2.length)
    (hx : ∀ k v, k ≠ j * 4 + 3 → xs[k]? = some v → xs'[k]? = some v) (hxj : xs'[j * 4 + 3]? = some mv') (hp : Piece w' (T'[j]'(by omega)) (g j) (pv j) mv')
    (ho : ∀ k (hk : k < T.length), k ≠ j → T[k].2 ≠ [] → w'.heap[g k]? = w.heap[g k]?) (hm : ∀ k (_ : k < T.length), k ≠ j → ∀ b, mv k = .map (some b) → w'.heap[b]? = w.heap[b]?)
    (hn : ∀ k (_ : k < T.length), k ≠ j → mv' = mv k → mv' = .map none) (hb1 : w'.heap[hb]? = some (.cells #[sv] 57 (0, 0))) (hF : ∀ b, F b → F' b) (h2 : F hb)
    (hrow : w'.ownsRow 0 83 4 sv T.length xs') (h4 : ∀ b, sv.ownBlock = some b → F b) (hFm : ∀ b, mv' = .map (some b) → F' b) : HeapM w' hb T' F' := by
  have nn : ∀ (k : Nat) (hk : k < T.length), (T'[k]'(by omega)).2 ≠ [] → T[k].2 ≠ [] := fun k hk h0 => by
    by_cases e : k = j
    · subst e
      intro e2
      rw [e2] at hj2
      exact h0 (List.length_eq_zero_iff.1 hj2)
    · rw [← he k hk e]; exact h0
  refine ⟨sv, xs', g, pv, fun k => if k = j then mv' else mv k, hb1, hF _ h2, by rw [hl]; exact hrow, fun b hb => hF _ (h4 b hb), fun k hk => ?_⟩
  have hk' : k < T.length := by omega
  obtain ⟨⟨a1, a2, a3, a4⟩, a5, a6, a7, a8, a9⟩ := h5 k hk'
  have hgg : ∀ m (hm : m < T'.length), k ≠ m → T'[k].2 ≠ [] → T'[m].2 ≠ [] → g k ≠ g m := fun m hm hkm q1 q2 => (a9 m (by omega) hkm).1 (nn k hk' q1) (nn m (by omega) q2)
  by_cases e : k = j
  · subst e
    refine ⟨⟨by rw [hj1]; exact hx _ _ (by omega) a1, by rw [hj2]; exact hx _ _ (by omega) a2, hx _ _ (by omega) a3, by dsimp only; rw [if_pos rfl]; exact hxj⟩, by rw [hj1]; exact a5, by dsimp only; rw [if_pos rfl]; exact hp, fun q => hF _ (a7 (nn k hk' q)), fun b hb => hFm b (by simpa using hb), fun m hm hkm => ⟨hgg m hm hkm, fun q => ?_⟩⟩
    dsimp only at q ⊢
    rw [if_pos rfl] at q ⊢
    rw [if_neg (fun e => hkm e.symm)] at q
    exact hn m (by omega) (fun e => hkm e.symm) q
  · have ee := he k hk' e
    refine ⟨⟨by rw [ee]; exact hx _ _ (by omega) a1, by rw [ee]; exact hx _ _ (by omega) a2, hx _ _ (by omega) a3, by dsimp only; rw [if_neg e]; exact hx _ _ (by omega) a4⟩, by rw [ee]; exact a5, by dsimp only; rw [ee, if_neg e]; exact a6.move (ho k hk' e) (hm k hk' e), fun q => hF _ (a7 (nn k hk' q)), fun b hb => hF _ (a8 b (by simpa [e] using hb)), fun m hm hkm => ⟨hgg m hm hkm, fun q => ?_⟩⟩
    dsimp only at q ⊢
    rw [if_neg e] at q ⊢
    by_cases em : m = j
    · rw [if_pos em] at q
      rw [q]
      exact hn k hk' e q.symm
    · rw [if_neg em] at q
      exact (a9 m (by omega) hkm).2 q
/-- How a part is read: what the look into the map answers; where it has none, what lies in the row. -/
theorem HeapM.part {w : World} {hb : Nat} {T : List (Int × List PV)} {F : Nat → Prop} (h : HeapM w hb T F) (j : Nat) (hj : j < T.length) (i : Nat) (hi : i < T[j].2.length) :
    ∃ tb cap g nf cp mv, w.cell? ⟨hb, 0, none⟩ = some (.slice (some ⟨tb, 0, none⟩) T.length cap) ∧ T.length ≤ cap ∧ cap ≤ maxLen ∧ w.cell? ⟨tb, j * 4 + 1, none⟩ = some (.int .i64 (T[j].2.length : Int)) ∧ w.cell? ⟨tb, j * 4 + 2, none⟩ = some (.slice (some ⟨g, 0, none⟩) nf cp) ∧ w.cell? ⟨tb, j * 4 + 3, none⟩ = some mv ∧ nf ≤ cp ∧ cp ≤ maxLen ∧ okV T[j].2[i] ∧
      ((∃ q : PV, (∀ W : World, Below w.heap.size w W → (Instr.lookup 81 mv (.int .i64 i) true).run Tryd.prog W = .ok (.tuple #[q.val, .bool false]) W) ∧ ∃ c : Nat, c < nf ∧ min (i : Int) ((nf : Int) - 1) = c ∧
          w.cell? ⟨g, c * 3, none⟩ = some (.int .i64 T[j].2[i].k) ∧ w.cell? ⟨g, c * 3 + 1, none⟩ = some (.int .i64 T[j].2[i].i) ∧ w.cell? ⟨g, c * 3 + 2, none⟩ = some (.string T[j].2[i].s)) ∨
       (∀ W : World, Below w.heap.size w W → (Instr.lookup 81 mv (.int .i64 i) true).run Tryd.prog W = .ok (.tuple #[T[j].2[i].val, .bool true]) W)) := by
  obtain ⟨tb, cap, g, pv, mv, a1, a2, a3, _, a5, a6, a7, _, a9, _, _⟩ := h.thing j hj
  have hne : T[j].2 ≠ [] := fun e => by rw [e] at hi; cases hi
  have nolook : ∀ W : World, (Instr.lookup 81 (.map none) (.int .i64 i) true).run Tryd.prog W = .ok (.tuple #[zP.val, .bool false]) W := fun W => rfl
  rcases a9 with ⟨rfl, hp⟩ | ⟨_, h0, _⟩ | ⟨h0, h1, h2, h3, p, hp, hm⟩
  · have hv := hp.at hne
    obtain ⟨v0, v1, v2, vo⟩ := hv.item i hi
    simp only [Nat.zero_add] at v0 v1 v2
    rcases hp with hp | ⟨_, ho, cp, cur, e, c1, c2, _⟩
    · exact absurd hp.1 hne
    subst e
    exact ⟨tb, cap, g, _, cp, _, a1, a2, a3, a5, a6, a7, c1, c2, vo, .inl ⟨zP, fun W _ => nolook W, i, hi, by omega, v0, v1, v2⟩⟩
  · exact absurd h0 hne
  · have hv := hp.at (by simp)
    obtain ⟨v0, v1, v2, vo⟩ := hv.item 0 (by simp)
    simp only [Nat.zero_add, Nat.zero_mul, List.getElem_cons_zero] at v0 v1 v2
    rcases hp with hp | ⟨_, ho, cp, cur, e, c1, c2, _⟩
    · exact absurd hp.1 (by simp)
    subst e
    have vk : okV T[j].2[i] := h3 _ (List.getElem_mem hi)
    refine ⟨tb, cap, g, _, cp, _, a1, a2, a3, a5, a6, a7, c1, c2, vk, ?_⟩
    rcases hm with ⟨rfl, hr⟩ | ⟨b, m, rfl, hM, hg⟩
    · have e : T[j].2[i] = p := List.eq_of_mem_replicate (n := T[j].2.length) (by rw [← hr]; exact List.getElem_mem hi)
      rw [e]
      exact .inl ⟨zP, fun W _ => nolook W, 0, by simp, (by simp only [List.length_cons, List.length_nil]; omega), by simpa using v0, by simpa using v1, by simpa using v2⟩
    · have e := hg i hi
      obtain ⟨es, c, q⟩ := hM.obj
      have lk : ∀ W : World, Below w.heap.size w W → _ := fun W hW => (hM.at (w' := W) (hW.block b (lt_of_block q))).look i hi h2
      cases hmi : m i with
      | none =>
        rw [hmi] at e lk
        rw [e]
        exact .inl ⟨_, lk, 0, by simp, (by simp only [List.length_cons, List.length_nil]; omega), by simpa using v0, by simpa using v1, by simpa using v2⟩
      | some u =>
        rw [hmi] at e lk
        rw [e]
        exact .inr lk
/-- How a part is put: into the row; or into the map, which is made where there is none. -/
theorem HeapM.put {w : World} {hb : Nat} {T : List (Int × List PV)} {F : Nat → Prop} (h : HeapM w hb T F) (j : Nat) (hj : j < T.length) (i : Nat) (hi : i < T[j].2.length) :
    ∃ tb cap g nf cp mv, w.cell? ⟨hb, 0, none⟩ = some (.slice (some ⟨tb, 0, none⟩) T.length cap) ∧ T.length ≤ cap ∧ cap ≤ maxLen ∧ w.cell? ⟨tb, j * 4 + 1, none⟩ = some (.int .i64 (T[j].2.length : Int)) ∧ w.cell? ⟨tb, j * 4 + 2, none⟩ = some (.slice (some ⟨g, 0, none⟩) nf cp) ∧ w.cell? ⟨tb, j * 4 + 3, none⟩ = some mv ∧ nf ≤ cp ∧ cp ≤ maxLen ∧ F tb ∧ (∀ o, w.frozen? ⟨tb, o, none⟩ = false) ∧
      ((nf = T[j].2.length ∧ F g ∧ g < w.heap.size ∧ (∀ o, w.frozen? ⟨g, o, none⟩ = false) ∧ (∃ y0 y1 y2, w.cell? ⟨g, i * 3, none⟩ = some y0 ∧ w.cell? ⟨g, i * 3 + 1, none⟩ = some y1 ∧ w.cell? ⟨g, i * 3 + 2, none⟩ = some y2) ∧ ∀ u, okV u → HeapM (set3 w g (i * 3) u) hb (setT T j i u) F ∧ Stp F w F (set3 w g (i * 3) u)) ∨
       (nf ≠ T[j].2.length ∧ mv = .map none ∧ ((∀ b, F b → b < w.heap.size) → HeapM ((w.alloc (.map #[] 0)).setCell ⟨tb, j * 4 + 3, none⟩ (.map (some w.heap.size))) hb T (fun b => F b ∨ b = w.heap.size))) ∨
       (nf ≠ T[j].2.length ∧ ∃ b, mv = .map (some b) ∧ F b ∧ ∀ u, okV u → ∃ w', (Instr.mapUpdate 81 mv (.int .i64 i) u.val).run Tryd.prog w = .ok () w' ∧ w.mapTurned w' b ∧ HeapM w' hb (setT T j i u) F)) := by
  obtain ⟨sv, xs, g, pv, mv, h1, h2, h3, h4, h5⟩ := h
  obtain ⟨⟨a1, a7, a2, a8⟩, a3, a4, a5, a6, a9⟩ := h5 j hj
  have hne : T[j].2 ≠ [] := fun e => by rw [e] at hi; cases hi
  have hF := a5 hne
  rcases h3.2 with ⟨_, h0⟩ | ⟨tb, cap, ct, rfl, b1, b2, b3, b4, b5, b6⟩
  · omega
  have hl : ∀ u, (setT T j i u).length = T.length := fun u => setT_len T j i u
  have he : ∀ u k (hk : k < T.length), k ≠ j → (setT T j i u)[k]'(by rw [hl]; exact hk) = T[k] := fun u k hk e => by rw [setT_get hj]; exact if_neg e
  have hjj : ∀ u, (setT T j i u)[j]'(by rw [hl]; exact hj) = (T[j].1, T[j].2.set i u) := fun u => by rw [setT_get hj]; exact if_pos rfl
  have hrow : ∀ {w' : World}, w'.heap[tb]? = w.heap[tb]? → w'.ownsRow 0 83 4 (.slice (some ⟨tb, 0, none⟩) T.length cap) T.length xs := fun hq => ⟨h3.1, .inr ⟨tb, cap, ct, rfl, b1, hq.trans b2, b3, b4, b5, b6⟩⟩
  have c0 : w.cell? ⟨hb, 0, none⟩ = some (.slice (some ⟨tb, 0, none⟩) T.length cap) := by rw [Lib.cell_of_heap h1]; rfl
  have c1 : w.cell? ⟨tb, j * 4 + 1, none⟩ = some (.int .i64 (T[j].2.length : Int)) := by rw [Lib.cell_of_heap b2]; exact take_at b6 a7
  have c2 : w.cell? ⟨tb, j * 4 + 2, none⟩ = some (pv j) := by rw [Lib.cell_of_heap b2]; exact take_at b6 a2
  have c3 : w.cell? ⟨tb, j * 4 + 3, none⟩ = some (mv j) := by rw [Lib.cell_of_heap b2]; exact take_at b6 a8
  have ft : ∀ o, w.frozen? ⟨tb, o, none⟩ = false := fun o => Lib.frozen_of_heap b2 o
  have hFt : F tb := h4 tb rfl
  rcases a4 with ⟨e, hp⟩ | ⟨_, h0, _⟩ | ⟨k0, k1, k2, k3, p, hp, hm⟩
  · have hv := hp.at hne
    obtain ⟨v0, v1, v2, vo⟩ := hv.item i hi
    simp only [Nat.zero_add] at v0 v1 v2
    rcases hp with hp | ⟨_, ho, cp, cur, ev, d1, d2, d3, d4, d5⟩
    · exact absurd hp.1 hne
    have ghb : hb ≠ g j := by
      intro e
      rw [e, d3] at h1
      exact absurd (Obj.cells.inj (Option.some.inj h1)).2.1 (by decide)
    have gtb : tb ≠ g j := by
      intro e
      rw [e, d3] at b2
      exact absurd (Obj.cells.inj (Option.some.inj b2)).2.1 (by decide)
    rw [ev] at c2
    rw [e] at c3
    refine ⟨tb, cap, g j, _, cp, _, c0, b3, b4, c1, c2, c3, d1, d2, hFt, ft, .inl ⟨rfl, hF, lt_of_block d3, fun o => Lib.frozen_of_heap d3 o, ⟨_, _, _, v0, v1, v2⟩, fun u hu => ⟨?_, ⟨set3_below (Nat.zero_le _), fun b _ hb => set3_other (fun e => hb (e ▸ hF))⟩, fun b hb => .inl hb⟩⟩⟩
    refine HeapM.upd (mv' := mv j) h5 (hl u) hj (he u) (by rw [hjj]) (by rw [hjj, List.length_set]) (fun _ _ _ q => q) a8 ?_ (fun k hk ek hn => set3_other ((a9 k hk (fun e => ek e.symm)).1 hne hn).symm) (fun k hk ek b eb => ?_) (fun k hk ek q => (a9 k hk (fun e => ek e.symm)).2 q) ((set3_other ghb).trans h1) (fun _ q => q) h2 (hrow (set3_other gtb)) h4 a6
    · rw [hjj, e]
      refine .inl ⟨rfl, .inr ⟨set_ne_nil.2 hne, fun x hx => ?_, cp, _, by rw [List.length_set]; exact ev, by rw [List.length_set]; exact d1, d2, set3_same d3, by simpa using d4, ?_⟩⟩
      · rcases List.mem_or_eq_of_mem_set hx with hx | rfl
        · exact ho x hx
        · exact hu
      · simp only [Array.toList_setIfInBounds, List.length_set]
        rw [List.take_set, List.take_set, List.take_set, d5, vCells_set, if_pos hi]
    · obtain ⟨es, cl, q⟩ := (h5 k hk).2.2.1.obj eb
      refine set3_other fun e => ?_
      rw [e, d3] at q
      cases q
  · exact absurd h0 hne
  · rcases hp with hp | ⟨pn, ho, cp, cur, ev, d1, d2, d3, d4, d5⟩
    · exact absurd hp.1 (by simp)
    rw [ev] at c2
    have hp : PartsM w [p] (g j) (pv j) := .inr ⟨pn, ho, cp, cur, ev, d1, d2, d3, d4, d5⟩
    have hnf : [p].length ≠ T[j].2.length := by simp only [List.length_cons, List.length_nil]; omega
    rcases hm with ⟨em, hr⟩ | ⟨b, m, em, hM, hg⟩
    · rw [em] at c3
      refine ⟨tb, cap, g j, _, cp, _, c0, b3, b4, c1, c2, c3, d1, d2, hFt, ft, .inr (.inl ⟨hnf, rfl, fun hlt => ?_⟩)⟩
      have oth : ∀ b, b < w.heap.size → b ≠ tb → ((w.alloc (.map #[] 0)).setCell ⟨tb, j * 4 + 3, none⟩ (.map (some w.heap.size))).heap[b]? = w.heap[b]? := fun b hb n1 => by
        rw [Below.heap_setCell _ _ _ _ n1]
        exact Below.heap_alloc w _ b hb
      have hbt : hb ≠ tb := by
        intro e
        rw [e, b2] at h1
        exact absurd (Obj.cells.inj (Option.some.inj h1)).2.1 (by decide)
      have hgt : ∀ k (hk : k < T.length), T[k].2 ≠ [] → g k ≠ tb ∧ g k < w.heap.size := fun k hk q => by
        obtain ⟨cu, q⟩ := (h5 k hk).2.2.1.cells q
        refine ⟨fun e => ?_, lt_of_block q⟩
        rw [e, b2] at q
        exact absurd (Obj.cells.inj (Option.some.inj q)).2.1 (by decide)
      have hmt : ∀ k (_ : k < T.length) b, mv k = .map (some b) → b ≠ tb ∧ b < w.heap.size := fun k hk b eb => by
        obtain ⟨es, cl, q⟩ := (h5 k hk).2.2.1.obj eb
        refine ⟨fun e => ?_, lt_of_block q⟩
        rw [e, b2] at q
        cases q
      have htl := lt_of_block b2
      have hnew : ((w.alloc (.map #[] 0)).setCell ⟨tb, j * 4 + 3, none⟩ (.map (some w.heap.size))).heap[w.heap.size]? = some (.map #[] 0) := by
        rw [Below.heap_setCell _ _ _ _ (show w.heap.size ≠ tb by omega)]
        exact heap_alloc_new w _
      have hxl : j * 4 + 3 < xs.length := (List.getElem?_eq_some_iff.1 a8).1
      refine HeapM.upd (xs' := xs.set (j * 4 + 3) (.map (some w.heap.size))) (mv' := .map (some w.heap.size)) h5 rfl hj (fun _ _ _ => rfl) rfl rfl (fun k v hk q => by rw [List.getElem?_set_ne (fun e => hk e.symm)]; exact q) (by rw [List.getElem?_set_self hxl]) ?_ (fun k hk _ hn => oth _ (hgt k hk hn).2 (hgt k hk hn).1) (fun k hk _ b eb => oth _ (hmt k hk b eb).2 (hmt k hk b eb).1) (fun k hk _ q => ?_) ((oth _ (lt_of_block h1) hbt).trans h1) (fun _ q => .inl q) h2 ?_ h4 (fun b eb => .inr (by cases eb; rfl))
      · refine .inr (.inr ⟨k0, k1, k2, k3, p, hp.move fun _ => oth _ (hgt j hj hne).2 (hgt j hj hne).1, .inr ⟨_, fun _ => none, rfl, (MapP.made w T[j].2.length).at (hnew.trans (heap_alloc_new w _).symm), fun i hi => ?_⟩⟩)
        show T[j].2[i] = p
        exact List.eq_of_mem_replicate (n := T[j].2.length) (by rw [← hr]; exact List.getElem_mem hi)
      · have := (hmt k hk _ q.symm).2
        omega
      · refine ⟨by rw [List.length_set]; exact h3.1, .inr ⟨tb, cap, _, rfl, b1, heap_setCell_same _ tb (j * 4 + 3) ct _ _ ((Below.heap_alloc w _ tb htl).trans b2), b3, b4, by simpa using b5, ?_⟩⟩
        simp only [Array.toList_setIfInBounds]
        rw [List.take_set, b6]
    · rw [em] at c3
      have hFb := a6 b em
      obtain ⟨es, cl, hob⟩ := hM.obj
      refine ⟨tb, cap, g j, _, cp, _, c0, b3, b4, c1, c2, c3, d1, d2, hFt, ft, .inr (.inr ⟨hnf, b, rfl, hFb, fun u hu => ?_⟩)⟩
      obtain ⟨w', hrun, hM', hturn⟩ := hM.store k2 i hi u
      refine ⟨w', hrun, hturn, ?_⟩
      have oth : ∀ c, c ≠ b → w'.heap[c]? = w.heap[c]? := by
        obtain ⟨es0, cl0, es', cl', q1, rfl⟩ := hturn
        exact fun c hc => Go.ChangeMaps.heap_setBlock_other q1 _ hc
      have cne : ∀ {c : Nat} {x : Array Value} {t : TypeId} {f : Nat × Nat}, w.heap[c]? = some (.cells x t f) → c ≠ b := fun q e => by
        rw [e, hob] at q
        cases q
      refine HeapM.upd (mv' := mv j) h5 (hl u) hj (he u) (by rw [hjj]) (by rw [hjj, List.length_set]) (fun _ _ _ q => q) a8 ?_ (fun k hk ek hn => ?_) (fun k hk ek c ec => ?_) (fun k hk ek q => (a9 k hk (fun e => ek e.symm)).2 q) ((oth _ (cne h1)).trans h1) (fun _ q => q) h2 (hrow (oth _ (cne b2))) h4 a6
      · rw [hjj, em]
        refine .inr (.inr ⟨k0, by rw [List.length_set]; exact k1, by rw [List.length_set]; exact k2, fun x hx => ?_, p, hp.move fun _ => oth _ (cne d3), .inr ⟨b, _, rfl, by rw [List.length_set]; exact hM', fun i' hi' => ?_⟩⟩)
        · rcases List.mem_or_eq_of_mem_set hx with hx | rfl
          · exact k3 x hx
          · exact hu
        · simp only [List.getElem_set]
          by_cases ei : i = i'
          · subst ei
            rw [if_pos rfl]
            simp [setN]
          · rw [if_neg ei]
            simp only [List.length_set] at hi'
            rw [show setN m i u i' = m i' from if_neg (fun e => ei e.symm)]
            exact hg i' hi'
      · obtain ⟨cu, q⟩ := (h5 k hk).2.2.1.cells hn
        exact oth _ (cne q)
      · refine oth c fun e => ?_
        subst e
        have := (a9 k hk (fun e => ek e.symm)).2 (em.trans ec.symm)
        rw [em] at this
        cases this

/-! ### how a function ends whose first result is a value -/
theorem res_v {fn : Func} {p : Tmp} (h : fn.results = #[.cell p 36]) (tmps : Array Value) (w : World) (g : Nat) (a b c : Value)
    (hp : tmps.getD p undef = .pointer (some ⟨g, 0, none⟩)) (hg : w.heap[g]? = some (.cells #[a, b, c] 36 (0, 0))) : (results fn tmps).run Tryd.prog w = .ok (.agg #[a, b, c]) w :=
  results_cell_row (P := Tryd.prog) h tmps w g 36 _ (0, 0) _ hp hg Tryd.underlying36 rfl (by kernel_rfl)
theorem res_ve {fn : Func} {t p : Tmp} (h : fn.results = #[.cell p 36, .tmp t]) (tmps : Array Value) (w : World) (g : Nat) (a b c : Value)
    (hp : tmps.getD p undef = .pointer (some ⟨g, 0, none⟩)) (hg : w.heap[g]? = some (.cells #[a, b, c] 36 (0, 0))) : (results fn tmps).run Tryd.prog w = .ok (.tuple #[.agg #[a, b, c], tmps.getD t undef]) w := by
  have hp' : tmps[p]?.getD undef = .pointer (some ⟨g, 0, none⟩) := by simpa using hp
  have hi : (Tryd.prog.info? 36).map (·.size) = some (#[a, b, c] : Array Value).size := by kernel_rfl
  simp [results, h, hp', asAddr, run_loadVar_row w g 36 36 #[a, b, c] (0, 0) _ hg Tryd.underlying36 rfl hi]
theorem look3 {W : World} {g : Nat} {t : TypeId} {x0 x1 x2 : Value} (hb : W.heap[g]? = some (.cells #[x0, x1, x2] t (0, 0))) :
    (W.cell? ⟨g, 0, none⟩ = some x0 ∧ W.cell? ⟨g, 1, none⟩ = some x1 ∧ W.cell? ⟨g, 2, none⟩ = some x2) ∧ (W.frozen? ⟨g, 0, none⟩ = false ∧ W.frozen? ⟨g, 1, none⟩ = false ∧ W.frozen? ⟨g, 2, none⟩ = false) := by
  refine ⟨⟨?_, ?_, ?_⟩, ?_, ?_, ?_⟩
  all_goals first | (rw [Lib.cell_of_heap hb]; rfl) | (simp [World.frozen?, hb])
theorem put3 {W : World} {g : Nat} {t : TypeId} {x0 x1 x2 : Value} (hb : W.heap[g]? = some (.cells #[x0, x1, x2] t (0, 0))) (y0 y1 y2 : Value) :
    (((W.setCell ⟨g, 0, none⟩ y0).setCell ⟨g, 1, none⟩ y1).setCell ⟨g, 2, none⟩ y2).heap[g]? = some (.cells #[y0, y1, y2] t (0, 0)) :=
  heap_setCell_same _ g 2 _ t y2 (heap_setCell_same _ g 1 _ t y1 (heap_setCell_same W g 0 _ t y0 hb))
theorem put3_below {C : Nat} {a W : World} (h : Below C a W) {g : Nat} (hg : C ≤ g) (y0 y1 y2 : Value) : Below C a (((W.setCell ⟨g, 0, none⟩ y0).setCell ⟨g, 1, none⟩ y1).setCell ⟨g, 2, none⟩ y2) :=
  ((h.setCell (p := ⟨g, 0, none⟩) hg _).setCell (p := ⟨g, 1, none⟩) hg _).setCell (p := ⟨g, 2, none⟩) hg _
theorem put3_other {W : World} {g : Nat} (y0 y1 y2 : Value) {b : Nat} (h : b ≠ g) : (((W.setCell ⟨g, 0, none⟩ y0).setCell ⟨g, 1, none⟩ y1).setCell ⟨g, 2, none⟩ y2).heap[b]? = W.heap[b]? := by
  rw [Below.heap_setCell _ _ _ _ h, Below.heap_setCell _ _ _ _ h, Below.heap_setCell _ _ _ _ h]
theorem two_new (w : World) (o p : Obj) : ((w.alloc o).alloc p).heap[w.heap.size]? = some o ∧ ((w.alloc o).alloc p).heap[w.heap.size + 1]? = some p ∧ Below w.heap.size w ((w.alloc o).alloc p) := by
  refine ⟨?_, ?_, ((Below.refl _ _).alloc (Nat.le_refl _) _).alloc (by rw [size_new]; omega) _⟩
  · exact (Below.heap_alloc (w.alloc o) p w.heap.size (by rw [size_new]; omega)).trans (heap_alloc_new w o)
  · have := heap_alloc_new (w.alloc o) p
    rwa [size_new] at this
theorem number_any (n : Int) (w : World) :
    Calls Tryd.prog 73 #[.int .i64 n] w fun e w' => e = .returned (.agg #[.int .i64 1, .int .i64 n, .string ⟨#[]⟩]) ∧ Below w.heap.size w w' := by
  go_enter Tryd.func73, Tryd.ntmps73
  go_wp2
  exact bodyPost_ret (res_v rfl _ _ w.heap.size _ _ _ rfl (heap_alloc_new w _)) rfl ⟨rfl, (Below.refl _ _).alloc (Nat.le_refl _) _⟩
theorem num_any (n : Int) (w : World) :
    Calls Tryd.prog 18 #[.int .i64 n] w fun e w' => e = .returned (.agg #[.int .i64 1, .int .i64 n, .string ⟨#[]⟩]) ∧ Below w.heap.size w w' := by
  go_enter Tryd.func18, Tryd.ntmps18
  go_wp2
  exact bodyPost_ret (res_v rfl _ _ w.heap.size _ _ _ rfl (heap_alloc_new w _)) rfl ⟨rfl, (Below.refl _ _).alloc (Nat.le_refl _) _⟩
theorem char_any (n : Int) (w : World) :
    Calls Tryd.prog 70 #[.int .i64 n] w fun e w' => e = .returned (.agg #[.int .i64 2, .int .i64 n, .string ⟨#[]⟩]) ∧ Below w.heap.size w w' := by
  go_enter Tryd.func70, Tryd.ntmps70
  go_wp2
  exact bodyPost_ret (res_v rfl _ _ w.heap.size _ _ _ rfl (heap_alloc_new w _)) rfl ⟨rfl, (Below.refl _ _).alloc (Nat.le_refl _) _⟩
theorem truth_any (b : Bool) (w : World) :
    Calls Tryd.prog 75 #[.bool b] w fun e w' => e = .returned (.agg #[.int .i64 0, .int .i64 (if b then 1 else 0), .string ⟨#[]⟩]) ∧ Below w.heap.size w w' := by
  cases b
  all_goals
    go_enter Tryd.func75, Tryd.ntmps75
    go_wp2
    exact bodyPost_ret (res_v rfl _ _ w.heap.size _ _ _ rfl (two_new w _ _).1) rfl ⟨rfl, (two_new w _ _).2.2⟩
end Go.Proofs.YtpejhilfopjckaaDoor.Hp
