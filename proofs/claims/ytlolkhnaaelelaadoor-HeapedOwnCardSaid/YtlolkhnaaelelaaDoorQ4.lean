/-
A part of a thing, read and written, in memory; how functions that answer values end; package heap's part and put. No condition but that the heap lies in memory, and that the value is a thing of its own.
-/
import Derived.Test.YtlolkhnaaelelaaDoorQ3
namespace Go.Proofs.YtlolkhnaaelelaaDoor.Hp
open Go.ChangeShapes Go.WideShapes Go.ChangeAt Go.RowKit Go.Deep
open Dat (PT ok64 RepV RepS RowX infoDatum)
set_option maxRecDepth 100000

theorem vCells_set : ∀ (l : List PV) (i : Nat) (u : PV), vCells (l.set i u) = if i < l.length then (((vCells l).set (i * 3) (.int .i64 u.k)).set (i * 3 + 1) (.int .i64 u.i)).set (i * 3 + 2) (.string u.s) else vCells l
  | [], i, u => by simp [vCells]
  | v :: l, 0, u => by simp [vCells]
  | v :: l, i + 1, u => by
    have := vCells_set l i u
    simp only [List.set_cons_succ, vCells, List.length_cons, this]
    by_cases h : i < l.length
    · rw [if_pos h, if_pos (by omega)]
      rw [show (i + 1) * 3 = i * 3 + 1 + 1 + 1 by omega, show i * 3 + 1 + 1 + 1 + 1 = i * 3 + 1 + 1 + 1 + 1 from rfl]
      simp only [List.set_cons_succ]
    · rw [if_neg h, if_neg (by omega)]
/-- The value u in the place of a part. -/
def setT (T : List (Int × List PV)) (j i : Nat) (u : PV) : List (Int × List PV) := match T[j]? with | some t => T.set j (t.1, t.2.set i u) | none => T
theorem setT_len (T : List (Int × List PV)) (j i : Nat) (u : PV) : (setT T j i u).length = T.length := by unfold setT; split <;> simp
theorem setT_get {T : List (Int × List PV)} {j i : Nat} {u : PV} (hj : j < T.length) (k : Nat) (hk : k < (setT T j i u).length) : (setT T j i u)[k] = if k = j then (T[j].1, T[j].2.set i u) else T[k]'(by rw [setT_len] at hk; exact hk) := by
  have e : setT T j i u = T.set j (T[j].1, T[j].2.set i u) := by unfold setT; rw [List.getElem?_eq_getElem hj]
  simp only [e, List.getElem_set]
  by_cases h : j = k
  · rw [if_pos h, if_pos h.symm]
  · rw [if_neg h, if_neg (fun e => h e.symm)]
def set3 (w : World) (g o : Nat) (u : PV) : World := ((w.setCell ⟨g, o, none⟩ (.int .i64 u.k)).setCell ⟨g, o + 1, none⟩ (.int .i64 u.i)).setCell ⟨g, o + 2, none⟩ (.string u.s)
theorem set3_other {w : World} {g o : Nat} {u : PV} {b : Nat} (h : b ≠ g) : (set3 w g o u).heap[b]? = w.heap[b]? := by
  unfold set3
  rw [Below.heap_setCell _ _ _ _ h, Below.heap_setCell _ _ _ _ h, Below.heap_setCell _ _ _ _ h]
theorem set3_below {w : World} {g o : Nat} {u : PV} {C : Nat} (h : C ≤ g) : Below C w (set3 w g o u) :=
  ((((Below.refl C w).setCell (p := ⟨g, o, none⟩) h _).setCell (p := ⟨g, o + 1, none⟩) h _).setCell (p := ⟨g, o + 2, none⟩) h _)
theorem set3_size {w : World} {g o : Nat} {u : PV} : (set3 w g o u).heap.size = w.heap.size := by unfold set3; simp [World.setCell]
theorem set3_same {w : World} {g o : Nat} {u : PV} {cur : Array Value} {t : TypeId} (h : w.heap[g]? = some (.cells cur t (0, 0))) :
    (set3 w g o u).heap[g]? = some (.cells (((cur.setIfInBounds o (.int .i64 u.k)).setIfInBounds (o + 1) (.int .i64 u.i)).setIfInBounds (o + 2) (.string u.s)) t (0, 0)) :=
  heap_setCell_same _ g (o + 2) _ t _ (heap_setCell_same _ g (o + 1) _ t _ (heap_setCell_same w g o _ t _ h))
theorem set_ne_nil {l : List PV} {i : Nat} {u : PV} : l.set i u ≠ [] ↔ l ≠ [] := by
  cases l <;> cases i <;> simp
/-- What is known of each thing of a heap. -/
abbrev Each (w : World) (T : List (Int × List PV)) (F : Nat → Prop) (xs : List Value) (g : Nat → Nat) (pv mv : Nat → Value) : Prop :=
  ∀ j (h : j < T.length), PieceAt xs j T[j] (pv j) (mv j) ∧ ok64 T[j].1 ∧ Piece w T[j] (g j) (pv j) (mv j) ∧ (T[j].2 ≠ [] → F (g j)) ∧ (∀ b, mv j = .map (some b) → F b) ∧
      ∀ k (hk : k < T.length), j ≠ k → (T[j].2 ≠ [] → T[k].2 ≠ [] → g j ≠ g k) ∧ (mv j = mv k → mv j = .map none)
/-- A heap of which one thing has changed. -/
theorem HeapM.upd {w w' : World} {hb : Nat} {T T' : List (Int × List PV)} {F F' : Nat → Prop} {sv : Value} {xs xs' : List Value} {g : Nat → Nat} {pv mv : Nat → Value} {j : Nat} {mv' : Value}
    (h5 : Each w T F xs g pv mv) (hl : T'.length = T.length) (hj : j < T.length) (he : ∀ k (hk : k < T.length), k ≠ j → T'[k]'(by omega) = T[k]) (hj1 : (T'[j]'(by omega)).1 = T[j].1) (hj2 : (T'[j]'(by omega)).2.length = T[j].2.length)
    (hx : ∀ k v, k ≠ j * 4 + 3 → xs[k]? = some v → xs'[k]? = some v) (hxj : xs'[j * 4 + 3]? = some mv') (hp : Piece w' (T'[j]'(by omega)) (g j) (pv j) mv')
    (ho : ∀ k (hk : k < T.length), k ≠ j → T[k].2 ≠ [] → w'.heap[g k]? = w.heap[g k]?) (hm : ∀ k (_ : k < T.length), k ≠ j → ∀ b, mv k = .map (some b) → w'.heap[b]? = w.heap[b]?)
    (hn : ∀ k (_ : k < T.length), k ≠ j → mv' = mv k → mv' = .map none) (hb1 : w'.heap[hb]? = some (.cells #[sv] 59 (0, 0))) (hF : ∀ b, F b → F' b) (h2 : F hb)
    (hrow : w'.ownsRow 0 83 4 sv T.length xs') (h4 : ∀ b, sv.ownBlock = some b → F b) (hFm : ∀ b, mv' = .map (some b) → F' b) : HeapM w' hb T' F' := by
  have nn : ∀ (k : Nat) (hk : k < T.length), (T'[k]'(by omega)).2 ≠ [] → T[k].2 ≠ [] := fun k hk h0 => by
    by_cases e : k = j
    · subst e
      intro e2
      rw [e2] at hj2
      exact h0 (List.length_eq_zero_iff.1 hj2)
    · rw [← he k hk e]; exact h0
  refine ⟨sv, xs', g, pv, fun k => if k = j then mv' else mv k, hb1, hF _ h2, by rw [hl]; exact hrow, fun b hb => hF _ (h4 b hb), fun k hk => ?_⟩
  have hk' : k < T.length := by omega
  obtain ⟨⟨a1, a2, a3, a4⟩, a5, a6, a7, a8, a9⟩ := h5 k hk'
  have hgg : ∀ m (hm : m < T'.length), k ≠ m → T'[k].2 ≠ [] → T'[m].2 ≠ [] → g k ≠ g m := fun m hm hkm q1 q2 => (a9 m (by omega) hkm).1 (nn k hk' q1) (nn m (by omega) q2)
  by_cases e : k = j
  · subst e
    refine ⟨⟨by rw [hj1]; exact hx _ _ (by omega) a1, by rw [hj2]; exact hx _ _ (by omega) a2, hx _ _ (by omega) a3, by dsimp only; rw [if_pos rfl]; exact hxj⟩, by rw [hj1]; exact a5, by dsimp only; rw [if_pos rfl]; exact hp, fun q => hF _ (a7 (nn k hk' q)), fun b hb => hFm b (by simpa using hb), fun m hm hkm => ⟨hgg m hm hkm, fun q => ?_⟩⟩
    dsimp only at q ⊢
    rw [if_pos rfl] at q ⊢
    rw [if_neg (fun e => hkm e.symm)] at q
    exact hn m (by omega) (fun e => hkm e.symm) q
  · have ee := he k hk' e
    refine ⟨⟨by rw [ee]; exact hx _ _ (by omega) a1, by rw [ee]; exact hx _ _ (by omega) a2, hx _ _ (by omega) a3, by dsimp only; rw [if_neg e]; exact hx _ _ (by omega) a4⟩, by rw [ee]; exact a5, by dsimp only; rw [ee, if_neg e]; exact a6.move (ho k hk' e) (hm k hk' e), fun q => hF _ (a7 (nn k hk' q)), fun b hb => hF _ (a8 b (by simpa [e] using hb)), fun m hm hkm => ⟨hgg m hm hkm, fun q => ?_⟩⟩
    dsimp only at q ⊢
    rw [if_neg e] at q ⊢
    by_cases em : m = j
    · rw [if_pos em] at q
      rw [q]
      exact hn k hk' e q.symm
    · rw [if_neg em] at q
      exact (a9 m (by omega) hkm).2 q
theorem val_inj {a b : PV} (h : a = b) : a.val = b.val := by rw [h]
/-- How a part is read: what the look into the map answers; where it has none, what lies in the row. -/
theorem HeapM.part {w : World} {hb : Nat} {T : List (Int × List PV)} {F : Nat → Prop} (h : HeapM w hb T F) (j : Nat) (hj : j < T.length) (i : Nat) (hi : i < T[j].2.length) :
    ∃ tb cap g nf cp mv, w.cell? ⟨hb, 0, none⟩ = some (.slice (some ⟨tb, 0, none⟩) T.length cap) ∧ T.length ≤ cap ∧ cap ≤ maxLen ∧ w.cell? ⟨tb, j * 4 + 1, none⟩ = some (.int .i64 (T[j].2.length : Int)) ∧ w.cell? ⟨tb, j * 4 + 2, none⟩ = some (.slice (some ⟨g, 0, none⟩) nf cp) ∧ w.cell? ⟨tb, j * 4 + 3, none⟩ = some mv ∧ nf ≤ cp ∧ cp ≤ maxLen ∧ okV T[j].2[i] ∧
      ((∃ q : PV, (∀ W : World, Below w.heap.size w W → (Instr.lookup 81 mv (.int .i64 i) true).run Tryd.prog W = .ok (.tuple #[q.val, .bool false]) W) ∧ ∃ c : Nat, c < nf ∧ min (i : Int) ((nf : Int) - 1) = c ∧
          w.cell? ⟨g, c * 3, none⟩ = some (.int .i64 T[j].2[i].k) ∧ w.cell? ⟨g, c * 3 + 1, none⟩ = some (.int .i64 T[j].2[i].i) ∧ w.cell? ⟨g, c * 3 + 2, none⟩ = some (.string T[j].2[i].s)) ∨
       (∀ W : World, Below w.heap.size w W → (Instr.lookup 81 mv (.int .i64 i) true).run Tryd.prog W = .ok (.tuple #[T[j].2[i].val, .bool true]) W)) := by
  obtain ⟨tb, cap, g, pv, mv, a1, a2, a3, _, a5, a6, a7, _, a9, _, _⟩ := h.thing j hj
  have hne : T[j].2 ≠ [] := fun e => by rw [e] at hi; cases hi
  have nolook : ∀ W : World, (Instr.lookup 81 (.map none) (.int .i64 i) true).run Tryd.prog W = .ok (.tuple #[zP.val, .bool false]) W := fun W => rfl
  rcases a9 with ⟨rfl, hp⟩ | ⟨_, h0, _⟩ | ⟨h0, h1, h2, h3, p, hp, hm⟩
  · have hv := hp.at hne
    obtain ⟨v0, v1, v2, vo⟩ := hv.item i hi
    simp only [Nat.zero_add] at v0 v1 v2
    rcases hp with hp | ⟨_, ho, cp, cur, e, c1, c2, _⟩
    · exact absurd hp.1 hne
    subst e
    exact ⟨tb, cap, g, _, cp, _, a1, a2, a3, a5, a6, a7, c1, c2, vo, .inl ⟨zP, fun W _ => nolook W, i, hi, by omega, v0, v1, v2⟩⟩
  · exact absurd h0 hne
  · have hv := hp.at (by simp)
    obtain ⟨v0, v1, v2, vo⟩ := hv.item 0 (by simp)
    simp only [Nat.zero_add, Nat.zero_mul, List.getElem_cons_zero] at v0 v1 v2
    rcases hp with hp | ⟨_, ho, cp, cur, e, c1, c2, _⟩
    · exact absurd hp.1 (by simp)
    subst e
    have vk : okV T[j].2[i] := h3 _ (List.getElem_mem hi)
    refine ⟨tb, cap, g, _, cp, _, a1, a2, a3, a5, a6, a7, c1, c2, vk, ?_⟩
    rcases hm with ⟨rfl, hr⟩ | ⟨b, m, rfl, hM, hg⟩
    · have e : T[j].2[i] = p := List.eq_of_mem_replicate (n := T[j].2.length) (by rw [← hr]; exact List.getElem_mem hi)
      rw [e]
      exact .inl ⟨zP, fun W _ => nolook W, 0, by simp, (by simp only [List.length_cons, List.length_nil]; omega), by simpa using v0, by simpa using v1, by simpa using v2⟩
    · have e := hg i hi
      obtain ⟨es, c, q⟩ := hM.obj
      have lk : ∀ W : World, Below w.heap.size w W → _ := fun W hW => (hM.at (w' := W) (hW.block b (lt_of_block q))).look i hi h2
      cases hmi : m i with
      | none =>
        rw [hmi] at e lk
        rw [e]
        exact .inl ⟨_, lk, 0, by simp, (by simp only [List.length_cons, List.length_nil]; omega), by simpa using v0, by simpa using v1, by simpa using v2⟩
      | some u =>
        rw [hmi] at e lk
        rw [e]
        exact .inr lk
/-- How a part is put: into the row; or into the map, which is made where there is none. -/
theorem HeapM.put {w : World} {hb : Nat} {T : List (Int × List PV)} {F : Nat → Prop} (h : HeapM w hb T F) (j : Nat) (hj : j < T.length) (i : Nat) (hi : i < T[j].2.length) :
    ∃ tb cap g nf cp mv, w.cell? ⟨hb, 0, none⟩ = some (.slice (some ⟨tb, 0, none⟩) T.length cap) ∧ T.length ≤ cap ∧ cap ≤ maxLen ∧ w.cell? ⟨tb, j * 4 + 1, none⟩ = some (.int .i64 (T[j].2.length : Int)) ∧ w.cell? ⟨tb, j * 4 + 2, none⟩ = some (.slice (some ⟨g, 0, none⟩) nf cp) ∧ w.cell? ⟨tb, j * 4 + 3, none⟩ = some mv ∧ nf ≤ cp ∧ cp ≤ maxLen ∧ F tb ∧ (∀ o, w.frozen? ⟨tb, o, none⟩ = false) ∧
      ((nf = T[j].2.length ∧ F g ∧ g < w.heap.size ∧ (∀ o, w.frozen? ⟨g, o, none⟩ = false) ∧ (∃ y0 y1 y2, w.cell? ⟨g, i * 3, none⟩ = some y0 ∧ w.cell? ⟨g, i * 3 + 1, none⟩ = some y1 ∧ w.cell? ⟨g, i * 3 + 2, none⟩ = some y2) ∧ ∀ u, okV u → HeapM (set3 w g (i * 3) u) hb (setT T j i u) F ∧ Stp F w F (set3 w g (i * 3) u)) ∨
       (nf ≠ T[j].2.length ∧ mv = .map none ∧ ((∀ b, F b → b < w.heap.size) → HeapM ((w.alloc (.map #[] 0)).setCell ⟨tb, j * 4 + 3, none⟩ (.map (some w.heap.size))) hb T (fun b => F b ∨ b = w.heap.size))) ∨
       (nf ≠ T[j].2.length ∧ ∃ b, mv = .map (some b) ∧ F b ∧ ∀ u, okV u → ∃ w', (Instr.mapUpdate 81 mv (.int .i64 i) u.val).run Tryd.prog w = .ok () w' ∧ w.mapTurned w' b ∧ HeapM w' hb (setT T j i u) F)) := by
  obtain ⟨sv, xs, g, pv, mv, h1, h2, h3, h4, h5⟩ := h
  obtain ⟨⟨a1, a7, a2, a8⟩, a3, a4, a5, a6, a9⟩ := h5 j hj
  have hne : T[j].2 ≠ [] := fun e => by rw [e] at hi; cases hi
  have hF := a5 hne
  rcases h3.2 with ⟨_, h0⟩ | ⟨tb, cap, ct, rfl, b1, b2, b3, b4, b5, b6⟩
  · omega
  have hl : ∀ u, (setT T j i u).length = T.length := fun u => setT_len T j i u
  have he : ∀ u k (hk : k < T.length), k ≠ j → (setT T j i u)[k]'(by rw [hl]; exact hk) = T[k] := fun u k hk e => by rw [setT_get hj]; exact if_neg e
  have hjj : ∀ u, (setT T j i u)[j]'(by rw [hl]; exact hj) = (T[j].1, T[j].2.set i u) := fun u => by rw [setT_get hj]; exact if_pos rfl
  have hrow : ∀ {w' : World}, w'.heap[tb]? = w.heap[tb]? → w'.ownsRow 0 83 4 (.slice (some ⟨tb, 0, none⟩) T.length cap) T.length xs := fun hq => ⟨h3.1, .inr ⟨tb, cap, ct, rfl, b1, hq.trans b2, b3, b4, b5, b6⟩⟩
  have c0 : w.cell? ⟨hb, 0, none⟩ = some (.slice (some ⟨tb, 0, none⟩) T.length cap) := by rw [Lib.cell_of_heap h1]; rfl
  have c1 : w.cell? ⟨tb, j * 4 + 1, none⟩ = some (.int .i64 (T[j].2.length : Int)) := by rw [Lib.cell_of_heap b2]; exact take_at b6 a7
  have c2 : w.cell? ⟨tb, j * 4 + 2, none⟩ = some (pv j) := by rw [Lib.cell_of_heap b2]; exact take_at b6 a2
  have c3 : w.cell? ⟨tb, j * 4 + 3, none⟩ = some (mv j) := by rw [Lib.cell_of_heap b2]; exact take_at b6 a8
  have ft : ∀ o, w.frozen? ⟨tb, o, none⟩ = false := fun o => Lib.frozen_of_heap b2 o
  have hFt : F tb := h4 tb rfl
  rcases a4 with ⟨e, hp⟩ | ⟨_, h0, _⟩ | ⟨k0, k1, k2, k3, p, hp, hm⟩
  · have hv := hp.at hne
    obtain ⟨v0, v1, v2, vo⟩ := hv.item i hi
    simp only [Nat.zero_add] at v0 v1 v2
    rcases hp with hp | ⟨_, ho, cp, cur, ev, d1, d2, d3, d4, d5⟩
    · exact absurd hp.1 hne
    have ghb : hb ≠ g j := by
      intro e
      rw [e, d3] at h1
      exact absurd (Obj.cells.inj (Option.some.inj h1)).2.1 (by decide)
    have gtb : tb ≠ g j := by
      intro e
      rw [e, d3] at b2
      exact absurd (Obj.cells.inj (Option.some.inj b2)).2.1 (by decide)
    rw [ev] at c2
    rw [e] at c3
    refine ⟨tb, cap, g j, _, cp, _, c0, b3, b4, c1, c2, c3, d1, d2, hFt, ft, .inl ⟨rfl, hF, lt_of_block d3, fun o => Lib.frozen_of_heap d3 o, ⟨_, _, _, v0, v1, v2⟩, fun u hu => ⟨?_, ⟨set3_below (Nat.zero_le _), fun b _ hb => set3_other (fun e => hb (e ▸ hF))⟩, fun b hb => .inl hb⟩⟩⟩
    refine HeapM.upd (mv' := mv j) h5 (hl u) hj (he u) (by rw [hjj]) (by rw [hjj, List.length_set]) (fun _ _ _ q => q) a8 ?_ (fun k hk ek hn => set3_other ((a9 k hk (fun e => ek e.symm)).1 hne hn).symm) (fun k hk ek b eb => ?_) (fun k hk ek q => (a9 k hk (fun e => ek e.symm)).2 q) ((set3_other ghb).trans h1) (fun _ q => q) h2 (hrow (set3_other gtb)) h4 a6
    · rw [hjj, e]
      refine .inl ⟨rfl, .inr ⟨set_ne_nil.2 hne, fun x hx => ?_, cp, _, by rw [List.length_set]; exact ev, by rw [List.length_set]; exact d1, d2, set3_same d3, by simpa using d4, ?_⟩⟩
      · rcases List.mem_or_eq_of_mem_set hx with hx | rfl
        · exact ho x hx
        · exact hu
      · simp only [Array.toList_setIfInBounds, List.length_set]
        rw [List.take_set, List.take_set, List.take_set, d5, vCells_set, if_pos hi]
    · obtain ⟨es, cl, q⟩ := (h5 k hk).2.2.1.obj eb
      refine set3_other fun e => ?_
      rw [e, d3] at q
      cases q
  · exact absurd h0 hne
  · rcases hp with hp | ⟨pn, ho, cp, cur, ev, d1, d2, d3, d4, d5⟩
    · exact absurd hp.1 (by simp)
    rw [ev] at c2
    have hp : PartsM w [p] (g j) (pv j) := .inr ⟨pn, ho, cp, cur, ev, d1, d2, d3, d4, d5⟩
    have hnf : [p].length ≠ T[j].2.length := by simp only [List.length_cons, List.length_nil]; omega
    rcases hm with ⟨em, hr⟩ | ⟨b, m, em, hM, hg⟩
    · rw [em] at c3
      refine ⟨tb, cap, g j, _, cp, _, c0, b3, b4, c1, c2, c3, d1, d2, hFt, ft, .inr (.inl ⟨hnf, rfl, fun hlt => ?_⟩)⟩
      have oth : ∀ b, b < w.heap.size → b ≠ tb → ((w.alloc (.map #[] 0)).setCell ⟨tb, j * 4 + 3, none⟩ (.map (some w.heap.size))).heap[b]? = w.heap[b]? := fun b hb n1 => by
        rw [Below.heap_setCell _ _ _ _ n1]
        exact Below.heap_alloc w _ b hb
      have hbt : hb ≠ tb := by
        intro e
        rw [e, b2] at h1
        exact absurd (Obj.cells.inj (Option.some.inj h1)).2.1 (by decide)
      have hgt : ∀ k (hk : k < T.length), T[k].2 ≠ [] → g k ≠ tb ∧ g k < w.heap.size := fun k hk q => by
        obtain ⟨cu, q⟩ := (h5 k hk).2.2.1.cells q
        refine ⟨fun e => ?_, lt_of_block q⟩
        rw [e, b2] at q
        exact absurd (Obj.cells.inj (Option.some.inj q)).2.1 (by decide)
      have hmt : ∀ k (_ : k < T.length) b, mv k = .map (some b) → b ≠ tb ∧ b < w.heap.size := fun k hk b eb => by
        obtain ⟨es, cl, q⟩ := (h5 k hk).2.2.1.obj eb
        refine ⟨fun e => ?_, lt_of_block q⟩
        rw [e, b2] at q
        cases q
      have htl := lt_of_block b2
      have hnew : ((w.alloc (.map #[] 0)).setCell ⟨tb, j * 4 + 3, none⟩ (.map (some w.heap.size))).heap[w.heap.size]? = some (.map #[] 0) := by
        rw [Below.heap_setCell _ _ _ _ (show w.heap.size ≠ tb by omega)]
        exact heap_alloc_new w _
      have hxl : j * 4 + 3 < xs.length := (List.getElem?_eq_some_iff.1 a8).1
      refine HeapM.upd (xs' := xs.set (j * 4 + 3) (.map (some w.heap.size))) (mv' := .map (some w.heap.size)) h5 rfl hj (fun _ _ _ => rfl) rfl rfl (fun k v hk q => by rw [List.getElem?_set_ne (fun e => hk e.symm)]; exact q) (by rw [List.getElem?_set_self hxl]) ?_ (fun k hk _ hn => oth _ (hgt k hk hn).2 (hgt k hk hn).1) (fun k hk _ b eb => oth _ (hmt k hk b eb).2 (hmt k hk b eb).1) (fun k hk _ q => ?_) ((oth _ (lt_of_block h1) hbt).trans h1) (fun _ q => .inl q) h2 ?_ h4 (fun b eb => .inr (by cases eb; rfl))
      · refine .inr (.inr ⟨k0, k1, k2, k3, p, hp.move fun _ => oth _ (hgt j hj hne).2 (hgt j hj hne).1, .inr ⟨_, fun _ => none, rfl, (MapP.made w T[j].2.length).at (hnew.trans (heap_alloc_new w _).symm), fun i hi => ?_⟩⟩)
        show T[j].2[i] = p
        exact List.eq_of_mem_replicate (n := T[j].2.length) (by rw [← hr]; exact List.getElem_mem hi)
      · have := (hmt k hk _ q.symm).2
        omega
      · refine ⟨by rw [List.length_set]; exact h3.1, .inr ⟨tb, cap, _, rfl, b1, heap_setCell_same _ tb (j * 4 + 3) ct _ _ ((Below.heap_alloc w _ tb htl).trans b2), b3, b4, by simpa using b5, ?_⟩⟩
        simp only [Array.toList_setIfInBounds]
        rw [List.take_set, b6]
    · rw [em] at c3
      have hFb := a6 b em
      obtain ⟨es, cl, hob⟩ := hM.obj
      refine ⟨tb, cap, g j, _, cp, _, c0, b3, b4, c1, c2, c3, d1, d2, hFt, ft, .inr (.inr ⟨hnf, b, rfl, hFb, fun u hu => ?_⟩)⟩
      obtain ⟨w', hrun, hM', hturn⟩ := hM.store k2 i hi u
      refine ⟨w', hrun, hturn, ?_⟩
      have oth : ∀ c, c ≠ b → w'.heap[c]? = w.heap[c]? := by
        obtain ⟨es0, cl0, es', cl', q1, rfl⟩ := hturn
        exact fun c hc => Go.ChangeMaps.heap_setBlock_other q1 _ hc
      have cne : ∀ {c : Nat} {x : Array Value} {t : TypeId} {f : Nat × Nat}, w.heap[c]? = some (.cells x t f) → c ≠ b := fun q e => by
        rw [e, hob] at q
        cases q
      refine HeapM.upd (mv' := mv j) h5 (hl u) hj (he u) (by rw [hjj]) (by rw [hjj, List.length_set]) (fun _ _ _ q => q) a8 ?_ (fun k hk ek hn => ?_) (fun k hk ek c ec => ?_) (fun k hk ek q => (a9 k hk (fun e => ek e.symm)).2 q) ((oth _ (cne h1)).trans h1) (fun _ q => q) h2 (hrow (oth _ (cne b2))) h4 a6
      · rw [hjj, em]
        refine .inr (.inr ⟨k0, by rw [List.length_set]; exact k1, by rw [List.length_set]; exact k2, fun x hx => ?_, p, hp.move fun _ => oth _ (cne d3), .inr ⟨b, _, rfl, by rw [List.length_set]; exact hM', fun i' hi' => ?_⟩⟩)
        · rcases List.mem_or_eq_of_mem_set hx with hx | rfl
          · exact k3 x hx
          · exact hu
        · simp only [List.getElem_set]
          by_cases ei : i = i'
          · subst ei
            rw [if_pos rfl]
            simp [setN]
          · rw [if_neg ei]
            simp only [List.length_set] at hi'
            rw [show setN m i u i' = m i' from if_neg (fun e => ei e.symm)]
            exact hg i' hi'
      · obtain ⟨cu, q⟩ := (h5 k hk).2.2.1.cells hn
        exact oth _ (cne q)
      · refine oth c fun e => ?_
        subst e
        have := (a9 k hk (fun e => ek e.symm)).2 (em.trans ec.symm)
        rw [em] at this
        cases this

/-! ### how a function ends whose first result is a value -/
theorem res_v {fn : Func} {p : Tmp} (h : fn.results = #[.cell p 36]) (tmps : Array Value) (w : World) (g : Nat) (a b c : Value)
    (hp : tmps.getD p undef = .pointer (some ⟨g, 0, none⟩)) (hg : w.heap[g]? = some (.cells #[a, b, c] 36 (0, 0))) : (results fn tmps).run Tryd.prog w = .ok (.agg #[a, b, c]) w :=
  results_cell_row (P := Tryd.prog) h tmps w g 36 _ (0, 0) _ hp hg Tryd.underlying36 rfl (by kernel_rfl)
theorem res_ve {fn : Func} {t p : Tmp} (h : fn.results = #[.cell p 36, .tmp t]) (tmps : Array Value) (w : World) (g : Nat) (a b c : Value)
    (hp : tmps.getD p undef = .pointer (some ⟨g, 0, none⟩)) (hg : w.heap[g]? = some (.cells #[a, b, c] 36 (0, 0))) : (results fn tmps).run Tryd.prog w = .ok (.tuple #[.agg #[a, b, c], tmps.getD t undef]) w := by
  have hp' : tmps[p]?.getD undef = .pointer (some ⟨g, 0, none⟩) := by simpa using hp
  have hi : (Tryd.prog.info? 36).map (·.size) = some (#[a, b, c] : Array Value).size := by kernel_rfl
  simp [results, h, hp', asAddr, run_loadVar_row w g 36 36 #[a, b, c] (0, 0) _ hg Tryd.underlying36 rfl hi]
theorem look3 {W : World} {g : Nat} {t : TypeId} {x0 x1 x2 : Value} (hb : W.heap[g]? = some (.cells #[x0, x1, x2] t (0, 0))) :
    (W.cell? ⟨g, 0, none⟩ = some x0 ∧ W.cell? ⟨g, 1, none⟩ = some x1 ∧ W.cell? ⟨g, 2, none⟩ = some x2) ∧ (W.frozen? ⟨g, 0, none⟩ = false ∧ W.frozen? ⟨g, 1, none⟩ = false ∧ W.frozen? ⟨g, 2, none⟩ = false) := by
  refine ⟨⟨?_, ?_, ?_⟩, ?_, ?_, ?_⟩
  all_goals first | (rw [Lib.cell_of_heap hb]; rfl) | (simp [World.frozen?, hb])
theorem put3 {W : World} {g : Nat} {t : TypeId} {x0 x1 x2 : Value} (hb : W.heap[g]? = some (.cells #[x0, x1, x2] t (0, 0))) (y0 y1 y2 : Value) :
    (((W.setCell ⟨g, 0, none⟩ y0).setCell ⟨g, 1, none⟩ y1).setCell ⟨g, 2, none⟩ y2).heap[g]? = some (.cells #[y0, y1, y2] t (0, 0)) :=
  heap_setCell_same _ g 2 _ t y2 (heap_setCell_same _ g 1 _ t y1 (heap_setCell_same W g 0 _ t y0 hb))
theorem put3_below {C : Nat} {a W : World} (h : Below C a W) {g : Nat} (hg : C ≤ g) (y0 y1 y2 : Value) : Below C a (((W.setCell ⟨g, 0, none⟩ y0).setCell ⟨g, 1, none⟩ y1).setCell ⟨g, 2, none⟩ y2) :=
  ((h.setCell (p := ⟨g, 0, none⟩) hg _).setCell (p := ⟨g, 1, none⟩) hg _).setCell (p := ⟨g, 2, none⟩) hg _
theorem put3_other {W : World} {g : Nat} (y0 y1 y2 : Value) {b : Nat} (h : b ≠ g) : (((W.setCell ⟨g, 0, none⟩ y0).setCell ⟨g, 1, none⟩ y1).setCell ⟨g, 2, none⟩ y2).heap[b]? = W.heap[b]? := by
  rw [Below.heap_setCell _ _ _ _ h, Below.heap_setCell _ _ _ _ h, Below.heap_setCell _ _ _ _ h]
theorem two_new (w : World) (o p : Obj) : ((w.alloc o).alloc p).heap[w.heap.size]? = some o ∧ ((w.alloc o).alloc p).heap[w.heap.size + 1]? = some p ∧ Below w.heap.size w ((w.alloc o).alloc p) := by
  refine ⟨?_, ?_, ((Below.refl _ _).alloc (Nat.le_refl _) _).alloc (by rw [size_new]; omega) _⟩
  · exact (Below.heap_alloc (w.alloc o) p w.heap.size (by rw [size_new]; omega)).trans (heap_alloc_new w o)
  · have := heap_alloc_new (w.alloc o) p
    rwa [size_new] at this
theorem number_any (n : Int) (w : World) :
    Calls Tryd.prog 74 #[.int .i64 n] w fun e w' => e = .returned (.agg #[.int .i64 1, .int .i64 n, .string ⟨#[]⟩]) ∧ Below w.heap.size w w' := by
  go_enter Tryd.func74, Tryd.ntmps74
  go_wp2
  exact bodyPost_ret (res_v rfl _ _ w.heap.size _ _ _ rfl (heap_alloc_new w _)) rfl ⟨rfl, (Below.refl _ _).alloc (Nat.le_refl _) _⟩
theorem num_any (n : Int) (w : World) :
    Calls Tryd.prog 19 #[.int .i64 n] w fun e w' => e = .returned (.agg #[.int .i64 1, .int .i64 n, .string ⟨#[]⟩]) ∧ Below w.heap.size w w' := by
  go_enter Tryd.func19, Tryd.ntmps19
  go_wp2
  exact bodyPost_ret (res_v rfl _ _ w.heap.size _ _ _ rfl (heap_alloc_new w _)) rfl ⟨rfl, (Below.refl _ _).alloc (Nat.le_refl _) _⟩
theorem char_any (n : Int) (w : World) :
    Calls Tryd.prog 71 #[.int .i64 n] w fun e w' => e = .returned (.agg #[.int .i64 2, .int .i64 n, .string ⟨#[]⟩]) ∧ Below w.heap.size w w' := by
  go_enter Tryd.func71, Tryd.ntmps71
  go_wp2
  exact bodyPost_ret (res_v rfl _ _ w.heap.size _ _ _ rfl (heap_alloc_new w _)) rfl ⟨rfl, (Below.refl _ _).alloc (Nat.le_refl _) _⟩
theorem truth_any (b : Bool) (w : World) :
    Calls Tryd.prog 76 #[.bool b] w fun e w' => e = .returned (.agg #[.int .i64 0, .int .i64 (if b then 1 else 0), .string ⟨#[]⟩]) ∧ Below w.heap.size w w' := by
  cases b
  all_goals
    go_enter Tryd.func76, Tryd.ntmps76
    go_wp2
    exact bodyPost_ret (res_v rfl _ _ w.heap.size _ _ _ rfl (two_new w _ _).1) rfl ⟨rfl, (two_new w _ _).2.2⟩
end Go.Proofs.YtlolkhnaaelelaaDoor.Hp
