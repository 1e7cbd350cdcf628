/-
A part of a thing, read and written, in memory; how functions that answer values end; package heap's part and put. No condition but that the heap lies in memory, and that the value is a thing of its own.
-/
import Derived.Test.YtjplfgenobmbnaaDoorQ3
namespace Go.Proofs.YtjplfgenobmbnaaDoor.Hp
open Go.ChangeShapes Go.WideShapes Go.ChangeAt Go.RowKit Go.Deep
open Dat (PT ok64 RepV RepS RowX infoDatum)
set_option maxRecDepth 100000

theorem vCells_set : ∀ (l : List PV) (i : Nat) (u : PV), vCells (l.set i u) = if i < l.length then (((vCells l).set (i * 3) (.int .i64 u.k)).set (i * 3 + 1) (.int .i64 u.i)).set (i * 3 + 2) (.string u.s) else vCells l
  | [], i, u => by simp [vCells]
  | v :: l, 0, u => by simp [vCells]
  | v :: l, i + 1, u => by
    have := vCells_set l i u
    simp only [List.set_cons_succ, vCells, List.length_cons, this]
    by_cases h : i < l.length
    · rw [if_pos h, if_pos (by omega)]
      rw [show (i + 1) * 3 = i * 3 + 1 + 1 + 1 by omega, show i * 3 + 1 + 1 + 1 + 1 = i * 3 + 1 + 1 + 1 + 1 from rfl]
      simp only [List.set_cons_succ]
    · rw [if_neg h, if_neg (by omega)]
/-- The value u in the place of a part. -/
def setT (T : List (Int × List PV)) (j i : Nat) (u : PV) : List (Int × List PV) := match T[j]? with | some t => T.set j (t.1, t.2.set i u) | none => T
theorem setT_len (T : List (Int × List PV)) (j i : Nat) (u : PV) : (setT T j i u).length = T.length := by unfold setT; split <;> simp
theorem setT_get {T : List (Int × List PV)} {j i : Nat} {u : PV} (hj : j < T.length) (k : Nat) (hk : k < (setT T j i u).length) : (setT T j i u)[k] = if k = j then (T[j].1, T[j].2.set i u) else T[k]'(by rw [setT_len] at hk; exact hk) := by
  have e : setT T j i u = T.set j (T[j].1, T[j].2.set i u) := by unfold setT; rw [List.getElem?_eq_getElem hj]
  simp only [e, List.getElem_set]
  by_cases h : j = k
  · rw [if_pos h, if_pos h.symm]
  · rw [if_neg h, if_neg (fun e => h e.symm)]
def set3 (w : World) (g o : Nat) (u : PV) : World := ((w.setCell ⟨g, o, none⟩ (.int .i64 u.k)).setCell ⟨g, o + 1, none⟩ (.int .i64 u.i)).setCell ⟨g, o + 2, none⟩ (.string u.s)
theorem set3_other {w : World} {g o : Nat} {u : PV} {b : Nat} (h : b ≠ g) : (set3 w g o u).heap[b]? = w.heap[b]? := by
  unfold set3
  rw [Below.heap_setCell _ _ _ _ h, Below.heap_setCell _ _ _ _ h, Below.heap_setCell _ _ _ _ h]
theorem set3_below {w : World} {g o : Nat} {u : PV} {C : Nat} (h : C ≤ g) : Below C w (set3 w g o u) :=
  ((((Below.refl C w).setCell (p := ⟨g, o, none⟩) h _).setCell (p := ⟨g, o + 1, none⟩) h _).setCell (p := ⟨g, o + 2, none⟩) h _)
theorem set3_size {w : World} {g o : Nat} {u : PV} : (set3 w g o u).heap.size = w.heap.size := by unfold set3; simp [World.setCell]
theorem set3_same {w : World} {g o : Nat} {u : PV} {cur : Array Value} {t : TypeId} (h : w.heap[g]? = some (.cells cur t (0, 0))) :
    (set3 w g o u).heap[g]? = some (.cells (((cur.setIfInBounds o (.int .i64 u.k)).setIfInBounds (o + 1) (.int .i64 u.i)).setIfInBounds (o + 2) (.string u.s)) t (0, 0)) :=
  heap_setCell_same _ g (o + 2) _ t _ (heap_setCell_same _ g (o + 1) _ t _ (heap_setCell_same w g o _ t _ h))
theorem set_ne_nil {l : List PV} {i : Nat} {u : PV} : l.set i u ≠ [] ↔ l ≠ [] := by
  cases l <;> cases i <;> simp
/-- The facts on one part of a thing, and what comes of the heap when another value is put there. -/
theorem HeapM.part {w : World} {hb : Nat} {T : List (Int × List PV)} {F : Nat → Prop} (h : HeapM w hb T F) (j : Nat) (hj : j < T.length) (i : Nat) (hi : i < T[j].2.length) :
    ∃ tb cap g cp, w.cell? ⟨hb, 0, none⟩ = some (.slice (some ⟨tb, 0, none⟩) T.length cap) ∧ T.length ≤ cap ∧ cap ≤ maxLen ∧ w.cell? ⟨tb, j * 4 + 1, none⟩ = some (.int .i64 (T[j].2.length : Int)) ∧ w.cell? ⟨tb, j * 4 + 2, none⟩ = some (.slice (some ⟨g, 0, none⟩) T[j].2.length cp) ∧ w.cell? ⟨tb, j * 4 + 3, none⟩ = some (.map none) ∧ T[j].2.length ≤ cp ∧ cp ≤ maxLen ∧
      w.cell? ⟨g, i * 3, none⟩ = some (.int .i64 T[j].2[i].k) ∧ w.cell? ⟨g, i * 3 + 1, none⟩ = some (.int .i64 T[j].2[i].i) ∧ w.cell? ⟨g, i * 3 + 2, none⟩ = some (.string T[j].2[i].s) ∧ okV T[j].2[i] ∧
      (∀ o, w.frozen? ⟨g, o, none⟩ = false) ∧ F tb ∧ F g ∧ g < w.heap.size ∧ (∀ u, okV u → HeapM (set3 w g (i * 3) u) hb (setT T j i u) F ∧ Stp F w F (set3 w g (i * 3) u)) := by
  obtain ⟨sv, xs, g, pv, h1, h2, h3, h4, h5⟩ := h
  obtain ⟨⟨a1, a7, a2, a8⟩, a3, a4, a5, a6⟩ := h5 j hj
  have hne : T[j].2 ≠ [] := fun e => by rw [e] at hi; cases hi
  have hv := a4.at hne
  obtain ⟨v0, v1, v2, vo⟩ := hv.item i hi
  simp only [Nat.zero_add] at v0 v1 v2
  have hF := a5 hne
  rcases a4 with a4 | ⟨_, ho, cp, cur, e, c1, c2, c3, c4, c5⟩
  · exact absurd a4.1 hne
  rw [e] at a2
  rcases h3.2 with ⟨_, h0⟩ | ⟨tb, cap, ct, rfl, b1, b2, b3, b4, b5, b6⟩
  · omega
  have ghb : hb ≠ g j := by
    intro e
    rw [e, c3] at h1
    have h1 := Obj.cells.inj (Option.some.inj h1)
    exact absurd h1.2.1 (by decide)
  have gtb : tb ≠ g j := by
    intro e
    rw [e, c3] at b2
    have b2 := Obj.cells.inj (Option.some.inj b2)
    exact absurd b2.2.1 (by decide)
  refine ⟨tb, cap, g j, cp, by rw [Lib.cell_of_heap h1]; rfl, b3, b4, by rw [Lib.cell_of_heap b2]; exact take_at b6 a7, by rw [Lib.cell_of_heap b2]; exact take_at b6 a2, by rw [Lib.cell_of_heap b2]; exact take_at b6 a8, c1, c2, v0, v1, v2, vo, fun o => Lib.frozen_of_heap c3 o, h4 tb rfl, hF, lt_of_block c3, fun u hu => ⟨?_, ?_⟩⟩
  · refine ⟨_, xs, g, pv, (set3_other ghb).trans h1, h2, ⟨by rw [setT_len]; exact h3.1, .inr ⟨tb, cap, ct, by rw [setT_len], b1, (set3_other gtb).trans b2, by rw [setT_len]; exact b3, b4, b5, by rw [setT_len]; exact b6⟩⟩, h4, fun k hk => ?_⟩
    have hk' : k < T.length := by rw [setT_len] at hk; exact hk
    obtain ⟨d1, d3, d4, d5, d6⟩ := h5 k hk'
    have hne2 : ∀ (m : Nat) (hm : m < (setT T j i u).length), (setT T j i u)[m].2 ≠ [] → (T[m]'(by rw [setT_len] at hm; exact hm)).2 ≠ [] := by
      intro m hm h
      rw [setT_get hj m hm] at h
      by_cases e : m = j
      · subst e; rw [if_pos rfl] at h; exact set_ne_nil.1 h
      · rw [if_neg e] at h; exact h
    refine ⟨?_, ?_, ?_, fun h => d5 (hne2 k hk h), fun m hm hkm h1 h2 => d6 m (by rw [setT_len] at hm; exact hm) hkm (hne2 k hk h1) (hne2 m hm h2)⟩
    · rw [setT_get hj k hk]
      by_cases e : k = j
      · subst e; rw [if_pos rfl]; unfold PieceAt at d1 ⊢; rw [List.length_set]; exact d1
      · rw [if_neg e]; exact d1
    · rw [setT_get hj k hk]
      by_cases e : k = j
      · subst e; rw [if_pos rfl]; exact d3
      · rw [if_neg e]; exact d3
    · rw [setT_get hj k hk]
      by_cases ek : k = j
      · subst ek
        rw [if_pos rfl]
        refine .inr ⟨set_ne_nil.2 hne, fun x hx => ?_, cp, _, by rw [List.length_set]; exact e, by rw [List.length_set]; exact c1, c2, set3_same c3, by simpa using c4, ?_⟩
        · rcases List.mem_or_eq_of_mem_set hx with hx | rfl
          · exact ho x hx
          · exact hu
        · simp only [Array.toList_setIfInBounds, List.length_set]
          rw [List.take_set, List.take_set, List.take_set, c5, vCells_set, if_pos hi]
      · rw [if_neg ek]
        exact d4.move fun hn => set3_other (d6 j hj ek hn hne)
  · refine ⟨⟨set3_below (Nat.zero_le _), fun b _ hb => set3_other (fun e => hb (e ▸ hF))⟩, fun b hb => .inl hb⟩

/-! ### how a function ends whose first result is a value -/
theorem res_v {fn : Func} {p : Tmp} (h : fn.results = #[.cell p 28]) (tmps : Array Value) (w : World) (g : Nat) (a b c : Value)
    (hp : tmps.getD p undef = .pointer (some ⟨g, 0, none⟩)) (hg : w.heap[g]? = some (.cells #[a, b, c] 28 (0, 0))) : (results fn tmps).run Tryd.prog w = .ok (.agg #[a, b, c]) w :=
  results_cell_row (P := Tryd.prog) h tmps w g 28 _ (0, 0) _ hp hg Tryd.underlying28 rfl (by kernel_rfl)
theorem res_ve {fn : Func} {t p : Tmp} (h : fn.results = #[.cell p 28, .tmp t]) (tmps : Array Value) (w : World) (g : Nat) (a b c : Value)
    (hp : tmps.getD p undef = .pointer (some ⟨g, 0, none⟩)) (hg : w.heap[g]? = some (.cells #[a, b, c] 28 (0, 0))) : (results fn tmps).run Tryd.prog w = .ok (.tuple #[.agg #[a, b, c], tmps.getD t undef]) w := by
  have hp' : tmps[p]?.getD undef = .pointer (some ⟨g, 0, none⟩) := by simpa using hp
  have hi : (Tryd.prog.info? 28).map (·.size) = some (#[a, b, c] : Array Value).size := by kernel_rfl
  simp [results, h, hp', asAddr, run_loadVar_row w g 28 28 #[a, b, c] (0, 0) _ hg Tryd.underlying28 rfl hi]
theorem look3 {W : World} {g : Nat} {t : TypeId} {x0 x1 x2 : Value} (hb : W.heap[g]? = some (.cells #[x0, x1, x2] t (0, 0))) :
    (W.cell? ⟨g, 0, none⟩ = some x0 ∧ W.cell? ⟨g, 1, none⟩ = some x1 ∧ W.cell? ⟨g, 2, none⟩ = some x2) ∧ (W.frozen? ⟨g, 0, none⟩ = false ∧ W.frozen? ⟨g, 1, none⟩ = false ∧ W.frozen? ⟨g, 2, none⟩ = false) := by
  refine ⟨⟨?_, ?_, ?_⟩, ?_, ?_, ?_⟩
  all_goals first | (rw [Lib.cell_of_heap hb]; rfl) | (simp [World.frozen?, hb])
theorem put3 {W : World} {g : Nat} {t : TypeId} {x0 x1 x2 : Value} (hb : W.heap[g]? = some (.cells #[x0, x1, x2] t (0, 0))) (y0 y1 y2 : Value) :
    (((W.setCell ⟨g, 0, none⟩ y0).setCell ⟨g, 1, none⟩ y1).setCell ⟨g, 2, none⟩ y2).heap[g]? = some (.cells #[y0, y1, y2] t (0, 0)) :=
  heap_setCell_same _ g 2 _ t y2 (heap_setCell_same _ g 1 _ t y1 (heap_setCell_same W g 0 _ t y0 hb))
theorem put3_below {C : Nat} {a W : World} (h : Below C a W) {g : Nat} (hg : C ≤ g) (y0 y1 y2 : Value) : Below C a (((W.setCell ⟨g, 0, none⟩ y0).setCell ⟨g, 1, none⟩ y1).setCell ⟨g, 2, none⟩ y2) :=
  ((h.setCell (p := ⟨g, 0, none⟩) hg _).setCell (p := ⟨g, 1, none⟩) hg _).setCell (p := ⟨g, 2, none⟩) hg _
theorem put3_other {W : World} {g : Nat} (y0 y1 y2 : Value) {b : Nat} (h : b ≠ g) : (((W.setCell ⟨g, 0, none⟩ y0).setCell ⟨g, 1, none⟩ y1).setCell ⟨g, 2, none⟩ y2).heap[b]? = W.heap[b]? := by
  rw [Below.heap_setCell _ _ _ _ h, Below.heap_setCell _ _ _ _ h, Below.heap_setCell _ _ _ _ h]
theorem two_new (w : World) (o p : Obj) : ((w.alloc o).alloc p).heap[w.heap.size]? = some o ∧ ((w.alloc o).alloc p).heap[w.heap.size + 1]? = some p ∧ Below w.heap.size w ((w.alloc o).alloc p) := by
  refine ⟨?_, ?_, ((Below.refl _ _).alloc (Nat.le_refl _) _).alloc (by rw [size_new]; omega) _⟩
  · exact (Below.heap_alloc (w.alloc o) p w.heap.size (by rw [size_new]; omega)).trans (heap_alloc_new w o)
  · have := heap_alloc_new (w.alloc o) p
    rwa [size_new] at this
theorem number_any (n : Int) (w : World) :
    Calls Tryd.prog 14 #[.int .i64 n] w fun e w' => e = .returned (.agg #[.int .i64 1, .int .i64 n, .string ⟨#[]⟩]) ∧ Below w.heap.size w w' := by
  go_enter Tryd.func14, Tryd.ntmps14
  go_wp2
  exact bodyPost_ret (res_v rfl _ _ w.heap.size _ _ _ rfl (heap_alloc_new w _)) rfl ⟨rfl, (Below.refl _ _).alloc (Nat.le_refl _) _⟩
theorem num_any (n : Int) (w : World) :
    Calls Tryd.prog 17 #[.int .i64 n] w fun e w' => e = .returned (.agg #[.int .i64 1, .int .i64 n, .string ⟨#[]⟩]) ∧ Below w.heap.size w w' := by
  go_enter Tryd.func17, Tryd.ntmps17
  go_wp2
  exact bodyPost_ret (res_v rfl _ _ w.heap.size _ _ _ rfl (heap_alloc_new w _)) rfl ⟨rfl, (Below.refl _ _).alloc (Nat.le_refl _) _⟩
theorem char_any (n : Int) (w : World) :
    Calls Tryd.prog 15 #[.int .i64 n] w fun e w' => e = .returned (.agg #[.int .i64 2, .int .i64 n, .string ⟨#[]⟩]) ∧ Below w.heap.size w w' := by
  go_enter Tryd.func15, Tryd.ntmps15
  go_wp2
  exact bodyPost_ret (res_v rfl _ _ w.heap.size _ _ _ rfl (heap_alloc_new w _)) rfl ⟨rfl, (Below.refl _ _).alloc (Nat.le_refl _) _⟩
theorem truth_any (b : Bool) (w : World) :
    Calls Tryd.prog 13 #[.bool b] w fun e w' => e = .returned (.agg #[.int .i64 0, .int .i64 (if b then 1 else 0), .string ⟨#[]⟩]) ∧ Below w.heap.size w w' := by
  cases b
  all_goals
    go_enter Tryd.func13, Tryd.ntmps13
    go_wp2
    exact bodyPost_ret (res_v rfl _ _ w.heap.size _ _ _ rfl (two_new w _ _).1) rfl ⟨rfl, (two_new w _ _).2.2⟩
end Go.Proofs.YtjplfgenobmbnaaDoor.Hp
