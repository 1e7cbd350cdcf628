/-
How things stand while the law HeapedKeeps goes on: a heap of two vectors, the caller's boxes, two rows of his own. No condition.
-/
import Derived.Test.YtcilmfjgbnfcgaaDoorQ40
import Derived.Test.YtcilmfjgbnfcgaaDoorQ30
namespace Go.Proofs.YtcilmfjgbnfcgaaDoor.Hp
open Go.ChangeShapes Go.WideShapes Go.ChangeAt Go.RowKit Go.Deep
open Dat (PT ok64 RepV RepS RowX infoDatum NewV NewS makeT make_any MakeOk numT numsT)
set_option maxRecDepth 100000

/-- The heap has two vectors of the parts t1, t2; what tells of them lies in boxes; the caller's rows hold l1, l2. -/
structure KSt (w : World) (hb LA LB R1 R2 : Nat) (t1 t2 l1 l2 : List PV) (F : Nat → Prop) (W : World) : Prop where
  ctx : Ctx w hb [(1, t1), (1, t2)] F W
  la : Loc F W LA (.cells #[.int .i64 8, .int .i64 0, .string ⟨#[]⟩] 28 (0, 0))
  lb : Loc F W LB (.cells #[.int .i64 8, .int .i64 1, .string ⟨#[]⟩] 28 (0, 0))
  r1 : Loc F W R1 (.cells (vCells l1).toArray 28 (0, 0))
  r2 : Loc F W R2 (.cells (vCells l2).toArray 28 (0, 0))
  lt : w.heap.size ≤ LA ∧ LA < LB ∧ LB < R1 ∧ LB < R2 ∧ R1 ≠ R2
theorem KSt.below {w W W' : World} {hb LA LB R1 R2 : Nat} {t1 t2 l1 l2 : List PV} {F : Nat → Prop} (h : KSt w hb LA LB R1 R2 t1 t2 l1 l2 F W) (hb' : Below W.heap.size W W') : KSt w hb LA LB R1 R2 t1 t2 l1 l2 F W' :=
  ⟨h.ctx.below hb', h.la.below hb', h.lb.below hb', h.r1.below hb', h.r2.below hb', h.lt⟩
theorem KSt.use {w W w' : World} {hb LA LB R1 R2 : Nat} {t1 t2 l1 l2 t1' t2' : List PV} {F : Nat → Prop} {u : PV} {err : Int} {e : Ending} (h : KSt w hb LA LB R1 R2 t1 t2 l1 l2 F W) (hd : DoOk W hb F u err [(1, t1'), (1, t2')] e w') :
    e = VE u err ∧ ∃ F', KSt w hb LA LB R1 R2 t1' t2' l1 l2 F' w' ∧ W.heap.size ≤ w'.heap.size ∧ ∀ R o, Loc F W R o → Loc F' w' R o := by
  obtain ⟨h1, F', h2, h3, h4⟩ := h.ctx.use hd
  exact ⟨h1, F', ⟨h2, h4 _ _ h.la, h4 _ _ h.lb, h4 _ _ h.r1, h4 _ _ h.r2, h.lt⟩, h3, h4⟩
theorem Ctx.set3 {w W : World} {hb R o : Nat} {T : List (Int × List PV)} {F : Nat → Prop} {u : PV} (h : Ctx w hb T F W) (hF : ¬ F R) (hR : w.heap.size ≤ R) : Ctx w hb T F (set3 W R o u) := by
  have hne : ∀ b, F b → b ≠ R := fun b hf e => hF (e ▸ hf)
  refine ⟨h.1.move (fun b hf _ => set3_other (hne b hf)) (fun _ q => q), fun b hf => ?_, h.2.2.trans (set3_below hR)⟩
  rw [set3_size]; exact h.2.1 b hf
theorem Loc.set3 {F : Nat → Prop} {W : World} {B R o : Nat} {ob : Obj} {u : PV} (h : Loc F W B ob) (hne : B ≠ R) : Loc F (set3 W R o u) B ob := ⟨(set3_other hne).trans h.1, h.2⟩
/-- A heap, and blocks of the caller's own. -/
def St2 (w : World) (hb : Nat) (T : List (Int × List PV)) (L : List (Nat × Obj)) (F : Nat → Prop) (W : World) : Prop := Ctx w hb T F W ∧ ∀ x ∈ L, Loc F W x.1 x.2
theorem St2.at {w W : World} {hb : Nat} {T : List (Int × List PV)} {L : List (Nat × Obj)} {F : Nat → Prop} (h : St2 w hb T L F W) (i : Nat) {x : Nat × Obj} (hi : L[i]? = some x) : Loc F W x.1 x.2 := h.2 x (List.mem_of_getElem? hi)
theorem St2.below {w W W' : World} {hb : Nat} {T : List (Int × List PV)} {L : List (Nat × Obj)} {F : Nat → Prop} (h : St2 w hb T L F W) (hb' : Below W.heap.size W W') : St2 w hb T L F W' := ⟨h.1.below hb', fun x hx => (h.2 x hx).below hb'⟩
theorem St2.use {w W w' : World} {hb : Nat} {T T' : List (Int × List PV)} {L : List (Nat × Obj)} {F : Nat → Prop} {u : PV} {err : Int} {e : Ending} (h : St2 w hb T L F W) (hd : DoOk W hb F u err T' e w') :
    e = VE u err ∧ ∃ F', St2 w hb T' L F' w' ∧ W.heap.size ≤ w'.heap.size ∧ ∀ R o, Loc F W R o → Loc F' w' R o := by
  obtain ⟨h1, F', h2, h3, h4⟩ := h.1.use hd
  exact ⟨h1, F', ⟨h2, fun x hx => h4 _ _ (h.2 x hx)⟩, h3, h4⟩
theorem St2.add {w W : World} {hb : Nat} {T : List (Int × List PV)} {L : List (Nat × Obj)} {F : Nat → Prop} (h : St2 w hb T L F W) (o : Obj) : St2 w hb T ((W.heap.size, o) :: L) F (W.alloc o) := by
  refine ⟨h.1.below (al W o), fun x hx => ?_⟩
  rcases List.mem_cons.1 hx with rfl | hx
  · exact h.1.loc o
  · exact (h.2 x hx).below (al W o)
theorem St2.drop {w W : World} {hb : Nat} {T : List (Int × List PV)} {L : List (Nat × Obj)} {x : Nat × Obj} {F : Nat → Prop} (h : St2 w hb T (x :: L) F W) : St2 w hb T L F W := ⟨h.1, fun y hy => h.2 y (List.mem_cons_of_mem _ hy)⟩
theorem St2.lt {w W : World} {hb : Nat} {T : List (Int × List PV)} {L : List (Nat × Obj)} {F : Nat → Prop} (h : St2 w hb T L F W) : ∀ x ∈ L, x.1 < W.heap.size := fun x hx => lt_of_block (h.2 x hx).1
theorem St2.set {w W : World} {hb X : Nat} {T : List (Int × List PV)} {L : List (Nat × Obj)} {F : Nat → Prop} {x0 x1 x2 : Value} (h : St2 w hb T L F W) (hx : Loc F W X (.cells #[x0, x1, x2] 28 (0, 0))) (hne : ∀ x ∈ L, x.1 ≠ X) (hw : w.heap.size ≤ X) (y0 y1 y2 : Value) :
    St2 w hb T ((X, .cells #[y0, y1, y2] 28 (0, 0)) :: L) F (((W.setCell ⟨X, 0, none⟩ y0).setCell ⟨X, 1, none⟩ y1).setCell ⟨X, 2, none⟩ y2) := by
  have off : ∀ b, b ≠ X → (((W.setCell ⟨X, 0, none⟩ y0).setCell ⟨X, 1, none⟩ y1).setCell ⟨X, 2, none⟩ y2).heap[b]? = W.heap[b]? := fun b hb => put3_other y0 y1 y2 hb
  refine ⟨⟨h.1.1.move (fun b hf _ => off b (fun e => hx.2 (e ▸ hf))) (fun _ q => q), fun b hf => ?_, h.1.2.2.trans (put3_below (Below.refl _ W) hw y0 y1 y2)⟩, fun z hz => ?_⟩
  · rw [size_put, size_put, size_put]; exact h.1.2.1 b hf
  · rcases List.mem_cons.1 hz with rfl | hz
    · exact ⟨put3 hx.1 y0 y1 y2, hx.2⟩
    · exact ⟨(off _ (hne z hz)).trans (h.2 z hz).1, (h.2 z hz).2⟩
theorem vset_row {l : List PV} {a : Nat} (h : a < l.length) (u : PV) : ((((vCells l).toArray.setIfInBounds (a * 3) (.int .i64 u.k)).setIfInBounds (a * 3 + 1) (.int .i64 u.i)).setIfInBounds (a * 3 + 2) (.string u.s)) = (vCells (l.set a u)).toArray := by
  apply Array.ext'
  simp only [Array.toList_setIfInBounds]
  rw [vCells_set, if_pos h]
theorem KSt.put1 {w W : World} {hb LA LB R1 R2 : Nat} {t1 t2 l1 l2 : List PV} {F : Nat → Prop} (h : KSt w hb LA LB R1 R2 t1 t2 l1 l2 F W) {a : Nat} (ha : a < l1.length) (u : PV) : KSt w hb LA LB R1 R2 t1 t2 (l1.set a u) l2 F (set3 W R1 (a * 3) u) := by
  obtain ⟨g1, g2, g3, g4, g5⟩ := h.lt
  have hne : ∀ b, F b → b ≠ R1 := fun b hf e => h.r1.2 (e ▸ hf)
  refine ⟨⟨h.ctx.1.move (fun b hf _ => set3_other (hne b hf)) (fun _ q => q), fun b hf => ?_, h.ctx.2.2.trans (set3_below (by omega))⟩, ⟨(set3_other (by omega)).trans h.la.1, h.la.2⟩, ⟨(set3_other (by omega)).trans h.lb.1, h.lb.2⟩, ⟨?_, h.r1.2⟩, ⟨(set3_other (by omega)).trans h.r2.1, h.r2.2⟩, h.lt⟩
  · rw [set3_size]; exact h.ctx.2.1 b hf
  · rw [set3_same h.r1.1, vset_row ha]
theorem KSt.put2 {w W : World} {hb LA LB R1 R2 : Nat} {t1 t2 l1 l2 : List PV} {F : Nat → Prop} (h : KSt w hb LA LB R1 R2 t1 t2 l1 l2 F W) {a : Nat} (ha : a < l2.length) (u : PV) : KSt w hb LA LB R1 R2 t1 t2 l1 (l2.set a u) F (set3 W R2 (a * 3) u) := by
  obtain ⟨g1, g2, g3, g4, g5⟩ := h.lt
  have hne : ∀ b, F b → b ≠ R2 := fun b hf e => h.r2.2 (e ▸ hf)
  refine ⟨⟨h.ctx.1.move (fun b hf _ => set3_other (hne b hf)) (fun _ q => q), fun b hf => ?_, h.ctx.2.2.trans (set3_below (by omega))⟩, ⟨(set3_other (by omega)).trans h.la.1, h.la.2⟩, ⟨(set3_other (by omega)).trans h.lb.1, h.lb.2⟩, ⟨(set3_other (by omega)).trans h.r1.1, h.r1.2⟩, ⟨?_, h.r2.2⟩, h.lt⟩
  · rw [set3_size]; exact h.ctx.2.1 b hf
  · rw [set3_same h.r2.1, vset_row ha]
theorem row_at {F : Nat → Prop} {W : World} {R : Nat} {l : List PV} (h : Loc F W R (.cells (vCells l).toArray 28 (0, 0))) (j : Nat) (hj : j < l.length) :
    (W.cell? ⟨R, j * 3, none⟩ = some (.int .i64 l[j].k) ∧ W.cell? ⟨R, j * 3 + 1, none⟩ = some (.int .i64 l[j].i) ∧ W.cell? ⟨R, j * 3 + 2, none⟩ = some (.string l[j].s)) ∧ W.frozen? ⟨R, j * 3, none⟩ = false ∧ W.frozen? ⟨R, j * 3 + 1, none⟩ = false ∧ W.frozen? ⟨R, j * 3 + 2, none⟩ = false := by
  have g := vCells_get l j hj
  refine ⟨⟨?_, ?_, ?_⟩, Lib.frozen_of_heap h.1 _, Lib.frozen_of_heap h.1 _, Lib.frozen_of_heap h.1 _⟩
  · rw [Lib.cell_of_heap h.1]; simpa using g.1
  · rw [Lib.cell_of_heap h.1]; simpa using g.2.1
  · rw [Lib.cell_of_heap h.1]; simpa using g.2.2
/-- A row that is being filled: its first j places hold u. -/
def Fil (F : Nat → Prop) (W : World) (R n j : Nat) (u : PV) : Prop := ∃ cur : Array Value, Loc F W R (.cells cur 28 (0, 0)) ∧ cur.size = n * 3 ∧ cur.toList.take (j * 3) = vCells (repl j u)
theorem Fil.cells {F : Nat → Prop} {W : World} {R n j : Nat} {u : PV} (h : Fil F W R n j u) (hj : j < n) : (∃ y0 y1 y2, W.cell? ⟨R, j * 3, none⟩ = some y0 ∧ W.cell? ⟨R, j * 3 + 1, none⟩ = some y1 ∧ W.cell? ⟨R, j * 3 + 2, none⟩ = some y2) ∧ W.frozen? ⟨R, j * 3, none⟩ = false ∧ W.frozen? ⟨R, j * 3 + 1, none⟩ = false ∧ W.frozen? ⟨R, j * 3 + 2, none⟩ = false := by
  obtain ⟨cur, h1, h2, h3⟩ := h
  refine ⟨⟨cur[j * 3]'(by omega), cur[j * 3 + 1]'(by omega), cur[j * 3 + 2]'(by omega), ?_, ?_, ?_⟩, Lib.frozen_of_heap h1.1 _, Lib.frozen_of_heap h1.1 _, Lib.frozen_of_heap h1.1 _⟩
  all_goals (rw [Lib.cell_of_heap h1.1]; exact Array.getElem?_eq_getElem (by omega))
theorem Fil.step {F : Nat → Prop} {W : World} {R n j : Nat} {u : PV} (h : Fil F W R n j u) (hj : j < n) : Fil F (set3 W R (j * 3) u) R n (j + 1) u := by
  obtain ⟨cur, h1, h2, h3⟩ := h
  refine ⟨_, ⟨set3_same h1.1, h1.2⟩, by simpa using h2, ?_⟩
  simp only [Array.toList_setIfInBounds]
  have hl : (vCells (repl j u)).length = j * 3 := by rw [vCells_len, repl_length]
  have e : repl (j + 1) u = repl j u ++ [u] := by unfold repl; exact List.replicate_succ'
  rw [e, vCells_append, ← h3]
  have hc : cur.toList.length = n * 3 := by simpa using h2
  apply List.ext_getElem?
  intro i
  rw [List.getElem?_take]
  by_cases hi : i < (j + 1) * 3
  · rw [if_pos hi]
    by_cases hlt : i < j * 3
    · rw [List.getElem?_append_left (by rw [List.length_take]; omega), List.getElem?_take, if_pos hlt, List.getElem?_set_ne (by omega), List.getElem?_set_ne (by omega), List.getElem?_set_ne (by omega)]
    · rw [List.getElem?_append_right (by rw [List.length_take]; omega), List.length_take, hc, Nat.min_eq_left (by omega)]
      have : i = j * 3 ∨ i = j * 3 + 1 ∨ i = j * 3 + 2 := by omega
      rcases this with rfl | rfl | rfl
      · rw [List.getElem?_set_ne (by omega), List.getElem?_set_ne (by omega), List.getElem?_set_self (by omega)]
        simp [vCells]
      · rw [List.getElem?_set_ne (by omega), List.getElem?_set_self (by simp; omega)]
        simp [vCells]
      · rw [List.getElem?_set_self (by simp; omega)]
        simp [vCells]
  · rw [if_neg hi, List.getElem?_eq_none]
    rw [List.length_append, List.length_take, hc]
    simp [vCells]
    omega
theorem Fil.full {F : Nat → Prop} {W : World} {R n : Nat} {u : PV} (h : Fil F W R n n u) : Loc F W R (.cells (vCells (repl n u)).toArray 28 (0, 0)) := by
  obtain ⟨cur, h1, h2, h3⟩ := h
  have : cur = (vCells (repl n u)).toArray := by
    apply Array.ext'
    rw [← h3, List.take_of_length_le (by simp; omega)]
  rw [← this]
  exact h1
theorem Fil.set3 {F : Nat → Prop} {W : World} {R n j B o : Nat} {u y : PV} (h : Fil F W R n j u) (hne : R ≠ B) : Fil F (set3 W B o y) R n j u := by
  obtain ⟨cur, h1, h2, h3⟩ := h
  exact ⟨cur, h1.set3 hne, h2, h3⟩
theorem St2.st3 {w W : World} {hb R o : Nat} {T : List (Int × List PV)} {L : List (Nat × Obj)} {F : Nat → Prop} {u : PV} (h : St2 w hb T L F W) (hF : ¬ F R) (hne : ∀ x ∈ L, x.1 ≠ R) (hw : w.heap.size ≤ R) : St2 w hb T L F (set3 W R o u) :=
  ⟨h.1.set3 hF hw, fun x hx => (h.2 x hx).set3 (hne x hx)⟩
theorem St2.put1 {w W : World} {hb R1 R2 LA LB a : Nat} {oa ob : Obj} {T : List (Int × List PV)} {l1 l2 : List PV} {F : Nat → Prop} {u : PV} (h : St2 w hb T [(R1, .cells (vCells l1).toArray 28 (0, 0)), (R2, .cells (vCells l2).toArray 28 (0, 0)), (LA, oa), (LB, ob)] F W) (ha : a < l1.length) (h1 : R1 ≠ R2) (h2 : LA ≠ R1) (h3 : LB ≠ R1) (hw : w.heap.size ≤ R1) :
    St2 w hb T [(R1, .cells (vCells (l1.set a u)).toArray 28 (0, 0)), (R2, .cells (vCells l2).toArray 28 (0, 0)), (LA, oa), (LB, ob)] F (set3 W R1 (a * 3) u) := by
  have q0 := h.at 0 rfl
  have q1 := h.at 1 rfl
  have q2 := h.at 2 rfl
  have q3 := h.at 3 rfl
  refine ⟨h.1.set3 q0.2 hw, fun x hx => ?_⟩
  simp only [List.mem_cons, List.not_mem_nil, or_false] at hx
  rcases hx with rfl | rfl | rfl | rfl
  · exact ⟨by rw [set3_same q0.1, vset_row ha], q0.2⟩
  · exact q1.set3 (fun e => h1 e.symm)
  · exact q2.set3 h2
  · exact q3.set3 h3
theorem St2.put2 {w W : World} {hb R1 R2 LA LB a : Nat} {oa ob : Obj} {T : List (Int × List PV)} {l1 l2 : List PV} {F : Nat → Prop} {u : PV} (h : St2 w hb T [(R1, .cells (vCells l1).toArray 28 (0, 0)), (R2, .cells (vCells l2).toArray 28 (0, 0)), (LA, oa), (LB, ob)] F W) (ha : a < l2.length) (h1 : R1 ≠ R2) (h2 : LA ≠ R2) (h3 : LB ≠ R2) (hw : w.heap.size ≤ R2) :
    St2 w hb T [(R1, .cells (vCells l1).toArray 28 (0, 0)), (R2, .cells (vCells (l2.set a u)).toArray 28 (0, 0)), (LA, oa), (LB, ob)] F (set3 W R2 (a * 3) u) := by
  have q0 := h.at 0 rfl
  have q1 := h.at 1 rfl
  have q2 := h.at 2 rfl
  have q3 := h.at 3 rfl
  refine ⟨h.1.set3 q1.2 hw, fun x hx => ?_⟩
  simp only [List.mem_cons, List.not_mem_nil, or_false] at hx
  rcases hx with rfl | rfl | rfl | rfl
  · exact q0.set3 h1
  · exact ⟨by rw [set3_same q1.1, vset_row ha], q1.2⟩
  · exact q2.set3 h2
  · exact q3.set3 h3
theorem Fil.below {W W' : World} {F : Nat → Prop} {R n j : Nat} {u : PV} (h : Fil F W R n j u) (hb : Below W.heap.size W W') : Fil F W' R n j u := by
  obtain ⟨cur, h1, h2, h3⟩ := h
  exact ⟨cur, h1.below hb, h2, h3⟩
theorem make_row (m : Nat) (w : World) (h : m ≤ 1000) : ∃ w1 cur, (Instr.makeSlice 41 (.int .i64 (m : Int)) (.int .i64 (m : Int))).run Tryd.prog w = .ok (.slice (some ⟨w.heap.size, 0, none⟩) m m) w1 ∧
    w1.heap[w.heap.size]? = some (.cells cur 28 (0, 0)) ∧ cur.size = m * 3 ∧ Below w.heap.size w w1 ∧ w1.heap.size = w.heap.size + 1 := by
  obtain ⟨i0, hi, hz0, hz1, hz2⟩ := info_parts infoVal
  have hr := run_make (P := Tryd.prog) w 41 28 i0 _ Tryd.underlying41 hi hz0 .i64 .i64 (m : Int) (m : Int) (by omega) (Int.le_refl _) (by rw [hz2]; omega) (by omega)
  simp only [Int.toNat_natCast] at hr
  exact ⟨_, _, hr, heap_alloc_new w _, by rw [size_madeCells, hz1], (Below.refl _ _).alloc (Nat.le_refl _) _, size_new _ _⟩
/-- A kind and a number as they may be. -/
def okN (k n : Int) : Prop := 0 ≤ k ∧ k ≤ 8 ∧ -9223372036854775808 ≤ n ∧ n ≤ 9223372036854775807
theorem okN.ok {k n : Int} (h : okN k n) : okV ⟨k, n, ⟨#[]⟩⟩ := ok_num h.2.2.1 h.2.2.2 k h.1 h.2.1
theorem ok_two {k n k' n' : Int} (h : okN k n) (h' : okN k' n') : ∀ v ∈ ([⟨k, n, ⟨#[]⟩⟩, ⟨k', n', ⟨#[]⟩⟩] : List PV), okV v := by
  intro v hv
  simp only [List.mem_cons, List.not_mem_nil, or_false] at hv
  rcases hv with rfl | rfl
  · exact h.ok
  · exact h'.ok
theorem ok_three {k n k' n' k2 n2 : Int} (h : okN k n) (h' : okN k' n') (h2 : okN k2 n2) : ∀ v ∈ ([⟨k, n, ⟨#[]⟩⟩, ⟨k', n', ⟨#[]⟩⟩, ⟨k2, n2, ⟨#[]⟩⟩] : List PV), okV v := by
  intro v hv
  simp only [List.mem_cons, List.not_mem_nil, or_false] at hv
  rcases hv with rfl | rfl | rfl
  · exact h.ok
  · exact h'.ok
  · exact h2.ok
theorem has_null (m : Nat) : hasB m ⟨4, 0, ⟨#[]⟩⟩ = true := by
  have e0 : (⟨#[]⟩ : ByteArray).toList = [] := by kernel_rfl
  simp [hasB, numB, e0]
theorem has_th {m : Nat} {i : Int} (h0 : 0 ≤ i) (h1 : i < m) : hasB m ⟨8, i, ⟨#[]⟩⟩ = true := by
  have e0 : (⟨#[]⟩ : ByteArray).toList = [] := by kernel_rfl
  simp [hasB, numB, e0]
  omega
/-- What is put into one of two vectors. -/
theorem putT_one {t1 t2 : List PV} {a : Int} {u : PV} (h0 : 0 ≤ a) (h1 : a < t1.length) : putT [(1, t1), (1, t2)] ⟨8, 0, ⟨#[]⟩⟩ a u = (⟨5, 0, ⟨#[]⟩⟩, 0, [(1, t1.set a.toNat u), (1, t2)]) := by
  rw [putT_in (T := [(1, t1), (1, t2)]) (v := ⟨8, 0, ⟨#[]⟩⟩) (show (0 : Nat) < 2 by decide) h0 (by show a.toNat < t1.length; omega)]
  rfl
theorem putT_two {t1 t2 : List PV} {a : Int} {u : PV} (h0 : 0 ≤ a) (h1 : a < t2.length) : putT [(1, t1), (1, t2)] ⟨8, 1, ⟨#[]⟩⟩ a u = (⟨5, 0, ⟨#[]⟩⟩, 0, [(1, t1), (1, t2.set a.toNat u)]) := by
  rw [putT_in (T := [(1, t1), (1, t2)]) (v := ⟨8, 1, ⟨#[]⟩⟩) (show (1 : Nat) < 2 by decide) h0 (by show a.toNat < t2.length; omega)]
  rfl
theorem putT_one_out {t1 t2 : List PV} {a : Int} {u : PV} (h : a < 0 ∨ (t1.length : Int) ≤ a) : putT [(1, t1), (1, t2)] ⟨8, 0, ⟨#[]⟩⟩ a u = (⟨0, 0, ⟨#[]⟩⟩, 83, [(1, t1), (1, t2)]) := putT_out (T := [(1, t1), (1, t2)]) (v := ⟨8, 0, ⟨#[]⟩⟩) (show (0 : Nat) < 2 by decide) h
theorem putT_two_out {t1 t2 : List PV} {a : Int} {u : PV} (h : a < 0 ∨ (t2.length : Int) ≤ a) : putT [(1, t1), (1, t2)] ⟨8, 1, ⟨#[]⟩⟩ a u = (⟨0, 0, ⟨#[]⟩⟩, 83, [(1, t1), (1, t2)]) := putT_out (T := [(1, t1), (1, t2)]) (v := ⟨8, 1, ⟨#[]⟩⟩) (show (1 : Nat) < 2 by decide) h
end Go.Proofs.YtcilmfjgbnfcgaaDoor.Hp
