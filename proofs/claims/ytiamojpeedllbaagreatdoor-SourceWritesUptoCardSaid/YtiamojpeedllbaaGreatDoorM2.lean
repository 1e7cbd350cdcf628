/-
The law DatumMakes of layer 2: data whose blocks are all new. No condition.
-/
import Derived.Test.YtiamojpeedllbaaGreatDoorM1
namespace Go.Proofs.YtiamojpeedllbaaGreatDoor.Dat
open Go.ChangeShapes Go.WideShapes Go.ChangeAt Go.RowKit
set_option maxRecDepth 100000

mutual
/-- The datum lies at four cells from ⟨b, o⟩ on, and its rows lie in blocks from C on. -/
def NewD (w : World) (C : Nat) : PT → Nat → Nat → Prop
  | .mk k i s l, b, o => ok64 k ∧ ok64 i ∧ s.size ≤ maxLen ∧ w.cell? ⟨b, o, none⟩ = some (.int .i64 k) ∧ w.cell? ⟨b, o + 1, none⟩ = some (.int .i64 i) ∧ w.cell? ⟨b, o + 2, none⟩ = some (.string s) ∧
      ∃ v, w.cell? ⟨b, o + 3, none⟩ = some v ∧ ∃ a c, v = .slice a l.length c ∧ l.length ≤ c ∧ c ≤ maxLen ∧ (a = none → c = 0) ∧ (l = [] ∨ ∃ b' o', a = some ⟨b', o', none⟩ ∧ C ≤ b' ∧ NewAt w C l b' o')
def NewAt (w : World) (C : Nat) : List PT → Nat → Nat → Prop
  | [], _, _ => True
  | t :: l, b, o => NewD w C t b o ∧ NewAt w C l b (o + 4)
end
def NewS (w : World) (C : Nat) (l : List PT) (v : Value) : Prop :=
  ∃ a c, v = .slice a l.length c ∧ l.length ≤ c ∧ c ≤ maxLen ∧ (a = none → c = 0) ∧ (l = [] ∨ ∃ b' o', a = some ⟨b', o', none⟩ ∧ C ≤ b' ∧ NewAt w C l b' o')
abbrev NewX (w : World) (C : Nat) : List PT → List Value → Prop := RowX (NewS w C)
def NewV (w : World) (C : Nat) : PT → Value → Prop
  | .mk k i s l, v => ok64 k ∧ ok64 i ∧ s.size ≤ maxLen ∧ NewS w C l v

theorem newD_mk {w : World} {C : Nat} {k i : Int} {s : ByteArray} {l : List PT} {b o : Nat} :
    NewD w C (.mk k i s l) b o ↔ ok64 k ∧ ok64 i ∧ s.size ≤ maxLen ∧ w.cell? ⟨b, o, none⟩ = some (.int .i64 k) ∧ w.cell? ⟨b, o + 1, none⟩ = some (.int .i64 i) ∧ w.cell? ⟨b, o + 2, none⟩ = some (.string s) ∧
      ∃ v, w.cell? ⟨b, o + 3, none⟩ = some v ∧ NewS w C l v := by
  rw [NewD]; rfl

mutual
theorem NewD.move {w w' : World} {C C' : Nat} (hC : C' ≤ C) (hc : ∀ b o v, C ≤ b → w.cell? ⟨b, o, none⟩ = some v → w'.cell? ⟨b, o, none⟩ = some v) :
    ∀ (t : PT) {b o : Nat}, C ≤ b → NewD w C t b o → NewD w' C' t b o
  | .mk k i s l, b, o, hb, h => by
    rw [newD_mk] at h ⊢
    obtain ⟨h1, h2, h3, c0, c1, c2, v, c3, a, c, e, hl, hm, hn, hr⟩ := h
    refine ⟨h1, h2, h3, hc _ _ _ hb c0, hc _ _ _ hb c1, hc _ _ _ hb c2, v, hc _ _ _ hb c3, a, c, e, hl, hm, hn, ?_⟩
    rcases hr with hr | ⟨b', o', ha, hlt, hr⟩
    · exact .inl hr
    · exact .inr ⟨b', o', ha, by omega, NewAt.move hC hc l hlt hr⟩
theorem NewAt.move {w w' : World} {C C' : Nat} (hC : C' ≤ C) (hc : ∀ b o v, C ≤ b → w.cell? ⟨b, o, none⟩ = some v → w'.cell? ⟨b, o, none⟩ = some v) :
    ∀ (l : List PT) {b o : Nat}, C ≤ b → NewAt w C l b o → NewAt w' C' l b o
  | [], _, _, _, _ => by rw [NewAt]; trivial
  | t :: l, b, o, hb, h => by
    rw [NewAt] at h ⊢
    exact ⟨NewD.move hC hc t hb h.1, NewAt.move hC hc l hb h.2⟩
end
theorem NewS.move {w w' : World} {C C' : Nat} (hC : C' ≤ C) (hc : ∀ b o v, C ≤ b → w.cell? ⟨b, o, none⟩ = some v → w'.cell? ⟨b, o, none⟩ = some v) {l : List PT} {v : Value} (h : NewS w C l v) : NewS w' C' l v := by
  obtain ⟨a, c, e, hl, hm, hn, hr⟩ := h
  refine ⟨a, c, e, hl, hm, hn, ?_⟩
  rcases hr with hr | ⟨b', o', ha, hlt, hr⟩
  · exact .inl hr
  · exact .inr ⟨b', o', ha, by omega, hr.move hC hc l hlt⟩
theorem NewX.move {w w' : World} {C C' : Nat} (hC : C' ≤ C) (hc : ∀ b o v, C ≤ b → w.cell? ⟨b, o, none⟩ = some v → w'.cell? ⟨b, o, none⟩ = some v) {l : List PT} {xs : List Value} (h : NewX w C l xs) : NewX w' C' l xs := RowX.imp (fun _ _ h => h.move hC hc) h
/-- Below, of what is new. -/
theorem kept_of_below {w w' : World} (hb : Below w.heap.size w w') (b o : Nat) (v : Value) (h : w.cell? ⟨b, o, none⟩ = some v) : w'.cell? ⟨b, o, none⟩ = some v := by
  rw [hb.cell (p := ⟨b, o, none⟩) (World.block_lt_of_cell? _ _ h)]; exact h

mutual
theorem NewD.rep {w : World} {C : Nat} : ∀ (t : PT) {b o : Nat}, NewD w C t b o → RepD w w.heap.size t b o
  | .mk k i s l, b, o, h => by
    rw [newD_mk] at h
    rw [repD_mk]
    obtain ⟨h1, h2, h3, c0, c1, c2, v, c3, a, c, e, hl, hm, hn, hr⟩ := h
    refine ⟨h1, h2, h3, c0, c1, c2, v, c3, a, c, e, hl, hm, hn, ?_⟩
    rcases hr with hr | ⟨b', o', ha, hlt, hr⟩
    · exact .inl hr
    · match l, hr with
      | [], _ => exact .inl rfl
      | t :: l, hr =>
        have hr' := NewAt.rep (t :: l) hr
        refine .inr ⟨b', o', ha, ?_, hr'⟩
        match t, hr' with
        | .mk k i s m, hr' =>
          rw [RepAt, repD_mk] at hr'
          exact World.block_lt_of_cell? _ _ hr'.1.2.2.2.1
theorem NewAt.rep {w : World} {C : Nat} : ∀ (l : List PT) {b o : Nat}, NewAt w C l b o → RepAt w w.heap.size l b o
  | [], _, _, _ => by rw [RepAt]; trivial
  | t :: l, b, o, h => by
    rw [NewAt] at h
    rw [RepAt]
    exact ⟨NewD.rep t h.1, NewAt.rep l h.2⟩
end
theorem NewS.rep {w : World} {C : Nat} {l : List PT} {v : Value} (h : NewS w C l v) : RepS w w.heap.size l v := by
  obtain ⟨a, c, e, hl, hm, hn, hr⟩ := h
  refine ⟨a, c, e, hl, hm, hn, ?_⟩
  rcases hr with hr | ⟨b', o', ha, hlt, hr⟩
  · exact .inl hr
  · match l, hr with
    | [], _ => exact .inl rfl
    | .mk k i s m :: l, hr =>
      have hr' := NewAt.rep _ hr
      refine .inr ⟨b', o', ha, ?_, hr'⟩
      rw [RepAt, repD_mk] at hr'
      exact World.block_lt_of_cell? _ _ hr'.1.2.2.2.1

theorem newAt_of_x {w : World} {C : Nat} : ∀ {l : List PT} {xs : List Value} {b o : Nat}, NewX w C l xs → (∀ j u, xs[j]? = some u → w.cell? ⟨b, o + j, none⟩ = some u) → NewAt w C l b o
  | [], xs, b, o, _, _ => by rw [NewAt]; trivial
  | .mk k i s m :: l, xs, b, o, h, hc => by
    rw [NewX, RowX] at h
    obtain ⟨v, ys, rfl, h1, h2, h3, h4, h⟩ := h
    rw [NewAt]
    refine ⟨newD_mk.2 ⟨h1, h2, h3, hc 0 _ rfl, hc 1 _ rfl, hc 2 _ rfl, v, hc 3 _ rfl, h4⟩, newAt_of_x h fun j u hj => ?_⟩
    have := hc (j + 4) u (by simpa using hj)
    rwa [show o + (j + 4) = o + 4 + j by omega] at this

/-! ### a row that is made, and filled from the front -/
/-- In block g lie n data's cells, of which the first ones are the list's. -/
def Filled (w : World) (g n : Nat) (l : List PT) (C : Nat) : Prop := ∃ cs : Array Value, w.heap[g]? = some (.cells cs 28 (0, 0)) ∧ cs.size = n * 4 ∧ ∃ xs : List Value, NewX w C l xs ∧ ∀ (j : Nat) (u : Value), xs[j]? = some u → cs[j]? = some u

theorem Filled.done {w : World} {g n C C' : Nat} {l : List PT} (h : Filled w g n l C) (hg : C' ≤ g) (hC : C' ≤ C) (hn : n = l.length) (hm : n ≤ maxLen) : NewS w C' l (.slice (some ⟨g, 0, none⟩) n n) := by
  obtain ⟨cs, hb, hs, xs, hx, hc⟩ := h
  subst hn
  refine ⟨some ⟨g, 0, none⟩, l.length, rfl, Nat.le_refl _, hm, (fun h => by cases h), .inr ⟨g, 0, rfl, hg, newAt_of_x (hx.move hC fun _ _ _ _ h => h) fun j u hj => ?_⟩⟩
  rw [Lib.cell_of_heap hb]
  simpa using hc j u hj
theorem Filled.below {w w' : World} {g n C : Nat} {l : List PT} (h : Filled w g n l C) (hb : Below w.heap.size w w') : Filled w' g n l C := by
  obtain ⟨cs, hg, hs, xs, hx, hc⟩ := h
  exact ⟨cs, (hb.block _ (lt_of_block hg)).trans hg, hs, xs, hx.move (Nat.le_refl _) fun b o v _ h => kept_of_below hb b o v h, hc⟩

theorem Filled.put {w : World} {g n C : Nat} {l : List PT} {k i : Int} {s : ByteArray} {m : List PT} {v : Value} (h : Filled w g n l C) (hC : g < C) (hj : l.length < n) (hv : NewV w C (.mk k i s m) v) :
    Filled ((((w.setCell ⟨g, l.length * 4, none⟩ (.int .i64 k)).setCell ⟨g, l.length * 4 + 1, none⟩ (.int .i64 i)).setCell ⟨g, l.length * 4 + 2, none⟩ (.string s)).setCell ⟨g, l.length * 4 + 3, none⟩ v) g n (l ++ [.mk k i s m]) C := by
  obtain ⟨cs, hb, hs, xs, hx, hc⟩ := h
  obtain ⟨h1, h2, h3, h4⟩ := hv
  have hl := RowX.len hx
  have e1 := heap_setCell_same w g (l.length * 4) cs 28 (.int .i64 k) hb
  have e2 := heap_setCell_same _ g (l.length * 4 + 1) _ 28 (.int .i64 i) e1
  have e3 := heap_setCell_same _ g (l.length * 4 + 2) _ 28 (.string s) e2
  have e4 := heap_setCell_same _ g (l.length * 4 + 3) _ 28 v e3
  have hx1 : NewX w C (l ++ [.mk k i s m]) (xs ++ [.int .i64 k, .int .i64 i, .string s, v]) := by
    refine RowX.append ?_ hx
    rw [RowX]
    exact ⟨v, [], rfl, h1, h2, h3, h4, by rw [RowX]⟩
  refine ⟨_, e4, by simpa using hs, _, hx1.move (Nat.le_refl _) (fun b o v hb h => ?_), ?_⟩
  · have hne : ∀ (q : Nat), (⟨b, o, none⟩ : Addr).block ≠ (⟨g, q, none⟩ : Addr).block := fun q => by show b ≠ g; omega
    rw [World.cell?_of_block (heap_setCell_other _ _ _ _ (hne _)), World.cell?_of_block (heap_setCell_other _ _ _ _ (hne _)), World.cell?_of_block (heap_setCell_other _ _ _ _ (hne _)), World.cell?_of_block (heap_setCell_other _ _ _ _ (hne _))]
    exact h
  · intro j u hju
    simp only [Array.getElem?_setIfInBounds]
    by_cases hlt : j < xs.length
    · rw [List.getElem?_append_left hlt] at hju
      rw [if_neg (by omega), if_neg (by omega), if_neg (by omega), if_neg (by omega)]
      exact hc j u hju
    · rw [List.getElem?_append_right (by omega)] at hju
      have hq : ∃ q, j = l.length * 4 + q ∧ q < 4 := ⟨j - l.length * 4, by omega, by
        have := List.getElem?_eq_some_iff.1 hju
        obtain ⟨h5, _⟩ := this
        simp at h5
        omega⟩
      obtain ⟨q, rfl, hq⟩ := hq
      rw [hl, Nat.add_sub_cancel_left] at hju
      have hsz : l.length * 4 + 3 < cs.size := by omega
      match q, hq with
      | 0, _ => simp at hju; subst hju; simp; omega
      | 1, _ => simp at hju; subst hju; simp; omega
      | 2, _ => simp at hju; subst hju; simp; omega
      | 3, _ => simp at hju; subst hju; simp; omega

/-- What lies in blocks from C on is as it was. -/
def Keep (C : Nat) (w w' : World) : Prop := ∀ k, C ≤ k → w'.heap[k]? = w.heap[k]?
theorem Keep.refl (C : Nat) (w : World) : Keep C w w := fun _ _ => rfl
theorem Keep.setCell {C : Nat} {w w' : World} (h : Keep C w w') {a : Addr} (ha : a.block < C) (u : Value) : Keep C w (w'.setCell a u) := fun k hk => by
  rw [Below.heap_setCell _ _ _ _ (by omega)]; exact h k hk
theorem Keep.cell {C : Nat} {w w' : World} (h : Keep C w w') (b o : Nat) (v : Value) (hb : C ≤ b) (hc : w.cell? ⟨b, o, none⟩ = some v) : w'.cell? ⟨b, o, none⟩ = some v := by
  rw [World.cell?_of_block (w := w) (w' := w') (a := ⟨b, o, none⟩) (h b hb)]; exact hc
end Go.Proofs.YtiamojpeedllbaaGreatDoor.Dat
