/-
Texts M1, M2, M3, M4, M5, M7, M8, M9, M10, one behind the other (a claim bears sixty files). Conditions: as each says.
-/
import Derived.Test.YtkjgdnfkpebejaaWE
import Derived.Laws.OwnMore
import Derived.Laws.AppendOwnNone
import Derived.Lib.AppendZeros

/-
The law DatumMakes of layer 2: rows of data that are made: a row's cells as a list, an owned row, append of a row; data whose blocks are all new. No condition.
-/
namespace Go.Proofs.Ytkjgdnfkpebejaa.Dat
open Go.ChangeShapes Go.WideShapes Go.ChangeAt Go.RowKit
set_option maxRecDepth 100000

theorem infoDatum : (Try.prog.info? 25).map (fun i => (i.zero, i.size, i.bytes)) = some (some (.agg #[.int .i64 0, .int .i64 0, .string ⟨#[]⟩, .slice none 0 0]), 4, 56) := by kernel_rfl

/-- The cells of a row of data; R: what holds of an item's own row. -/
def RowX (R : List PT → Value → Prop) : List PT → List Value → Prop
  | [], xs => xs = []
  | .mk k i s m :: l, xs => ∃ v ys, xs = .int .i64 k :: .int .i64 i :: .string s :: v :: ys ∧ ok64 k ∧ ok64 i ∧ s.size ≤ maxLen ∧ R m v ∧ RowX R l ys
abbrev RepX (w : World) (B : Nat) : List PT → List Value → Prop := RowX (RepS w B)

theorem RowX.len {R : List PT → Value → Prop} : ∀ {l : List PT} {xs : List Value}, RowX R l xs → xs.length = l.length * 4
  | [], xs, h => by rw [RowX] at h; subst h; rfl
  | .mk k i s m :: l, xs, h => by
    rw [RowX] at h
    obtain ⟨v, ys, rfl, _, _, _, _, h⟩ := h
    have := RowX.len h
    simp only [List.length_cons]
    omega
theorem RowX.append {R : List PT → Value → Prop} {m : List PT} {ys : List Value} (hm : RowX R m ys) : ∀ {l : List PT} {xs : List Value}, RowX R l xs → RowX R (l ++ m) (xs ++ ys)
  | [], xs, h => by rw [RowX] at h; subst h; exact hm
  | .mk k i s n :: l, xs, h => by
    rw [RowX] at h
    obtain ⟨v, zs, rfl, h1, h2, h3, h4, h⟩ := h
    rw [List.cons_append, RowX]
    exact ⟨v, zs ++ ys, rfl, h1, h2, h3, h4, RowX.append hm h⟩
theorem RowX.one {R : List PT → Value → Prop} (hR : ∀ m v, R m v → v.oneCell' = true) : ∀ {l : List PT} {xs : List Value}, RowX R l xs → ∀ u ∈ xs, u.oneCell' = true
  | [], xs, h, u, hu => by rw [RowX] at h; subst h; cases hu
  | .mk k i s m :: l, xs, h, u, hu => by
    rw [RowX] at h
    obtain ⟨v, ys, rfl, _, _, _, hv, h⟩ := h
    simp only [List.mem_cons] at hu
    rcases hu with rfl | rfl | rfl | rfl | hu
    · rfl
    · rfl
    · rfl
    · exact hR _ _ hv
    · exact RowX.one hR h u hu
theorem RowX.imp {R R' : List PT → Value → Prop} (hR : ∀ m v, R m v → R' m v) : ∀ {l : List PT} {xs : List Value}, RowX R l xs → RowX R' l xs
  | [], xs, h => by rw [RowX] at h ⊢; exact h
  | .mk k i s m :: l, xs, h => by
    rw [RowX] at h ⊢
    obtain ⟨v, ys, e, h1, h2, h3, h4, h⟩ := h
    exact ⟨v, ys, e, h1, h2, h3, hR _ _ h4, RowX.imp hR h⟩
theorem RepX.len {w : World} {B : Nat} {l : List PT} {xs : List Value} (h : RepX w B l xs) : xs.length = l.length * 4 := RowX.len h
theorem RepX.append {w : World} {B : Nat} {m : List PT} {ys : List Value} (hm : RepX w B m ys) {l : List PT} {xs : List Value} (h : RepX w B l xs) : RepX w B (l ++ m) (xs ++ ys) := RowX.append hm h
theorem RepX.one {w : World} {B : Nat} {l : List PT} {xs : List Value} (h : RepX w B l xs) : ∀ u ∈ xs, u.oneCell' = true := RowX.one (fun _ _ ⟨_, _, e, _⟩ => by subst e; rfl) h
theorem RepX.move {w w' : World} {B B' : Nat} (hB : B ≤ B') (hc : ∀ b o, b < B → w'.cell? ⟨b, o, none⟩ = w.cell? ⟨b, o, none⟩) {l : List PT} {xs : List Value} (h : RepX w B l xs) : RepX w' B' l xs := RowX.imp (fun _ _ h => h.move hB hc) h

theorem repX_of_at {w : World} {B : Nat} : ∀ {l : List PT} {b o : Nat}, RepAt w B l b o → ∃ xs, RepX w B l xs ∧ ∀ j u, xs[j]? = some u → w.cell? ⟨b, o + j, none⟩ = some u
  | [], b, o, _ => ⟨[], by rw [RepX, RowX], fun j u h => by simp at h⟩
  | .mk k i s m :: l, b, o, h => by
    rw [RepAt] at h
    obtain ⟨h1, h2⟩ := h
    rw [repD_mk] at h1
    obtain ⟨k1, k2, k3, c0, c1, c2, v, c3, hv⟩ := h1
    obtain ⟨ys, hy, hc⟩ := repX_of_at h2
    refine ⟨.int .i64 k :: .int .i64 i :: .string s :: v :: ys, ?_, ?_⟩
    · rw [RepX, RowX]
      exact ⟨v, ys, rfl, k1, k2, k3, hv, hy⟩
    · intro j u hj
      match j with
      | 0 => simp at hj; subst hj; exact c0
      | 1 => simp at hj; subst hj; exact c1
      | 2 => simp at hj; subst hj; exact c2
      | 3 => simp at hj; subst hj; exact c3
      | j + 4 =>
        simp at hj
        have := hc j u hj
        rwa [show o + 4 + j = o + (j + 4) by omega] at this
theorem repAt_of_x {w : World} {B : Nat} : ∀ {l : List PT} {xs : List Value} {b o : Nat}, RepX w B l xs → (∀ j u, xs[j]? = some u → w.cell? ⟨b, o + j, none⟩ = some u) → RepAt w B l b o
  | [], xs, b, o, _, _ => by rw [RepAt]; trivial
  | .mk k i s m :: l, xs, b, o, h, hc => by
    rw [RepX, RowX] at h
    obtain ⟨v, ys, rfl, h1, h2, h3, h4, h⟩ := h
    rw [RepAt]
    refine ⟨repD_mk.2 ⟨h1, h2, h3, hc 0 _ rfl, hc 1 _ rfl, hc 2 _ rfl, v, hc 3 _ rfl, h4⟩, repAt_of_x h fun j u hj => ?_⟩
    have := hc (j + 4) u (by simpa using hj)
    rwa [show o + (j + 4) = o + 4 + j by omega] at this

/-- A row of data that the call has made itself. -/
def RowOwn (w : World) (base B : Nat) (l : List PT) (v : Value) : Prop := ∃ xs, w.ownsRow base 25 4 v l.length xs ∧ RepX w B l xs

theorem RowOwn.rep {w : World} {base B : Nat} {l : List PT} {v : Value} (h : RowOwn w base B l v) (hB : B ≤ w.heap.size) : RepS w w.heap.size l v := by
  obtain ⟨xs, ho, hx⟩ := h
  have hx' : RepX w w.heap.size l xs := hx.move hB fun _ _ _ => rfl
  rcases ho.2 with ⟨rfl, h0⟩ | ⟨g, cap, cur, rfl, hb, hg, hn, hcm, hcs, ht⟩
  · obtain rfl := List.eq_nil_of_length_eq_zero h0
    exact ⟨none, 0, rfl, Nat.le_refl _, Nat.zero_le _, fun _ => rfl, .inl rfl⟩
  · refine ⟨some ⟨g, 0, none⟩, cap, rfl, hn, hcm, (fun h => by cases h), .inr ⟨g, 0, rfl, lt_of_block hg, repAt_of_x hx' fun j u hj => ?_⟩⟩
    have := ho.cells (g := g) rfl j u hj
    simpa [add_plain] using this

theorem rowOwn_nil (w : World) (base B : Nat) : RowOwn w base B [] (.slice none 0 0) := ⟨[], World.ownsRow_nil _ _ _ _, by rw [RepX, RowX]⟩

/-- A row whose items' own rows lie below B, wherever it lies itself. -/
def SrcS (w : World) (B : Nat) (m : List PT) (u : Value) : Prop :=
  ∃ a c, u = .slice a m.length c ∧ m.length ≤ c ∧ c ≤ maxLen ∧ (a = none → c = 0) ∧ (m = [] ∨ ∃ b' o', a = some ⟨b', o', none⟩ ∧ RepAt w B m b' o')
theorem RepS.src {w : World} {B : Nat} {m : List PT} {u : Value} (h : RepS w B m u) : SrcS w B m u := by
  obtain ⟨a, c, e, hl, hm, hn, hr⟩ := h
  refine ⟨a, c, e, hl, hm, hn, hr.imp id ?_⟩
  rintro ⟨b', o', ha, _, hr⟩
  exact ⟨b', o', ha, hr⟩

/-- append of a row of data to one of the call's own. -/
theorem wp_append_rows {o : Oper} {a : Act} {w : World} {K : Act → World → Prop} {Q : Exit → Act → World → Prop} (s x : Operand)
    (ho : o.op = .call { callee := .builtin .append, args := #[s, x], argTypes := #[23, 23] }) (base B : Nat) (l m : List PT) (v u : Value) (hs : a.eval s = v) (hx : a.eval x = u)
    (hown : RowOwn w base B l v) (hsrc : SrcS w B m u) (hlen : l.length + m.length ≤ 1000000) (hbase : base ≤ w.heap.size) (hBb : B ≤ base)
    (h : ∀ v' w', RowOwn w' base B (l ++ m) v' → Below base w w' → w.heap.size ≤ w'.heap.size → (∀ k, k < w.heap.size → some k ≠ v.ownBlock → w'.heap[k]? = w.heap[k]?) → K (a.put o.dst v') w') : o.wp Try.prog a w K Q := by
  obtain ⟨i0, hi, hz0, hz1, hz2⟩ := info_parts infoDatum
  obtain ⟨xs, hxs, hrx⟩ := hown
  obtain ⟨ad, c, rfl, hlc, hcm, hna, hr⟩ := hsrc
  have hlow : ∀ k, v.ownBlock = some k → base ≤ k := fun k hk => (hxs.lt k hk).1
  rcases hr with rfl | ⟨b', o', rfl, hr⟩
  · match ad with
    | none =>
      obtain rfl := hna rfl
      refine Lib.wp_append_run w s x 23 23 ho v _ hs hx _ _ (run_append_owned_none (P := Try.prog) (w := w) base 23 o.type 25 i0 4 Try.underlying23 hi v l.length xs hxs) ?_
      exact h v w ⟨xs, by simpa using hxs, by simpa using hrx⟩ (Below.refl _ _) (Nat.le_refl _) (fun _ _ _ => rfl)
    | some ad =>
      refine wp_append_own w s x 23 ho base 25 i0 _ 4 56 Try.underlying23 hi hz0 hz1 hz2 rfl (by decide) v l.length xs hs hxs ad 0 c [] hx rfl (fun j u h => by simp at h) (fun u h => by cases h) (by unfold maxLen; simp at hlen; omega) (by simp at hlen; omega) hbase ?_
      intro v' w' h1 h2 _
      refine h v' w' ⟨xs ++ [], by simpa using h1, ?_⟩ ((Below.refl base w).grown h2 hbase hlow) h2.size h2.block
      rw [List.append_nil, List.append_nil]
      exact hrx.move (Nat.le_refl _) fun b o hb => World.cell?_of_block (h2.block b (by show b < _; omega) (fun e => by have := hlow _ e.symm; omega))
  · obtain ⟨ys, hy, hc⟩ := repX_of_at hr
    refine wp_append_own w s x 23 ho base 25 i0 _ 4 56 Try.underlying23 hi hz0 hz1 hz2 rfl (by decide) v l.length xs hs hxs ⟨b', o', none⟩ m.length c ys hx hy.len (fun j u hj => by rw [add_plain]; exact hc j u hj) hy.one (by unfold maxLen; omega) (by omega) hbase ?_
    intro v' w' h1 h2 _
    have mv : ∀ b o, b < B → w'.cell? ⟨b, o, none⟩ = w.cell? ⟨b, o, none⟩ := fun b o hb => World.cell?_of_block (h2.block b (by show b < _; omega) (fun e => by have := hlow _ e.symm; omega))
    refine h v' w' ⟨xs ++ ys, by rw [List.length_append]; exact h1, ?_⟩ ((Below.refl base w).grown h2 hbase hlow) h2.size h2.block
    exact RepX.append (hy.move (Nat.le_refl _) mv) (hrx.move (Nat.le_refl _) mv)

theorem wpList_append_rows {ops : Array Oper} {rest : List Oper} {o : Oper} {a : Act} {w : World} {Q : Exit → Act → World → Prop} (hgd : o.guard = none) (s x : Operand)
    (ho : o.op = .call { callee := .builtin .append, args := #[s, x], argTypes := #[23, 23] }) (base B : Nat) (l m : List PT) (v u : Value) (hs : a.eval s = v) (hx : a.eval x = u)
    (hown : RowOwn w base B l v) (hsrc : SrcS w B m u) (hlen : l.length + m.length ≤ 1000000) (hbase : base ≤ w.heap.size) (hBb : B ≤ base)
    (h : ∀ v' w', RowOwn w' base B (l ++ m) v' → Below base w w' → w.heap.size ≤ w'.heap.size → (∀ k, k < w.heap.size → some k ≠ v.ownBlock → w'.heap[k]? = w.heap[k]?) → wpList Try.prog ops Q rest (a.put o.dst v') w') : wpList Try.prog ops Q (o :: rest) a w :=
  wpList_plain hgd fun _ hK => wp_append_rows s x ho base B l m v u hs hx hown hsrc hlen hbase hBb fun v' w' h1 h2 h3 h4 => hK _ _ (h v' w' h1 h2 h3 h4)
theorem step_append_rows {ops : Array Oper} {o : Oper} {a : Act} {w : World} {K : Act → World → Prop} {Q : Exit → Act → World → Prop} {E : Prop} (hgd : o.guard = none) (s x : Operand)
    (ho : o.op = .call { callee := .builtin .append, args := #[s, x], argTypes := #[23, 23] }) (base B : Nat) (l m : List PT) (v u : Value) (hs : a.eval s = v) (hx : a.eval x = u)
    (hown : RowOwn w base B l v) (hsrc : SrcS w B m u) (hlen : l.length + m.length ≤ 1000000) (hbase : base ≤ w.heap.size) (hBb : B ≤ base)
    (h : ∀ v' w', RowOwn w' base B (l ++ m) v' → Below base w w' → w.heap.size ≤ w'.heap.size → (∀ k, k < w.heap.size → some k ≠ v.ownBlock → w'.heap[k]? = w.heap[k]?) → K (a.put o.dst v') w') : if Region.wanted o (yielded ops a.tmps) = true then Oper.wp Try.prog o a w K Q else E := by
  have hw : Region.wanted o (yielded ops a.tmps) = true := by simp [Region.wanted, hgd]
  rw [if_pos hw]
  exact wp_append_rows s x ho base B l m v u hs hx hown hsrc hlen hbase hBb h
end Go.Proofs.Ytkjgdnfkpebejaa.Dat

/-
The law DatumMakes of layer 2: data whose blocks are all new. No condition.
-/
namespace Go.Proofs.Ytkjgdnfkpebejaa.Dat
open Go.ChangeShapes Go.WideShapes Go.ChangeAt Go.RowKit
set_option maxRecDepth 100000

mutual
/-- The datum lies at four cells from ⟨b, o⟩ on, and its rows lie in blocks from C on. -/
def NewD (w : World) (C : Nat) : PT → Nat → Nat → Prop
  | .mk k i s l, b, o => ok64 k ∧ ok64 i ∧ s.size ≤ maxLen ∧ w.cell? ⟨b, o, none⟩ = some (.int .i64 k) ∧ w.cell? ⟨b, o + 1, none⟩ = some (.int .i64 i) ∧ w.cell? ⟨b, o + 2, none⟩ = some (.string s) ∧
      ∃ v, w.cell? ⟨b, o + 3, none⟩ = some v ∧ ∃ a c, v = .slice a l.length c ∧ l.length ≤ c ∧ c ≤ maxLen ∧ (a = none → c = 0) ∧ (l = [] ∨ ∃ b' o', a = some ⟨b', o', none⟩ ∧ C ≤ b' ∧ NewAt w C l b' o')
def NewAt (w : World) (C : Nat) : List PT → Nat → Nat → Prop
  | [], _, _ => True
  | t :: l, b, o => NewD w C t b o ∧ NewAt w C l b (o + 4)
end
def NewS (w : World) (C : Nat) (l : List PT) (v : Value) : Prop :=
  ∃ a c, v = .slice a l.length c ∧ l.length ≤ c ∧ c ≤ maxLen ∧ (a = none → c = 0) ∧ (l = [] ∨ ∃ b' o', a = some ⟨b', o', none⟩ ∧ C ≤ b' ∧ NewAt w C l b' o')
abbrev NewX (w : World) (C : Nat) : List PT → List Value → Prop := RowX (NewS w C)
def NewV (w : World) (C : Nat) : PT → Value → Prop
  | .mk k i s l, v => ok64 k ∧ ok64 i ∧ s.size ≤ maxLen ∧ NewS w C l v

theorem newD_mk {w : World} {C : Nat} {k i : Int} {s : ByteArray} {l : List PT} {b o : Nat} :
    NewD w C (.mk k i s l) b o ↔ ok64 k ∧ ok64 i ∧ s.size ≤ maxLen ∧ w.cell? ⟨b, o, none⟩ = some (.int .i64 k) ∧ w.cell? ⟨b, o + 1, none⟩ = some (.int .i64 i) ∧ w.cell? ⟨b, o + 2, none⟩ = some (.string s) ∧
      ∃ v, w.cell? ⟨b, o + 3, none⟩ = some v ∧ NewS w C l v := by
  rw [NewD]; rfl

mutual
theorem NewD.move {w w' : World} {C C' : Nat} (hC : C' ≤ C) (hc : ∀ b o v, C ≤ b → w.cell? ⟨b, o, none⟩ = some v → w'.cell? ⟨b, o, none⟩ = some v) :
    ∀ (t : PT) {b o : Nat}, C ≤ b → NewD w C t b o → NewD w' C' t b o
  | .mk k i s l, b, o, hb, h => by
    rw [newD_mk] at h ⊢
    obtain ⟨h1, h2, h3, c0, c1, c2, v, c3, a, c, e, hl, hm, hn, hr⟩ := h
    refine ⟨h1, h2, h3, hc _ _ _ hb c0, hc _ _ _ hb c1, hc _ _ _ hb c2, v, hc _ _ _ hb c3, a, c, e, hl, hm, hn, ?_⟩
    rcases hr with hr | ⟨b', o', ha, hlt, hr⟩
    · exact .inl hr
    · exact .inr ⟨b', o', ha, by omega, NewAt.move hC hc l hlt hr⟩
theorem NewAt.move {w w' : World} {C C' : Nat} (hC : C' ≤ C) (hc : ∀ b o v, C ≤ b → w.cell? ⟨b, o, none⟩ = some v → w'.cell? ⟨b, o, none⟩ = some v) :
    ∀ (l : List PT) {b o : Nat}, C ≤ b → NewAt w C l b o → NewAt w' C' l b o
  | [], _, _, _, _ => by rw [NewAt]; trivial
  | t :: l, b, o, hb, h => by
    rw [NewAt] at h ⊢
    exact ⟨NewD.move hC hc t hb h.1, NewAt.move hC hc l hb h.2⟩
end
theorem NewS.move {w w' : World} {C C' : Nat} (hC : C' ≤ C) (hc : ∀ b o v, C ≤ b → w.cell? ⟨b, o, none⟩ = some v → w'.cell? ⟨b, o, none⟩ = some v) {l : List PT} {v : Value} (h : NewS w C l v) : NewS w' C' l v := by
  obtain ⟨a, c, e, hl, hm, hn, hr⟩ := h
  refine ⟨a, c, e, hl, hm, hn, ?_⟩
  rcases hr with hr | ⟨b', o', ha, hlt, hr⟩
  · exact .inl hr
  · exact .inr ⟨b', o', ha, by omega, hr.move hC hc l hlt⟩
theorem NewX.move {w w' : World} {C C' : Nat} (hC : C' ≤ C) (hc : ∀ b o v, C ≤ b → w.cell? ⟨b, o, none⟩ = some v → w'.cell? ⟨b, o, none⟩ = some v) {l : List PT} {xs : List Value} (h : NewX w C l xs) : NewX w' C' l xs := RowX.imp (fun _ _ h => h.move hC hc) h
/-- Below, of what is new. -/
theorem kept_of_below {w w' : World} (hb : Below w.heap.size w w') (b o : Nat) (v : Value) (h : w.cell? ⟨b, o, none⟩ = some v) : w'.cell? ⟨b, o, none⟩ = some v := by
  rw [hb.cell (p := ⟨b, o, none⟩) (World.block_lt_of_cell? _ _ h)]; exact h

mutual
theorem NewD.rep {w : World} {C : Nat} : ∀ (t : PT) {b o : Nat}, NewD w C t b o → RepD w w.heap.size t b o
  | .mk k i s l, b, o, h => by
    rw [newD_mk] at h
    rw [repD_mk]
    obtain ⟨h1, h2, h3, c0, c1, c2, v, c3, a, c, e, hl, hm, hn, hr⟩ := h
    refine ⟨h1, h2, h3, c0, c1, c2, v, c3, a, c, e, hl, hm, hn, ?_⟩
    rcases hr with hr | ⟨b', o', ha, hlt, hr⟩
    · exact .inl hr
    · match l, hr with
      | [], _ => exact .inl rfl
      | t :: l, hr =>
        have hr' := NewAt.rep (t :: l) hr
        refine .inr ⟨b', o', ha, ?_, hr'⟩
        match t, hr' with
        | .mk k i s m, hr' =>
          rw [RepAt, repD_mk] at hr'
          exact World.block_lt_of_cell? _ _ hr'.1.2.2.2.1
theorem NewAt.rep {w : World} {C : Nat} : ∀ (l : List PT) {b o : Nat}, NewAt w C l b o → RepAt w w.heap.size l b o
  | [], _, _, _ => by rw [RepAt]; trivial
  | t :: l, b, o, h => by
    rw [NewAt] at h
    rw [RepAt]
    exact ⟨NewD.rep t h.1, NewAt.rep l h.2⟩
end
theorem NewS.rep {w : World} {C : Nat} {l : List PT} {v : Value} (h : NewS w C l v) : RepS w w.heap.size l v := by
  obtain ⟨a, c, e, hl, hm, hn, hr⟩ := h
  refine ⟨a, c, e, hl, hm, hn, ?_⟩
  rcases hr with hr | ⟨b', o', ha, hlt, hr⟩
  · exact .inl hr
  · match l, hr with
    | [], _ => exact .inl rfl
    | .mk k i s m :: l, hr =>
      have hr' := NewAt.rep _ hr
      refine .inr ⟨b', o', ha, ?_, hr'⟩
      rw [RepAt, repD_mk] at hr'
      exact World.block_lt_of_cell? _ _ hr'.1.2.2.2.1

theorem newAt_of_x {w : World} {C : Nat} : ∀ {l : List PT} {xs : List Value} {b o : Nat}, NewX w C l xs → (∀ j u, xs[j]? = some u → w.cell? ⟨b, o + j, none⟩ = some u) → NewAt w C l b o
  | [], xs, b, o, _, _ => by rw [NewAt]; trivial
  | .mk k i s m :: l, xs, b, o, h, hc => by
    rw [NewX, RowX] at h
    obtain ⟨v, ys, rfl, h1, h2, h3, h4, h⟩ := h
    rw [NewAt]
    refine ⟨newD_mk.2 ⟨h1, h2, h3, hc 0 _ rfl, hc 1 _ rfl, hc 2 _ rfl, v, hc 3 _ rfl, h4⟩, newAt_of_x h fun j u hj => ?_⟩
    have := hc (j + 4) u (by simpa using hj)
    rwa [show o + (j + 4) = o + 4 + j by omega] at this

/-! ### a row that is made, and filled from the front -/
/-- In block g lie n data's cells, of which the first ones are the list's. -/
def Filled (w : World) (g n : Nat) (l : List PT) (C : Nat) : Prop := ∃ cs : Array Value, w.heap[g]? = some (.cells cs 25 (0, 0)) ∧ cs.size = n * 4 ∧ ∃ xs : List Value, NewX w C l xs ∧ ∀ (j : Nat) (u : Value), xs[j]? = some u → cs[j]? = some u

theorem Filled.done {w : World} {g n C C' : Nat} {l : List PT} (h : Filled w g n l C) (hg : C' ≤ g) (hC : C' ≤ C) (hn : n = l.length) (hm : n ≤ maxLen) : NewS w C' l (.slice (some ⟨g, 0, none⟩) n n) := by
  obtain ⟨cs, hb, hs, xs, hx, hc⟩ := h
  subst hn
  refine ⟨some ⟨g, 0, none⟩, l.length, rfl, Nat.le_refl _, hm, (fun h => by cases h), .inr ⟨g, 0, rfl, hg, newAt_of_x (hx.move hC fun _ _ _ _ h => h) fun j u hj => ?_⟩⟩
  rw [Lib.cell_of_heap hb]
  simpa using hc j u hj
theorem Filled.below {w w' : World} {g n C : Nat} {l : List PT} (h : Filled w g n l C) (hb : Below w.heap.size w w') : Filled w' g n l C := by
  obtain ⟨cs, hg, hs, xs, hx, hc⟩ := h
  exact ⟨cs, (hb.block _ (lt_of_block hg)).trans hg, hs, xs, hx.move (Nat.le_refl _) fun b o v _ h => kept_of_below hb b o v h, hc⟩

theorem Filled.put {w : World} {g n C : Nat} {l : List PT} {k i : Int} {s : ByteArray} {m : List PT} {v : Value} (h : Filled w g n l C) (hC : g < C) (hj : l.length < n) (hv : NewV w C (.mk k i s m) v) :
    Filled ((((w.setCell ⟨g, l.length * 4, none⟩ (.int .i64 k)).setCell ⟨g, l.length * 4 + 1, none⟩ (.int .i64 i)).setCell ⟨g, l.length * 4 + 2, none⟩ (.string s)).setCell ⟨g, l.length * 4 + 3, none⟩ v) g n (l ++ [.mk k i s m]) C := by
  obtain ⟨cs, hb, hs, xs, hx, hc⟩ := h
  obtain ⟨h1, h2, h3, h4⟩ := hv
  have hl := RowX.len hx
  have e1 := heap_setCell_same w g (l.length * 4) cs 25 (.int .i64 k) hb
  have e2 := heap_setCell_same _ g (l.length * 4 + 1) _ 25 (.int .i64 i) e1
  have e3 := heap_setCell_same _ g (l.length * 4 + 2) _ 25 (.string s) e2
  have e4 := heap_setCell_same _ g (l.length * 4 + 3) _ 25 v e3
  have hx1 : NewX w C (l ++ [.mk k i s m]) (xs ++ [.int .i64 k, .int .i64 i, .string s, v]) := by
    refine RowX.append ?_ hx
    rw [RowX]
    exact ⟨v, [], rfl, h1, h2, h3, h4, by rw [RowX]⟩
  refine ⟨_, e4, by simpa using hs, _, hx1.move (Nat.le_refl _) (fun b o v hb h => ?_), ?_⟩
  · have hne : ∀ (q : Nat), (⟨b, o, none⟩ : Addr).block ≠ (⟨g, q, none⟩ : Addr).block := fun q => by show b ≠ g; omega
    rw [World.cell?_of_block (heap_setCell_other _ _ _ _ (hne _)), World.cell?_of_block (heap_setCell_other _ _ _ _ (hne _)), World.cell?_of_block (heap_setCell_other _ _ _ _ (hne _)), World.cell?_of_block (heap_setCell_other _ _ _ _ (hne _))]
    exact h
  · intro j u hju
    simp only [Array.getElem?_setIfInBounds]
    by_cases hlt : j < xs.length
    · rw [List.getElem?_append_left hlt] at hju
      rw [if_neg (by omega), if_neg (by omega), if_neg (by omega), if_neg (by omega)]
      exact hc j u hju
    · rw [List.getElem?_append_right (by omega)] at hju
      have hq : ∃ q, j = l.length * 4 + q ∧ q < 4 := ⟨j - l.length * 4, by omega, by
        have := List.getElem?_eq_some_iff.1 hju
        obtain ⟨h5, _⟩ := this
        simp at h5
        omega⟩
      obtain ⟨q, rfl, hq⟩ := hq
      rw [hl, Nat.add_sub_cancel_left] at hju
      have hsz : l.length * 4 + 3 < cs.size := by omega
      match q, hq with
      | 0, _ => simp at hju; subst hju; simp; omega
      | 1, _ => simp at hju; subst hju; simp; omega
      | 2, _ => simp at hju; subst hju; simp; omega
      | 3, _ => simp at hju; subst hju; simp; omega

/-- What lies in blocks from C on is as it was. -/
def Keep (C : Nat) (w w' : World) : Prop := ∀ k, C ≤ k → w'.heap[k]? = w.heap[k]?
theorem Keep.refl (C : Nat) (w : World) : Keep C w w := fun _ _ => rfl
theorem Keep.setCell {C : Nat} {w w' : World} (h : Keep C w w') {a : Addr} (ha : a.block < C) (u : Value) : Keep C w (w'.setCell a u) := fun k hk => by
  rw [Below.heap_setCell _ _ _ _ (by omega)]; exact h k hk
theorem Keep.cell {C : Nat} {w w' : World} (h : Keep C w w') (b o : Nat) (v : Value) (hb : C ≤ b) (hc : w.cell? ⟨b, o, none⟩ = some v) : w'.cell? ⟨b, o, none⟩ = some v := by
  rw [World.cell?_of_block (w := w) (w' := w') (a := ⟨b, o, none⟩) (h b hb)]; exact hc
end Go.Proofs.Ytkjgdnfkpebejaa.Dat

/-
The law DatumMakes of layer 2: package data's copied, copiedList: every datum, every row of data is copied, down to the last item. No condition but a bound on how many data there are.
-/
namespace Go.Proofs.Ytkjgdnfkpebejaa.Dat
open Go.ChangeShapes Go.WideShapes Go.ChangeAt Go.RowKit
set_option maxRecDepth 100000
/-- Four cells that are set hold what was set. -/
theorem row_set4 {w : World} {g : Nat} {x0 x1 x2 x3 : Value} (hb : w.heap[g]? = some (.cells #[x0, x1, x2, x3] 25 (0, 0))) (y0 y1 y2 y3 : Value) :
    ((((w.setCell ⟨g, 0, none⟩ y0).setCell ⟨g, 1, none⟩ y1).setCell ⟨g, 2, none⟩ y2).setCell ⟨g, 3, none⟩ y3).heap[g]? = some (.cells #[y0, y1, y2, y3] 25 (0, 0)) :=
  heap_setCell_same _ g 3 _ 25 y3 (heap_setCell_same _ g 2 _ 25 y2 (heap_setCell_same _ g 1 _ 25 y1 (heap_setCell_same w g 0 _ 25 y0 hb)))
theorem nums_len : ∀ l : List PT, l.length ≤ numsT l
  | [] => by simp [numsT]
  | .mk k i s m :: l => by
    have := nums_len l
    simp only [List.length_cons, numsT, numT]
    omega
theorem nums_get {l : List PT} {j : Nat} (h : j < l.length) : numT l[j] ≤ numsT l := by
  have h1 := numsT_take l j h
  have h2 := numsT_le l (j + 1)
  omega

end Go.Proofs.Ytkjgdnfkpebejaa.Dat

/-
The law DatumMakes of layer 2: slices.Grow at nil, slices.Concat at two rows of data.
-/
namespace Go.Proofs.Ytkjgdnfkpebejaa.Dat
open Go.ChangeShapes Go.WideShapes Go.ChangeAt Go.RowKit
set_option maxRecDepth 100000

end Go.Proofs.Ytkjgdnfkpebejaa.Dat

/-
The law DatumMakes of layer 2: the document's Make.
-/
namespace Go.Proofs.Ytkjgdnfkpebejaa.Dat
open Go.ChangeShapes Go.WideShapes Go.ChangeAt Go.RowKit
set_option maxRecDepth 100000

/-- What is made of items and a tail. -/
def makeT (l : List PT) : PT → PT
  | .mk k i s m => if l = [] then .mk k i s m else if k = 5 ∨ k = 6 then .mk k 0 ⟨#[]⟩ (l ++ m) else .mk 6 0 ⟨#[]⟩ (l ++ [.mk k i s m])

theorem St2.nextB {w W W' : World} {cs ds : Array Value} (h : St2 w cs ds W) {B : Nat} (hb : Below B W W') (hB : w.heap.size + 2 ≤ B) : St2 w cs ds W' :=
  ⟨h.1.trans (hb.mono (by omega)), (hb.block _ (by omega)).trans h.2.1, (hb.block _ (by omega)).trans h.2.2⟩

theorem RowOwn.setCell {w : World} {base B : Nat} {l : List PT} {v : Value} (h : RowOwn w base B l v) {a : Addr} (h1 : a.block < base) (h2 : B ≤ a.block) (u : Value) : RowOwn (w.setCell a u) base B l v := by
  obtain ⟨xs, ho, hx⟩ := h
  exact ⟨xs, ownsRow_setCell_below ho h1 u, hx.move (Nat.le_refl _) fun b o hb => World.cell?_of_block (w := w) (a := ⟨b, o, none⟩) (Below.heap_setCell _ _ _ _ (by show b ≠ _; omega))⟩

/-- What stands behind the four stores to a result's cell. -/
theorem end_facts {w w2 : World} {cs : Array Value} {y0 y1 y2 y3 v : Value} {B : Nat} {L : List PT} (S : St2 w cs #[y0, y1, y2, y3] w2) (ho : RowOwn w2 (w.heap.size + 2) B L v) (hB : B ≤ w.heap.size) (K : Int) (hK : ok64 K) :
    ((((w2.setCell ⟨w.heap.size + 1, 0, none⟩ (.int .i64 K)).setCell ⟨w.heap.size + 1, 1, none⟩ (.int .i64 0)).setCell ⟨w.heap.size + 1, 2, none⟩ (.string ⟨#[]⟩)).setCell ⟨w.heap.size + 1, 3, none⟩ v).heap[w.heap.size + 1]? = some (.cells #[.int .i64 K, .int .i64 0, .string ⟨#[]⟩, v] 25 (0, 0)) ∧
    RepV ((((w2.setCell ⟨w.heap.size + 1, 0, none⟩ (.int .i64 K)).setCell ⟨w.heap.size + 1, 1, none⟩ (.int .i64 0)).setCell ⟨w.heap.size + 1, 2, none⟩ (.string ⟨#[]⟩)).setCell ⟨w.heap.size + 1, 3, none⟩ v) ((((w2.setCell ⟨w.heap.size + 1, 0, none⟩ (.int .i64 K)).setCell ⟨w.heap.size + 1, 1, none⟩ (.int .i64 0)).setCell ⟨w.heap.size + 1, 2, none⟩ (.string ⟨#[]⟩)).setCell ⟨w.heap.size + 1, 3, none⟩ v).heap.size (.mk K 0 ⟨#[]⟩ L) v ∧
    Below w.heap.size w ((((w2.setCell ⟨w.heap.size + 1, 0, none⟩ (.int .i64 K)).setCell ⟨w.heap.size + 1, 1, none⟩ (.int .i64 0)).setCell ⟨w.heap.size + 1, 2, none⟩ (.string ⟨#[]⟩)).setCell ⟨w.heap.size + 1, 3, none⟩ v) := by
  have o1 := ((((ho.setCell (a := ⟨w.heap.size + 1, 0, none⟩) (by simp only []; omega) (by simp only []; omega) (.int .i64 K)).setCell (a := ⟨w.heap.size + 1, 1, none⟩) (by simp only []; omega) (by simp only []; omega) (.int .i64 0)).setCell (a := ⟨w.heap.size + 1, 2, none⟩) (by simp only []; omega) (by simp only []; omega) (.string ⟨#[]⟩)).setCell (a := ⟨w.heap.size + 1, 3, none⟩) (by simp only []; omega) (by simp only []; omega) v)
  have b1 := ((((S.1.setCell (p := ⟨w.heap.size + 1, 0, none⟩) (by simp only []; omega) (.int .i64 K)).setCell (p := ⟨w.heap.size + 1, 1, none⟩) (by simp only []; omega) (.int .i64 0)).setCell (p := ⟨w.heap.size + 1, 2, none⟩) (by simp only []; omega) (.string ⟨#[]⟩)).setCell (p := ⟨w.heap.size + 1, 3, none⟩) (by simp only []; omega) v)
  exact ⟨row_set4 S.2.2 _ _ _ _, ⟨hK, ok_small (by decide), by decide, o1.rep (Nat.le_trans hB b1.size)⟩, b1⟩

end Go.Proofs.Ytkjgdnfkpebejaa.Dat

/-
New data behind the stores to a result. No condition.
-/
namespace Go.Proofs.Ytkjgdnfkpebejaa.Dat
open Go.ChangeShapes Go.WideShapes Go.ChangeAt Go.RowKit
set_option maxRecDepth 100000

theorem NewV.rep {w : World} {C : Nat} {t : PT} {v : Value} (h : NewV w C t v) : RepV w w.heap.size t v := by
  match t with
  | .mk k i s l => exact ⟨h.1, h.2.1, h.2.2.1, h.2.2.2.rep⟩
theorem NewV.move {w w' : World} {C C' : Nat} (hC : C' ≤ C) (hc : ∀ b o v, C ≤ b → w.cell? ⟨b, o, none⟩ = some v → w'.cell? ⟨b, o, none⟩ = some v) {t : PT} {v : Value} (h : NewV w C t v) : NewV w' C' t v := by
  match t with
  | .mk k i s l => exact ⟨h.1, h.2.1, h.2.2.1, h.2.2.2.move hC hc⟩

/-- Behind the four stores to a result's cell. -/
theorem new_end {w W : World} {cs : Array Value} {y0 y1 y2 y3 : Value} (S : St2 w cs #[y0, y1, y2, y3] W) (x0 x1 x2 x3 : Value) :
    ((((W.setCell ⟨w.heap.size + 1, 0, none⟩ x0).setCell ⟨w.heap.size + 1, 1, none⟩ x1).setCell ⟨w.heap.size + 1, 2, none⟩ x2).setCell ⟨w.heap.size + 1, 3, none⟩ x3).heap[w.heap.size + 1]? = some (.cells #[x0, x1, x2, x3] 25 (0, 0)) ∧
    Keep (w.heap.size + 2) W ((((W.setCell ⟨w.heap.size + 1, 0, none⟩ x0).setCell ⟨w.heap.size + 1, 1, none⟩ x1).setCell ⟨w.heap.size + 1, 2, none⟩ x2).setCell ⟨w.heap.size + 1, 3, none⟩ x3) ∧
    Below w.heap.size w ((((W.setCell ⟨w.heap.size + 1, 0, none⟩ x0).setCell ⟨w.heap.size + 1, 1, none⟩ x1).setCell ⟨w.heap.size + 1, 2, none⟩ x2).setCell ⟨w.heap.size + 1, 3, none⟩ x3) :=
  ⟨row_set4 S.2.2 _ _ _ _,
    ((((Keep.refl _ _).setCell (a := ⟨w.heap.size + 1, 0, none⟩) (by simp only []; omega) _).setCell (a := ⟨w.heap.size + 1, 1, none⟩) (by simp only []; omega) _).setCell (a := ⟨w.heap.size + 1, 2, none⟩) (by simp only []; omega) _).setCell (a := ⟨w.heap.size + 1, 3, none⟩) (by simp only []; omega) _,
    ((((S.1.setCell (p := ⟨w.heap.size + 1, 0, none⟩) (by simp only []; omega) _).setCell (p := ⟨w.heap.size + 1, 1, none⟩) (by simp only []; omega) _).setCell (p := ⟨w.heap.size + 1, 2, none⟩) (by simp only []; omega) _).setCell (p := ⟨w.heap.size + 1, 3, none⟩) (by simp only []; omega) _)⟩

theorem St2.froz {w W : World} {cs : Array Value} {y0 y1 y2 y3 : Value} (S : St2 w cs #[y0, y1, y2, y3] W) :
    W.frozen? ⟨w.heap.size + 1, 0, none⟩ = false ∧ W.frozen? ⟨w.heap.size + 1, 1, none⟩ = false ∧ W.frozen? ⟨w.heap.size + 1, 2, none⟩ = false ∧ W.frozen? ⟨w.heap.size + 1, 3, none⟩ = false :=
  ⟨Lib.frozen_of_heap S.2.2 0, Lib.frozen_of_heap S.2.2 1, Lib.frozen_of_heap S.2.2 2, Lib.frozen_of_heap S.2.2 3⟩

end Go.Proofs.Ytkjgdnfkpebejaa.Dat

/-
How many data some items are. No condition.
-/
namespace Go.Proofs.Ytkjgdnfkpebejaa.Dat
open Go.ChangeShapes Go.WideShapes Go.ChangeAt Go.RowKit
set_option maxRecDepth 100000

theorem nums_take (l : List PT) (j : Nat) : numsT (l.take j) ≤ numsT l := numsT_le l j

end Go.Proofs.Ytkjgdnfkpebejaa.Dat

/-
The law DatumMakes of layer 2: package data's Make, at every row of items and every tail. No condition but a bound on how many data there are.
-/
namespace Go.Proofs.Ytkjgdnfkpebejaa.Dat
open Go.ChangeShapes Go.WideShapes Go.ChangeAt Go.RowKit
set_option maxRecDepth 100000

theorem numsT_append : ∀ (l m : List PT), numsT (l ++ m) = numsT l + numsT m
  | [], m => by simp [numsT]
  | t :: l, m => by
    rw [List.cons_append, numsT, numsT, numsT_append l m]; omega
def MakeOk (base : Nat) (r : PT) (e : Ending) (w' : World) : Prop := ∃ x', e = .returned (r.val x') ∧ RepV w' w'.heap.size r x' ∧ NewV w' base r x'

theorem rep_one {W : World} {B b : Nat} {k i : Int} {s : ByteArray} {l : List PT} {v : Value} (hb : b < B) (h : W.heap[b]? = some (.cells #[.int .i64 k, .int .i64 i, .string s, v] 25 (0, 0))) (hv : RepV W B (.mk k i s l) v) :
    RepS W B [.mk k i s l] (.slice (some ⟨b, 0, none⟩) 1 1) := by
  refine ⟨some ⟨b, 0, none⟩, 1, rfl, Nat.le_refl _, by decide, (fun h => by cases h), .inr ⟨b, 0, rfl, hb, ?_⟩⟩
  rw [RepAt, RepAt]
  refine ⟨repD_mk.2 ⟨hv.1, hv.2.1, hv.2.2.1, ?_, ?_, ?_, v, ?_, hv.2.2.2⟩, trivial⟩
  all_goals (rw [Lib.cell_of_heap h]; rfl)

end Go.Proofs.Ytkjgdnfkpebejaa.Dat

/-
The law DatumMakes of layer 2: package data's Make at a tail that is a list, or dotted; and at every tail. No condition but a bound on how many data there are.
-/
namespace Go.Proofs.Ytkjgdnfkpebejaa.Dat
open Go.ChangeShapes Go.WideShapes Go.ChangeAt Go.RowKit
set_option maxRecDepth 100000

end Go.Proofs.Ytkjgdnfkpebejaa.Dat
