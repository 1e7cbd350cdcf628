/-
Texts M1, M2, M3, M4, M5, M7, M8, M9, M10, one behind the other (a claim bears sixty files). Conditions: as each says.
-/
import Derived.Test.YtpejhilfopjckaaDoorWE
import Derived.Laws.OwnMore
import Derived.Laws.AppendOwnNone
import Derived.Lib.AppendZeros

/-
The law DatumMakes of layer 2: rows of data that are made: a row's cells as a list, an owned row, append of a row; data whose blocks are all new. No condition.
-/
namespace Go.Proofs.YtpejhilfopjckaaDoor.Dat
open Go.ChangeShapes Go.WideShapes Go.ChangeAt Go.RowKit
set_option maxRecDepth 100000

theorem infoDatum : (Tryd.prog.info? 50).map (fun i => (i.zero, i.size, i.bytes)) = some (some (.agg #[.int .i64 0, .int .i64 0, .string ⟨#[]⟩, .slice none 0 0]), 4, 56) := by kernel_rfl

/-- The cells of a row of data; R: what holds of an item's own row. -/
def RowX (R : List PT → Value → Prop) : List PT → List Value → Prop
  | [], xs => xs = []
  | .mk k i s m :: l, xs => ∃ v ys, xs = .int .i64 k :: .int .i64 i :: .string s :: v :: ys ∧ ok64 k ∧ ok64 i ∧ s.size ≤ maxLen ∧ R m v ∧ RowX R l ys
abbrev RepX (w : World) (B : Nat) : List PT → List Value → Prop := RowX (RepS w B)

theorem RowX.len {R : List PT → Value → Prop} : ∀ {l : List PT} {xs : List Value}, RowX R l xs → xs.length = l.length * 4
  | [], xs, h => by rw [RowX] at h; subst h; rfl
  | .mk k i s m :: l, xs, h => by
    rw [RowX] at h
    obtain ⟨v, ys, rfl, _, _, _, _, h⟩ := h
    have := RowX.len h
    simp only [List.length_cons]
    omega
theorem RowX.append {R : List PT → Value → Prop} {m : List PT} {ys : List Value} (hm : RowX R m ys) : ∀ {l : List PT} {xs : List Value}, RowX R l xs → RowX R (l ++ m) (xs ++ ys)
  | [], xs, h => by rw [RowX] at h; subst h; exact hm
  | .mk k i s n :: l, xs, h => by
    rw [RowX] at h
    obtain ⟨v, zs, rfl, h1, h2, h3, h4, h⟩ := h
    rw [List.cons_append, RowX]
    exact ⟨v, zs ++ ys, rfl, h1, h2, h3, h4, RowX.append hm h⟩
theorem RowX.one {R : List PT → Value → Prop} (hR : ∀ m v, R m v → v.oneCell' = true) : ∀ {l : List PT} {xs : List Value}, RowX R l xs → ∀ u ∈ xs, u.oneCell' = true
  | [], xs, h, u, hu => by rw [RowX] at h; subst h; cases hu
  | .mk k i s m :: l, xs, h, u, hu => by
    rw [RowX] at h
    obtain ⟨v, ys, rfl, _, _, _, hv, h⟩ := h
    simp only [List.mem_cons] at hu
    rcases hu with rfl | rfl | rfl | rfl | hu
    · rfl
    · rfl
    · rfl
    · exact hR _ _ hv
    · exact RowX.one hR h u hu
theorem RowX.imp {R R' : List PT → Value → Prop} (hR : ∀ m v, R m v → R' m v) : ∀ {l : List PT} {xs : List Value}, RowX R l xs → RowX R' l xs
  | [], xs, h => by rw [RowX] at h ⊢; exact h
  | .mk k i s m :: l, xs, h => by
    rw [RowX] at h ⊢
    obtain ⟨v, ys, e, h1, h2, h3, h4, h⟩ := h
    exact ⟨v, ys, e, h1, h2, h3, hR _ _ h4, RowX.imp hR h⟩
theorem RepX.len {w : World} {B : Nat} {l : List PT} {xs : List Value} (h : RepX w B l xs) : xs.length = l.length * 4 := RowX.len h
theorem RepX.append {w : World} {B : Nat} {m : List PT} {ys : List Value} (hm : RepX w B m ys) {l : List PT} {xs : List Value} (h : RepX w B l xs) : RepX w B (l ++ m) (xs ++ ys) := RowX.append hm h
theorem RepX.one {w : World} {B : Nat} {l : List PT} {xs : List Value} (h : RepX w B l xs) : ∀ u ∈ xs, u.oneCell' = true := RowX.one (fun _ _ ⟨_, _, e, _⟩ => by subst e; rfl) h
theorem RepX.move {w w' : World} {B B' : Nat} (hB : B ≤ B') (hc : ∀ b o, b < B → w'.cell? ⟨b, o, none⟩ = w.cell? ⟨b, o, none⟩) {l : List PT} {xs : List Value} (h : RepX w B l xs) : RepX w' B' l xs := RowX.imp (fun _ _ h => h.move hB hc) h

theorem repX_of_at {w : World} {B : Nat} : ∀ {l : List PT} {b o : Nat}, RepAt w B l b o → ∃ xs, RepX w B l xs ∧ ∀ j u, xs[j]? = some u → w.cell? ⟨b, o + j, none⟩ = some u
  | [], b, o, _ => ⟨[], by rw [RepX, RowX], fun j u h => by simp at h⟩
  | .mk k i s m :: l, b, o, h => by
    rw [RepAt] at h
    obtain ⟨h1, h2⟩ := h
    rw [repD_mk] at h1
    obtain ⟨k1, k2, k3, c0, c1, c2, v, c3, hv⟩ := h1
    obtain ⟨ys, hy, hc⟩ := repX_of_at h2
    refine ⟨.int .i64 k :: .int .i64 i :: .string s :: v :: ys, ?_, ?_⟩
    · rw [RepX, RowX]
      exact ⟨v, ys, rfl, k1, k2, k3, hv, hy⟩
    · intro j u hj
      match j with
      | 0 => simp at hj; subst hj; exact c0
      | 1 => simp at hj; subst hj; exact c1
      | 2 => simp at hj; subst hj; exact c2
      | 3 => simp at hj; subst hj; exact c3
      | j + 4 =>
        simp at hj
        have := hc j u hj
        rwa [show o + 4 + j = o + (j + 4) by omega] at this
theorem repAt_of_x {w : World} {B : Nat} : ∀ {l : List PT} {xs : List Value} {b o : Nat}, RepX w B l xs → (∀ j u, xs[j]? = some u → w.cell? ⟨b, o + j, none⟩ = some u) → RepAt w B l b o
  | [], xs, b, o, _, _ => by rw [RepAt]; trivial
  | .mk k i s m :: l, xs, b, o, h, hc => by
    rw [RepX, RowX] at h
    obtain ⟨v, ys, rfl, h1, h2, h3, h4, h⟩ := h
    rw [RepAt]
    refine ⟨repD_mk.2 ⟨h1, h2, h3, hc 0 _ rfl, hc 1 _ rfl, hc 2 _ rfl, v, hc 3 _ rfl, h4⟩, repAt_of_x h fun j u hj => ?_⟩
    have := hc (j + 4) u (by simpa using hj)
    rwa [show o + (j + 4) = o + 4 + j by omega] at this

/-- A row of data that the call has made itself. -/
def RowOwn (w : World) (base B : Nat) (l : List PT) (v : Value) : Prop := ∃ xs, w.ownsRow base 50 4 v l.length xs ∧ RepX w B l xs

theorem RowOwn.rep {w : World} {base B : Nat} {l : List PT} {v : Value} (h : RowOwn w base B l v) (hB : B ≤ w.heap.size) : RepS w w.heap.size l v := by
  obtain ⟨xs, ho, hx⟩ := h
  have hx' : RepX w w.heap.size l xs := hx.move hB fun _ _ _ => rfl
  rcases ho.2 with ⟨rfl, h0⟩ | ⟨g, cap, cur, rfl, hb, hg, hn, hcm, hcs, ht⟩
  · obtain rfl := List.eq_nil_of_length_eq_zero h0
    exact ⟨none, 0, rfl, Nat.le_refl _, Nat.zero_le _, fun _ => rfl, .inl rfl⟩
  · refine ⟨some ⟨g, 0, none⟩, cap, rfl, hn, hcm, (fun h => by cases h), .inr ⟨g, 0, rfl, lt_of_block hg, repAt_of_x hx' fun j u hj => ?_⟩⟩
    have := ho.cells (g := g) rfl j u hj
    simpa [add_plain] using this

/-- A row whose items' own rows lie below B, wherever it lies itself. -/
def SrcS (w : World) (B : Nat) (m : List PT) (u : Value) : Prop :=
  ∃ a c, u = .slice a m.length c ∧ m.length ≤ c ∧ c ≤ maxLen ∧ (a = none → c = 0) ∧ (m = [] ∨ ∃ b' o', a = some ⟨b', o', none⟩ ∧ RepAt w B m b' o')
theorem RepS.src {w : World} {B : Nat} {m : List PT} {u : Value} (h : RepS w B m u) : SrcS w B m u := by
  obtain ⟨a, c, e, hl, hm, hn, hr⟩ := h
  refine ⟨a, c, e, hl, hm, hn, hr.imp id ?_⟩
  rintro ⟨b', o', ha, _, hr⟩
  exact ⟨b', o', ha, hr⟩

/-- append of a row of data to one of the call's own. -/
theorem wp_append_rows {o : Oper} {a : Act} {w : World} {K : Act → World → Prop} {Q : Exit → Act → World → Prop} (s x : Operand)
    (ho : o.op = .call { callee := .builtin .append, args := #[s, x], argTypes := #[48, 48] }) (base B : Nat) (l m : List PT) (v u : Value) (hs : a.eval s = v) (hx : a.eval x = u)
    (hown : RowOwn w base B l v) (hsrc : SrcS w B m u) (hlen : l.length + m.length ≤ 1000000) (hbase : base ≤ w.heap.size) (hBb : B ≤ base)
    (h : ∀ v' w', RowOwn w' base B (l ++ m) v' → Below base w w' → w.heap.size ≤ w'.heap.size → (∀ k, k < w.heap.size → some k ≠ v.ownBlock → w'.heap[k]? = w.heap[k]?) → K (a.put o.dst v') w') : o.wp Tryd.prog a w K Q := by
  obtain ⟨i0, hi, hz0, hz1, hz2⟩ := info_parts infoDatum
  obtain ⟨xs, hxs, hrx⟩ := hown
  obtain ⟨ad, c, rfl, hlc, hcm, hna, hr⟩ := hsrc
  have hlow : ∀ k, v.ownBlock = some k → base ≤ k := fun k hk => (hxs.lt k hk).1
  rcases hr with rfl | ⟨b', o', rfl, hr⟩
  · match ad with
    | none =>
      obtain rfl := hna rfl
      refine Lib.wp_append_run w s x 48 48 ho v _ hs hx _ _ (run_append_owned_none (P := Tryd.prog) (w := w) base 48 o.type 50 i0 4 Tryd.underlying48 hi v l.length xs hxs) ?_
      exact h v w ⟨xs, by simpa using hxs, by simpa using hrx⟩ (Below.refl _ _) (Nat.le_refl _) (fun _ _ _ => rfl)
    | some ad =>
      refine wp_append_own w s x 48 ho base 50 i0 _ 4 56 Tryd.underlying48 hi hz0 hz1 hz2 rfl (by decide) v l.length xs hs hxs ad 0 c [] hx rfl (fun j u h => by simp at h) (fun u h => by cases h) (by unfold maxLen; simp at hlen; omega) (by simp at hlen; omega) hbase ?_
      intro v' w' h1 h2 _
      refine h v' w' ⟨xs ++ [], by simpa using h1, ?_⟩ ((Below.refl base w).grown h2 hbase hlow) h2.size h2.block
      rw [List.append_nil, List.append_nil]
      exact hrx.move (Nat.le_refl _) fun b o hb => World.cell?_of_block (h2.block b (by show b < _; omega) (fun e => by have := hlow _ e.symm; omega))
  · obtain ⟨ys, hy, hc⟩ := repX_of_at hr
    refine wp_append_own w s x 48 ho base 50 i0 _ 4 56 Tryd.underlying48 hi hz0 hz1 hz2 rfl (by decide) v l.length xs hs hxs ⟨b', o', none⟩ m.length c ys hx hy.len (fun j u hj => by rw [add_plain]; exact hc j u hj) hy.one (by unfold maxLen; omega) (by omega) hbase ?_
    intro v' w' h1 h2 _
    have mv : ∀ b o, b < B → w'.cell? ⟨b, o, none⟩ = w.cell? ⟨b, o, none⟩ := fun b o hb => World.cell?_of_block (h2.block b (by show b < _; omega) (fun e => by have := hlow _ e.symm; omega))
    refine h v' w' ⟨xs ++ ys, by rw [List.length_append]; exact h1, ?_⟩ ((Below.refl base w).grown h2 hbase hlow) h2.size h2.block
    exact RepX.append (hy.move (Nat.le_refl _) mv) (hrx.move (Nat.le_refl _) mv)

theorem wpList_append_rows {ops : Array Oper} {rest : List Oper} {o : Oper} {a : Act} {w : World} {Q : Exit → Act → World → Prop} (hgd : o.guard = none) (s x : Operand)
    (ho : o.op = .call { callee := .builtin .append, args := #[s, x], argTypes := #[48, 48] }) (base B : Nat) (l m : List PT) (v u : Value) (hs : a.eval s = v) (hx : a.eval x = u)
    (hown : RowOwn w base B l v) (hsrc : SrcS w B m u) (hlen : l.length + m.length ≤ 1000000) (hbase : base ≤ w.heap.size) (hBb : B ≤ base)
    (h : ∀ v' w', RowOwn w' base B (l ++ m) v' → Below base w w' → w.heap.size ≤ w'.heap.size → (∀ k, k < w.heap.size → some k ≠ v.ownBlock → w'.heap[k]? = w.heap[k]?) → wpList Tryd.prog ops Q rest (a.put o.dst v') w') : wpList Tryd.prog ops Q (o :: rest) a w :=
  wpList_plain hgd fun _ hK => wp_append_rows s x ho base B l m v u hs hx hown hsrc hlen hbase hBb fun v' w' h1 h2 h3 h4 => hK _ _ (h v' w' h1 h2 h3 h4)
end Go.Proofs.YtpejhilfopjckaaDoor.Dat

/-
The law DatumMakes of layer 2: data whose blocks are all new. No condition.
-/
namespace Go.Proofs.YtpejhilfopjckaaDoor.Dat
open Go.ChangeShapes Go.WideShapes Go.ChangeAt Go.RowKit
set_option maxRecDepth 100000

mutual
/-- The datum lies at four cells from ⟨b, o⟩ on, and its rows lie in blocks from C on. -/
def NewD (w : World) (C : Nat) : PT → Nat → Nat → Prop
  | .mk k i s l, b, o => ok64 k ∧ ok64 i ∧ s.size ≤ maxLen ∧ w.cell? ⟨b, o, none⟩ = some (.int .i64 k) ∧ w.cell? ⟨b, o + 1, none⟩ = some (.int .i64 i) ∧ w.cell? ⟨b, o + 2, none⟩ = some (.string s) ∧
      ∃ v, w.cell? ⟨b, o + 3, none⟩ = some v ∧ ∃ a c, v = .slice a l.length c ∧ l.length ≤ c ∧ c ≤ maxLen ∧ (a = none → c = 0) ∧ (l = [] ∨ ∃ b' o', a = some ⟨b', o', none⟩ ∧ C ≤ b' ∧ NewAt w C l b' o')
def NewAt (w : World) (C : Nat) : List PT → Nat → Nat → Prop
  | [], _, _ => True
  | t :: l, b, o => NewD w C t b o ∧ NewAt w C l b (o + 4)
end
def NewS (w : World) (C : Nat) (l : List PT) (v : Value) : Prop :=
  ∃ a c, v = .slice a l.length c ∧ l.length ≤ c ∧ c ≤ maxLen ∧ (a = none → c = 0) ∧ (l = [] ∨ ∃ b' o', a = some ⟨b', o', none⟩ ∧ C ≤ b' ∧ NewAt w C l b' o')
abbrev NewX (w : World) (C : Nat) : List PT → List Value → Prop := RowX (NewS w C)
def NewV (w : World) (C : Nat) : PT → Value → Prop
  | .mk k i s l, v => ok64 k ∧ ok64 i ∧ s.size ≤ maxLen ∧ NewS w C l v

theorem newD_mk {w : World} {C : Nat} {k i : Int} {s : ByteArray} {l : List PT} {b o : Nat} :
    NewD w C (.mk k i s l) b o ↔ ok64 k ∧ ok64 i ∧ s.size ≤ maxLen ∧ w.cell? ⟨b, o, none⟩ = some (.int .i64 k) ∧ w.cell? ⟨b, o + 1, none⟩ = some (.int .i64 i) ∧ w.cell? ⟨b, o + 2, none⟩ = some (.string s) ∧
      ∃ v, w.cell? ⟨b, o + 3, none⟩ = some v ∧ NewS w C l v := by
  rw [NewD]; rfl

mutual
theorem NewD.move {w w' : World} {C C' : Nat} (hC : C' ≤ C) (hc : ∀ b o v, C ≤ b → w.cell? ⟨b, o, none⟩ = some v → w'.cell? ⟨b, o, none⟩ = some v) :
    ∀ (t : PT) {b o : Nat}, C ≤ b → NewD w C t b o → NewD w' C' t b o
  | .mk k i s l, b, o, hb, h => by
    rw [newD_mk] at h ⊢
    obtain ⟨h1, h2, h3, c0, c1, c2, v, c3, a, c, e, hl, hm, hn, hr⟩ := h
    refine ⟨h1, h2, h3, hc _ _ _ hb c0, hc _ _ _ hb c1, hc _ _ _ hb c2, v, hc _ _ _ hb c3, a, c, e, hl, hm, hn, ?_⟩
    rcases hr with hr | ⟨b', o', ha, hlt, hr⟩
    · exact .inl hr
    · exact .inr ⟨b', o', ha, by omega, NewAt.move hC hc l hlt hr⟩
theorem NewAt.move {w w' : World} {C C' : Nat} (hC : C' ≤ C) (hc : ∀ b o v, C ≤ b → w.cell? ⟨b, o, none⟩ = some v → w'.cell? ⟨b, o, none⟩ = some v) :
    ∀ (l : List PT) {b o : Nat}, C ≤ b → NewAt w C l b o → NewAt w' C' l b o
  | [], _, _, _, _ => by rw [NewAt]; trivial
  | t :: l, b, o, hb, h => by
    rw [NewAt] at h ⊢
    exact ⟨NewD.move hC hc t hb h.1, NewAt.move hC hc l hb h.2⟩
end
theorem NewS.move {w w' : World} {C C' : Nat} (hC : C' ≤ C) (hc : ∀ b o v, C ≤ b → w.cell? ⟨b, o, none⟩ = some v → w'.cell? ⟨b, o, none⟩ = some v) {l : List PT} {v : Value} (h : NewS w C l v) : NewS w' C' l v := by
  obtain ⟨a, c, e, hl, hm, hn, hr⟩ := h
  refine ⟨a, c, e, hl, hm, hn, ?_⟩
  rcases hr with hr | ⟨b', o', ha, hlt, hr⟩
  · exact .inl hr
  · exact .inr ⟨b', o', ha, by omega, hr.move hC hc l hlt⟩
theorem NewX.move {w w' : World} {C C' : Nat} (hC : C' ≤ C) (hc : ∀ b o v, C ≤ b → w.cell? ⟨b, o, none⟩ = some v → w'.cell? ⟨b, o, none⟩ = some v) {l : List PT} {xs : List Value} (h : NewX w C l xs) : NewX w' C' l xs := RowX.imp (fun _ _ h => h.move hC hc) h
/-- Below, of what is new. -/
theorem kept_of_below {w w' : World} (hb : Below w.heap.size w w') (b o : Nat) (v : Value) (h : w.cell? ⟨b, o, none⟩ = some v) : w'.cell? ⟨b, o, none⟩ = some v := by
  rw [hb.cell (p := ⟨b, o, none⟩) (World.block_lt_of_cell? _ _ h)]; exact h

mutual
theorem NewD.rep {w : World} {C : Nat} : ∀ (t : PT) {b o : Nat}, NewD w C t b o → RepD w w.heap.size t b o
  | .mk k i s l, b, o, h => by
    rw [newD_mk] at h
    rw [repD_mk]
    obtain ⟨h1, h2, h3, c0, c1, c2, v, c3, a, c, e, hl, hm, hn, hr⟩ := h
    refine ⟨h1, h2, h3, c0, c1, c2, v, c3, a, c, e, hl, hm, hn, ?_⟩
    rcases hr with hr | ⟨b', o', ha, hlt, hr⟩
    · exact .inl hr
    · match l, hr with
      | [], _ => exact .inl rfl
      | t :: l, hr =>
        have hr' := NewAt.rep (t :: l) hr
        refine .inr ⟨b', o', ha, ?_, hr'⟩
        match t, hr' with
        | .mk k i s m, hr' =>
          rw [RepAt, repD_mk] at hr'
          exact World.block_lt_of_cell? _ _ hr'.1.2.2.2.1
theorem NewAt.rep {w : World} {C : Nat} : ∀ (l : List PT) {b o : Nat}, NewAt w C l b o → RepAt w w.heap.size l b o
  | [], _, _, _ => by rw [RepAt]; trivial
  | t :: l, b, o, h => by
    rw [NewAt] at h
    rw [RepAt]
    exact ⟨NewD.rep t h.1, NewAt.rep l h.2⟩
end
theorem NewS.rep {w : World} {C : Nat} {l : List PT} {v : Value} (h : NewS w C l v) : RepS w w.heap.size l v := by
  obtain ⟨a, c, e, hl, hm, hn, hr⟩ := h
  refine ⟨a, c, e, hl, hm, hn, ?_⟩
  rcases hr with hr | ⟨b', o', ha, hlt, hr⟩
  · exact .inl hr
  · match l, hr with
    | [], _ => exact .inl rfl
    | .mk k i s m :: l, hr =>
      have hr' := NewAt.rep _ hr
      refine .inr ⟨b', o', ha, ?_, hr'⟩
      rw [RepAt, repD_mk] at hr'
      exact World.block_lt_of_cell? _ _ hr'.1.2.2.2.1

theorem newAt_of_x {w : World} {C : Nat} : ∀ {l : List PT} {xs : List Value} {b o : Nat}, NewX w C l xs → (∀ j u, xs[j]? = some u → w.cell? ⟨b, o + j, none⟩ = some u) → NewAt w C l b o
  | [], xs, b, o, _, _ => by rw [NewAt]; trivial
  | .mk k i s m :: l, xs, b, o, h, hc => by
    rw [NewX, RowX] at h
    obtain ⟨v, ys, rfl, h1, h2, h3, h4, h⟩ := h
    rw [NewAt]
    refine ⟨newD_mk.2 ⟨h1, h2, h3, hc 0 _ rfl, hc 1 _ rfl, hc 2 _ rfl, v, hc 3 _ rfl, h4⟩, newAt_of_x h fun j u hj => ?_⟩
    have := hc (j + 4) u (by simpa using hj)
    rwa [show o + (j + 4) = o + 4 + j by omega] at this

/-! ### a row that is made, and filled from the front -/
/-- In block g lie n data's cells, of which the first ones are the list's. -/
def Filled (w : World) (g n : Nat) (l : List PT) (C : Nat) : Prop := ∃ cs : Array Value, w.heap[g]? = some (.cells cs 50 (0, 0)) ∧ cs.size = n * 4 ∧ ∃ xs : List Value, NewX w C l xs ∧ ∀ (j : Nat) (u : Value), xs[j]? = some u → cs[j]? = some u

theorem Filled.done {w : World} {g n C C' : Nat} {l : List PT} (h : Filled w g n l C) (hg : C' ≤ g) (hC : C' ≤ C) (hn : n = l.length) (hm : n ≤ maxLen) : NewS w C' l (.slice (some ⟨g, 0, none⟩) n n) := by
  obtain ⟨cs, hb, hs, xs, hx, hc⟩ := h
  subst hn
  refine ⟨some ⟨g, 0, none⟩, l.length, rfl, Nat.le_refl _, hm, (fun h => by cases h), .inr ⟨g, 0, rfl, hg, newAt_of_x (hx.move hC fun _ _ _ _ h => h) fun j u hj => ?_⟩⟩
  rw [Lib.cell_of_heap hb]
  simpa using hc j u hj
theorem Filled.below {w w' : World} {g n C : Nat} {l : List PT} (h : Filled w g n l C) (hb : Below w.heap.size w w') : Filled w' g n l C := by
  obtain ⟨cs, hg, hs, xs, hx, hc⟩ := h
  exact ⟨cs, (hb.block _ (lt_of_block hg)).trans hg, hs, xs, hx.move (Nat.le_refl _) fun b o v _ h => kept_of_below hb b o v h, hc⟩

theorem Filled.put {w : World} {g n C : Nat} {l : List PT} {k i : Int} {s : ByteArray} {m : List PT} {v : Value} (h : Filled w g n l C) (hC : g < C) (hj : l.length < n) (hv : NewV w C (.mk k i s m) v) :
    Filled ((((w.setCell ⟨g, l.length * 4, none⟩ (.int .i64 k)).setCell ⟨g, l.length * 4 + 1, none⟩ (.int .i64 i)).setCell ⟨g, l.length * 4 + 2, none⟩ (.string s)).setCell ⟨g, l.length * 4 + 3, none⟩ v) g n (l ++ [.mk k i s m]) C := by
  obtain ⟨cs, hb, hs, xs, hx, hc⟩ := h
  obtain ⟨h1, h2, h3, h4⟩ := hv
  have hl := RowX.len hx
  have e1 := heap_setCell_same w g (l.length * 4) cs 50 (.int .i64 k) hb
  have e2 := heap_setCell_same _ g (l.length * 4 + 1) _ 50 (.int .i64 i) e1
  have e3 := heap_setCell_same _ g (l.length * 4 + 2) _ 50 (.string s) e2
  have e4 := heap_setCell_same _ g (l.length * 4 + 3) _ 50 v e3
  have hx1 : NewX w C (l ++ [.mk k i s m]) (xs ++ [.int .i64 k, .int .i64 i, .string s, v]) := by
    refine RowX.append ?_ hx
    rw [RowX]
    exact ⟨v, [], rfl, h1, h2, h3, h4, by rw [RowX]⟩
  refine ⟨_, e4, by simpa using hs, _, hx1.move (Nat.le_refl _) (fun b o v hb h => ?_), ?_⟩
  · have hne : ∀ (q : Nat), (⟨b, o, none⟩ : Addr).block ≠ (⟨g, q, none⟩ : Addr).block := fun q => by show b ≠ g; omega
    rw [World.cell?_of_block (heap_setCell_other _ _ _ _ (hne _)), World.cell?_of_block (heap_setCell_other _ _ _ _ (hne _)), World.cell?_of_block (heap_setCell_other _ _ _ _ (hne _)), World.cell?_of_block (heap_setCell_other _ _ _ _ (hne _))]
    exact h
  · intro j u hju
    simp only [Array.getElem?_setIfInBounds]
    by_cases hlt : j < xs.length
    · rw [List.getElem?_append_left hlt] at hju
      rw [if_neg (by omega), if_neg (by omega), if_neg (by omega), if_neg (by omega)]
      exact hc j u hju
    · rw [List.getElem?_append_right (by omega)] at hju
      have hq : ∃ q, j = l.length * 4 + q ∧ q < 4 := ⟨j - l.length * 4, by omega, by
        have := List.getElem?_eq_some_iff.1 hju
        obtain ⟨h5, _⟩ := this
        simp at h5
        omega⟩
      obtain ⟨q, rfl, hq⟩ := hq
      rw [hl, Nat.add_sub_cancel_left] at hju
      have hsz : l.length * 4 + 3 < cs.size := by omega
      match q, hq with
      | 0, _ => simp at hju; subst hju; simp; omega
      | 1, _ => simp at hju; subst hju; simp; omega
      | 2, _ => simp at hju; subst hju; simp; omega
      | 3, _ => simp at hju; subst hju; simp; omega

/-- What lies in blocks from C on is as it was. -/
def Keep (C : Nat) (w w' : World) : Prop := ∀ k, C ≤ k → w'.heap[k]? = w.heap[k]?
theorem Keep.refl (C : Nat) (w : World) : Keep C w w := fun _ _ => rfl
theorem Keep.setCell {C : Nat} {w w' : World} (h : Keep C w w') {a : Addr} (ha : a.block < C) (u : Value) : Keep C w (w'.setCell a u) := fun k hk => by
  rw [Below.heap_setCell _ _ _ _ (by omega)]; exact h k hk
theorem Keep.cell {C : Nat} {w w' : World} (h : Keep C w w') (b o : Nat) (v : Value) (hb : C ≤ b) (hc : w.cell? ⟨b, o, none⟩ = some v) : w'.cell? ⟨b, o, none⟩ = some v := by
  rw [World.cell?_of_block (w := w) (w' := w') (a := ⟨b, o, none⟩) (h b hb)]; exact hc
end Go.Proofs.YtpejhilfopjckaaDoor.Dat

/-
The law DatumMakes of layer 2: package data's copied, copiedList: every datum, every row of data is copied, down to the last item. No condition but a bound on how many data there are.
-/
namespace Go.Proofs.YtpejhilfopjckaaDoor.Dat
open Go.ChangeShapes Go.WideShapes Go.ChangeAt Go.RowKit
set_option maxRecDepth 100000
/-- Four cells that are set hold what was set. -/
theorem row_set4 {w : World} {g : Nat} {x0 x1 x2 x3 : Value} (hb : w.heap[g]? = some (.cells #[x0, x1, x2, x3] 50 (0, 0))) (y0 y1 y2 y3 : Value) :
    ((((w.setCell ⟨g, 0, none⟩ y0).setCell ⟨g, 1, none⟩ y1).setCell ⟨g, 2, none⟩ y2).setCell ⟨g, 3, none⟩ y3).heap[g]? = some (.cells #[y0, y1, y2, y3] 50 (0, 0)) :=
  heap_setCell_same _ g 3 _ 50 y3 (heap_setCell_same _ g 2 _ 50 y2 (heap_setCell_same _ g 1 _ 50 y1 (heap_setCell_same w g 0 _ 50 y0 hb)))
theorem nums_len : ∀ l : List PT, l.length ≤ numsT l
  | [] => by simp [numsT]
  | .mk k i s m :: l => by
    have := nums_len l
    simp only [List.length_cons, numsT, numT]
    omega
theorem nums_get {l : List PT} {j : Nat} (h : j < l.length) : numT l[j] ≤ numsT l := by
  have h1 := numsT_take l j h
  have h2 := numsT_le l (j + 1)
  omega

def CopyOk (t : PT) : Prop := ∀ (w : World) (B : Nat) (v : Value), RepV w B t v → B ≤ w.heap.size → numT t ≤ 200000 →
  Calls Tryd.prog 87 #[t.val v] w fun e w' => (∃ v', e = .returned (t.val v') ∧ NewV w' w.heap.size t v') ∧ Below w.heap.size w w'

set_option maxRecDepth 100000 in
theorem copied_of (k i : Int) (s : ByteArray) (l : List PT) (w : World) (B : Nat) (v : Value) (hv : RepV w B (.mk k i s l) v) (_ : B ≤ w.heap.size)
    (C : ∀ W, Below w.heap.size w W → Calls Tryd.prog 89 #[v] W fun e w' => (∃ v', e = .returned v' ∧ NewS w' W.heap.size l v') ∧ Below W.heap.size W w') :
    Calls Tryd.prog 87 #[.agg #[.int .i64 k, .int .i64 i, .string s, v]] w fun e w' => (∃ v', e = .returned (.agg #[.int .i64 k, .int .i64 i, .string s, v']) ∧ NewV w' w.heap.size (.mk k i s l) v') ∧ Below w.heap.size w w' := by
  have HV := Lib.hid hv
  have HC := Lib.hid C
  obtain ⟨a, c, rfl, _⟩ := hv.2.2.2
  clear hv C
  go_enter Tryd.func87, Tryd.ntmps87
  go_wp2_with fail
  refine (HC.out _ (((Below.refl _ _).alloc (Nat.le_refl _) _).alloc (by simp) _)).mono ?_
  rintro e w1 ⟨⟨v', rfl, hn⟩, hb1⟩
  have hn' := Lib.hid hn
  obtain ⟨a', c', rfl, _⟩ := hn
  have b0 : w1.heap[w.heap.size]? = some (.cells #[.int .i64 k, .int .i64 i, .string s, .slice a l.length c] 50 (0, 0)) := by
    rw [hb1.block _ (by simp; omega)]
    rw [Lib.alloc_old _ _ _ (by simp)]
    exact heap_alloc_new w _
  have b1 : w1.heap[w.heap.size + 1]? = some (.cells #[.int .i64 0, .int .i64 0, .string ⟨#[]⟩, .slice none 0 0] 50 (0, 0)) := by
    rw [hb1.block _ (by simp)]
    have := heap_alloc_new (w.alloc (.cells #[.int .i64 k, .int .i64 i, .string s, .slice a l.length c] 50)) (.cells #[.int .i64 0, .int .i64 0, .string ⟨#[]⟩, .slice none 0 0] 50)
    simpa using this
  have c0 : w1.cell? ⟨w.heap.size, 0, none⟩ = some (.int .i64 k) := by rw [Lib.cell_of_heap b0]; rfl
  have c1 : w1.cell? ⟨w.heap.size, 1, none⟩ = some (.int .i64 i) := by rw [Lib.cell_of_heap b0]; rfl
  have c2 : w1.cell? ⟨w.heap.size, 2, none⟩ = some (.string s) := by rw [Lib.cell_of_heap b0]; rfl
  have c3 : w1.cell? ⟨w.heap.size, 3, none⟩ = some (.slice a l.length c) := by rw [Lib.cell_of_heap b0]; rfl
  have d0 : w1.cell? ⟨w.heap.size + 1, 0, none⟩ = some (.int .i64 0) := by rw [Lib.cell_of_heap b1]; rfl
  have d1 : w1.cell? ⟨w.heap.size + 1, 1, none⟩ = some (.int .i64 0) := by rw [Lib.cell_of_heap b1]; rfl
  have d2 : w1.cell? ⟨w.heap.size + 1, 2, none⟩ = some (.string ⟨#[]⟩) := by rw [Lib.cell_of_heap b1]; rfl
  have d3 : w1.cell? ⟨w.heap.size + 1, 3, none⟩ = some (.slice none 0 0) := by rw [Lib.cell_of_heap b1]; rfl
  have f3 : w1.frozen? ⟨w.heap.size, 3, none⟩ = false := Lib.frozen_of_heap b0 3
  have g0 : w1.frozen? ⟨w.heap.size + 1, 0, none⟩ = false := Lib.frozen_of_heap b1 0
  have g1 : w1.frozen? ⟨w.heap.size + 1, 1, none⟩ = false := Lib.frozen_of_heap b1 1
  have g2 : w1.frozen? ⟨w.heap.size + 1, 2, none⟩ = false := Lib.frozen_of_heap b1 2
  have g3 : w1.frozen? ⟨w.heap.size + 1, 3, none⟩ = false := Lib.frozen_of_heap b1 3
  go_wp2
  have e4 := row_set4 (w := w1.setCell ⟨w.heap.size, 3, none⟩ (.slice a' l.length c')) (g := w.heap.size + 1) (by rw [heap_setCell_other _ _ _ _ (by show w.heap.size + 1 ≠ w.heap.size; omega)]; exact b1) (.int .i64 k) (.int .i64 i) (.string s) (.slice a' l.length c')
  refine bodyPost_ret (results_cell_row (P := Tryd.prog) rfl _ _ (w.heap.size + 1) 50 _ (0, 0) _ rfl e4 Tryd.underlying50 rfl (by kernel_rfl)) rfl ⟨⟨_, rfl, HV.out.1, HV.out.2.1, HV.out.2.2.1, hn'.out.move (by simp; omega) fun b o v hb h => ?_⟩, ?_⟩
  · refine Keep.cell (C := w.heap.size + 2) (((((Keep.refl _ _).setCell ?_ _).setCell ?_ _).setCell ?_ _).setCell ?_ _ |>.setCell ?_ _) b o v (by simp at hb; omega) h
    all_goals (simp only []; omega)
  · have hb2 := (((Below.refl w.heap.size w).alloc (Nat.le_refl _) _).alloc (by simp) _).trans (hb1.mono (by simp; omega))
    refine ((((hb2.setCell ?_ _).setCell ?_ _).setCell ?_ _).setCell ?_ _).setCell ?_ _
    all_goals (simp only []; omega)

set_option maxRecDepth 100000 in
theorem copiedList_of (l : List PT) (ih : ∀ t ∈ l, CopyOk t) (w : World) (B : Nat) (v : Value) (hv : RepS w B l v) (hB : B ≤ w.heap.size) (hn : numsT l ≤ 200000) :
    Calls Tryd.prog 89 #[v] w fun e w' => (∃ v', e = .returned v' ∧ NewS w' w.heap.size l v') ∧ Below w.heap.size w w' := by
  obtain ⟨a, c, rfl, hl, hm, hna, hr⟩ := hv
  unfold maxLen at hm
  rcases hr with rfl | ⟨b, o, rfl, hb, hr⟩
  · go_enter Tryd.func89, Tryd.ntmps89
    go_wp2
    go_ret
    exact ⟨⟨_, rfl, none, 0, rfl, Nat.le_refl _, Nat.zero_le _, fun _ => rfl, .inl rfl⟩, Below.refl _ _⟩
  by_cases h0 : l = []
  · subst h0
    clear hr ih
    go_enter Tryd.func89, Tryd.ntmps89
    go_wp2
    go_ret
    exact ⟨⟨_, rfl, none, 0, rfl, Nat.le_refl _, Nat.zero_le _, fun _ => rfl, .inl rfl⟩, Below.refl _ _⟩
  obtain ⟨i0, hi, hz0, hz1, hz2⟩ := info_parts infoDatum
  have hlen : l.length ≤ 200000 := by have := nums_len l; omega
  have hpos : 0 < l.length := List.length_pos_iff.2 h0
  have hz : ((l.length : Int) == 0) = false := by simp; omega
  have IH := Lib.hid ih
  have HR := Lib.hid hr
  have HN := Lib.hid hn
  clear ih hr hn h0
  go_enter Tryd.func89, Tryd.ntmps89
  go_wp2_with (refine wpList_make_full w rfl _ _ 48 rfl w.heap.size 50 i0 _ 4 Tryd.underlying48 hi hz0 hz1 .i64 .i64 _ _ l.length rfl rfl rfl rfl (by rw [hz2]; omega) (by unfold maxLen; omega) (Nat.le_refl _) ?_)
  intro w1 ho1 hg1
  have hb1 : Below w.heap.size w w1 := ⟨hg1.os, hg1.tape, hg1.output, hg1.size, fun k hk => hg1.block k hk (by simp)⟩
  have hF1 : Filled w1 w.heap.size l.length [] (w.heap.size + 1) := by
    rcases ho1.2 with ⟨h, _⟩ | ⟨g, cap, cur, h, _, hg, _, _, hs, _⟩
    · cases h
    · simp only [Value.slice.injEq, Option.some.injEq, Addr.mk.injEq, and_true, true_and] at h
      obtain ⟨rfl, rfl⟩ := h
      exact ⟨cur, hg, hs, [], by rw [NewX, RowX], fun j u h => by simp at h⟩
  have HF1 := Lib.hid hF1
  clear ho1 hg1 hF1
  go_wp2
  go_loopw [14] (fun ix wr => ∃ j : Nat, j ≤ l.length ∧ ix = .int .i64 j ∧ Filled wr w.heap.size l.length (l.take j) (w.heap.size + 1) ∧ Below w.heap.size w wr) (fun i _ => l.length - (intOf i).toNat)
  case atStart => exact ⟨0, Nat.zero_le _, rfl, HF1.out, hb1⟩
  case round =>
    obtain ⟨j, hj, rfl, hF, hbr⟩ := hrel
    have HF := Lib.hid hF
    clear hF
    by_cases hlt : j < l.length
    · obtain ⟨k1, i1, s1, n1, v1, hj1, ok1, ok2, hs1, d0, d1, d2, d3, hv1⟩ := repAt_item (RepAt.below HR.out hbr hB hb) hlt
      have HV1 := Lib.hid hv1
      have hbs1 : b < wr.heap.size := World.block_lt_of_cell? _ _ d0
      obtain ⟨a1, c1', rfl, _⟩ := hv1
      have hL : CopyOk (.mk k1 i1 s1 n1) := hj1 ▸ IH.out l[j] (List.getElem_mem _)
      have hnum : numT (.mk k1 i1 s1 n1) ≤ 200000 := by
        have h1 := nums_get hlt
        rw [hj1] at h1
        have := HN.out
        omega
      have htk : l.take (j + 1) = l.take j ++ [.mk k1 i1 s1 n1] := by rw [List.take_succ_eq_append_getElem hlt, hj1]
      have hsz := hbr.size
      have HC := Lib.hid (fun o1 : Obj => hL (wr.alloc o1) B (.slice a1 n1.length c1') ⟨ok1, ok2, hs1, HV1.out.below ((Below.refl wr.heap.size wr).alloc (Nat.le_refl _) _) (by omega)⟩ (by simp; omega) hnum)
      have HTK := Lib.hid htk
      have HHL := Lib.hid (fun o1 : Obj => (HF.out.below ((Below.refl wr.heap.size wr).alloc (Nat.le_refl _) o1)))
      have HBR := Lib.hid (fun o1 : Obj => hbr.alloc hsz o1)
      have htl : (l.take j).length = j := by rw [List.length_take]; omega
      have hwr : w.heap.size < wr.heap.size := by obtain ⟨cs, hg, _⟩ := HF.out; exact lt_of_block hg
      clear hL hnum htk hj1
      go_wp2_with fail
      refine (HC.out _).mono ?_
      rintro e w2 ⟨⟨v', he, hnv⟩, hb2⟩
      change e = .returned (.agg #[.int .i64 k1, .int .i64 i1, .string s1, v']) at he
      subst he
      have hF2 := (HHL.out _).below hb2
      have hbr2 := (HBR.out _).trans (hb2.mono (by simp; omega))
      have hnv2 : NewV w2 (w.heap.size + 1) (.mk k1 i1 s1 n1) v' := ⟨hnv.1, hnv.2.1, hnv.2.2.1, hnv.2.2.2.move (by simp; omega) fun _ _ _ _ h => h⟩
      have P := Filled.put hF2 (by omega) (by rw [htl]; exact hlt) hnv2
      rw [htl, ← HTK.out] at P
      have HP := Lib.hid P
      obtain ⟨cs, hg, hs, _⟩ := hF2
      obtain ⟨a2, c2, rfl, _⟩ := hnv.2.2.2
      have f0 : w2.frozen? ⟨w.heap.size, j * 4, none⟩ = false := Lib.frozen_of_heap hg _
      have f1 : w2.frozen? ⟨w.heap.size, j * 4 + 1, none⟩ = false := Lib.frozen_of_heap hg _
      have f2 : w2.frozen? ⟨w.heap.size, j * 4 + 2, none⟩ = false := Lib.frozen_of_heap hg _
      have f3 : w2.frozen? ⟨w.heap.size, j * 4 + 3, none⟩ = false := Lib.frozen_of_heap hg _
      have x0 : w2.cell? ⟨w.heap.size, j * 4, none⟩ = some (cs[j * 4]'(by omega)) := by rw [Lib.cell_of_heap hg]; simp
      have x1 : w2.cell? ⟨w.heap.size, j * 4 + 1, none⟩ = some (cs[j * 4 + 1]'(by omega)) := by rw [Lib.cell_of_heap hg]; simp
      have x2 : w2.cell? ⟨w.heap.size, j * 4 + 2, none⟩ = some (cs[j * 4 + 2]'(by omega)) := by rw [Lib.cell_of_heap hg]; simp
      have x3 : w2.cell? ⟨w.heap.size, j * 4 + 3, none⟩ = some (cs[j * 4 + 3]'(by omega)) := by rw [Lib.cell_of_heap hg]; simp
      have HB2 := Lib.hid hbr2
      clear P hnv hnv2 hbr2 hb2
      generalize cs[j * 4]'(by omega) = y0 at x0
      generalize cs[j * 4 + 1]'(by omega) = y1 at x1
      generalize cs[j * 4 + 2]'(by omega) = y2 at x2
      generalize cs[j * 4 + 3]'(by omega) = y3 at x3
      go_wp2
      go_roundw
      case rel =>
        refine ⟨j + 1, by omega, by go_num, HP.out, ?_⟩
        refine ((((HB2.out.setCell ?_ _).setCell ?_ _).setCell ?_ _).setCell ?_ _)
        all_goals exact Nat.le_refl _
      case measure => simp [intOf]; omega
    · obtain rfl : j = l.length := by omega
      go_wp2
      go_ret
      refine ⟨⟨_, rfl, ?_⟩, hbr⟩
      have := HF.out
      rw [List.take_length] at this
      exact this.done (Nat.le_refl _) (by omega) rfl (by unfold maxLen; omega)

theorem copied_step (k i : Int) (s : ByteArray) (l : List PT) (ih : ∀ t ∈ l, CopyOk t) : CopyOk (.mk k i s l) := by
  intro w B v hv hB hn
  rw [numT] at hn
  exact copied_of k i s l w B v hv hB fun W h => copiedList_of l ih W B v (hv.2.2.2.below h hB) (by have := h.size; omega) (by omega)
mutual
theorem copied_any : ∀ t : PT, CopyOk t
  | .mk k i s l => copied_step k i s l (copied_all l)
theorem copied_all : ∀ l : List PT, ∀ t ∈ l, CopyOk t
  | [], t, h => by cases h
  | u :: l, t, h => (List.mem_cons.1 h).elim (fun e => e ▸ copied_any u) (fun h => copied_all l t h)
end
theorem copiedList_any (l : List PT) (w : World) (B : Nat) (v : Value) (hv : RepS w B l v) (hB : B ≤ w.heap.size) (hn : numsT l ≤ 200000) :
    Calls Tryd.prog 89 #[v] w fun e w' => (∃ v', e = .returned v' ∧ NewS w' w.heap.size l v') ∧ Below w.heap.size w w' := copiedList_of l (copied_all l) w B v hv hB hn
end Go.Proofs.YtpejhilfopjckaaDoor.Dat

/-
The law DatumMakes of layer 2: slices.Grow at nil, slices.Concat at two rows of data.
-/
namespace Go.Proofs.YtpejhilfopjckaaDoor.Dat
open Go.ChangeShapes Go.WideShapes Go.ChangeAt Go.RowKit
set_option maxRecDepth 100000

theorem grow_any (n : Nat) (h1 : 1 ≤ n) (hn : n ≤ 1000000) (w : World) :
    Calls Tryd.prog 93 #[.slice none 0 0, .int .i64 (n : Int)] w fun e w' => (∃ v, e = .returned v ∧ w'.ownsRow w.heap.size 50 4 v 0 []) ∧ Below w.heap.size w w' := by
  obtain ⟨i0, hi, hz0, hz1, hz2⟩ := info_parts infoDatum
  have hr : ∀ ty, (Builtin.append_ #[48, 3] ty #[.slice none 0 0, .int .i64 (n : Int)]).run Tryd.prog w = _ := fun ty => Lib.run_append_nil_zeros (P := Tryd.prog) w 48 3 ty 50 i0 _ .i64 .i64 Tryd.underlying48 Tryd.underlying3 hi hz0 n (by omega) (by omega) (by omega) (by rw [hz2]; omega)
  have hge := grownCap_ge w n 0 50
  have hle := grownCap_le_maxLen w n 0 50 (by unfold maxLen; omega)
  have hown : ((w.drew.alloc (.cells (Builtin.zeroCells (Value.agg #[.int .i64 0, .int .i64 0, .string ⟨#[]⟩, .slice none 0 0]).cells n ++ Builtin.zeroCells (Value.agg #[.int .i64 0, .int .i64 0, .string ⟨#[]⟩, .slice none 0 0]).cells (grownCap w n 0 50 - n)) 50))).ownsRow w.heap.size 50 4 (.slice (some ⟨w.heap.size, 0, none⟩) 0 (grownCap w n 0 50)) 0 [] :=
    World.ownsRow_made w.drew _ _ (Nat.le_refl _) hle (by
      rw [Array.size_append, size_zeroCells, size_zeroCells]
      show n * 4 + (grownCap w n 0 50 - n) * 4 = _
      omega)
  have hbel : Below w.heap.size w (w.drew.alloc (.cells (Builtin.zeroCells (Value.agg #[.int .i64 0, .int .i64 0, .string ⟨#[]⟩, .slice none 0 0]).cells n ++ Builtin.zeroCells (Value.agg #[.int .i64 0, .int .i64 0, .string ⟨#[]⟩, .slice none 0 0]).cells (grownCap w n 0 50 - n)) 50)) := ((Below.refl _ _).drew).alloc (Nat.le_refl _) _
  generalize (w.drew.alloc (.cells (Builtin.zeroCells (Value.agg #[.int .i64 0, .int .i64 0, .string ⟨#[]⟩, .slice none 0 0]).cells n ++ Builtin.zeroCells (Value.agg #[.int .i64 0, .int .i64 0, .string ⟨#[]⟩, .slice none 0 0]).cells (grownCap w n 0 50 - n)) 50)) = w1 at hr hown hbel
  generalize grownCap w n 0 50 = cap at hr hge hle hown
  unfold maxLen at hle
  have HRUN := Lib.hid hr
  have HO := Lib.hid hown
  clear hr hown
  have hn0 : ¬ (n : Int) < 0 := by omega
  have hn1 : (0 : Int) < (n : Int) := by omega
  go_enter Tryd.func93, Tryd.ntmps93
  go_wp2_with (at_builtin; refine Lib.wpList_append_run _ rfl _ _ 48 3 rfl _ _ rfl rfl _ _ (HRUN.out _) ?_)
  go_wp2
  go_ret
  exact ⟨⟨_, rfl, HO.out⟩, hbel⟩

set_option maxRecDepth 100000 in
theorem concat_any (l m : List PT) (x y : Value) (w : World) (B b : Nat) (hb : w.heap[b]? = some (.cells #[x, y] 48 (0, 0))) (hx : RepS w B l x) (hy : RepS w B m y) (hB : B ≤ w.heap.size) (h1 : 1 ≤ l.length) (hn : l.length + m.length ≤ 1000000) :
    Calls Tryd.prog 90 #[.slice (some ⟨b, 0, none⟩) 2 2] w fun e w' => (∃ v', e = .returned v' ∧ RepS w' w'.heap.size (l ++ m) v') ∧ Below w.heap.size w w' := by
  have HX := Lib.hid hx
  have HY := Lib.hid hy
  have hbs := lt_of_block hb
  have c0 : w.cell? ⟨b, 0, none⟩ = some x := by rw [Lib.cell_of_heap hb]; rfl
  have c1 : w.cell? ⟨b, 1, none⟩ = some y := by rw [Lib.cell_of_heap hb]; rfl
  obtain ⟨a, c, rfl, hl, hm, _⟩ := hx
  obtain ⟨a', c', rfl, hl', hm', _⟩ := hy
  unfold maxLen at hm hm'
  have G : ∀ W, Calls Tryd.prog 93 #[.slice none 0 0, .int .i64 ((l.length : Int) + (m.length : Int))] W fun e w' => (∃ v, e = .returned v ∧ w'.ownsRow W.heap.size 50 4 v 0 []) ∧ Below W.heap.size W w' := fun W => by
    have := grow_any (l.length + m.length) (by omega) hn W
    rwa [Int.natCast_add] at this
  have HG := Lib.hid G
  clear G
  have hb0 : (0 : Int) + (l.length : Int) = (l.length : Int) := by omega
  have hneg : ¬ (l.length : Int) < 0 := by omega
  have hneg2 : ¬ (l.length : Int) + (m.length : Int) < 0 := by omega
  have hb2 : Below w.heap.size w w := Below.refl _ _
  go_enter Tryd.func90, Tryd.ntmps90
  go_wp2
  refine wp_loop_rounds 3 ?_
  rw [rounds_succ]
  go_wp2
  rw [rounds_succ]
  go_wp2
  rw [rounds_succ]
  go_wp2_with fail
  refine (HG.out _).mono ?_
  rintro e w1 ⟨⟨v1, rfl, ho1⟩, hb1⟩
  have HO1 := Lib.hid (show RowOwn w1 w.heap.size B [] v1 from ⟨[], ho1, by rw [RepX, RowX]⟩)
  have hne : some b ≠ v1.ownBlock := fun e => by have := (ho1.lt _ e.symm).1; omega
  have c0 : w1.cell? ⟨b, 0, none⟩ = some (.slice a l.length c) := by rw [hb1.cell (p := ⟨b, 0, none⟩) hbs]; exact c0
  have c1 : w1.cell? ⟨b, 1, none⟩ = some (.slice a' m.length c') := by rw [hb1.cell (p := ⟨b, 1, none⟩) hbs]; exact c1
  have hlt1 : b < w1.heap.size := World.block_lt_of_cell? _ _ c0
  go_wp2
  refine wp_loop_rounds 3 ?_
  rw [rounds_succ]
  go_wp2_with (at_builtin; refine wpList_append_rows rfl _ _ rfl w.heap.size B [] l v1 (.slice a l.length c) rfl rfl HO1.out (HX.out.below hb1 hB).src (by simp; omega) hb1.size hB ?_)
  intro v2 w2 ho2 hbb2 hsz2 hk2
  have HO2 := Lib.hid ho2
  have hb12 : Below w.heap.size w w2 := hb1.trans hbb2
  have e1 : w2.cell? ⟨b, 1, none⟩ = some (.slice a' m.length c') := by rw [World.cell?_of_block (w := w1) (w' := w2) (a := ⟨b, 1, none⟩) (hk2 b hlt1 hne)]; exact c1
  have HSZ2 := Lib.hid hb12.size
  have HB12 := Lib.hid hb12
  clear ho2 hbb2 hk2 hsz2 hb12
  go_wp2
  rw [rounds_succ]
  go_wp2_with (at_builtin; refine wpList_append_rows rfl _ _ rfl w.heap.size B l m v2 (.slice a' m.length c') rfl rfl HO2.out (HY.out.below HB12.out hB).src hn HSZ2.out hB ?_)
  intro v3 w3 ho3 hbb3 hsz3 _
  have HO3 := Lib.hid ho3
  have HB13 := Lib.hid (HB12.out.trans hbb3)
  clear ho3 hbb3 hsz3
  go_wp2
  rw [rounds_succ]
  go_wp2
  go_ret
  exact ⟨⟨_, rfl, HO3.out.rep (Nat.le_trans hB HB13.out.size)⟩, HB13.out⟩
end Go.Proofs.YtpejhilfopjckaaDoor.Dat

/-
The law DatumMakes of layer 2: the document's Make.
-/
namespace Go.Proofs.YtpejhilfopjckaaDoor.Dat
open Go.ChangeShapes Go.WideShapes Go.ChangeAt Go.RowKit
set_option maxRecDepth 100000

/-- What is made of items and a tail. -/
def makeT (l : List PT) : PT → PT
  | .mk k i s m => if l = [] then .mk k i s m else if k = 5 ∨ k = 6 then .mk k 0 ⟨#[]⟩ (l ++ m) else .mk 6 0 ⟨#[]⟩ (l ++ [.mk k i s m])

theorem St2.nextB {w W W' : World} {cs ds : Array Value} (h : St2 w cs ds W) {B : Nat} (hb : Below B W W') (hB : w.heap.size + 2 ≤ B) : St2 w cs ds W' :=
  ⟨h.1.trans (hb.mono (by omega)), (hb.block _ (by omega)).trans h.2.1, (hb.block _ (by omega)).trans h.2.2⟩

theorem RowOwn.setCell {w : World} {base B : Nat} {l : List PT} {v : Value} (h : RowOwn w base B l v) {a : Addr} (h1 : a.block < base) (h2 : B ≤ a.block) (u : Value) : RowOwn (w.setCell a u) base B l v := by
  obtain ⟨xs, ho, hx⟩ := h
  exact ⟨xs, ownsRow_setCell_below ho h1 u, hx.move (Nat.le_refl _) fun b o hb => World.cell?_of_block (w := w) (a := ⟨b, o, none⟩) (Below.heap_setCell _ _ _ _ (by show b ≠ _; omega))⟩

end Go.Proofs.YtpejhilfopjckaaDoor.Dat

/-
New data behind the stores to a result. No condition.
-/
namespace Go.Proofs.YtpejhilfopjckaaDoor.Dat
open Go.ChangeShapes Go.WideShapes Go.ChangeAt Go.RowKit
set_option maxRecDepth 100000

theorem NewV.rep {w : World} {C : Nat} {t : PT} {v : Value} (h : NewV w C t v) : RepV w w.heap.size t v := by
  match t with
  | .mk k i s l => exact ⟨h.1, h.2.1, h.2.2.1, h.2.2.2.rep⟩
theorem NewV.move {w w' : World} {C C' : Nat} (hC : C' ≤ C) (hc : ∀ b o v, C ≤ b → w.cell? ⟨b, o, none⟩ = some v → w'.cell? ⟨b, o, none⟩ = some v) {t : PT} {v : Value} (h : NewV w C t v) : NewV w' C' t v := by
  match t with
  | .mk k i s l => exact ⟨h.1, h.2.1, h.2.2.1, h.2.2.2.move hC hc⟩

/-- Behind the four stores to a result's cell. -/
theorem new_end {w W : World} {cs : Array Value} {y0 y1 y2 y3 : Value} (S : St2 w cs #[y0, y1, y2, y3] W) (x0 x1 x2 x3 : Value) :
    ((((W.setCell ⟨w.heap.size + 1, 0, none⟩ x0).setCell ⟨w.heap.size + 1, 1, none⟩ x1).setCell ⟨w.heap.size + 1, 2, none⟩ x2).setCell ⟨w.heap.size + 1, 3, none⟩ x3).heap[w.heap.size + 1]? = some (.cells #[x0, x1, x2, x3] 50 (0, 0)) ∧
    Keep (w.heap.size + 2) W ((((W.setCell ⟨w.heap.size + 1, 0, none⟩ x0).setCell ⟨w.heap.size + 1, 1, none⟩ x1).setCell ⟨w.heap.size + 1, 2, none⟩ x2).setCell ⟨w.heap.size + 1, 3, none⟩ x3) ∧
    Below w.heap.size w ((((W.setCell ⟨w.heap.size + 1, 0, none⟩ x0).setCell ⟨w.heap.size + 1, 1, none⟩ x1).setCell ⟨w.heap.size + 1, 2, none⟩ x2).setCell ⟨w.heap.size + 1, 3, none⟩ x3) :=
  ⟨row_set4 S.2.2 _ _ _ _,
    ((((Keep.refl _ _).setCell (a := ⟨w.heap.size + 1, 0, none⟩) (by simp only []; omega) _).setCell (a := ⟨w.heap.size + 1, 1, none⟩) (by simp only []; omega) _).setCell (a := ⟨w.heap.size + 1, 2, none⟩) (by simp only []; omega) _).setCell (a := ⟨w.heap.size + 1, 3, none⟩) (by simp only []; omega) _,
    ((((S.1.setCell (p := ⟨w.heap.size + 1, 0, none⟩) (by simp only []; omega) _).setCell (p := ⟨w.heap.size + 1, 1, none⟩) (by simp only []; omega) _).setCell (p := ⟨w.heap.size + 1, 2, none⟩) (by simp only []; omega) _).setCell (p := ⟨w.heap.size + 1, 3, none⟩) (by simp only []; omega) _)⟩

theorem St2.froz {w W : World} {cs : Array Value} {y0 y1 y2 y3 : Value} (S : St2 w cs #[y0, y1, y2, y3] W) :
    W.frozen? ⟨w.heap.size + 1, 0, none⟩ = false ∧ W.frozen? ⟨w.heap.size + 1, 1, none⟩ = false ∧ W.frozen? ⟨w.heap.size + 1, 2, none⟩ = false ∧ W.frozen? ⟨w.heap.size + 1, 3, none⟩ = false :=
  ⟨Lib.frozen_of_heap S.2.2 0, Lib.frozen_of_heap S.2.2 1, Lib.frozen_of_heap S.2.2 2, Lib.frozen_of_heap S.2.2 3⟩

end Go.Proofs.YtpejhilfopjckaaDoor.Dat

/-
How many data some items are. No condition.
-/
namespace Go.Proofs.YtpejhilfopjckaaDoor.Dat
open Go.ChangeShapes Go.WideShapes Go.ChangeAt Go.RowKit
set_option maxRecDepth 100000

end Go.Proofs.YtpejhilfopjckaaDoor.Dat

/-
The law DatumMakes of layer 2: package data's Make, at every row of items and every tail. No condition but a bound on how many data there are.
-/
namespace Go.Proofs.YtpejhilfopjckaaDoor.Dat
open Go.ChangeShapes Go.WideShapes Go.ChangeAt Go.RowKit
set_option maxRecDepth 100000

theorem numsT_append : ∀ (l m : List PT), numsT (l ++ m) = numsT l + numsT m
  | [], m => by simp [numsT]
  | t :: l, m => by
    rw [List.cons_append, numsT, numsT, numsT_append l m]; omega
def MakeOk (base : Nat) (r : PT) (e : Ending) (w' : World) : Prop := ∃ x', e = .returned (r.val x') ∧ RepV w' w'.heap.size r x' ∧ NewV w' base r x'

theorem rep_one {W : World} {B b : Nat} {k i : Int} {s : ByteArray} {l : List PT} {v : Value} (hb : b < B) (h : W.heap[b]? = some (.cells #[.int .i64 k, .int .i64 i, .string s, v] 50 (0, 0))) (hv : RepV W B (.mk k i s l) v) :
    RepS W B [.mk k i s l] (.slice (some ⟨b, 0, none⟩) 1 1) := by
  refine ⟨some ⟨b, 0, none⟩, 1, rfl, Nat.le_refl _, by decide, (fun h => by cases h), .inr ⟨b, 0, rfl, hb, ?_⟩⟩
  rw [RepAt, RepAt]
  refine ⟨repD_mk.2 ⟨hv.1, hv.2.1, hv.2.2.1, ?_, ?_, ?_, v, ?_, hv.2.2.2⟩, trivial⟩
  all_goals (rw [Lib.cell_of_heap h]; rfl)

set_option maxRecDepth 100000 in
theorem make_none (k i : Int) (s : ByteArray) (m : List PT) (x v : Value) (w : World) (B : Nat) (hv : RepS w B [] v) (hx : RepV w B (.mk k i s m) x) (hB : B ≤ w.heap.size) (hn : numT (.mk k i s m) ≤ 200000) :
    Calls Tryd.prog 80 #[v, .agg #[.int .i64 k, .int .i64 i, .string s, x]] w fun e w' => MakeOk w.heap.size (.mk k i s m) e w' ∧ Below w.heap.size w w' := by
  have HX := Lib.hid hx
  obtain ⟨a, c, rfl, _⟩ := hv
  obtain ⟨a', c', e, hl', hm', _⟩ := hx.2.2.2
  subst e
  clear hx
  unfold maxLen at hm'
  have S0 := Lib.hid (St2.first w #[.int .i64 k, .int .i64 i, .string s, .slice a' m.length c'] #[.int .i64 0, .int .i64 0, .string ⟨#[]⟩, .slice none 0 0])
  have C := Lib.hid (copied_any (.mk k i s m) ((w.alloc (.cells #[.int .i64 k, .int .i64 i, .string s, .slice a' m.length c'] 50)).alloc (.cells #[.int .i64 0, .int .i64 0, .string ⟨#[]⟩, .slice none 0 0] 50)) B (.slice a' m.length c') (HX.out.below S0.out.1 hB) (by have := S0.out.1.size; omega) hn)
  go_enter Tryd.func80, Tryd.ntmps80
  go_wp2_with fail
  refine C.out.mono ?_
  rintro e w1 ⟨⟨v', he, hn1⟩, hb1⟩
  change e = .returned (.agg #[.int .i64 k, .int .i64 i, .string s, v']) at he
  subst he
  have S1 := Lib.hid (S0.out.next hb1)
  have N1 := Lib.hid (hn1.move (C' := w.heap.size + 2) (by simp) fun _ _ _ _ h => h)
  obtain ⟨a2, c2, rfl, _⟩ := hn1.2.2.2
  obtain ⟨g0, g1, g2, g3⟩ := S1.out.froz
  obtain ⟨_, _, _, _, d0, d1, d2, d3, _⟩ := S1.out.cells
  clear hb1 C hn1
  go_wp2
  obtain ⟨e4, K4, b4⟩ := new_end S1.out (.int .i64 k) (.int .i64 i) (.string s) (.slice a2 m.length c2)
  exact bodyPost_ret (results_cell_row (P := Tryd.prog) rfl _ _ (w.heap.size + 1) 50 _ (0, 0) _ rfl e4 Tryd.underlying50 rfl (by kernel_rfl)) rfl ⟨⟨_, rfl, (N1.out.move (Nat.le_refl _) K4.cell).rep, (N1.out.move (Nat.le_refl _) K4.cell).move (by omega) fun _ _ _ _ h => h⟩, b4⟩

set_option maxRecDepth 100000 in
set_option maxHeartbeats 2000000 in
theorem make_tail (l : List PT) (k i : Int) (s : ByteArray) (m : List PT) (v x : Value) (w : World) (B : Nat) (hv : RepS w B l v) (hx : RepV w B (.mk k i s m) x) (hB : B ≤ w.heap.size) (h0 : l ≠ []) (k5 : k ≠ 5) (k6 : k ≠ 6) (hn : numsT l + numT (.mk k i s m) ≤ 200000) :
    Calls Tryd.prog 80 #[v, .agg #[.int .i64 k, .int .i64 i, .string s, x]] w fun e w' => MakeOk w.heap.size (.mk 6 0 ⟨#[]⟩ (l ++ [.mk k i s m])) e w' ∧ Below w.heap.size w w' := by
  have HX := Lib.hid hx
  have HV := Lib.hid hv
  obtain ⟨a, c, rfl, hl, hm, _⟩ := hv
  obtain ⟨a', c', e, hl', hm', _⟩ := hx.2.2.2
  subst e
  clear hx
  unfold maxLen at hm hm'
  have hz : ((l.length : Int) == 0) = false := by
    have := List.length_pos_iff.2 h0
    simp; omega
  have S0 := Lib.hid (St2.first w #[.int .i64 k, .int .i64 i, .string s, .slice a' m.length c'] #[.int .i64 0, .int .i64 0, .string ⟨#[]⟩, .slice none 0 0])
  have CT := Lib.hid (fun W => mayBeTail_any k true (by simp [k5, k6]) W)
  have hlen := nums_len l
  have hnum : numsT (l ++ [.mk k i s m]) ≤ 200000 := by
    rw [numsT_append, numsT, numsT]; omega
  have hl1 : 1 ≤ l.length := List.length_pos_iff.2 h0
  have hl2 : l.length + [PT.mk k i s m].length ≤ 1000000 := by simp; omega
  have HW : Hid (∀ W, W = (((w.alloc (.cells #[.int .i64 k, .int .i64 i, .string s, .slice a' m.length c'] 50)).alloc (.cells #[.int .i64 0, .int .i64 0, .string ⟨#[]⟩, .slice none 0 0] 50)).alloc (.cells #[.int .i64 k, .int .i64 i, .string s, .slice a' m.length c'] 50)).alloc (.cells #[.slice a l.length c, .slice (some ⟨w.heap.size + 1 + 1, 0, none⟩) 1 1] 48) →
      St2 w #[.int .i64 k, .int .i64 i, .string s, .slice a' m.length c'] #[.int .i64 0, .int .i64 0, .string ⟨#[]⟩, .slice none 0 0] W ∧
      Calls Tryd.prog 90 #[.slice (some ⟨w.heap.size + 1 + 1 + 1, 0, none⟩) 2 2] W fun e w' => (∃ v', e = .returned v' ∧ RepS w' w'.heap.size (l ++ [.mk k i s m]) v') ∧ Below W.heap.size W w') := Lib.hid (by
    intro W hW
    have s1 := (S0.out.next ((Below.refl _ _).alloc (Nat.le_refl _) (.cells #[.int .i64 k, .int .i64 i, .string s, .slice a' m.length c'] 50))).next ((Below.refl _ _).alloc (Nat.le_refl _) (.cells #[.slice a l.length c, .slice (some ⟨w.heap.size + 1 + 1, 0, none⟩) 1 1] 48))
    rw [← hW] at s1
    have hsz : W.heap.size = w.heap.size + 4 := by rw [hW]; simp
    have b2 : W.heap[w.heap.size + 1 + 1]? = some (.cells #[.int .i64 k, .int .i64 i, .string s, .slice a' m.length c'] 50 (0, 0)) := by
      rw [hW, Lib.alloc_old _ _ _ (by simp)]
      have := heap_alloc_new ((w.alloc (.cells #[.int .i64 k, .int .i64 i, .string s, .slice a' m.length c'] 50)).alloc (.cells #[.int .i64 0, .int .i64 0, .string ⟨#[]⟩, .slice none 0 0] 50)) (.cells #[.int .i64 k, .int .i64 i, .string s, .slice a' m.length c'] 50)
      simpa using this
    have b3 : W.heap[w.heap.size + 1 + 1 + 1]? = some (.cells #[.slice a l.length c, .slice (some ⟨w.heap.size + 1 + 1, 0, none⟩) 1 1] 48 (0, 0)) := by
      have := heap_alloc_new (((w.alloc (.cells #[.int .i64 k, .int .i64 i, .string s, .slice a' m.length c'] 50)).alloc (.cells #[.int .i64 0, .int .i64 0, .string ⟨#[]⟩, .slice none 0 0] 50)).alloc (.cells #[.int .i64 k, .int .i64 i, .string s, .slice a' m.length c'] 50)) (.cells #[.slice a l.length c, .slice (some ⟨w.heap.size + 1 + 1, 0, none⟩) 1 1] 48)
      rw [hW]
      simpa using this
    refine ⟨s1, concat_any l [.mk k i s m] _ _ W W.heap.size (w.heap.size + 1 + 1 + 1) b3 ?_ ?_ (Nat.le_refl _) hl1 hl2⟩
    · exact (HV.out.below s1.1 hB).move (by omega) (fun _ _ _ => rfl)
    · exact rep_one (by omega) b2 ((HX.out.below s1.1 hB).mono (by omega)))
  have HN := Lib.hid hnum
  clear hnum h0 k5 k6 hlen hl1 hl2
  go_enter Tryd.func80, Tryd.ntmps80
  go_wp2_with (go_at_call 88; ((with_reducible refine (CT.out _).mono ?_); rintro e w' ⟨rfl, rfl⟩))
  refine ((HW.out _ rfl).2).mono ?_
  rintro e w1 ⟨⟨v1, rfl, r1⟩, hb1⟩
  have S1 := Lib.hid (((HW.out _ rfl).1).next hb1)
  have R1 := Lib.hid r1
  clear hb1 r1 HW
  go_wp2_with fail
  refine (copiedList_any _ w1 w1.heap.size v1 R1.out (Nat.le_refl _) HN.out).mono ?_
  rintro e w2 ⟨⟨v2, rfl, n2⟩, hb2⟩
  have S2 := Lib.hid (S1.out.next hb2)
  have N2 := Lib.hid (n2.move (C' := w.heap.size + 2) (by have := S1.out.lt; omega) fun _ _ _ _ h => h)
  obtain ⟨a2, c2, rfl, _⟩ := n2
  obtain ⟨g0, g1, g2, g3⟩ := S2.out.froz
  obtain ⟨_, _, _, _, d0, d1, d2, d3, _⟩ := S2.out.cells
  clear hb2
  go_wp2
  obtain ⟨e4, K4, b4⟩ := new_end S2.out (.int .i64 6) (.int .i64 0) (.string ⟨#[]⟩) (.slice a2 (l ++ [PT.mk k i s m]).length c2)
  have fin : MakeOk w.heap.size (.mk 6 0 ⟨#[]⟩ (l ++ [.mk k i s m])) (.returned (.agg #[.int .i64 6, .int .i64 0, .string ⟨#[]⟩, .slice a2 (l ++ [PT.mk k i s m]).length c2])) _ := ⟨_, rfl, ⟨ok_small (by decide), ok_small (by decide), by decide, (N2.out.move (Nat.le_refl _) K4.cell).rep⟩, ⟨ok_small (by decide), ok_small (by decide), by decide, (N2.out.move (Nat.le_refl _) K4.cell).move (by omega) fun _ _ _ _ h => h⟩⟩
  simp only [List.length_append, List.length_cons, List.length_nil] at e4 b4 fin
  exact bodyPost_ret (results_cell_row (P := Tryd.prog) rfl _ _ (w.heap.size + 1) 50 _ (0, 0) _ rfl e4 Tryd.underlying50 rfl (by kernel_rfl)) rfl ⟨fin, b4⟩
end Go.Proofs.YtpejhilfopjckaaDoor.Dat

/-
The law DatumMakes of layer 2: package data's Make at a tail that is a list, or dotted; and at every tail. No condition but a bound on how many data there are.
-/
namespace Go.Proofs.YtpejhilfopjckaaDoor.Dat
open Go.ChangeShapes Go.WideShapes Go.ChangeAt Go.RowKit
set_option maxRecDepth 100000

set_option maxRecDepth 100000 in
set_option maxHeartbeats 4000000 in
theorem make_join (l : List PT) (k i : Int) (s : ByteArray) (m : List PT) (v x : Value) (w : World) (B : Nat) (hv : RepS w B l v) (hx : RepV w B (.mk k i s m) x) (hB : B ≤ w.heap.size) (h0 : l ≠ []) (hk : k = 5 ∨ k = 6) (hn : numsT l + numT (.mk k i s m) ≤ 200000) :
    Calls Tryd.prog 80 #[v, .agg #[.int .i64 k, .int .i64 i, .string s, x]] w fun e w' => MakeOk w.heap.size (.mk k 0 ⟨#[]⟩ (l ++ m)) e w' ∧ Below w.heap.size w w' := by
  have HX := Lib.hid hx
  have HV := Lib.hid hv
  have hok := hx.1
  obtain ⟨a, c, rfl, hl, hm, _⟩ := hv
  obtain ⟨a', c', e, hl', hm', _⟩ := hx.2.2.2
  subst e
  clear hx
  unfold maxLen at hm hm'
  have hz : ((l.length : Int) == 0) = false := by
    have := List.length_pos_iff.2 h0
    simp; omega
  have S0 := Lib.hid (St2.first w #[.int .i64 k, .int .i64 i, .string s, .slice a' m.length c'] #[.int .i64 0, .int .i64 0, .string ⟨#[]⟩, .slice none 0 0])
  have CT := Lib.hid (fun W => mayBeTail_any k false (by rcases hk with rfl | rfl <;> rfl) W)
  have hlen := nums_len l
  have hlen2 := nums_len m
  rw [numT] at hn
  have hnum : numsT (l ++ m) ≤ 200000 := by rw [numsT_append]; omega
  have hl1 : 1 ≤ l.length := List.length_pos_iff.2 h0
  have hl2 : l.length + m.length ≤ 1000000 := by omega
  have s1 := S0.out.next ((Below.refl _ _).alloc (Nat.le_refl _) (.cells #[.slice a l.length c, .slice a' m.length c'] 48))
  have b2 : (((w.alloc (.cells #[.int .i64 k, .int .i64 i, .string s, .slice a' m.length c'] 50)).alloc (.cells #[.int .i64 0, .int .i64 0, .string ⟨#[]⟩, .slice none 0 0] 50)).alloc (.cells #[.slice a l.length c, .slice a' m.length c'] 48)).heap[w.heap.size + 1 + 1]? = some (.cells #[.slice a l.length c, .slice a' m.length c'] 48 (0, 0)) := by
    have := heap_alloc_new ((w.alloc (.cells #[.int .i64 k, .int .i64 i, .string s, .slice a' m.length c'] 50)).alloc (.cells #[.int .i64 0, .int .i64 0, .string ⟨#[]⟩, .slice none 0 0] 50)) (.cells #[.slice a l.length c, .slice a' m.length c'] 48)
    simpa using this
  have C40 : Hid (Calls Tryd.prog 90 #[.slice (some ⟨w.heap.size + 1 + 1, 0, none⟩) 2 2] ((((w.alloc (.cells #[.int .i64 k, .int .i64 i, .string s, .slice a' m.length c'] 50)).alloc (.cells #[.int .i64 0, .int .i64 0, .string ⟨#[]⟩, .slice none 0 0] 50)).alloc (.cells #[.slice a l.length c, .slice a' m.length c'] 48)).drew) fun e w' => (∃ v', e = .returned v' ∧ RepS w' w'.heap.size (l ++ m) v') ∧ St2 w #[.int .i64 k, .int .i64 i, .string s, .slice a' m.length c'] #[.int .i64 0, .int .i64 0, .string ⟨#[]⟩, .slice none 0 0] w') := Lib.hid (by
    have key : ∀ W : World, W.heap[w.heap.size + 1 + 1]? = some (.cells #[.slice a l.length c, .slice a' m.length c'] 48 (0, 0)) → St2 w #[.int .i64 k, .int .i64 i, .string s, .slice a' m.length c'] #[.int .i64 0, .int .i64 0, .string ⟨#[]⟩, .slice none 0 0] W →
        Calls Tryd.prog 90 #[.slice (some ⟨w.heap.size + 1 + 1, 0, none⟩) 2 2] W.drew fun e w' => (∃ v', e = .returned v' ∧ RepS w' w'.heap.size (l ++ m) v') ∧ St2 w #[.int .i64 k, .int .i64 i, .string s, .slice a' m.length c'] #[.int .i64 0, .int .i64 0, .string ⟨#[]⟩, .slice none 0 0] w' := by
      intro W hb hs
      have s2 := hs.drew
      have hw2 := s2.lt
      refine (concat_any l m _ _ W.drew W.drew.heap.size (w.heap.size + 1 + 1) hb ?_ ?_ (Nat.le_refl _) hl1 hl2).mono ?_
      · exact (HV.out.below s2.1 hB).move (by omega) (fun _ _ _ => rfl)
      · exact (HX.out.2.2.2.below s2.1 hB).move (by omega) (fun _ _ _ => rfl)
      · rintro e w' ⟨h1, h2⟩
        exact ⟨h1, s2.next h2⟩
    exact key _ b2 s1)
  clear s1 b2
  have C39 : Hid (∀ W v1, St2 w #[.int .i64 k, .int .i64 i, .string s, .slice a' m.length c'] #[.int .i64 0, .int .i64 0, .string ⟨#[]⟩, .slice none 0 0] W → RepS W W.heap.size (l ++ m) v1 →
      Calls Tryd.prog 89 #[v1] W fun e w' => (∃ a2 c2, e = .returned (.slice a2 (l ++ m).length c2) ∧ NewS w' (w.heap.size + 2) (l ++ m) (.slice a2 (l ++ m).length c2)) ∧ St2 w #[.int .i64 k, .int .i64 i, .string s, .slice a' m.length c'] #[.int .i64 0, .int .i64 0, .string ⟨#[]⟩, .slice none 0 0] w') := Lib.hid (by
    intro W v1 hW hr
    refine (copiedList_any (l ++ m) W W.heap.size v1 hr (Nat.le_refl _) hnum).mono ?_
    rintro e w' ⟨⟨v', he, hn'⟩, hb'⟩
    have hmv := hn'.move (C' := w.heap.size + 2) hW.lt (fun _ _ _ _ h => h)
    obtain ⟨a2, c2, rfl, _⟩ := hn'
    exact ⟨⟨a2, c2, he, hmv⟩, hW.next hb'⟩)
  have FIN : Hid (∀ W a2 c2, St2 w #[.int .i64 k, .int .i64 i, .string s, .slice a' m.length c'] #[.int .i64 0, .int .i64 0, .string ⟨#[]⟩, .slice none 0 0] W → NewS W (w.heap.size + 2) (l ++ m) (.slice a2 (l ++ m).length c2) →
      ((((W.setCell ⟨w.heap.size + 1, 0, none⟩ (.int .i64 k)).setCell ⟨w.heap.size + 1, 1, none⟩ (.int .i64 0)).setCell ⟨w.heap.size + 1, 2, none⟩ (.string ⟨#[]⟩)).setCell ⟨w.heap.size + 1, 3, none⟩ (.slice a2 (l ++ m).length c2)).heap[w.heap.size + 1]? = some (.cells #[.int .i64 k, .int .i64 0, .string ⟨#[]⟩, .slice a2 (l ++ m).length c2] 50 (0, 0)) ∧
      MakeOk w.heap.size (.mk k 0 ⟨#[]⟩ (l ++ m)) (.returned (.agg #[.int .i64 k, .int .i64 0, .string ⟨#[]⟩, .slice a2 (l ++ m).length c2])) ((((W.setCell ⟨w.heap.size + 1, 0, none⟩ (.int .i64 k)).setCell ⟨w.heap.size + 1, 1, none⟩ (.int .i64 0)).setCell ⟨w.heap.size + 1, 2, none⟩ (.string ⟨#[]⟩)).setCell ⟨w.heap.size + 1, 3, none⟩ (.slice a2 (l ++ m).length c2)) ∧
      Below w.heap.size w ((((W.setCell ⟨w.heap.size + 1, 0, none⟩ (.int .i64 k)).setCell ⟨w.heap.size + 1, 1, none⟩ (.int .i64 0)).setCell ⟨w.heap.size + 1, 2, none⟩ (.string ⟨#[]⟩)).setCell ⟨w.heap.size + 1, 3, none⟩ (.slice a2 (l ++ m).length c2))) := Lib.hid fun W a2 c2 hS h1 => by
    obtain ⟨e4, K4, b4⟩ := new_end hS (.int .i64 k) (.int .i64 0) (.string ⟨#[]⟩) (.slice a2 (l ++ m).length c2)
    exact ⟨e4, ⟨_, rfl, ⟨hok, ok_small (by decide), by decide, (h1.move (Nat.le_refl _) K4.cell).rep⟩, ⟨hok, ok_small (by decide), by decide, (h1.move (Nat.le_refl _) K4.cell).move (by omega) fun _ _ _ _ h => h⟩⟩, b4⟩
  have S0d := S0.out.drew
  obtain ⟨q0, q1, q2, q3, y0, y1, y2, y3, _⟩ := S0d.cells
  clear hnum h0 hk hlen hlen2 hl1 hl2 hok hn
  obtain ⟨LM, hLM⟩ : ∃ LM, LM = l ++ m := ⟨_, rfl⟩
  rw [← hLM] at C40 C39 FIN ⊢
  clear hLM
  go_enter Tryd.func80, Tryd.ntmps80
  go_wp2_with (go_at_call 88; ((with_reducible refine (CT.out _).mono ?_); rintro e w' ⟨rfl, rfl⟩))
  go_region_with (first
    | (go_at_call 90; (with_reducible refine C40.out.mono ?_); rintro e w1 ⟨⟨v1, rfl, r1⟩, s1'⟩; obtain ⟨p0, p1, p2, p3, p4, p5, p6, p7, _⟩ := s1'.cells; obtain ⟨f0, f1, f2, f3⟩ := s1'.froz)
    | (go_at_call 89; (with_reducible refine (C39.out _ _ (by assumption) (by assumption)).mono ?_); rintro e w1 ⟨⟨a2, c2, rfl, g2⟩, s2'⟩; obtain ⟨p0, p1, p2, p3, p4, p5, p6, p7, _⟩ := s2'.cells; obtain ⟨f0, f1, f2, f3⟩ := s2'.froz))
  all_goals
    go_wp2
    exact bodyPost_ret (results_cell_row (P := Tryd.prog) rfl _ _ (w.heap.size + 1) 50 _ (0, 0) _ rfl (FIN.out _ _ _ (by assumption) (by assumption)).1 Tryd.underlying50 rfl (by kernel_rfl)) rfl (show MakeOk _ _ _ _ ∧ _ from (FIN.out _ _ _ (by assumption) (by assumption)).2)

/-- Package data's Make, at every row of items and every tail. -/
theorem make_any (l : List PT) (k i : Int) (s : ByteArray) (m : List PT) (v x : Value) (w : World) (B : Nat) (hv : RepS w B l v) (hx : RepV w B (.mk k i s m) x) (hB : B ≤ w.heap.size) (hn : numsT l + numT (.mk k i s m) ≤ 200000) (r : PT) (hr : r = makeT l (.mk k i s m)) :
    Calls Tryd.prog 80 #[v, .agg #[.int .i64 k, .int .i64 i, .string s, x]] w fun e w' => MakeOk w.heap.size r e w' ∧ Below w.heap.size w w' := by
  subst hr
  by_cases h0 : l = []
  · subst h0
    rw [makeT, if_pos rfl]
    exact make_none k i s m x v w B hv hx hB (by omega)
  · by_cases hk : k = 5 ∨ k = 6
    · rw [makeT, if_neg h0, if_pos hk]
      exact make_join l k i s m v x w B hv hx hB h0 hk hn
    · rw [makeT, if_neg h0, if_neg hk]
      exact make_tail l k i s m v x w B hv hx hB h0 (fun e => hk (.inl e)) (fun e => hk (.inr e)) hn
end Go.Proofs.YtpejhilfopjckaaDoor.Dat
