/-
The law DatumMakes of layer 2: rows of data that are made: a row's cells as a list, an owned row, append of a row; data whose blocks are all new. No condition.
-/
import Derived.Test.YtiamojpeedllbaaGreatDoorL3a
import Derived.Laws.OwnMore
import Derived.Laws.AppendOwnNone
import Derived.Lib.AppendZeros
namespace Go.Proofs.YtiamojpeedllbaaGreatDoor.Dat
open Go.ChangeShapes Go.WideShapes Go.ChangeAt Go.RowKit
set_option maxRecDepth 100000

theorem infoDatum : (Tryz.prog.info? 28).map (fun i => (i.zero, i.size, i.bytes)) = some (some (.agg #[.int .i64 0, .int .i64 0, .string ⟨#[]⟩, .slice none 0 0]), 4, 56) := by kernel_rfl

/-- The cells of a row of data; R: what holds of an item's own row. -/
def RowX (R : List PT → Value → Prop) : List PT → List Value → Prop
  | [], xs => xs = []
  | .mk k i s m :: l, xs => ∃ v ys, xs = .int .i64 k :: .int .i64 i :: .string s :: v :: ys ∧ ok64 k ∧ ok64 i ∧ s.size ≤ maxLen ∧ R m v ∧ RowX R l ys
abbrev RepX (w : World) (B : Nat) : List PT → List Value → Prop := RowX (RepS w B)

theorem RowX.len {R : List PT → Value → Prop} : ∀ {l : List PT} {xs : List Value}, RowX R l xs → xs.length = l.length * 4
  | [], xs, h => by rw [RowX] at h; subst h; rfl
  | .mk k i s m :: l, xs, h => by
    rw [RowX] at h
    obtain ⟨v, ys, rfl, _, _, _, _, h⟩ := h
    have := RowX.len h
    simp only [List.length_cons]
    omega
theorem RowX.append {R : List PT → Value → Prop} {m : List PT} {ys : List Value} (hm : RowX R m ys) : ∀ {l : List PT} {xs : List Value}, RowX R l xs → RowX R (l ++ m) (xs ++ ys)
  | [], xs, h => by rw [RowX] at h; subst h; exact hm
  | .mk k i s n :: l, xs, h => by
    rw [RowX] at h
    obtain ⟨v, zs, rfl, h1, h2, h3, h4, h⟩ := h
    rw [List.cons_append, RowX]
    exact ⟨v, zs ++ ys, rfl, h1, h2, h3, h4, RowX.append hm h⟩
theorem RowX.one {R : List PT → Value → Prop} (hR : ∀ m v, R m v → v.oneCell' = true) : ∀ {l : List PT} {xs : List Value}, RowX R l xs → ∀ u ∈ xs, u.oneCell' = true
  | [], xs, h, u, hu => by rw [RowX] at h; subst h; cases hu
  | .mk k i s m :: l, xs, h, u, hu => by
    rw [RowX] at h
    obtain ⟨v, ys, rfl, _, _, _, hv, h⟩ := h
    simp only [List.mem_cons] at hu
    rcases hu with rfl | rfl | rfl | rfl | hu
    · rfl
    · rfl
    · rfl
    · exact hR _ _ hv
    · exact RowX.one hR h u hu
theorem RowX.imp {R R' : List PT → Value → Prop} (hR : ∀ m v, R m v → R' m v) : ∀ {l : List PT} {xs : List Value}, RowX R l xs → RowX R' l xs
  | [], xs, h => by rw [RowX] at h ⊢; exact h
  | .mk k i s m :: l, xs, h => by
    rw [RowX] at h ⊢
    obtain ⟨v, ys, e, h1, h2, h3, h4, h⟩ := h
    exact ⟨v, ys, e, h1, h2, h3, hR _ _ h4, RowX.imp hR h⟩
theorem RepX.len {w : World} {B : Nat} {l : List PT} {xs : List Value} (h : RepX w B l xs) : xs.length = l.length * 4 := RowX.len h
theorem RepX.append {w : World} {B : Nat} {m : List PT} {ys : List Value} (hm : RepX w B m ys) {l : List PT} {xs : List Value} (h : RepX w B l xs) : RepX w B (l ++ m) (xs ++ ys) := RowX.append hm h
theorem RepX.one {w : World} {B : Nat} {l : List PT} {xs : List Value} (h : RepX w B l xs) : ∀ u ∈ xs, u.oneCell' = true := RowX.one (fun _ _ ⟨_, _, e, _⟩ => by subst e; rfl) h
theorem RepX.move {w w' : World} {B B' : Nat} (hB : B ≤ B') (hc : ∀ b o, b < B → w'.cell? ⟨b, o, none⟩ = w.cell? ⟨b, o, none⟩) {l : List PT} {xs : List Value} (h : RepX w B l xs) : RepX w' B' l xs := RowX.imp (fun _ _ h => h.move hB hc) h

theorem repX_of_at {w : World} {B : Nat} : ∀ {l : List PT} {b o : Nat}, RepAt w B l b o → ∃ xs, RepX w B l xs ∧ ∀ j u, xs[j]? = some u → w.cell? ⟨b, o + j, none⟩ = some u
  | [], b, o, _ => ⟨[], by rw [RepX, RowX], fun j u h => by simp at h⟩
  | .mk k i s m :: l, b, o, h => by
    rw [RepAt] at h
    obtain ⟨h1, h2⟩ := h
    rw [repD_mk] at h1
    obtain ⟨k1, k2, k3, c0, c1, c2, v, c3, hv⟩ := h1
    obtain ⟨ys, hy, hc⟩ := repX_of_at h2
    refine ⟨.int .i64 k :: .int .i64 i :: .string s :: v :: ys, ?_, ?_⟩
    · rw [RepX, RowX]
      exact ⟨v, ys, rfl, k1, k2, k3, hv, hy⟩
    · intro j u hj
      match j with
      | 0 => simp at hj; subst hj; exact c0
      | 1 => simp at hj; subst hj; exact c1
      | 2 => simp at hj; subst hj; exact c2
      | 3 => simp at hj; subst hj; exact c3
      | j + 4 =>
        simp at hj
        have := hc j u hj
        rwa [show o + 4 + j = o + (j + 4) by omega] at this
theorem repAt_of_x {w : World} {B : Nat} : ∀ {l : List PT} {xs : List Value} {b o : Nat}, RepX w B l xs → (∀ j u, xs[j]? = some u → w.cell? ⟨b, o + j, none⟩ = some u) → RepAt w B l b o
  | [], xs, b, o, _, _ => by rw [RepAt]; trivial
  | .mk k i s m :: l, xs, b, o, h, hc => by
    rw [RepX, RowX] at h
    obtain ⟨v, ys, rfl, h1, h2, h3, h4, h⟩ := h
    rw [RepAt]
    refine ⟨repD_mk.2 ⟨h1, h2, h3, hc 0 _ rfl, hc 1 _ rfl, hc 2 _ rfl, v, hc 3 _ rfl, h4⟩, repAt_of_x h fun j u hj => ?_⟩
    have := hc (j + 4) u (by simpa using hj)
    rwa [show o + (j + 4) = o + 4 + j by omega] at this

/-- A row of data that the call has made itself. -/
def RowOwn (w : World) (base B : Nat) (l : List PT) (v : Value) : Prop := ∃ xs, w.ownsRow base 28 4 v l.length xs ∧ RepX w B l xs

theorem RowOwn.rep {w : World} {base B : Nat} {l : List PT} {v : Value} (h : RowOwn w base B l v) (hB : B ≤ w.heap.size) : RepS w w.heap.size l v := by
  obtain ⟨xs, ho, hx⟩ := h
  have hx' : RepX w w.heap.size l xs := hx.move hB fun _ _ _ => rfl
  rcases ho.2 with ⟨rfl, h0⟩ | ⟨g, cap, cur, rfl, hb, hg, hn, hcm, hcs, ht⟩
  · obtain rfl := List.eq_nil_of_length_eq_zero h0
    exact ⟨none, 0, rfl, Nat.le_refl _, Nat.zero_le _, fun _ => rfl, .inl rfl⟩
  · refine ⟨some ⟨g, 0, none⟩, cap, rfl, hn, hcm, (fun h => by cases h), .inr ⟨g, 0, rfl, lt_of_block hg, repAt_of_x hx' fun j u hj => ?_⟩⟩
    have := ho.cells (g := g) rfl j u hj
    simpa [add_plain] using this

theorem rowOwn_nil (w : World) (base B : Nat) : RowOwn w base B [] (.slice none 0 0) := ⟨[], World.ownsRow_nil _ _ _ _, by rw [RepX, RowX]⟩

/-- A row whose items' own rows lie below B, wherever it lies itself. -/
def SrcS (w : World) (B : Nat) (m : List PT) (u : Value) : Prop :=
  ∃ a c, u = .slice a m.length c ∧ m.length ≤ c ∧ c ≤ maxLen ∧ (a = none → c = 0) ∧ (m = [] ∨ ∃ b' o', a = some ⟨b', o', none⟩ ∧ RepAt w B m b' o')
theorem RepS.src {w : World} {B : Nat} {m : List PT} {u : Value} (h : RepS w B m u) : SrcS w B m u := by
  obtain ⟨a, c, e, hl, hm, hn, hr⟩ := h
  refine ⟨a, c, e, hl, hm, hn, hr.imp id ?_⟩
  rintro ⟨b', o', ha, _, hr⟩
  exact ⟨b', o', ha, hr⟩

/-- append of a row of data to one of the call's own. -/
theorem wp_append_rows {o : Oper} {a : Act} {w : World} {K : Act → World → Prop} {Q : Exit → Act → World → Prop} (s x : Operand)
    (ho : o.op = .call { callee := .builtin .append, args := #[s, x], argTypes := #[26, 26] }) (base B : Nat) (l m : List PT) (v u : Value) (hs : a.eval s = v) (hx : a.eval x = u)
    (hown : RowOwn w base B l v) (hsrc : SrcS w B m u) (hlen : l.length + m.length ≤ 1000000) (hbase : base ≤ w.heap.size) (hBb : B ≤ base)
    (h : ∀ v' w', RowOwn w' base B (l ++ m) v' → Below base w w' → w.heap.size ≤ w'.heap.size → (∀ k, k < w.heap.size → some k ≠ v.ownBlock → w'.heap[k]? = w.heap[k]?) → K (a.put o.dst v') w') : o.wp Tryz.prog a w K Q := by
  obtain ⟨i0, hi, hz0, hz1, hz2⟩ := info_parts infoDatum
  obtain ⟨xs, hxs, hrx⟩ := hown
  obtain ⟨ad, c, rfl, hlc, hcm, hna, hr⟩ := hsrc
  have hlow : ∀ k, v.ownBlock = some k → base ≤ k := fun k hk => (hxs.lt k hk).1
  rcases hr with rfl | ⟨b', o', rfl, hr⟩
  · match ad with
    | none =>
      obtain rfl := hna rfl
      refine Lib.wp_append_run w s x 26 26 ho v _ hs hx _ _ (run_append_owned_none (P := Tryz.prog) (w := w) base 26 o.type 28 i0 4 Tryz.underlying26 hi v l.length xs hxs) ?_
      exact h v w ⟨xs, by simpa using hxs, by simpa using hrx⟩ (Below.refl _ _) (Nat.le_refl _) (fun _ _ _ => rfl)
    | some ad =>
      refine wp_append_own w s x 26 ho base 28 i0 _ 4 56 Tryz.underlying26 hi hz0 hz1 hz2 rfl (by decide) v l.length xs hs hxs ad 0 c [] hx rfl (fun j u h => by simp at h) (fun u h => by cases h) (by unfold maxLen; simp at hlen; omega) (by simp at hlen; omega) hbase ?_
      intro v' w' h1 h2 _
      refine h v' w' ⟨xs ++ [], by simpa using h1, ?_⟩ ((Below.refl base w).grown h2 hbase hlow) h2.size h2.block
      rw [List.append_nil, List.append_nil]
      exact hrx.move (Nat.le_refl _) fun b o hb => World.cell?_of_block (h2.block b (by show b < _; omega) (fun e => by have := hlow _ e.symm; omega))
  · obtain ⟨ys, hy, hc⟩ := repX_of_at hr
    refine wp_append_own w s x 26 ho base 28 i0 _ 4 56 Tryz.underlying26 hi hz0 hz1 hz2 rfl (by decide) v l.length xs hs hxs ⟨b', o', none⟩ m.length c ys hx hy.len (fun j u hj => by rw [add_plain]; exact hc j u hj) hy.one (by unfold maxLen; omega) (by omega) hbase ?_
    intro v' w' h1 h2 _
    have mv : ∀ b o, b < B → w'.cell? ⟨b, o, none⟩ = w.cell? ⟨b, o, none⟩ := fun b o hb => World.cell?_of_block (h2.block b (by show b < _; omega) (fun e => by have := hlow _ e.symm; omega))
    refine h v' w' ⟨xs ++ ys, by rw [List.length_append]; exact h1, ?_⟩ ((Below.refl base w).grown h2 hbase hlow) h2.size h2.block
    exact RepX.append (hy.move (Nat.le_refl _) mv) (hrx.move (Nat.le_refl _) mv)

theorem wpList_append_rows {ops : Array Oper} {rest : List Oper} {o : Oper} {a : Act} {w : World} {Q : Exit → Act → World → Prop} (hgd : o.guard = none) (s x : Operand)
    (ho : o.op = .call { callee := .builtin .append, args := #[s, x], argTypes := #[26, 26] }) (base B : Nat) (l m : List PT) (v u : Value) (hs : a.eval s = v) (hx : a.eval x = u)
    (hown : RowOwn w base B l v) (hsrc : SrcS w B m u) (hlen : l.length + m.length ≤ 1000000) (hbase : base ≤ w.heap.size) (hBb : B ≤ base)
    (h : ∀ v' w', RowOwn w' base B (l ++ m) v' → Below base w w' → w.heap.size ≤ w'.heap.size → (∀ k, k < w.heap.size → some k ≠ v.ownBlock → w'.heap[k]? = w.heap[k]?) → wpList Tryz.prog ops Q rest (a.put o.dst v') w') : wpList Tryz.prog ops Q (o :: rest) a w :=
  wpList_plain hgd fun _ hK => wp_append_rows s x ho base B l m v u hs hx hown hsrc hlen hbase hBb fun v' w' h1 h2 h3 h4 => hK _ _ (h v' w' h1 h2 h3 h4)
theorem step_append_rows {ops : Array Oper} {o : Oper} {a : Act} {w : World} {K : Act → World → Prop} {Q : Exit → Act → World → Prop} {E : Prop} (hgd : o.guard = none) (s x : Operand)
    (ho : o.op = .call { callee := .builtin .append, args := #[s, x], argTypes := #[26, 26] }) (base B : Nat) (l m : List PT) (v u : Value) (hs : a.eval s = v) (hx : a.eval x = u)
    (hown : RowOwn w base B l v) (hsrc : SrcS w B m u) (hlen : l.length + m.length ≤ 1000000) (hbase : base ≤ w.heap.size) (hBb : B ≤ base)
    (h : ∀ v' w', RowOwn w' base B (l ++ m) v' → Below base w w' → w.heap.size ≤ w'.heap.size → (∀ k, k < w.heap.size → some k ≠ v.ownBlock → w'.heap[k]? = w.heap[k]?) → K (a.put o.dst v') w') : if Region.wanted o (yielded ops a.tmps) = true then Oper.wp Tryz.prog o a w K Q else E := by
  have hw : Region.wanted o (yielded ops a.tmps) = true := by simp [Region.wanted, hgd]
  rw [if_pos hw]
  exact wp_append_rows s x ho base B l m v u hs hx hown hsrc hlen hbase hBb h
end Go.Proofs.YtiamojpeedllbaaGreatDoor.Dat
