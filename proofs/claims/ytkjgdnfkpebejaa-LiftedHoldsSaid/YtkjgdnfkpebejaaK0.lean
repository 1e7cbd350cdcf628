/-
Data whose rows lie in blocks that a predicate tells; rows of data that a call has made itself, and append to them. No condition.
-/
import Derived.Test.YtkjgdnfkpebejaaWM

namespace Go.Proofs.Ytkjgdnfkpebejaa
open Go.ChangeShapes Go.WideShapes Go.ChangeAt Go.RowKit
open Dat (PT makeT RowX RepS RepV NewS NewV NewX NewD NewAt infoDatum)
set_option maxRecDepth 100000

mutual
/-- The datum lies at four cells from ⟨b, o⟩ on, and its rows lie in blocks of S. -/
def InD (w : World) (S : Nat → Prop) : PT → Nat → Nat → Prop
  | .mk k i s l, b, o => Dat.ok64 k ∧ Dat.ok64 i ∧ s.size ≤ maxLen ∧ w.cell? ⟨b, o, none⟩ = some (.int .i64 k) ∧ w.cell? ⟨b, o + 1, none⟩ = some (.int .i64 i) ∧ w.cell? ⟨b, o + 2, none⟩ = some (.string s) ∧
      ∃ v, w.cell? ⟨b, o + 3, none⟩ = some v ∧ ∃ a c, v = .slice a l.length c ∧ l.length ≤ c ∧ c ≤ maxLen ∧ (a = none → c = 0) ∧ (l = [] ∨ ∃ b' o', a = some ⟨b', o', none⟩ ∧ S b' ∧ InAt w S l b' o')
def InAt (w : World) (S : Nat → Prop) : List PT → Nat → Nat → Prop
  | [], _, _ => True
  | t :: l, b, o => InD w S t b o ∧ InAt w S l b (o + 4)
end
def InS (w : World) (S : Nat → Prop) (l : List PT) (v : Value) : Prop :=
  ∃ a c, v = .slice a l.length c ∧ l.length ≤ c ∧ c ≤ maxLen ∧ (a = none → c = 0) ∧ (l = [] ∨ ∃ b' o', a = some ⟨b', o', none⟩ ∧ S b' ∧ InAt w S l b' o')
theorem inD_mk {w : World} {S : Nat → Prop} {k i : Int} {s : ByteArray} {l : List PT} {b o : Nat} :
    InD w S (.mk k i s l) b o ↔ Dat.ok64 k ∧ Dat.ok64 i ∧ s.size ≤ maxLen ∧ w.cell? ⟨b, o, none⟩ = some (.int .i64 k) ∧ w.cell? ⟨b, o + 1, none⟩ = some (.int .i64 i) ∧ w.cell? ⟨b, o + 2, none⟩ = some (.string s) ∧
      ∃ v, w.cell? ⟨b, o + 3, none⟩ = some v ∧ InS w S l v := by
  rw [InD]; rfl
mutual
theorem InD.move {w w' : World} {S S' : Nat → Prop} (hS : ∀ b, S b → b < w.heap.size → S' b) (hc : ∀ b o v, S b → w.cell? ⟨b, o, none⟩ = some v → w'.cell? ⟨b, o, none⟩ = some v) :
    ∀ (t : PT) {b o : Nat}, S b → InD w S t b o → InD w' S' t b o
  | .mk k i s l, b, o, hb, h => by
    rw [inD_mk] at h ⊢
    obtain ⟨h1, h2, h3, c0, c1, c2, v, c3, a, c, e, hl, hm, hn, hr⟩ := h
    refine ⟨h1, h2, h3, hc _ _ _ hb c0, hc _ _ _ hb c1, hc _ _ _ hb c2, v, hc _ _ _ hb c3, a, c, e, hl, hm, hn, ?_⟩
    rcases hr with hr | ⟨b', o', ha, hlt, hr⟩
    · exact .inl hr
    · match l, hr with
      | [], _ => exact .inl rfl
      | u :: l, hr =>
        have hlt' : b' < w.heap.size := by
          match u, hr with
          | .mk k i s m, hr =>
            rw [InAt, inD_mk] at hr
            exact World.block_lt_of_cell? _ _ hr.1.2.2.2.1
        exact .inr ⟨b', o', ha, hS _ hlt hlt', InAt.move hS hc (u :: l) hlt hr⟩
theorem InAt.move {w w' : World} {S S' : Nat → Prop} (hS : ∀ b, S b → b < w.heap.size → S' b) (hc : ∀ b o v, S b → w.cell? ⟨b, o, none⟩ = some v → w'.cell? ⟨b, o, none⟩ = some v) :
    ∀ (l : List PT) {b o : Nat}, S b → InAt w S l b o → InAt w' S' l b o
  | [], _, _, _, _ => by rw [InAt]; trivial
  | t :: l, b, o, hb, h => by
    rw [InAt] at h ⊢
    exact ⟨InD.move hS hc t hb h.1, InAt.move hS hc l hb h.2⟩
end
theorem InS.move {w w' : World} {S S' : Nat → Prop} (hS : ∀ b, S b → b < w.heap.size → S' b) (hc : ∀ b o v, S b → w.cell? ⟨b, o, none⟩ = some v → w'.cell? ⟨b, o, none⟩ = some v) {l : List PT} {v : Value} (h : InS w S l v) : InS w' S' l v := by
  obtain ⟨a, c, e, hl, hm, hn, hr⟩ := h
  refine ⟨a, c, e, hl, hm, hn, ?_⟩
  rcases hr with hr | ⟨b', o', ha, hlt, hr⟩
  · exact .inl hr
  · match l, hr with
    | [], _ => exact .inl rfl
    | .mk k i s m :: l, hr =>
      have hlt' : b' < w.heap.size := by
        rw [InAt, inD_mk] at hr
        exact World.block_lt_of_cell? _ _ hr.1.2.2.2.1
      exact .inr ⟨b', o', ha, hS _ hlt hlt', hr.move hS hc _ hlt⟩
mutual
theorem InD.new {w : World} {C : Nat} : ∀ (t : PT) {b o : Nat}, InD w (C ≤ ·) t b o ↔ NewD w C t b o
  | .mk k i s l, b, o => by
    rw [inD_mk, Dat.newD_mk]
    have := fun b' o' => InAt.new (w := w) (C := C) l (b := b') (o := o')
    unfold InS NewS
    simp only [this]
theorem InAt.new {w : World} {C : Nat} : ∀ (l : List PT) {b o : Nat}, InAt w (C ≤ ·) l b o ↔ NewAt w C l b o
  | [], _, _ => by rw [InAt, NewAt]
  | t :: l, b, o => by
    rw [InAt, NewAt, InD.new t, InAt.new l]
end
theorem inS_new {w : World} {C : Nat} {l : List PT} {v : Value} : InS w (C ≤ ·) l v ↔ NewS w C l v := by
  unfold InS NewS
  simp only [InAt.new]

mutual
theorem InD.rep {w : World} {S : Nat → Prop} : ∀ (t : PT) {b o : Nat}, InD w S t b o → Dat.RepD w w.heap.size t b o
  | .mk k i s l, b, o, h => by
    rw [inD_mk] at h
    rw [Dat.repD_mk]
    obtain ⟨h1, h2, h3, c0, c1, c2, v, c3, a, c, e, hl, hm, hn, hr⟩ := h
    refine ⟨h1, h2, h3, c0, c1, c2, v, c3, a, c, e, hl, hm, hn, ?_⟩
    rcases hr with hr | ⟨b', o', ha, hs, hr⟩
    · exact .inl hr
    · match l, hr with
      | [], _ => exact .inl rfl
      | .mk k2 i2 s2 m2 :: l, hr =>
        have hlt : b' < w.heap.size := by
          have h0 := hr
          rw [InAt, inD_mk] at h0
          exact World.block_lt_of_cell? _ _ h0.1.2.2.2.1
        exact .inr ⟨b', o', ha, hlt, InAt.rep _ hr⟩
theorem InAt.rep {w : World} {S : Nat → Prop} : ∀ (l : List PT) {b o : Nat}, InAt w S l b o → Dat.RepAt w w.heap.size l b o
  | [], _, _, _ => by rw [Dat.RepAt]; trivial
  | t :: l, b, o, h => by
    rw [InAt] at h
    rw [Dat.RepAt]
    exact ⟨InD.rep t h.1, InAt.rep l h.2⟩
end
theorem InS.rep {w : World} {S : Nat → Prop} {l : List PT} {v : Value} (h : InS w S l v) : RepS w w.heap.size l v := by
  obtain ⟨a, c, e, hl, hm, hn, hr⟩ := h
  refine ⟨a, c, e, hl, hm, hn, ?_⟩
  rcases hr with hr | ⟨b', o', ha, hs, hr⟩
  · exact .inl hr
  · match l, hr with
    | [], _ => exact .inl rfl
    | .mk k2 i2 s2 m2 :: l, hr =>
      have hlt : b' < w.heap.size := by
        have h0 := hr
        rw [InAt, inD_mk] at h0
        exact World.block_lt_of_cell? _ _ h0.1.2.2.2.1
      exact .inr ⟨b', o', ha, hlt, InAt.rep _ hr⟩
mutual
theorem ins_d {w : World} {B : Nat} : ∀ (t : PT) {b o : Nat}, Dat.RepD w B t b o → InD w (· < B) t b o
  | .mk k i s l, b, o, h => by
    rw [inD_mk]
    rw [Dat.repD_mk] at h
    obtain ⟨h1, h2, h3, c0, c1, c2, v, c3, a, c, e, hl, hm, hn, hr⟩ := h
    refine ⟨h1, h2, h3, c0, c1, c2, v, c3, a, c, e, hl, hm, hn, hr.imp id ?_⟩
    rintro ⟨b', o', ha, hs, hr⟩
    exact ⟨b', o', ha, hs, ins_at l hr⟩
theorem ins_at {w : World} {B : Nat} : ∀ (l : List PT) {b o : Nat}, Dat.RepAt w B l b o → InAt w (· < B) l b o
  | [], _, _, _ => by rw [InAt]; trivial
  | t :: l, b, o, h => by
    rw [Dat.RepAt] at h
    rw [InAt]
    exact ⟨ins_d t h.1, ins_at l h.2⟩
end
theorem ins_of {w : World} {B : Nat} {l : List PT} {v : Value} (h : RepS w B l v) : InS w (· < B) l v := by
  obtain ⟨a, c, e, hl, hm, hn, hr⟩ := h
  refine ⟨a, c, e, hl, hm, hn, hr.imp id ?_⟩
  rintro ⟨b', o', ha, hs, hr⟩
  exact ⟨b', o', ha, hs, ins_at l hr⟩
theorem size_new (w : World) (o : Obj) : (w.alloc o).heap.size = w.heap.size + 1 := by simp only [World.alloc, Array.size_push]
theorem size_put (w : World) (a : Addr) (v : Value) : (w.setCell a v).heap.size = w.heap.size := by simp [World.setCell]
theorem ins_below {w w' : World} {S : Nat → Prop} {l : List PT} {v : Value} (h : InS w S l v) (hb : Below w.heap.size w w') : InS w' S l v :=
  h.move (fun b hb _ => hb) (fun b o u _ hc => by
    rw [World.cell?_of_block (w := w) (a := ⟨b, o, none⟩) (hb.block b (World.block_lt_of_cell? _ _ hc))]; exact hc)

def RowOwnS (w : World) (base : Nat) (S : Nat → Prop) (l : List PT) (v : Value) : Prop := ∃ xs, w.ownsRow base 25 4 v l.length xs ∧ RowX (InS w S) l xs
/-- A row whose data's own rows lie in blocks of S, wherever it lies itself. -/
def SrcP (w : World) (S : Nat → Prop) (m : List PT) (u : Value) : Prop :=
  ∃ a c, u = .slice a m.length c ∧ m.length ≤ c ∧ c ≤ maxLen ∧ (a = none → c = 0) ∧ (m = [] ∨ ∃ b' o', a = some ⟨b', o', none⟩ ∧ InAt w S m b' o')
theorem InS.src {w : World} {S : Nat → Prop} {m : List PT} {u : Value} (h : InS w S m u) : SrcP w S m u := by
  obtain ⟨a, c, e, hl, hm, hn, hr⟩ := h
  refine ⟨a, c, e, hl, hm, hn, hr.imp id ?_⟩
  rintro ⟨b', o', ha, _, hr⟩
  exact ⟨b', o', ha, hr⟩
theorem rowS_of_at {w : World} {S : Nat → Prop} : ∀ {l : List PT} {b o : Nat}, InAt w S l b o → ∃ xs, RowX (InS w S) l xs ∧ ∀ j u, xs[j]? = some u → w.cell? ⟨b, o + j, none⟩ = some u
  | [], b, o, _ => ⟨[], by rw [RowX], fun j u h => by simp at h⟩
  | .mk k i s m :: l, b, o, h => by
    rw [InAt, inD_mk] at h
    obtain ⟨⟨k1, k2, k3, c0, c1, c2, v, c3, hv⟩, h2⟩ := h
    obtain ⟨ys, hy, hc⟩ := rowS_of_at h2
    refine ⟨.int .i64 k :: .int .i64 i :: .string s :: v :: ys, ?_, ?_⟩
    · rw [RowX]
      exact ⟨v, ys, rfl, k1, k2, k3, hv, hy⟩
    · intro j u hj
      match j with
      | 0 => simp at hj; subst hj; exact c0
      | 1 => simp at hj; subst hj; exact c1
      | 2 => simp at hj; subst hj; exact c2
      | 3 => simp at hj; subst hj; exact c3
      | j + 4 =>
        simp at hj
        have := hc j u hj
        rwa [show o + 4 + j = o + (j + 4) by omega] at this
theorem rowS_one {w : World} {S : Nat → Prop} {l : List PT} {xs : List Value} (h : RowX (InS w S) l xs) : ∀ u ∈ xs, u.oneCell' = true := RowX.one (fun _ _ ⟨_, _, e, _⟩ => by subst e; rfl) h
theorem at_of_rowS {w : World} {S : Nat → Prop} : ∀ {l : List PT} {xs : List Value} {b o : Nat}, RowX (InS w S) l xs → (∀ j u, xs[j]? = some u → w.cell? ⟨b, o + j, none⟩ = some u) → InAt w S l b o
  | [], xs, b, o, _, _ => by rw [InAt]; trivial
  | .mk k i s m :: l, xs, b, o, h, hc => by
    rw [RowX] at h
    obtain ⟨v, ys, rfl, h1, h2, h3, h4, h⟩ := h
    rw [InAt]
    refine ⟨inD_mk.2 ⟨h1, h2, h3, hc 0 _ rfl, hc 1 _ rfl, hc 2 _ rfl, v, hc 3 _ rfl, h4⟩, at_of_rowS h fun j u hj => ?_⟩
    have := hc (j + 4) u (by simpa using hj)
    rwa [show o + (j + 4) = o + 4 + j by omega] at this
/-- All of it: the row's own block, and those of S. -/
theorem RowOwnS.ins {w : World} {base : Nat} {S : Nat → Prop} {l : List PT} {v : Value} (h : RowOwnS w base S l v) : InS w (fun b => S b ∨ base ≤ b) l v := by
  obtain ⟨xs, ho, hx⟩ := h
  have hx' : RowX (InS w fun b => S b ∨ base ≤ b) l xs := RowX.imp (fun m u hm => hm.move (fun b hb _ => .inl hb) (fun _ _ _ _ h => h)) hx
  rcases ho.2 with ⟨rfl, h0⟩ | ⟨g, cap, cur, rfl, hb, hg, hn, hcm, hcs, ht⟩
  · obtain rfl := List.eq_nil_of_length_eq_zero h0
    exact ⟨none, 0, rfl, Nat.le_refl _, Nat.zero_le _, fun _ => rfl, .inl rfl⟩
  · refine ⟨some ⟨g, 0, none⟩, cap, rfl, hn, hcm, (fun h => by cases h), .inr ⟨g, 0, rfl, .inr hb, at_of_rowS hx' fun j u hj => ?_⟩⟩
    have := ho.cells (g := g) rfl j u hj
    simpa [add_plain] using this
theorem rowS_nil {w : World} {g base : Nat} {S : Nat → Prop} (h : w.heap[g]? = some (.cells #[] 25 (0, 0))) (hb : base ≤ g) : RowOwnS w base S [] (.slice (some ⟨g, 0, none⟩) 0 0) :=
  ⟨[], ⟨rfl, .inr ⟨g, 0, #[], rfl, hb, h, Nat.le_refl _, Nat.zero_le _, rfl, rfl⟩⟩, by rw [RowX]⟩
/-- append of a row of data to one of the call's own. -/
theorem wp_append_rowS {o : Oper} {a : Act} {w : World} {K : Act → World → Prop} {Q : Exit → Act → World → Prop} (s x : Operand)
    (ho : o.op = .call { callee := .builtin .append, args := #[s, x], argTypes := #[23, 23] }) (base : Nat) (S : Nat → Prop) (hS : ∀ b, S b → b < base) (l m : List PT) (v u : Value) (hs : a.eval s = v) (hx : a.eval x = u)
    (hown : RowOwnS w base S l v) (hsrc : SrcP w S m u) (hlen : l.length + m.length ≤ 1000000) (hbase : base ≤ w.heap.size)
    (h : ∀ v' w', RowOwnS w' base S (l ++ m) v' → Below base w w' → (∀ k, k < w.heap.size → some k ≠ v.ownBlock → w'.heap[k]? = w.heap[k]?) → K (a.put o.dst v') w') : o.wp Try.prog a w K Q := by
  obtain ⟨i0, hi, hz0, hz1, hz2⟩ := info_parts infoDatum
  obtain ⟨xs, hxs, hrx⟩ := hown
  obtain ⟨ad, c, rfl, hlc, hcm, hna, hr⟩ := hsrc
  have hlow : ∀ k, v.ownBlock = some k → base ≤ k := fun k hk => (hxs.lt k hk).1
  have mv : ∀ w' : World, (∀ k, k < w.heap.size → some k ≠ v.ownBlock → w'.heap[k]? = w.heap[k]?) → ∀ q z, InS w S q z → InS w' S q z := fun w' hk q z hq => hq.move (fun b hb _ => hb) (fun b o' y hb hc => by
    rw [World.cell?_of_block (w := w) (a := ⟨b, o', none⟩) (hk b (World.block_lt_of_cell? _ _ hc) (fun e => by have := hlow _ e.symm; have := hS b hb; omega))]; exact hc)
  rcases hr with rfl | ⟨b', o', rfl, hr⟩
  · match ad with
    | none =>
      obtain rfl := hna rfl
      refine Lib.wp_append_run w s x 23 23 ho v _ hs hx _ _ (run_append_owned_none (P := Try.prog) (w := w) base 23 o.type 25 i0 4 Try.underlying23 hi v l.length xs hxs) ?_
      exact h v w ⟨xs, by simpa using hxs, by simpa using hrx⟩ (Below.refl _ _) (fun _ _ _ => rfl)
    | some ad =>
      refine wp_append_own w s x 23 ho base 25 i0 _ 4 56 Try.underlying23 hi hz0 hz1 hz2 rfl (by decide) v l.length xs hs hxs ad 0 c [] hx rfl (fun j u h => by simp at h) (fun u h => by cases h) (by unfold maxLen; simp at hlen; omega) (by simp at hlen; omega) hbase ?_
      intro v' w' h1 h2 _
      refine h v' w' ⟨xs ++ [], by simpa using h1, ?_⟩ ((Below.refl base w).grown h2 hbase hlow) h2.block
      rw [List.append_nil, List.append_nil]
      exact RowX.imp (mv w' h2.block) hrx
  · obtain ⟨ys, hy, hc⟩ := rowS_of_at hr
    refine wp_append_own w s x 23 ho base 25 i0 _ 4 56 Try.underlying23 hi hz0 hz1 hz2 rfl (by decide) v l.length xs hs hxs ⟨b', o', none⟩ m.length c ys hx hy.len (fun j u hj => by rw [add_plain]; exact hc j u hj) (rowS_one hy) (by unfold maxLen; omega) (by omega) hbase ?_
    intro v' w' h1 h2 _
    refine h v' w' ⟨xs ++ ys, by rw [List.length_append]; exact h1, ?_⟩ ((Below.refl base w).grown h2 hbase hlow) h2.block
    exact RowX.append (RowX.imp (mv w' h2.block) hy) (RowX.imp (mv w' h2.block) hrx)
theorem step_append_rowS {ops : Array Oper} {o : Oper} {a : Act} {w : World} {K : Act → World → Prop} {Q : Exit → Act → World → Prop} {E : Prop} (hgd : o.guard = none) (s x : Operand)
    (ho : o.op = .call { callee := .builtin .append, args := #[s, x], argTypes := #[23, 23] }) (base : Nat) (S : Nat → Prop) (hS : ∀ b, S b → b < base) (l m : List PT) (v u : Value) (hs : a.eval s = v) (hx : a.eval x = u)
    (hown : RowOwnS w base S l v) (hsrc : SrcP w S m u) (hlen : l.length + m.length ≤ 1000000) (hbase : base ≤ w.heap.size)
    (h : ∀ v' w', RowOwnS w' base S (l ++ m) v' → Below base w w' → (∀ k, k < w.heap.size → some k ≠ v.ownBlock → w'.heap[k]? = w.heap[k]?) → K (a.put o.dst v') w') : if Region.wanted o (yielded ops a.tmps) = true then Oper.wp Try.prog o a w K Q else E := by
  have hw : Region.wanted o (yielded ops a.tmps) = true := by simp [Region.wanted, hgd]
  rw [if_pos hw]
  exact wp_append_rowS s x ho base S hS l m v u hs hx hown hsrc hlen hbase h
theorem RowOwnS.setCell {w : World} {base : Nat} {S : Nat → Prop} {l : List PT} {v : Value} (h : RowOwnS w base S l v) {a : Addr} (h1 : a.block < base) (h2 : ¬ S a.block) (u : Value) : RowOwnS (w.setCell a u) base S l v := by
  obtain ⟨xs, ho, hx⟩ := h
  exact ⟨xs, ownsRow_setCell_below ho h1 u, RowX.imp (fun m x hm => hm.move (fun b hb _ => hb) (fun b o y hb hc => by
    rw [World.cell?_of_block (w := w) (a := ⟨b, o, none⟩) (Below.heap_setCell _ _ _ _ (by show b ≠ _; rintro rfl; exact h2 hb))]; exact hc)) hx⟩
theorem InS.drewn {w : World} {S : Nat → Prop} {m : List PT} {x : Value} (h : InS w S m x) : InS w.drew S m x := InS.move (w := w) (w' := w.drew) (fun _ hb _ => hb) (fun _ _ _ _ hc => hc) h
theorem RowOwnS.drewn {w : World} {base : Nat} {S : Nat → Prop} {l : List PT} {v : Value} (h : RowOwnS w base S l v) : RowOwnS w.drew base S l v := by
  obtain ⟨xs, ho, hx⟩ := h
  exact ⟨xs, ho, RowX.imp (fun m x hm => hm.drewn) hx⟩
theorem wpList_append_rowS {ops : Array Oper} {rest : List Oper} {o : Oper} {a : Act} {w : World} {Q : Exit → Act → World → Prop} (hgd : o.guard = none) (s x : Operand)
    (ho : o.op = .call { callee := .builtin .append, args := #[s, x], argTypes := #[23, 23] }) (base : Nat) (S : Nat → Prop) (hS : ∀ b, S b → b < base) (l m : List PT) (v u : Value) (hs : a.eval s = v) (hx : a.eval x = u)
    (hown : RowOwnS w base S l v) (hsrc : SrcP w S m u) (hlen : l.length + m.length ≤ 1000000) (hbase : base ≤ w.heap.size)
    (h : ∀ v' w', RowOwnS w' base S (l ++ m) v' → Below base w w' → (∀ k, k < w.heap.size → some k ≠ v.ownBlock → w'.heap[k]? = w.heap[k]?) → wpList Try.prog ops Q rest (a.put o.dst v') w') : wpList Try.prog ops Q (o :: rest) a w :=
  wpList_plain hgd fun _ hK => wp_append_rowS s x ho base S hS l m v u hs hx hown hsrc hlen hbase fun v' w' h1 h2 h3 => hK _ _ (h v' w' h1 h2 h3)
theorem rowS_rep {w : World} {base : Nat} {S : Nat → Prop} {l : List PT} {v : Value} (h : RowOwnS w base S l v) : ∃ a c, v = .slice a l.length c := by
  obtain ⟨a, c, e, _⟩ := h.ins
  exact ⟨a, c, e⟩
theorem src_oneP {W : World} {x : Nat} {S : Nat → Prop} {k i : Int} {s : ByteArray} {m : List PT} {v : Value} (h : W.heap[x]? = some (.cells #[.int .i64 k, .int .i64 i, .string s, v] 25 (0, 0))) (h1 : Dat.ok64 k) (h2 : Dat.ok64 i) (h3 : s.size ≤ maxLen) (hv : InS W S m v) : SrcP W S [.mk k i s m] (.slice (some ⟨x, 0, none⟩) 1 1) := by
  refine ⟨_, 1, rfl, Nat.le_refl _, by decide, (fun h => by cases h), .inr ⟨x, 0, rfl, ?_⟩⟩
  rw [InAt, InAt, inD_mk]
  refine ⟨⟨h1, h2, h3, ?_, ?_, ?_, _, ?_, hv⟩, trivial⟩
  all_goals (rw [Lib.cell_of_heap h]; rfl)
theorem rowS_shape {W : World} {base : Nat} {S : Nat → Prop} {l : List PT} {v : Value} (h : RowOwnS W base S l v) (h0 : l ≠ []) : ∃ g cap, v = .slice (some ⟨g, 0, none⟩) l.length cap := by
  obtain ⟨xs, ho, _⟩ := h
  rcases ho.2 with ⟨_, h1⟩ | ⟨g, cap, cur, rfl, _⟩
  · exact absurd (List.length_eq_zero_iff.1 h1) h0
  · exact ⟨g, cap, rfl⟩
theorem rowS_alloc {W : World} {base : Nat} {S : Nat → Prop} {l : List PT} {v : Value} (h : RowOwnS W base S l v) (o : Obj) : RowOwnS (W.alloc o) base S l v := by
  obtain ⟨xs, ho, hx⟩ := h
  exact ⟨xs, ho.alloc o, Dat.RowX.imp (fun m u hm => hm.move (fun b hb _ => hb) (fun b o' y hb hc => by
    rw [World.cell?_of_block (w := W) (a := ⟨b, o', none⟩) (Lib.alloc_old W o b (World.block_lt_of_cell? _ _ hc))]; exact hc)) hx⟩
theorem bel_alloc' {w W : World} (h : Below w.heap.size w W) (o : Obj) : Below w.heap.size w (W.alloc o) := h.alloc h.size o
theorem blk_skip' {w : World} {o : Obj} {b : Nat} {x : Obj} (h : w.heap[b]? = some x) : (w.alloc o).heap[b]? = some x := (Below.heap_alloc w o b (lt_of_block h)).trans h
/-- But for a slice's own block all is as it was. -/
def KeptBut (v : Value) (w w' : World) : Prop := ∀ b, b < w.heap.size → v.ownBlock ≠ some b → w'.heap[b]? = w.heap[b]?
end Go.Proofs.Ytkjgdnfkpebejaa
