/-
A row of data that a call has made itself, whose data's own rows lie in blocks that a predicate tells; append to it. No condition.
-/
import Derived.Test.YthfjlcflpneffaaGreatDoorF1
namespace Go.Proofs.YthfjlcflpneffaaGreatDoor
open Go.ChangeShapes Go.WideShapes Go.ChangeAt Go.RowKit
open Dat (PT makeT RepS RepV RowX infoDatum)
set_option maxRecDepth 100000

def RowOwnS (w : World) (base : Nat) (S : Nat → Prop) (l : List PT) (v : Value) : Prop := ∃ xs, w.ownsRow base 34 4 v l.length xs ∧ RowX (InS w S) l xs
/-- A row whose data's own rows lie in blocks of S, wherever it lies itself. -/
def SrcP (w : World) (S : Nat → Prop) (m : List PT) (u : Value) : Prop :=
  ∃ a c, u = .slice a m.length c ∧ m.length ≤ c ∧ c ≤ maxLen ∧ (a = none → c = 0) ∧ (m = [] ∨ ∃ b' o', a = some ⟨b', o', none⟩ ∧ InAt w S m b' o')
theorem InS.src {w : World} {S : Nat → Prop} {m : List PT} {u : Value} (h : InS w S m u) : SrcP w S m u := by
  obtain ⟨a, c, e, hl, hm, hn, hr⟩ := h
  refine ⟨a, c, e, hl, hm, hn, hr.imp id ?_⟩
  rintro ⟨b', o', ha, _, hr⟩
  exact ⟨b', o', ha, hr⟩
theorem rowS_of_at {w : World} {S : Nat → Prop} : ∀ {l : List PT} {b o : Nat}, InAt w S l b o → ∃ xs, RowX (InS w S) l xs ∧ ∀ j u, xs[j]? = some u → w.cell? ⟨b, o + j, none⟩ = some u
  | [], b, o, _ => ⟨[], by rw [RowX], fun j u h => by simp at h⟩
  | .mk k i s m :: l, b, o, h => by
    rw [InAt, inD_mk] at h
    obtain ⟨⟨k1, k2, k3, c0, c1, c2, v, c3, hv⟩, h2⟩ := h
    obtain ⟨ys, hy, hc⟩ := rowS_of_at h2
    refine ⟨.int .i64 k :: .int .i64 i :: .string s :: v :: ys, ?_, ?_⟩
    · rw [RowX]
      exact ⟨v, ys, rfl, k1, k2, k3, hv, hy⟩
    · intro j u hj
      match j with
      | 0 => simp at hj; subst hj; exact c0
      | 1 => simp at hj; subst hj; exact c1
      | 2 => simp at hj; subst hj; exact c2
      | 3 => simp at hj; subst hj; exact c3
      | j + 4 =>
        simp at hj
        have := hc j u hj
        rwa [show o + 4 + j = o + (j + 4) by omega] at this
theorem rowS_one {w : World} {S : Nat → Prop} {l : List PT} {xs : List Value} (h : RowX (InS w S) l xs) : ∀ u ∈ xs, u.oneCell' = true := RowX.one (fun _ _ ⟨_, _, e, _⟩ => by subst e; rfl) h
theorem at_of_rowS {w : World} {S : Nat → Prop} : ∀ {l : List PT} {xs : List Value} {b o : Nat}, RowX (InS w S) l xs → (∀ j u, xs[j]? = some u → w.cell? ⟨b, o + j, none⟩ = some u) → InAt w S l b o
  | [], xs, b, o, _, _ => by rw [InAt]; trivial
  | .mk k i s m :: l, xs, b, o, h, hc => by
    rw [RowX] at h
    obtain ⟨v, ys, rfl, h1, h2, h3, h4, h⟩ := h
    rw [InAt]
    refine ⟨inD_mk.2 ⟨h1, h2, h3, hc 0 _ rfl, hc 1 _ rfl, hc 2 _ rfl, v, hc 3 _ rfl, h4⟩, at_of_rowS h fun j u hj => ?_⟩
    have := hc (j + 4) u (by simpa using hj)
    rwa [show o + (j + 4) = o + 4 + j by omega] at this
/-- All of it: the row's own block, and those of S. -/
theorem RowOwnS.ins {w : World} {base : Nat} {S : Nat → Prop} {l : List PT} {v : Value} (h : RowOwnS w base S l v) : InS w (fun b => S b ∨ base ≤ b) l v := by
  obtain ⟨xs, ho, hx⟩ := h
  have hx' : RowX (InS w fun b => S b ∨ base ≤ b) l xs := RowX.imp (fun m u hm => hm.move (fun b hb _ => .inl hb) (fun _ _ _ _ h => h)) hx
  rcases ho.2 with ⟨rfl, h0⟩ | ⟨g, cap, cur, rfl, hb, hg, hn, hcm, hcs, ht⟩
  · obtain rfl := List.eq_nil_of_length_eq_zero h0
    exact ⟨none, 0, rfl, Nat.le_refl _, Nat.zero_le _, fun _ => rfl, .inl rfl⟩
  · refine ⟨some ⟨g, 0, none⟩, cap, rfl, hn, hcm, (fun h => by cases h), .inr ⟨g, 0, rfl, .inr hb, at_of_rowS hx' fun j u hj => ?_⟩⟩
    have := ho.cells (g := g) rfl j u hj
    simpa [add_plain] using this
theorem rowS_nil {w : World} {g base : Nat} {S : Nat → Prop} (h : w.heap[g]? = some (.cells #[] 34 (0, 0))) (hb : base ≤ g) : RowOwnS w base S [] (.slice (some ⟨g, 0, none⟩) 0 0) :=
  ⟨[], ⟨rfl, .inr ⟨g, 0, #[], rfl, hb, h, Nat.le_refl _, Nat.zero_le _, rfl, rfl⟩⟩, by rw [RowX]⟩
/-- append of a row of data to one of the call's own. -/
theorem wp_append_rowS {o : Oper} {a : Act} {w : World} {K : Act → World → Prop} {Q : Exit → Act → World → Prop} (s x : Operand)
    (ho : o.op = .call { callee := .builtin .append, args := #[s, x], argTypes := #[22, 22] }) (base : Nat) (S : Nat → Prop) (hS : ∀ b, S b → b < base) (l m : List PT) (v u : Value) (hs : a.eval s = v) (hx : a.eval x = u)
    (hown : RowOwnS w base S l v) (hsrc : SrcP w S m u) (hlen : l.length + m.length ≤ 1000000) (hbase : base ≤ w.heap.size)
    (h : ∀ v' w', RowOwnS w' base S (l ++ m) v' → Below base w w' → (∀ k, k < w.heap.size → some k ≠ v.ownBlock → w'.heap[k]? = w.heap[k]?) → K (a.put o.dst v') w') : o.wp Tryz.prog a w K Q := by
  obtain ⟨i0, hi, hz0, hz1, hz2⟩ := info_parts infoDatum
  obtain ⟨xs, hxs, hrx⟩ := hown
  obtain ⟨ad, c, rfl, hlc, hcm, hna, hr⟩ := hsrc
  have hlow : ∀ k, v.ownBlock = some k → base ≤ k := fun k hk => (hxs.lt k hk).1
  have mv : ∀ w' : World, (∀ k, k < w.heap.size → some k ≠ v.ownBlock → w'.heap[k]? = w.heap[k]?) → ∀ q z, InS w S q z → InS w' S q z := fun w' hk q z hq => hq.move (fun b hb _ => hb) (fun b o' y hb hc => by
    rw [World.cell?_of_block (w := w) (a := ⟨b, o', none⟩) (hk b (World.block_lt_of_cell? _ _ hc) (fun e => by have := hlow _ e.symm; have := hS b hb; omega))]; exact hc)
  rcases hr with rfl | ⟨b', o', rfl, hr⟩
  · match ad with
    | none =>
      obtain rfl := hna rfl
      refine Lib.wp_append_run w s x 22 22 ho v _ hs hx _ _ (run_append_owned_none (P := Tryz.prog) (w := w) base 22 o.type 34 i0 4 Tryz.underlying22 hi v l.length xs hxs) ?_
      exact h v w ⟨xs, by simpa using hxs, by simpa using hrx⟩ (Below.refl _ _) (fun _ _ _ => rfl)
    | some ad =>
      refine wp_append_own w s x 22 ho base 34 i0 _ 4 56 Tryz.underlying22 hi hz0 hz1 hz2 rfl (by decide) v l.length xs hs hxs ad 0 c [] hx rfl (fun j u h => by simp at h) (fun u h => by cases h) (by unfold maxLen; simp at hlen; omega) (by simp at hlen; omega) hbase ?_
      intro v' w' h1 h2 _
      refine h v' w' ⟨xs ++ [], by simpa using h1, ?_⟩ ((Below.refl base w).grown h2 hbase hlow) h2.block
      rw [List.append_nil, List.append_nil]
      exact RowX.imp (mv w' h2.block) hrx
  · obtain ⟨ys, hy, hc⟩ := rowS_of_at hr
    refine wp_append_own w s x 22 ho base 34 i0 _ 4 56 Tryz.underlying22 hi hz0 hz1 hz2 rfl (by decide) v l.length xs hs hxs ⟨b', o', none⟩ m.length c ys hx hy.len (fun j u hj => by rw [add_plain]; exact hc j u hj) (rowS_one hy) (by unfold maxLen; omega) (by omega) hbase ?_
    intro v' w' h1 h2 _
    refine h v' w' ⟨xs ++ ys, by rw [List.length_append]; exact h1, ?_⟩ ((Below.refl base w).grown h2 hbase hlow) h2.block
    exact RowX.append (RowX.imp (mv w' h2.block) hy) (RowX.imp (mv w' h2.block) hrx)
theorem step_append_rowS {ops : Array Oper} {o : Oper} {a : Act} {w : World} {K : Act → World → Prop} {Q : Exit → Act → World → Prop} {E : Prop} (hgd : o.guard = none) (s x : Operand)
    (ho : o.op = .call { callee := .builtin .append, args := #[s, x], argTypes := #[22, 22] }) (base : Nat) (S : Nat → Prop) (hS : ∀ b, S b → b < base) (l m : List PT) (v u : Value) (hs : a.eval s = v) (hx : a.eval x = u)
    (hown : RowOwnS w base S l v) (hsrc : SrcP w S m u) (hlen : l.length + m.length ≤ 1000000) (hbase : base ≤ w.heap.size)
    (h : ∀ v' w', RowOwnS w' base S (l ++ m) v' → Below base w w' → (∀ k, k < w.heap.size → some k ≠ v.ownBlock → w'.heap[k]? = w.heap[k]?) → K (a.put o.dst v') w') : if Region.wanted o (yielded ops a.tmps) = true then Oper.wp Tryz.prog o a w K Q else E := by
  have hw : Region.wanted o (yielded ops a.tmps) = true := by simp [Region.wanted, hgd]
  rw [if_pos hw]
  exact wp_append_rowS s x ho base S hS l m v u hs hx hown hsrc hlen hbase h
end Go.Proofs.YthfjlcflpneffaaGreatDoor
