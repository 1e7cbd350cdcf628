/-
The document's Data (layer 6), of expressions of four kinds: what the fixed calls hand it. No condition.
-/
import Derived.Test.YtjofdlnopchaeaaGreatDoorK27
import Derived.Test.YtjofdlnopchaeaaGreatDoorWKG
import Derived.Laws.OwnMore
import Derived.Deep.DeepCutAuto
import Derived.Test.YtjofdlnopchaeaaGreatDoorK48
namespace Go.Proofs.YtjofdlnopchaeaaGreatDoor.Core
open Go.ChangeShapes Go.WideShapes Go.ChangeAt Go.RowKit Go.Deep
open Dat (PT ok64 RepV RepS RowX infoDatum NewV NewS NewD)
set_option maxRecDepth 100000

theorem rsym_any (s : ByteArray) (w : World) :
    Calls Tryz.prog 36 #[.string s] w fun e w' => e = .returned (.agg #[.int .i64 4, .int .i64 0, .string s, .slice none 0 0]) ∧ Below w.heap.size w w' := by
  go_enter Tryz.func36, Tryz.ntmps36
  go_wp2
  exact bodyPost_ret (results_cell_row (P := Tryz.prog) rfl _ _ w.heap.size 25 _ (0, 0) _ rfl (heap_alloc_new w _) Tryz.underlying25 rfl (by kernel_rfl)) rfl ⟨rfl, (Below.refl _ _).alloc (Nat.le_refl _) _⟩
theorem rlist_any (a : Option Addr) (n c : Nat) (w : World) :
    Calls Tryz.prog 38 #[.slice a n c] w fun e w' => e = .returned (.agg #[.int .i64 5, .int .i64 0, .string ⟨#[]⟩, .slice a n c]) ∧ Below w.heap.size w w' := by
  go_enter Tryz.func38, Tryz.ntmps38
  go_wp2
  exact bodyPost_ret (results_cell_row (P := Tryz.prog) rfl _ _ w.heap.size 25 _ (0, 0) _ rfl (heap_alloc_new w _) Tryz.underlying25 rfl (by kernel_rfl)) rfl ⟨rfl, (Below.refl _ _).alloc (Nat.le_refl _) _⟩
theorem OutD.lit {w : World} {C : Nat} {P : Nat → Prop} {k i : Int} {s : ByteArray} {m : List PT} {x : Value} {g : Nat} (hb : w.heap[g]? = some (.cells #[.int .i64 k, .int .i64 i, .string s, x] 25 (0, 0))) (hg : C ≤ g) (h1 : ok64 k) (h2 : ok64 i) (h3 : s.size ≤ maxLen) (hm : InS w (fun b => P b ∧ b ≠ g) m x) : OutD w C P [.mk k i s m] (.slice (some ⟨g, 0, none⟩) 1 1) :=
  ⟨[.int .i64 k, .int .i64 i, .string s, x], ⟨rfl, .inr ⟨g, 1, #[.int .i64 k, .int .i64 i, .string s, x], rfl, hg, hb, Nat.le_refl _, by decide, rfl, rfl⟩⟩, rowX1 h1 h2 h3 (insTo hm fun b h _ => ⟨h.1, fun e => h.2 (by cases e; rfl)⟩)⟩
theorem OutD.lit0 {w : World} {C : Nat} {P : Nat → Prop} {g : Nat} (hb : w.heap[g]? = some (.cells #[] 25 (0, 0))) (hg : C ≤ g) : OutD w C P [] (.slice (some ⟨g, 0, none⟩) 0 0) :=
  ⟨[], ⟨rfl, .inr ⟨g, 0, #[], rfl, hg, hb, Nat.le_refl _, by decide, rfl, rfl⟩⟩, by rw [RowX]⟩
theorem OutD.kept {w w' : World} {C : Nat} {P : Nat → Prop} {l : List PT} {v : Value} (h : OutD w C P l v) (hb : ∀ b, v.ownBlock = some b → w'.heap[b]? = w.heap[b]?) (hP : ∀ b, P b → b < w.heap.size → w'.heap[b]? = w.heap[b]?) : OutD w' C P l v := by
  obtain ⟨xs, ho, hx⟩ := h
  refine ⟨xs, ⟨ho.1, ho.2.imp id ?_⟩, RowX.imp (fun m u hm => hm.move (fun _ h _ => h) fun b o y hs hc => ?_) hx⟩
  · rintro ⟨g, cap, cur, rfl, h1, h2, h3⟩
    exact ⟨g, cap, cur, rfl, h1, (hb g rfl).trans h2, h3⟩
  · rw [World.cell?_of_block (w := w) (a := ⟨b, o, none⟩) (hP b hs.1 (World.block_lt_of_cell? _ _ hc))]; exact hc
theorem OutD.to {w : World} {C : Nat} {P P' : Nat → Prop} {l : List PT} {v : Value} (h : OutD w C P l v) (hP : ∀ b, P b → b < w.heap.size → P' b) : OutD w C P' l v := by
  obtain ⟨xs, ho, hx⟩ := h
  exact ⟨xs, ho, RowX.imp (fun m u hm => insTo hm fun b hb hlt => ⟨hP b hb.1 hlt, hb.2⟩) hx⟩
theorem wpList_append_outDs {ops : Array Oper} {rest : List Oper} {o : Oper} {a : Act} {w : World} {Q : Exit → Act → World → Prop} (hgd : o.guard = none) (sl x : Operand)
    (ho : o.op = .call { callee := .builtin .append, args := #[sl, x], argTypes := #[23, 23] }) (C : Nat) (P : Nat → Prop) (l : List PT) (v : Value) (hs : a.eval sl = v) (h : OutD w C P l v) (ms : List PT) (vm : Value) (hm : InS w (fun b => P b ∧ some b ≠ v.ownBlock) ms vm) (hx : a.eval x = vm) (hlen : l.length + ms.length ≤ 100000) (hC : C ≤ w.heap.size)
    (kk : ∀ v' w', OutD w' C P (l ++ ms) v' → KP w v.ownBlock w' → (v'.ownBlock = v.ownBlock ∨ ∀ b, v'.ownBlock = some b → w.heap.size ≤ b) → wpList Tryz.prog ops Q rest (a.put o.dst v') w') : wpList Tryz.prog ops Q (o :: rest) a w := by
  obtain ⟨i0, hi, hz0, hz1, hz2⟩ := info_parts infoDatum
  obtain ⟨xs, hxs, hrx⟩ := id h
  obtain ⟨am, cm, rfl, hln, hmn, _, hr⟩ := hm
  by_cases h0 : ms = []
  · subst h0
    refine wpList_plain hgd fun K hK => ?_
    have hrun := run_append_owned_empty (P := Tryz.prog) (w := w) C 23 o.type 25 i0 4 Tryz.underlying23 hi v l.length _ hxs am cm
    unfold Oper.wp
    simp only [List.length_nil] at hx
    simp [execOp, ho, resolve, invoke, builtin, hs, hx, hrun, Result.andThen]
    exact hK _ _ (kk v w (by rw [List.append_nil]; exact h) (KP.refl _ _) (.inl rfl))
  · obtain ⟨b, o1, rfl, hS, hc⟩ := hr.resolve_left h0
    have hp := List.length_pos_iff.2 h0
    obtain ⟨ys, hys, hcy⟩ := rowS_of_at hc
    refine wpList_append_lies w hgd sl x 23 ho C 25 i0 _ 4 56 Tryz.underlying23 hi hz0 hz1 hz2 rfl (by decide) v l.length xs hs hxs ⟨b, o1, none⟩ ms.length cm ys hx (RowX.len hys) (fun j u hu => by have := hcy j u hu; simpa [add_plain] using this) (rowS_one hys) hp (by unfold maxLen; omega) (by omega) hC w.heap.size rfl ?_
    intro g cap w' hown hgrow hat hlt
    have mv : ∀ z u, InS w (fun b => P b ∧ some b ≠ v.ownBlock) z u → InS w' (fun b => P b ∧ some b ≠ some g) z u := fun z u hz => hz.move (fun b hb hlt => ⟨hb.1, by
        rcases hat with e | e
        · rw [← e]; exact hb.2
        · rw [e]; simp; omega⟩) (fun b o' y hb hc => by
      rw [World.cell?_of_block (w := w) (a := ⟨b, o', none⟩) (hgrow.block b (World.block_lt_of_cell? _ _ hc) hb.2)]; exact hc)
    exact kk _ w' ⟨_, by rw [List.length_append]; exact hown, RowX.append (RowX.imp mv hys) (RowX.imp mv hrx)⟩ ⟨⟨hgrow.os, hgrow.tape, hgrow.output, hgrow.size, fun b hb => (Nat.not_lt_zero _ hb).elim⟩, fun b h1 h2 => hgrow.block b h1 h2⟩ (by rcases hat with e | e; exact .inl e.symm; exact .inr (fun b e2 => by cases e2; exact Nat.le_of_eq e.symm))
theorem inAt_drop {w : World} {S : Nat → Prop} : ∀ {l : List PT} {b o : Nat}, InAt w S l b o → ∀ q : Nat, InAt w S (l.drop q) b (o + q * 4)
  | l, b, o, h, 0 => by simpa using h
  | [], b, o, h, q + 1 => by simp [InAt]
  | t :: l, b, o, h, q + 1 => by
    rw [InAt] at h
    have := inAt_drop h.2 q
    rw [List.drop_succ_cons]
    rwa [show o + (q + 1) * 4 = o + 4 + q * 4 by omega]
theorem insItem {w : World} {S : Nat → Prop} {l : List PT} {b o n c : Nat} (h : InS w S l (.slice (some ⟨b, o, none⟩) n c)) (j : Nat) (hj : j < l.length) : InD w S l[j] b (o + j * 4) := by
  obtain ⟨a', c', e, hl, hm, ha, hr⟩ := h
  cases e
  rcases hr with e0 | ⟨b', o', e, hs, hr⟩
  · rw [e0] at hj; cases hj
  · cases e
    have h2 := inAt_drop hr j
    rw [List.drop_eq_getElem_cons hj, InAt] at h2
    exact h2.1
theorem insLt {w : World} {S : Nat → Prop} {l : List PT} {b o n c : Nat} (h : InS w S l (.slice (some ⟨b, o, none⟩) n c)) (hj : 0 < l.length) : b < w.heap.size := by
  have h2 := insItem h 0 hj
  generalize l[0] = d at h2
  obtain ⟨dk, di, ds, dm⟩ := d
  rw [inD_mk] at h2
  exact World.block_lt_of_cell? _ _ h2.2.2.2.1
theorem bind_full : ∀ (ns : List ByteArray) (l : List PT), ns.length ≤ l.length → (bindT ns l).length = ns.length
  | [], l, _ => by cases l <;> simp [bindT]
  | s :: ns, [], h => by simp at h
  | s :: ns, d :: l, h => by simp only [bindT, List.length_cons]; rw [bind_full ns l (by simpa using h)]
theorem InS.dropQ {w : World} {S : Nat → Prop} {l : List PT} {b o n c q : Nat} (h : InS w S l (.slice (some ⟨b, o, none⟩) n c)) (hq : q < l.length) : InS w S (l.drop q) (.slice (some ⟨b, o + q * 4, none⟩) (l.length - q) (c - q)) := by
  obtain ⟨a', c', e, hl, hm, ha, hr⟩ := h
  cases e
  refine ⟨some ⟨b, o + q * 4, none⟩, c - q, by rw [List.length_drop], by rw [List.length_drop]; omega, by omega, (fun e => by cases e), ?_⟩
  rcases hr with e0 | ⟨b', o', e, hs, hr⟩
  · rw [e0] at hq; cases hq
  · cases e
    exact .inr ⟨b, o + q * 4, rfl, hs, inAt_drop hr q⟩
theorem OutD.one {w : World} {C : Nat} {P : Nat → Prop} {l : List PT} {v : Value} (h : OutD w C P l v) (h0 : l ≠ []) : ∃ g c, v = .slice (some ⟨g, 0, none⟩) l.length c ∧ l.length ≤ c ∧ c ≤ maxLen := by
  obtain ⟨xs, ho, _⟩ := h
  rcases ho.2 with ⟨_, e⟩ | ⟨g, cap, cur, rfl, _, _, h3, h4, _⟩
  · exact absurd (List.eq_nil_of_length_eq_zero e) h0
  · exact ⟨g, cap, rfl, h3, h4⟩
/-- A row that is read, where a row of one's own may grow. -/
theorem ins_kp {W W' : World} {ob : Option Nat} {L : Nat} {l : List PT} {v : Value} (h : InS W (fun b => L < b) l v) (hk : KP W ob W') (ho : ob = some L ∨ ∀ b, ob = some b → W.heap.size ≤ b) : InS W' (fun b => L < b ∧ b < W.heap.size) l v :=
  h.move (fun b hb hlt => ⟨hb, hlt⟩) fun b o y hb hc => by
    rw [World.cell?_of_block (w := W) (a := ⟨b, o, none⟩) (hk.2 b (World.block_lt_of_cell? _ _ hc) (fun e => by
      rcases ho with e2 | e2
      · rw [e2] at e; cases e; omega
      · have := e2 b e.symm; have := World.block_lt_of_cell? _ _ hc; dsimp only at this; omega))]; exact hc
end Go.Proofs.YtjofdlnopchaeaaGreatDoor.Core
