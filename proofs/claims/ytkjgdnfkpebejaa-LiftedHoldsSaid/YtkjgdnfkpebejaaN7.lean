/-
Functions that stand by themselves, in memory: a row of them of the call's own, append to it, and a body put in its place. No condition.
-/
import Derived.Test.YtkjgdnfkpebejaaN4

namespace Go.Proofs.Ytkjgdnfkpebejaa.Core
open Go.ChangeShapes Go.WideShapes Go.ChangeAt Go.RowKit Go.Deep
open Dat (PT ok64 RowX)
set_option maxRecDepth 100000

theorem inN_nil' {W : World} {S : Nat → Prop} : InN W S [] (.slice none 0 0) := ⟨none, 0, rfl, Nat.le_refl _, Nat.zero_le _, fun _ => rfl, .inl rfl⟩
theorem infoFun : (Try.prog.info? 43).map (fun i => (i.zero, i.size, i.bytes)) = some (some (.agg #[.slice none 0 0, .slice none 0 0, .int .i64 0, .string ⟨#[]⟩, .slice none 0 0, .int .i64 0, .int .i64 0, .string ⟨#[]⟩, .slice none 0 0, .slice none 0 0]), 10, 176) := by kernel_rfl
/-- The cells of a row of functions. -/
def RowF (w : World) (S : Nat → Prop) : List FunT → List Value → Prop
  | [], xs => xs = []
  | ⟨ps, fr, .mk k nm ns (.mk ck ci cs cl) l0⟩ :: l, xs => ∃ vp vf vn vd vk ys, xs = vp :: vf :: .int .i64 k :: .string nm :: vn :: .int .i64 ck :: .int .i64 ci :: .string cs :: vd :: vk :: ys ∧ InN w S ps vp ∧ InN w S fr vf ∧ InF w S (.mk k nm ns (.mk ck ci cs cl) l0) vn vd vk ∧ RowF w S l ys
theorem RowF.append {w : World} {S : Nat → Prop} {m : List FunT} {ys : List Value} (hm : RowF w S m ys) : ∀ {l : List FunT} {xs : List Value}, RowF w S l xs → RowF w S (l ++ m) (xs ++ ys)
  | [], xs, h => by rw [RowF] at h; subst h; exact hm
  | ⟨ps, fr, .mk k nm ns (.mk ck ci cs cl) l0⟩ :: l, xs, h => by
    rw [RowF] at h
    obtain ⟨vp, vf, vn, vd, vk, zs, rfl, h1, h2, h3, h⟩ := h
    rw [List.cons_append, RowF]
    exact ⟨vp, vf, vn, vd, vk, zs ++ ys, rfl, h1, h2, h3, RowF.append hm h⟩
theorem RowF.move {w w' : World} {S S' : Nat → Prop} (hS : ∀ b, S b → b < w.heap.size → S' b) (hc : ∀ b o v, S b → w.cell? ⟨b, o, none⟩ = some v → w'.cell? ⟨b, o, none⟩ = some v) : ∀ {l : List FunT} {xs : List Value}, RowF w S l xs → RowF w' S' l xs
  | [], xs, h => by rw [RowF] at h ⊢; exact h
  | ⟨ps, fr, .mk k nm ns (.mk ck ci cs cl) l0⟩ :: l, xs, h => by
    rw [RowF] at h ⊢
    obtain ⟨vp, vf, vn, vd, vk, ys, e, h1, h2, h3, h⟩ := h
    exact ⟨vp, vf, vn, vd, vk, ys, e, h1.move hS hc, h2.move hS hc, h3.move hS hc, RowF.move hS hc h⟩
/-- A function's cells. -/
theorem RowF.get {w : World} {S : Nat → Prop} : ∀ {l : List FunT} {xs : List Value}, RowF w S l xs → ∀ {j : Nat} {ps fr : List ByteArray} {k : Int} {nm : ByteArray} {ns : List ByteArray} {ck ci : Int} {cs : ByteArray} {cl : List PT} {l0 : List PE}, l[j]? = some ⟨ps, fr, .mk k nm ns (.mk ck ci cs cl) l0⟩ →
    ∃ vp vf vn vd vk, InN w S ps vp ∧ InN w S fr vf ∧ InF w S (.mk k nm ns (.mk ck ci cs cl) l0) vn vd vk ∧ xs[j * 10]? = some vp ∧ xs[j * 10 + 1]? = some vf ∧ xs[j * 10 + 2]? = some (.int .i64 k) ∧ xs[j * 10 + 3]? = some (.string nm) ∧ xs[j * 10 + 4]? = some vn ∧ xs[j * 10 + 5]? = some (.int .i64 ck) ∧ xs[j * 10 + 6]? = some (.int .i64 ci) ∧ xs[j * 10 + 7]? = some (.string cs) ∧ xs[j * 10 + 8]? = some vd ∧ xs[j * 10 + 9]? = some vk
  | [], xs, h, j, _, _, _, _, _, _, _, _, _, _, e => by cases e
  | ⟨ps, fr, .mk k nm ns (.mk ck ci cs cl) l0⟩ :: l, xs, h, 0, _, _, _, _, _, _, _, _, _, _, e => by
    rw [RowF] at h
    obtain ⟨vp, vf, vn, vd, vk, ys, rfl, h1, h2, h3, h⟩ := h
    cases e
    exact ⟨vp, vf, vn, vd, vk, h1, h2, h3, rfl, rfl, rfl, rfl, rfl, rfl, rfl, rfl, rfl, rfl⟩
  | ⟨ps, fr, .mk k nm ns (.mk ck ci cs cl) l0⟩ :: l, xs, h, j + 1, _, _, _, _, _, _, _, _, _, _, e => by
    rw [RowF] at h
    obtain ⟨vp, vf, vn, vd, vk, ys, rfl, h1, h2, h3, h⟩ := h
    have hh := RowF.get h (j := j) e
    have e10 : (j + 1) * 10 = j * 10 + 10 := by omega
    rw [e10]
    exact hh
/-- Eight cells of a row are changed. -/
def set8 (xs : List Value) (o : Nat) (k : Int) (nm : ByteArray) (vn : Value) (ck ci : Int) (cs : ByteArray) (vd vk : Value) : List Value :=
  (((((((xs.set o (.int .i64 k)).set (o + 1) (.string nm)).set (o + 2) vn).set (o + 3) (.int .i64 ck)).set (o + 4) (.int .i64 ci)).set (o + 5) (.string cs)).set (o + 6) vd).set (o + 7) vk
/-- A body is put in its place. -/
theorem RowF.set {w : World} {S : Nat → Prop} {k : Int} {nm : ByteArray} {ns : List ByteArray} {ck ci : Int} {cs : ByteArray} {cl : List PT} {l0 : List PE} {vn vd vk : Value} (hb : InF w S (.mk k nm ns (.mk ck ci cs cl) l0) vn vd vk) : ∀ {l : List FunT} {xs : List Value}, RowF w S l xs → ∀ {j : Nat} {f : FunT}, l[j]? = some f →
    RowF w S (l.set j ⟨f.params, f.frees, .mk k nm ns (.mk ck ci cs cl) l0⟩) (set8 xs (j * 10 + 2) k nm vn ck ci cs vd vk)
  | [], xs, h, j, _, e => by cases e
  | ⟨ps, fr, .mk k' nm' ns' (.mk ck' ci' cs' cl') l'⟩ :: l, xs, h, 0, f, e => by
    rw [RowF] at h
    obtain ⟨vp, vf, vn', vd', vk', ys, rfl, h1, h2, h3, h⟩ := h
    cases e
    rw [List.set_cons_zero, RowF]
    exact ⟨vp, vf, vn, vd, vk, ys, rfl, h1, h2, hb, h⟩
  | ⟨ps, fr, .mk k' nm' ns' (.mk ck' ci' cs' cl') l'⟩ :: l, xs, h, j + 1, f, e => by
    rw [RowF] at h
    obtain ⟨vp, vf, vn', vd', vk', ys, rfl, h1, h2, h3, h⟩ := h
    have hh := RowF.set hb h (j := j) e
    rw [List.set_cons_succ, RowF]
    refine ⟨vp, vf, vn', vd', vk', _, ?_, h1, h2, h3, hh⟩
    have e10 : (j + 1) * 10 + 2 = j * 10 + 2 + 10 := by omega
    rw [e10]
    rfl
/-- A row of functions of the call's own, from block C on; their rows lie in blocks of P, and not in its own. -/
def OutF (w : World) (C : Nat) (P : Nat → Prop) (l : List FunT) (v : Value) : Prop :=
  ∃ xs, w.ownsRow C 43 10 v l.length xs ∧ RowF w (fun b => P b ∧ some b ≠ v.ownBlock) l xs
theorem OutF.nil (w : World) (C : Nat) (P : Nat → Prop) : OutF w C P [] (.slice none 0 0) := ⟨[], World.ownsRow_nil _ _ _ _, by rw [RowF]⟩
/-- .. where its own block and those of P are as they were. -/
theorem OutF.at {w w' : World} {C : Nat} {P P' : Nat → Prop} {l : List FunT} {v : Value} (h : OutF w C P l v) (hb : ∀ b, v.ownBlock = some b → w'.heap[b]? = w.heap[b]?) (hP : ∀ b, P b → b < w.heap.size → w'.heap[b]? = w.heap[b]? ∧ P' b) : OutF w' C P' l v := by
  obtain ⟨xs, ho, hx⟩ := h
  refine ⟨xs, ⟨ho.1, ho.2.imp id ?_⟩, hx.move (fun b hb hlt => ⟨(hP b hb.1 hlt).2, hb.2⟩) fun b o v hb hc => ?_⟩
  · rintro ⟨g, cap, cur, rfl, h1, h2, h3⟩
    exact ⟨g, cap, cur, rfl, h1, (hb g rfl).trans h2, h3⟩
  · rw [World.cell?_of_block (w := w) (a := ⟨b, o, none⟩) (hP b hb.1 (World.block_lt_of_cell? _ _ hc)).1]; exact hc
theorem OutF.below {w w' : World} {C : Nat} {P : Nat → Prop} {l : List FunT} {v : Value} (h : OutF w C P l v) (hb : Below w.heap.size w w') : OutF w' C P l v := by
  refine h.at (fun b e => ?_) fun b hp hlt => ⟨hb.block b hlt, hp⟩
  obtain ⟨xs, ho, _⟩ := h
  exact hb.block b (ho.lt b e).2
theorem OutF.slice {w : World} {C : Nat} {P : Nat → Prop} {l : List FunT} {v : Value} (h : OutF w C P l v) : ∃ a c, v = .slice a l.length c ∧ (∀ b, v.ownBlock = some b → C ≤ b ∧ b < w.heap.size) := by
  obtain ⟨xs, ho, _⟩ := h
  have hl := ho.lt
  rcases ho.2 with ⟨rfl, h0⟩ | ⟨g, cap, cur, rfl, _⟩
  · exact ⟨none, 0, by rw [h0], hl⟩
  · exact ⟨_, cap, rfl, hl⟩
theorem outF_step {w w' : World} {C g cap : Nat} {P : Nat → Prop} {l : List FunT} {v : Value} {xs : List Value} {ps fr : List ByteArray} {k : Int} {nm : ByteArray} {ns : List ByteArray} {ck ci : Int} {cs : ByteArray} {cl : List PT} {l0 : List PE} {vp vf vn vd vk : Value} (hrx : RowF w (fun b => P b ∧ some b ≠ v.ownBlock) l xs)
    (hp : InN w (fun b => P b ∧ some b ≠ v.ownBlock) ps vp) (hf : InN w (fun b => P b ∧ some b ≠ v.ownBlock) fr vf) (hm : InF w (fun b => P b ∧ some b ≠ v.ownBlock) (.mk k nm ns (.mk ck ci cs cl) l0) vn vd vk)
    (hown : w'.ownsRow C 43 10 (.slice (some ⟨g, 0, none⟩) (l.length + 1) cap) (l.length + 1) (xs ++ [vp, vf, .int .i64 k, .string nm, vn, .int .i64 ck, .int .i64 ci, .string cs, vd, vk])) (hgrow : w.grownBy w' v.ownBlock) (hat : v.ownBlock = some g ∨ g = w.heap.size) :
    OutF w' C P (l ++ [⟨ps, fr, .mk k nm ns (.mk ck ci cs cl) l0⟩]) (.slice (some ⟨g, 0, none⟩) (l.length + 1) cap) := by
  have hS : ∀ b, (P b ∧ some b ≠ v.ownBlock) → b < w.heap.size → P b ∧ some b ≠ some g := fun b hb hlt => ⟨hb.1, by
      rcases hat with e | e
      · rw [← e]; exact hb.2
      · rw [e]; simp; omega⟩
  have hc : ∀ b o' y, (P b ∧ some b ≠ v.ownBlock) → w.cell? ⟨b, o', none⟩ = some y → w'.cell? ⟨b, o', none⟩ = some y := fun b o' y hb hc => by
    rw [World.cell?_of_block (w := w) (a := ⟨b, o', none⟩) (hgrow.block b (World.block_lt_of_cell? _ _ hc) hb.2)]; exact hc
  refine ⟨_, by rw [List.length_append]; exact hown, RowF.append ?_ (hrx.move hS hc)⟩
  rw [RowF]
  exact ⟨vp, vf, vn, vd, vk, [], rfl, hp.move hS hc, hf.move hS hc, hm.move hS hc, by rw [RowF]⟩
theorem wpList_append_f {ops : Array Oper} {rest : List Oper} {o : Oper} {a : Act} {w : World} {Q : Exit → Act → World → Prop} (hgd : o.guard = none) (sl x : Operand)
    (ho : o.op = .call { callee := .builtin .append, args := #[sl, x], argTypes := #[29, 29] }) (C : Nat) (P : Nat → Prop) (l : List FunT) (v : Value) (hs : a.eval sl = v) (h : OutF w C P l v) (B : Nat) (ps fr : List ByteArray) (k : Int) (nm : ByteArray) (ns : List ByteArray) (ck ci : Int) (cs : ByteArray) (cl : List PT) (l0 : List PE) (vp vf vn vd vk : Value) (hx : a.eval x = .slice (some ⟨B, 0, none⟩) 1 1)
    (hB : w.heap[B]? = some (.cells #[vp, vf, .int .i64 k, .string nm, vn, .int .i64 ck, .int .i64 ci, .string cs, vd, vk] 43 (0, 0))) (hp : InN w (fun b => P b ∧ some b ≠ v.ownBlock) ps vp) (hf : InN w (fun b => P b ∧ some b ≠ v.ownBlock) fr vf) (hm : InF w (fun b => P b ∧ some b ≠ v.ownBlock) (.mk k nm ns (.mk ck ci cs cl) l0) vn vd vk) (hlen : l.length ≤ 100000) (hC : C ≤ w.heap.size)
    (kk : ∀ g cap w', OutF w' C P (l ++ [⟨ps, fr, .mk k nm ns (.mk ck ci cs cl) l0⟩]) (.slice (some ⟨g, 0, none⟩) (l.length + 1) cap) → w.grownBy w' v.ownBlock → (v.ownBlock = some g ∨ g = w.heap.size) → wpList Try.prog ops Q rest (a.put o.dst (.slice (some ⟨g, 0, none⟩) (l.length + 1) cap)) w') : wpList Try.prog ops Q (o :: rest) a w := by
  obtain ⟨i0, hi, hz0, hz1, hz2⟩ := info_parts infoFun
  obtain ⟨xs, hxs, hrx⟩ := h
  obtain ⟨⟨_, _, ⟨an, cn, en, _⟩⟩, ⟨_, _, _, ⟨ad, cd, ed, _⟩⟩, ⟨ak, ck', ek, _⟩⟩ := id hm
  obtain ⟨ap, cp, ep, _⟩ := id hp
  obtain ⟨af, cf, ef, _⟩ := id hf
  subst en ed ek ep ef
  refine wpList_append_lies w hgd sl x 29 ho C 43 i0 _ 10 176 Try.underlying29 hi hz0 hz1 hz2 rfl (by decide) v l.length xs hs hxs ⟨B, 0, none⟩ 1 1 _ hx rfl (World.news_of_block hB) ?_ (by decide) (by unfold maxLen; omega) (by omega) hC w.heap.size rfl ?_
  · intro u hu
    simp only [List.mem_cons, List.not_mem_nil, or_false] at hu
    rcases hu with rfl | rfl | rfl | rfl | rfl | rfl | rfl | rfl | rfl | rfl <;> rfl
  · intro g cap w' hown hgrow hat hlt
    exact kk g cap w' (outF_step hrx hp hf hm hown hgrow hat) hgrow hat
/-- Eight cells of a block are changed, one behind the other. -/
def fput8 (w : World) (g o : Nat) (k : Int) (nm : ByteArray) (vn : Value) (ck ci : Int) (cs : ByteArray) (vd vk : Value) : World :=
  (((((((w.setCell ⟨g, o, none⟩ (.int .i64 k)).setCell ⟨g, o + 1, none⟩ (.string nm)).setCell ⟨g, o + 2, none⟩ vn).setCell ⟨g, o + 3, none⟩ (.int .i64 ck)).setCell ⟨g, o + 4, none⟩ (.int .i64 ci)).setCell ⟨g, o + 5, none⟩ (.string cs)).setCell ⟨g, o + 6, none⟩ vd).setCell ⟨g, o + 7, none⟩ vk
theorem fput8_other (w : World) (g o : Nat) (k : Int) (nm : ByteArray) (vn : Value) (ck ci : Int) (cs : ByteArray) (vd vk : Value) {b : Nat} (h : b ≠ g) : (fput8 w g o k nm vn ck ci cs vd vk).heap[b]? = w.heap[b]? := by
  unfold fput8
  rw [Below.heap_setCell _ _ _ _ h, Below.heap_setCell _ _ _ _ h, Below.heap_setCell _ _ _ _ h, Below.heap_setCell _ _ _ _ h, Below.heap_setCell _ _ _ _ h, Below.heap_setCell _ _ _ _ h, Below.heap_setCell _ _ _ _ h, Below.heap_setCell _ _ _ _ h]
theorem fput8_size (w : World) (g o : Nat) (k : Int) (nm : ByteArray) (vn : Value) (ck ci : Int) (cs : ByteArray) (vd vk : Value) : (fput8 w g o k nm vn ck ci cs vd vk).heap.size = w.heap.size := by
  unfold fput8
  simp [World.setCell]
theorem fput8_below {C : Nat} {a w : World} (h : Below C a w) {g : Nat} (hg : C ≤ g) (o : Nat) (k : Int) (nm : ByteArray) (vn : Value) (ck ci : Int) (cs : ByteArray) (vd vk : Value) : Below C a (fput8 w g o k nm vn ck ci cs vd vk) :=
  (((((((h.setCell (p := ⟨g, o, none⟩) hg _).setCell (p := ⟨g, o + 1, none⟩) hg _).setCell (p := ⟨g, o + 2, none⟩) hg _).setCell (p := ⟨g, o + 3, none⟩) hg _).setCell (p := ⟨g, o + 4, none⟩) hg _).setCell (p := ⟨g, o + 5, none⟩) hg _).setCell (p := ⟨g, o + 6, none⟩) hg _).setCell (p := ⟨g, o + 7, none⟩) hg _
/-- A body is put in its place, in memory. -/
theorem OutF.put {w : World} {C : Nat} {P : Nat → Prop} {l : List FunT} {g n cap : Nat} (h : OutF w C P l (.slice (some ⟨g, 0, none⟩) n cap)) {j : Nat} {f : FunT} (hj : l[j]? = some f) {k : Int} {nm : ByteArray} {ns : List ByteArray} {ck ci : Int} {cs : ByteArray} {cl : List PT} {l0 : List PE} {vn vd vk : Value}
    (hb : InF w (fun b => P b ∧ b ≠ g) (.mk k nm ns (.mk ck ci cs cl) l0) vn vd vk) :
    OutF (fput8 w g (j * 10 + 2) k nm vn ck ci cs vd vk) C P (l.set j ⟨f.params, f.frees, .mk k nm ns (.mk ck ci cs cl) l0⟩) (.slice (some ⟨g, 0, none⟩) n cap) := by
  obtain ⟨xs, ho, hx⟩ := h
  have hb' : InF w (fun b => P b ∧ some b ≠ (Value.slice (some ⟨g, 0, none⟩) n cap).ownBlock) (.mk k nm ns (.mk ck ci cs cl) l0) vn vd vk :=
    hb.move (fun b h _ => ⟨h.1, fun e => h.2 (by cases e; rfl)⟩) fun _ _ _ _ h => h
  have en : n = l.length := by
    rcases ho.2 with ⟨e, _⟩ | ⟨g', cap', cur, e, _⟩
    · cases e
    · cases e; rfl
  refine ⟨set8 xs (j * 10 + 2) k nm vn ck ci cs vd vk, ?_, (RowF.set hb' hx hj).move (fun b h _ => h) fun b o v h hc => ?_⟩
  · rw [List.length_set]
    subst en
    exact ((((((((ho.stored (j * 10 + 2) (.int .i64 k)).1.stored (j * 10 + 2 + 1) (.string nm)).1.stored (j * 10 + 2 + 2) vn).1.stored (j * 10 + 2 + 3) (.int .i64 ck)).1.stored (j * 10 + 2 + 4) (.int .i64 ci)).1.stored (j * 10 + 2 + 5) (.string cs)).1.stored (j * 10 + 2 + 6) vd).1.stored (j * 10 + 2 + 7) vk).1
  · rw [World.cell?_of_block (w := w) (a := ⟨b, o, none⟩) (fput8_other _ _ _ _ _ _ _ _ _ _ _ (fun e => h.2 (by cases e; rfl)))]
    exact hc
/-- The cells of a body that stands in a row, and that they aren't frozen. -/
theorem OutF.cells {w : World} {C : Nat} {P : Nat → Prop} {l : List FunT} {g n cap : Nat} (h : OutF w C P l (.slice (some ⟨g, 0, none⟩) n cap)) : (∀ j, w.frozen? ⟨g, j, none⟩ = false) ∧ ∀ j, j < l.length * 10 → ∃ u, w.cell? ⟨g, j, none⟩ = some u := by
  obtain ⟨xs, ho, hx⟩ := h
  have en : n = l.length := by
    rcases ho.2 with ⟨e, _⟩ | ⟨g', cap', cur, e, _⟩
    · cases e
    · cases e; rfl
  subst en
  refine ⟨fun j => ho.frozenAt j, fun j hj => ?_⟩
  rw [ho.cellAt j hj]
  have := ho.1
  exact ⟨_, List.getElem?_eq_getElem (by omega)⟩
/-- A slice's value leads to functions. -/
def InFs (w : World) (S : Nat → Prop) (l : List FunT) (v : Value) : Prop :=
  ∃ a c, v = .slice a l.length c ∧ l.length ≤ c ∧ c ≤ maxLen ∧ (l = [] ∨ ∃ b o xs, a = some ⟨b, o, none⟩ ∧ S b ∧ RowF w S l xs ∧ ∀ j u, xs[j]? = some u → w.cell? ⟨b, o + j, none⟩ = some u)
theorem OutF.inFs {w : World} {C : Nat} {P S : Nat → Prop} {l : List FunT} {v : Value} (h : OutF w C P l v) (hP : ∀ b, P b → b < w.heap.size → S b) (hv : ∀ b, v.ownBlock = some b → S b) : InFs w S l v := by
  obtain ⟨xs, ho, hx⟩ := h
  have hx' : RowF w S l xs := hx.move (fun b hb hlt => hP b hb.1 hlt) (fun _ _ _ _ h => h)
  rcases ho.2 with ⟨rfl, h0⟩ | ⟨g, cap, cur, rfl, hb, hg, hn, hcm, hcs, ht⟩
  · obtain rfl := List.eq_nil_of_length_eq_zero h0
    exact ⟨none, 0, rfl, Nat.le_refl _, Nat.zero_le _, .inl rfl⟩
  · refine ⟨some ⟨g, 0, none⟩, cap, rfl, hn, hcm, .inr ⟨g, 0, xs, rfl, hv g rfl, hx', fun j u hj => ?_⟩⟩
    have := ho.cells (g := g) rfl j u hj
    simpa [add_plain] using this
theorem InFs.move {w w' : World} {S S' : Nat → Prop} {l : List FunT} {v : Value} (h : InFs w S l v) (hS : ∀ b, S b → b < w.heap.size → S' b) (hc : ∀ b o v, S b → w.cell? ⟨b, o, none⟩ = some v → w'.cell? ⟨b, o, none⟩ = some v) : InFs w' S' l v := by
  obtain ⟨a, c, e, hl, hm, hr⟩ := h
  refine ⟨a, c, e, hl, hm, ?_⟩
  rcases hr with hr | ⟨b, o, xs, ha, hs, hx, hr⟩
  · exact .inl hr
  · by_cases h0 : l = []
    · exact .inl h0
    · have hlt : b < w.heap.size := by
        obtain ⟨f, l', rfl⟩ := List.exists_cons_of_ne_nil h0
        obtain ⟨ps, fr, k, nm, ns, ⟨ck, ci, cs, cl⟩, l0⟩ := f
        rw [RowF] at hx
        obtain ⟨vp, vf, vn, vd, vk, ys, rfl, _⟩ := hx
        exact World.block_lt_of_cell? _ _ (hr 0 _ rfl)
      exact .inr ⟨b, o, xs, ha, hS b hs hlt, hx.move hS hc, fun j u hj => hc _ _ _ hs (hr j u hj)⟩
theorem InFs.below {w w' : World} {S : Nat → Prop} {l : List FunT} {v : Value} (h : InFs w S l v) (hb : Below w.heap.size w w') : InFs w' S l v := h.move (fun _ h _ => h) fun _ _ _ _ hc => cell_below hb hc
/-- One of a row of functions: its cells. -/
theorem InFs.item {w : World} {S : Nat → Prop} {l : List FunT} {v : Value} (h : InFs w S l v) (j : Nat) {ps fr : List ByteArray} {k : Int} {nm : ByteArray} {ns : List ByteArray} {ck ci : Int} {cs : ByteArray} {cl : List PT} {l0 : List PE} (hj : l[j]? = some ⟨ps, fr, .mk k nm ns (.mk ck ci cs cl) l0⟩) :
    ∃ b o c vp vf vn vd vk, v = .slice (some ⟨b, o, none⟩) l.length c ∧ l.length ≤ c ∧ c ≤ maxLen ∧ InN w S ps vp ∧ InN w S fr vf ∧ InF w S (.mk k nm ns (.mk ck ci cs cl) l0) vn vd vk ∧ w.cell? ⟨b, o + j * 10, none⟩ = some vp ∧ w.cell? ⟨b, o + j * 10 + 1, none⟩ = some vf ∧ w.cell? ⟨b, o + j * 10 + 2, none⟩ = some (.int .i64 k) ∧ w.cell? ⟨b, o + j * 10 + 3, none⟩ = some (.string nm) ∧ w.cell? ⟨b, o + j * 10 + 4, none⟩ = some vn ∧ w.cell? ⟨b, o + j * 10 + 5, none⟩ = some (.int .i64 ck) ∧ w.cell? ⟨b, o + j * 10 + 6, none⟩ = some (.int .i64 ci) ∧ w.cell? ⟨b, o + j * 10 + 7, none⟩ = some (.string cs) ∧ w.cell? ⟨b, o + j * 10 + 8, none⟩ = some vd ∧ w.cell? ⟨b, o + j * 10 + 9, none⟩ = some vk := by
  obtain ⟨a, c, rfl, hl, hm, hr⟩ := h
  rcases hr with rfl | ⟨b, o, xs, rfl, hs, hx, hr⟩
  · cases hj
  · obtain ⟨vp, vf, vn, vd, vk, h1, h2, h3, g0, g1, g2, g3, g4, g5, g6, g7, g8, g9⟩ := hx.get hj
    exact ⟨b, o, c, vp, vf, vn, vd, vk, rfl, hl, hm, h1, h2, h3, hr _ _ g0, hr _ _ g1, hr _ _ g2, hr _ _ g3, hr _ _ g4, hr _ _ g5, hr _ _ g6, hr _ _ g7, hr _ _ g8, hr _ _ g9⟩
end Go.Proofs.Ytkjgdnfkpebejaa.Core
