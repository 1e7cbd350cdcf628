/-
Texts N8, N8b, one behind the other (a claim bears sixty files). Conditions: as each says.
-/
import Derived.Test.YtkjgdnfkpebejaaN7
import Derived.Test.YtkjgdnfkpebejaaK20
import Derived.Deep.DeepMust
import Derived.Lib.SmallJoins

/-
Package lift's over and copied, for every expression that may be: it lies in memory of its own. No condition.
-/
namespace Go.Proofs.Ytkjgdnfkpebejaa.Core
open Go.ChangeShapes Go.WideShapes Go.ChangeAt Go.RowKit Go.Deep
open Dat (PT ok64 RowX)
set_option maxRecDepth 100000

theorem form_items {k : Int} {nm : ByteArray} {ns : List ByteArray} {ck ci : Int} {cs : ByteArray} {cl : List PT} {l : List PE} (h : formE (.mk k nm ns (.mk ck ci cs cl) l) = true) : cl = [] := by
  unfold formE fieldsB constOkB at h
  simp only [Bool.and_eq_true] at h
  have h2 := h.2.2
  split at h2
  · exact const_nil h2
  · unfold PT0 at h2
    exact ((Dat.sameB_mk _ _ _ _ _ _ _ _).1 h2).2.2.2
theorem step_append_e {ops : Array Oper} {o : Oper} {a : Act} {w : World} {K : Act → World → Prop} {Q : Exit → Act → World → Prop} {E : Prop} (hgd : o.guard = none) (sl x : Operand)
    (ho : o.op = .call { callee := .builtin .append, args := #[sl, x], argTypes := #[26, 26] }) (C : Nat) (P : Nat → Prop) (l : List PE) (v : Value) (hs : a.eval sl = v) (h : OutE w C P l v) (B : Nat) (k : Int) (nm : ByteArray) (ns : List ByteArray) (ck ci : Int) (cs : ByteArray) (cl : List PT) (l0 : List PE) (vn vd vk : Value) (hx : a.eval x = .slice (some ⟨B, 0, none⟩) 1 1)
    (hB : w.heap[B]? = some (.cells #[.int .i64 k, .string nm, vn, .int .i64 ck, .int .i64 ci, .string cs, vd, vk] 28 (0, 0))) (hm : InF w (fun b => P b ∧ some b ≠ v.ownBlock) (.mk k nm ns (.mk ck ci cs cl) l0) vn vd vk) (hlen : l.length ≤ 100000) (hC : C ≤ w.heap.size)
    (kk : ∀ g cap w', OutE w' C P (l ++ [.mk k nm ns (.mk ck ci cs cl) l0]) (.slice (some ⟨g, 0, none⟩) (l.length + 1) cap) → w.grownBy w' v.ownBlock → (v.ownBlock = some g ∨ g = w.heap.size) → K (a.put o.dst (.slice (some ⟨g, 0, none⟩) (l.length + 1) cap)) w') : if Region.wanted o (yielded ops a.tmps) = true then Oper.wp Try.prog o a w K Q else E := by
  obtain ⟨i0, hi, hz0, hz1, hz2⟩ := info_parts infoExpr
  obtain ⟨xs, hxs, hrx⟩ := h
  obtain ⟨⟨_, _, ⟨an, cn, en, _⟩⟩, ⟨_, _, _, ⟨ad, cd, ed, _⟩⟩, ⟨ak, ck', ek, _⟩⟩ := id hm
  subst en ed ek
  refine step_append_lies w hgd sl x 26 ho C 28 i0 _ 8 128 Try.underlying26 hi hz0 hz1 hz2 rfl (by decide) v l.length xs hs hxs ⟨B, 0, none⟩ 1 1 _ hx rfl (World.news_of_block hB) ?_ (by decide) (by unfold maxLen; omega) (by omega) hC w.heap.size rfl ?_
  · intro u hu
    simp only [List.mem_cons, List.not_mem_nil, or_false] at hu
    rcases hu with rfl | rfl | rfl | rfl | rfl | rfl | rfl | rfl <;> rfl
  · intro g cap w' hown hgrow hat hlt
    exact kk g cap w' (outE_step hrx hm hown hgrow hat) hgrow hat
theorem OutE.below {w w' : World} {C : Nat} {P : Nat → Prop} {l : List PE} {v : Value} (h : OutE w C P l v) (hb : Below w.heap.size w w') : OutE w' C P l v := by
  refine h.at (fun b e => ?_) fun b hp hlt => ⟨hb.block b hlt, hp⟩
  obtain ⟨xs, ho, _⟩ := h
  exact hb.block b (ho.lt b e).2
theorem OutE.putq {w : World} {C q j : Nat} {x : Value} {l : List PE} {v : Value} (h : OutE w C (fun b => C ≤ b) l v) (hq : q < C) : OutE (w.setCell ⟨q, j, none⟩ x) C (fun b => C ≤ b) l v := by
  refine h.at (fun b e => Below.heap_setCell _ _ _ _ ?_) fun b hp hlt => ⟨Below.heap_setCell _ _ _ _ (show b ≠ q by omega), hp⟩
  obtain ⟨xs, ho, _⟩ := h
  have := (ho.lt b e).1
  show b ≠ q
  omega
/-- How things stand while over goes on: the expression's box, the box of what is made. -/
structure OvSt (w W : World) (EB OB : Obj) : Prop where
  bel : Below w.heap.size w W
  eb : W.heap[w.heap.size]? = some EB
  zb : W.heap[w.heap.size + 1]? = some (.cells #[.int .i64 0, .string ⟨#[]⟩, .slice none 0 0, .int .i64 0, .int .i64 0, .string ⟨#[]⟩, .slice none 0 0, .slice none 0 0] 28)
  qb : W.heap[w.heap.size + 2]? = some OB
theorem OvSt.call {w W W' : World} {EB OB : Obj} (h : OvSt w W EB OB) (hb : Below W.heap.size W W') : OvSt w W' EB OB :=
  ⟨h.bel.trans (hb.mono h.bel.size), (hb.block _ (lt_of_block h.eb)).trans h.eb, (hb.block _ (lt_of_block h.zb)).trans h.zb, (hb.block _ (lt_of_block h.qb)).trans h.qb⟩
theorem OvSt.kp {w W W' : World} {EB OB : Obj} {o : Option Nat} (h : OvSt w W EB OB) (hk : W.grownBy W' o) (ho : ∀ b, o = some b → w.heap.size + 3 ≤ b) : OvSt w W' EB OB :=
  ⟨h.bel.grown hk h.bel.size (fun b e => by have := ho b e; omega), (hk.block _ (lt_of_block h.eb) (fun e => by have := ho _ e.symm; omega)).trans h.eb, (hk.block _ (lt_of_block h.zb) (fun e => by have := ho _ e.symm; omega)).trans h.zb, (hk.block _ (lt_of_block h.qb) (fun e => by have := ho _ e.symm; omega)).trans h.qb⟩
theorem OvSt.put {w W : World} {EB : Obj} {cells : Array Value} {ty : TypeId} (h : OvSt w W EB (.cells cells ty)) (j : Nat) (v : Value) : OvSt w (W.setCell ⟨w.heap.size + 2, j, none⟩ v) EB (.cells (cells.setIfInBounds j v) ty) :=
  ⟨h.bel.setCell (p := ⟨w.heap.size + 2, j, none⟩) (by show w.heap.size ≤ w.heap.size + 2; omega) v, (Below.heap_setCell _ _ _ _ (by show w.heap.size ≠ w.heap.size + 2; omega)).trans h.eb, (Below.heap_setCell _ _ _ _ (by show w.heap.size + 1 ≠ w.heap.size + 2; omega)).trans h.zb, heap_setCell_same _ _ _ _ _ _ h.qb⟩
/-- Eight cells of a block at once. -/
theorem look8n {W : World} {g : Nat} {x0 x1 x2 x3 x4 x5 x6 x7 : Value} {ty : TypeId} (hb : W.heap[g]? = some (.cells #[x0, x1, x2, x3, x4, x5, x6, x7] ty)) :
    W.cell? ⟨g, 0, none⟩ = some x0 ∧ W.cell? ⟨g, 1, none⟩ = some x1 ∧ W.cell? ⟨g, 2, none⟩ = some x2 ∧ W.cell? ⟨g, 3, none⟩ = some x3 ∧ W.cell? ⟨g, 4, none⟩ = some x4 ∧ W.cell? ⟨g, 5, none⟩ = some x5 ∧ W.cell? ⟨g, 6, none⟩ = some x6 ∧ W.cell? ⟨g, 7, none⟩ = some x7 := by
  refine ⟨?_, ?_, ?_, ?_, ?_, ?_, ?_, ?_⟩
  all_goals (rw [Lib.cell_of_heap hb]; rfl)
theorem free8n {W : World} {g : Nat} {x0 x1 x2 x3 x4 x5 x6 x7 : Value} {ty : TypeId} (hb : W.heap[g]? = some (.cells #[x0, x1, x2, x3, x4, x5, x6, x7] ty)) :
    W.frozen? ⟨g, 0, none⟩ = false ∧ W.frozen? ⟨g, 1, none⟩ = false ∧ W.frozen? ⟨g, 2, none⟩ = false ∧ W.frozen? ⟨g, 3, none⟩ = false ∧ W.frozen? ⟨g, 4, none⟩ = false ∧ W.frozen? ⟨g, 5, none⟩ = false ∧ W.frozen? ⟨g, 6, none⟩ = false ∧ W.frozen? ⟨g, 7, none⟩ = false :=
  ⟨Lib.frozen_of_heap hb 0, Lib.frozen_of_heap hb 1, Lib.frozen_of_heap hb 2, Lib.frozen_of_heap hb 3, Lib.frozen_of_heap hb 4, Lib.frozen_of_heap hb 5, Lib.frozen_of_heap hb 6, Lib.frozen_of_heap hb 7⟩
theorem bput8 {W : World} {b : Nat} {u0 u1 u2 u3 u4 u5 u6 u7 v0 v1 v2 v3 v4 v5 v6 v7 : Value} {t : TypeId} {fr : Nat × Nat} (h : W.heap[b]? = some (.cells #[u0, u1, u2, u3, u4, u5, u6, u7] t fr)) : ((((((((W.setCell ⟨b, 0, none⟩ v0).setCell ⟨b, 1, none⟩ v1).setCell ⟨b, 2, none⟩ v2).setCell ⟨b, 3, none⟩ v3).setCell ⟨b, 4, none⟩ v4).setCell ⟨b, 5, none⟩ v5).setCell ⟨b, 6, none⟩ v6).setCell ⟨b, 7, none⟩ v7).heap[b]? = some (.cells #[v0, v1, v2, v3, v4, v5, v6, v7] t fr) := by
  have h0 : (W.setCell ⟨b, 0, none⟩ v0).heap[b]? = some (.cells #[v0, u1, u2, u3, u4, u5, u6, u7] t fr) := Go.Joins.block_setCell h v0
  have h1 : ((W.setCell ⟨b, 0, none⟩ v0).setCell ⟨b, 1, none⟩ v1).heap[b]? = some (.cells #[v0, v1, u2, u3, u4, u5, u6, u7] t fr) := Go.Joins.block_setCell h0 v1
  have h2 : (((W.setCell ⟨b, 0, none⟩ v0).setCell ⟨b, 1, none⟩ v1).setCell ⟨b, 2, none⟩ v2).heap[b]? = some (.cells #[v0, v1, v2, u3, u4, u5, u6, u7] t fr) := Go.Joins.block_setCell h1 v2
  have h3 : ((((W.setCell ⟨b, 0, none⟩ v0).setCell ⟨b, 1, none⟩ v1).setCell ⟨b, 2, none⟩ v2).setCell ⟨b, 3, none⟩ v3).heap[b]? = some (.cells #[v0, v1, v2, v3, u4, u5, u6, u7] t fr) := Go.Joins.block_setCell h2 v3
  have h4 : (((((W.setCell ⟨b, 0, none⟩ v0).setCell ⟨b, 1, none⟩ v1).setCell ⟨b, 2, none⟩ v2).setCell ⟨b, 3, none⟩ v3).setCell ⟨b, 4, none⟩ v4).heap[b]? = some (.cells #[v0, v1, v2, v3, v4, u5, u6, u7] t fr) := Go.Joins.block_setCell h3 v4
  have h5 : ((((((W.setCell ⟨b, 0, none⟩ v0).setCell ⟨b, 1, none⟩ v1).setCell ⟨b, 2, none⟩ v2).setCell ⟨b, 3, none⟩ v3).setCell ⟨b, 4, none⟩ v4).setCell ⟨b, 5, none⟩ v5).heap[b]? = some (.cells #[v0, v1, v2, v3, v4, v5, u6, u7] t fr) := Go.Joins.block_setCell h4 v5
  have h6 : (((((((W.setCell ⟨b, 0, none⟩ v0).setCell ⟨b, 1, none⟩ v1).setCell ⟨b, 2, none⟩ v2).setCell ⟨b, 3, none⟩ v3).setCell ⟨b, 4, none⟩ v4).setCell ⟨b, 5, none⟩ v5).setCell ⟨b, 6, none⟩ v6).heap[b]? = some (.cells #[v0, v1, v2, v3, v4, v5, v6, u7] t fr) := Go.Joins.block_setCell h5 v6
  have h7 : ((((((((W.setCell ⟨b, 0, none⟩ v0).setCell ⟨b, 1, none⟩ v1).setCell ⟨b, 2, none⟩ v2).setCell ⟨b, 3, none⟩ v3).setCell ⟨b, 4, none⟩ v4).setCell ⟨b, 5, none⟩ v5).setCell ⟨b, 6, none⟩ v6).setCell ⟨b, 7, none⟩ v7).heap[b]? = some (.cells #[v0, v1, v2, v3, v4, v5, v6, v7] t fr) := Go.Joins.block_setCell h6 v7
  exact h7
theorem bbel8 {B : Nat} {w0 W : World} (h : Below B w0 W) {b : Nat} (hb : B ≤ b) (v0 v1 v2 v3 v4 v5 v6 v7 : Value) : Below B w0 ((((((((W.setCell ⟨b, 0, none⟩ v0).setCell ⟨b, 1, none⟩ v1).setCell ⟨b, 2, none⟩ v2).setCell ⟨b, 3, none⟩ v3).setCell ⟨b, 4, none⟩ v4).setCell ⟨b, 5, none⟩ v5).setCell ⟨b, 6, none⟩ v6).setCell ⟨b, 7, none⟩ v7) := ((((((((h.setCell (p := ⟨b, 0, none⟩) hb v0).setCell (p := ⟨b, 1, none⟩) hb v1).setCell (p := ⟨b, 2, none⟩) hb v2).setCell (p := ⟨b, 3, none⟩) hb v3).setCell (p := ⟨b, 4, none⟩) hb v4).setCell (p := ⟨b, 5, none⟩) hb v5).setCell (p := ⟨b, 6, none⟩) hb v6).setCell (p := ⟨b, 7, none⟩) hb v7)
theorem bput8_other {W : World} {g b : Nat} (h : b ≠ g) (v0 v1 v2 v3 v4 v5 v6 v7 : Value) : ((((((((W.setCell ⟨g, 0, none⟩ v0).setCell ⟨g, 1, none⟩ v1).setCell ⟨g, 2, none⟩ v2).setCell ⟨g, 3, none⟩ v3).setCell ⟨g, 4, none⟩ v4).setCell ⟨g, 5, none⟩ v5).setCell ⟨g, 6, none⟩ v6).setCell ⟨g, 7, none⟩ v7).heap[b]? = W.heap[b]? := by
  rw [Below.heap_setCell _ _ _ _ h, Below.heap_setCell _ _ _ _ h, Below.heap_setCell _ _ _ _ h, Below.heap_setCell _ _ _ _ h, Below.heap_setCell _ _ _ _ h, Below.heap_setCell _ _ _ _ h, Below.heap_setCell _ _ _ _ h, Below.heap_setCell _ _ _ _ h]
/-- What copied answers. -/
def CopOk (t : PE) : Prop := ∀ (S : Nat → Prop) (vn vd vk : Value) (w : World), InF w S t vn vd vk → (∀ b, S b → b < w.heap.size) → okE t →
  Calls Try.prog 22 #[t.val vn vd vk] w fun e w' => ∃ vn' vd' vk', e = .returned (t.val vn' vd' vk') ∧ InF w' (fun b => w.heap.size ≤ b) t vn' vd' vk' ∧ Below w.heap.size w w'
set_option maxHeartbeats 4000000 in
theorem overCop_any (k : Int) (nm : ByteArray) (ns : List ByteArray) (ck ci : Int) (cs : ByteArray) (cl : List PT) (l : List PE) (ih : ∀ t ∈ l, CopOk t) (hok : ∀ t ∈ l, okE t) (hl4 : l.length ≤ 4096) (S : Nat → Prop) (vn vd vk : Value) (w : World) (h : InF w S (.mk k nm ns (.mk ck ci cs cl) l) vn vd vk) (hS : ∀ b, S b → b < w.heap.size) :
    Calls Try.prog 38 #[(PE.mk k nm ns (.mk ck ci cs cl) l).val vn vd vk, .func (.func 22) #[] #[]] w fun e w' => ∃ vk', e = .returned ((PE.mk k nm ns (.mk ck ci cs cl) l).val vn vd vk') ∧ InK w' (fun b => w.heap.size ≤ b) l vk' ∧ Below w.heap.size w w' := by
  have IH := Lib.hid ih
  have HOK := Lib.hid hok
  have HSL := Lib.hid hS
  have HI := Lib.hid h
  clear ih hok hS
  obtain ⟨⟨_, _, an, cn, rfl, _⟩, ⟨_, _, _, ad, cd, rfl, _⟩, ak, c, rfl, hl, hm, _⟩ := h
  unfold maxLen at hm
  show Calls Try.prog 38 #[.agg #[.int .i64 k, .string nm, .slice an ns.length cn, .int .i64 ck, .int .i64 ci, .string cs, .slice ad cl.length cd, .slice ak l.length c], .func (.func 22) #[] #[]] w fun e w' => ∃ vk', e = .returned (.agg #[.int .i64 k, .string nm, .slice an ns.length cn, .int .i64 ck, .int .i64 ci, .string cs, .slice ad cl.length cd, vk']) ∧ InK w' (fun b => w.heap.size ≤ b) l vk' ∧ Below w.heap.size w w'
  have HRD0 : Hid (OvSt w (((w.alloc (.cells #[.int .i64 k, .string nm, .slice an ns.length cn, .int .i64 ck, .int .i64 ci, .string cs, .slice ad cl.length cd, .slice ak l.length c] 28)).alloc (.cells #[.int .i64 0, .string ⟨#[]⟩, .slice none 0 0, .int .i64 0, .int .i64 0, .string ⟨#[]⟩, .slice none 0 0, .slice none 0 0] 28)).alloc (.cells #[.int .i64 k, .string nm, .slice an ns.length cn, .int .i64 ck, .int .i64 ci, .string cs, .slice ad cl.length cd, .slice none 0 0] 28)) (.cells #[.int .i64 k, .string nm, .slice an ns.length cn, .int .i64 ck, .int .i64 ci, .string cs, .slice ad cl.length cd, .slice ak l.length c] 28) (.cells #[.int .i64 k, .string nm, .slice an ns.length cn, .int .i64 ck, .int .i64 ci, .string cs, .slice ad cl.length cd, .slice none 0 0] 28)) := Lib.hid (by
    obtain ⟨z0, z1, zb⟩ := two_new w (.cells #[.int .i64 k, .string nm, .slice an ns.length cn, .int .i64 ck, .int .i64 ci, .string cs, .slice ad cl.length cd, .slice ak l.length c] 28) (.cells #[.int .i64 0, .string ⟨#[]⟩, .slice none 0 0, .int .i64 0, .int .i64 0, .string ⟨#[]⟩, .slice none 0 0, .slice none 0 0] 28)
    have hs : ((w.alloc (.cells #[.int .i64 k, .string nm, .slice an ns.length cn, .int .i64 ck, .int .i64 ci, .string cs, .slice ad cl.length cd, .slice ak l.length c] 28)).alloc (.cells #[.int .i64 0, .string ⟨#[]⟩, .slice none 0 0, .int .i64 0, .int .i64 0, .string ⟨#[]⟩, .slice none 0 0, .slice none 0 0] 28)).heap.size = w.heap.size + 2 := by rw [size_new, size_new]
    have z2 := heap_alloc_new ((w.alloc (.cells #[.int .i64 k, .string nm, .slice an ns.length cn, .int .i64 ck, .int .i64 ci, .string cs, .slice ad cl.length cd, .slice ak l.length c] 28)).alloc (.cells #[.int .i64 0, .string ⟨#[]⟩, .slice none 0 0, .int .i64 0, .int .i64 0, .string ⟨#[]⟩, .slice none 0 0, .slice none 0 0] 28)) (.cells #[.int .i64 k, .string nm, .slice an ns.length cn, .int .i64 ck, .int .i64 ci, .string cs, .slice ad cl.length cd, .slice none 0 0] 28)
    rw [hs] at z2
    exact ⟨bel_alloc' zb _, blk_skip' z0, blk_skip' z1, z2⟩)
  go_enter Try.func38, Try.ntmps38
  go_upto_region 3 with fail
  generalize ((w.alloc (.cells #[.int .i64 k, .string nm, .slice an ns.length cn, .int .i64 ck, .int .i64 ci, .string cs, .slice ad cl.length cd, .slice ak l.length c] 28)).alloc (.cells #[.int .i64 0, .string ⟨#[]⟩, .slice none 0 0, .int .i64 0, .int .i64 0, .string ⟨#[]⟩, .slice none 0 0, .slice none 0 0] 28)).alloc (.cells #[.int .i64 k, .string nm, .slice an ns.length cn, .int .i64 ck, .int .i64 ci, .string cs, .slice ad cl.length cd, .slice none 0 0] 28) = w0 at *
  have x7 : w0.cell? ⟨w.heap.size, 7, none⟩ = some (.slice ak l.length c) := by rw [Lib.cell_of_heap HRD0.out.eb]; rfl
  go_wp2
  go_loopw [13] (fun ix wr => ∃ (j : Nat) (vK : Value), j ≤ l.length ∧ ix = .int .i64 j ∧ OutE wr (w.heap.size + 3) (fun b => w.heap.size + 3 ≤ b) (l.take j) vK ∧ OvSt w wr (.cells #[.int .i64 k, .string nm, .slice an ns.length cn, .int .i64 ck, .int .i64 ci, .string cs, .slice ad cl.length cd, .slice ak l.length c] 28) (.cells #[.int .i64 k, .string nm, .slice an ns.length cn, .int .i64 ck, .int .i64 ci, .string cs, .slice ad cl.length cd, vK] 28)) (fun ix _ => l.length - (intOf ix).toNat)
  case atStart => exact ⟨0, _, Nat.zero_le _, rfl, by rw [List.take_zero]; exact OutE.nil _ _ _, HRD0.out⟩
  case round =>
    obtain ⟨j, vK, hj, rfl, ho, hrd⟩ := hrel
    have HO := Lib.hid ho
    have HRD := Lib.hid hrd
    clear x7 hrd
    by_cases hlt : j < l.length
    · obtain ⟨b, o, c', ea, _, _, hS1, hE1⟩ := (HI.out.2.2.belowT HSL.out HRD.out.bel).item j hlt
      cases ea
      have HTS : Hid (l.take (j + 1) = l.take j ++ [l[j]]) := Lib.hid (List.take_succ_eq_append_getElem hlt)
      have hlen : (l.take j).length ≤ 100000 := by rw [List.length_take]; omega
      have HTL : Hid ((l.take j).length = j) := Lib.hid (by rw [List.length_take]; omega)
      have IT := Lib.hid (IH.out l[j] (List.getElem_mem hlt))
      have OT := Lib.hid (HOK.out l[j] (List.getElem_mem hlt))
      generalize l[j] = t at hE1 IT OT HTS
      obtain ⟨tk, tn, tns, ⟨tck, tci, tcs, tcl⟩, tl⟩ := t
      obtain ⟨tvn, tvd, tvk, hF1, a0, a1, a2, a3, a4, a5, a6, a7⟩ := hE1.cells
      have hbb := World.block_lt_of_cell? _ _ a0
      have KC := Lib.hid (fun W (hb : Below wr.heap.size wr W) => IT.out S tvn tvd tvk W (hF1.below hb) (fun b h => Nat.lt_of_lt_of_le (HSL.out b h) (HRD.out.bel.trans (hb.mono HRD.out.bel.size)).size) OT.out)
      have HF1 := Lib.hid hF1
      unfold InF at hF1
      obtain ⟨⟨_, _, hn1⟩, ⟨_, _, _, hd1⟩, hk1⟩ := hF1
      obtain ⟨n1, n2, en, -⟩ := hn1
      obtain ⟨d1, d2, ed, -⟩ := hd1
      obtain ⟨k1, k2, ek, -⟩ := hk1
      subst en ed ek
      obtain ⟨aT, cT, rfl, hown⟩ := ho.slice
      have HOWN := Lib.hid hown
      have h3 : w.heap.size + 2 < wr.heap.size := lt_of_block HRD.out.qb
      unfold PE.val at KC
      generalize l.take j = lt at *
      clear hE1 IT HF1 ho hown
      go_upto_region 6 with fail
      have HZK := Lib.hid (heap_alloc_new wr (.cells #[.int .i64 tk, .string tn, (.slice n1 tns.length n2), .int .i64 tck, .int .i64 tci, .string tcs, (.slice d1 tcl.length d2), (.slice k1 tl.length k2)] 28))
      have HB1 := Lib.hid ((Below.refl wr.heap.size wr).alloc (Nat.le_refl _) (.cells #[.int .i64 tk, .string tn, (.slice n1 tns.length n2), .int .i64 tck, .int .i64 tci, .string tcs, (.slice d1 tcl.length d2), (.slice k1 tl.length k2)] 28))
      have hs1 := size_new wr (.cells #[.int .i64 tk, .string tn, (.slice n1 tns.length n2), .int .i64 tck, .int .i64 tci, .string tcs, (.slice d1 tcl.length d2), (.slice k1 tl.length k2)] 28)
      generalize wr.alloc (.cells #[.int .i64 tk, .string tn, (.slice n1 tns.length n2), .int .i64 tck, .int .i64 tci, .string tcs, (.slice d1 tcl.length d2), (.slice k1 tl.length k2)] 28) = w1 at *
      have HB1d := Lib.hid (HB1.out.drew)
      have hzk : w1.drew.heap[wr.heap.size]? = some (.cells #[.int .i64 tk, .string tn, (.slice n1 tns.length n2), .int .i64 tck, .int .i64 tci, .string tcs, (.slice d1 tcl.length d2), (.slice k1 tl.length k2)] 28) := HZK.out
      have HRD1 := Lib.hid (HRD.out.call HB1d.out)
      obtain ⟨y0, y1, y2, y3, y4, y5, y6, y7⟩ := look8n hzk
      have q7 : w1.drew.cell? ⟨w.heap.size + 1 + 1, 7, none⟩ = some (.slice aT lt.length cT) := by rw [Lib.cell_of_heap HRD1.out.qb]; rfl
      have HO1 := Lib.hid (HO.out.below HB1d.out)
      have HS1 : Hid (w.heap.size + 3 ≤ w1.drew.heap.size ∧ wr.heap.size + 1 = w1.drew.heap.size) := Lib.hid ⟨by show _ ≤ w1.heap.size; omega, hs1.symm⟩
      clear hzk hs1 a0 a1 a2 a3 a4 a5 a6 a7 hbb
      go_region_law (first
        | (go_simp; go_at_call 22; go_must (refine (KC.out _ HB1d.out).mono ?_); rintro e w6 ⟨v1, v2, v3, he, hf6, hb6⟩; go_must (obtain rfl : e = .returned (.agg #[.int .i64 tk, .string tn, v1, .int .i64 tck, .int .i64 tci, .string tcs, v2, v3]) := he); go_must (have HRD6 := Lib.hid (HRD1.out.call hb6)); go_must (have q76 : w6.cell? ⟨w.heap.size + 1 + 1, 7, none⟩ = some (.slice aT lt.length cT) := (by rw [Lib.cell_of_heap HRD6.out.qb]; rfl)); go_must (have HB7 := Lib.hid ((Below.refl w6.heap.size w6).alloc (Nat.le_refl _) (.cells #[.int .i64 tk, .string tn, v1, .int .i64 tck, .int .i64 tci, .string tcs, v2, v3] 28))); go_must (have HRD7 := Lib.hid (HRD6.out.call HB7.out)); go_must (have q77 : (w6.alloc (.cells #[.int .i64 tk, .string tn, v1, .int .i64 tck, .int .i64 tci, .string tcs, v2, v3] 28)).cell? ⟨w.heap.size + 1 + 1, 7, none⟩ = some (.slice aT lt.length cT) := (by rw [Lib.cell_of_heap HRD7.out.qb]; rfl)); go_must (have HO7 := Lib.hid ((HO1.out.below hb6).below HB7.out)); go_must (have HF7 : Hid (InF (w6.alloc (.cells #[.int .i64 tk, .string tn, v1, .int .i64 tck, .int .i64 tci, .string tcs, v2, v3] 28)) (fun b => w.heap.size + 3 ≤ b ∧ some b ≠ (Value.slice aT lt.length cT).ownBlock) (.mk tk tn tns (.mk tck tci tcs tcl) tl) v1 v2 v3) := Lib.hid ((hf6.move (fun b hb _ => ⟨Nat.le_trans HS1.out.1 hb, fun e => by have := (HOWN.out b e.symm).2; have := HS1.out.2; omega⟩) (fun _ _ _ _ hc => hc)).below HB7.out)); go_must (have HZ7 : Hid (w.heap.size + 3 ≤ (w6.alloc (.cells #[.int .i64 tk, .string tn, v1, .int .i64 tck, .int .i64 tci, .string tcs, v2, v3] 28)).heap.size) := Lib.hid (Nat.le_trans HS1.out.1 (Nat.le_trans hb6.size HB7.out.size))); clear hf6 hb6)
        | (refine step_append_e rfl _ _ rfl (w.heap.size + 3) (fun b => w.heap.size + 3 ≤ b) lt (.slice aT lt.length cT) rfl HO7.out w6.heap.size tk tn tns tck tci tcs tcl tl v1 v2 v3 rfl (heap_alloc_new w6 _) HF7.out hlen HZ7.out ?_; intro g cap w7 h7 hg7 hat7; go_must (have HRD8 := Lib.hid (HRD7.out.kp hg7 (fun b e => (HOWN.out b e).1))); have HO8 := Lib.hid h7; go_must (have q78 : w7.cell? ⟨w.heap.size + 1 + 1, 7, none⟩ = some (.slice aT lt.length cT) := (by rw [Lib.cell_of_heap HRD8.out.qb]; rfl)); go_must (have f78 : w7.frozen? ⟨w.heap.size + 1 + 1, 7, none⟩ = false := Lib.frozen_of_heap HRD8.out.qb 7); clear h7 hg7 hat7))
      all_goals
        go_wp2
        go_roundw
        case rel => exact ⟨j + 1, _, by omega, by go_num, by rw [HTS.out]; exact HO8.out.putq (by omega), HRD8.out.put 7 _⟩
        case measure => simp [intOf]; omega
    · obtain rfl : j = l.length := by omega
      rw [List.take_length] at ho
      clear HO
      have HO := Lib.hid ho
      obtain ⟨aT, cT, rfl, hown⟩ := ho.slice
      have HOWN := Lib.hid hown
      obtain ⟨y0, y1, y2, y3, y4, y5, y6, y7⟩ := look8n (show wr.heap[w.heap.size + 1 + 1]? = _ from HRD.out.qb)
      obtain ⟨z0, z1, z2, z3, z4, z5, z6, z7⟩ := look8n HRD.out.zb
      obtain ⟨f0, f1, f2, f3, f4, f5, f6, f7⟩ := free8n HRD.out.zb
      clear ho hown
      have HZ9 := Lib.hid (bput8 (v0 := .int .i64 k) (v1 := .string nm) (v2 := .slice an ns.length cn) (v3 := .int .i64 ck) (v4 := .int .i64 ci) (v5 := .string cs) (v6 := .slice ad cl.length cd) (v7 := .slice aT l.length cT) HRD.out.zb)
      have HB9 := Lib.hid (bbel8 HRD.out.bel (Nat.le_succ w.heap.size) (.int .i64 k) (.string nm) (.slice an ns.length cn) (.int .i64 ck) (.int .i64 ci) (.string cs) (.slice ad cl.length cd) (.slice aT l.length cT))
      have hq1 : w.heap.size + 1 < w.heap.size + 3 := by omega
      have HK9 := Lib.hid ((((((((HO.out.putq (j := 0) (x := .int .i64 k) hq1).putq (j := 1) (x := .string nm) hq1).putq (j := 2) (x := .slice an ns.length cn) hq1).putq (j := 3) (x := .int .i64 ck) hq1).putq (j := 4) (x := .int .i64 ci) hq1).putq (j := 5) (x := .string cs) hq1).putq (j := 6) (x := .slice ad cl.length cd) hq1).putq (j := 7) (x := .slice aT l.length cT) hq1 |>.inK (S := fun b => w.heap.size ≤ b) (fun b (h : w.heap.size + 3 ≤ b) => by omega) (fun b e => by have := (HOWN.out b e).1; show w.heap.size ≤ b; omega))
      go_wp2
      exact bodyPost_ret (results_cell_row (P := Try.prog) rfl _ _ (w.heap.size + 1) 28 _ (0, 0) _ rfl HZ9.out Try.underlying28 rfl (by kernel_rfl)) rfl ⟨_, rfl, HK9.out, HB9.out⟩
end Go.Proofs.Ytkjgdnfkpebejaa.Core

/-
Package lift's copied, for every expression that may be: it lies in memory of its own. No condition.
-/
namespace Go.Proofs.Ytkjgdnfkpebejaa.Core
open Go.ChangeShapes Go.WideShapes Go.ChangeAt Go.RowKit Go.Deep
open Dat (PT ok64 RowX)
set_option maxRecDepth 100000

set_option maxHeartbeats 4000000 in
theorem cop_step (k : Int) (nm : ByteArray) (ns : List ByteArray) (ck ci : Int) (cs : ByteArray) (cl : List PT) (l : List PE) (ih : ∀ t ∈ l, CopOk t) : CopOk (.mk k nm ns (.mk ck ci cs cl) l) := by
  intro S vn vd vk w h hS hok
  rw [okE] at hok
  obtain rfl := form_items hok.1
  have HI := Lib.hid h
  obtain ⟨⟨_, _, an, cn, en, _⟩, ⟨_, _, _, ad, cd, ed, _⟩, ak, c, ek, hl, hm, _⟩ := id h
  subst en ed ek
  obtain ⟨z0, z1, zb⟩ := two_new w (.cells #[.int .i64 k, .string nm, .slice an ns.length cn, .int .i64 ck, .int .i64 ci, .string cs, .slice ad 0 cd, .slice ak l.length c] 28) (.cells #[.int .i64 0, .string ⟨#[]⟩, .slice none 0 0, .int .i64 0, .int .i64 0, .string ⟨#[]⟩, .slice none 0 0, .slice none 0 0] 28)
  have hs2 : ((w.alloc (.cells #[.int .i64 k, .string nm, .slice an ns.length cn, .int .i64 ck, .int .i64 ci, .string cs, .slice ad 0 cd, .slice ak l.length c] 28)).alloc (.cells #[.int .i64 0, .string ⟨#[]⟩, .slice none 0 0, .int .i64 0, .int .i64 0, .string ⟨#[]⟩, .slice none 0 0, .slice none 0 0] 28)).heap.size = w.heap.size + 2 := by rw [size_new, size_new]
  have KO := Lib.hid (overCop_any k nm ns ck ci cs [] l ih (fun t ht => okEs_mem hok.2.2.2 t ht) hok.2.2.1 S _ _ _ _ (h.belowT hS zb) (fun b hb => Nat.lt_of_lt_of_le (hS b hb) zb.size))
  have HSL := Lib.hid hS
  have HOK : Hid (ok64 k ∧ nm.size ≤ maxLen ∧ ok64 ck ∧ ok64 ci ∧ cs.size ≤ maxLen) := Lib.hid ⟨HI.out.1.1, HI.out.1.2.1, HI.out.2.1.1, HI.out.2.1.2.1, HI.out.2.1.2.2.1⟩
  have HNL := Lib.hid hok.2.1
  clear ih hok hS h
  show Calls Try.prog 22 #[.agg #[.int .i64 k, .string nm, .slice an ns.length cn, .int .i64 ck, .int .i64 ci, .string cs, .slice ad 0 cd, .slice ak l.length c]] w _
  have KO' : Hid (Calls Try.prog 38 #[.agg #[.int .i64 k, .string nm, .slice an ns.length cn, .int .i64 ck, .int .i64 ci, .string cs, .slice ad 0 cd, .slice ak l.length c], .func (.func 22) #[] #[]] ((w.alloc (.cells #[.int .i64 k, .string nm, .slice an ns.length cn, .int .i64 ck, .int .i64 ci, .string cs, .slice ad 0 cd, .slice ak l.length c] 28)).alloc (.cells #[.int .i64 0, .string ⟨#[]⟩, .slice none 0 0, .int .i64 0, .int .i64 0, .string ⟨#[]⟩, .slice none 0 0, .slice none 0 0] 28)) fun e w' => ∃ vk', e = .returned (.agg #[.int .i64 k, .string nm, .slice an ns.length cn, .int .i64 ck, .int .i64 ci, .string cs, .slice ad 0 cd, vk']) ∧ InK w' (fun b => w.heap.size + 2 ≤ b) l vk' ∧ Below (w.heap.size + 2) ((w.alloc (.cells #[.int .i64 k, .string nm, .slice an ns.length cn, .int .i64 ck, .int .i64 ci, .string cs, .slice ad 0 cd, .slice ak l.length c] 28)).alloc (.cells #[.int .i64 0, .string ⟨#[]⟩, .slice none 0 0, .int .i64 0, .int .i64 0, .string ⟨#[]⟩, .slice none 0 0, .slice none 0 0] 28)) w') := by rw [hs2] at KO; exact KO
  clear KO
  have HZ0 := Lib.hid z0
  have HZ1 := Lib.hid z1
  have HZB := Lib.hid zb
  have HS2 := Lib.hid hs2
  clear z0 z1 zb hs2
  go_enter Try.func22, Try.ntmps22
  go_upto_region 1 with fail
  generalize (w.alloc (.cells #[.int .i64 k, .string nm, .slice an ns.length cn, .int .i64 ck, .int .i64 ci, .string cs, .slice ad 0 cd, .slice ak l.length c] 28)).alloc (.cells #[.int .i64 0, .string ⟨#[]⟩, .slice none 0 0, .int .i64 0, .int .i64 0, .string ⟨#[]⟩, .slice none 0 0, .slice none 0 0] 28) = w1 at *
  obtain ⟨x0, x1, x2, x3, x4, x5, x6, x7⟩ := look8n HZ0.out
  go_wp2_with fail
  refine KO'.out.mono ?_
  rintro e w2 ⟨vk', rfl, hk2, hb2⟩
  have HK2 := Lib.hid hk2
  obtain ⟨a9, c9, e9, _⟩ := hk2
  subst e9
  have HS3 : Hid (w.heap.size + 2 ≤ w2.heap.size) := Lib.hid (by have := hb2.size; rw [HS2.out] at this; exact this)
  have HB2 := Lib.hid (HZB.out.trans (hb2.mono (Nat.le_add_right _ 2)))
  have h20 := (hb2.block w.heap.size (by omega)).trans HZ0.out
  have h21 := (hb2.block (w.heap.size + 1) (by omega)).trans HZ1.out
  have HW3 := Lib.hid (heap_alloc_new w2 (.cells #[.int .i64 k, .string nm, .slice an ns.length cn, .int .i64 ck, .int .i64 ci, .string cs, .slice ad 0 cd, (.slice a9 l.length c9)] 28))
  have hb3 := (Below.refl w2.heap.size w2).alloc (Nat.le_refl _) (.cells #[.int .i64 k, .string nm, .slice an ns.length cn, .int .i64 ck, .int .i64 ci, .string cs, .slice ad 0 cd, (.slice a9 l.length c9)] 28)
  have HS4 := Lib.hid (size_new w2 (.cells #[.int .i64 k, .string nm, .slice an ns.length cn, .int .i64 ck, .int .i64 ci, .string cs, .slice ad 0 cd, (.slice a9 l.length c9)] 28))
  have h30 := (hb3.block _ (lt_of_block h20)).trans h20
  have h31 := (hb3.block _ (lt_of_block h21)).trans h21
  have HB3 := Lib.hid hb3
  clear x0 x1 x2 x3 x4 x5 x6 x7 hb2 hb3 h20 h21
  generalize hw3 : w2.alloc (.cells #[.int .i64 k, .string nm, .slice an ns.length cn, .int .i64 ck, .int .i64 ci, .string cs, .slice ad 0 cd, (.slice a9 l.length c9)] 28) = w3 at *
  have HE3 := Lib.hid hw3
  obtain ⟨x0, x1, x2, x3, x4, x5, x6, x7⟩ := look8n h30
  have H30 := Lib.hid h30
  have H31 := Lib.hid h31
  have HN3 := Lib.hid (HI.out.1.2.2.below (HB2.out.trans (HB3.out.mono HB2.out.size)))
  have HNL2 : Hid (([] : List ByteArray).length + ns.length ≤ 100000) := Lib.hid (by have := HNL.out; simp only [List.length_nil]; omega)
  have HC3 : Hid (w2.heap.size + 1 ≤ w3.heap.size) := Lib.hid (by rw [HS4.out]; exact Nat.le_refl _)
  clear hw3 h30 h31
  go_upto_region 2 with fail
  rw [HE3.out]
  go_upto_region 4 with (at_builtin; refine wpList_append_ts rfl _ _ rfl (w2.heap.size + 1) [] (.slice none 0 0) rfl (OutT.nil _ _) S ns (.slice an ns.length cn) HN3.out rfl HNL2.out HC3.out ?_; intro v4 w4 ho4 hk4 ha4; go_must (have HB4 := Lib.hid (hk4.toBelow (OutT.nil w3 (w2.heap.size + 1)) HC3.out)); go_must (obtain ⟨a4, c4, e4, hl4⟩ := ho4.slice); go_must (subst e4); go_must (have HO4 := Lib.hid ho4); go_must (have HL4 := Lib.hid hl4); go_must (have h42 : w4.heap[w2.heap.size]? = some (.cells #[.int .i64 k, .string nm, .slice an ns.length cn, .int .i64 ck, .int .i64 ci, .string cs, .slice ad 0 cd, (.slice a9 l.length c9)] 28) := ((HB4.out.block w2.heap.size (by omega)).trans HW3.out)); go_must (have H42 := Lib.hid h42); go_must (obtain ⟨y0, y1, y2, y3, y4, y5, y6, y7⟩ := look8n h42); go_must (obtain ⟨g0, g1, g2, g3, g4, g5, g6, g7⟩ := free8n h42); clear ho4 hk4 ha4 hl4 h42)
  have HQ5 : Hid (((w4.setCell ⟨w2.heap.size, 2, none⟩ (.slice a4 ns.length c4)).setCell ⟨w2.heap.size, 6, none⟩ (.slice none 0 0)).heap[w2.heap.size]? = some (.cells #[.int .i64 k, .string nm, .slice a4 ns.length c4, .int .i64 ck, .int .i64 ci, .string cs, .slice none 0 0, .slice a9 l.length c9] 28)) := Lib.hid (heap_setCell_same _ _ _ _ _ _ (heap_setCell_same _ _ _ _ _ _ H42.out))
  have HO5 : Hid (∀ b, b ≠ w2.heap.size → ((w4.setCell ⟨w2.heap.size, 2, none⟩ (.slice a4 ns.length c4)).setCell ⟨w2.heap.size, 6, none⟩ (.slice none 0 0)).heap[b]? = w4.heap[b]?) := Lib.hid fun b hb => (Below.heap_setCell _ _ _ _ hb).trans (Below.heap_setCell _ _ _ _ hb)
  have HB5 : Hid (Below w.heap.size w ((w4.setCell ⟨w2.heap.size, 2, none⟩ (.slice a4 ns.length c4)).setCell ⟨w2.heap.size, 6, none⟩ (.slice none 0 0))) := Lib.hid (Below.setCell (p := ⟨w2.heap.size, 6, none⟩) (Below.setCell (p := ⟨w2.heap.size, 2, none⟩) ((HB2.out.trans (HB3.out.mono HB2.out.size)).trans (HB4.out.mono (by have := HB2.out.size; omega))) (by show w.heap.size ≤ w2.heap.size; exact HB2.out.size) _) (by show w.heap.size ≤ w2.heap.size; exact HB2.out.size) _)
  clear y0 y1 y2 y3 y4 y5 y6 y7 g0 g1 g2 g3 g4 g5 g6 g7 x0 x1 x2 x3 x4 x5 x6 x7
  generalize (w4.setCell ⟨w2.heap.size, 2, none⟩ (.slice a4 ns.length c4)).setCell ⟨w2.heap.size, 6, none⟩ (.slice none 0 0) = w5 at *
  obtain ⟨y0, y1, y2, y3, y4, y5, y6, y7⟩ := look8n HQ5.out
  have hz5 := (HO5.out (w.heap.size + 1) (by have := HS3.out; omega)).trans ((HB4.out.block (w.heap.size + 1) (by have := HS3.out; omega)).trans H31.out)
  have HZ5 := Lib.hid hz5
  obtain ⟨z0, z1, z2, z3, z4, z5, z6, z7⟩ := look8n hz5
  obtain ⟨g0, g1, g2, g3, g4, g5, g6, g7⟩ := free8n hz5
  have HZ9 := Lib.hid (bput8 (v0 := .int .i64 k) (v1 := .string nm) (v2 := .slice a4 ns.length c4) (v3 := .int .i64 ck) (v4 := .int .i64 ci) (v5 := .string cs) (v6 := .slice none 0 0) (v7 := .slice a9 l.length c9) HZ5.out)
  have HB9 := Lib.hid (bbel8 HB5.out (Nat.le_succ w.heap.size) (.int .i64 k) (.string nm) (.slice a4 ns.length c4) (.int .i64 ck) (.int .i64 ci) (.string cs) (.slice none 0 0) (.slice a9 l.length c9))
  have HX9 := Lib.hid (fun b (hb : b ≠ w.heap.size + 1) => bput8_other (W := w5) hb (.int .i64 k) (.string nm) (.slice a4 ns.length c4) (.int .i64 ck) (.int .i64 ci) (.string cs) (.slice none 0 0) (.slice a9 l.length c9))
  have HN9 := Lib.hid ((HO4.out.at (fun b e => (HX9.out b (by have := (HL4.out b e).1; have := HS3.out; omega)).trans (HO5.out b (by have := (HL4.out b e).1; omega)))).inN (S := fun b => w.heap.size ≤ b) (fun s hs => HN3.out.sizes s (by simpa using hs)) (fun b e => by have := (HL4.out b e).1; have := HB2.out.size; show w.heap.size ≤ b; omega))
  have HK9 := Lib.hid (HK2.out.move (w' := (((((((w5.setCell ⟨w.heap.size + 1, 0, none⟩ (.int .i64 k)).setCell ⟨w.heap.size + 1, 1, none⟩ (.string nm)).setCell ⟨w.heap.size + 1, 2, none⟩ (.slice a4 ns.length c4)).setCell ⟨w.heap.size + 1, 3, none⟩ (.int .i64 ck)).setCell ⟨w.heap.size + 1, 4, none⟩ (.int .i64 ci)).setCell ⟨w.heap.size + 1, 5, none⟩ (.string cs)).setCell ⟨w.heap.size + 1, 6, none⟩ (.slice none 0 0)).setCell ⟨w.heap.size + 1, 7, none⟩ (.slice a9 l.length c9)) (S' := fun b => w.heap.size ≤ b) (fun b hb _ => by have h : w.heap.size + 2 ≤ b := hb; omega) fun b o y hb hc => by
    have hlt : b < w2.heap.size := World.block_lt_of_cell? _ _ hc
    have hb2 : w.heap.size + 2 ≤ b := hb
    rw [World.cell?_of_block (w := w2) (a := ⟨b, o, none⟩) ((HX9.out b (by omega)).trans ((HO5.out b (by omega)).trans ((HB4.out.block b (by omega)).trans (HB3.out.block b hlt))))]
    exact hc)
  clear HI HN3
  go_wp2
  exact bodyPost_ret (results_cell_row (P := Try.prog) rfl _ _ (w.heap.size + 1) 28 _ (0, 0) _ rfl HZ9.out Try.underlying28 rfl (by kernel_rfl)) rfl ⟨.slice a4 ns.length c4, .slice none 0 0, .slice a9 l.length c9, rfl, ⟨⟨HOK.out.1, HOK.out.2.1, HN9.out⟩, ⟨HOK.out.2.2.1, HOK.out.2.2.2.1, HOK.out.2.2.2.2, ⟨none, 0, rfl, Nat.le_refl _, Nat.zero_le _, fun _ => rfl, .inl rfl⟩⟩, HK9.out⟩, HB9.out⟩
mutual
theorem cop_any : ∀ t : PE, CopOk t
  | .mk k nm ns (.mk ck ci cs cl) l => cop_step k nm ns ck ci cs cl l (cop_all l)
theorem cop_all : ∀ l : List PE, ∀ t ∈ l, CopOk t
  | [], t, h => by cases h
  | u :: l, t, h => (List.mem_cons.1 h).elim (fun e => e ▸ cop_any u) (cop_all l t)
end
end Go.Proofs.Ytkjgdnfkpebejaa.Core
