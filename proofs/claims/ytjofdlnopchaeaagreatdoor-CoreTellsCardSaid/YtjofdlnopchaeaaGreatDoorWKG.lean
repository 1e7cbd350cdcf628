/-
Texts K42, K47, one behind the other (a claim bears sixty files). Conditions: as each says.
-/
import Derived.Test.YtjofdlnopchaeaaGreatDoorWKF
import Derived.Test.YtjofdlnopchaeaaGreatDoorK20
import Derived.Lib.SmallJoins

/-
What package core's renamed wants: an expression stored into its box, how things stand at the beginning and behind numbers. No condition.
-/
namespace Go.Proofs.YtjofdlnopchaeaaGreatDoor.Core
open Go.ChangeShapes Go.WideShapes Go.ChangeAt Go.RowKit Go.Deep
open Dat (PT ok64 RowX)
set_option maxRecDepth 100000

theorem form_nil {k : Int} {nm : ByteArray} {ns : List ByteArray} {ck ci : Int} {cs : ByteArray} {cl : List PT} {l : List PE} (h : formE (.mk k nm ns (.mk ck ci cs cl) l) = true) : cl = [] := by
  unfold formE fieldsB constOkB at h
  simp only [Bool.and_eq_true] at h
  have h2 := h.2.2
  split at h2
  · exact const_nil h2
  · unfold PT0 at h2
    exact ((Dat.sameB_mk _ _ _ _ _ _ _ _).1 h2).2.2.2
theorem put8 {W : World} {b : Nat} {u0 u1 u2 u3 u4 u5 u6 u7 v0 v1 v2 v3 v4 v5 v6 v7 : Value} {t : TypeId} {fr : Nat × Nat} (h : W.heap[b]? = some (.cells #[u0, u1, u2, u3, u4, u5, u6, u7] t fr)) : ((((((((W.setCell ⟨b, 0, none⟩ v0).setCell ⟨b, 1, none⟩ v1).setCell ⟨b, 2, none⟩ v2).setCell ⟨b, 3, none⟩ v3).setCell ⟨b, 4, none⟩ v4).setCell ⟨b, 5, none⟩ v5).setCell ⟨b, 6, none⟩ v6).setCell ⟨b, 7, none⟩ v7).heap[b]? = some (.cells #[v0, v1, v2, v3, v4, v5, v6, v7] t fr) := by
  have h0 : (W.setCell ⟨b, 0, none⟩ v0).heap[b]? = some (.cells #[v0, u1, u2, u3, u4, u5, u6, u7] t fr) := Go.Joins.block_setCell h v0
  have h1 : ((W.setCell ⟨b, 0, none⟩ v0).setCell ⟨b, 1, none⟩ v1).heap[b]? = some (.cells #[v0, v1, u2, u3, u4, u5, u6, u7] t fr) := Go.Joins.block_setCell h0 v1
  have h2 : (((W.setCell ⟨b, 0, none⟩ v0).setCell ⟨b, 1, none⟩ v1).setCell ⟨b, 2, none⟩ v2).heap[b]? = some (.cells #[v0, v1, v2, u3, u4, u5, u6, u7] t fr) := Go.Joins.block_setCell h1 v2
  have h3 : ((((W.setCell ⟨b, 0, none⟩ v0).setCell ⟨b, 1, none⟩ v1).setCell ⟨b, 2, none⟩ v2).setCell ⟨b, 3, none⟩ v3).heap[b]? = some (.cells #[v0, v1, v2, v3, u4, u5, u6, u7] t fr) := Go.Joins.block_setCell h2 v3
  have h4 : (((((W.setCell ⟨b, 0, none⟩ v0).setCell ⟨b, 1, none⟩ v1).setCell ⟨b, 2, none⟩ v2).setCell ⟨b, 3, none⟩ v3).setCell ⟨b, 4, none⟩ v4).heap[b]? = some (.cells #[v0, v1, v2, v3, v4, u5, u6, u7] t fr) := Go.Joins.block_setCell h3 v4
  have h5 : ((((((W.setCell ⟨b, 0, none⟩ v0).setCell ⟨b, 1, none⟩ v1).setCell ⟨b, 2, none⟩ v2).setCell ⟨b, 3, none⟩ v3).setCell ⟨b, 4, none⟩ v4).setCell ⟨b, 5, none⟩ v5).heap[b]? = some (.cells #[v0, v1, v2, v3, v4, v5, u6, u7] t fr) := Go.Joins.block_setCell h4 v5
  have h6 : (((((((W.setCell ⟨b, 0, none⟩ v0).setCell ⟨b, 1, none⟩ v1).setCell ⟨b, 2, none⟩ v2).setCell ⟨b, 3, none⟩ v3).setCell ⟨b, 4, none⟩ v4).setCell ⟨b, 5, none⟩ v5).setCell ⟨b, 6, none⟩ v6).heap[b]? = some (.cells #[v0, v1, v2, v3, v4, v5, v6, u7] t fr) := Go.Joins.block_setCell h5 v6
  have h7 : ((((((((W.setCell ⟨b, 0, none⟩ v0).setCell ⟨b, 1, none⟩ v1).setCell ⟨b, 2, none⟩ v2).setCell ⟨b, 3, none⟩ v3).setCell ⟨b, 4, none⟩ v4).setCell ⟨b, 5, none⟩ v5).setCell ⟨b, 6, none⟩ v6).setCell ⟨b, 7, none⟩ v7).heap[b]? = some (.cells #[v0, v1, v2, v3, v4, v5, v6, v7] t fr) := Go.Joins.block_setCell h6 v7
  exact h7
theorem below8 {B : Nat} {w0 W : World} (h : Below B w0 W) {b : Nat} (hb : B ≤ b) (v0 v1 v2 v3 v4 v5 v6 v7 : Value) : Below B w0 ((((((((W.setCell ⟨b, 0, none⟩ v0).setCell ⟨b, 1, none⟩ v1).setCell ⟨b, 2, none⟩ v2).setCell ⟨b, 3, none⟩ v3).setCell ⟨b, 4, none⟩ v4).setCell ⟨b, 5, none⟩ v5).setCell ⟨b, 6, none⟩ v6).setCell ⟨b, 7, none⟩ v7) := ((((((((h.setCell (p := ⟨b, 0, none⟩) hb v0).setCell (p := ⟨b, 1, none⟩) hb v1).setCell (p := ⟨b, 2, none⟩) hb v2).setCell (p := ⟨b, 3, none⟩) hb v3).setCell (p := ⟨b, 4, none⟩) hb v4).setCell (p := ⟨b, 5, none⟩) hb v5).setCell (p := ⟨b, 6, none⟩) hb v6).setCell (p := ⟨b, 7, none⟩) hb v7)
theorem off8 {W : World} {b : Nat} (v0 v1 v2 v3 v4 v5 v6 v7 : Value) {c : Nat} (hc : c ≠ b) : ((((((((W.setCell ⟨b, 0, none⟩ v0).setCell ⟨b, 1, none⟩ v1).setCell ⟨b, 2, none⟩ v2).setCell ⟨b, 3, none⟩ v3).setCell ⟨b, 4, none⟩ v4).setCell ⟨b, 5, none⟩ v5).setCell ⟨b, 6, none⟩ v6).setCell ⟨b, 7, none⟩ v7).heap[c]? = W.heap[c]? := by
  rw [Below.heap_setCell _ _ _ _ hc, Below.heap_setCell _ _ _ _ hc, Below.heap_setCell _ _ _ _ hc, Below.heap_setCell _ _ _ _ hc, Below.heap_setCell _ _ _ _ hc, Below.heap_setCell _ _ _ _ hc, Below.heap_setCell _ _ _ _ hc, Below.heap_setCell _ _ _ _ hc]
theorem insNil {w w' : World} {S S' : Nat → Prop} {v : Value} (h : InS w S [] v) : InS w' S' [] v := by
  obtain ⟨a, c, e, h1, h2, h3, _⟩ := h
  exact ⟨a, c, e, h1, h2, h3, .inl rfl⟩
theorem blk_drew_alloc {w0 w6 : World} {o : Obj} (h : Below (w0.alloc o).drew.heap.size (w0.alloc o).drew w6) : w6.heap[w0.heap.size]? = some o :=
  (h.block w0.heap.size (show w0.heap.size < (w0.alloc o).heap.size by rw [size_new]; exact Nat.lt_succ_self _)).trans (heap_alloc_new w0 o)
/-- At the beginning. -/
theorem RN.start {C rb sb bb n N nx : Nat} {U : List ByteArray} {m : ByteArray → Option Int} {f : ByteArray → Value} {env : ByteArray → List Nat} {w w0 W : World} {eo zo qo : Obj} {q : Nat} (hst : RenSt w C rb sb bb n N U m f env nx) (hw0 : (w.alloc eo).alloc zo = w0) (hb : Below w0.heap.size w0 W) (hq : w0.heap.size ≤ q) (hqb : W.heap[q]? = some qo) :
    RN C rb sb bb n U m w f q eo zo qo [] (.slice none 0 0) [] (.slice none 0 0) W f env nx N := by
  obtain ⟨z0, z1, zb⟩ := two_new w eo zo
  rw [hw0] at z0 z1 zb
  have hs0 : w0.heap.size = w.heap.size + 2 := by rw [← hw0, size_new, size_new]
  have hB : Below w.heap.size w W := zb.trans (hb.mono (by omega))
  have hC : C ≤ w.heap.size := by have := hst.rbC; have := lt_of_block hst.blk; omega
  exact ⟨hst.below hB, RenFr.of_below hC hB, (hb.block _ (by omega)).trans z0, (hb.block _ (by omega)).trans z1, hqb, hst.noNew (Nat.le_refl _), hst.noNew (by omega), hst.noNew (by omega), RowN.nil _ _, fun b e => (by cases e), OutT.nil _ _, fun b e => (by cases e), by omega, lt_of_block hst.blk, hst.cnt.lt, hst.map.lt⟩
theorem RowN.down {w : World} {C C' : Nat} {l : List Nat} {v : Value} (h : RowN w C l v) (hC : C' ≤ C) : RowN w C' l v := by
  refine ⟨h.1, h.2.imp id ?_⟩
  rintro ⟨g, cap, cur, rfl, h1, h2⟩
  exact ⟨g, cap, cur, rfl, Nat.le_trans hC h1, h2⟩
/-- Behind numbers. -/
theorem RN.numbers {C rb sb bb n N nx nx' : Nat} {U : List ByteArray} {m : ByteArray → Option Int} {f f0 : ByteArray → Value} {env : ByteArray → List Nat} {w W W' : World} {eo zo qo : Obj} {q : Nat} {l : List Nat} {v : Value}
    (h : RN C rb sb bb n U m w f0 q eo zo qo [] (.slice none 0 0) [] (.slice none 0 0) W f env nx N) (hr : RowN W' W.heap.size l v) (hs : RenSt W' C rb sb bb n N U m f env nx') (hk : KP W (some rb) W') :
    RN C rb sb bb n U m w f0 q eo zo qo l v [] (.slice none 0 0) W' f env nx' N := by
  have h1 := h.call hs (RenFr.of_kp h.sizeC h.st.rbC hk)
  have hz := h.fr.1.size
  have hz0 := lt_of_block h.zb
  have hq := lt_of_block h.qb
  have hl := World.ownsRow.lt hr
  exact ⟨h1.st, h1.fr, h1.eb, h1.zb, h1.qb, h1.eL, h1.zL, h1.qL, hr.down (by omega), fun b e => ⟨h.st.noNew (hl b e).1, by have := (hl b e).1; omega⟩, OutT.nil _ _, fun b e => (by cases e), h1.hq, h1.hr, h1.hs, h1.hb⟩
end Go.Proofs.YtjofdlnopchaeaaGreatDoor.Core

/-
What package core's renamed wants besides: a part of the kids as a row, the kids' row in its box, the end. No condition.
-/
namespace Go.Proofs.YtjofdlnopchaeaaGreatDoor.Core
open Go.ChangeShapes Go.WideShapes Go.ChangeAt Go.RowKit Go.Deep
open Dat (PT ok64 RowX)
set_option maxRecDepth 100000

theorem InK.takeQ {w : World} {S : Nat → Prop} {l : List PE} {a : Option Addr} {n c q : Nat} (h : InK w S l (.slice a n c)) (hq : q ≤ l.length) : InK w S (l.take q) (.slice a q c) := by
  obtain ⟨a', c', e, hl, hm, ha, hr⟩ := h
  cases e
  refine ⟨a, c, by rw [List.length_take, Nat.min_eq_left hq], by rw [List.length_take]; omega, hm, ha, ?_⟩
  rcases hr with rfl | ⟨b, o, rfl, hs, hr⟩
  · exact .inl (by simp)
  · refine .inr ⟨b, o, rfl, hs, inEs_mk fun j hj => ?_⟩
    rw [List.getElem_take]
    exact inEs_get hr j (by rw [List.length_take] at hj; omega)
theorem InK.dropQ {w : World} {S : Nat → Prop} {l : List PE} {b o n c q : Nat} (h : InK w S l (.slice (some ⟨b, o, none⟩) n c)) (hq : q < l.length) : InK w S (l.drop q) (.slice (some ⟨b, o + q * 8, none⟩) (l.length - q) (c - q)) := by
  obtain ⟨a', c', e, hl, hm, ha, hr⟩ := h
  cases e
  refine ⟨some ⟨b, o + q * 8, none⟩, c - q, by rw [List.length_drop], by rw [List.length_drop]; omega, by omega, (fun e => by cases e), ?_⟩
  rcases hr with e0 | ⟨b', o', e, hs, hr⟩
  · rw [e0] at hq; cases hq
  · cases e
    refine .inr ⟨b, o + q * 8, rfl, hs, inEs_mk fun j hj => ?_⟩
    rw [List.getElem_drop]
    rw [List.length_drop] at hj
    have := inEs_get hr (q + j) (by omega)
    rwa [show o + (q + j) * 8 = o + q * 8 + j * 8 by omega] at this
theorem InK.dropNil {w : World} {S : Nat → Prop} {l : List PE} {a : Option Addr} {q n c : Nat} (hn : l.length - q = n) (hq : l.length ≤ q) (ha : a = none → c = 0) (hm : c ≤ maxLen) : InK w S (l.drop q) (.slice a n c) := by
  rw [List.drop_of_length_le hq]
  exact ⟨a, c, by rw [← hn, Nat.sub_eq_zero_of_le hq]; rfl, Nat.zero_le _, hm, ha, .inl rfl⟩
theorem InK.belowC {w w' : World} {S : Nat → Prop} {l : List PE} {v : Value} {C : Nat} (h : InK w S l v) (hS : ∀ b, S b → b < C) (hb : Below C w w') : InK w' S l v :=
  h.move (fun _ h _ => h) fun b o y hs hc => by rw [World.cell?_of_block (w := w) (a := ⟨b, o, none⟩) (hb.block b (hS b hs))]; exact hc
theorem InN.belowC {w w' : World} {S : Nat → Prop} {l : List ByteArray} {v : Value} {C : Nat} (h : InN w S l v) (hS : ∀ b, S b → b < C) (hb : Below C w w') : InN w' S l v :=
  h.move (fun _ h _ => h) fun b o y hs hc => by rw [World.cell?_of_block (w := w) (a := ⟨b, o, none⟩) (hb.block b (hS b hs))]; exact hc
/-- The kids that are made, at the beginning. -/
theorem KidSt.nil (C1 : Nat) (W : World) (f : ByteArray → Value) : KidSt C1 W f [] (.slice none 0 0) := ⟨OutE.nil _ _ _, fun b e => (by cases e)⟩
theorem now_size {env : ByteArray → List Nat} {s : ByteArray} (hs : s.size ≤ maxLen) (he : ∀ i ∈ env s, i ≤ 1000000000) : (nowT env s).size ≤ maxLen := by
  unfold nowT
  split
  · exact hs
  · rename_i i h
    exact numS_size i (he i (List.mem_of_getLast? h))
theorem nums_lt {U : List ByteArray} {n n' : Nat} {l : List Nat} (h : NumsL U n l n') : ∀ i ∈ l, i < n' := by
  induction h with
  | nil => intro i hi; cases hi
  | skip _ _ ih => intro i hi; have := ih i hi; omega
  | take _ _ ih =>
    intro i hi
    rcases List.mem_append.1 hi with hi | hi
    · have := ih i hi; omega
    · simp only [List.mem_singleton] at hi; omega
theorem sizeEs_split : ∀ (l : List PE) (q : Nat), sizeEs (l.take q) + sizeEs (l.drop q) = sizeEs l
  | [], q => by simp [sizeEs]
  | t :: l, 0 => by simp [sizeEs]
  | t :: l, q + 1 => by simp only [List.take_succ_cons, List.drop_succ_cons, sizeEs]; have := sizeEs_split l q; omega
theorem RowN.full {w : World} {C : Nat} {l : List Nat} {v : Value} (h : RowN w C l v) (h0 : l ≠ []) : ∃ g cap, v = .slice (some ⟨g, 0, none⟩) l.length cap ∧ l.length ≤ cap ∧ cap ≤ maxLen := by
  rcases h.2 with ⟨e, e0⟩ | ⟨g, cap, cur, rfl, hb, hg, h3, h4, _⟩
  · exact absurd (List.eq_nil_of_length_eq_zero e0) h0
  · exact ⟨g, cap, rfl, h3, h4⟩
theorem take_push {ns : List ByteArray} {nums : List Nat} {env : ByteArray → List Nat} {j : Nat} (h1 : j < ns.length) (h2 : j < nums.length) : pushE env (ns.take (j + 1)) (nums.take (j + 1)) = push1 (pushE env (ns.take j) (nums.take j)) ns[j] nums[j] := by
  rw [List.take_succ_eq_append_getElem h1, List.take_succ_eq_append_getElem h2]
  exact push_snoc _ _ _ _ _ (by rw [List.length_take, List.length_take]; omega)
theorem take_pop {ns : List ByteArray} {env : ByteArray → List Nat} {j : Nat} (h1 : j < ns.length) : popE env (ns.take (j + 1)) = pop1 (popE env (ns.take j)) ns[j] := by
  rw [List.take_succ_eq_append_getElem h1]
  exact pop_snoc _ _ _
theorem RowN.one {w : World} {C : Nat} {l : List Nat} {a : Option Addr} {n c : Nat} (h : RowN w C l (.slice a n c)) {j : Nat} (hj : j < l.length) : ∃ g, a = some ⟨g, 0, none⟩ ∧ w.cell? ⟨g, j, none⟩ = some (.int .i64 (l[j] : Int)) ∧ g < w.heap.size := by
  have ho := h
  unfold RowN at ho
  rcases h.2 with ⟨e, h0⟩ | ⟨g, cap, cur, e, hb, hg, _⟩
  · omega
  · cases e
    have := ho.cells (g := g) rfl j (.int .i64 (l[j] : Int)) (by simp [hj])
    exact ⟨g, rfl, by simpa [add_plain] using this, lt_of_block hg⟩
section
variable {C C1 rb sb bb n : Nat} {U : List ByteArray} {m : ByteArray → Option Int} {w : World} {f0 : ByteArray → Value} {q : Nat} {eo zo qo : Obj} {nums : List Nat} {vN : Value} {names : List ByteArray} {vT : Value} {W : World} {f : ByteArray → Value} {env : ByteArray → List Nat} {nx N : Nat} {kl : List PE} {vkk : Value}
/-- .. as renamedAll takes them. -/
theorem RN.all (h : RN C rb sb bb n U m w f0 q eo zo qo nums vN names vT W f env nx N) {l : List PE} {v : Value} (hk : KidSt C1 W f l v) : AllSt C C1 rb sb bb n U m env W f v.ownBlock W l v N f nx :=
  ⟨hk.1, hk.2, h.st, RenFX.refl _ _ _ _ _ _, .inl rfl⟩
theorem RN.lts (h : RN C rb sb bb n U m w f0 q eo zo qo nums vN names vT W f env nx N) : w.heap.size < W.heap.size ∧ w.heap.size + 1 < W.heap.size ∧ q < W.heap.size ∧ rb < W.heap.size ∧ C ≤ W.heap.size :=
  ⟨lt_of_block h.eb, lt_of_block h.zb, lt_of_block h.qb, lt_of_block h.st.blk, h.sizeC⟩
/-- A cell of block q is stored. -/
theorem RN.cellq {cells cells' : Array Value} {t : TypeId} {i : Nat} {v : Value} (h : RN C rb sb bb n U m w f0 q eo zo (.cells cells t (0, 0)) nums vN names vT W f env nx N) (hc : cells.setIfInBounds i v = cells') : RN C rb sb bb n U m w f0 q eo zo (.cells cells' t (0, 0)) nums vN names vT (W.setCell ⟨q, i, none⟩ v) f env nx N :=
  h.putq ((Below.refl 0 W).setCell (p := ⟨q, i, none⟩) (Nat.zero_le _) v) (fun b hb => Below.heap_setCell _ _ _ _ hb) (by rw [← hc]; exact Go.Joins.block_setCell h.qb v)
/-- A name is bound. -/
theorem RN.bind1 (h : RN C rb sb bb n U m w f0 q eo zo qo nums vN names vT W f env nx N) {l : List PE} {vk : Value} (hk : KidSt C1 W f l vk) (hr : rb < C1) (hb : bb < C1) {s : ByteArray} {i : Nat} (hi : i < nx) {w1 w' : World} {g k cap : Nat}
    (hrow : RowN w1 C (env s ++ [i]) (.slice (some ⟨g, 0, none⟩) k cap)) (hg : W.grownBy w1 (f s).ownBlock) (hat : (f s).ownBlock = some g ∨ g = W.heap.size) (hm : MapV w' bb (N + 1) (setV f s (.slice (some ⟨g, 0, none⟩) k cap))) (hg2 : w1.grownBy w' (some bb)) :
    RN C rb sb bb n U m w f0 q eo zo qo nums vN names vT w' (setV f s (.slice (some ⟨g, 0, none⟩) k cap)) (push1 env s i) nx (N + 1) ∧ KidSt C1 w' (setV f s (.slice (some ⟨g, 0, none⟩) k cap)) l vk := by
  have hfr := RenFr.of_bind (k := k) (cap := cap) h.st hg hat hg2 (fun b e => (World.ownsRow.lt (h.st.rows s) b e).1)
  exact ⟨h.call (h.st.bind hi hrow hg hat hm hg2) hfr, hk.call hr hb hfr⟩
theorem RN.bindStep (h : RN C rb sb bb n U m w f0 q eo zo qo nums vN names vT W f env nx N) {l : List PE} {vk : Value} (hk : KidSt C1 W f l vk) (hr : rb < C1) (hb : bb < C1) {s : ByteArray} {i : Nat} (hi : i < nx) {aF : Option Addr} {kF cF : Nat} (hfs : f s = .slice aF kF cF) {w7 : World} {g k cap : Nat}
    (h7 : RowN w7 C (env s ++ [i]) (.slice (some ⟨g, 0, none⟩) k cap)) (hg7 : W.grownBy w7 (Value.slice aF kF cF).ownBlock) (hat7 : (Value.slice aF kF cF).ownBlock = some g ∨ g = W.heap.size) (hNm : N < maxLen) (hsz : s.size ≤ maxLen) {gN j : Nat} {u : Value} (hN : vN.ownBlock = some gN) (hc : W.cell? ⟨gN, j, none⟩ = some u) :
    ∃ w8, (w7.cell? ⟨rb, 1, none⟩ = some (.map (some bb)) ∧ w7.cell? ⟨gN, j, none⟩ = some u) ∧ (Instr.mapUpdate 50 (.map (some bb)) (.string s) (.slice (some ⟨g, 0, none⟩) k cap)).run Tryz.prog w7 = .ok () w8 ∧ (w8.cell? ⟨rb, 1, none⟩ = some (.map (some bb)) ∧ w8.cell? ⟨gN, j, none⟩ = some u) ∧
      RN C rb sb bb n U m w f0 q eo zo qo nums vN names vT w8 (setV f s (.slice (some ⟨g, 0, none⟩) k cap)) (push1 env s i) nx (N + 1) ∧ KidSt C1 w8 (setV f s (.slice (some ⟨g, 0, none⟩) k cap)) l vk ∧ W.heap.size ≤ w8.heap.size := by
  rw [← hfs] at hg7 hat7
  have hrl := lt_of_block h.st.blk
  have hgl := World.block_lt_of_cell? _ _ hc
  have n1 : some rb ≠ (f s).ownBlock := fun e => (h.st.row_ne s e.symm).1 rfl
  have n3 : some bb ≠ (f s).ownBlock := fun e => (h.st.row_ne s e.symm).2.2 rfl
  have n2 : some gN ≠ (f s).ownBlock := fun e => (h.numL gN hN).1 s e.symm
  have hbb : gN ≠ bb := by
    have := h.hb
    have := (World.ownsRow.lt h.num gN hN).1
    omega
  have m7 := h.st.map.at (hg7.block bb h.st.map.lt n3)
  obtain ⟨w8, hrun8, hm8, hg8⟩ := m7.store hNm s (.slice (some ⟨g, 0, none⟩) k cap) hsz
  have b7 := (hg7.block rb hrl n1).trans h.st.blk
  have b8 := (hg8.block rb (lt_of_block b7) (by simpa using h.st.ne2)).trans b7
  have e7 := hg7.block gN hgl n2
  have l7 : gN < w7.heap.size := Nat.lt_of_lt_of_le hgl hg7.size
  have e8 := (hg8.block gN l7 (by simpa using hbb)).trans e7
  exact ⟨w8, ⟨by rw [Lib.cell_of_heap b7]; rfl, (World.cell?_of_block (w := W) (a := ⟨gN, j, none⟩) e7).trans hc⟩, hrun8, ⟨by rw [Lib.cell_of_heap b8]; rfl, (World.cell?_of_block (w := W) (a := ⟨gN, j, none⟩) e8).trans hc⟩, (h.bind1 hk hr hb hi h7 hg7 hat7 hm8 hg8).1, (h.bind1 hk hr hb hi h7 hg7 hat7 hm8 hg8).2, Nat.le_trans hg7.size hg8.size⟩
theorem RN.unbind1 (h : RN C rb sb bb n U m w f0 q eo zo qo nums vN names vT W f env nx N) {l : List PE} {vk : Value} (hk : KidSt C1 W f l vk) (hr : rb < C1) (hb : bb < C1) {s : ByteArray} {a : Option Addr} {k cap : Nat} (hf : f s = .slice a k cap) (h0 : env s ≠ []) {w' : World}
    (hm : MapV w' bb (N + 1) (setV f s (.slice a (k - 1) cap))) (hg2 : W.grownBy w' (some bb)) :
    RN C rb sb bb n U m w f0 q eo zo qo nums vN names vT w' (setV f s (.slice a (k - 1) cap)) (pop1 env s) nx (N + 1) ∧ KidSt C1 w' (setV f s (.slice a (k - 1) cap)) l vk := by
  have hfr := RenFr.of_unbind h.st hf hg2
  exact ⟨h.call (h.st.unbind hf h0 hm hg2) hfr, hk.call hr hb hfr⟩
theorem KidSt.alloc (hk : KidSt C1 W f kl vkk) (h : RN C rb sb bb n U m w f0 q eo zo qo nums vN names vT W f env nx N) (hr : rb < C1) (hb : bb < C1) {W' : World} (hbw : Below W.heap.size W W') : KidSt C1 W' f kl vkk :=
  hk.call hr hb (RenFr.of_below h.sizeC hbw)
theorem RN.rbc (h : RN C rb sb bb n U m w f0 q eo zo qo nums vN names vT W f env nx N) : W.cell? ⟨rb, 1, none⟩ = some (.map (some bb)) := by rw [Lib.cell_of_heap h.st.blk]; rfl
theorem KidSt.cellq {l : List PE} {vk : Value} (h : KidSt C1 W f l vk) (hq : q < C1) {i : Nat} {v : Value} : KidSt C1 (W.setCell ⟨q, i, none⟩ v) f l vk :=
  h.putq hq (fun _ hb => Below.heap_setCell _ _ _ _ hb)
end
/-- What is made is stored into the answer's box: the end. -/
theorem renamed_end {C C1 rb sb bb n : Nat} {U : List ByteArray} {m : ByteArray → Option Int} {w : World} {f0 : ByteArray → Value} {q : Nat} {eo qo : Obj} {nums : List Nat} {vN : Value} {names : List ByteArray} {vT : Value} {W : World} {f : ByteArray → Value} {env : ByteArray → List Nat} {nx0 nx N N0 : Nat} {z0 z1 z2 z3 z4 z5 z6 z7 : Value} {t : PE}
    {k : Int} {nm : ByteArray} {ck ci : Int} {cs : ByteArray} {kids : List PE} {vd vK : Value}
    (h : RN C rb sb bb n U m w f0 q eo (.cells #[z0, z1, z2, z3, z4, z5, z6, z7] 28 (0, 0)) qo nums vN names vT W f env nx N) (hk : KidSt C1 W f kids vK) (hC1 : w.heap.size + 2 ≤ C1)
    (h1 : ok64 k) (h2 : nm.size ≤ maxLen) (h3 : ok64 ck) (h4 : ok64 ci) (h5 : cs.size ≤ maxLen) (hnam : ∀ s ∈ names, s.size ≤ maxLen) (S : Nat → Prop) (hd : InS W S [] vd)
    (hr : RenR U env nx0 t (.mk k nm names (.mk ck ci cs []) kids) nx) (hN : N ≤ N0 + 2 * sizeE t) :
    ((((((((W.setCell ⟨w.heap.size + 1, 0, none⟩ (.int .i64 k)).setCell ⟨w.heap.size + 1, 1, none⟩ (.string nm)).setCell ⟨w.heap.size + 1, 2, none⟩ (vT)).setCell ⟨w.heap.size + 1, 3, none⟩ (.int .i64 ck)).setCell ⟨w.heap.size + 1, 4, none⟩ (.int .i64 ci)).setCell ⟨w.heap.size + 1, 5, none⟩ (.string cs)).setCell ⟨w.heap.size + 1, 6, none⟩ (vd)).setCell ⟨w.heap.size + 1, 7, none⟩ (vK)).heap[w.heap.size + 1]? = some (.cells #[.int .i64 k, .string nm, vT, .int .i64 ck, .int .i64 ci, .string cs, vd, vK] 28 (0, 0)) ∧
    RenamedIs C rb sb bb n N0 U m env nx0 w f0 t (.returned (.agg #[.int .i64 k, .string nm, vT, .int .i64 ck, .int .i64 ci, .string cs, vd, vK])) ((((((((W.setCell ⟨w.heap.size + 1, 0, none⟩ (.int .i64 k)).setCell ⟨w.heap.size + 1, 1, none⟩ (.string nm)).setCell ⟨w.heap.size + 1, 2, none⟩ (vT)).setCell ⟨w.heap.size + 1, 3, none⟩ (.int .i64 ck)).setCell ⟨w.heap.size + 1, 4, none⟩ (.int .i64 ci)).setCell ⟨w.heap.size + 1, 5, none⟩ (.string cs)).setCell ⟨w.heap.size + 1, 6, none⟩ (vd)).setCell ⟨w.heap.size + 1, 7, none⟩ (vK)) := by
  have hz := h.fr.1.size
  have hoff : ∀ b, b ≠ w.heap.size + 1 → ((((((((W.setCell ⟨w.heap.size + 1, 0, none⟩ (.int .i64 k)).setCell ⟨w.heap.size + 1, 1, none⟩ (.string nm)).setCell ⟨w.heap.size + 1, 2, none⟩ (vT)).setCell ⟨w.heap.size + 1, 3, none⟩ (.int .i64 ck)).setCell ⟨w.heap.size + 1, 4, none⟩ (.int .i64 ci)).setCell ⟨w.heap.size + 1, 5, none⟩ (.string cs)).setCell ⟨w.heap.size + 1, 6, none⟩ (vd)).setCell ⟨w.heap.size + 1, 7, none⟩ (vK)).heap[b]? = W.heap[b]? := fun b hb => off8 _ _ _ _ _ _ _ _ hb
  have hzl := h.zL
  refine ⟨put8 h.zb, k, nm, names, ck, ci, cs, [], kids, vT, vd, vK, nx, f, N, rfl, hr, ?_, ?_, ?_, hN⟩
  · have hnl := World.ownsRow.lt h.nam
    have hT : OutT ((((((((W.setCell ⟨w.heap.size + 1, 0, none⟩ (.int .i64 k)).setCell ⟨w.heap.size + 1, 1, none⟩ (.string nm)).setCell ⟨w.heap.size + 1, 2, none⟩ (vT)).setCell ⟨w.heap.size + 1, 3, none⟩ (.int .i64 ck)).setCell ⟨w.heap.size + 1, 4, none⟩ (.int .i64 ci)).setCell ⟨w.heap.size + 1, 5, none⟩ (.string cs)).setCell ⟨w.heap.size + 1, 6, none⟩ (vd)).setCell ⟨w.heap.size + 1, 7, none⟩ (vK)) (w.heap.size + 2) names vT := h.nam.at fun b e => hoff b (by have := (hnl b e).1; omega)
    obtain ⟨_, _, _, hkl⟩ := hk.1.slice
    have hK : OutE ((((((((W.setCell ⟨w.heap.size + 1, 0, none⟩ (.int .i64 k)).setCell ⟨w.heap.size + 1, 1, none⟩ (.string nm)).setCell ⟨w.heap.size + 1, 2, none⟩ (vT)).setCell ⟨w.heap.size + 1, 3, none⟩ (.int .i64 ck)).setCell ⟨w.heap.size + 1, 4, none⟩ (.int .i64 ci)).setCell ⟨w.heap.size + 1, 5, none⟩ (.string cs)).setCell ⟨w.heap.size + 1, 6, none⟩ (vd)).setCell ⟨w.heap.size + 1, 7, none⟩ (vK)) C1 (fun b => C1 ≤ b ∧ NoRow f b) kids vK := hk.1.at (fun b e => hoff b (by have := (hkl b e).1; omega)) (fun b hb _ => ⟨hoff b (by have := hb.1; omega), hb⟩)
    exact ⟨⟨h1, h2, hT.inN hnam fun b e => ⟨by have := (hnl b e).1; omega, (h.namL b e).1⟩⟩, ⟨h3, h4, h5, insNil hd⟩, hK.inK (fun b hb => ⟨by have := hb.1; omega, hb.2⟩) fun b e => ⟨by have := (hkl b e).1; omega, hk.2 b e⟩⟩
  · refine h.st.at fun b hb => hoff b ?_
    rcases hb with rfl | rfl | rfl | ⟨s, e⟩
    · have := h.hr; omega
    · have := h.hs; omega
    · have := h.hb; omega
    · rintro rfl; exact hzl s e
  · exact ⟨below8 h.fr.1 (by have := h.st.rbC; have := h.hr; omega) _ _ _ _ _ _ _ _, fun b b1 b2 b3 b4 => by
      obtain ⟨a1, a2⟩ := h.fr.2 b b1 b2 b3 b4
      exact ⟨(hoff b (by omega)).trans a1, a2⟩⟩
/-- Eight cells of a block at once. -/
theorem look8w {W : World} {g : Nat} {x0 x1 x2 x3 x4 x5 x6 x7 : Value} {ty : TypeId} (hb : W.heap[g]? = some (.cells #[x0, x1, x2, x3, x4, x5, x6, x7] ty)) :
    W.cell? ⟨g, 0, none⟩ = some x0 ∧ W.cell? ⟨g, 1, none⟩ = some x1 ∧ W.cell? ⟨g, 2, none⟩ = some x2 ∧ W.cell? ⟨g, 3, none⟩ = some x3 ∧ W.cell? ⟨g, 4, none⟩ = some x4 ∧ W.cell? ⟨g, 5, none⟩ = some x5 ∧ W.cell? ⟨g, 6, none⟩ = some x6 ∧ W.cell? ⟨g, 7, none⟩ = some x7 := by
  refine ⟨?_, ?_, ?_, ?_, ?_, ?_, ?_, ?_⟩
  all_goals (rw [Lib.cell_of_heap hb]; rfl)
theorem free8w {W : World} {g : Nat} {x0 x1 x2 x3 x4 x5 x6 x7 : Value} {ty : TypeId} (hb : W.heap[g]? = some (.cells #[x0, x1, x2, x3, x4, x5, x6, x7] ty)) :
    W.frozen? ⟨g, 0, none⟩ = false ∧ W.frozen? ⟨g, 1, none⟩ = false ∧ W.frozen? ⟨g, 2, none⟩ = false ∧ W.frozen? ⟨g, 3, none⟩ = false ∧ W.frozen? ⟨g, 4, none⟩ = false ∧ W.frozen? ⟨g, 5, none⟩ = false ∧ W.frozen? ⟨g, 6, none⟩ = false ∧ W.frozen? ⟨g, 7, none⟩ = false :=
  ⟨Lib.frozen_of_heap hb 0, Lib.frozen_of_heap hb 1, Lib.frozen_of_heap hb 2, Lib.frozen_of_heap hb 3, Lib.frozen_of_heap hb 4, Lib.frozen_of_heap hb 5, Lib.frozen_of_heap hb 6, Lib.frozen_of_heap hb 7⟩
end Go.Proofs.YtjofdlnopchaeaaGreatDoor.Core
