/-
What renaming answers, as a relation; rows of texts and of expressions of the call's own, and append to them. No condition.
-/
import Derived.Test.YtkjgdnfkpebejaaWKE
import Derived.Test.YtkjgdnfkpebejaaWKD

namespace Go.Proofs.Ytkjgdnfkpebejaa.Core
open Go.ChangeShapes Go.WideShapes Go.ChangeAt Go.RowKit Go.Deep
open Dat (PT ok64 RowX)
set_option maxRecDepth 100000

/-- A name is bound by one more number. -/
def push1 (env : ByteArray → List Nat) (s : ByteArray) (i : Nat) : ByteArray → List Nat := fun t => if t = s then env t ++ [i] else env t
def pushE : (ByteArray → List Nat) → List ByteArray → List Nat → ByteArray → List Nat
  | env, s :: ns, i :: is => pushE (push1 env s i) ns is
  | env, [], _ => env
  | env, _ :: _, [] => env
mutual
/-- The expression t comes to t' where env holds, with numbers from nx on; nx' is the next number then. -/
def RenR (U : List ByteArray) : (ByteArray → List Nat) → Nat → PE → PE → Nat → Prop
  | env, nx, .mk k nm ns d l, t', nx' => ∃ nums n1 l', NumsL U nx nums n1 ∧ nums.length = ns.length ∧ RenRs U env (pushE env ns nums) (fromT k l.length) n1 l l' nx' ∧ t' = .mk k (if k = 1 ∨ k = 2 then nowT env nm else nm) (nums.map numS) d l'
def RenRs (U : List ByteArray) : (ByteArray → List Nat) → (ByteArray → List Nat) → Nat → Nat → List PE → List PE → Nat → Prop
  | _, _, _, nx, [], l', nx' => l' = [] ∧ nx' = nx
  | e1, e2, fr, nx, t :: l, l', nx' => ∃ t' n1 l1, RenR U (if fr = 0 then e2 else e1) nx t t' n1 ∧ RenRs U e1 e2 (fr - 1) n1 l l1 nx' ∧ l' = t' :: l1
end
theorem renRs_snoc {U : List ByteArray} {e : ByteArray → List Nat} {t t' : PE} {n2 : Nat} : ∀ {l l1 : List PE} {nx n1 : Nat}, RenRs U e e 0 nx l l1 n1 → RenR U e n1 t t' n2 → RenRs U e e 0 nx (l ++ [t]) (l1 ++ [t']) n2
  | [], l1, nx, n1, h, g => by
    rw [RenRs] at h
    obtain ⟨rfl, rfl⟩ := h
    rw [List.nil_append, RenRs]
    exact ⟨t', n2, [], by simpa using g, by rw [RenRs]; exact ⟨rfl, rfl⟩, rfl⟩
  | u :: l, l1, nx, n1, h, g => by
    rw [RenRs] at h
    obtain ⟨u', m1, l2, h1, h2, rfl⟩ := h
    rw [List.cons_append, RenRs]
    exact ⟨u', m1, l2 ++ [t'], h1, renRs_snoc h2 g, rfl⟩
theorem renRs_split {U : List ByteArray} {e1 e2 : ByteArray → List Nat} : ∀ {l l1 l2 : List PE} {fr nx n1 n2 : Nat}, RenRs U e1 e1 0 nx (l.take fr) l1 n1 → RenRs U e2 e2 0 n1 (l.drop fr) l2 n2 → RenRs U e1 e2 fr nx l (l1 ++ l2) n2
  | [], l1, l2, fr, nx, n1, n2, h, g => by
    rw [List.take_nil, RenRs] at h
    rw [List.drop_nil, RenRs] at g
    obtain ⟨rfl, rfl⟩ := h
    obtain ⟨rfl, rfl⟩ := g
    rw [RenRs]; exact ⟨rfl, rfl⟩
  | t :: l, l1, l2, 0, nx, n1, n2, h, g => by
    rw [List.take_zero, RenRs] at h
    obtain ⟨rfl, rfl⟩ := h
    rw [List.drop_zero, RenRs] at g
    obtain ⟨t', m1, l3, h1, h2, rfl⟩ := g
    rw [RenRs]
    refine ⟨t', m1, l3, by simpa using h1, ?_, rfl⟩
    have := renRs_split (U := U) (e1 := e1) (e2 := e2) (l := l) (l1 := []) (l2 := l3) (fr := 0) (nx := m1) (n1 := m1) (n2 := n2) (by rw [List.take_zero, RenRs]; exact ⟨rfl, rfl⟩) (by simpa using h2)
    simpa using this
  | t :: l, l1, l2, fr + 1, nx, n1, n2, h, g => by
    rw [List.take_succ_cons, RenRs] at h
    obtain ⟨t', m1, l3, h1, h2, rfl⟩ := h
    rw [List.drop_succ_cons] at g
    rw [RenRs]
    refine ⟨t', m1, l3 ++ l2, by simpa using h1, ?_, rfl⟩
    exact renRs_split h2 g
mutual
/-- How far the numbers go. -/
theorem RenR.pot {U : List ByteArray} : ∀ {t t' : PE} {env : ByteArray → List Nat} {nx nx' : Nat}, RenR U env nx t t' nx' → nx' + restN U nx' ≤ nx + sizeE t + restN U nx
  | .mk k nm ns d l, t', env, nx, nx', h => by
    rw [RenR] at h
    obtain ⟨nums, n1, l', h1, h2, h3, _⟩ := h
    have := h1.pot
    have := RenRs.pot h3
    rw [sizeE]; omega
theorem RenRs.pot {U : List ByteArray} : ∀ {l l' : List PE} {e1 e2 : ByteArray → List Nat} {fr nx nx' : Nat}, RenRs U e1 e2 fr nx l l' nx' → nx' + restN U nx' ≤ nx + sizeEs l + restN U nx
  | [], l', e1, e2, fr, nx, nx', h => by
    rw [RenRs] at h
    rw [h.2]; omega
  | t :: l, l', e1, e2, fr, nx, nx', h => by
    rw [RenRs] at h
    obtain ⟨t', n1, l1, h1, h2, _⟩ := h
    have := RenR.pot h1
    have := RenRs.pot h2
    rw [sizeEs]; omega
end
theorem NumsL.pot' {U : List ByteArray} {n n' : Nat} {l : List Nat} (h : NumsL U n l n') : n ≤ n' := by have := h.le; omega
mutual
theorem RenR.le {U : List ByteArray} : ∀ {t t' : PE} {env : ByteArray → List Nat} {nx nx' : Nat}, RenR U env nx t t' nx' → nx ≤ nx'
  | .mk k nm ns d l, t', env, nx, nx', h => by
    rw [RenR] at h
    obtain ⟨nums, n1, l', h1, h2, h3, _⟩ := h
    have := h1.le
    have := RenRs.le h3
    omega
theorem RenRs.le {U : List ByteArray} : ∀ {l l' : List PE} {e1 e2 : ByteArray → List Nat} {fr nx nx' : Nat}, RenRs U e1 e2 fr nx l l' nx' → nx ≤ nx'
  | [], l', e1, e2, fr, nx, nx', h => by
    rw [RenRs] at h
    rw [h.2]; omega
  | t :: l, l', e1, e2, fr, nx, nx', h => by
    rw [RenRs] at h
    obtain ⟨t', n1, l1, h1, h2, _⟩ := h
    have := RenR.le h1
    have := RenRs.le h2
    omega
end

/-! ### rows of the call's own -/
theorem infoStr : (Try.prog.info? 9).map (fun i => (i.zero, i.size, i.bytes)) = some (some (.string ⟨#[]⟩), 1, 16) := by kernel_rfl
theorem infoExpr : (Try.prog.info? 28).map (fun i => (i.zero, i.size, i.bytes)) = some (some (.agg #[.int .i64 0, .string ⟨#[]⟩, .slice none 0 0, .int .i64 0, .int .i64 0, .string ⟨#[]⟩, .slice none 0 0, .slice none 0 0]), 8, 128) := by kernel_rfl
/-- A row of texts of the call's own. -/
def OutT (w : World) (C : Nat) (l : List ByteArray) (v : Value) : Prop := w.ownsRow C 9 1 v l.length (l.map .string)
theorem OutT.nil (w : World) (C : Nat) : OutT w C [] (.slice none 0 0) := World.ownsRow_nil _ _ _ _
theorem OutT.at {w w' : World} {C : Nat} {l : List ByteArray} {v : Value} (h : OutT w C l v) (hb : ∀ b, v.ownBlock = some b → w'.heap[b]? = w.heap[b]?) : OutT w' C l v := by
  refine ⟨h.1, h.2.imp id ?_⟩
  rintro ⟨g, cap, cur, rfl, h1, h2, h3⟩
  exact ⟨g, cap, cur, rfl, h1, (hb g rfl).trans h2, h3⟩
theorem OutT.slice {w : World} {C : Nat} {l : List ByteArray} {v : Value} (h : OutT w C l v) : ∃ a c, v = .slice a l.length c ∧ (∀ b, v.ownBlock = some b → C ≤ b ∧ b < w.heap.size) := by
  have hl := h.lt
  rcases h.2 with ⟨rfl, h0⟩ | ⟨g, cap, cur, rfl, _⟩
  · exact ⟨none, 0, by rw [h0], hl⟩
  · exact ⟨_, cap, rfl, hl⟩
theorem OutT.inN {w : World} {C : Nat} {S : Nat → Prop} {l : List ByteArray} {v : Value} (h : OutT w C l v) (hs : ∀ s ∈ l, s.size ≤ maxLen) (hS : ∀ b, v.ownBlock = some b → S b) : InN w S l v := by
  have ho := h
  unfold OutT at ho
  rcases h.2 with ⟨rfl, h0⟩ | ⟨g, cap, cur, rfl, hb, hg, hn, hcm, hcs, ht⟩
  · obtain rfl := List.eq_nil_of_length_eq_zero h0
    exact ⟨none, 0, rfl, Nat.le_refl _, Nat.zero_le _, fun _ => rfl, .inl rfl⟩
  · refine ⟨some ⟨g, 0, none⟩, cap, rfl, hn, hcm, (fun h => by cases h), .inr ⟨g, 0, rfl, hS g rfl, fun j hj => ⟨?_, hs _ (List.getElem_mem hj)⟩⟩⟩
    have := ho.cells (g := g) rfl j (.string l[j]) (by simp [hj])
    simpa [add_plain] using this
theorem outT_step {w' : World} {C g cap : Nat} {l : List ByteArray} {s : ByteArray} {xs : List Value} (hxs : xs = l.map .string) (hown : w'.ownsRow C 9 1 (.slice (some ⟨g, 0, none⟩) (l.length + 1) cap) (l.length + 1) (xs ++ [.string s])) : OutT w' C (l ++ [s]) (.slice (some ⟨g, 0, none⟩) (l.length + 1) cap) := by
  subst hxs
  unfold OutT
  rw [List.length_append, List.map_append]
  exact hown
theorem step_append_t {ops : Array Oper} {o : Oper} {a : Act} {w : World} {K : Act → World → Prop} {Q : Exit → Act → World → Prop} {E : Prop} (hgd : o.guard = none) (sl x : Operand)
    (ho : o.op = .call { callee := .builtin .append, args := #[sl, x], argTypes := #[22, 22] }) (C : Nat) (l : List ByteArray) (v : Value) (hs : a.eval sl = v) (h : OutT w C l v) (B : Nat) (s : ByteArray) (hx : a.eval x = .slice (some ⟨B, 0, none⟩) 1 1)
    (hB : w.heap[B]? = some (.cells #[.string s] 9 (0, 0))) (hlen : l.length ≤ 100000) (hC : C ≤ w.heap.size)
    (kk : ∀ g cap w', OutT w' C (l ++ [s]) (.slice (some ⟨g, 0, none⟩) (l.length + 1) cap) → w.grownBy w' v.ownBlock → (v.ownBlock = some g ∨ g = w.heap.size) → K (a.put o.dst (.slice (some ⟨g, 0, none⟩) (l.length + 1) cap)) w') : if Region.wanted o (yielded ops a.tmps) = true then Oper.wp Try.prog o a w K Q else E := by
  obtain ⟨i0, hi, hz0, hz1, hz2⟩ := info_parts infoStr
  refine step_append_lies w hgd sl x 22 ho C 9 i0 _ 1 16 Try.underlying22 hi hz0 hz1 hz2 rfl (by decide) v l.length _ hs h ⟨B, 0, none⟩ 1 1 [.string s] hx rfl (World.news_of_block hB) ?_ (by decide) (by unfold maxLen; omega) (by omega) hC w.heap.size rfl ?_
  · intro u hu
    simp only [List.mem_cons, List.not_mem_nil, or_false] at hu
    subst hu; rfl
  · intro g cap w' hown hgrow hat hlt
    exact kk g cap w' (outT_step rfl hown) hgrow hat
theorem step_append_n {ops : Array Oper} {o : Oper} {a : Act} {w : World} {K : Act → World → Prop} {Q : Exit → Act → World → Prop} {E : Prop} (hgd : o.guard = none) (sl x : Operand)
    (ho : o.op = .call { callee := .builtin .append, args := #[sl, x], argTypes := #[47, 47] }) (C : Nat) (l : List Nat) (v : Value) (hs : a.eval sl = v) (h : RowN w C l v) (B n : Nat) (hx : a.eval x = .slice (some ⟨B, 0, none⟩) 1 1)
    (hB : w.heap[B]? = some (.cells #[.int .i64 (n : Int)] 3 (0, 0))) (hlen : l.length ≤ 100000) (hC : C ≤ w.heap.size)
    (kk : ∀ g cap w', RowN w' C (l ++ [n]) (.slice (some ⟨g, 0, none⟩) (l.length + 1) cap) → w.grownBy w' v.ownBlock → (v.ownBlock = some g ∨ g = w.heap.size) → K (a.put o.dst (.slice (some ⟨g, 0, none⟩) (l.length + 1) cap)) w') : if Region.wanted o (yielded ops a.tmps) = true then Oper.wp Try.prog o a w K Q else E := by
  obtain ⟨i0, hi, hz0, hz1, hz2⟩ := info_parts infoInt
  refine step_append_lies w hgd sl x 47 ho C 3 i0 _ 1 8 Try.underlying47 hi hz0 hz1 hz2 rfl (by decide) v l.length _ hs h ⟨B, 0, none⟩ 1 1 [.int .i64 (n : Int)] hx rfl (World.news_of_block hB) ?_ (by decide) (by unfold maxLen; omega) (by omega) hC w.heap.size rfl ?_
  · intro u hu
    simp only [List.mem_cons, List.not_mem_nil, or_false] at hu
    subst hu; rfl
  · intro g cap w' hown hgrow hat hlt
    exact kk g cap w' (rowN_step rfl hown) hgrow hat
/-- The cells of a row of expressions. -/
def RowE (w : World) (S : Nat → Prop) : List PE → List Value → Prop
  | [], xs => xs = []
  | .mk k nm ns (.mk ck ci cs cl) l0 :: l, xs => ∃ vn vd vk ys, xs = .int .i64 k :: .string nm :: vn :: .int .i64 ck :: .int .i64 ci :: .string cs :: vd :: vk :: ys ∧ InF w S (.mk k nm ns (.mk ck ci cs cl) l0) vn vd vk ∧ RowE w S l ys
theorem RowE.append {w : World} {S : Nat → Prop} {m : List PE} {ys : List Value} (hm : RowE w S m ys) : ∀ {l : List PE} {xs : List Value}, RowE w S l xs → RowE w S (l ++ m) (xs ++ ys)
  | [], xs, h => by rw [RowE] at h; subst h; exact hm
  | .mk k nm ns (.mk ck ci cs cl) l0 :: l, xs, h => by
    rw [RowE] at h
    obtain ⟨vn, vd, vk, zs, rfl, h1, h⟩ := h
    rw [List.cons_append, RowE]
    exact ⟨vn, vd, vk, zs ++ ys, rfl, h1, RowE.append hm h⟩
theorem RowE.move {w w' : World} {S S' : Nat → Prop} (hS : ∀ b, S b → b < w.heap.size → S' b) (hc : ∀ b o v, S b → w.cell? ⟨b, o, none⟩ = some v → w'.cell? ⟨b, o, none⟩ = some v) : ∀ {l : List PE} {xs : List Value}, RowE w S l xs → RowE w' S' l xs
  | [], xs, h => by rw [RowE] at h ⊢; exact h
  | .mk k nm ns (.mk ck ci cs cl) l0 :: l, xs, h => by
    rw [RowE] at h ⊢
    obtain ⟨vn, vd, vk, ys, e, h1, h⟩ := h
    exact ⟨vn, vd, vk, ys, e, h1.move hS hc, RowE.move hS hc h⟩
theorem ats_of_rowE {w : World} {S : Nat → Prop} : ∀ {l : List PE} {xs : List Value} {b o : Nat}, RowE w S l xs → (∀ j u, xs[j]? = some u → w.cell? ⟨b, o + j, none⟩ = some u) → InEs w S l b o
  | [], xs, b, o, _, _ => by rw [InEs]; trivial
  | .mk k nm ns (.mk ck ci cs cl) l0 :: l, xs, b, o, h, hc => by
    rw [RowE] at h
    obtain ⟨vn, vd, vk, ys, rfl, h1, h⟩ := h
    rw [InEs]
    refine ⟨inE_of h1 (hc 0 _ rfl) (hc 1 _ rfl) (hc 2 _ rfl) (hc 3 _ rfl) (hc 4 _ rfl) (hc 5 _ rfl) (hc 6 _ rfl) (hc 7 _ rfl), ats_of_rowE h fun j u hj => ?_⟩
    have := hc (j + 8) u (by simpa using hj)
    rwa [show o + (j + 8) = o + 8 + j by omega] at this
/-- A row of expressions of the call's own, from block C on; their rows lie in blocks of P, and not in its own. -/
def OutE (w : World) (C : Nat) (P : Nat → Prop) (l : List PE) (v : Value) : Prop :=
  ∃ xs, w.ownsRow C 28 8 v l.length xs ∧ RowE w (fun b => P b ∧ some b ≠ v.ownBlock) l xs
theorem OutE.nil (w : World) (C : Nat) (P : Nat → Prop) : OutE w C P [] (.slice none 0 0) := ⟨[], World.ownsRow_nil _ _ _ _, by rw [RowE]⟩
/-- .. where its own block and those of P are as they were. -/
theorem OutE.at {w w' : World} {C : Nat} {P P' : Nat → Prop} {l : List PE} {v : Value} (h : OutE w C P l v) (hb : ∀ b, v.ownBlock = some b → w'.heap[b]? = w.heap[b]?) (hP : ∀ b, P b → b < w.heap.size → w'.heap[b]? = w.heap[b]? ∧ P' b) : OutE w' C P' l v := by
  obtain ⟨xs, ho, hx⟩ := h
  refine ⟨xs, ⟨ho.1, ho.2.imp id ?_⟩, hx.move (fun b hb hlt => ⟨(hP b hb.1 hlt).2, hb.2⟩) fun b o v hb hc => ?_⟩
  · rintro ⟨g, cap, cur, rfl, h1, h2, h3⟩
    exact ⟨g, cap, cur, rfl, h1, (hb g rfl).trans h2, h3⟩
  · rw [World.cell?_of_block (w := w) (a := ⟨b, o, none⟩) (hP b hb.1 (World.block_lt_of_cell? _ _ hc)).1]; exact hc
theorem OutE.slice {w : World} {C : Nat} {P : Nat → Prop} {l : List PE} {v : Value} (h : OutE w C P l v) : ∃ a c, v = .slice a l.length c ∧ (∀ b, v.ownBlock = some b → C ≤ b ∧ b < w.heap.size) := by
  obtain ⟨xs, ho, _⟩ := h
  have hl := ho.lt
  rcases ho.2 with ⟨rfl, h0⟩ | ⟨g, cap, cur, rfl, _⟩
  · exact ⟨none, 0, by rw [h0], hl⟩
  · exact ⟨_, cap, rfl, hl⟩
theorem OutE.inK {w : World} {C : Nat} {P S : Nat → Prop} {l : List PE} {v : Value} (h : OutE w C P l v) (hP : ∀ b, P b → S b) (hv : ∀ b, v.ownBlock = some b → S b) : InK w S l v := by
  obtain ⟨xs, ho, hx⟩ := h
  have hx' : RowE w S l xs := hx.move (fun b hb _ => hP b hb.1) (fun _ _ _ _ h => h)
  rcases ho.2 with ⟨rfl, h0⟩ | ⟨g, cap, cur, rfl, hb, hg, hn, hcm, hcs, ht⟩
  · obtain rfl := List.eq_nil_of_length_eq_zero h0
    exact ⟨none, 0, rfl, Nat.le_refl _, Nat.zero_le _, fun _ => rfl, .inl rfl⟩
  · refine ⟨some ⟨g, 0, none⟩, cap, rfl, hn, hcm, (fun h => by cases h), .inr ⟨g, 0, rfl, hv g rfl, ats_of_rowE hx' fun j u hj => ?_⟩⟩
    have := ho.cells (g := g) rfl j u hj
    simpa [add_plain] using this
theorem outE_step {w w' : World} {C g cap : Nat} {P : Nat → Prop} {l : List PE} {v : Value} {xs : List Value} {k : Int} {nm : ByteArray} {ns : List ByteArray} {ck ci : Int} {cs : ByteArray} {cl : List PT} {l0 : List PE} {vn vd vk : Value} (hrx : RowE w (fun b => P b ∧ some b ≠ v.ownBlock) l xs)
    (hm : InF w (fun b => P b ∧ some b ≠ v.ownBlock) (.mk k nm ns (.mk ck ci cs cl) l0) vn vd vk)
    (hown : w'.ownsRow C 28 8 (.slice (some ⟨g, 0, none⟩) (l.length + 1) cap) (l.length + 1) (xs ++ [.int .i64 k, .string nm, vn, .int .i64 ck, .int .i64 ci, .string cs, vd, vk])) (hgrow : w.grownBy w' v.ownBlock) (hat : v.ownBlock = some g ∨ g = w.heap.size) :
    OutE w' C P (l ++ [.mk k nm ns (.mk ck ci cs cl) l0]) (.slice (some ⟨g, 0, none⟩) (l.length + 1) cap) := by
  have hS : ∀ b, (P b ∧ some b ≠ v.ownBlock) → b < w.heap.size → P b ∧ some b ≠ some g := fun b hb hlt => ⟨hb.1, by
      rcases hat with e | e
      · rw [← e]; exact hb.2
      · rw [e]; simp; omega⟩
  have hc : ∀ b o' y, (P b ∧ some b ≠ v.ownBlock) → w.cell? ⟨b, o', none⟩ = some y → w'.cell? ⟨b, o', none⟩ = some y := fun b o' y hb hc => by
    rw [World.cell?_of_block (w := w) (a := ⟨b, o', none⟩) (hgrow.block b (World.block_lt_of_cell? _ _ hc) hb.2)]; exact hc
  refine ⟨_, by rw [List.length_append]; exact hown, RowE.append ?_ (hrx.move hS hc)⟩
  rw [RowE]
  exact ⟨vn, vd, vk, [], rfl, hm.move hS hc, by rw [RowE]⟩
theorem wpList_append_e {ops : Array Oper} {rest : List Oper} {o : Oper} {a : Act} {w : World} {Q : Exit → Act → World → Prop} (hgd : o.guard = none) (sl x : Operand)
    (ho : o.op = .call { callee := .builtin .append, args := #[sl, x], argTypes := #[26, 26] }) (C : Nat) (P : Nat → Prop) (l : List PE) (v : Value) (hs : a.eval sl = v) (h : OutE w C P l v) (B : Nat) (k : Int) (nm : ByteArray) (ns : List ByteArray) (ck ci : Int) (cs : ByteArray) (cl : List PT) (l0 : List PE) (vn vd vk : Value) (hx : a.eval x = .slice (some ⟨B, 0, none⟩) 1 1)
    (hB : w.heap[B]? = some (.cells #[.int .i64 k, .string nm, vn, .int .i64 ck, .int .i64 ci, .string cs, vd, vk] 28 (0, 0))) (hm : InF w (fun b => P b ∧ some b ≠ v.ownBlock) (.mk k nm ns (.mk ck ci cs cl) l0) vn vd vk) (hlen : l.length ≤ 100000) (hC : C ≤ w.heap.size)
    (kk : ∀ g cap w', OutE w' C P (l ++ [.mk k nm ns (.mk ck ci cs cl) l0]) (.slice (some ⟨g, 0, none⟩) (l.length + 1) cap) → w.grownBy w' v.ownBlock → (v.ownBlock = some g ∨ g = w.heap.size) → wpList Try.prog ops Q rest (a.put o.dst (.slice (some ⟨g, 0, none⟩) (l.length + 1) cap)) w') : wpList Try.prog ops Q (o :: rest) a w := by
  obtain ⟨i0, hi, hz0, hz1, hz2⟩ := info_parts infoExpr
  obtain ⟨xs, hxs, hrx⟩ := h
  obtain ⟨⟨_, _, ⟨an, cn, en, _⟩⟩, ⟨_, _, _, ⟨ad, cd, ed, _⟩⟩, ⟨ak, ck', ek, _⟩⟩ := id hm
  subst en ed ek
  refine wpList_append_lies w hgd sl x 26 ho C 28 i0 _ 8 128 Try.underlying26 hi hz0 hz1 hz2 rfl (by decide) v l.length xs hs hxs ⟨B, 0, none⟩ 1 1 _ hx rfl (World.news_of_block hB) ?_ (by decide) (by unfold maxLen; omega) (by omega) hC w.heap.size rfl ?_
  · intro u hu
    simp only [List.mem_cons, List.not_mem_nil, or_false] at hu
    rcases hu with rfl | rfl | rfl | rfl | rfl | rfl | rfl | rfl <;> rfl
  · intro g cap w' hown hgrow hat hlt
    exact kk g cap w' (outE_step hrx hm hown hgrow hat) hgrow hat
end Go.Proofs.Ytkjgdnfkpebejaa.Core
