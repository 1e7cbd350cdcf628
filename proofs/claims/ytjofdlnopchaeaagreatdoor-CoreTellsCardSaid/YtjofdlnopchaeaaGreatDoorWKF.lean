/-
Texts K38, K39, K40, K41, one behind the other (a claim bears sixty files). Conditions: as each says.
-/
import Derived.Test.YtjofdlnopchaeaaGreatDoorWKE
import Derived.Test.YtjofdlnopchaeaaGreatDoorWKD

/-
What renaming answers, as a relation; rows of texts and of expressions of the call's own, and append to them. No condition.
-/
namespace Go.Proofs.YtjofdlnopchaeaaGreatDoor.Core
open Go.ChangeShapes Go.WideShapes Go.ChangeAt Go.RowKit Go.Deep
open Dat (PT ok64 RowX)
set_option maxRecDepth 100000

/-- A name is bound by one more number. -/
def push1 (env : ByteArray → List Nat) (s : ByteArray) (i : Nat) : ByteArray → List Nat := fun t => if t = s then env t ++ [i] else env t
def pushE : (ByteArray → List Nat) → List ByteArray → List Nat → ByteArray → List Nat
  | env, s :: ns, i :: is => pushE (push1 env s i) ns is
  | env, [], _ => env
  | env, _ :: _, [] => env
mutual
/-- The expression t comes to t' where env holds, with numbers from nx on; nx' is the next number then. -/
def RenR (U : List ByteArray) : (ByteArray → List Nat) → Nat → PE → PE → Nat → Prop
  | env, nx, .mk k nm ns d l, t', nx' => ∃ nums n1 l', NumsL U nx nums n1 ∧ nums.length = ns.length ∧ RenRs U env (pushE env ns nums) (fromT k l.length) n1 l l' nx' ∧ t' = .mk k (if k = 1 ∨ k = 2 then nowT env nm else nm) (nums.map numS) d l'
def RenRs (U : List ByteArray) : (ByteArray → List Nat) → (ByteArray → List Nat) → Nat → Nat → List PE → List PE → Nat → Prop
  | _, _, _, nx, [], l', nx' => l' = [] ∧ nx' = nx
  | e1, e2, fr, nx, t :: l, l', nx' => ∃ t' n1 l1, RenR U (if fr = 0 then e2 else e1) nx t t' n1 ∧ RenRs U e1 e2 (fr - 1) n1 l l1 nx' ∧ l' = t' :: l1
end
theorem renRs_snoc {U : List ByteArray} {e : ByteArray → List Nat} {t t' : PE} {n2 : Nat} : ∀ {l l1 : List PE} {nx n1 : Nat}, RenRs U e e 0 nx l l1 n1 → RenR U e n1 t t' n2 → RenRs U e e 0 nx (l ++ [t]) (l1 ++ [t']) n2
  | [], l1, nx, n1, h, g => by
    rw [RenRs] at h
    obtain ⟨rfl, rfl⟩ := h
    rw [List.nil_append, RenRs]
    exact ⟨t', n2, [], by simpa using g, by rw [RenRs]; exact ⟨rfl, rfl⟩, rfl⟩
  | u :: l, l1, nx, n1, h, g => by
    rw [RenRs] at h
    obtain ⟨u', m1, l2, h1, h2, rfl⟩ := h
    rw [List.cons_append, RenRs]
    exact ⟨u', m1, l2 ++ [t'], h1, renRs_snoc h2 g, rfl⟩
theorem renRs_split {U : List ByteArray} {e1 e2 : ByteArray → List Nat} : ∀ {l l1 l2 : List PE} {fr nx n1 n2 : Nat}, RenRs U e1 e1 0 nx (l.take fr) l1 n1 → RenRs U e2 e2 0 n1 (l.drop fr) l2 n2 → RenRs U e1 e2 fr nx l (l1 ++ l2) n2
  | [], l1, l2, fr, nx, n1, n2, h, g => by
    rw [List.take_nil, RenRs] at h
    rw [List.drop_nil, RenRs] at g
    obtain ⟨rfl, rfl⟩ := h
    obtain ⟨rfl, rfl⟩ := g
    rw [RenRs]; exact ⟨rfl, rfl⟩
  | t :: l, l1, l2, 0, nx, n1, n2, h, g => by
    rw [List.take_zero, RenRs] at h
    obtain ⟨rfl, rfl⟩ := h
    rw [List.drop_zero, RenRs] at g
    obtain ⟨t', m1, l3, h1, h2, rfl⟩ := g
    rw [RenRs]
    refine ⟨t', m1, l3, by simpa using h1, ?_, rfl⟩
    have := renRs_split (U := U) (e1 := e1) (e2 := e2) (l := l) (l1 := []) (l2 := l3) (fr := 0) (nx := m1) (n1 := m1) (n2 := n2) (by rw [List.take_zero, RenRs]; exact ⟨rfl, rfl⟩) (by simpa using h2)
    simpa using this
  | t :: l, l1, l2, fr + 1, nx, n1, n2, h, g => by
    rw [List.take_succ_cons, RenRs] at h
    obtain ⟨t', m1, l3, h1, h2, rfl⟩ := h
    rw [List.drop_succ_cons] at g
    rw [RenRs]
    refine ⟨t', m1, l3 ++ l2, by simpa using h1, ?_, rfl⟩
    exact renRs_split h2 g
mutual
/-- How far the numbers go. -/
theorem RenR.pot {U : List ByteArray} : ∀ {t t' : PE} {env : ByteArray → List Nat} {nx nx' : Nat}, RenR U env nx t t' nx' → nx' + restN U nx' ≤ nx + sizeE t + restN U nx
  | .mk k nm ns d l, t', env, nx, nx', h => by
    rw [RenR] at h
    obtain ⟨nums, n1, l', h1, h2, h3, _⟩ := h
    have := h1.pot
    have := RenRs.pot h3
    rw [sizeE]; omega
theorem RenRs.pot {U : List ByteArray} : ∀ {l l' : List PE} {e1 e2 : ByteArray → List Nat} {fr nx nx' : Nat}, RenRs U e1 e2 fr nx l l' nx' → nx' + restN U nx' ≤ nx + sizeEs l + restN U nx
  | [], l', e1, e2, fr, nx, nx', h => by
    rw [RenRs] at h
    rw [h.2]; omega
  | t :: l, l', e1, e2, fr, nx, nx', h => by
    rw [RenRs] at h
    obtain ⟨t', n1, l1, h1, h2, _⟩ := h
    have := RenR.pot h1
    have := RenRs.pot h2
    rw [sizeEs]; omega
end
mutual
theorem RenR.le {U : List ByteArray} : ∀ {t t' : PE} {env : ByteArray → List Nat} {nx nx' : Nat}, RenR U env nx t t' nx' → nx ≤ nx'
  | .mk k nm ns d l, t', env, nx, nx', h => by
    rw [RenR] at h
    obtain ⟨nums, n1, l', h1, h2, h3, _⟩ := h
    have := h1.le
    have := RenRs.le h3
    omega
theorem RenRs.le {U : List ByteArray} : ∀ {l l' : List PE} {e1 e2 : ByteArray → List Nat} {fr nx nx' : Nat}, RenRs U e1 e2 fr nx l l' nx' → nx ≤ nx'
  | [], l', e1, e2, fr, nx, nx', h => by
    rw [RenRs] at h
    rw [h.2]; omega
  | t :: l, l', e1, e2, fr, nx, nx', h => by
    rw [RenRs] at h
    obtain ⟨t', n1, l1, h1, h2, _⟩ := h
    have := RenR.le h1
    have := RenRs.le h2
    omega
end

/-! ### rows of the call's own -/
theorem infoStr : (Tryz.prog.info? 9).map (fun i => (i.zero, i.size, i.bytes)) = some (some (.string ⟨#[]⟩), 1, 16) := by kernel_rfl
theorem infoExpr : (Tryz.prog.info? 28).map (fun i => (i.zero, i.size, i.bytes)) = some (some (.agg #[.int .i64 0, .string ⟨#[]⟩, .slice none 0 0, .int .i64 0, .int .i64 0, .string ⟨#[]⟩, .slice none 0 0, .slice none 0 0]), 8, 128) := by kernel_rfl
/-- A row of texts of the call's own. -/
def OutT (w : World) (C : Nat) (l : List ByteArray) (v : Value) : Prop := w.ownsRow C 9 1 v l.length (l.map .string)
theorem OutT.nil (w : World) (C : Nat) : OutT w C [] (.slice none 0 0) := World.ownsRow_nil _ _ _ _
theorem OutT.at {w w' : World} {C : Nat} {l : List ByteArray} {v : Value} (h : OutT w C l v) (hb : ∀ b, v.ownBlock = some b → w'.heap[b]? = w.heap[b]?) : OutT w' C l v := by
  refine ⟨h.1, h.2.imp id ?_⟩
  rintro ⟨g, cap, cur, rfl, h1, h2, h3⟩
  exact ⟨g, cap, cur, rfl, h1, (hb g rfl).trans h2, h3⟩
theorem OutT.slice {w : World} {C : Nat} {l : List ByteArray} {v : Value} (h : OutT w C l v) : ∃ a c, v = .slice a l.length c ∧ (∀ b, v.ownBlock = some b → C ≤ b ∧ b < w.heap.size) := by
  have hl := h.lt
  rcases h.2 with ⟨rfl, h0⟩ | ⟨g, cap, cur, rfl, _⟩
  · exact ⟨none, 0, by rw [h0], hl⟩
  · exact ⟨_, cap, rfl, hl⟩
theorem OutT.inN {w : World} {C : Nat} {S : Nat → Prop} {l : List ByteArray} {v : Value} (h : OutT w C l v) (hs : ∀ s ∈ l, s.size ≤ maxLen) (hS : ∀ b, v.ownBlock = some b → S b) : InN w S l v := by
  have ho := h
  unfold OutT at ho
  rcases h.2 with ⟨rfl, h0⟩ | ⟨g, cap, cur, rfl, hb, hg, hn, hcm, hcs, ht⟩
  · obtain rfl := List.eq_nil_of_length_eq_zero h0
    exact ⟨none, 0, rfl, Nat.le_refl _, Nat.zero_le _, fun _ => rfl, .inl rfl⟩
  · refine ⟨some ⟨g, 0, none⟩, cap, rfl, hn, hcm, (fun h => by cases h), .inr ⟨g, 0, rfl, hS g rfl, fun j hj => ⟨?_, hs _ (List.getElem_mem hj)⟩⟩⟩
    have := ho.cells (g := g) rfl j (.string l[j]) (by simp [hj])
    simpa [add_plain] using this
theorem outT_step {w' : World} {C g cap : Nat} {l : List ByteArray} {s : ByteArray} {xs : List Value} (hxs : xs = l.map .string) (hown : w'.ownsRow C 9 1 (.slice (some ⟨g, 0, none⟩) (l.length + 1) cap) (l.length + 1) (xs ++ [.string s])) : OutT w' C (l ++ [s]) (.slice (some ⟨g, 0, none⟩) (l.length + 1) cap) := by
  subst hxs
  unfold OutT
  rw [List.length_append, List.map_append]
  exact hown
theorem step_append_t {ops : Array Oper} {o : Oper} {a : Act} {w : World} {K : Act → World → Prop} {Q : Exit → Act → World → Prop} {E : Prop} (hgd : o.guard = none) (sl x : Operand)
    (ho : o.op = .call { callee := .builtin .append, args := #[sl, x], argTypes := #[22, 22] }) (C : Nat) (l : List ByteArray) (v : Value) (hs : a.eval sl = v) (h : OutT w C l v) (B : Nat) (s : ByteArray) (hx : a.eval x = .slice (some ⟨B, 0, none⟩) 1 1)
    (hB : w.heap[B]? = some (.cells #[.string s] 9 (0, 0))) (hlen : l.length ≤ 100000) (hC : C ≤ w.heap.size)
    (kk : ∀ g cap w', OutT w' C (l ++ [s]) (.slice (some ⟨g, 0, none⟩) (l.length + 1) cap) → w.grownBy w' v.ownBlock → (v.ownBlock = some g ∨ g = w.heap.size) → K (a.put o.dst (.slice (some ⟨g, 0, none⟩) (l.length + 1) cap)) w') : if Region.wanted o (yielded ops a.tmps) = true then Oper.wp Tryz.prog o a w K Q else E := by
  obtain ⟨i0, hi, hz0, hz1, hz2⟩ := info_parts infoStr
  refine step_append_lies w hgd sl x 22 ho C 9 i0 _ 1 16 Tryz.underlying22 hi hz0 hz1 hz2 rfl (by decide) v l.length _ hs h ⟨B, 0, none⟩ 1 1 [.string s] hx rfl (World.news_of_block hB) ?_ (by decide) (by unfold maxLen; omega) (by omega) hC w.heap.size rfl ?_
  · intro u hu
    simp only [List.mem_cons, List.not_mem_nil, or_false] at hu
    subst hu; rfl
  · intro g cap w' hown hgrow hat hlt
    exact kk g cap w' (outT_step rfl hown) hgrow hat
theorem step_append_n {ops : Array Oper} {o : Oper} {a : Act} {w : World} {K : Act → World → Prop} {Q : Exit → Act → World → Prop} {E : Prop} (hgd : o.guard = none) (sl x : Operand)
    (ho : o.op = .call { callee := .builtin .append, args := #[sl, x], argTypes := #[79, 79] }) (C : Nat) (l : List Nat) (v : Value) (hs : a.eval sl = v) (h : RowN w C l v) (B n : Nat) (hx : a.eval x = .slice (some ⟨B, 0, none⟩) 1 1)
    (hB : w.heap[B]? = some (.cells #[.int .i64 (n : Int)] 3 (0, 0))) (hlen : l.length ≤ 100000) (hC : C ≤ w.heap.size)
    (kk : ∀ g cap w', RowN w' C (l ++ [n]) (.slice (some ⟨g, 0, none⟩) (l.length + 1) cap) → w.grownBy w' v.ownBlock → (v.ownBlock = some g ∨ g = w.heap.size) → K (a.put o.dst (.slice (some ⟨g, 0, none⟩) (l.length + 1) cap)) w') : if Region.wanted o (yielded ops a.tmps) = true then Oper.wp Tryz.prog o a w K Q else E := by
  obtain ⟨i0, hi, hz0, hz1, hz2⟩ := info_parts infoInt
  refine step_append_lies w hgd sl x 79 ho C 3 i0 _ 1 8 Tryz.underlying79 hi hz0 hz1 hz2 rfl (by decide) v l.length _ hs h ⟨B, 0, none⟩ 1 1 [.int .i64 (n : Int)] hx rfl (World.news_of_block hB) ?_ (by decide) (by unfold maxLen; omega) (by omega) hC w.heap.size rfl ?_
  · intro u hu
    simp only [List.mem_cons, List.not_mem_nil, or_false] at hu
    subst hu; rfl
  · intro g cap w' hown hgrow hat hlt
    exact kk g cap w' (rowN_step rfl hown) hgrow hat
/-- The cells of a row of expressions. -/
def RowE (w : World) (S : Nat → Prop) : List PE → List Value → Prop
  | [], xs => xs = []
  | .mk k nm ns (.mk ck ci cs cl) l0 :: l, xs => ∃ vn vd vk ys, xs = .int .i64 k :: .string nm :: vn :: .int .i64 ck :: .int .i64 ci :: .string cs :: vd :: vk :: ys ∧ InF w S (.mk k nm ns (.mk ck ci cs cl) l0) vn vd vk ∧ RowE w S l ys
theorem RowE.append {w : World} {S : Nat → Prop} {m : List PE} {ys : List Value} (hm : RowE w S m ys) : ∀ {l : List PE} {xs : List Value}, RowE w S l xs → RowE w S (l ++ m) (xs ++ ys)
  | [], xs, h => by rw [RowE] at h; subst h; exact hm
  | .mk k nm ns (.mk ck ci cs cl) l0 :: l, xs, h => by
    rw [RowE] at h
    obtain ⟨vn, vd, vk, zs, rfl, h1, h⟩ := h
    rw [List.cons_append, RowE]
    exact ⟨vn, vd, vk, zs ++ ys, rfl, h1, RowE.append hm h⟩
theorem RowE.move {w w' : World} {S S' : Nat → Prop} (hS : ∀ b, S b → b < w.heap.size → S' b) (hc : ∀ b o v, S b → w.cell? ⟨b, o, none⟩ = some v → w'.cell? ⟨b, o, none⟩ = some v) : ∀ {l : List PE} {xs : List Value}, RowE w S l xs → RowE w' S' l xs
  | [], xs, h => by rw [RowE] at h ⊢; exact h
  | .mk k nm ns (.mk ck ci cs cl) l0 :: l, xs, h => by
    rw [RowE] at h ⊢
    obtain ⟨vn, vd, vk, ys, e, h1, h⟩ := h
    exact ⟨vn, vd, vk, ys, e, h1.move hS hc, RowE.move hS hc h⟩
theorem ats_of_rowE {w : World} {S : Nat → Prop} : ∀ {l : List PE} {xs : List Value} {b o : Nat}, RowE w S l xs → (∀ j u, xs[j]? = some u → w.cell? ⟨b, o + j, none⟩ = some u) → InEs w S l b o
  | [], xs, b, o, _, _ => by rw [InEs]; trivial
  | .mk k nm ns (.mk ck ci cs cl) l0 :: l, xs, b, o, h, hc => by
    rw [RowE] at h
    obtain ⟨vn, vd, vk, ys, rfl, h1, h⟩ := h
    rw [InEs]
    refine ⟨inE_of h1 (hc 0 _ rfl) (hc 1 _ rfl) (hc 2 _ rfl) (hc 3 _ rfl) (hc 4 _ rfl) (hc 5 _ rfl) (hc 6 _ rfl) (hc 7 _ rfl), ats_of_rowE h fun j u hj => ?_⟩
    have := hc (j + 8) u (by simpa using hj)
    rwa [show o + (j + 8) = o + 8 + j by omega] at this
/-- A row of expressions of the call's own, from block C on; their rows lie in blocks of P, and not in its own. -/
def OutE (w : World) (C : Nat) (P : Nat → Prop) (l : List PE) (v : Value) : Prop :=
  ∃ xs, w.ownsRow C 28 8 v l.length xs ∧ RowE w (fun b => P b ∧ some b ≠ v.ownBlock) l xs
theorem OutE.nil (w : World) (C : Nat) (P : Nat → Prop) : OutE w C P [] (.slice none 0 0) := ⟨[], World.ownsRow_nil _ _ _ _, by rw [RowE]⟩
/-- .. where its own block and those of P are as they were. -/
theorem OutE.at {w w' : World} {C : Nat} {P P' : Nat → Prop} {l : List PE} {v : Value} (h : OutE w C P l v) (hb : ∀ b, v.ownBlock = some b → w'.heap[b]? = w.heap[b]?) (hP : ∀ b, P b → b < w.heap.size → w'.heap[b]? = w.heap[b]? ∧ P' b) : OutE w' C P' l v := by
  obtain ⟨xs, ho, hx⟩ := h
  refine ⟨xs, ⟨ho.1, ho.2.imp id ?_⟩, hx.move (fun b hb hlt => ⟨(hP b hb.1 hlt).2, hb.2⟩) fun b o v hb hc => ?_⟩
  · rintro ⟨g, cap, cur, rfl, h1, h2, h3⟩
    exact ⟨g, cap, cur, rfl, h1, (hb g rfl).trans h2, h3⟩
  · rw [World.cell?_of_block (w := w) (a := ⟨b, o, none⟩) (hP b hb.1 (World.block_lt_of_cell? _ _ hc)).1]; exact hc
theorem OutE.slice {w : World} {C : Nat} {P : Nat → Prop} {l : List PE} {v : Value} (h : OutE w C P l v) : ∃ a c, v = .slice a l.length c ∧ (∀ b, v.ownBlock = some b → C ≤ b ∧ b < w.heap.size) := by
  obtain ⟨xs, ho, _⟩ := h
  have hl := ho.lt
  rcases ho.2 with ⟨rfl, h0⟩ | ⟨g, cap, cur, rfl, _⟩
  · exact ⟨none, 0, by rw [h0], hl⟩
  · exact ⟨_, cap, rfl, hl⟩
theorem OutE.inK {w : World} {C : Nat} {P S : Nat → Prop} {l : List PE} {v : Value} (h : OutE w C P l v) (hP : ∀ b, P b → S b) (hv : ∀ b, v.ownBlock = some b → S b) : InK w S l v := by
  obtain ⟨xs, ho, hx⟩ := h
  have hx' : RowE w S l xs := hx.move (fun b hb _ => hP b hb.1) (fun _ _ _ _ h => h)
  rcases ho.2 with ⟨rfl, h0⟩ | ⟨g, cap, cur, rfl, hb, hg, hn, hcm, hcs, ht⟩
  · obtain rfl := List.eq_nil_of_length_eq_zero h0
    exact ⟨none, 0, rfl, Nat.le_refl _, Nat.zero_le _, fun _ => rfl, .inl rfl⟩
  · refine ⟨some ⟨g, 0, none⟩, cap, rfl, hn, hcm, (fun h => by cases h), .inr ⟨g, 0, rfl, hv g rfl, ats_of_rowE hx' fun j u hj => ?_⟩⟩
    have := ho.cells (g := g) rfl j u hj
    simpa [add_plain] using this
theorem outE_step {w w' : World} {C g cap : Nat} {P : Nat → Prop} {l : List PE} {v : Value} {xs : List Value} {k : Int} {nm : ByteArray} {ns : List ByteArray} {ck ci : Int} {cs : ByteArray} {cl : List PT} {l0 : List PE} {vn vd vk : Value} (hrx : RowE w (fun b => P b ∧ some b ≠ v.ownBlock) l xs)
    (hm : InF w (fun b => P b ∧ some b ≠ v.ownBlock) (.mk k nm ns (.mk ck ci cs cl) l0) vn vd vk)
    (hown : w'.ownsRow C 28 8 (.slice (some ⟨g, 0, none⟩) (l.length + 1) cap) (l.length + 1) (xs ++ [.int .i64 k, .string nm, vn, .int .i64 ck, .int .i64 ci, .string cs, vd, vk])) (hgrow : w.grownBy w' v.ownBlock) (hat : v.ownBlock = some g ∨ g = w.heap.size) :
    OutE w' C P (l ++ [.mk k nm ns (.mk ck ci cs cl) l0]) (.slice (some ⟨g, 0, none⟩) (l.length + 1) cap) := by
  have hS : ∀ b, (P b ∧ some b ≠ v.ownBlock) → b < w.heap.size → P b ∧ some b ≠ some g := fun b hb hlt => ⟨hb.1, by
      rcases hat with e | e
      · rw [← e]; exact hb.2
      · rw [e]; simp; omega⟩
  have hc : ∀ b o' y, (P b ∧ some b ≠ v.ownBlock) → w.cell? ⟨b, o', none⟩ = some y → w'.cell? ⟨b, o', none⟩ = some y := fun b o' y hb hc => by
    rw [World.cell?_of_block (w := w) (a := ⟨b, o', none⟩) (hgrow.block b (World.block_lt_of_cell? _ _ hc) hb.2)]; exact hc
  refine ⟨_, by rw [List.length_append]; exact hown, RowE.append ?_ (hrx.move hS hc)⟩
  rw [RowE]
  exact ⟨vn, vd, vk, [], rfl, hm.move hS hc, by rw [RowE]⟩
theorem wpList_append_e {ops : Array Oper} {rest : List Oper} {o : Oper} {a : Act} {w : World} {Q : Exit → Act → World → Prop} (hgd : o.guard = none) (sl x : Operand)
    (ho : o.op = .call { callee := .builtin .append, args := #[sl, x], argTypes := #[26, 26] }) (C : Nat) (P : Nat → Prop) (l : List PE) (v : Value) (hs : a.eval sl = v) (h : OutE w C P l v) (B : Nat) (k : Int) (nm : ByteArray) (ns : List ByteArray) (ck ci : Int) (cs : ByteArray) (cl : List PT) (l0 : List PE) (vn vd vk : Value) (hx : a.eval x = .slice (some ⟨B, 0, none⟩) 1 1)
    (hB : w.heap[B]? = some (.cells #[.int .i64 k, .string nm, vn, .int .i64 ck, .int .i64 ci, .string cs, vd, vk] 28 (0, 0))) (hm : InF w (fun b => P b ∧ some b ≠ v.ownBlock) (.mk k nm ns (.mk ck ci cs cl) l0) vn vd vk) (hlen : l.length ≤ 100000) (hC : C ≤ w.heap.size)
    (kk : ∀ g cap w', OutE w' C P (l ++ [.mk k nm ns (.mk ck ci cs cl) l0]) (.slice (some ⟨g, 0, none⟩) (l.length + 1) cap) → w.grownBy w' v.ownBlock → (v.ownBlock = some g ∨ g = w.heap.size) → wpList Tryz.prog ops Q rest (a.put o.dst (.slice (some ⟨g, 0, none⟩) (l.length + 1) cap)) w') : wpList Tryz.prog ops Q (o :: rest) a w := by
  obtain ⟨i0, hi, hz0, hz1, hz2⟩ := info_parts infoExpr
  obtain ⟨xs, hxs, hrx⟩ := h
  obtain ⟨⟨_, _, ⟨an, cn, en, _⟩⟩, ⟨_, _, _, ⟨ad, cd, ed, _⟩⟩, ⟨ak, ck', ek, _⟩⟩ := id hm
  subst en ed ek
  refine wpList_append_lies w hgd sl x 26 ho C 28 i0 _ 8 128 Tryz.underlying26 hi hz0 hz1 hz2 rfl (by decide) v l.length xs hs hxs ⟨B, 0, none⟩ 1 1 _ hx rfl (World.news_of_block hB) ?_ (by decide) (by unfold maxLen; omega) (by omega) hC w.heap.size rfl ?_
  · intro u hu
    simp only [List.mem_cons, List.not_mem_nil, or_false] at hu
    rcases hu with rfl | rfl | rfl | rfl | rfl | rfl | rfl | rfl <;> rfl
  · intro g cap w' hown hgrow hat hlt
    exact kk g cap w' (outE_step hrx hm hown hgrow hat) hgrow hat
end Go.Proofs.YtjofdlnopchaeaaGreatDoor.Core

/-
Package core's renamedAll: kids renamed, behind those that are there. No condition.
-/
namespace Go.Proofs.YtjofdlnopchaeaaGreatDoor.Core
open Go.ChangeShapes Go.WideShapes Go.ChangeAt Go.RowKit Go.Deep
open Dat (PT ok64 RowX)
set_option maxRecDepth 100000

/-- What renamed answers. -/
def RenamedIs (C rb sb bb n N0 : Nat) (U : List ByteArray) (m : ByteArray → Option Int) (env : ByteArray → List Nat) (nx : Nat) (w : World) (f : ByteArray → Value) (t : PE) (e : Ending) (w' : World) : Prop :=
  ∃ k nm ns ck ci cs cl l vn vd vk nx' f' N', e = .returned (.agg #[.int .i64 k, .string nm, vn, .int .i64 ck, .int .i64 ci, .string cs, vd, vk]) ∧ RenR U env nx t (.mk k nm ns (.mk ck ci cs cl) l) nx' ∧
    InF w' (fun b => w.heap.size ≤ b ∧ NoRow f' b) (.mk k nm ns (.mk ck ci cs cl) l) vn vd vk ∧ RenSt w' C rb sb bb n N' U m f' env nx' ∧ RenFr C rb bb w f w' f' ∧ N' ≤ N0 + 2 * sizeE t
def RenamedOk (t : PE) : Prop := ∀ (w : World) (S : Nat → Prop) (C rb sb bb n N : Nat) (U : List ByteArray) (m : ByteArray → Option Int) (f : ByteArray → Value) (env : ByteArray → List Nat) (nx : Nat) (vn vd vk : Value),
  InF w S t vn vd vk → okE t → (∀ b, S b → b < C) → RenSt w C rb sb bb n N U m f env nx → TabOk w → 0 < C → N + 2 * sizeE t ≤ 1000000000 → nx + sizeE t + restN U nx ≤ 1000000000 → (∀ s, (env s).length + sizeE t ≤ 100000) →
  Calls Tryz.prog 27 #[.pointer (some ⟨rb, 0, none⟩), t.val vn vd vk] w fun e w' => RenamedIs C rb sb bb n N U m env nx w f t e w'
theorem tab_below {C : Nat} {w w' : World} (h : TabOk w) (hg : 0 < C) (hb : Below C w w') : TabOk w' := by
  obtain ⟨T, fr, h⟩ := h
  exact ⟨T, fr, (hb.block _ hg).trans h⟩
/-- What a call leaves as it was, but for one row of the caller's. -/
def RenFX (C rb bb : Nat) (ob : Option Nat) (w : World) (f : ByteArray → Value) (w' : World) (f' : ByteArray → Value) : Prop :=
  Below C w w' ∧ ∀ b, b < w.heap.size → b ≠ rb → b ≠ bb → some b ≠ ob → NoRow f b → w'.heap[b]? = w.heap[b]? ∧ NoRow f' b
theorem RenFX.refl (C rb bb : Nat) (ob : Option Nat) (w : World) (f : ByteArray → Value) : RenFX C rb bb ob w f w f := ⟨Below.refl _ _, fun _ _ _ _ _ h => ⟨rfl, h⟩⟩
theorem RenFX.next {C rb bb : Nat} {ob : Option Nat} {w w1 w2 : World} {f f1 f2 : ByteArray → Value} (h : RenFX C rb bb ob w f w1 f1) (g : RenFr C rb bb w1 f1 w2 f2) : RenFX C rb bb ob w f w2 f2 :=
  ⟨h.1.trans g.1, fun b h1 h2 h3 h4 h5 => by
    obtain ⟨a1, a2⟩ := h.2 b h1 h2 h3 h4 h5
    obtain ⟨b1, b2⟩ := g.2 b (Nat.lt_of_lt_of_le h1 h.1.size) h2 h3 a2
    exact ⟨b1.trans a1, b2⟩⟩
theorem RenSt.at {w w' : World} {C rb sb bb n N : Nat} {U : List ByteArray} {m : ByteArray → Option Int} {f : ByteArray → Value} {env : ByteArray → List Nat} {nx : Nat} (h : RenSt w C rb sb bb n N U m f env nx) (hb : ∀ b, (b = rb ∨ b = sb ∨ b = bb ∨ ∃ s, (f s).ownBlock = some b) → w'.heap[b]? = w.heap[b]?) : RenSt w' C rb sb bb n N U m f env nx :=
  ⟨(hb rb (.inl rfl)).trans h.blk, h.cnt.at (hb sb (.inr (.inl rfl))), h.use, h.map.at (hb bb (.inr (.inr (.inl rfl)))), fun s => (h.rows s).at fun b e => hb b (.inr (.inr (.inr ⟨s, e⟩))), h.old, h.apart, h.rbC, h.sbC, h.bbC, h.ne1, h.ne2, h.ne3⟩
theorem RenSt.noNew {w : World} {C rb sb bb n N : Nat} {U : List ByteArray} {m : ByteArray → Option Int} {f : ByteArray → Value} {env : ByteArray → List Nat} {nx : Nat} (h : RenSt w C rb sb bb n N U m f env nx) {b : Nat} (hb : w.heap.size ≤ b) : NoRow f b := fun s e => by
  have := (World.ownsRow.lt (h.rows s) b e).2
  omega
theorem RenSt.mono {w : World} {C rb sb bb n N N' : Nat} {U : List ByteArray} {m : ByteArray → Option Int} {f : ByteArray → Value} {env : ByteArray → List Nat} {nx : Nat} (h : RenSt w C rb sb bb n N U m f env nx) (hN : N ≤ N') : RenSt w C rb sb bb n N' U m f env nx :=
  ⟨h.blk, h.cnt, h.use, h.map.mono hN, h.rows, h.old, h.apart, h.rbC, h.sbC, h.bbC, h.ne1, h.ne2, h.ne3⟩
/-- How things stand behind some of the kids. -/
structure AllSt (C C1 rb sb bb n : Nat) (U : List ByteArray) (m : ByteArray → Option Int) (env : ByteArray → List Nat) (w : World) (f : ByteArray → Value) (ob : Option Nat) (wr : World) (l : List PE) (v : Value) (N : Nat) (f' : ByteArray → Value) (nx : Nat) : Prop where
  row : OutE wr C1 (fun b => C1 ≤ b ∧ NoRow f' b) l v
  own : ∀ b, v.ownBlock = some b → NoRow f' b
  st : RenSt wr C rb sb bb n N U m f' env nx
  fr : RenFX C rb bb ob w f wr f'
  ob : v.ownBlock = ob ∨ ∀ b, v.ownBlock = some b → w.heap.size ≤ b
theorem AllSt.mid {C C1 rb sb bb n : Nat} {U : List ByteArray} {m : ByteArray → Option Int} {env : ByteArray → List Nat} {w : World} {f : ByteArray → Value} {ob : Option Nat} {wr : World} {l : List PE} {v : Value} {N : Nat} {f1 : ByteArray → Value} {nx : Nat}
    (h : AllSt C C1 rb sb bb n U m env w f ob wr l v N f1 nx) (hr : rb < C1) (hb : bb < C1) {w5 : World} {N5 : Nat} {f5 : ByteArray → Value} {nx5 : Nat} (hs : RenSt w5 C rb sb bb n N5 U m f5 env nx5) (hf : RenFr C rb bb wr f1 w5 f5) : AllSt C C1 rb sb bb n U m env w f ob w5 l v N5 f5 nx5 := by
  obtain ⟨_, _, ev, hown⟩ := h.row.slice
  refine ⟨h.row.at (fun b e => (hf.2 b (hown b e).2 (by have := (hown b e).1; omega) (by have := (hown b e).1; omega) (h.own b e)).1) (fun b hb1 hlt => ?_), fun b e => (hf.2 b (hown b e).2 (by have := (hown b e).1; omega) (by have := (hown b e).1; omega) (h.own b e)).2, hs, h.fr.next hf, h.ob⟩
  have := hf.2 b hlt (by have := hb1.1; omega) (by have := hb1.1; omega) hb1.2
  exact ⟨this.1, hb1.1, this.2⟩
theorem AllSt.grow {C C1 rb sb bb n : Nat} {U : List ByteArray} {m : ByteArray → Option Int} {env : ByteArray → List Nat} {w : World} {f : ByteArray → Value} {ob : Option Nat} {w6 : World} {l : List PE} {v : Value} {N : Nat} {f5 : ByteArray → Value} {nx : Nat}
    (h : AllSt C C1 rb sb bb n U m env w f ob w6 l v N f5 nx) (hr : rb < C1) (hs : sb < C1) (hb : bb < C1) {w7 : World} {l' : List PE} {g n' cap : Nat} (hg : w6.grownBy w7 v.ownBlock) (hat : v.ownBlock = some g ∨ g = w6.heap.size) (hrow : OutE w7 C1 (fun b => C1 ≤ b ∧ NoRow f5 b) l' (.slice (some ⟨g, 0, none⟩) n' cap)) (hnone : ∀ b, v.ownBlock = some b → C1 ≤ b) : AllSt C C1 rb sb bb n U m env w f ob w7 l' (.slice (some ⟨g, 0, none⟩) n' cap) N f5 nx := by
  have hC := h.st.rbC
  have hrl := lt_of_block h.st.blk
  have hz := h.fr.1.size
  have hgN : NoRow f5 g := by
    rcases hat with e | e
    · exact h.own g e
    · exact h.st.noNew (by omega)
  refine ⟨hrow, ?_, h.st.at fun b hb1 => hg.block b ?_ ?_, ⟨h.fr.1.grown hg (by omega) (fun b e => by have := hnone b e; omega), fun b h1 h2 h3 h4 h5 => ?_⟩, ?_⟩
  · rintro b e
    cases e
    exact hgN
  · rcases hb1 with rfl | rfl | rfl | ⟨s, e⟩
    · exact lt_of_block h.st.blk
    · exact h.st.cnt.lt
    · exact h.st.map.lt
    · exact (World.ownsRow.lt (h.st.rows s) b e).2
  · rintro e
    have := hnone b e.symm
    rcases hb1 with rfl | rfl | rfl | ⟨s, e2⟩
    · omega
    · omega
    · omega
    · exact h.own b e.symm s e2
  · obtain ⟨a1, a2⟩ := h.fr.2 b h1 h2 h3 h4 h5
    refine ⟨(hg.block b (by omega) fun e => ?_).trans a1, a2⟩
    rcases h.ob with e2 | e2
    · exact h4 (e.trans e2)
    · have := e2 b e.symm; omega
  · rcases hat with e | e
    · rcases h.ob with e2 | e2
      · left; rw [← e2, e]; rfl
      · right; rintro b e3; cases e3; exact e2 g e
    · right; rintro b e3; cases e3; show w.heap.size ≤ g; omega
/-- What renamedAll answers. -/
def AllIs (C C1 rb sb bb n N0 : Nat) (U : List ByteArray) (m : ByteArray → Option Int) (env : ByteArray → List Nat) (nx : Nat) (w : World) (f : ByteArray → Value) (ob : Option Nat) (l0 kids : List PE) (e : Ending) (w' : World) : Prop :=
  ∃ l' v' nx' f' N', e = .returned v' ∧ RenRs U env env 0 nx kids l' nx' ∧ AllSt C C1 rb sb bb n U m env w f ob w' (l0 ++ l') v' N' f' nx' ∧ N' ≤ N0 + 2 * sizeEs kids
theorem ren_len {U : List ByteArray} : ∀ {l l' : List PE} {e1 e2 : ByteArray → List Nat} {fr nx nx' : Nat}, RenRs U e1 e2 fr nx l l' nx' → l'.length = l.length
  | [], l', e1, e2, fr, nx, nx', h => by rw [RenRs] at h; rw [h.1]
  | t :: l, l', e1, e2, fr, nx, nx', h => by
    rw [RenRs] at h
    obtain ⟨t', n1, l1, h1, h2, rfl⟩ := h
    simp only [List.length_cons, ren_len h2]
set_option maxHeartbeats 1000000 in
theorem renamedAll_any (kids : List PE) (ih : ∀ t ∈ kids, RenamedOk t) (hok : ∀ t ∈ kids, okE t) (w : World) (S : Nat → Prop) (C C1 rb sb bb n N : Nat) (U : List ByteArray) (m : ByteArray → Option Int) (f : ByteArray → Value) (env : ByteArray → List Nat) (nx : Nat) (l0 : List PE) (v vk : Value)
    (hk : InK w S kids vk) (hS : ∀ b, S b → b < C) (hA : AllSt C C1 rb sb bb n U m env w f v.ownBlock w l0 v N f nx) (hr : rb < C1) (hs : sb < C1) (hb : bb < C1) (hC1 : C1 ≤ w.heap.size) (ht : TabOk w) (hg : 0 < C) (hN : N + 2 * sizeEs kids ≤ 1000000000) (hnx : nx + sizeEs kids + restN U nx ≤ 1000000000) (hE : ∀ s, (env s).length + sizeEs kids ≤ 100000) (hl0 : l0.length + kids.length ≤ 8192) :
    Calls Tryz.prog 49 #[.pointer (some ⟨rb, 0, none⟩), v, vk] w fun e w' => AllIs C C1 rb sb bb n N U m env nx w f v.ownBlock l0 kids e w' := by
  have HA := Lib.hid hA
  have HT := Lib.hid ht
  have IH := Lib.hid ih
  have HOK := Lib.hid hok
  have HK := Lib.hid hk
  have HBC : Hid (∀ W, Below C w W → InK W S kids vk) := Lib.hid fun W hW => hk.move (fun _ h _ => h) fun b o y hs hc => by
    rw [World.cell?_of_block (w := w) (a := ⟨b, o, none⟩) (hW.block b (hS b hs))]; exact hc
  obtain ⟨av, cv, rfl, hown0⟩ := hA.row.slice
  obtain ⟨ak, c, rfl, hl, hm, _⟩ := hk
  have HSL := Lib.hid hS
  have HCC := Lib.hid hg
  unfold maxLen at hm
  generalize (Value.slice av l0.length cv).ownBlock = ob at *
  clear ih hok hA ht hown0 hS
  go_enter Tryz.func49, Tryz.ntmps49
  go_wp2
  go_loopw [1, 11] (fun v ix wr => ∃ j : Nat, j ≤ kids.length ∧ ix = .int .i64 j ∧ ∃ l' nx' f' N', RenRs U env env 0 nx (kids.take j) l' nx' ∧ AllSt C C1 rb sb bb n U m env w f ob wr (l0 ++ l') v N' f' nx' ∧ N' ≤ N + 2 * sizeEs (kids.take j)) (fun _ i _ => kids.length - (intOf i).toNat)
  case atStart => exact ⟨0, Nat.zero_le _, rfl, [], nx, f, N, by rw [List.take_zero, RenRs]; exact ⟨rfl, rfl⟩, by rw [List.append_nil]; exact HA.out, by omega⟩
  case round =>
    obtain ⟨j, hj, rfl, l', nx', f', N', hrs, hst, hN'⟩ := hrel
    have hlen : (l0 ++ l').length ≤ 100000 := by rw [List.length_append, ren_len hrs, List.length_take]; omega
    generalize hL : l0 ++ l' = L at hst hlen
    have HL := Lib.hid hL
    clear hL
    have HST := Lib.hid hst
    have HRS := Lib.hid hrs
    obtain ⟨av', cv', rfl, hown⟩ := hst.row.slice
    have HOWN := Lib.hid hown
    by_cases hlt : j < kids.length
    · obtain ⟨b, o, c', ea, _, _, hS1, hE1⟩ := (HBC.out _ hst.fr.1).item j hlt
      cases ea
      have hpot := hrs.pot
      have HTZ : Hid (sizeEs (kids.take (j + 1)) = sizeEs (kids.take j) + sizeE kids[j]) := Lib.hid (by rw [List.take_succ_eq_append_getElem hlt, sizeEs_snoc])
      have HTS : Hid (∀ t' n2, RenR U env nx' kids[j] t' n2 → RenRs U env env 0 nx (kids.take (j + 1)) (l' ++ [t']) n2) := Lib.hid fun t' n2 h => by
        rw [List.take_succ_eq_append_getElem hlt]; exact renRs_snoc HRS.out h
      have hIHj := IH.out kids[j] (List.getElem_mem hlt)
      have hokj := HOK.out kids[j] (List.getElem_mem hlt)
      have hzz : sizeEs (kids.take j) + sizeE kids[j] ≤ sizeEs kids := by rw [← HTZ.out]; exact sizeEs_take _ _
      clear hst hrs hown
      generalize sizeEs (kids.take j) = z at *
      generalize kids[j] = t at hE1 hIHj HTS HTZ hzz hokj
      obtain ⟨tk, tn, tns, ⟨tck, tci, tcs, tcl⟩, tl⟩ := t
      obtain ⟨tvn, tvd, tvk, hF1, a0, a1, a2, a3, a4, a5, a6, a7⟩ := hE1.cells
      have hbb := World.block_lt_of_cell? _ _ a0
      have KC := Lib.hid (fun o : Obj => hIHj (wr.alloc o) S C rb sb bb n N' U m f' env nx' tvn tvd tvk (hF1.below (bel_alloc' (Below.refl _ _) o)) hokj HSL.out (HST.out.st.below ((Below.refl _ _).alloc (Nat.le_refl _) o)) (tab_below HT.out HCC.out ((HST.out.fr.1).alloc (by have := HST.out.st.rbC; have := lt_of_block HST.out.st.blk; omega) o)) HCC.out (by omega) (by omega) (fun s => by have := hE s; omega))
      obtain ⟨⟨_, _, hn1'⟩, ⟨_, _, _, hd1'⟩, hk1'⟩ := hF1
      obtain ⟨_, _, rfl, -⟩ := hn1'
      obtain ⟨_, _, rfl, -⟩ := hd1'
      obtain ⟨_, _, rfl, -⟩ := hk1'
      unfold PE.val RenamedIs at KC
      generalize sizeE (.mk tk tn tns (.mk tck tci tcs tcl) tl) = z' at KC HTZ hzz
      clear hE1 hIHj hokj hE
      go_wp2_with fail
      refine (KC.out _).mono ?_
      rintro e w5 ⟨k5, nm5, ns5, ck5, ci5, cs5, cl5, l5, vn5, vd5, vk5, nx5, f5, N5, rfl, hR5, hF5, hS5, hFr5, hN5⟩
      have HR5 := Lib.hid (HTS.out _ _ hR5)
      have HFO := Lib.hid (show RenFr C rb bb wr f' w5 f5 from (RenFr.of_below (by have := HST.out.st.rbC; have := lt_of_block HST.out.st.blk; omega) ((Below.refl _ _).alloc (Nat.le_refl _) _)).trans hFr5)
      have HM5 := Lib.hid (HST.out.mid hr hb hS5 HFO.out)
      have HM6 := Lib.hid (HM5.out.mid hr hb (HM5.out.st.below ((Below.refl _ _).alloc (Nat.le_refl _) (.cells #[.int .i64 k5, .string nm5, vn5, .int .i64 ck5, .int .i64 ci5, .string cs5, vd5, vk5] 28))) (RenFr.of_below (by have := HM5.out.st.rbC; have := lt_of_block HM5.out.st.blk; omega) ((Below.refl _ _).alloc (Nat.le_refl _) _)))
      have HF6 : Hid (InF (w5.alloc (.cells #[.int .i64 k5, .string nm5, vn5, .int .i64 ck5, .int .i64 ci5, .string cs5, vd5, vk5] 28)) (fun b => (C1 ≤ b ∧ NoRow f5 b) ∧ some b ≠ (Value.slice av' L.length cv').ownBlock) (.mk k5 nm5 ns5 (.mk ck5 ci5 cs5 cl5) l5) vn5 vd5 vk5) := Lib.hid ((hF5.move (fun b hb1 _ => ⟨⟨by
        have := hb1.1
        rw [size_new] at this
        have := HST.out.fr.1.size
        omega, hb1.2⟩, fun e => by
          have := (HOWN.out b e.symm).2
          have := hb1.1
          rw [size_new] at this
          omega⟩) (fun _ _ _ _ hc => hc)).below (bel_alloc' (Below.refl _ _) _))
      have HZ6 : Hid (C1 ≤ (w5.alloc (.cells #[.int .i64 k5, .string nm5, vn5, .int .i64 ck5, .int .i64 ci5, .string cs5, vd5, vk5] 28)).heap.size) := Lib.hid (by have := HST.out.fr.1.size; have := HFO.out.1.size; rw [size_new]; omega)
      clear hR5 hF5 hS5 hFr5
      go_wp2_with (at_builtin; refine wpList_append_e rfl _ _ rfl C1 _ _ _ rfl HM6.out.row w5.heap.size k5 nm5 ns5 ck5 ci5 cs5 cl5 l5 vn5 vd5 vk5 rfl (heap_alloc_new w5 _) HF6.out hlen HZ6.out ?_; intro g cap w7 h7 hg7 hat7)
      have HA7 := Lib.hid (HM6.out.grow hr hs hb hg7 hat7 h7 (fun b e => (HOWN.out b e).1))
      clear h7 hg7 hat7
      go_wp2
      go_roundw
      case rel => exact ⟨j + 1, by omega, by go_num, _, _, _, _, HR5.out, by rw [← List.append_assoc, HL.out]; exact HA7.out, by rw [HTZ.out]; omega⟩
      case measure => simp [intOf]; omega
    · obtain rfl : j = kids.length := by omega
      rw [List.take_length] at hrs hN'
      have HFIN : Hid (AllIs C C1 rb sb bb n N U m env nx w f ob l0 kids (.returned (.slice av' L.length cv')) wr) := Lib.hid ⟨l', _, nx', f', N', rfl, hrs, by rw [HL.out]; exact HST.out, hN'⟩
      clear hst hrs hown
      go_wp2
      go_ret
      exact HFIN.out
end Go.Proofs.YtjofdlnopchaeaaGreatDoor.Core

/-
The renamer's memory where a name is bound, and where it is let go. No condition.
-/
namespace Go.Proofs.YtjofdlnopchaeaaGreatDoor.Core
open Go.ChangeShapes Go.WideShapes Go.ChangeAt Go.RowKit Go.Deep
open Dat (PT ok64 RowX)
set_option maxRecDepth 100000

/-- The last number of a name is let go. -/
def pop1 (env : ByteArray → List Nat) (s : ByteArray) : ByteArray → List Nat := fun t => if t = s then (env t).dropLast else env t
def popE : (ByteArray → List Nat) → List ByteArray → ByteArray → List Nat
  | env, [] => env
  | env, s :: ns => popE (pop1 env s) ns
theorem push_len : ∀ (ns : List ByteArray) (is : List Nat) (env : ByteArray → List Nat) (t : ByteArray), (pushE env ns is t).length ≤ (env t).length + ns.length
  | [], is, env, t => by rw [pushE]; simp
  | s :: ns, [], env, t => by rw [pushE]; simp
  | s :: ns, i :: is, env, t => by
    rw [pushE]
    have := push_len ns is (push1 env s i) t
    have h2 : (push1 env s i t).length ≤ (env t).length + 1 := by unfold push1; split <;> simp
    simp only [List.length_cons]
    omega
theorem push_snoc : ∀ (ns : List ByteArray) (is : List Nat) (env : ByteArray → List Nat) (s : ByteArray) (i : Nat), ns.length = is.length → pushE env (ns ++ [s]) (is ++ [i]) = push1 (pushE env ns is) s i
  | [], [], env, s, i, _ => by simp only [List.nil_append, pushE]
  | [], _ :: _, env, s, i, h => by simp at h
  | _ :: _, [], env, s, i, h => by simp at h
  | t :: ns, j :: is, env, s, i, h => by
    simp only [List.cons_append, pushE]
    exact push_snoc ns is _ s i (by simpa using h)
theorem pop_snoc : ∀ (ns : List ByteArray) (env : ByteArray → List Nat) (s : ByteArray), popE env (ns ++ [s]) = pop1 (popE env ns) s
  | [], env, s => by simp only [List.nil_append, popE]
  | t :: ns, env, s => by simp only [List.cons_append, popE]; exact pop_snoc ns _ s
/-- How often a name stands in a row. -/
def occN : List ByteArray → ByteArray → Nat
  | [], _ => 0
  | t :: l, s => (if t = s then 1 else 0) + occN l s
/-- A name's row: what it was, and as many more as it stands there. -/
def ExtE (env e2 : ByteArray → List Nat) (c : ByteArray → Nat) : Prop := ∀ t, ∃ x, e2 t = env t ++ x ∧ x.length = c t
theorem push_ext : ∀ (ns : List ByteArray) (is : List Nat) (env : ByteArray → List Nat), is.length = ns.length → ExtE env (pushE env ns is) (occN ns)
  | [], [], env, _, t => ⟨[], by rw [pushE, List.append_nil], rfl⟩
  | [], _ :: _, env, h, t => by simp at h
  | _ :: _, [], env, h, t => by simp at h
  | s :: ns, i :: is, env, h, t => by
    obtain ⟨x, h1, h2⟩ := push_ext ns is (push1 env s i) (by simpa using h) t
    rw [pushE, h1, occN]
    by_cases e : t = s
    · subst e
      exact ⟨i :: x, by simp [push1], by simp [h2]; omega⟩
    · exact ⟨x, by simp [push1, e], by simp [h2, Ne.symm e]⟩
theorem pop_ext : ∀ (ns : List ByteArray) (env e2 : ByteArray → List Nat) (c : ByteArray → Nat), ExtE env e2 (fun t => c t + occN ns t) → ExtE env (popE e2 ns) c
  | [], env, e2, c, h, t => by obtain ⟨x, h1, h2⟩ := h t; exact ⟨x, by rw [popE, h1], by simpa [occN] using h2⟩
  | s :: ns, env, e2, c, h, t => by
    rw [popE]
    refine pop_ext ns env (pop1 e2 s) c (fun u => ?_) t
    obtain ⟨x, h1, h2⟩ := h u
    by_cases e : u = s
    · subst e
      simp only [occN, if_pos] at h2
      have hx : x ≠ [] := by rintro rfl; simp at h2; omega
      refine ⟨x.dropLast, ?_, by simp; omega⟩
      simp only [pop1, if_pos, h1]
      rw [List.dropLast_append_of_ne_nil hx]
    · refine ⟨x, by simp [pop1, e, h1], ?_⟩
      simp only [occN] at h2
      rw [if_neg (fun h => e h.symm)] at h2
      show x.length = c u + occN ns u
      omega
/-- What was bound is let go again. -/
theorem pop_push (ns : List ByteArray) (is : List Nat) (env : ByteArray → List Nat) (h : is.length = ns.length) : popE (pushE env ns is) ns = env := by
  have := pop_ext ns env (pushE env ns is) (fun _ => 0) (fun t => by simpa using push_ext ns is env h t)
  funext t
  obtain ⟨x, h1, h2⟩ := this t
  rw [h1, List.eq_nil_of_length_eq_zero h2, List.append_nil]
/-- .. and in between, a name that is still to be let go has a number. -/
theorem pop_some (ns : List ByteArray) (is : List Nat) (env : ByteArray → List Nat) (h : is.length = ns.length) (j : Nat) (hj : j < ns.length) : popE (pushE env ns is) (ns.take j) ns[j] ≠ [] := by
  have h0 : ∀ (l : List ByteArray) (t : ByteArray) (m : List ByteArray), occN (l ++ m) t = occN l t + occN m t := by
    intro l t m
    induction l with
    | nil => simp [occN]
    | cons u l ih => simp only [List.cons_append, occN, ih]; omega
  have := pop_ext (ns.take j) env (pushE env ns is) (occN (ns.drop j)) (fun t => by
    obtain ⟨x, h1, h2⟩ := push_ext ns is env h t
    refine ⟨x, h1, ?_⟩
    have h3 := h0 (ns.take j) t (ns.drop j)
    rw [List.take_append_drop] at h3
    show x.length = occN (ns.drop j) t + occN (ns.take j) t
    omega)
  obtain ⟨x, h1, h2⟩ := this ns[j]
  rw [List.drop_eq_getElem_cons hj] at h2
  simp only [occN, if_pos] at h2
  rw [h1]
  intro h3
  have := List.append_eq_nil_iff.1 h3
  rw [this.2] at h2
  simp at h2
  omega
/-- A row, shorter by its last. -/
theorem RowN.short {w : World} {C : Nat} {l : List Nat} {a : Option Addr} {n c : Nat} (h : RowN w C l (.slice a n c)) (h0 : l ≠ []) : RowN w C l.dropLast (.slice a (n - 1) c) := by
  have hlp := List.length_pos_iff.2 h0
  unfold RowN at h ⊢
  refine ⟨by simp, ?_⟩
  rcases h.2 with ⟨e, e0⟩ | ⟨g, cap, cur, e, h1, h2, h3, h4, h5, h6⟩
  · omega
  · cases e
    refine .inr ⟨g, c, cur, by rw [List.length_dropLast], h1, h2, by rw [List.length_dropLast]; omega, h4, h5, ?_⟩
    rw [List.length_dropLast, List.map_dropLast, ← h6, List.dropLast_eq_take, List.take_take, List.length_take]
    congr 1
    have : cur.toList.length = c * 1 := by rw [Array.length_toList]; exact h5
    omega
/-- A name is bound. -/
theorem RenSt.bind {w w' : World} {C rb sb bb n N : Nat} {U : List ByteArray} {m : ByteArray → Option Int} {f : ByteArray → Value} {env : ByteArray → List Nat} {nx : Nat} (h : RenSt w C rb sb bb n N U m f env nx) {s : ByteArray} {i : Nat} (hi : i < nx) {w1 : World} {g k cap : Nat}
    (hrow : RowN w1 C (env s ++ [i]) (.slice (some ⟨g, 0, none⟩) k cap)) (hg : w.grownBy w1 (f s).ownBlock) (hat : (f s).ownBlock = some g ∨ g = w.heap.size) (hm : MapV w' bb (N + 1) (setV f s (.slice (some ⟨g, 0, none⟩) k cap))) (hg2 : w1.grownBy w' (some bb)) :
    RenSt w' C rb sb bb n (N + 1) U m (setV f s (.slice (some ⟨g, 0, none⟩) k cap)) (push1 env s i) nx := by
  have hz := hg.size
  have hrl := lt_of_block h.blk
  have hsl := h.cnt.lt
  have hbl := h.map.lt
  have hold : ∀ b, b < w.heap.size → b ≠ bb → some b ≠ (f s).ownBlock → w'.heap[b]? = w.heap[b]? := fun b h1 h2 h3 => (hg2.block b (by omega) (by simpa using h2)).trans (hg.block b h1 h3)
  have hgb : g ≠ bb ∧ g < w1.heap.size := by
    refine ⟨?_, (World.ownsRow.lt hrow g rfl).2⟩
    rcases hat with e | e
    · exact (h.row_ne s e).2.2
    · omega
  have hgt : ∀ t, t ≠ s → (f t).ownBlock ≠ some g := fun t ht e => by
    rcases hat with e2 | e2
    · rcases h.apart t s ht with e3 | e3
      · rw [e3] at e; cases e
      · exact e3 (e.trans e2.symm)
    · have := (World.ownsRow.lt (h.rows t) g e).2; omega
  refine ⟨(hold rb hrl h.ne2 (fun e => (h.row_ne s e.symm).1 rfl)).trans h.blk, h.cnt.at (hold sb hsl h.ne3 (fun e => (h.row_ne s e.symm).2.1 rfl)), h.use, hm, ?_, ?_, ?_, h.rbC, h.sbC, h.bbC, h.ne1, h.ne2, h.ne3⟩
  · intro t
    unfold push1 setV
    by_cases e : t = s
    · subst e
      rw [if_pos rfl, if_pos rfl]
      exact hrow.at fun b e => by cases e; exact hg2.block g hgb.2 (by simpa using hgb.1)
    · rw [if_neg e, if_neg e]
      refine (h.rows t).at fun b e2 => hold b (World.ownsRow.lt (h.rows t) b e2).2 (h.row_ne t e2).2.2 fun e3 => ?_
      rcases h.apart t s e with e4 | e4
      · rw [e4] at e2; cases e2
      · exact e4 (e2.trans e3)
  · intro t j hj
    unfold push1 at hj
    split at hj
    · rcases List.mem_append.1 hj with hj | hj
      · exact h.old t j hj
      · simp only [List.mem_singleton] at hj; omega
    · exact h.old t j hj
  · intro t u htu
    unfold setV
    by_cases e : t = s
    · by_cases e2 : u = s
      · exact absurd (e.trans e2.symm) htu
      · rw [if_pos e, if_neg e2]
        exact .inr fun e3 => hgt u e2 e3.symm
    · by_cases e2 : u = s
      · rw [if_neg e, if_pos e2]
        exact .inr fun e3 => hgt t e e3
      · rw [if_neg e, if_neg e2]
        exact h.apart t u htu
/-- A name is let go. -/
theorem RenSt.unbind {w w' : World} {C rb sb bb n N : Nat} {U : List ByteArray} {m : ByteArray → Option Int} {f : ByteArray → Value} {env : ByteArray → List Nat} {nx : Nat} (h : RenSt w C rb sb bb n N U m f env nx) {s : ByteArray} {a : Option Addr} {k cap : Nat} (hf : f s = .slice a k cap) (h0 : env s ≠ [])
    (hm : MapV w' bb (N + 1) (setV f s (.slice a (k - 1) cap))) (hg2 : w.grownBy w' (some bb)) :
    RenSt w' C rb sb bb n (N + 1) U m (setV f s (.slice a (k - 1) cap)) (pop1 env s) nx := by
  have hrl := lt_of_block h.blk
  have hsl := h.cnt.lt
  have hold : ∀ b, b < w.heap.size → b ≠ bb → w'.heap[b]? = w.heap[b]? := fun b h1 h2 => hg2.block b h1 (by simpa using h2)
  have hown : (Value.slice a (k - 1) cap).ownBlock = (f s).ownBlock := by rw [hf]; cases a <;> rfl
  have hob : ∀ t, (setV f s (.slice a (k - 1) cap) t).ownBlock = (f t).ownBlock := fun t => by
    unfold setV
    split
    · rename_i e; rw [e]; exact hown
    · rfl
  refine ⟨(hold rb hrl h.ne2).trans h.blk, h.cnt.at (hold sb hsl h.ne3), h.use, hm, ?_, ?_, ?_, h.rbC, h.sbC, h.bbC, h.ne1, h.ne2, h.ne3⟩
  · intro t
    have hr := (h.rows t).at (w' := w') fun b e2 => hold b (World.ownsRow.lt (h.rows t) b e2).2 (h.row_ne t e2).2.2
    unfold pop1 setV
    by_cases e : t = s
    · subst e
      rw [if_pos rfl, if_pos rfl]
      rw [hf] at hr
      exact hr.short h0
    · rw [if_neg e, if_neg e]
      exact hr
  · intro t j hj
    unfold pop1 at hj
    split at hj
    · exact h.old t j (List.dropLast_subset _ hj)
    · exact h.old t j hj
  · intro t u htu
    rw [hob, hob]
    exact h.apart t u htu
end Go.Proofs.YtjofdlnopchaeaaGreatDoor.Core

/-
How things stand while package core's renamed goes on. No condition.
-/
namespace Go.Proofs.YtjofdlnopchaeaaGreatDoor.Core
open Go.ChangeShapes Go.WideShapes Go.ChangeAt Go.RowKit Go.Deep
open Dat (PT ok64 RowX)
set_option maxRecDepth 100000

theorem RenFr.of_kp {C rb bb : Nat} {w w' : World} {f : ByteArray → Value} (hC : C ≤ w.heap.size) (hr : C ≤ rb) (h : KP w (some rb) w') : RenFr C rb bb w f w' f :=
  ⟨h.below hC (fun b e => by cases e; exact hr), fun b h1 h2 _ h4 => ⟨h.2 b h1 (by simpa using h2), h4⟩⟩
theorem RenFr.of_bind {C rb sb bb n N nx : Nat} {U : List ByteArray} {m : ByteArray → Option Int} {f : ByteArray → Value} {env : ByteArray → List Nat} {w w1 w' : World} (h : RenSt w C rb sb bb n N U m f env nx) {s : ByteArray} {g k cap : Nat} (hg : w.grownBy w1 (f s).ownBlock) (hat : (f s).ownBlock = some g ∨ g = w.heap.size) (hg2 : w1.grownBy w' (some bb)) (hgC : ∀ b, (f s).ownBlock = some b → C ≤ b) :
    RenFr C rb bb w f w' (setV f s (.slice (some ⟨g, 0, none⟩) k cap)) := by
  have hrl := lt_of_block h.blk
  have hrC := h.rbC
  have hz := hg.size
  refine ⟨((Below.refl C w).grown hg (by omega) hgC).grown hg2 (by omega) (fun b e => by cases e; exact h.bbC), fun b h1 h2 h3 h4 => ⟨(hg2.block b (by omega) (by simpa using h3)).trans (hg.block b h1 (fun e => h4 s e.symm)), fun t e => ?_⟩⟩
  unfold setV at e
  split at e
  · cases e
    rcases hat with e2 | e2
    · exact h4 s e2
    · have h5 : g < w.heap.size := h1
      omega
  · exact h4 t e
theorem RenFr.of_unbind {C rb sb bb n N nx : Nat} {U : List ByteArray} {m : ByteArray → Option Int} {f : ByteArray → Value} {env : ByteArray → List Nat} {w w' : World} (h : RenSt w C rb sb bb n N U m f env nx) {s : ByteArray} {a : Option Addr} {k cap : Nat} (hf : f s = .slice a k cap) (hg2 : w.grownBy w' (some bb)) :
    RenFr C rb bb w f w' (setV f s (.slice a (k - 1) cap)) := by
  have hrl := lt_of_block h.blk
  have hrC := h.rbC
  refine ⟨(Below.refl C w).grown hg2 (by omega) (fun b e => by cases e; exact h.bbC), fun b h1 h2 h3 h4 => ⟨hg2.block b h1 (by simpa using h3), fun t e => ?_⟩⟩
  unfold setV at e
  split at e
  · refine h4 s ?_
    rw [hf]
    cases a <;> exact e
  · exact h4 t e
/-- How things stand while renamed goes on: its boxes (the argument, the answer's, and what is made: block q), its numbers, the names made of them. -/
structure RN (C rb sb bb n : Nat) (U : List ByteArray) (m : ByteArray → Option Int) (w : World) (f0 : ByteArray → Value) (q : Nat) (eo zo qo : Obj) (nums : List Nat) (vN : Value) (names : List ByteArray) (vT : Value) (W : World) (f : ByteArray → Value) (env : ByteArray → List Nat) (nx N : Nat) : Prop where
  st : RenSt W C rb sb bb n N U m f env nx
  fr : RenFr C rb bb w f0 W f
  eb : W.heap[w.heap.size]? = some eo
  zb : W.heap[w.heap.size + 1]? = some zo
  qb : W.heap[q]? = some qo
  eL : NoRow f w.heap.size
  zL : NoRow f (w.heap.size + 1)
  qL : NoRow f q
  num : RowN W (w.heap.size + 2) nums vN
  numL : ∀ b, vN.ownBlock = some b → NoRow f b ∧ b ≠ q
  nam : OutT W (w.heap.size + 2) names vT
  namL : ∀ b, vT.ownBlock = some b → NoRow f b ∧ b ≠ q ∧ some b ≠ vN.ownBlock
  hq : w.heap.size + 2 ≤ q
  hr : rb < w.heap.size
  hs : sb < w.heap.size
  hb : bb < w.heap.size
section
variable {C rb sb bb n : Nat} {U : List ByteArray} {m : ByteArray → Option Int} {w : World} {f0 : ByteArray → Value} {q : Nat} {eo zo qo : Obj} {nums : List Nat} {vN : Value} {names : List ByteArray} {vT : Value} {W : World} {f : ByteArray → Value} {env : ByteArray → List Nat} {nx N : Nat}
theorem RN.callX (h : RN C rb sb bb n U m w f0 q eo zo qo nums vN names vT W f env nx N) {W' : World} {f' : ByteArray → Value} {env' : ByteArray → List Nat} {nx' N' : Nat} {ob : Option Nat} (hs : RenSt W' C rb sb bb n N' U m f' env' nx') (hf : RenFX C rb bb ob W f W' f')
    (ho : ∀ b, ob = some b → w.heap.size + 2 ≤ b ∧ b ≠ q ∧ some b ≠ vN.ownBlock ∧ some b ≠ vT.ownBlock) : RN C rb sb bb n U m w f0 q eo zo qo nums vN names vT W' f' env' nx' N' := by
  have h1 := h.hr
  have h2 := h.hb
  have h3 := h.hq
  have el := lt_of_block h.eb
  have zl := lt_of_block h.zb
  have ql := lt_of_block h.qb
  have he := hf.2 w.heap.size el (by omega) (by omega) (fun e => by have := (ho _ e.symm).1; omega) h.eL
  have hz := hf.2 (w.heap.size + 1) zl (by omega) (by omega) (fun e => by have := (ho _ e.symm).1; omega) h.zL
  have hq := hf.2 q ql (by omega) (by omega) (fun e => (ho _ e.symm).2.1 rfl) h.qL
  have hN : ∀ b, vN.ownBlock = some b → W'.heap[b]? = W.heap[b]? ∧ NoRow f' b := fun b e => by
    have := World.ownsRow.lt h.num b e
    exact hf.2 b this.2 (by omega) (by omega) (fun e2 => (ho _ e2.symm).2.2.1 e.symm) (h.numL b e).1
  have hT : ∀ b, vT.ownBlock = some b → W'.heap[b]? = W.heap[b]? ∧ NoRow f' b := fun b e => by
    have := World.ownsRow.lt h.nam b e
    exact hf.2 b this.2 (by omega) (by omega) (fun e2 => (ho _ e2.symm).2.2.2 e.symm) (h.namL b e).1
  exact ⟨hs, ⟨h.fr.1.trans hf.1, fun b b1 b2 b3 b4 => by
      obtain ⟨a1, a2⟩ := h.fr.2 b b1 b2 b3 b4
      obtain ⟨c1, c2⟩ := hf.2 b (Nat.lt_of_lt_of_le b1 h.fr.1.size) b2 b3 (fun e => by have := (ho _ e.symm).1; omega) a2
      exact ⟨c1.trans a1, c2⟩⟩, he.1.trans h.eb, hz.1.trans h.zb, hq.1.trans h.qb, he.2, hz.2, hq.2, h.num.at fun b e => (hN b e).1, fun b e => ⟨(hN b e).2, (h.numL b e).2⟩, h.nam.at fun b e => (hT b e).1, fun b e => ⟨(hT b e).2, (h.namL b e).2⟩, h.hq, h.hr, h.hs, h.hb⟩
theorem RN.call (h : RN C rb sb bb n U m w f0 q eo zo qo nums vN names vT W f env nx N) {W' : World} {f' : ByteArray → Value} {env' : ByteArray → List Nat} {nx' N' : Nat} (hs : RenSt W' C rb sb bb n N' U m f' env' nx') (hf : RenFr C rb bb W f W' f') : RN C rb sb bb n U m w f0 q eo zo qo nums vN names vT W' f' env' nx' N' :=
  h.callX (ob := none) hs ⟨hf.1, fun b h1 h2 h3 _ h5 => hf.2 b h1 h2 h3 h5⟩ (fun b e => by cases e)
theorem RN.sizeC (h : RN C rb sb bb n U m w f0 q eo zo qo nums vN names vT W f env nx N) : C ≤ W.heap.size := by
  have := h.st.rbC
  have := lt_of_block h.st.blk
  omega
theorem RN.below (h : RN C rb sb bb n U m w f0 q eo zo qo nums vN names vT W f env nx N) {W' : World} (hb : Below W.heap.size W W') : RN C rb sb bb n U m w f0 q eo zo qo nums vN names vT W' f env nx N :=
  h.call (h.st.below hb) (RenFr.of_below h.sizeC hb)
theorem RN.alloc (h : RN C rb sb bb n U m w f0 q eo zo qo nums vN names vT W f env nx N) (o : Obj) : RN C rb sb bb n U m w f0 q eo zo qo nums vN names vT (W.alloc o) f env nx N :=
  h.below ((Below.refl _ _).alloc (Nat.le_refl _) o)
/-- What lies in block q is another thing now. -/
theorem RN.putq (h : RN C rb sb bb n U m w f0 q eo zo qo nums vN names vT W f env nx N) {W' : World} {qo' : Obj} (hs : Below 0 W W') (hk : ∀ b, b ≠ q → W'.heap[b]? = W.heap[b]?) (hq : W'.heap[q]? = some qo') : RN C rb sb bb n U m w f0 q eo zo qo' nums vN names vT W' f env nx N := by
  have h1 := h.hr
  have h2 := h.hb
  have h3 := h.hq
  have h4 := h.hs
  have h5 := h.st.rbC
  refine ⟨h.st.at fun b hb => hk b ?_, ⟨⟨?_, ?_, ?_, ?_, ?_⟩, fun b b1 b2 b3 b4 => ?_⟩, (hk _ (by omega)).trans h.eb, (hk _ (by omega)).trans h.zb, hq, h.eL, h.zL, h.qL, h.num.at fun b e => hk b (h.numL b e).2, h.numL, h.nam.at fun b e => hk b (h.namL b e).2.1, h.namL, h.hq, h.hr, h.hs, h.hb⟩
  · rcases hb with rfl | rfl | rfl | ⟨s, e⟩
    · omega
    · omega
    · omega
    · rintro rfl; exact h.qL s e
  · exact hs.os.trans h.fr.1.os
  · exact hs.tape.trans h.fr.1.tape
  · exact hs.output.trans h.fr.1.output
  · exact Nat.le_trans h.fr.1.size hs.size
  · exact fun b hb => (hk b (by omega)).trans (h.fr.1.block b hb)
  · obtain ⟨a1, a2⟩ := h.fr.2 b b1 b2 b3 b4
    exact ⟨(hk b (by omega)).trans a1, a2⟩
/-- The names' row is longer. -/
theorem RN.addName (h : RN C rb sb bb n U m w f0 q eo zo qo nums vN names vT W f env nx N) {W' : World} {names' : List ByteArray} {g k cap : Nat} (hg : W.grownBy W' vT.ownBlock) (ho : OutT W' (w.heap.size + 2) names' (.slice (some ⟨g, 0, none⟩) k cap)) (hat : vT.ownBlock = some g ∨ g = W.heap.size) :
    RN C rb sb bb n U m w f0 q eo zo qo nums vN names' (.slice (some ⟨g, 0, none⟩) k cap) W' f env nx N := by
  have h1 := h.hr
  have h2 := h.hb
  have h3 := h.hq
  have h4 := h.hs
  have h5 := h.st.rbC
  have hz := h.fr.1.size
  have hT : ∀ b, vT.ownBlock = some b → w.heap.size + 2 ≤ b ∧ b < W.heap.size := fun b e => World.ownsRow.lt h.nam b e
  have hk : ∀ b, b < W.heap.size → some b ≠ vT.ownBlock → W'.heap[b]? = W.heap[b]? := hg.block
  have hlt : ∀ b, b < w.heap.size + 2 → some b ≠ vT.ownBlock := fun b hb e => by have := (hT b e.symm).1; omega
  have hgN : NoRow f g ∧ g ≠ q ∧ some g ≠ vN.ownBlock := by
    rcases hat with e | e
    · exact h.namL g e
    · have ql := lt_of_block h.qb
      refine ⟨h.st.noNew (by omega), by omega, fun e2 => ?_⟩
      have := (World.ownsRow.lt h.num g e2.symm).2
      omega
  refine ⟨h.st.at fun b hb => ?_, ⟨h.fr.1.grown hg (by omega) (fun b e => by have := (hT b e).1; omega), fun b b1 b2 b3 b4 => ?_⟩, (hk _ (lt_of_block h.eb) (hlt _ (by omega))).trans h.eb, (hk _ (lt_of_block h.zb) (hlt _ (by omega))).trans h.zb, (hk _ (lt_of_block h.qb) (fun e => (h.namL q e.symm).2.1 rfl)).trans h.qb, h.eL, h.zL, h.qL,
    h.num.at fun b e => hk b (World.ownsRow.lt h.num b e).2 (fun e2 => (h.namL b e2.symm).2.2 e.symm), h.numL, ho, fun b e => by cases e; exact hgN, h.hq, h.hr, h.hs, h.hb⟩
  · rcases hb with rfl | rfl | rfl | ⟨s, e⟩
    · exact hk _ (by omega) (hlt _ (by omega))
    · exact hk _ (by omega) (hlt _ (by omega))
    · exact hk _ (by omega) (hlt _ (by omega))
    · exact hk _ (World.ownsRow.lt (h.st.rows s) b e).2 (fun e2 => (h.namL b e2.symm).1 s e)
  · obtain ⟨a1, a2⟩ := h.fr.2 b b1 b2 b3 b4
    exact ⟨(hk b (by omega) (hlt _ (by omega))).trans a1, a2⟩
end
/-- The kids that are made, where all that is older lies below C1. -/
def KidSt (C1 : Nat) (W : World) (f : ByteArray → Value) (l : List PE) (v : Value) : Prop := OutE W C1 (fun b => C1 ≤ b ∧ NoRow f b) l v ∧ ∀ b, v.ownBlock = some b → NoRow f b
theorem KidSt.call {C C1 rb bb : Nat} {W W' : World} {f f' : ByteArray → Value} {l : List PE} {v : Value} (h : KidSt C1 W f l v) (hr : rb < C1) (hb : bb < C1) (hf : RenFr C rb bb W f W' f') : KidSt C1 W' f' l v := by
  obtain ⟨_, _, ev, hown⟩ := h.1.slice
  refine ⟨h.1.at (fun b e => (hf.2 b (hown b e).2 (by have := (hown b e).1; omega) (by have := (hown b e).1; omega) (h.2 b e)).1) (fun b hb1 hlt => ?_), fun b e => (hf.2 b (hown b e).2 (by have := (hown b e).1; omega) (by have := (hown b e).1; omega) (h.2 b e)).2⟩
  have := hf.2 b hlt (by have := hb1.1; omega) (by have := hb1.1; omega) hb1.2
  exact ⟨this.1, hb1.1, this.2⟩
theorem KidSt.putq {C1 q : Nat} {W W' : World} {f : ByteArray → Value} {l : List PE} {v : Value} (h : KidSt C1 W f l v) (hq : q < C1) (hk : ∀ b, b ≠ q → W'.heap[b]? = W.heap[b]?) : KidSt C1 W' f l v := by
  obtain ⟨_, _, ev, hown⟩ := h.1.slice
  exact ⟨h.1.at (fun b e => hk b (by have := (hown b e).1; omega)) (fun b hb1 _ => ⟨hk b (by have := hb1.1; omega), hb1⟩), h.2⟩
end Go.Proofs.YtjofdlnopchaeaaGreatDoor.Core
