/-
Texts K52, K53, one behind the other (a claim bears sixty files). Conditions: as each says.
-/
import Derived.Test.YtjofdlnopchaeaaGreatDoorK50
import Derived.Test.YtjofdlnopchaeaaGreatDoorK51
import Derived.Test.YtjofdlnopchaeaaGreatDoorWRG
import Derived.Test.YtjofdlnopchaeaaGreatDoorWKG

/-
What the fixed calls of layer 6 hand over, as trees: what renaming, looking for free names and the datum make of them. No condition.
-/
namespace Go.Proofs.YtjofdlnopchaeaaGreatDoor.Core
open Go.ChangeShapes Go.WideShapes Go.ChangeAt Go.RowKit Go.Deep
open Dat (PT ok64 RowX)
set_option maxRecDepth 100000

def refT (s : ByteArray) : PE := .mk 1 s [] PT0 []
def nX : ByteArray := ⟨#[120]⟩
def nV0 : ByteArray := ⟨#[118, 46, 48]⟩
def sumT (x : ByteArray) : PE := .mk 7 ⟨#[43]⟩ [] PT0 [refT x, refT nV0]
def letT (x y : ByteArray) : PE := .mk 8 ⟨#[]⟩ [y] PT0 [sumT x, refT y]
/-- The expression of the fixed calls, by two names. -/
def fixE (x y : ByteArray) : PE := .mk 5 ⟨#[]⟩ [x] PT0 [letT x y]
theorem numS_0 : numS 0 = nV0 := by
  apply Go.WideShapes.bytes_inj
  simp [numS, nV0, Lib.itoa, Lib.decDigits]
theorem numS_1 : numS 1 = ⟨#[118, 46, 49]⟩ := by
  apply Go.WideShapes.bytes_inj
  simp [numS, Lib.itoa, Lib.decDigits]
theorem numS_2 : numS 2 = ⟨#[118, 46, 50]⟩ := by
  apply Go.WideShapes.bytes_inj
  simp [numS, Lib.itoa, Lib.decDigits]
theorem stand_fix (s : ByteArray) : s ∈ standL (fixE nX nX) ↔ s = ⟨#[]⟩ ∨ s = nX ∨ s = nV0 := by
  simp only [fixE, letT, sumT, refT, standL, standLs]
  constructor
  · intro h; simp at h; rcases h with h | h | h | h | h | h <;> simp [h]
  · rintro (rfl | rfl | rfl) <;> simp
theorem numS_head (i : Nat) : (numS i).data.toList = 118 :: 46 :: Lib.itoa (i : Int) := by simp [numS]
theorem numS_out {i : Nat} (h : 1 ≤ i) : numS i ∉ standL (fixE nX nX) := by
  rw [stand_fix]
  rintro (e | e | e)
  · have := congrArg (fun x => x.data.toList) e; rw [numS_head] at this; cases this
  · have := congrArg (fun x => x.data.toList) e; rw [numS_head] at this; cases this
  · rw [← numS_0] at e; have := numS_inj e; omega
theorem numS_in : numS 0 ∈ standL (fixE nX nX) := by rw [stand_fix, numS_0]; exact .inr (.inr rfl)
theorem nums_from {U : List ByteArray} (hU : ∀ i, 1 ≤ i → numS i ∉ U) {n n' : Nat} {l : List Nat} (h : NumsL U n l n') (hn : 1 ≤ n) : n ≤ n' ∧ l = List.range' n (n' - n) := by
  induction h with
  | nil => exact ⟨Nat.le_refl _, by simp⟩
  | @skip n' l h1 h2 ih => exact absurd h2 (hU _ (by have := ih.1; omega))
  | @take n' l h1 h2 ih =>
    obtain ⟨h3, h4⟩ := ih
    refine ⟨by omega, ?_⟩
    rw [h4, show n' + 1 - n = (n' - n) + 1 by omega, List.range'_concat]
    congr 2; omega
theorem nums_zero {U : List ByteArray} (hU : ∀ i, 1 ≤ i → numS i ∉ U) (h0 : numS 0 ∈ U) {n' : Nat} {l : List Nat} (h : NumsL U 0 l n') : l = List.range' 1 (n' - 1) := by
  induction h with
  | nil => simp
  | @skip n' l h1 h2 ih =>
    have h3 : n' = 0 := Classical.byContradiction fun hne => hU n' (by omega) h2
    subst h3; simpa using ih
  | @take n' l h1 h2 ih =>
    have h3 : 1 ≤ n' := Classical.byContradiction fun hne => h2 (by rw [show n' = 0 by omega]; exact h0)
    rw [ih, show n' + 1 - 1 = (n' - 1) + 1 by omega, List.range'_concat]
    congr 2; omega
/-- What renaming makes of it. -/
theorem ren_fix {t' : PE} {nx : Nat} (h : RenR (standL (fixE nX nX)) (fun _ => []) 0 (fixE nX nX) t' nx) : t' = fixE (numS 1) (numS 2) := by
  have hU := fun i (hi : 1 ≤ i) => numS_out hi
  have h0 := numS_in
  generalize standL (fixE nX nX) = U at h hU h0
  rw [fixE, RenR] at h
  obtain ⟨nums, n1, l', h1, h2, h3, rfl⟩ := h
  have e1 := nums_zero hU h0 h1
  rw [e1, List.length_range'] at h2
  obtain rfl : n1 = 2 := by simp at h2; omega
  subst e1
  simp only [fromT, List.length_cons, List.length_nil] at h3
  rw [RenRs] at h3
  obtain ⟨t1, n2, l1, g1, g2, rfl⟩ := h3
  rw [RenRs] at g2
  obtain ⟨rfl, rfl⟩ := g2
  rw [letT, RenR] at g1
  obtain ⟨nums, n3, l', i1, i2, i3, rfl⟩ := g1
  obtain ⟨_, e3⟩ := nums_from hU i1 (by omega)
  rw [e3, List.length_range'] at i2
  obtain rfl : n3 = 3 := by simp at i2; omega
  subst e3
  simp only [fromT, List.length_cons, List.length_nil] at i3
  rw [RenRs] at i3
  obtain ⟨t2, n4, l2, j1, j2, rfl⟩ := i3
  rw [RenRs] at j2
  obtain ⟨t3, n5, l3, k1, k2, rfl⟩ := j2
  rw [RenRs] at k2
  obtain ⟨rfl, rfl⟩ := k2
  rw [sumT, RenR] at j1
  obtain ⟨nums, n6, l', m1, m2, m3, rfl⟩ := j1
  obtain rfl := List.eq_nil_of_length_eq_zero m2
  simp only [fromT, List.length_cons, List.length_nil] at m3
  rw [RenRs] at m3
  obtain ⟨t4, n7, l4, o1, o2, rfl⟩ := m3
  rw [RenRs] at o2
  obtain ⟨t5, n8, l5, p1, p2, rfl⟩ := o2
  rw [RenRs] at p2
  obtain ⟨rfl, rfl⟩ := p2
  rw [refT, RenR] at o1 p1 k1
  obtain ⟨nums1, _, _, _, q1, q2, rfl⟩ := o1
  obtain ⟨nums2, _, _, _, r1, r2, rfl⟩ := p1
  obtain ⟨nums3, _, _, _, s1, s2, rfl⟩ := k1
  rw [RenRs] at q2 r2 s2
  obtain ⟨rfl, _⟩ := q2
  obtain ⟨rfl, _⟩ := r2
  obtain ⟨rfl, _⟩ := s2
  obtain rfl := List.eq_nil_of_length_eq_zero q1
  obtain rfl := List.eq_nil_of_length_eq_zero r1
  obtain rfl := List.eq_nil_of_length_eq_zero s1
  have hx : nV0 ≠ nX := by intro e; have := congrArg (fun x => x.data.toList) e; cases this
  simp [fixE, letT, sumT, refT, nowT, pushE, push1, hx]
  done
theorem plusA : arityT [43] = 2 := by decide +kernel
theorem carA : arityT [99, 97, 114] = 1 := by decide +kernel
theorem nameX : nameB nX.data.toList = true := by decide +kernel
theorem nameV : nameB nV0.data.toList = true := by decide +kernel
theorem same00 : Dat.sameB PT0 PT0 = true := (Dat.sameB_mk _ _ _ _ _ _ _ _).2 ⟨rfl, rfl, rfl, rfl⟩
theorem form_ref {s : ByteArray} (h : nameB s.data.toList = true) : formE (refT s) = true := by
  unfold refT formE
  simp [kidsB, fieldsB, nameOkB, namesOkB, constOkB, h, same00]
theorem check_fix2 {a b : ByteArray} (ha : nameB a.data.toList = true) (hb : nameB b.data.toList = true) : checkE (fixE a b) = 0 := by
  have hna : namesB [a] = true := by
    unfold namesB
    simp [ha]
  have hnb : namesB [b] = true := by
    unfold namesB
    simp [hb]
  have h1 : formE (fixE a b) = true := by
    unfold fixE formE
    simp [kidsB, fieldsB, nameOkB, namesOkB, constOkB, same00, hna]
  have h2 : formE (letT a b) = true := by
    unfold letT formE
    simp [kidsB, fieldsB, nameOkB, namesOkB, constOkB, same00, hnb]
  have h3 : formE (sumT a) = true := by
    unfold sumT formE
    simp [kidsB, fieldsB, nameOkB, namesOkB, constOkB, same00, plusA]
  have h4 := form_ref ha
  have h5 := form_ref nameV
  have h6 := form_ref hb
  unfold checkE
  unfold fixE letT sumT refT at h1
  unfold letT sumT refT at h2
  unfold sumT refT at h3
  unfold refT at h4 h5 h6
  unfold fixE letT sumT refT
  simp [chkE, chkEs, h1, h2, h3, h4, h5, h6]
theorem check_fix : checkE (fixE nX nX) = 0 := check_fix2 nameX nameX
theorem check_if (_ : List ByteArray) : checkE (.mk 3 ⟨#[]⟩ [] PT0 []) = 60 := by
  have h1 : formE (.mk 3 ⟨#[]⟩ [] PT0 []) = false := by
    unfold formE
    simp [kidsB]
  unfold checkE
  rw [chkE, h1]
  simp
theorem free_fix {s : ByteArray} : freeF (fixE nX nX) s ≠ 0 ↔ s = nV0 := by
  have hx : nV0 ≠ nX := by intro e; have := congrArg (fun x => x.data.toList) e; cases this
  unfold freeF fixE letT sumT refT
  simp [seekE, seekEs, fromT, addB, occ, Ne.symm hx, incF]
end Go.Proofs.YtjofdlnopchaeaaGreatDoor.Core

/-
Expressions that a call lays in memory, node by node. No condition.
-/
namespace Go.Proofs.YtjofdlnopchaeaaGreatDoor.Core
open Go.ChangeShapes Go.WideShapes Go.ChangeAt Go.RowKit Go.Deep
open Dat (PT ok64 RepV RepS RowX)
set_option maxRecDepth 100000

/-- A block from C on that is no variable of an expression's that stands empty. -/
def Nz (C : Nat) (W : World) (b : Nat) : Prop := C ≤ b ∧ W.heap[b]? ≠ some (.cells #[.int .i64 0, .string ⟨#[]⟩, .slice none 0 0, .int .i64 0, .int .i64 0, .string ⟨#[]⟩, .slice none 0 0, .slice none 0 0] 28 (0, 0))
theorem Nz.up {C : Nat} {W W' : World} (hb : Below W.heap.size W W') {b : Nat} (h : Nz C W b) (hlt : b < W.heap.size) : Nz C W' b := ⟨h.1, by rw [hb.block b hlt]; exact h.2⟩
theorem inN_up {C : Nat} {W W' : World} {l : List ByteArray} {v : Value} (h : InN W (Nz C W) l v) (hb : Below W.heap.size W W') : InN W' (Nz C W') l v := h.move (fun _ h hl => h.up hb hl) fun _ _ _ _ hc => cell_below hb hc
theorem inK_up {C : Nat} {W W' : World} {l : List PE} {v : Value} (h : InK W (Nz C W) l v) (hb : Below W.heap.size W W') : InK W' (Nz C W') l v := h.move (fun _ h hl => h.up hb hl) fun _ _ _ _ hc => cell_below hb hc
theorem inF_up {C : Nat} {W W' : World} {e : PE} {vn vd vk : Value} (h : InF W (Nz C W) e vn vd vk) (hb : Below W.heap.size W W') : InF W' (Nz C W') e vn vd vk := h.move (fun _ h hl => h.up hb hl) fun _ _ _ _ hc => cell_below hb hc
/-- The value v is the expression t, whose rows lie in blocks from C on. -/
def ValE (W : World) (C : Nat) (t : PE) (v : Value) : Prop := ∃ vn vd vk, v = t.val vn vd vk ∧ InF W (Nz C W) t vn vd vk
theorem ValE.below {W W' : World} {C : Nat} {t : PE} {v : Value} (h : ValE W C t v) (hb : Below W.heap.size W W') : ValE W' C t v := by
  obtain ⟨vn, vd, vk, e, h⟩ := h
  exact ⟨vn, vd, vk, e, inF_up h hb⟩
theorem ValE.node {W : World} {C : Nat} {k : Int} {nm : ByteArray} {ns : List ByteArray} {l : List PE} {vn vk : Value} (hk : ok64 k) (hm : nm.size ≤ maxLen) (hn : InN W (Nz C W) ns vn) (hl : InK W (Nz C W) l vk) :
    ValE W C (.mk k nm ns PT0 l) (.agg #[.int .i64 k, .string nm, vn, .int .i64 0, .int .i64 0, .string ⟨#[]⟩, .slice none 0 0, vk]) :=
  ⟨vn, _, vk, rfl, ⟨hk, hm, hn⟩, ⟨by constructor <;> decide, by constructor <;> decide, by decide, none, 0, rfl, Nat.le_refl _, Nat.zero_le _, fun _ => rfl, .inl rfl⟩, hl⟩
theorem inN_nil {W : World} {S : Nat → Prop} : InN W S [] (.slice none 0 0) := ⟨none, 0, rfl, Nat.le_refl _, Nat.zero_le _, fun _ => rfl, .inl rfl⟩
theorem inK_nil {W : World} {S : Nat → Prop} : InK W S [] (.slice none 0 0) := ⟨none, 0, rfl, Nat.le_refl _, Nat.zero_le _, fun _ => rfl, .inl rfl⟩
theorem inN_one {W : World} {C : Nat} {s : ByteArray} (hs : s.size ≤ maxLen) (hC : C ≤ W.heap.size) : InN (W.alloc (.cells #[.string s] 9)) (Nz C (W.alloc (.cells #[.string s] 9))) [s] (.slice (some ⟨W.heap.size, 0, none⟩) 1 1) := by
  refine ⟨_, 1, rfl, Nat.le_refl _, by decide, (fun h => by cases h), .inr ⟨W.heap.size, 0, rfl, ⟨hC, by rw [heap_alloc_new]; intro e; cases e⟩, fun j hj => ?_⟩⟩
  obtain rfl : j = 0 := by simp at hj; omega
  exact ⟨by rw [Lib.cell_of_heap (heap_alloc_new W _)]; rfl, hs⟩
theorem inK_one {W : World} {C : Nat} {k : Int} {nm : ByteArray} {ns : List ByteArray} {l : List PE} {vn vk : Value} (hk0 : k ≠ 0) (h : ValE W C (.mk k nm ns PT0 l) (.agg #[.int .i64 k, .string nm, vn, .int .i64 0, .int .i64 0, .string ⟨#[]⟩, .slice none 0 0, vk])) (hC : C ≤ W.heap.size) :
    InK (W.alloc (.cells #[.int .i64 k, .string nm, vn, .int .i64 0, .int .i64 0, .string ⟨#[]⟩, .slice none 0 0, vk] 28)) (Nz C (W.alloc (.cells #[.int .i64 k, .string nm, vn, .int .i64 0, .int .i64 0, .string ⟨#[]⟩, .slice none 0 0, vk] 28))) [.mk k nm ns PT0 l] (.slice (some ⟨W.heap.size, 0, none⟩) 1 1) := by
  obtain ⟨vn', vd', vk', e, h⟩ := h
  unfold PE.val PT0 at e
  simp only [Value.agg.injEq, Array.mk.injEq, List.cons.injEq, and_true, true_and] at e
  obtain ⟨rfl, rfl, rfl⟩ := e
  have hb := heap_alloc_new W (.cells #[.int .i64 k, .string nm, vn, .int .i64 0, .int .i64 0, .string ⟨#[]⟩, .slice none 0 0, vk] 28)
  have h' := inF_up h ((Below.refl _ _).alloc (Nat.le_refl _) (.cells #[.int .i64 k, .string nm, vn, .int .i64 0, .int .i64 0, .string ⟨#[]⟩, .slice none 0 0, vk] 28))
  refine ⟨_, 1, rfl, Nat.le_refl _, by decide, (fun h => by cases h), .inr ⟨W.heap.size, 0, rfl, ⟨hC, by rw [hb]; intro e; cases e; exact hk0 rfl⟩, ?_⟩⟩
  rw [InEs, InEs]
  refine ⟨inE_of h' ?_ ?_ ?_ ?_ ?_ ?_ ?_ ?_, trivial⟩
  all_goals (rw [Lib.cell_of_heap hb]; rfl)
theorem inK_two {W : World} {C : Nat} {k k' : Int} {nm nm' : ByteArray} {ns ns' : List ByteArray} {l l' : List PE} {vn vk vn' vk' : Value} (h : ValE W C (.mk k nm ns PT0 l) (.agg #[.int .i64 k, .string nm, vn, .int .i64 0, .int .i64 0, .string ⟨#[]⟩, .slice none 0 0, vk]))
    (g : ValE W C (.mk k' nm' ns' PT0 l') (.agg #[.int .i64 k', .string nm', vn', .int .i64 0, .int .i64 0, .string ⟨#[]⟩, .slice none 0 0, vk'])) (hC : C ≤ W.heap.size) :
    InK (W.alloc (.cells #[.int .i64 k, .string nm, vn, .int .i64 0, .int .i64 0, .string ⟨#[]⟩, .slice none 0 0, vk, .int .i64 k', .string nm', vn', .int .i64 0, .int .i64 0, .string ⟨#[]⟩, .slice none 0 0, vk'] 28)) (Nz C (W.alloc (.cells #[.int .i64 k, .string nm, vn, .int .i64 0, .int .i64 0, .string ⟨#[]⟩, .slice none 0 0, vk, .int .i64 k', .string nm', vn', .int .i64 0, .int .i64 0, .string ⟨#[]⟩, .slice none 0 0, vk'] 28))) [.mk k nm ns PT0 l, .mk k' nm' ns' PT0 l'] (.slice (some ⟨W.heap.size, 0, none⟩) 2 2) := by
  obtain ⟨un, ud, uk, e, h⟩ := h
  obtain ⟨un', ud', uk', e', g⟩ := g
  unfold PE.val PT0 at e e'
  simp only [Value.agg.injEq, Array.mk.injEq, List.cons.injEq, and_true, true_and] at e e'
  obtain ⟨rfl, rfl, rfl⟩ := e
  obtain ⟨rfl, rfl, rfl⟩ := e'
  generalize ho : Obj.cells #[.int .i64 k, .string nm, vn, .int .i64 0, .int .i64 0, .string ⟨#[]⟩, .slice none 0 0, vk, .int .i64 k', .string nm', vn', .int .i64 0, .int .i64 0, .string ⟨#[]⟩, .slice none 0 0, vk'] 28 (0, 0) = o
  have hb := heap_alloc_new W o
  have h' := inF_up h ((Below.refl _ _).alloc (Nat.le_refl _) o)
  have g' := inF_up g ((Below.refl _ _).alloc (Nat.le_refl _) o)
  rw [← ho] at hb
  refine ⟨_, 2, rfl, Nat.le_refl _, by decide, (fun h => by cases h), .inr ⟨W.heap.size, 0, rfl, ⟨hC, by rw [heap_alloc_new, ← ho]; intro e; cases e⟩, ?_⟩⟩
  rw [InEs, InEs, InEs]
  rw [← ho] at h' g' ⊢
  refine ⟨inE_of h' ?_ ?_ ?_ ?_ ?_ ?_ ?_ ?_, inE_of g' ?_ ?_ ?_ ?_ ?_ ?_ ?_ ?_, trivial⟩
  all_goals (rw [Lib.cell_of_heap hb]; rfl)
/-- Put into a variable that stood empty. -/
theorem ValE.put {W : World} {C g : Nat} {t : PE} {k : Int} {nm : ByteArray} {vn vk : Value} (h : ValE W C t (.agg #[.int .i64 k, .string nm, vn, .int .i64 0, .int .i64 0, .string ⟨#[]⟩, .slice none 0 0, vk])) (hg : W.heap[g]? = some (.cells #[.int .i64 0, .string ⟨#[]⟩, .slice none 0 0, .int .i64 0, .int .i64 0, .string ⟨#[]⟩, .slice none 0 0, .slice none 0 0] 28 (0, 0))) {W' : World} (hW : ∀ b, b ≠ g → W'.heap[b]? = W.heap[b]?) :
    ∃ vn' vd' vk', (.agg #[.int .i64 k, .string nm, vn, .int .i64 0, .int .i64 0, .string ⟨#[]⟩, .slice none 0 0, vk] : Value) = t.val vn' vd' vk' ∧ InF W' (fun b => C ≤ b) t vn' vd' vk' := by
  obtain ⟨vn', vd', vk', e, h⟩ := h
  refine ⟨vn', vd', vk', e, h.move (fun b hb _ => hb.1) fun b o y hb hc => ?_⟩
  rw [World.cell?_of_block (w := W) (a := ⟨b, o, none⟩) (hW b fun e => hb.2 (by rw [e]; exact hg))]
  exact hc
theorem ref_any (s : ByteArray) (w : World) :
    Calls Tryz.prog 24 #[.string s] w fun e w' => e = .returned (.agg #[.int .i64 1, .string s, .slice none 0 0, .int .i64 0, .int .i64 0, .string ⟨#[]⟩, .slice none 0 0, .slice none 0 0]) ∧ Below w.heap.size w w' := by
  go_enter Tryz.func24, Tryz.ntmps24
  go_wp2
  exact bodyPost_ret (results_cell_row (P := Tryz.prog) rfl _ _ w.heap.size 28 _ (0, 0) _ rfl (heap_alloc_new w _) Tryz.underlying28 rfl (by kernel_rfl)) rfl ⟨rfl, (Below.refl _ _).alloc (Nat.le_refl _) _⟩
end Go.Proofs.YtjofdlnopchaeaaGreatDoor.Core
