/-
What the fixed calls of layer 6 hand over, as trees: what renaming, looking for free names and the datum make of them. No condition.
-/
import Derived.Test.YtgajendgephkaaaGreatDoorK50
import Derived.Test.YtgajendgephkaaaGreatDoorK51
namespace Go.Proofs.YtgajendgephkaaaGreatDoor.Core
open Go.ChangeShapes Go.WideShapes Go.ChangeAt Go.RowKit Go.Deep
open Dat (PT ok64 RowX)
set_option maxRecDepth 100000

def refT (s : ByteArray) : PE := .mk 1 s [] PT0 []
def nX : ByteArray := ⟨#[120]⟩
def nV0 : ByteArray := ⟨#[118, 46, 48]⟩
def sumT (x : ByteArray) : PE := .mk 7 ⟨#[43]⟩ [] PT0 [refT x, refT nV0]
def letT (x y : ByteArray) : PE := .mk 8 ⟨#[]⟩ [y] PT0 [sumT x, refT y]
/-- The expression of the fixed calls, by two names. -/
def fixE (x y : ByteArray) : PE := .mk 5 ⟨#[]⟩ [x] PT0 [letT x y]
theorem numS_0 : numS 0 = nV0 := by
  apply Go.WideShapes.bytes_inj
  simp [numS, nV0, Lib.itoa, Lib.decDigits]
theorem numS_1 : numS 1 = ⟨#[118, 46, 49]⟩ := by
  apply Go.WideShapes.bytes_inj
  simp [numS, Lib.itoa, Lib.decDigits]
theorem numS_2 : numS 2 = ⟨#[118, 46, 50]⟩ := by
  apply Go.WideShapes.bytes_inj
  simp [numS, Lib.itoa, Lib.decDigits]
theorem stand_fix (s : ByteArray) : s ∈ standL (fixE nX nX) ↔ s = ⟨#[]⟩ ∨ s = nX ∨ s = nV0 := by
  simp only [fixE, letT, sumT, refT, standL, standLs]
  constructor
  · intro h; simp at h; rcases h with h | h | h | h | h | h <;> simp [h]
  · rintro (rfl | rfl | rfl) <;> simp
theorem numS_head (i : Nat) : (numS i).data.toList = 118 :: 46 :: Lib.itoa (i : Int) := by simp [numS]
theorem numS_out {i : Nat} (h : 1 ≤ i) : numS i ∉ standL (fixE nX nX) := by
  rw [stand_fix]
  rintro (e | e | e)
  · have := congrArg (fun x => x.data.toList) e; rw [numS_head] at this; cases this
  · have := congrArg (fun x => x.data.toList) e; rw [numS_head] at this; cases this
  · rw [← numS_0] at e; have := numS_inj e; omega
theorem numS_in : numS 0 ∈ standL (fixE nX nX) := by rw [stand_fix, numS_0]; exact .inr (.inr rfl)
theorem nums_from {U : List ByteArray} (hU : ∀ i, 1 ≤ i → numS i ∉ U) {n n' : Nat} {l : List Nat} (h : NumsL U n l n') (hn : 1 ≤ n) : n ≤ n' ∧ l = List.range' n (n' - n) := by
  induction h with
  | nil => exact ⟨Nat.le_refl _, by simp⟩
  | @skip n' l h1 h2 ih => exact absurd h2 (hU _ (by have := ih.1; omega))
  | @take n' l h1 h2 ih =>
    obtain ⟨h3, h4⟩ := ih
    refine ⟨by omega, ?_⟩
    rw [h4, show n' + 1 - n = (n' - n) + 1 by omega, List.range'_concat]
    congr 2; omega
theorem nums_zero {U : List ByteArray} (hU : ∀ i, 1 ≤ i → numS i ∉ U) (h0 : numS 0 ∈ U) {n' : Nat} {l : List Nat} (h : NumsL U 0 l n') : l = List.range' 1 (n' - 1) := by
  induction h with
  | nil => simp
  | @skip n' l h1 h2 ih =>
    have h3 : n' = 0 := Classical.byContradiction fun hne => hU n' (by omega) h2
    subst h3; simpa using ih
  | @take n' l h1 h2 ih =>
    have h3 : 1 ≤ n' := Classical.byContradiction fun hne => h2 (by rw [show n' = 0 by omega]; exact h0)
    rw [ih, show n' + 1 - 1 = (n' - 1) + 1 by omega, List.range'_concat]
    congr 2; omega
/-- What renaming makes of it. -/
theorem ren_fix {t' : PE} {nx : Nat} (h : RenR (standL (fixE nX nX)) (fun _ => []) 0 (fixE nX nX) t' nx) : t' = fixE (numS 1) (numS 2) := by
  have hU := fun i (hi : 1 ≤ i) => numS_out hi
  have h0 := numS_in
  generalize standL (fixE nX nX) = U at h hU h0
  rw [fixE, RenR] at h
  obtain ⟨nums, n1, l', h1, h2, h3, rfl⟩ := h
  have e1 := nums_zero hU h0 h1
  rw [e1, List.length_range'] at h2
  obtain rfl : n1 = 2 := by simp at h2; omega
  subst e1
  simp only [fromT, List.length_cons, List.length_nil] at h3
  rw [RenRs] at h3
  obtain ⟨t1, n2, l1, g1, g2, rfl⟩ := h3
  rw [RenRs] at g2
  obtain ⟨rfl, rfl⟩ := g2
  rw [letT, RenR] at g1
  obtain ⟨nums, n3, l', i1, i2, i3, rfl⟩ := g1
  obtain ⟨_, e3⟩ := nums_from hU i1 (by omega)
  rw [e3, List.length_range'] at i2
  obtain rfl : n3 = 3 := by simp at i2; omega
  subst e3
  simp only [fromT, List.length_cons, List.length_nil] at i3
  rw [RenRs] at i3
  obtain ⟨t2, n4, l2, j1, j2, rfl⟩ := i3
  rw [RenRs] at j2
  obtain ⟨t3, n5, l3, k1, k2, rfl⟩ := j2
  rw [RenRs] at k2
  obtain ⟨rfl, rfl⟩ := k2
  rw [sumT, RenR] at j1
  obtain ⟨nums, n6, l', m1, m2, m3, rfl⟩ := j1
  obtain rfl := List.eq_nil_of_length_eq_zero m2
  simp only [fromT, List.length_cons, List.length_nil] at m3
  rw [RenRs] at m3
  obtain ⟨t4, n7, l4, o1, o2, rfl⟩ := m3
  rw [RenRs] at o2
  obtain ⟨t5, n8, l5, p1, p2, rfl⟩ := o2
  rw [RenRs] at p2
  obtain ⟨rfl, rfl⟩ := p2
  rw [refT, RenR] at o1 p1 k1
  obtain ⟨nums1, _, _, _, q1, q2, rfl⟩ := o1
  obtain ⟨nums2, _, _, _, r1, r2, rfl⟩ := p1
  obtain ⟨nums3, _, _, _, s1, s2, rfl⟩ := k1
  rw [RenRs] at q2 r2 s2
  obtain ⟨rfl, _⟩ := q2
  obtain ⟨rfl, _⟩ := r2
  obtain ⟨rfl, _⟩ := s2
  obtain rfl := List.eq_nil_of_length_eq_zero q1
  obtain rfl := List.eq_nil_of_length_eq_zero r1
  obtain rfl := List.eq_nil_of_length_eq_zero s1
  have hx : nV0 ≠ nX := by intro e; have := congrArg (fun x => x.data.toList) e; cases this
  simp [fixE, letT, sumT, refT, nowT, pushE, push1, hx]
  done
theorem plusA : arityT [43] = 2 := by decide +kernel
theorem carA : arityT [99, 97, 114] = 1 := by decide +kernel
theorem nameX : nameB nX.data.toList = true := by decide +kernel
theorem nameV : nameB nV0.data.toList = true := by decide +kernel
theorem same00 : Dat.sameB PT0 PT0 = true := (Dat.sameB_mk _ _ _ _ _ _ _ _).2 ⟨rfl, rfl, rfl, rfl⟩
theorem namesX : namesB [nX] = true := by
  unfold namesB
  simp [nameX]
theorem form_ref {s : ByteArray} (h : nameB s.data.toList = true) : formE (refT s) = true := by
  unfold refT formE
  simp [kidsB, fieldsB, nameOkB, namesOkB, constOkB, h, same00]
theorem check_fix : checkE (fixE nX nX) = 0 := by
  have h1 : formE (fixE nX nX) = true := by
    unfold fixE formE
    simp [kidsB, fieldsB, nameOkB, namesOkB, constOkB, same00, namesX]
  have h2 : formE (letT nX nX) = true := by
    unfold letT formE
    simp [kidsB, fieldsB, nameOkB, namesOkB, constOkB, same00, namesX]
  have h3 : formE (sumT nX) = true := by
    unfold sumT formE
    simp [kidsB, fieldsB, nameOkB, namesOkB, constOkB, same00, plusA]
  have h4 := form_ref nameX
  have h5 := form_ref nameV
  unfold checkE
  unfold fixE letT sumT refT at h1
  unfold letT sumT refT at h2
  unfold sumT refT at h3
  unfold refT at h4 h5
  unfold fixE letT sumT refT
  simp [chkE, chkEs, h1, h2, h3, h4, h5]
theorem check_if (_ : List ByteArray) : checkE (.mk 3 ⟨#[]⟩ [] PT0 []) = 60 := by
  have h1 : formE (.mk 3 ⟨#[]⟩ [] PT0 []) = false := by
    unfold formE
    simp [kidsB]
  unfold checkE
  rw [chkE, h1]
  simp
theorem free_fix {s : ByteArray} : freeF (fixE nX nX) s ≠ 0 ↔ s = nV0 := by
  have hx : nV0 ≠ nX := by intro e; have := congrArg (fun x => x.data.toList) e; cases this
  unfold freeF fixE letT sumT refT
  simp [seekE, seekEs, fromT, addB, occ, Ne.symm hx, incF]
end Go.Proofs.YtgajendgephkaaaGreatDoor.Core
