/-
Texts N16, N19a, one behind the other (a claim bears sixty files). Conditions: as each says.
-/
import Derived.Test.YtkjgdnfkpebejaaN12
import Derived.Test.YtkjgdnfkpebejaaN18

/-
The fixed calls of layer 14, as trees; rows of expressions that were just laid. No condition.
-/
namespace Go.Proofs.Ytkjgdnfkpebejaa.Core
open Go.ChangeShapes Go.WideShapes Go.ChangeAt Go.RowKit Go.Deep
open Dat (PT ok64 RowX)
set_option maxRecDepth 100000

def refL (s : ByteArray) : PE := .mk 1 s [] PT0 []
def nLX : ByteArray := ⟨#[120]⟩
def nLY : ByteArray := ⟨#[121]⟩
def sumL : PE := .mk 7 ⟨#[43]⟩ [] PT0 [refL nLX, refL nLY]
def lamL : PE := .mk 5 ⟨#[]⟩ [] PT0 [sumL]
def inL : PE := .mk 5 ⟨#[]⟩ [nLY] PT0 [lamL]
def oneL : PE := .mk 0 ⟨#[]⟩ [] (.mk 1 1 ⟨#[]⟩ []) []
def fixL : PE := .mk 8 ⟨#[]⟩ [nLX] PT0 [oneL, inL]
theorem xy_ne : nLX ≠ nLY := by intro e; have := congrArg (fun x => x.data.toList) e; cases this
theorem nameLX : nameB nLX.data.toList = true := by decide +kernel
theorem nameLY : nameB nLY.data.toList = true := by decide +kernel
theorem plusL : arityT [43] = 2 := by decide +kernel
theorem sameL0 : Dat.sameB PT0 PT0 = true := (Dat.sameB_mk _ _ _ _ _ _ _ _).2 ⟨rfl, rfl, rfl, rfl⟩
theorem constL1 : constB (.mk 1 1 ⟨#[]⟩ []) = true := by decide +kernel
theorem free_sum : freeT sumL = [nLX, nLY] := by
  refine rise_ext (freeT_is _).1 ?_ fun s => ?_
  · exact List.pairwise_cons.2 ⟨fun t ht => by rw [List.mem_singleton.1 ht]; decide, List.pairwise_singleton _ _⟩
  · rw [((freeT_is sumL).2 s).2]
    unfold freeF sumL refL
    simp only [seekE, seekEs]
    by_cases e : s = nLX
    · simp [e, incF, xy_ne, fromT]
    · by_cases e2 : s = nLY
      · simp [e2, incF, Ne.symm xy_ne, fromT]
      · simp [incF, e, e2, fromT]
theorem free_lam : freeT lamL = [nLX, nLY] := by
  refine rise_ext (freeT_is _).1 (by rw [← free_sum]; exact (freeT_is _).1) fun s => ?_
  rw [((freeT_is lamL).2 s).2]
  unfold freeF lamL sumL refL
  simp only [seekE, seekEs]
  by_cases e : s = nLX
  · simp [e, incF, xy_ne, addB, occ, fromT]
  · by_cases e2 : s = nLY
    · simp [e2, incF, Ne.symm xy_ne, addB, occ, fromT]
    · simp [incF, e, e2, addB, occ, fromT]
theorem free_in : freeT inL = [nLX] := by
  refine rise_ext (freeT_is _).1 (List.pairwise_singleton _ _) fun s => ?_
  rw [((freeT_is inL).2 s).2]
  unfold freeF inL lamL sumL refL
  simp only [seekE, seekEs]
  by_cases e : s = nLX
  · simp [e, incF, Ne.symm xy_ne, addB, occ, fromT]
  · by_cases e2 : s = nLY
    · simp [e2, incF, Ne.symm xy_ne, addB, occ, fromT]
    · simp [incF, e, addB, occ, fromT, Ne.symm xy_ne]
theorem free_fixL : freeT fixL = [] := by
  refine rise_ext (freeT_is _).1 List.Pairwise.nil fun s => ?_
  rw [((freeT_is fixL).2 s).2]
  unfold freeF fixL oneL inL lamL sumL refL
  simp only [seekE, seekEs]
  by_cases e : s = nLX
  · simp [e, xy_ne, Ne.symm xy_ne, addB, occ, fromT]
  · by_cases e2 : s = nLY
    · simp [e2, xy_ne, Ne.symm xy_ne, addB, occ, fromT]
    · simp [addB, occ, fromT, xy_ne, Ne.symm xy_ne]
theorem lift_fixL : liftT [] fixL = (.mk 8 ⟨#[]⟩ [nLX] PT0 [oneL, cloT 0 [nLX]], [⟨[nLY], [nLX], cloT 1 [nLX, nLY]⟩, ⟨[], [nLX, nLY], sumL⟩]) := by
  have hr : ∀ fs s, liftT fs (refL s) = (refL s, fs) := fun fs s => by
    unfold refL
    rw [liftT_else _ (by decide), liftsT]
  have hs : ∀ fs, liftT fs sumL = (sumL, fs) := fun fs => by
    unfold sumL
    rw [liftT_else _ (by decide)]
    simp only [liftsT, hr]
  have hl : ∀ fs, liftT fs lamL = (cloT fs.length [nLX, nLY], fs ++ [⟨[], [nLX, nLY], sumL⟩]) := fun fs => by
    have h := liftT_lam fs ⟨#[]⟩ [] PT0 sumL
    rw [show (PE.mk 5 ⟨#[]⟩ [] PT0 [sumL]) = lamL from rfl, free_lam, hs] at h
    rw [h]
    simp
  have hi : ∀ fs, liftT fs inL = (cloT fs.length [nLX], fs ++ [⟨[nLY], [nLX], cloT (fs.length + 1) [nLX, nLY]⟩, ⟨[], [nLX, nLY], sumL⟩]) := fun fs => by
    have h := liftT_lam fs ⟨#[]⟩ [nLY] PT0 lamL
    rw [show (PE.mk 5 ⟨#[]⟩ [nLY] PT0 [lamL]) = inL from rfl, free_in, hl] at h
    rw [h]
    simp
  unfold fixL
  rw [liftT_else _ (by decide), liftsT, liftsT, liftsT, hi]
  unfold oneL
  rw [liftT_else _ (by decide), liftsT]
  rfl
theorem check_fixL : checkE fixL = 0 := by
  have hnx : namesB [nLX] = true := by
    unfold namesB
    simp [nameLX]
  have hny : namesB [nLY] = true := by
    unfold namesB
    simp [nameLY]
  have hn0 : namesB [] = true := by
    unfold namesB
    simp
  have hf : ∀ s, nameB s.data.toList = true → formE (refL s) = true := fun s h => by
    unfold refL formE
    simp [kidsB, fieldsB, nameOkB, namesOkB, constOkB, h, sameL0]
  have h1 : formE fixL = true := by
    unfold fixL formE
    simp [kidsB, fieldsB, nameOkB, namesOkB, constOkB, sameL0, hnx]
  have h2 : formE oneL = true := by
    unfold oneL formE
    simp [kidsB, fieldsB, nameOkB, namesOkB, constOkB, constL1]
  have h3 : formE inL = true := by
    unfold inL formE
    simp [kidsB, fieldsB, nameOkB, namesOkB, constOkB, sameL0, hny]
  have h4 : formE lamL = true := by
    unfold lamL formE
    simp [kidsB, fieldsB, nameOkB, namesOkB, constOkB, sameL0, hn0]
  have h5 : formE sumL = true := by
    unfold sumL formE
    simp [kidsB, fieldsB, nameOkB, namesOkB, constOkB, sameL0, plusL]
  have h6 := hf nLX nameLX
  have h7 := hf nLY nameLY
  unfold checkE
  unfold fixL oneL inL lamL sumL refL at h1
  unfold oneL at h2
  unfold inL lamL sumL refL at h3
  unfold lamL sumL refL at h4
  unfold sumL refL at h5
  unfold refL at h6 h7
  unfold fixL oneL inL lamL sumL refL
  simp [chkE, chkEs, h1, h2, h3, h4, h5, h6, h7]
theorem ok_fixL : okL fixL := ⟨check_fixL, free_fixL, by unfold fixL oneL inL lamL sumL refL; simp [chgT, chgsT]⟩
theorem ok_sumL : ¬ okL sumL := fun h => by
  have h1 := h.2.1
  rw [free_sum] at h1
  cases h1
/-- Any block. -/
def TT : Nat → Prop := fun _ => True
/-- A row of expressions that was just laid. -/
theorem inK_row {W : World} {B : Nat} {l : List PE} {xs : Array Value} {ty : TypeId} (hB : W.heap[B]? = some (.cells xs ty (0, 0))) (h : RowE W TT l xs.toList) (hl : l.length ≤ 1000) : InK W TT l (.slice (some ⟨B, 0, none⟩) l.length l.length) :=
  ⟨_, _, rfl, Nat.le_refl _, by unfold maxLen; omega, (fun h => by cases h), .inr ⟨B, 0, rfl, trivial, ats_of_rowE h fun j u hj => by
    rw [Lib.cell_of_heap hB, Nat.zero_add]
    simpa using hj⟩⟩
theorem inF_node {W : World} {k ck ci : Int} {nm cs : ByteArray} {ns : List ByteArray} {l : List PE} {vn vk : Value} (hk : ok64 k) (hnm : nm.size ≤ maxLen) (hck : ok64 ck) (hci : ok64 ci) (hcs : cs.size ≤ maxLen) (hn : InN W TT ns vn) (hl : InK W TT l vk) : InF W TT (.mk k nm ns (.mk ck ci cs []) l) vn (.slice none 0 0) vk :=
  ⟨⟨hk, hnm, hn⟩, ⟨hck, hci, hcs, ⟨none, 0, rfl, Nat.le_refl _, Nat.zero_le _, fun _ => rfl, .inl rfl⟩⟩, hl⟩
theorem inK_nil' {W : World} {S : Nat → Prop} : InK W S [] (.slice none 0 0) := ⟨none, 0, rfl, Nat.le_refl _, Nat.zero_le _, fun _ => rfl, .inl rfl⟩
end Go.Proofs.Ytkjgdnfkpebejaa.Core

/-
The program that comes of the fixed expression, where it lies in memory. No condition.
-/
namespace Go.Proofs.Ytkjgdnfkpebejaa.Core
open Go.ChangeShapes Go.WideShapes Go.ChangeAt Go.RowKit Go.Deep
open Dat (PT ok64 RowX)
set_option maxRecDepth 100000

/-- What of it is looked at. -/
theorem fixL_facts {w : World} {a b : FunT} {c : PE} {e nm2 : ByteArray} {ns ns2 : List ByteArray} {dq : PT} {l2 : List PE} {k2 : Int} {v : Value} (h : InL w (.mk 8 e ns (.mk 0 0 e []) [c, .mk k2 nm2 ns2 dq l2]) [a, b] v) :
    ∃ fb fo fc n1 n2 d1 d2 kb ko kc a0 b0 a1 b1, v = .agg #[.slice (some ⟨fb, fo, none⟩) 2 fc, .int .i64 8, .string e, .slice n1 ns.length n2, .int .i64 0, .int .i64 0, .string e, .slice d1 0 d2, .slice (some ⟨kb, ko, none⟩) 2 kc] ∧ 2 ≤ fc ∧ 2 ≤ kc ∧
      w.cell? ⟨fb, fo + 1, none⟩ = some (.slice a0 a.frees.length b0) ∧ InN w (fun _ => True) a.frees (.slice a0 a.frees.length b0) ∧ w.cell? ⟨fb, fo + 11, none⟩ = some (.slice a1 b.frees.length b1) ∧ InN w (fun _ => True) b.frees (.slice a1 b.frees.length b1) ∧ w.cell? ⟨kb, ko + 8, none⟩ = some (.int .i64 k2) := by
  obtain ⟨vF, mk, mnm, mns, mck, mci, mcs, mcl, ml, mvn, mvd, mvk, rfl, em, hm6, hf6⟩ := h
  cases em
  obtain ⟨n1, n2, en, -⟩ := id hm6.1.2.2
  obtain ⟨d1, d2, ed, -⟩ := id hm6.2.1.2.2.2
  obtain ⟨kb, ko, kc, ek, h2k, -, -, hk1⟩ := hm6.2.2.item 1 (Nat.lt_succ_self 1)
  obtain ⟨ap, af, abk, abnm, abns, ⟨abck, abci, abcs, abcl⟩, abl⟩ := a
  obtain ⟨bp, bf, bbk, bbnm, bbns, ⟨bbck, bbci, bbcs, bbcl⟩, bbl⟩ := b
  obtain ⟨fb, fo, fc, vp0, vf0, vn0, vd0, vk0, ef, h2f, -, -, hn0, -, -, c01, -⟩ := hf6.item 0 rfl
  obtain ⟨fb', fo', fc', vp1, vf1, vn1, vd1, vk1, ef', -, -, -, hn1, -, -, c11, -⟩ := hf6.item 1 rfl
  subst en ed ek ef
  cases ef'
  have hk2 : InE w (fun _ => True) (.mk k2 nm2 ns2 (dq : PT) l2) kb (ko + 1 * 8) := hk1
  rw [inE_mk] at hk2
  obtain ⟨a0, b0, e0, -⟩ := id hn0
  obtain ⟨a1, b1, e1, -⟩ := id hn1
  subst e0 e1
  exact ⟨fb, fo, fc, n1, n2, d1, _, kb, ko, kc, a0, b0, a1, b1, rfl, h2f, h2k, by simpa using c01, hn0, by simpa using c11, hn1, by simpa using hk2.2.2.1⟩
theorem lift_sum (W : World) (p : Value) (h : InF W TT (.mk 7 ⟨#[43]⟩ [] (.mk 0 0 ⟨#[]⟩ []) [refL nLX, refL nLY]) (.slice none 0 0) (.slice none 0 0) p) : Calls Try.prog 6 #[.agg #[.int .i64 7, .string ⟨#[43]⟩, .slice none 0 0, .int .i64 0, .int .i64 0, .string ⟨#[]⟩, .slice none 0 0, p]] W fun e w' => LiftIs sumL e w' ∧ Below W.heap.size W w' := by
  have h2 : InF W (· < W.heap.size) sumL (.slice none 0 0) (.slice none 0 0) p := by
    unfold sumL PT0
    exact h.move (fun _ _ h => h) fun _ _ _ _ h => h
  have k := lift_any sumL _ _ _ _ W h2 (fun _ h => h)
  have e : sumL.val (.slice none 0 0) (.slice none 0 0) p = .agg #[.int .i64 7, .string ⟨#[43]⟩, .slice none 0 0, .int .i64 0, .int .i64 0, .string ⟨#[]⟩, .slice none 0 0, p] := by
    unfold sumL PT0
    rfl
  rw [e] at k
  exact k
theorem inN_two {W : World} {B : Nat} {s t : ByteArray} {ty : TypeId} (hB : W.heap[B]? = some (.cells #[.string s, .string t] ty)) (hs : s.size ≤ maxLen := by decide) (ht : t.size ≤ maxLen := by decide) : InN W (fun _ => True) [s, t] (.slice (some ⟨B, 0, none⟩) 2 2) :=
  ⟨_, 2, rfl, Nat.le_refl _, by decide, (fun h => by cases h), .inr ⟨B, 0, rfl, trivial, fun j hj => by
    match j, hj with
    | 0, _ => exact ⟨by rw [Lib.cell_of_heap hB]; rfl, hs⟩
    | 1, _ => exact ⟨by rw [Lib.cell_of_heap hB]; rfl, ht⟩⟩⟩
/-- A slice's value. -/
def SL (v : Value) : Prop := ∃ a n c, v = .slice a n c
/-- What Lift answers where there is nothing to be lifted. -/
def NoIs (e : Ending) : Prop := ∃ vF x1 x2 x3 x4 x5 x6 x7 x8, e = .returned (.tuple #[.agg #[vF, x1, x2, x3, x4, x5, x6, x7, x8], .int .i64 100]) ∧ SL vF ∧ SL x3 ∧ SL x7 ∧ SL x8 ∧ (∃ k, x1 = .int .i64 k) ∧ (∃ k, x2 = .string k) ∧ (∃ k, x4 = .int .i64 k) ∧ (∃ k, x5 = .int .i64 k) ∧ ∃ k, x6 = .string k
theorem no_of {t : PE} {e : Ending} {w : World} (hno : ¬ okL t) (h : LiftIs t e w) : NoIs e := by
  obtain ⟨v, he, hv⟩ := h
  rw [codeL_no hno] at he
  generalize (progL t).1 = p1 at hv
  generalize (progL t).2 = p2 at hv
  obtain ⟨vF, k, nm, ns, ck, ci, cs, cl, l, vn, vd, vk, rfl, _, hE, hF⟩ := hv
  obtain ⟨⟨_, _, a1, c1, e1, _⟩, ⟨_, _, _, a2, c2, e2, _⟩, a3, c3, e3, _⟩ := hE
  obtain ⟨a4, c4, e4, _⟩ := hF
  exact ⟨_, _, _, _, _, _, _, _, _, he, ⟨_, _, _, e4⟩, ⟨_, _, _, e1⟩, ⟨_, _, _, e2⟩, ⟨_, _, _, e3⟩, ⟨_, rfl⟩, ⟨_, rfl⟩, ⟨_, rfl⟩, ⟨_, rfl⟩, ⟨_, rfl⟩⟩
theorem lift_sum_no (W : World) (p : Value) (h : InF W TT (.mk 7 ⟨#[43]⟩ [] (.mk 0 0 ⟨#[]⟩ []) [refL nLX, refL nLY]) (.slice none 0 0) (.slice none 0 0) p) : Calls Try.prog 6 #[.agg #[.int .i64 7, .string ⟨#[43]⟩, .slice none 0 0, .int .i64 0, .int .i64 0, .string ⟨#[]⟩, .slice none 0 0, p]] W fun e w' => NoIs e ∧ Below W.heap.size W w' :=
  (lift_sum W p h).mono fun _ _ g => ⟨no_of ok_sumL g.1, g.2⟩
end Go.Proofs.Ytkjgdnfkpebejaa.Core
