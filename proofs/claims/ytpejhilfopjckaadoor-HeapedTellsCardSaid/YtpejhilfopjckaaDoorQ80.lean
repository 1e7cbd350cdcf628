/-
What a value tells in full, as a function; what a heap's things must be like. No condition.
-/
import Derived.Test.YtpejhilfopjckaaDoorQGf
namespace Go.Proofs.YtpejhilfopjckaaDoor.Hp
open Go.ChangeShapes Go.WideShapes Go.ChangeAt Go.RowKit Go.Deep
open Dat (PT ok64 RepV RepS RowX infoDatum NewV NewS makeT make_any MakeOk numT numsT)
set_option maxRecDepth 100000

/-- Things as a heap that was filled by calls has them. -/
def WfT (T : List (Int × List PV)) : Prop := ∀ t ∈ T, 0 ≤ t.1 ∧ t.1 ≤ 4 ∧ (t.1 = 0 → t.2.length = 2) ∧ t.2.length ≤ 1000 ∧ ∀ u ∈ t.2, hasB T.length u = true
theorem has_mono {n m : Nat} (h : n ≤ m) {v : PV} (hv : hasB n v = true) : hasB m v = true := by
  unfold hasB at hv ⊢
  by_cases h8 : v.k = 8
  · simp only [h8, Int.reduceEq, if_false, if_true, or_self, numB, decide_eq_true_eq] at hv ⊢
    exact ⟨hv.1, by omega, hv.2.2⟩
  · simp only [h8, if_false] at hv ⊢
    exact hv
/-- What is done to such things leaves such ones. -/
def WfR (T : List (Int × List PV)) (r : PV × Int × List (Int × List PV)) : Prop := WfT T → WfT r.2.2
theorem wfr_same {T : List (Int × List PV)} {u : PV} {err : Int} : WfR T (u, err, T) := fun h => h
theorem wfr_put {T : List (Int × List PV)} {v u : PV} {a : Int} (hu : hasB T.length u = true) : WfR T (putT T v a u) := by
  intro h
  unfold putT
  split
  · show WfT (setT T v.i.toNat a.toNat u)
    intro t ht
    rw [setT_len]
    unfold setT at ht
    split at ht
    · rename_i t0 h0
      rcases List.mem_or_eq_of_mem_set ht with h1 | rfl
      · exact h t h1
      · obtain ⟨a1, a2, a3, a4, a5⟩ := h t0 (List.mem_of_getElem? h0)
        refine ⟨a1, a2, fun e => by rw [List.length_set]; exact a3 e, by rw [List.length_set]; exact a4, fun x hx => ?_⟩
        rcases List.mem_or_eq_of_mem_set hx with h2 | rfl
        · exact a5 x h2
        · exact hu
    · exact h t ht
  · exact h
theorem wfr_add {T : List (Int × List PV)} {x : Int × List PV} {u : PV} {err : Int} (h0 : 0 ≤ x.1 ∧ x.1 ≤ 4) (h1 : x.1 = 0 → x.2.length = 2) (h2 : x.2.length ≤ 1000) (h3 : ∀ u ∈ x.2, hasB T.length u = true) : WfR T (u, err, T ++ [x]) := by
  intro h t ht
  have hm : T.length ≤ (T ++ [x]).length := by simp
  rcases List.mem_append.1 ht with e | e
  · obtain ⟨a1, a2, a3, a4, a5⟩ := h t e
    exact ⟨a1, a2, a3, a4, fun y hy => has_mono hm (a5 y hy)⟩
  · rw [List.mem_singleton.1 e]
    exact ⟨h0.1, h0.2, h1, h2, fun y hy => has_mono hm (h3 y hy)⟩
theorem wfr_fill {T : List (Int × List PV)} {kind n : Int} {u : PV} (hk : 1 ≤ kind ∧ kind ≤ 2) (hu : hasB T.length u = true) : WfR T (fillT T kind n u) := by
  unfold fillT
  split
  · refine wfr_add ⟨by omega, by omega⟩ (fun e => by have : kind = 0 := e; omega) ?_ ?_
    · show (repl n.toNat u).length ≤ 1000
      rw [repl_length]
      omega
    · intro y hy
      rw [List.eq_of_mem_replicate hy]
      exact hu
  · exact wfr_same
theorem wfr_i2c {T : List (Int × List PV)} {i : Int} : WfR T (if 0 ≤ i ∧ i ≤ 255 then (⟨2, i, ⟨#[]⟩⟩, 0, T) else (⟨0, 0, ⟨#[]⟩⟩, 83, T)) := by
  split
  · exact wfr_same
  · exact wfr_same
theorem wfr_doG {T : List (Int × List PV)} {x : List Int} {l : List PV} {r : PV × Int × List (Int × List PV)} (h : WfR T r) : WfR T (doG T x l r) := by
  unfold doG
  split
  · split
    · exact h
    · exact wfr_same
  · exact wfr_same
def btB (i : Int) : UInt8 := UInt8.ofNat (i % 256).toNat
theorem btB_cell (i : Int) : ((btB i).toNat : Int) = i % 256 := by
  have h1 : 0 ≤ i % 256 := Int.emod_nonneg _ (by decide)
  have h2 : i % 256 < 256 := Int.emod_lt_of_pos _ (by decide)
  unfold btB
  rw [UInt8.toNat_ofNat']
  omega
def bytesL (l : List PV) : List UInt8 := l.map fun u => btB u.i
def textB (l : List PV) : ByteArray := ⟨(bytesL l).toArray⟩
theorem textB_size (l : List PV) : (textB l).size = l.length := by
  simp [textB, bytesL, ByteArray.size]
def boxT : PT := symT [98, 111, 120]
def procT : PT := symT [112, 114, 111, 99, 101, 100, 117, 114, 101]
/-- What a row of values tells, one by one, from place i on; so many were looked at ahead. -/
def tellI (g : Nat → PV → Nat → Option (PT × Nat)) : List PV → Nat → Nat → Option (List PT × Nat)
  | [], _, n => some ([], n)
  | u :: l, i, n => match g i u n with
    | none => none
    | some (x, n1) => match tellI g l (i + 1) n1 with
      | none => none
      | some (r, n2) => some (x :: r, n2)
theorem tellI_snoc {g : Nat → PV → Nat → Option (PT × Nat)} (u : PV) : ∀ (l : List PV) (i n : Nat), tellI g (l ++ [u]) i n = match tellI g l i n with
    | none => none
    | some (r, n1) => match g (i + l.length) u n1 with
      | none => none
      | some (x, n2) => some (r ++ [x], n2)
  | [], i, n => by
    simp only [List.nil_append, tellI, List.length_nil, Nat.add_zero]
  | v :: l, i, n => by
    simp only [List.cons_append, tellI, List.length_cons]
    cases hv : g i v n with
    | none => rfl
    | some p =>
      obtain ⟨x, n1⟩ := p
      dsimp only
      rw [tellI_snoc u l (i + 1) n1, show i + 1 + l.length = i + (l.length + 1) from by omega]
      cases hl : tellI g l (i + 1) n1 with
      | none => rfl
      | some q =>
        obtain ⟨r, n2⟩ := q
        dsimp only
        cases hu : g (i + (l.length + 1)) u n2 with
        | none => rfl
        | some s => rfl
theorem tellI_none {g : Nat → PV → Nat → Option (PT × Nat)} : ∀ (l r : List PV) (i n : Nat), tellI g l i n = none → tellI g (l ++ r) i n = none
  | [], r, i, n, h => by cases h
  | v :: l, r, i, n, h => by
    simp only [List.cons_append, tellI] at h ⊢
    cases hv : g i v n with
    | none => rfl
    | some p =>
      obtain ⟨x, n1⟩ := p
      rw [hv] at h
      dsimp only at h ⊢
      cases hl : tellI g l (i + 1) n1 with
      | none => rw [tellI_none l r (i + 1) n1 hl]
      | some q =>
        rw [hl] at h
        cases h
theorem tellI_pre {g : Nat → PV → Nat → Option (PT × Nat)} {l r : List PV} {i n : Nat} (hp : l <+: r) (h : tellI g l i n = none) : tellI g r i n = none := by
  obtain ⟨q, rfl⟩ := hp
  exact tellI_none l q i n h
theorem tellI_num {g : Nat → PV → Nat → Option (PT × Nat)} {U : Nat} (hg : ∀ i u n d n', n ≤ U → g i u n = some (d, n') → n ≤ n' ∧ n' ≤ U ∧ numT d ≤ n' - n) : ∀ (l : List PV) (i n : Nat) (r : List PT) (n' : Nat), n ≤ U → tellI g l i n = some (r, n') → n ≤ n' ∧ n' ≤ U ∧ numsT r ≤ n' - n ∧ r.length = l.length
  | [], i, n, r, n', hn, h => by
    simp only [tellI, Option.some.injEq, Prod.mk.injEq] at h
    obtain ⟨rfl, rfl⟩ := h
    exact ⟨Nat.le_refl _, hn, by simp [numsT], rfl⟩
  | v :: l, i, n, r, n', hn, h => by
    simp only [tellI] at h
    cases hv : g i v n with
    | none => rw [hv] at h; cases h
    | some p =>
      obtain ⟨x, n1⟩ := p
      rw [hv] at h
      dsimp only at h
      cases hl : tellI g l (i + 1) n1 with
      | none => rw [hl] at h; cases h
      | some q =>
        obtain ⟨s, n2⟩ := q
        rw [hl] at h
        simp only [Option.some.injEq, Prod.mk.injEq] at h
        obtain ⟨rfl, rfl⟩ := h
        obtain ⟨a1, a2, a3⟩ := hg i v n x n1 hn hv
        obtain ⟨b1, b2, b3, b4⟩ := tellI_num hg l (i + 1) n1 s n2 a2 hl
        refine ⟨by omega, b2, ?_, by simp [b4]⟩
        simp only [numsT]
        omega
/-- What a row's values make, by the kind of their thing. -/
def joinT (kd : Int) (l : List PT) : PT := if kd = 0 then makeT (l.take 1) (l.getD 1 (.mk 0 0 ⟨#[]⟩ [])) else .mk 7 0 ⟨#[]⟩ l
def downN (kd : Int) (m i : Nat) : Nat := if kd = 0 ∧ i = 1 then m else m + 1
/-- What a value tells that is within m others, n having been looked at: the datum, and how many are then; none: that is too much. -/
def tellF (T : List (Int × List PV)) : Nat → PV → Nat → Nat → Option (PT × Nat)
  | 0, _, _, _ => none
  | f + 1, v, m, n =>
    if 200 ≤ n ∨ 32 < m then none
    else if v.k ≠ 8 then some (shownT v, n + 1)
    else match T[v.i.toNat]? with
      | none => none
      | some t =>
        if t.1 = 3 then some (boxT, n + 1)
        else if t.1 = 4 then some (procT, n + 1)
        else if t.1 = 2 then some (.mk 3 0 (textB t.2) [], n + 1)
        else match tellI (fun i u k => tellF T f u (downN t.1 m i) k) t.2 0 (n + 1) with
          | none => none
          | some (l, n2) => some (joinT t.1 l, n2)
theorem make_num (x y : PT) : numT (makeT [x] y) ≤ numT x + numT y + 1 := by
  obtain ⟨k, i, s, l⟩ := y
  unfold makeT
  dsimp only
  rw [if_neg (by simp)]
  split
  · rw [numT, numT, Dat.numsT_append]
    simp only [numsT]
    omega
  · rw [numT, Dat.numsT_append]
    simp only [numsT, numT]
    omega
theorem join_num (kd : Int) (l : List PT) (h : kd = 0 → l.length = 2) : numT (joinT kd l) ≤ numsT l + 1 := by
  unfold joinT
  split
  · rename_i h0
    match l, h h0 with
    | [x, y], _ =>
      have := make_num x y
      simp only [numsT]
      exact Nat.le_trans this (by omega)
  · rw [numT]
    omega
theorem tellF_num {T : List (Int × List PV)} (hW : WfT T) : ∀ (f : Nat) (v : PV) (m n : Nat) (d : PT) (n' : Nat), n ≤ 200 → tellF T f v m n = some (d, n') → n ≤ n' ∧ n' ≤ 200 ∧ numT d ≤ n' - n
  | 0, _, _, _, _, _, _, h => by cases h
  | f + 1, v, m, n, d, n', hn, h => by
    have ih : ∀ (m : Nat) (u : PV) (n : Nat) (d : PT) (n' : Nat), n ≤ 200 → tellF T f u m n = some (d, n') → n ≤ n' ∧ n' ≤ 200 ∧ numT d ≤ n' - n := fun m u n d n' => tellF_num hW f u m n d n'
    have leaf : ∀ {e : PT}, numT e = 1 → n < 200 → some (e, n + 1) = some (d, n') → n ≤ n' ∧ n' ≤ 200 ∧ numT d ≤ n' - n := by
      intro e he h1 h2
      simp only [Option.some.injEq, Prod.mk.injEq] at h2
      obtain ⟨rfl, rfl⟩ := h2
      omega
    rw [tellF] at h
    split at h
    · cases h
    rename_i hc
    have hn1 : n < 200 := by omega
    split at h
    · exact leaf (shown_num v) hn1 h
    split at h
    · cases h
    rename_i t ht
    split at h
    · exact leaf rfl hn1 h
    split at h
    · exact leaf rfl hn1 h
    split at h
    · exact leaf rfl hn1 h
    cases h1 : tellI (fun i u k => tellF T f u (downN t.1 m i) k) t.2 0 (n + 1) with
    | none => rw [h1] at h; cases h
    | some p =>
      obtain ⟨l, n1⟩ := p
      rw [h1] at h
      simp only [Option.some.injEq, Prod.mk.injEq] at h
      obtain ⟨rfl, rfl⟩ := h
      obtain ⟨a1, a2, a3, a4⟩ := tellI_num (fun i => ih (downN t.1 m i)) _ _ _ _ _ (by omega) h1
      have := join_num t.1 l (fun h0 => by rw [a4]; exact (hW t (List.mem_of_getElem? ht)).2.2.1 h0)
      exact ⟨by omega, a2, by omega⟩
end Go.Proofs.YtpejhilfopjckaaDoor.Hp
