/-
Functions within one another, each of which uses its own parameter and that of one around it, as a tree; their free names. No condition.
-/
import Derived.Test.YtkjgdnfkpebejaaWNC

namespace Go.Proofs.Ytkjgdnfkpebejaa.Core
open Go.ChangeShapes Go.WideShapes Go.ChangeAt Go.RowKit Go.Deep
open Dat (PT ok64 RowX)
set_option maxRecDepth 100000

/-- The parameter of the function so far inside. -/
def nmP (i : Nat) : ByteArray := ⟨#[112, UInt8.ofNat (48 + i)]⟩
theorem nmP_inj {i j : Nat} (hi : i ≤ 8) (hj : j ≤ 8) (h : nmP i = nmP j) : i = j := by
  have h1 : ∀ i : Fin 9, ∀ j : Fin 9, nmP i.1 = nmP j.1 → i = j := by decide +kernel
  have := h1 ⟨i, by omega⟩ ⟨j, by omega⟩ h
  exact congrArg Fin.val this
/-- So many functions within one another from the i-th on. -/
def holdT (of : Nat → Nat) : Nat → Nat → PE
  | _, 0 => .mk 0 ⟨#[]⟩ [] (.mk 5 0 ⟨#[]⟩ []) []
  | i, m + 1 => .mk 5 ⟨#[]⟩ [nmP i] PT0 [.mk 4 ⟨#[]⟩ [] PT0 [refL (nmP (of i)), refL (nmP i), holdT of (i + 1) m]]
theorem rfree_ref (bd out : List ByteArray) (s t : ByteArray) : t ∈ rfreeT bd out (refL s) ↔ t ∈ out ∨ (t = s ∧ s ∉ bd) := by
  unfold refL
  rw [rfreeT, rfreesT]
  by_cases h : s ∈ bd
  · rw [if_neg (fun g => g.2 h)]
    simp [h]
  · rw [if_pos ⟨.inl rfl, h⟩, putT_mem]
    simp only [h, not_false_eq_true, and_true]
    exact or_comm
theorem binds5 (n i : Nat) : bindsB 5 n i = true := by unfold bindsB; simp
theorem binds4 (n i : Nat) : bindsB 4 n i = false := by unfold bindsB; simp
/-- Which names are free. -/
theorem hold_mem (of : Nat → Nat) (hof : ∀ k, of k ≤ k) : ∀ (m i : Nat) (bd out : List ByteArray) (s : ByteArray), i + m ≤ 8 →
    (s ∈ rfreeT bd out (holdT of i m) ↔ s ∈ out ∨ (s ∉ bd ∧ ∃ k, i ≤ k ∧ k < i + m ∧ of k < i ∧ s = nmP (of k)))
  | 0, i, bd, out, s, _ => by
    rw [holdT, rfreeT, rfreesT, if_neg (by simp)]
    constructor
    · exact .inl
    · rintro (h | ⟨_, k, h1, h2, _⟩)
      · exact h
      · omega
  | m + 1, i, bd, out, s, hm => by
    have ih := hold_mem of hof m (i + 1) (bd ++ [nmP i])
    have e : rfreeT bd out (holdT of i (m + 1)) = rfreeT (bd ++ [nmP i]) (rfreeT (bd ++ [nmP i]) (rfreeT (bd ++ [nmP i]) out (refL (nmP (of i)))) (refL (nmP i))) (holdT of (i + 1) m) := by
      have n5 : ¬ (((5 : Int) = 1 ∨ (5 : Int) = 2) ∧ (⟨#[]⟩ : ByteArray) ∉ bd) := by simp
      have n4 : ¬ (((4 : Int) = 1 ∨ (4 : Int) = 2) ∧ (⟨#[]⟩ : ByteArray) ∉ (bd ++ [nmP i])) := by simp
      rw [holdT, rfreeT, rfreesT, rfreesT, if_neg n5, if_pos (binds5 _ _), rfreeT, rfreesT, rfreesT, rfreesT, rfreesT, if_neg n4]
      simp only [binds4, Bool.false_eq_true, if_false]
    rw [e, ih _ s (by omega), rfree_ref, rfree_ref]
    have hb : ∀ t, t ∈ bd ++ [nmP i] ↔ t ∈ bd ∨ t = nmP i := fun t => by simp
    simp only [hb]
    have hoi := hof i
    constructor
    · rintro (((h | ⟨rfl, h⟩) | ⟨rfl, h⟩) | ⟨h, k, h1, h2, h3, rfl⟩)
      · exact .inl h
      · refine .inr ⟨fun g => h (.inl g), i, Nat.le_refl _, by omega, ?_, rfl⟩
        rcases Nat.lt_or_ge (of i) i with g | g
        · exact g
        · exact absurd (.inr (congrArg nmP (by omega : of i = i))) h
      · exact absurd (.inr trivial) h
      · refine .inr ⟨fun g => h (.inl g), k, by omega, by omega, ?_, rfl⟩
        rcases Nat.lt_or_ge (of k) i with g | g
        · exact g
        · exact absurd (.inr (congrArg nmP (by omega : of k = i))) h
    · rintro (h | ⟨h, k, h1, h2, h3, rfl⟩)
      · exact .inl (.inl (.inl h))
      · have hne : nmP (of k) ≠ nmP i := fun g => by have := nmP_inj (by omega) (by omega) g; omega
        rcases Nat.lt_or_ge i k with g | g
        · exact .inr ⟨fun g2 => g2.elim h hne, k, by omega, by omega, by omega, rfl⟩
        · obtain rfl : k = i := by omega
          exact .inl (.inl (.inr ⟨rfl, fun g2 => g2.elim h hne⟩))
theorem hold_free (of : Nat → Nat) (hof : ∀ k, of k ≤ k) (m i : Nat) (hm : i + m ≤ 8) (s : ByteArray) : s ∈ freeT (holdT of i m) ↔ ∃ k, i ≤ k ∧ k < i + m ∧ of k < i ∧ s = nmP (of k) := by
  unfold freeT
  rw [hold_mem of hof m i [] [] s hm]
  simp
theorem hold_closed (of : Nat → Nat) (hof : ∀ k, of k ≤ k) (n : Nat) (hn : n ≤ 8) : freeT (holdT of 0 n) = [] := by
  refine rise_ext (freeT_is _).1 List.Pairwise.nil fun s => ?_
  rw [hold_free of hof n 0 (by omega)]
  simp
/-- The names that are to be: those of functions around the i-th that one from the i-th on uses. -/
def wantT (of : Nat → Nat) (n i : Nat) : List ByteArray := ((List.range i).filter fun p => (List.range n).any fun k => decide (i ≤ k) && (of k == p)).map nmP
theorem hold_want (of : Nat → Nat) (hof : ∀ k, of k ≤ k) (n i : Nat) (hi : i ≤ n) (hn : n ≤ 8) : freeT (holdT of i (n - i)) = wantT of n i := by
  refine rise_ext (freeT_is _).1 ?_ fun s => ?_
  · have hr : ∀ i : Fin 9, ∀ j : Fin 9, i.1 < j.1 → (nmP i.1).data.toList < (nmP j.1).data.toList := by decide +kernel
    unfold RiseT wantT
    refine List.pairwise_map.2 ((List.pairwise_lt_range.filter _).imp_of_mem fun {a b} ha hb hab => ?_)
    have h1 := List.mem_range.1 (List.mem_filter.1 ha).1
    have h2 := List.mem_range.1 (List.mem_filter.1 hb).1
    exact hr ⟨a, by omega⟩ ⟨b, by omega⟩ hab
  · rw [hold_free of hof (n - i) i (by omega)]
    unfold wantT
    simp only [List.mem_map, List.mem_filter, List.mem_range, List.any_eq_true, Bool.and_eq_true, decide_eq_true_eq, beq_iff_eq]
    constructor
    · rintro ⟨k, h1, h2, h3, rfl⟩
      exact ⟨of k, ⟨h3, k, by omega, h1, rfl⟩, rfl⟩
    · rintro ⟨p, ⟨h1, k, h2, h3, rfl⟩, rfl⟩
      exact ⟨k, h3, by omega, h1, rfl⟩
/-- What is left where a function was. -/
noncomputable def mainT (of : Nat → Nat) (i : Nat) : Nat → Nat → PE
  | 0, _ => .mk 0 ⟨#[]⟩ [] (.mk 5 0 ⟨#[]⟩ []) []
  | m + 1, n => cloT n (freeT (holdT of i (m + 1)))
/-- The functions. -/
noncomputable def funsT (of : Nat → Nat) : Nat → Nat → Nat → List FunT
  | _, 0, _ => []
  | i, m + 1, n => ⟨[nmP i], freeT (holdT of i (m + 1)), .mk 4 ⟨#[]⟩ [] PT0 [refL (nmP (of i)), refL (nmP i), mainT of (i + 1) m (n + 1)]⟩ :: funsT of (i + 1) m (n + 1)
/-- What is lifted. -/
theorem hold_lift (of : Nat → Nat) : ∀ (m i : Nat) (fs : List FunT), liftT fs (holdT of i m) = (mainT of i m fs.length, fs ++ funsT of i m fs.length)
  | 0, i, fs => by
    rw [holdT, liftT_else _ (by decide), liftsT, mainT, funsT, List.append_nil]
  | m + 1, i, fs => by
    have hr : ∀ fs s, liftT fs (refL s) = (refL s, fs) := fun fs s => by
      unfold refL
      rw [liftT_else _ (by decide), liftsT]
    have h1 := liftT_lam fs ⟨#[]⟩ [nmP i] PT0 (.mk 4 ⟨#[]⟩ [] PT0 [refL (nmP (of i)), refL (nmP i), holdT of (i + 1) m])
    have h2 : liftT (fs ++ [⟨[nmP i], freeT (holdT of i (m + 1)), PE0⟩]) (.mk 4 ⟨#[]⟩ [] PT0 [refL (nmP (of i)), refL (nmP i), holdT of (i + 1) m]) = (.mk 4 ⟨#[]⟩ [] PT0 [refL (nmP (of i)), refL (nmP i), mainT of (i + 1) m (fs.length + 1)], (fs ++ [⟨[nmP i], freeT (holdT of i (m + 1)), PE0⟩]) ++ funsT of (i + 1) m (fs.length + 1)) := by
      rw [liftT_else _ (by decide)]
      simp only [liftsT, hr, hold_lift of m (i + 1), List.length_append, List.length_cons, List.length_nil, Nat.zero_add]
    have e : holdT of i (m + 1) = .mk 5 ⟨#[]⟩ [nmP i] PT0 [.mk 4 ⟨#[]⟩ [] PT0 [refL (nmP (of i)), refL (nmP i), holdT of (i + 1) m]] := by rw [holdT]
    rw [← e, h2] at h1
    rw [h1, mainT, funsT, List.append_assoc, List.set_append_right _ _ (Nat.le_refl _), Nat.sub_self]
    rfl
theorem funs_len (of : Nat → Nat) : ∀ (m i n : Nat), (funsT of i m n).length = m
  | 0, _, _ => rfl
  | m + 1, i, n => by rw [funsT, List.length_cons, funs_len of m]
/-- A function's free names. -/
theorem funs_frees (of : Nat → Nat) : ∀ (m i n j : Nat), j < m → ((funsT of i m n)[j]?).map FunT.frees = some (freeT (holdT of (i + j) (m - j)))
  | 0, _, _, _, h => by omega
  | m + 1, i, n, 0, _ => by rw [funsT]; rfl
  | m + 1, i, n, j + 1, h => by
    rw [funsT, List.getElem?_cons_succ, funs_frees of m (i + 1) (n + 1) j (by omega), show i + 1 + j = i + (j + 1) by omega, show m - j = m + 1 - (j + 1) by omega]
theorem nmP_name {i : Nat} (hi : i ≤ 8) : nameB (nmP i).data.toList = true := by
  have h : ∀ i : Fin 9, nameB (nmP i.1).data.toList = true := by decide +kernel
  exact h ⟨i, by omega⟩
theorem chk_ref {deep n : Nat} {s : ByteArray} (h : nameB s.data.toList = true) (hn : n ≠ 4096) (hd : deep ≠ 250) : chkE deep n (refL s) = (n + 1, 0) := by
  have hf : formE (.mk 1 s [] PT0 []) = true := by
    unfold formE
    simp [kidsB, fieldsB, nameOkB, namesOkB, constOkB, h, sameL0]
  unfold refL
  rw [chkE, if_neg hn, if_neg hd, if_pos hf, chkEs]
/-- The tree may be. -/
theorem hold_chk (of : Nat → Nat) (hof : ∀ k, of k ≤ k) : ∀ (m i deep n : Nat), i + m ≤ 8 → n + 4 * m < 4096 → deep + 2 * m < 249 → chkE deep n (holdT of i m) = (n + 4 * m + 1, 0)
  | 0, i, deep, n, _, hn, hd => by
    have hc : constB (.mk 5 0 ⟨#[]⟩ []) = true := by decide +kernel
    have hf : formE (.mk 0 ⟨#[]⟩ [] (.mk 5 0 ⟨#[]⟩ []) []) = true := by
      unfold formE
      simp [kidsB, fieldsB, nameOkB, namesOkB, constOkB, hc]
    rw [holdT, chkE, if_neg (by omega), if_neg (by omega), if_pos hf, chkEs]
  | m + 1, i, deep, n, hi, hn, hd => by
    have hnb : namesB [nmP i] = true := by
      unfold namesB
      simp [nmP_name (show i ≤ 8 by omega)]
    have ho := hof i
    have hf : formE (.mk 5 ⟨#[]⟩ [nmP i] PT0 [.mk 4 ⟨#[]⟩ [] PT0 [refL (nmP (of i)), refL (nmP i), holdT of (i + 1) m]]) = true := by
      unfold formE
      simp [kidsB, fieldsB, nameOkB, namesOkB, constOkB, sameL0, hnb]
    have hg : formE (.mk 4 ⟨#[]⟩ [] PT0 [refL (nmP (of i)), refL (nmP i), holdT of (i + 1) m]) = true := by
      unfold formE
      simp [kidsB, fieldsB, nameOkB, namesOkB, constOkB, sameL0]
    have h1 : chkE (deep + 1) (n + 1) (.mk 4 ⟨#[]⟩ [] PT0 [refL (nmP (of i)), refL (nmP i), holdT of (i + 1) m]) = (n + 4 * (m + 1) + 1, 0) := by
      rw [chkE, if_neg (by omega), if_neg (by omega), if_pos hg, chkEs, chk_ref (nmP_name (by omega)) (by omega) (by omega), if_pos rfl, chkEs, chk_ref (nmP_name (by omega)) (by omega) (by omega), if_pos rfl, chkEs, hold_chk of hof m (i + 1) (deep + 1 + 1) (n + 1 + 1 + 1 + 1) (by omega) (by omega) (by omega), if_pos rfl, chkEs]
      show (_, _) = (_, _)
      rw [show n + 1 + 1 + 1 + 1 + 4 * m + 1 = n + 4 * (m + 1) + 1 by omega]
    rw [holdT, chkE, if_neg (by omega), if_neg (by omega), if_pos hf, chkEs, h1, if_pos rfl, chkEs]
theorem hold_check (of : Nat → Nat) (hof : ∀ k, of k ≤ k) {n : Nat} (hn : n ≤ 8) : checkE (holdT of 0 n) = 0 := by
  unfold checkE
  rw [hold_chk of hof n 0 0 0 (by omega) (by omega) (by omega)]
theorem hold_chg (of : Nat → Nat) : ∀ (m i : Nat), chgT (holdT of i m) = false
  | 0, i => by rw [holdT, chgT, chgsT]; rfl
  | m + 1, i => by
    have hr : ∀ s, chgT (refL s) = false := fun s => by unfold refL; rw [chgT, chgsT]; rfl
    rw [holdT, chgT, chgsT, chgsT, chgT, chgsT, chgsT, chgsT, chgsT, hr, hr, hold_chg of m (i + 1)]
    rfl
/-- It is lifted. -/
theorem hold_okL (of : Nat → Nat) (hof : ∀ k, of k ≤ k) {n : Nat} (hn : n ≤ 8) : okL (holdT of 0 n) := ⟨hold_check of hof hn, hold_closed of hof n hn, hold_chg of n 0⟩
end Go.Proofs.Ytkjgdnfkpebejaa.Core
