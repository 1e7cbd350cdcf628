/-
Texts N1, N9, one behind the other (a claim bears sixty files). Conditions: as each says.
-/
import Derived.Test.YtkjgdnfkpebejaaK37

/-
Package lift, pure: the document's free names are those that the code counts; what is lifted, and the functions. No condition.
-/
namespace Go.Proofs.Ytkjgdnfkpebejaa.Core
open Go.ChangeShapes Go.WideShapes Go.ChangeAt Go.RowKit Go.Deep
open Dat (PT ok64)
set_option maxRecDepth 100000
/-- A text in its place in a row that rises. -/
def insT : List ByteArray → ByteArray → List ByteArray
  | [], s => [s]
  | x :: l, s => if s.data.toList < x.data.toList then s :: x :: l else x :: insT l s
open Classical in
/-- The same, where it is not there. -/
noncomputable def putT (l : List ByteArray) (s : ByteArray) : List ByteArray := if s ∈ l then l else insT l s
/-- A row rises. -/
def RiseT (l : List ByteArray) : Prop := l.Pairwise fun a b => a.data.toList < b.data.toList
theorem insT_mem : ∀ (l : List ByteArray) (s t : ByteArray), t ∈ insT l s ↔ t = s ∨ t ∈ l
  | [], s, t => by simp [insT]
  | x :: l, s, t => by
    rw [insT]
    split
    · simp
    · simp only [List.mem_cons, insT_mem l s t]
      exact ⟨fun h => h.elim (fun h => .inr (.inl h)) fun h => h.elim .inl fun h => .inr (.inr h), fun h => h.elim (fun h => .inr (.inl h)) fun h => h.elim .inl fun h => .inr (.inr h)⟩
theorem putT_mem (l : List ByteArray) (s t : ByteArray) : t ∈ putT l s ↔ t = s ∨ t ∈ l := by
  unfold putT
  split
  · rename_i h
    exact ⟨.inr, fun g => g.elim (fun e => e ▸ h) id⟩
  · exact insT_mem l s t
theorem data_inj {a b : ByteArray} (h : a.data.toList = b.data.toList) : a = b := by
  obtain ⟨⟨a⟩⟩ := a
  obtain ⟨⟨b⟩⟩ := b
  cases h
  rfl
theorem insT_rise : ∀ (l : List ByteArray) (s : ByteArray), RiseT l → s ∉ l → RiseT (insT l s)
  | [], s, _, _ => List.pairwise_singleton _ _
  | x :: l, s, h, hs => by
    have h1 := List.pairwise_cons.1 h
    rw [insT]
    split
    · rename_i hlt
      refine List.pairwise_cons.2 ⟨fun t ht => ?_, h⟩
      rcases List.mem_cons.1 ht with rfl | ht
      · exact hlt
      · exact List.lt_trans hlt (h1.1 t ht)
    · rename_i hlt
      refine List.pairwise_cons.2 ⟨fun t ht => ?_, insT_rise l s h1.2 fun g => hs (List.mem_cons_of_mem _ g)⟩
      rcases (insT_mem l s t).1 ht with rfl | ht
      · exact Std.lt_of_le_of_ne (List.not_lt.1 hlt) fun e => hs (by rw [← data_inj e]; exact List.mem_cons_self)
      · exact h1.1 t ht
theorem putT_rise (l : List ByteArray) (s : ByteArray) (h : RiseT l) : RiseT (putT l s) := by
  unfold putT
  split
  · exact h
  · exact insT_rise l s h ‹_›
/-- Rows that rise and hold the same are one. -/
theorem rise_ext : ∀ {l m : List ByteArray}, RiseT l → RiseT m → (∀ s, s ∈ l ↔ s ∈ m) → l = m
  | [], [], _, _, _ => rfl
  | [], y :: m, _, _, h => absurd ((h y).2 List.mem_cons_self) (List.not_mem_nil)
  | x :: l, [], _, _, h => absurd ((h x).1 List.mem_cons_self) (List.not_mem_nil)
  | x :: l, y :: m, hl, hm, h => by
    have h1 := List.pairwise_cons.1 hl
    have h2 := List.pairwise_cons.1 hm
    have e : x = y := by
      rcases List.mem_cons.1 ((h x).1 List.mem_cons_self) with e | hx
      · exact e
      rcases List.mem_cons.1 ((h y).2 List.mem_cons_self) with e | hy
      · exact e.symm
      exact absurd (List.lt_trans (h1.1 y hy) (h2.1 x hx)) (List.lt_irrefl _)
    subst e
    rw [rise_ext h1.2 h2.2 fun s => ?_]
    constructor
    · intro hs
      rcases List.mem_cons.1 ((h s).1 (List.mem_cons_of_mem _ hs)) with rfl | g
      · exact absurd (h1.1 s hs) (List.lt_irrefl _)
      · exact g
    · intro hs
      rcases List.mem_cons.1 ((h s).2 (List.mem_cons_of_mem _ hs)) with rfl | g
      · exact absurd (h2.1 s hs) (List.lt_irrefl _)
      · exact g
open Classical in
mutual
/-- The document's free names, behind what there is. -/
noncomputable def rfreeT (bd : List ByteArray) (out : List ByteArray) : PE → List ByteArray
  | .mk k nm ns _ l => rfreesT bd k ns l.length 0 (if (k = 1 ∨ k = 2) ∧ nm ∉ bd then putT out nm else out) l
noncomputable def rfreesT (bd : List ByteArray) (k : Int) (ns : List ByteArray) (n i : Nat) (out : List ByteArray) : List PE → List ByteArray
  | [] => out
  | t :: l => rfreesT bd k ns n (i + 1) (rfreeT (if bindsB k n i then bd ++ ns else bd) out t) l
end
/-- What is bound: a row of names, and how often each is. -/
def BdIs (bd : List ByteArray) (B : ByteArray → Int) : Prop := ∀ s, 0 ≤ B s ∧ (s ∈ bd ↔ B s ≠ 0)
/-- What is free so far: a row that rises, and how often each is. -/
def FrIs (out : List ByteArray) (F : ByteArray → Int) : Prop := RiseT out ∧ ∀ s, 0 ≤ F s ∧ (s ∈ out ↔ F s ≠ 0)
theorem occ_iff0 : ∀ (l : List ByteArray) (s : ByteArray), occ l s ≠ 0 ↔ s ∈ l
  | [], s => by simp [occ]
  | t :: l, s => by
    have h1 := occ_iff0 l s
    have h2 := occ_bound l s
    rw [occ, List.mem_cons]
    by_cases e : t = s
    · rw [if_pos e]
      exact ⟨fun _ => .inl e.symm, fun _ => by omega⟩
    · rw [if_neg e]
      constructor
      · intro h
        exact .inr (h1.1 (by omega))
      · rintro (h | h)
        · exact absurd h.symm e
        · have := h1.2 h
          omega
theorem BdIs.add {bd : List ByteArray} {B : ByteArray → Int} (h : BdIs bd B) (ns : List ByteArray) : BdIs (bd ++ ns) (addB B ns 1) := by
  intro s
  have h1 := h s
  have h2 := occ_bound ns s
  have h3 := occ_iff0 ns s
  unfold addB
  refine ⟨by omega, ?_⟩
  rw [List.mem_append]
  constructor
  · rintro (g | g)
    · have := h1.2.1 g; omega
    · have := h3.2 g; omega
  · intro g
    by_cases e : B s = 0
    · exact .inr (h3.1 (by omega))
    · exact .inl (h1.2.2 e)
theorem FrIs.put {out : List ByteArray} {F : ByteArray → Int} (h : FrIs out F) (nm : ByteArray) : FrIs (putT out nm) (incF F nm) := by
  refine ⟨putT_rise _ _ h.1, fun s => ?_⟩
  have h1 := h.2 s
  have h2 := h.2 nm
  unfold incF
  rw [putT_mem]
  by_cases e : s = nm
  · rw [if_pos e]
    exact ⟨by omega, fun _ => by omega, fun _ => .inl e⟩
  · rw [if_neg e]
    exact ⟨h1.1, fun g => h1.2.1 (g.resolve_left e), fun g => .inr (h1.2.2 g)⟩
theorem binds_from (k : Int) (n i : Nat) (hi : i < n) : (bindsB k n i = true) ↔ fromT k n ≤ i := by
  unfold bindsB fromT
  simp only [Bool.or_eq_true, Bool.and_eq_true, decide_eq_true_eq]
  split
  · rename_i h
    exact ⟨fun _ => Nat.zero_le _, fun _ => by omega⟩
  split
  · exact ⟨fun _ => by omega, fun _ => by omega⟩
  · exact ⟨fun _ => by omega, fun _ => by omega⟩
mutual
/-- The document's free names are those that are counted. -/
theorem rfree_seek {bd out : List ByteArray} {B F : ByteArray → Int} (hb : BdIs bd B) (hf : FrIs out F) : ∀ t : PE, FrIs (rfreeT bd out t) (seekE B F t)
  | .mk k nm ns d l => by
    rw [rfreeT, seekE]
    refine rfrees_seek hb k ns l.length 0 l ?_ (by omega)
    have h1 := (hb nm).2
    have h2 : nm ∉ bd ↔ B nm = 0 := by rw [h1]; exact Decidable.not_not
    by_cases h : (k = 1 ∨ k = 2) ∧ B nm = 0
    · rw [if_pos h, if_pos ⟨h.1, h2.2 h.2⟩]
      exact hf.put nm
    · rw [if_neg h, if_neg fun g => h ⟨g.1, h2.1 g.2⟩]
      exact hf
theorem rfrees_seek {bd : List ByteArray} {B : ByteArray → Int} (hb : BdIs bd B) (k : Int) (ns : List ByteArray) (n i : Nat) : ∀ (l : List PE) {out : List ByteArray} {F : ByteArray → Int}, FrIs out F → i + l.length = n → FrIs (rfreesT bd k ns n i out l) (seekEs (fun i => if fromT k n ≤ i then addB B ns 1 else B) i F l)
  | [], _, _, hf, _ => by rw [rfreesT, seekEs]; exact hf
  | t :: l, out, F, hf, hn => by
    rw [List.length_cons] at hn
    rw [rfreesT, seekEs]
    have h1 : BdIs (if bindsB k n i = true then bd ++ ns else bd) (if fromT k n ≤ i then addB B ns 1 else B) := by
      simp only [binds_from k n i (by omega)]
      split
      · exact hb.add ns
      · exact hb
    exact rfrees_seek hb k ns n (i + 1) l (rfree_seek h1 hf t) (by omega)
end
/-- The free names. -/
noncomputable def freeT (t : PE) : List ByteArray := rfreeT [] [] t
theorem freeT_is (t : PE) : FrIs (freeT t) (freeF t) :=
  rfree_seek (fun _ => ⟨Int.le_refl _, by simp⟩) ⟨List.Pairwise.nil, fun _ => ⟨Int.le_refl _, by simp⟩⟩ t
/-- What the code answers is the document's row. -/
theorem free_row {t : PE} {l : List ByteArray} (h : l.Pairwise (fun a b => a.data.toList < b.data.toList)) (hm : ∀ s, s ∈ l ↔ s.size ≤ maxLen ∧ freeF t s ≠ 0) (hz : ∀ s ∈ freeT t, s.size ≤ maxLen) : l = freeT t :=
  rise_ext h (freeT_is t).1 fun s => by
    rw [hm, ((freeT_is t).2 s).2]
    exact ⟨fun g => g.2, fun g => ⟨hz s (((freeT_is t).2 s).2.2 g), g⟩⟩
/-- A function that was taken out. -/
structure FunT where
  params : List ByteArray
  frees : List ByteArray
  body : PE
/-- A function whose body is not there yet. -/
def FunT.none (ns fr : List ByteArray) : FunT := ⟨ns, fr, PE0⟩
/-- A closure of the function in a place. -/
def cloT (n : Nat) (fr : List ByteArray) : PE := .mk 11 ⟨#[]⟩ fr (.mk 1 n ⟨#[]⟩ []) []
open Classical in
mutual
/-- An expression whose functions are taken out, and the functions, behind those that there are. -/
noncomputable def liftT (fs : List FunT) : PE → PE × List FunT
  | .mk k nm ns d l =>
    if k = 5 then (cloT fs.length (freeT (.mk k nm ns d l)), (liftsT (fs ++ [⟨ns, freeT (.mk k nm ns d l), PE0⟩]) l).2.set fs.length ⟨ns, freeT (.mk k nm ns d l), (liftsT (fs ++ [⟨ns, freeT (.mk k nm ns d l), PE0⟩]) l).1.headD PE0⟩)
    else (.mk k nm ns d (liftsT fs l).1, (liftsT fs l).2)
noncomputable def liftsT (fs : List FunT) : List PE → List PE × List FunT
  | [] => ([], fs)
  | t :: l => ((liftT fs t).1 :: (liftsT (liftT fs t).2 l).1, (liftsT (liftT fs t).2 l).2)
end
theorem liftsT_snoc : ∀ (l : List PE) (t : PE) (fs : List FunT), liftsT fs (l ++ [t]) = ((liftsT fs l).1 ++ [(liftT (liftsT fs l).2 t).1], (liftT (liftsT fs l).2 t).2)
  | [], t, fs => by simp [liftsT]
  | u :: l, t, fs => by
    rw [List.cons_append, liftsT, liftsT, liftsT_snoc l t]
    rfl
theorem liftsT_len : ∀ (l : List PE) (fs : List FunT), (liftsT fs l).1.length = l.length
  | [], fs => by rw [liftsT]
  | t :: l, fs => by rw [liftsT, List.length_cons, List.length_cons, liftsT_len l]
mutual
/-- Functions are put behind those that there are, which stay. -/
theorem liftT_more (fs : List FunT) : ∀ t : PE, ∃ more, (liftT fs t).2 = fs ++ more
  | .mk k nm ns d l => by
    rw [liftT]
    split
    · obtain ⟨m, hm⟩ := liftsT_more (fs ++ [⟨ns, freeT (.mk k nm ns d l), PE0⟩]) l
      refine ⟨⟨ns, freeT (.mk k nm ns d l), (liftsT (fs ++ [⟨ns, freeT (.mk k nm ns d l), PE0⟩]) l).1.headD PE0⟩ :: m, ?_⟩
      show List.set _ _ _ = _
      rw [hm, List.append_assoc, List.set_append_right _ _ (Nat.le_refl _), Nat.sub_self]
      rfl
    · exact liftsT_more fs l
theorem liftsT_more (fs : List FunT) : ∀ l : List PE, ∃ more, (liftsT fs l).2 = fs ++ more
  | [] => ⟨[], by rw [liftsT, List.append_nil]⟩
  | t :: l => by
    obtain ⟨m, hm⟩ := liftT_more fs t
    obtain ⟨m2, hm2⟩ := liftsT_more (liftT fs t).2 l
    exact ⟨m ++ m2, by rw [liftsT]; show (liftsT (liftT fs t).2 l).2 = _; rw [hm2, hm, List.append_assoc]⟩
end
mutual
/-- How many functions there are in an expression. -/
def lamsT : PE → Nat
  | .mk k _ _ _ l => (if k = 5 then 1 else 0) + lamssT l
def lamssT : List PE → Nat
  | [] => 0
  | t :: l => lamsT t + lamssT l
end
mutual
theorem liftT_count (fs : List FunT) : ∀ t : PE, (liftT fs t).2.length = fs.length + lamsT t
  | .mk k nm ns d l => by
    rw [liftT, lamsT]
    split
    · show (List.set _ _ _).length = _
      rw [List.length_set, liftsT_count, List.length_append]
      simp only [List.length_cons, List.length_nil]
      omega
    · show (liftsT fs l).2.length = _
      rw [liftsT_count]
      omega
theorem liftsT_count (fs : List FunT) : ∀ l : List PE, (liftsT fs l).2.length = fs.length + lamssT l
  | [] => by rw [liftsT, lamssT]; rfl
  | t :: l => by
    rw [liftsT, lamssT]
    show (liftsT _ l).2.length = _
    rw [liftsT_count, liftT_count]
    omega
end
mutual
/-- Is there an expression of this kind? -/
def hasT (k : Int) : PE → Bool
  | .mk k' _ _ _ l => decide (k' = k) || hassT k l
def hassT (k : Int) : List PE → Bool
  | [] => false
  | t :: l => hasT k t || hassT k l
end
mutual
/-- Is there one by which a variable may change? -/
def chgT : PE → Bool
  | .mk k _ _ _ l => decide (k = 9) || decide (k = 2) || chgsT l
def chgsT : List PE → Bool
  | [] => false
  | t :: l => chgT t || chgsT l
end
mutual
theorem chg_has : ∀ t : PE, chgT t = (hasT 9 t || hasT 2 t)
  | .mk k _ _ _ l => by
    rw [chgT, hasT, hasT, chgs_has l]
    cases decide (k = 9) <;> cases decide (k = 2) <;> cases hassT 9 l <;> cases hassT 2 l <;> rfl
theorem chgs_has : ∀ l : List PE, chgsT l = (hassT 9 l || hassT 2 l)
  | [] => rfl
  | t :: l => by
    rw [chgsT, hassT, hassT, chg_has t, chgs_has l]
    cases hasT 9 t <;> cases hasT 2 t <;> cases hassT 9 l <;> cases hassT 2 l <;> rfl
end
theorem chgsT_any : ∀ l : List PE, chgsT l = l.any chgT
  | [] => rfl
  | t :: l => by rw [chgsT, List.any_cons, chgsT_any l]
end Go.Proofs.Ytkjgdnfkpebejaa.Core

/-
Expressions that may be: how large one is, how large its free names are, that a function has one kid; and what is lifted out of them, kid by kid. No condition.
-/
namespace Go.Proofs.Ytkjgdnfkpebejaa.Core
open Go.ChangeShapes Go.WideShapes Go.ChangeAt Go.RowKit Go.Deep
open Dat (PT ok64)
set_option maxRecDepth 100000

mutual
/-- How large an expression is that may be. -/
theorem chkE_large (deep n : Nat) : ∀ t : PE, (chkE deep n t).2 = 0 → sizeE t + 1 + 9 * n ≤ 9 * (chkE deep n t).1
  | .mk k nm ns d l, h => by
    rw [chkE] at h ⊢
    split at h
    · cases h
    split at h
    · cases h
    split at h
    · rename_i h1 h2 h3
      rw [if_neg h1, if_neg h2, if_pos h3]
      have h4 := chkEs_large (deep + 1) (n + 1) l h
      rw [sizeE]
      rcases names_few h3 with h5 | h5 <;> omega
    · cases h
theorem chkEs_large (deep n : Nat) : ∀ l : List PE, (chkEs deep n l).2 = 0 → sizeEs l + l.length + 9 * n ≤ 9 * (chkEs deep n l).1
  | [], _ => by
    rw [chkEs, sizeEs]
    simp
  | t :: l, h => by
    rw [chkEs] at h ⊢
    rw [sizeEs]
    split at h
    · rename_i h1
      rw [if_pos h1]
      have h2 := chkE_large deep n t h1
      have h3 := chkEs_large deep _ l h
      simp only [List.length_cons]
      omega
    · rename_i h1
      exact absurd h h1
end
theorem large_of_check {t : PE} (h : checkE t = 0) : sizeE t ≤ 36864 := by
  have h1 := chkE_large 0 0 t h
  have h2 := (chkE_pos 0 0 (by omega) t h).2.1
  omega
theorem form_lam {nm : ByteArray} {ns : List ByteArray} {d : PT} {l : List PE} (h : formE (.mk 5 nm ns d l) = true) : ∃ t, l = [t] := by
  unfold formE at h
  rw [Bool.and_eq_true] at h
  have h1 := h.1
  unfold kidsB at h1
  simp at h1
  exact List.length_eq_one_iff.1 h1.2
theorem form_ref_size {k : Int} {nm : ByteArray} {ns : List ByteArray} {d : PT} {l : List PE} (h : formE (.mk k nm ns d l) = true) (hk : k = 1 ∨ k = 2) : nm.size ≤ maxLen := by
  unfold formE fieldsB at h
  simp only [Bool.and_eq_true] at h
  have h1 := h.2.1.1
  unfold nameOkB at h1
  rw [if_pos hk] at h1
  unfold nameB at h1
  simp only [Bool.and_eq_true, decide_eq_true_eq] at h1
  have h2 := h1.1.1.1.2
  rw [len_data] at h2
  unfold maxLen
  omega
mutual
/-- Free names are small. -/
theorem rfree_small (bd out : List ByteArray) : ∀ t : PE, okE t → ∀ s ∈ rfreeT bd out t, s ∈ out ∨ s.size ≤ maxLen
  | .mk k nm ns d l, ho, s, hs => by
    rw [okE] at ho
    rw [rfreeT] at hs
    rcases rfrees_small bd k ns l.length 0 l ho.2.2.2 _ s hs with h | h
    · split at h
      · rename_i hk
        rcases (putT_mem _ _ _).1 h with e | h
        · rw [e]
          exact .inr (form_ref_size ho.1 hk.1)
        · exact .inl h
      · exact .inl h
    · exact .inr h
theorem rfrees_small (bd : List ByteArray) (k : Int) (ns : List ByteArray) (n i : Nat) : ∀ l : List PE, okEs l → ∀ (out : List ByteArray), ∀ s ∈ rfreesT bd k ns n i out l, s ∈ out ∨ s.size ≤ maxLen
  | [], _, out, s, hs => by rw [rfreesT] at hs; exact .inl hs
  | t :: l, ho, out, s, hs => by
    rw [okEs] at ho
    rw [rfreesT] at hs
    rcases rfrees_small bd k ns n (i + 1) l ho.2 _ s hs with h | h
    · exact rfree_small _ out t ho.1 s h
    · exact .inr h
end
theorem free_small {t : PE} (h : okE t) : ∀ s ∈ freeT t, s.size ≤ maxLen := fun s hs => (rfree_small [] [] t h s hs).resolve_left (by simp)
theorem liftT_lam (fs : List FunT) (nm : ByteArray) (ns : List ByteArray) (d : PT) (t : PE) : liftT fs (.mk 5 nm ns d [t]) = (cloT fs.length (freeT (.mk 5 nm ns d [t])), (liftT (fs ++ [⟨ns, freeT (.mk 5 nm ns d [t]), PE0⟩]) t).2.set fs.length ⟨ns, freeT (.mk 5 nm ns d [t]), (liftT (fs ++ [⟨ns, freeT (.mk 5 nm ns d [t]), PE0⟩]) t).1⟩) := by
  rw [liftT, if_pos rfl, liftsT, liftsT]
  rfl
theorem liftT_else (fs : List FunT) {k : Int} (hk : k ≠ 5) (nm : ByteArray) (ns : List ByteArray) (d : PT) (l : List PE) : liftT fs (.mk k nm ns d l) = (.mk k nm ns d (liftsT fs l).1, (liftsT fs l).2) := by
  rw [liftT, if_neg hk]
theorem liftsT_take {fs : List FunT} {l : List PE} {j : Nat} (hj : j < l.length) : liftsT fs (l.take (j + 1)) = ((liftsT fs (l.take j)).1 ++ [(liftT (liftsT fs (l.take j)).2 l[j]).1], (liftT (liftsT fs (l.take j)).2 l[j]).2) := by
  rw [List.take_succ_eq_append_getElem hj, liftsT_snoc]
mutual
/-- How many functions there are: no more than expressions. -/
theorem lamsT_le : ∀ t : PE, lamsT t ≤ sizeE t
  | .mk k nm ns d l => by
    rw [lamsT, sizeE]
    have := lamssT_le l
    split <;> omega
theorem lamssT_le : ∀ l : List PE, lamssT l ≤ sizeEs l
  | [] => by rw [lamssT, sizeEs]; omega
  | t :: l => by
    rw [lamssT, sizeEs]
    have := lamsT_le t
    have := lamssT_le l
    omega
end
/-- The function that is being lifted keeps its place meanwhile. -/
theorem lift_keeps (fs : List FunT) (f : FunT) (t : PE) : (liftT (fs ++ [f]) t).2[fs.length]? = some f := by
  obtain ⟨m, hm⟩ := liftT_more (fs ++ [f]) t
  rw [hm, List.append_assoc, List.getElem?_append_right (Nat.le_refl _), Nat.sub_self]
  rfl
end Go.Proofs.Ytkjgdnfkpebejaa.Core
