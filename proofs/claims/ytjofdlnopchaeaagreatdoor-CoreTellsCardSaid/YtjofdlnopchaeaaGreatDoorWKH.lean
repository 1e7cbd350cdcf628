/-
Texts K44, K45, one behind the other (a claim bears sixty files). Conditions: as each says.
-/
import Derived.Test.YtjofdlnopchaeaaGreatDoorK43
import Derived.Test.YtjofdlnopchaeaaGreatDoorWKF
import Derived.Test.YtjofdlnopchaeaaGreatDoorK37

/-
What renaming answers, as trees: its free names are what they were. No condition.
-/
namespace Go.Proofs.YtjofdlnopchaeaaGreatDoor.Core
open Go.ChangeShapes Go.WideShapes Go.ChangeAt Go.RowKit Go.Deep
open Dat (PT ok64)
set_option maxRecDepth 100000

mutual
/-- All names that stand in an expression are in U. -/
def StandE (U : List ByteArray) : PE → Prop
  | .mk k nm ns _ l => (k ≠ 7 → nm ∈ U) ∧ (∀ s ∈ ns, s ∈ U) ∧ StandEs U l
def StandEs (U : List ByteArray) : List PE → Prop
  | [] => True
  | t :: l => StandE U t ∧ StandEs U l
end
/-- How often each name is bound, here and there. -/
structure EnvIs (U : List ByteArray) (env : ByteArray → List Nat) (B B' : ByteArray → Int) : Prop where
  len : ∀ s, B s = (env s).length
  has : ∀ s, ∀ i ∈ env s, 1 ≤ B' (numS i)
  non : ∀ s ∈ U, B' s = 0
  pos : ∀ s, 0 ≤ B' s
theorem occ_occN : ∀ (l : List ByteArray) (s : ByteArray), occ l s = (occN l s : Int)
  | [], s => rfl
  | t :: l, s => by
    simp only [occ, occN, occ_occN l s]
    split <;> simp
theorem occ_mem {l : List ByteArray} {s : ByteArray} (h : s ∈ l) : 1 ≤ occ l s := by
  induction l with
  | nil => cases h
  | cons t l ih =>
    have := (occ_bound l s).1
    simp only [occ]
    rcases List.mem_cons.1 h with rfl | h
    · rw [if_pos rfl]; omega
    · have := ih h
      split <;> omega
theorem occ_not {l : List ByteArray} {s : ByteArray} (h : s ∉ l) : occ l s = 0 := by
  induction l with
  | nil => rfl
  | cons t l ih =>
    simp only [occ]
    rw [ih (fun h2 => h (List.mem_cons_of_mem _ h2)), if_neg (fun (e : t = s) => h (by rw [e]; exact List.mem_cons_self))]
    rfl
theorem EnvIs.push {U : List ByteArray} {env : ByteArray → List Nat} {B B' : ByteArray → Int} (h : EnvIs U env B B') {ns : List ByteArray} {nums : List Nat} (hl : nums.length = ns.length) (hu : ∀ i ∈ nums, numS i ∉ U) : EnvIs U (pushE env ns nums) (addB B ns 1) (addB B' (nums.map numS) 1) := by
  refine ⟨fun s => ?_, fun s i hi => ?_, fun s hs => ?_, fun s => ?_⟩
  · obtain ⟨x, e, hx⟩ := push_ext ns nums env hl s
    unfold addB
    rw [e, List.length_append, hx, h.len, occ_occN]
    omega
  · unfold addB
    have h0 := (occ_bound (nums.map numS) (numS i)).1
    rcases push_mem ns nums env s i hi with h1 | h1
    · have := h.has s i h1; omega
    · have := occ_mem (List.mem_map_of_mem (f := numS) h1)
      have := h.pos (numS i)
      omega
  · unfold addB
    rw [h.non s hs, occ_not]
    · rfl
    · intro h1
      obtain ⟨i, hi, e⟩ := List.mem_map.1 h1
      exact hu i hi (e ▸ hs)
  · unfold addB
    have := (occ_bound (nums.map numS) s).1
    have := h.pos s
    omega
mutual
/-- The free names' counts are what they were. -/
theorem RenR.seek {U : List ByteArray} : ∀ {t t' : PE} {env : ByteArray → List Nat} {nx nx' : Nat} (B B' F : ByteArray → Int), RenR U env nx t t' nx' → StandE U t → EnvIs U env B B' → seekE B' F t' = seekE B F t
  | .mk k nm ns d l, t', env, nx, nx', B, B', F, h, hst, hi => by
    rw [RenR] at h
    obtain ⟨nums, n1, l', h1, h2, h3, rfl⟩ := h
    rw [StandE] at hst
    have hr := h1.rise
    have hF : (if (k = 1 ∨ k = 2) ∧ B' (if k = 1 ∨ k = 2 then nowT env nm else nm) = 0 then incF F (if k = 1 ∨ k = 2 then nowT env nm else nm) else F) = if (k = 1 ∨ k = 2) ∧ B nm = 0 then incF F nm else F := by
      by_cases e : k = 1 ∨ k = 2
      · rw [if_pos e]
        by_cases h0 : env nm = []
        · have hn : nowT env nm = nm := by simp [nowT, h0]
          have hb : B nm = 0 := by rw [hi.len, h0]; rfl
          rw [hn, if_pos ⟨e, hi.non nm (hst.1 (by omega))⟩, if_pos ⟨e, hb⟩]
        · obtain ⟨l2, i, hl2⟩ : ∃ l i, env nm = l ++ [i] := ⟨(env nm).dropLast, (env nm).getLast h0, (List.dropLast_concat_getLast h0).symm⟩
          have hn : nowT env nm = numS i := by simp [nowT, hl2]
          have h5 := hi.has nm i (by rw [hl2]; simp)
          have hb : B nm ≠ 0 := by rw [hi.len, hl2]; simp; omega
          rw [hn, if_neg (fun h => by omega), if_neg (fun h => hb h.2)]
      · rw [if_neg (fun h => e h.1), if_neg (fun h => e h.1)]
    rw [seekE, seekE, hF, ren_len h3]
    refine RenRs.seek B (addB B ns 1) B' (addB B' (nums.map numS) 1) _ _ 0 _ h3 hst.2.2 hi (hi.push h2 (fun i hi => (hr.2 i hi).2.2)) (fun j => ?_) (fun j => ?_)
    · simp only [Nat.zero_add]
    · simp only [Nat.zero_add]
theorem RenRs.seek {U : List ByteArray} : ∀ {l l' : List PE} {e1 e2 : ByteArray → List Nat} {fr nx nx' : Nat} (B1 B2 B1' B2' : ByteArray → Int) (Bs Bs' : Nat → ByteArray → Int) (i : Nat) (F : ByteArray → Int), RenRs U e1 e2 fr nx l l' nx' → StandEs U l → EnvIs U e1 B1 B1' → EnvIs U e2 B2 B2' → (∀ j, Bs (i + j) = if fr ≤ j then B2 else B1) → (∀ j, Bs' (i + j) = if fr ≤ j then B2' else B1') → seekEs Bs' i F l' = seekEs Bs i F l
  | [], l', e1, e2, fr, nx, nx', B1, B2, B1', B2', Bs, Bs', i, F, h, hst, h1, h2, hB, hB' => by
    rw [RenRs] at h
    rw [h.1, seekEs, seekEs]
  | t :: l, l', e1, e2, fr, nx, nx', B1, B2, B1', B2', Bs, Bs', i, F, h, hst, h1, h2, hB, hB' => by
    rw [RenRs] at h
    obtain ⟨t', n1, l1, g1, g2, rfl⟩ := h
    rw [StandEs] at hst
    have b0 := hB 0
    have b0' := hB' 0
    rw [Nat.add_zero] at b0 b0'
    have hstep : ∀ (X : Nat → ByteArray → Int) (Y1 Y2 : ByteArray → Int), (∀ j, X (i + j) = if fr ≤ j then Y2 else Y1) → ∀ j, X (i + 1 + j) = if fr - 1 ≤ j then Y2 else Y1 := fun X Y1 Y2 hX j => by
      rw [show i + 1 + j = i + (j + 1) by omega, hX]
      by_cases e : fr ≤ j + 1
      · rw [if_pos e, if_pos (by omega)]
      · rw [if_neg e, if_neg (by omega)]
    rw [seekEs, seekEs, b0, b0']
    have hhead : seekE (if fr ≤ 0 then B2' else B1') F t' = seekE (if fr ≤ 0 then B2 else B1) F t := by
      by_cases e : fr = 0
      · rw [if_pos e] at g1
        rw [if_pos (by omega), if_pos (by omega)]
        exact RenR.seek B2 B2' F g1 hst.1 h2
      · rw [if_neg e] at g1
        rw [if_neg (by omega), if_neg (by omega)]
        exact RenR.seek B1 B1' F g1 hst.1 h1
    rw [hhead]
    exact RenRs.seek B1 B2 B1' B2' Bs Bs' (i + 1) _ g2 hst.2 h1 h2 (hstep Bs B1 B2 hB) (hstep Bs' B1' B2' hB')
end
/-- From nothing bound on: the free names are what they were. -/
theorem RenR.free {U : List ByteArray} {t t' : PE} {nx nx' : Nat} (h : RenR U (fun _ => []) nx t t' nx') (hst : StandE U t) : freeF t' = freeF t :=
  RenR.seek (fun _ => 0) (fun _ => 0) (fun _ => 0) h hst ⟨fun _ => rfl, fun _ _ h => (List.not_mem_nil h).elim, fun _ _ => rfl, fun _ => Int.le_refl _⟩
end Go.Proofs.YtjofdlnopchaeaaGreatDoor.Core

/-
The names that stand in an expression: what gather counts; the free names are among them. No condition.
-/
namespace Go.Proofs.YtjofdlnopchaeaaGreatDoor.Core
open Go.ChangeShapes Go.WideShapes Go.ChangeAt Go.RowKit Go.Deep
open Dat (PT ok64)
set_option maxRecDepth 100000

mutual
/-- All names that stand in an expression, one by one. -/
def standL : PE → List ByteArray
  | .mk k nm ns _ l => (if k = 7 then [] else [nm]) ++ ns ++ standLs l
def standLs : List PE → List ByteArray
  | [] => []
  | t :: l => standL t ++ standLs l
end
theorem inc_get (m : ByteArray → Option Int) (t s : ByteArray) : (incM m t s).getD 0 = (m s).getD 0 + if t = s then 1 else 0 := by
  unfold incM setM
  by_cases e : s = t
  · subst e; simp
  · rw [if_neg e, if_neg (fun h => e h.symm)]; simp
theorem gatN_get : ∀ (l : List ByteArray) (m : ByteArray → Option Int) (s : ByteArray), (gatN m l s).getD 0 = (m s).getD 0 + occ l s
  | [], m, s => by simp [gatN, occ]
  | t :: l, m, s => by
    rw [gatN, gatN_get l, inc_get, occ]
    omega
theorem occ_app : ∀ (l m : List ByteArray) (s : ByteArray), occ (l ++ m) s = occ l s + occ m s
  | [], m, s => by simp [occ]
  | t :: l, m, s => by simp only [List.cons_append, occ, occ_app l m s]; omega
mutual
/-- What gather counts. -/
theorem gatE_get : ∀ (t : PE) (m : ByteArray → Option Int) (s : ByteArray), (gatE m t s).getD 0 = (m s).getD 0 + occ (standL t) s
  | .mk k nm ns d l, m, s => by
    rw [gatE, gatEs_get l, gatN_get, standL, occ_app, occ_app]
    by_cases e : k = 7
    · rw [if_pos e, if_pos e]
      simp only [occ]; omega
    · rw [if_neg e, if_neg e, inc_get]
      simp only [occ]; omega
theorem gatEs_get : ∀ (l : List PE) (m : ByteArray → Option Int) (s : ByteArray), (gatEs m l s).getD 0 = (m s).getD 0 + occ (standLs l) s
  | [], m, s => by simp [gatEs, standLs, occ]
  | t :: l, m, s => by
    rw [gatEs, gatEs_get l, gatE_get t, standLs, occ_app]
    omega
end
theorem occ_iff (l : List ByteArray) (s : ByteArray) : occ l s ≠ 0 ↔ s ∈ l :=
  ⟨fun h => Classical.byContradiction fun h2 => h (occ_not h2), fun h => by have := occ_mem h; omega⟩
/-- Which names gather finds. -/
theorem gat_use (t : PE) (s : ByteArray) : (gatE (fun _ => none) t s).getD 0 ≠ 0 ↔ s ∈ standL t := by
  rw [gatE_get, ← occ_iff]
  simp
mutual
theorem stand_of (U : List ByteArray) : ∀ t : PE, (∀ s ∈ standL t, s ∈ U) → StandE U t
  | .mk k nm ns d l, h => by
    rw [StandE]
    rw [standL] at h
    refine ⟨fun e => h nm ?_, fun s hs => h s ?_, stands_of U l fun s hs => h s ?_⟩
    · rw [if_neg e]; simp
    · simp [hs]
    · simp [hs]
theorem stands_of (U : List ByteArray) : ∀ l : List PE, (∀ s ∈ standLs l, s ∈ U) → StandEs U l
  | [], _ => by rw [StandEs]; trivial
  | t :: l, h => by
    rw [StandEs]
    rw [standLs] at h
    exact ⟨stand_of U t fun s hs => h s (by simp [hs]), stands_of U l fun s hs => h s (by simp [hs])⟩
end
theorem StandE.self (t : PE) : StandE (standL t) t := stand_of _ t fun _ h => h
mutual
/-- A free name stands there. -/
theorem seek_in : ∀ (t : PE) (B F : ByteArray → Int) (s : ByteArray), seekE B F t s ≠ F s → s ∈ standL t
  | .mk k nm ns d l, B, F, s, h => by
    rw [seekE] at h
    rw [standL]
    by_cases h2 : seekEs (fun i => if fromT k l.length ≤ i then addB B ns 1 else B) 0 (if (k = 1 ∨ k = 2) ∧ B nm = 0 then incF F nm else F) l s = (if (k = 1 ∨ k = 2) ∧ B nm = 0 then incF F nm else F) s
    · rw [h2] at h
      by_cases e : (k = 1 ∨ k = 2) ∧ B nm = 0
      · rw [if_pos e] at h
        unfold incF at h
        have hs : s = nm := Classical.byContradiction fun h3 => h (by rw [if_neg h3])
        rw [if_neg (by omega)]
        simp [hs]
      · rw [if_neg e] at h; exact absurd rfl h
    · have := seeks_in l _ 0 _ s h2
      simp [this]
theorem seeks_in : ∀ (l : List PE) (Bs : Nat → ByteArray → Int) (i : Nat) (F : ByteArray → Int) (s : ByteArray), seekEs Bs i F l s ≠ F s → s ∈ standLs l
  | [], Bs, i, F, s, h => by rw [seekEs] at h; exact absurd rfl h
  | t :: l, Bs, i, F, s, h => by
    rw [seekEs] at h
    rw [standLs]
    by_cases h2 : seekEs Bs (i + 1) (seekE (Bs i) F t) l s = seekE (Bs i) F t s
    · rw [h2] at h
      have := seek_in t (Bs i) F s h
      simp [this]
    · have := seeks_in l Bs (i + 1) _ s h2
      simp [this]
end
theorem free_stands {t : PE} {s : ByteArray} (h : freeF t s ≠ 0) : s ∈ standL t := seek_in t _ _ s h
/-- With new names no name is bound twice, and none that is free; the free names are as they were, and so is all that is no name; and what comes of it may be. -/
theorem renamed_right {t t' : PE} {nx' : Nat} (h : RenR (standL t) (fun _ => []) 0 t t' nx') (hok : checkE t = 0) (hn : nx' ≤ 1000000000) :
    (boundE t').Nodup ∧ (∀ s ∈ boundE t', freeF t s = 0) ∧ freeF t' = freeF t ∧ ShapeE t t' ∧ checkE t' = 0 := by
  refine ⟨h.once.1, fun s hs => Classical.byContradiction fun h2 => h.once.2 s hs (free_stands h2), h.free (StandE.self t), h.shape, ?_⟩
  have h1 := h.check 0 0 (okE_of_check hok) hn (fun s i hi => (List.not_mem_nil hi).elim)
  unfold checkE at hok ⊢
  rw [h1]; exact hok
end Go.Proofs.YtjofdlnopchaeaaGreatDoor.Core
