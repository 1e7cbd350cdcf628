/-
The names that a function is to hold, as the law of what closures hold lays them one by one; the number that it reckons. No condition but that numbers are small.
-/
import Derived.Test.YtkjgdnfkpebejaaN20

namespace Go.Proofs.Ytkjgdnfkpebejaa.Core
open Go.ChangeShapes Go.WideShapes Go.ChangeAt Go.RowKit Go.Deep
open Dat (PT ok64 RowX)
set_option maxRecDepth 100000

/-- Does one from the i-th on, ahead of the k-th, use p's parameter? -/
def hitB (of : Nat → Nat) (i k p : Nat) : Bool := (List.range k).any fun j => decide (i ≤ j) && (of j == p)
/-- What is laid when all parameters ahead of p were looked at. -/
def wantP (of : Nat → Nat) (n i p : Nat) : List ByteArray := ((List.range p).filter (hitB of i n)).map nmP
/-- And of p with the functions ahead of the k-th. -/
def wantK (of : Nat → Nat) (n i p k : Nat) : List ByteArray := wantP of n i p ++ if hitB of i k p then [nmP p] else []
theorem wantT_P (of : Nat → Nat) (n i : Nat) : wantT of n i = wantP of n i i := rfl
theorem hit_start (of : Nat → Nat) (i p : Nat) : hitB of i i p = false := by
  rw [hitB, List.any_eq_false]
  intro j hj
  have := List.mem_range.1 hj
  rw [show decide (i ≤ j) = false from decide_eq_false (by omega)]
  simp
theorem hit_next (of : Nat → Nat) {i k : Nat} (p : Nat) (h : i ≤ k) : hitB of i (k + 1) p = (hitB of i k p || (of k == p)) := by
  rw [hitB, List.range_succ, List.any_append]
  simp [h, hitB]
theorem wantK_start (of : Nat → Nat) (n i p : Nat) : wantK of n i p i = wantP of n i p := by
  rw [wantK, hit_start]
  simp
theorem wantK_end (of : Nat → Nat) (n i p : Nat) : wantK of n i p n = wantP of n i (p + 1) := by
  rw [wantK, wantP, wantP, List.range_succ, List.filter_append, List.map_append]
  cases h : hitB of i n p <;> simp [h]
theorem wantP_not {of : Nat → Nat} {n i p : Nat} (hp : p ≤ 8) : nmP p ∉ wantP of n i p := by
  intro h
  obtain ⟨q, hq, e⟩ := List.mem_map.1 h
  have h1 := List.mem_range.1 (List.mem_filter.1 hq).1
  have := nmP_inj (by omega) hp e
  omega
theorem wantK_mem {of : Nat → Nat} {n i p k : Nat} (hp : p ≤ 8) : nmP p ∈ wantK of n i p k ↔ hitB of i k p = true := by
  rw [wantK, List.mem_append]
  constructor
  · rintro (h | h)
    · exact absurd h (wantP_not hp)
    · cases g : hitB of i k p
      · rw [g] at h
        cases h
      · rfl
  · intro h
    rw [h]
    simp
theorem wantK_put {of : Nat → Nat} {n i p k : Nat} (hp : p ≤ 8) (hik : i ≤ k) (h : of k = p) (hn : nmP p ∉ wantK of n i p k) : wantK of n i p (k + 1) = wantK of n i p k ++ [nmP p] := by
  have g : hitB of i k p = false := by
    cases g : hitB of i k p
    · rfl
    · exact absurd ((wantK_mem hp).2 g) hn
  rw [wantK, hit_next of p hik, g, wantK, g]
  simp [h]
theorem wantK_keep {of : Nat → Nat} {n i p k : Nat} (hp : p ≤ 8) (hik : i ≤ k) (h : of k ≠ p ∨ nmP p ∈ wantK of n i p k) : wantK of n i p (k + 1) = wantK of n i p k := by
  rw [wantK, hit_next of p hik, wantK]
  rcases h with h | h
  · simp [h]
  · rw [(wantK_mem hp).1 h]
    simp
theorem wantP_len (of : Nat → Nat) (n i p : Nat) : (wantP of n i p).length ≤ p := by
  rw [wantP, List.length_map]
  have := List.length_filter_le (hitB of i n) (List.range p)
  rw [List.length_range] at this
  exact this
theorem wantK_len (of : Nat → Nat) (n i p k : Nat) : (wantK of n i p k).length ≤ p + 1 := by
  rw [wantK, List.length_append]
  have := wantP_len of n i p
  split <;> simp <;> omega
theorem wantP_in {of : Nat → Nat} {n i p : Nat} {s : ByteArray} (h : s ∈ wantP of n i p) : s.size = 2 := by
  obtain ⟨q, hq, rfl⟩ := List.mem_map.1 h
  rfl
theorem wantK_size {of : Nat → Nat} {n i p k : Nat} {s : ByteArray} (h : s ∈ wantK of n i p k) : s.size = 2 := by
  rw [wantK, List.mem_append] at h
  rcases h with h | h
  · exact wantP_in h
  · split at h
    · rw [List.mem_singleton.1 h]
      rfl
    · cases h
/-- Which parameter the k-th uses besides its own. -/
def useN (f : Nat → Int) (k : Nat) : Nat := (((f k).tmod (k + 1) + k + 1).tmod (k + 1)).toNat
theorem use_eq {x : Int} {k : Nat} : 0 ≤ (x.tmod (k + 1) + k + 1).tmod (k + 1) ∧ (x.tmod (k + 1) + k + 1).tmod (k + 1) ≤ k ∧ -(k : Int) ≤ x.tmod (k + 1) ∧ x.tmod (k + 1) ≤ k := by
  have hk : (0 : Int) < (k : Int) + 1 := by omega
  have h1 := Int.tmod_lt_of_pos x hk
  have h2 : -(k : Int) ≤ x.tmod (k + 1) := by
    rcases Int.le_total 0 x with h | h
    · have := Int.tmod_nonneg ((k : Int) + 1) h
      omega
    · have h3 := Int.neg_tmod (a := x) (b := (k : Int) + 1)
      have h4 := Int.tmod_lt_of_pos (-x) hk
      omega
  have h3 : 0 ≤ x.tmod (k + 1) + k + 1 := by omega
  refine ⟨Int.tmod_nonneg _ h3, ?_, h2, by omega⟩
  have := Int.tmod_lt_of_pos (x.tmod (k + 1) + k + 1) hk
  omega
theorem use_le (f : Nat → Int) (k : Nat) : useN f k ≤ k := by
  have := @use_eq (f k) k
  unfold useN
  omega
theorem use_val (f : Nat → Int) (k : Nat) : ((f k).tmod (k + 1) + k + 1).tmod (k + 1) = (useN f k : Int) := by
  have := @use_eq (f k) k
  unfold useN
  omega
theorem use_mod (f : Nat → Int) (k : Nat) : ((f k).tmod (k + 1) + k + 1) % ((k : Int) + 1) = (useN f k : Int) := by
  have h := @use_eq (f k) k
  rw [← use_val, Int.tmod_eq_emod_of_nonneg (a := (f k).tmod (k + 1) + k + 1) (by omega)]
end Go.Proofs.Ytkjgdnfkpebejaa.Core
