/-
How many arguments a primitive has: package core's Arity, and the document's, of any text. No condition.
-/
import Derived.Test.YtkjgdnfkpebejaaWKI

namespace Go.Proofs.Ytkjgdnfkpebejaa.Core
open Go.ChangeShapes Go.WideShapes Go.ChangeAt Go.RowKit Go.Deep
open Dat (PT ok64)

/-- The primitives, and how many arguments each has. -/
def prims : List (List UInt8 × Int) := [([114, 101, 97, 100, 45, 117, 56], 0), ([101, 114, 114, 111, 114], 0), ([118, 111, 105, 100], 0), ([37, 119, 105, 110, 100, 101, 114, 115], 0), ([37, 117, 110, 115, 101, 116], 0), ([110, 117, 108, 108, 63], 1), ([112, 97, 105, 114, 63], 1), ([118, 101, 99, 116, 111, 114, 63], 1), ([115, 116, 114, 105, 110, 103, 63], 1), ([115, 121, 109, 98, 111, 108, 63], 1), ([99, 104, 97, 114, 63], 1), ([105, 110, 116, 101, 103, 101, 114, 63], 1), ([98, 111, 111, 108, 101, 97, 110, 63], 1), ([112, 114, 111, 99, 101, 100, 117, 114, 101, 63], 1), ([101, 111, 102, 45, 111, 98, 106, 101, 99, 116, 63], 1), ([99, 97, 114], 1), ([99, 100, 114], 1), ([118, 101, 99, 116, 111, 114, 45, 108, 101, 110, 103, 116, 104], 1), ([115, 116, 114, 105, 110, 103, 45, 108, 101, 110, 103, 116, 104], 1), ([99, 104, 97, 114, 45, 62, 105, 110, 116, 101, 103, 101, 114], 1), ([105, 110, 116, 101, 103, 101, 114, 45, 62, 99, 104, 97, 114], 1), ([119, 114, 105, 116, 101, 45, 117, 56], 1), ([37, 98, 111, 120], 1), ([37, 117, 110, 98, 111, 120], 1), ([37, 119, 105, 110, 100, 33], 1), ([37, 99, 97, 108, 108, 99, 99], 1), ([43], 2), ([45], 2), ([42], 2), ([113, 117, 111, 116, 105, 101, 110, 116], 2), ([114, 101, 109, 97, 105, 110, 100, 101, 114], 2), ([60], 2), ([61], 2), ([101, 113, 63], 2), ([99, 111, 110, 115], 2), ([115, 101, 116, 45, 99, 97, 114, 33], 2), ([115, 101, 116, 45, 99, 100, 114, 33], 2), ([109, 97, 107, 101, 45, 118, 101, 99, 116, 111, 114], 2), ([118, 101, 99, 116, 111, 114, 45, 114, 101, 102], 2), ([109, 97, 107, 101, 45, 115, 116, 114, 105, 110, 103], 2), ([115, 116, 114, 105, 110, 103, 45, 114, 101, 102], 2), ([37, 115, 101, 116, 45, 98, 111, 120, 33], 2), ([118, 101, 99, 116, 111, 114, 45, 115, 101, 116, 33], 3), ([115, 116, 114, 105, 110, 103, 45, 115, 101, 116, 33], 3)]
def arityT (l : List UInt8) : Int := ((prims.lookup l).getD (-1))
theorem arity_none {l : List UInt8} (h : ∀ p ∈ prims, p.1 ≠ l) : arityT l = -1 := by
  have : prims.lookup l = none := by
    rw [List.lookup_eq_none_iff]
    intro p hp
    have := h p hp
    simpa using fun e => this e.symm
  unfold arityT
  rw [this]
  rfl
theorem prim_none {s : ByteArray} (h : ∀ p ∈ prims, p.1 ≠ s.data.toList) {l : List UInt8} {n : Int} (hl : (l, n) ∈ prims) : (s.toList == l) = false := by
  rw [beq_eq_false_iff_ne, ByteArray.toList_eq]
  exact fun e => h _ hl e.symm
theorem arity_some : ∀ p ∈ prims, arityT p.1 = p.2 := by decide +kernel
set_option maxRecDepth 100000 in
set_option maxHeartbeats 16000000 in
theorem ca_all : ∀ p ∈ prims, ∀ w : World, Calls Try.prog 68 #[.string ⟨p.1.toArray⟩] w fun e w' => e = .returned (.int .i64 p.2) ∧ w = w' := by
  intro p hp w
  simp only [prims, List.mem_cons, List.not_mem_nil, or_false] at hp
  rcases hp with rfl | rfl | rfl | rfl | rfl | rfl | rfl | rfl | rfl | rfl | rfl | rfl | rfl | rfl | rfl | rfl | rfl | rfl | rfl | rfl | rfl | rfl | rfl | rfl | rfl | rfl | rfl | rfl | rfl | rfl | rfl | rfl | rfl | rfl | rfl | rfl | rfl | rfl | rfl | rfl | rfl | rfl | rfl | rfl
  all_goals
    dsimp only
    go_enter Try.func68, Try.ntmps68
    go_wp2
    go_ret
    exact ⟨rfl, rfl⟩
set_option maxRecDepth 100000 in
set_option maxHeartbeats 1000000 in
theorem ca_none (s : ByteArray) (w : World) (h : ∀ p ∈ prims, p.1 ≠ s.data.toList) : Calls Try.prog 68 #[.string s] w fun e w' => e = .returned (.int .i64 (-1)) ∧ w = w' := by
  have hh : ∀ p ∈ prims, (s.toList == p.1) = false := fun p hp => prim_none h hp
  simp only [prims, List.forall_mem_cons] at hh
  obtain ⟨h0, h1, h2, h3, h4, h5, h6, h7, h8, h9, h10, h11, h12, h13, h14, h15, h16, h17, h18, h19, h20, h21, h22, h23, h24, h25, h26, h27, h28, h29, h30, h31, h32, h33, h34, h35, h36, h37, h38, h39, h40, h41, h42, h43, -⟩ := hh
  clear h
  go_enter Try.func68, Try.ntmps68
  go_wp2
  go_ret
  exact ⟨rfl, rfl⟩
theorem ca_any (s : ByteArray) (w : World) : Calls Try.prog 68 #[.string s] w fun e w' => e = .returned (.int .i64 (arityT s.data.toList)) ∧ w = w' := by
  by_cases h0 : ∃ p ∈ prims, p.1 = s.data.toList
  · obtain ⟨p, hp, e⟩ := h0
    obtain rfl : s = ⟨p.1.toArray⟩ := Go.WideShapes.bytes_inj (by rw [← e])
    show Calls Try.prog 68 #[.string ⟨p.1.toArray⟩] w fun e w' => e = .returned (.int .i64 (arityT p.1)) ∧ w = w'
    rw [arity_some p hp]
    exact ca_all p hp w
  · have h : ∀ p ∈ prims, p.1 ≠ s.data.toList := fun p hp e => h0 ⟨p, hp, e⟩
    rw [arity_none h]
    exact ca_none s w h
set_option maxRecDepth 100000 in
set_option maxHeartbeats 16000000 in
theorem ra_all : ∀ p ∈ prims, ∀ w : World, Calls Try.prog 80 #[.string ⟨p.1.toArray⟩] w fun e w' => e = .returned (.int .i64 p.2) ∧ w = w' := by
  intro p hp w
  simp only [prims, List.mem_cons, List.not_mem_nil, or_false] at hp
  rcases hp with rfl | rfl | rfl | rfl | rfl | rfl | rfl | rfl | rfl | rfl | rfl | rfl | rfl | rfl | rfl | rfl | rfl | rfl | rfl | rfl | rfl | rfl | rfl | rfl | rfl | rfl | rfl | rfl | rfl | rfl | rfl | rfl | rfl | rfl | rfl | rfl | rfl | rfl | rfl | rfl | rfl | rfl | rfl | rfl
  all_goals
    dsimp only
    go_enter Try.func80, Try.ntmps80
    go_wp2
    go_ret
    exact ⟨rfl, rfl⟩
set_option maxRecDepth 100000 in
set_option maxHeartbeats 1000000 in
theorem ra_none (s : ByteArray) (w : World) (h : ∀ p ∈ prims, p.1 ≠ s.data.toList) : Calls Try.prog 80 #[.string s] w fun e w' => e = .returned (.int .i64 (-1)) ∧ w = w' := by
  have hh : ∀ p ∈ prims, (s.toList == p.1) = false := fun p hp => prim_none h hp
  simp only [prims, List.forall_mem_cons] at hh
  obtain ⟨h0, h1, h2, h3, h4, h5, h6, h7, h8, h9, h10, h11, h12, h13, h14, h15, h16, h17, h18, h19, h20, h21, h22, h23, h24, h25, h26, h27, h28, h29, h30, h31, h32, h33, h34, h35, h36, h37, h38, h39, h40, h41, h42, h43, -⟩ := hh
  clear h
  go_enter Try.func80, Try.ntmps80
  go_wp2
  go_ret
  exact ⟨rfl, rfl⟩
theorem ra_any (s : ByteArray) (w : World) : Calls Try.prog 80 #[.string s] w fun e w' => e = .returned (.int .i64 (arityT s.data.toList)) ∧ w = w' := by
  by_cases h0 : ∃ p ∈ prims, p.1 = s.data.toList
  · obtain ⟨p, hp, e⟩ := h0
    obtain rfl : s = ⟨p.1.toArray⟩ := Go.WideShapes.bytes_inj (by rw [← e])
    show Calls Try.prog 80 #[.string ⟨p.1.toArray⟩] w fun e w' => e = .returned (.int .i64 (arityT p.1)) ∧ w = w'
    rw [arity_some p hp]
    exact ra_all p hp w
  · have h : ∀ p ∈ prims, p.1 ≠ s.data.toList := fun p hp e => h0 ⟨p, hp, e⟩
    rw [arity_none h]
    exact ra_none s w h
end Go.Proofs.Ytkjgdnfkpebejaa.Core
