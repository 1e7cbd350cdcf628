/-
How many arguments a primitive has: package core's Arity, and the document's, of any text. No condition.
-/
import Derived.Test.YtgajendgephkaaaGreatDoorWKI
namespace Go.Proofs.YtgajendgephkaaaGreatDoor.Core
open Go.ChangeShapes Go.WideShapes Go.ChangeAt Go.RowKit Go.Deep
open Dat (PT ok64)

/-- The primitives, and how many arguments each has. -/
def prims : List (List UInt8 × Int) := [([114, 101, 97, 100, 45, 117, 56], 0), ([101, 114, 114, 111, 114], 0), ([118, 111, 105, 100], 0), ([37, 119, 105, 110, 100, 101, 114, 115], 0), ([37, 117, 110, 115, 101, 116], 0), ([110, 117, 108, 108, 63], 1), ([112, 97, 105, 114, 63], 1), ([118, 101, 99, 116, 111, 114, 63], 1), ([115, 116, 114, 105, 110, 103, 63], 1), ([115, 121, 109, 98, 111, 108, 63], 1), ([99, 104, 97, 114, 63], 1), ([105, 110, 116, 101, 103, 101, 114, 63], 1), ([98, 111, 111, 108, 101, 97, 110, 63], 1), ([112, 114, 111, 99, 101, 100, 117, 114, 101, 63], 1), ([101, 111, 102, 45, 111, 98, 106, 101, 99, 116, 63], 1), ([99, 97, 114], 1), ([99, 100, 114], 1), ([118, 101, 99, 116, 111, 114, 45, 108, 101, 110, 103, 116, 104], 1), ([115, 116, 114, 105, 110, 103, 45, 108, 101, 110, 103, 116, 104], 1), ([99, 104, 97, 114, 45, 62, 105, 110, 116, 101, 103, 101, 114], 1), ([105, 110, 116, 101, 103, 101, 114, 45, 62, 99, 104, 97, 114], 1), ([119, 114, 105, 116, 101, 45, 117, 56], 1), ([37, 98, 111, 120], 1), ([37, 117, 110, 98, 111, 120], 1), ([37, 119, 105, 110, 100, 33], 1), ([37, 99, 97, 108, 108, 99, 99], 1), ([43], 2), ([45], 2), ([42], 2), ([113, 117, 111, 116, 105, 101, 110, 116], 2), ([114, 101, 109, 97, 105, 110, 100, 101, 114], 2), ([60], 2), ([61], 2), ([101, 113, 63], 2), ([99, 111, 110, 115], 2), ([115, 101, 116, 45, 99, 97, 114, 33], 2), ([115, 101, 116, 45, 99, 100, 114, 33], 2), ([109, 97, 107, 101, 45, 118, 101, 99, 116, 111, 114], 2), ([118, 101, 99, 116, 111, 114, 45, 114, 101, 102], 2), ([109, 97, 107, 101, 45, 115, 116, 114, 105, 110, 103], 2), ([115, 116, 114, 105, 110, 103, 45, 114, 101, 102], 2), ([37, 115, 101, 116, 45, 98, 111, 120, 33], 2), ([118, 101, 99, 116, 111, 114, 45, 115, 101, 116, 33], 3), ([115, 116, 114, 105, 110, 103, 45, 115, 101, 116, 33], 3)]
def arityT (l : List UInt8) : Int := ((prims.lookup l).getD (-1))
theorem arity_none {l : List UInt8} (h : ∀ p ∈ prims, p.1 ≠ l) : arityT l = -1 := by
  have : prims.lookup l = none := by
    rw [List.lookup_eq_none_iff]
    intro p hp
    have := h p hp
    simpa using fun e => this e.symm
  unfold arityT
  rw [this]
  rfl
theorem prim_none {s : ByteArray} (h : ∀ p ∈ prims, p.1 ≠ s.data.toList) {l : List UInt8} {n : Int} (hl : (l, n) ∈ prims) : (s.toList == l) = false := by
  rw [beq_eq_false_iff_ne, ByteArray.toList_eq]
  exact fun e => h _ hl e.symm
set_option maxRecDepth 100000 in
theorem ca_0 (w : World) : Calls Tryz.prog 25 #[.string ⟨#[114, 101, 97, 100, 45, 117, 56]⟩] w fun e w' => e = .returned (.int .i64 0) ∧ w = w' := by
  go_enter Tryz.func25, Tryz.ntmps25
  go_wp2
  go_ret
  exact ⟨rfl, rfl⟩
set_option maxRecDepth 100000 in
theorem ca_1 (w : World) : Calls Tryz.prog 25 #[.string ⟨#[101, 114, 114, 111, 114]⟩] w fun e w' => e = .returned (.int .i64 0) ∧ w = w' := by
  go_enter Tryz.func25, Tryz.ntmps25
  go_wp2
  go_ret
  exact ⟨rfl, rfl⟩
set_option maxRecDepth 100000 in
theorem ca_2 (w : World) : Calls Tryz.prog 25 #[.string ⟨#[118, 111, 105, 100]⟩] w fun e w' => e = .returned (.int .i64 0) ∧ w = w' := by
  go_enter Tryz.func25, Tryz.ntmps25
  go_wp2
  go_ret
  exact ⟨rfl, rfl⟩
set_option maxRecDepth 100000 in
theorem ca_3 (w : World) : Calls Tryz.prog 25 #[.string ⟨#[37, 119, 105, 110, 100, 101, 114, 115]⟩] w fun e w' => e = .returned (.int .i64 0) ∧ w = w' := by
  go_enter Tryz.func25, Tryz.ntmps25
  go_wp2
  go_ret
  exact ⟨rfl, rfl⟩
set_option maxRecDepth 100000 in
theorem ca_4 (w : World) : Calls Tryz.prog 25 #[.string ⟨#[37, 117, 110, 115, 101, 116]⟩] w fun e w' => e = .returned (.int .i64 0) ∧ w = w' := by
  go_enter Tryz.func25, Tryz.ntmps25
  go_wp2
  go_ret
  exact ⟨rfl, rfl⟩
set_option maxRecDepth 100000 in
theorem ca_5 (w : World) : Calls Tryz.prog 25 #[.string ⟨#[110, 117, 108, 108, 63]⟩] w fun e w' => e = .returned (.int .i64 1) ∧ w = w' := by
  go_enter Tryz.func25, Tryz.ntmps25
  go_wp2
  go_ret
  exact ⟨rfl, rfl⟩
set_option maxRecDepth 100000 in
theorem ca_6 (w : World) : Calls Tryz.prog 25 #[.string ⟨#[112, 97, 105, 114, 63]⟩] w fun e w' => e = .returned (.int .i64 1) ∧ w = w' := by
  go_enter Tryz.func25, Tryz.ntmps25
  go_wp2
  go_ret
  exact ⟨rfl, rfl⟩
set_option maxRecDepth 100000 in
theorem ca_7 (w : World) : Calls Tryz.prog 25 #[.string ⟨#[118, 101, 99, 116, 111, 114, 63]⟩] w fun e w' => e = .returned (.int .i64 1) ∧ w = w' := by
  go_enter Tryz.func25, Tryz.ntmps25
  go_wp2
  go_ret
  exact ⟨rfl, rfl⟩
set_option maxRecDepth 100000 in
theorem ca_8 (w : World) : Calls Tryz.prog 25 #[.string ⟨#[115, 116, 114, 105, 110, 103, 63]⟩] w fun e w' => e = .returned (.int .i64 1) ∧ w = w' := by
  go_enter Tryz.func25, Tryz.ntmps25
  go_wp2
  go_ret
  exact ⟨rfl, rfl⟩
set_option maxRecDepth 100000 in
theorem ca_9 (w : World) : Calls Tryz.prog 25 #[.string ⟨#[115, 121, 109, 98, 111, 108, 63]⟩] w fun e w' => e = .returned (.int .i64 1) ∧ w = w' := by
  go_enter Tryz.func25, Tryz.ntmps25
  go_wp2
  go_ret
  exact ⟨rfl, rfl⟩
set_option maxRecDepth 100000 in
theorem ca_10 (w : World) : Calls Tryz.prog 25 #[.string ⟨#[99, 104, 97, 114, 63]⟩] w fun e w' => e = .returned (.int .i64 1) ∧ w = w' := by
  go_enter Tryz.func25, Tryz.ntmps25
  go_wp2
  go_ret
  exact ⟨rfl, rfl⟩
set_option maxRecDepth 100000 in
theorem ca_11 (w : World) : Calls Tryz.prog 25 #[.string ⟨#[105, 110, 116, 101, 103, 101, 114, 63]⟩] w fun e w' => e = .returned (.int .i64 1) ∧ w = w' := by
  go_enter Tryz.func25, Tryz.ntmps25
  go_wp2
  go_ret
  exact ⟨rfl, rfl⟩
set_option maxRecDepth 100000 in
theorem ca_12 (w : World) : Calls Tryz.prog 25 #[.string ⟨#[98, 111, 111, 108, 101, 97, 110, 63]⟩] w fun e w' => e = .returned (.int .i64 1) ∧ w = w' := by
  go_enter Tryz.func25, Tryz.ntmps25
  go_wp2
  go_ret
  exact ⟨rfl, rfl⟩
set_option maxRecDepth 100000 in
theorem ca_13 (w : World) : Calls Tryz.prog 25 #[.string ⟨#[112, 114, 111, 99, 101, 100, 117, 114, 101, 63]⟩] w fun e w' => e = .returned (.int .i64 1) ∧ w = w' := by
  go_enter Tryz.func25, Tryz.ntmps25
  go_wp2
  go_ret
  exact ⟨rfl, rfl⟩
set_option maxRecDepth 100000 in
theorem ca_14 (w : World) : Calls Tryz.prog 25 #[.string ⟨#[101, 111, 102, 45, 111, 98, 106, 101, 99, 116, 63]⟩] w fun e w' => e = .returned (.int .i64 1) ∧ w = w' := by
  go_enter Tryz.func25, Tryz.ntmps25
  go_wp2
  go_ret
  exact ⟨rfl, rfl⟩
set_option maxRecDepth 100000 in
theorem ca_15 (w : World) : Calls Tryz.prog 25 #[.string ⟨#[99, 97, 114]⟩] w fun e w' => e = .returned (.int .i64 1) ∧ w = w' := by
  go_enter Tryz.func25, Tryz.ntmps25
  go_wp2
  go_ret
  exact ⟨rfl, rfl⟩
set_option maxRecDepth 100000 in
theorem ca_16 (w : World) : Calls Tryz.prog 25 #[.string ⟨#[99, 100, 114]⟩] w fun e w' => e = .returned (.int .i64 1) ∧ w = w' := by
  go_enter Tryz.func25, Tryz.ntmps25
  go_wp2
  go_ret
  exact ⟨rfl, rfl⟩
set_option maxRecDepth 100000 in
theorem ca_17 (w : World) : Calls Tryz.prog 25 #[.string ⟨#[118, 101, 99, 116, 111, 114, 45, 108, 101, 110, 103, 116, 104]⟩] w fun e w' => e = .returned (.int .i64 1) ∧ w = w' := by
  go_enter Tryz.func25, Tryz.ntmps25
  go_wp2
  go_ret
  exact ⟨rfl, rfl⟩
set_option maxRecDepth 100000 in
theorem ca_18 (w : World) : Calls Tryz.prog 25 #[.string ⟨#[115, 116, 114, 105, 110, 103, 45, 108, 101, 110, 103, 116, 104]⟩] w fun e w' => e = .returned (.int .i64 1) ∧ w = w' := by
  go_enter Tryz.func25, Tryz.ntmps25
  go_wp2
  go_ret
  exact ⟨rfl, rfl⟩
set_option maxRecDepth 100000 in
theorem ca_19 (w : World) : Calls Tryz.prog 25 #[.string ⟨#[99, 104, 97, 114, 45, 62, 105, 110, 116, 101, 103, 101, 114]⟩] w fun e w' => e = .returned (.int .i64 1) ∧ w = w' := by
  go_enter Tryz.func25, Tryz.ntmps25
  go_wp2
  go_ret
  exact ⟨rfl, rfl⟩
set_option maxRecDepth 100000 in
theorem ca_20 (w : World) : Calls Tryz.prog 25 #[.string ⟨#[105, 110, 116, 101, 103, 101, 114, 45, 62, 99, 104, 97, 114]⟩] w fun e w' => e = .returned (.int .i64 1) ∧ w = w' := by
  go_enter Tryz.func25, Tryz.ntmps25
  go_wp2
  go_ret
  exact ⟨rfl, rfl⟩
set_option maxRecDepth 100000 in
theorem ca_21 (w : World) : Calls Tryz.prog 25 #[.string ⟨#[119, 114, 105, 116, 101, 45, 117, 56]⟩] w fun e w' => e = .returned (.int .i64 1) ∧ w = w' := by
  go_enter Tryz.func25, Tryz.ntmps25
  go_wp2
  go_ret
  exact ⟨rfl, rfl⟩
set_option maxRecDepth 100000 in
theorem ca_22 (w : World) : Calls Tryz.prog 25 #[.string ⟨#[37, 98, 111, 120]⟩] w fun e w' => e = .returned (.int .i64 1) ∧ w = w' := by
  go_enter Tryz.func25, Tryz.ntmps25
  go_wp2
  go_ret
  exact ⟨rfl, rfl⟩
set_option maxRecDepth 100000 in
theorem ca_23 (w : World) : Calls Tryz.prog 25 #[.string ⟨#[37, 117, 110, 98, 111, 120]⟩] w fun e w' => e = .returned (.int .i64 1) ∧ w = w' := by
  go_enter Tryz.func25, Tryz.ntmps25
  go_wp2
  go_ret
  exact ⟨rfl, rfl⟩
set_option maxRecDepth 100000 in
theorem ca_24 (w : World) : Calls Tryz.prog 25 #[.string ⟨#[37, 119, 105, 110, 100, 33]⟩] w fun e w' => e = .returned (.int .i64 1) ∧ w = w' := by
  go_enter Tryz.func25, Tryz.ntmps25
  go_wp2
  go_ret
  exact ⟨rfl, rfl⟩
set_option maxRecDepth 100000 in
theorem ca_25 (w : World) : Calls Tryz.prog 25 #[.string ⟨#[37, 99, 97, 108, 108, 99, 99]⟩] w fun e w' => e = .returned (.int .i64 1) ∧ w = w' := by
  go_enter Tryz.func25, Tryz.ntmps25
  go_wp2
  go_ret
  exact ⟨rfl, rfl⟩
set_option maxRecDepth 100000 in
theorem ca_26 (w : World) : Calls Tryz.prog 25 #[.string ⟨#[43]⟩] w fun e w' => e = .returned (.int .i64 2) ∧ w = w' := by
  go_enter Tryz.func25, Tryz.ntmps25
  go_wp2
  go_ret
  exact ⟨rfl, rfl⟩
set_option maxRecDepth 100000 in
theorem ca_27 (w : World) : Calls Tryz.prog 25 #[.string ⟨#[45]⟩] w fun e w' => e = .returned (.int .i64 2) ∧ w = w' := by
  go_enter Tryz.func25, Tryz.ntmps25
  go_wp2
  go_ret
  exact ⟨rfl, rfl⟩
set_option maxRecDepth 100000 in
theorem ca_28 (w : World) : Calls Tryz.prog 25 #[.string ⟨#[42]⟩] w fun e w' => e = .returned (.int .i64 2) ∧ w = w' := by
  go_enter Tryz.func25, Tryz.ntmps25
  go_wp2
  go_ret
  exact ⟨rfl, rfl⟩
set_option maxRecDepth 100000 in
theorem ca_29 (w : World) : Calls Tryz.prog 25 #[.string ⟨#[113, 117, 111, 116, 105, 101, 110, 116]⟩] w fun e w' => e = .returned (.int .i64 2) ∧ w = w' := by
  go_enter Tryz.func25, Tryz.ntmps25
  go_wp2
  go_ret
  exact ⟨rfl, rfl⟩
set_option maxRecDepth 100000 in
theorem ca_30 (w : World) : Calls Tryz.prog 25 #[.string ⟨#[114, 101, 109, 97, 105, 110, 100, 101, 114]⟩] w fun e w' => e = .returned (.int .i64 2) ∧ w = w' := by
  go_enter Tryz.func25, Tryz.ntmps25
  go_wp2
  go_ret
  exact ⟨rfl, rfl⟩
set_option maxRecDepth 100000 in
theorem ca_31 (w : World) : Calls Tryz.prog 25 #[.string ⟨#[60]⟩] w fun e w' => e = .returned (.int .i64 2) ∧ w = w' := by
  go_enter Tryz.func25, Tryz.ntmps25
  go_wp2
  go_ret
  exact ⟨rfl, rfl⟩
set_option maxRecDepth 100000 in
theorem ca_32 (w : World) : Calls Tryz.prog 25 #[.string ⟨#[61]⟩] w fun e w' => e = .returned (.int .i64 2) ∧ w = w' := by
  go_enter Tryz.func25, Tryz.ntmps25
  go_wp2
  go_ret
  exact ⟨rfl, rfl⟩
set_option maxRecDepth 100000 in
theorem ca_33 (w : World) : Calls Tryz.prog 25 #[.string ⟨#[101, 113, 63]⟩] w fun e w' => e = .returned (.int .i64 2) ∧ w = w' := by
  go_enter Tryz.func25, Tryz.ntmps25
  go_wp2
  go_ret
  exact ⟨rfl, rfl⟩
set_option maxRecDepth 100000 in
theorem ca_34 (w : World) : Calls Tryz.prog 25 #[.string ⟨#[99, 111, 110, 115]⟩] w fun e w' => e = .returned (.int .i64 2) ∧ w = w' := by
  go_enter Tryz.func25, Tryz.ntmps25
  go_wp2
  go_ret
  exact ⟨rfl, rfl⟩
set_option maxRecDepth 100000 in
theorem ca_35 (w : World) : Calls Tryz.prog 25 #[.string ⟨#[115, 101, 116, 45, 99, 97, 114, 33]⟩] w fun e w' => e = .returned (.int .i64 2) ∧ w = w' := by
  go_enter Tryz.func25, Tryz.ntmps25
  go_wp2
  go_ret
  exact ⟨rfl, rfl⟩
set_option maxRecDepth 100000 in
theorem ca_36 (w : World) : Calls Tryz.prog 25 #[.string ⟨#[115, 101, 116, 45, 99, 100, 114, 33]⟩] w fun e w' => e = .returned (.int .i64 2) ∧ w = w' := by
  go_enter Tryz.func25, Tryz.ntmps25
  go_wp2
  go_ret
  exact ⟨rfl, rfl⟩
set_option maxRecDepth 100000 in
theorem ca_37 (w : World) : Calls Tryz.prog 25 #[.string ⟨#[109, 97, 107, 101, 45, 118, 101, 99, 116, 111, 114]⟩] w fun e w' => e = .returned (.int .i64 2) ∧ w = w' := by
  go_enter Tryz.func25, Tryz.ntmps25
  go_wp2
  go_ret
  exact ⟨rfl, rfl⟩
set_option maxRecDepth 100000 in
theorem ca_38 (w : World) : Calls Tryz.prog 25 #[.string ⟨#[118, 101, 99, 116, 111, 114, 45, 114, 101, 102]⟩] w fun e w' => e = .returned (.int .i64 2) ∧ w = w' := by
  go_enter Tryz.func25, Tryz.ntmps25
  go_wp2
  go_ret
  exact ⟨rfl, rfl⟩
set_option maxRecDepth 100000 in
theorem ca_39 (w : World) : Calls Tryz.prog 25 #[.string ⟨#[109, 97, 107, 101, 45, 115, 116, 114, 105, 110, 103]⟩] w fun e w' => e = .returned (.int .i64 2) ∧ w = w' := by
  go_enter Tryz.func25, Tryz.ntmps25
  go_wp2
  go_ret
  exact ⟨rfl, rfl⟩
set_option maxRecDepth 100000 in
theorem ca_40 (w : World) : Calls Tryz.prog 25 #[.string ⟨#[115, 116, 114, 105, 110, 103, 45, 114, 101, 102]⟩] w fun e w' => e = .returned (.int .i64 2) ∧ w = w' := by
  go_enter Tryz.func25, Tryz.ntmps25
  go_wp2
  go_ret
  exact ⟨rfl, rfl⟩
set_option maxRecDepth 100000 in
theorem ca_41 (w : World) : Calls Tryz.prog 25 #[.string ⟨#[37, 115, 101, 116, 45, 98, 111, 120, 33]⟩] w fun e w' => e = .returned (.int .i64 2) ∧ w = w' := by
  go_enter Tryz.func25, Tryz.ntmps25
  go_wp2
  go_ret
  exact ⟨rfl, rfl⟩
set_option maxRecDepth 100000 in
theorem ca_42 (w : World) : Calls Tryz.prog 25 #[.string ⟨#[118, 101, 99, 116, 111, 114, 45, 115, 101, 116, 33]⟩] w fun e w' => e = .returned (.int .i64 3) ∧ w = w' := by
  go_enter Tryz.func25, Tryz.ntmps25
  go_wp2
  go_ret
  exact ⟨rfl, rfl⟩
set_option maxRecDepth 100000 in
theorem ca_43 (w : World) : Calls Tryz.prog 25 #[.string ⟨#[115, 116, 114, 105, 110, 103, 45, 115, 101, 116, 33]⟩] w fun e w' => e = .returned (.int .i64 3) ∧ w = w' := by
  go_enter Tryz.func25, Tryz.ntmps25
  go_wp2
  go_ret
  exact ⟨rfl, rfl⟩
set_option maxRecDepth 100000 in
set_option maxHeartbeats 1000000 in
theorem ca_none (s : ByteArray) (w : World) (h : ∀ p ∈ prims, p.1 ≠ s.data.toList) : Calls Tryz.prog 25 #[.string s] w fun e w' => e = .returned (.int .i64 (-1)) ∧ w = w' := by
  have h0 : (s.toList == [114, 101, 97, 100, 45, 117, 56]) = false := prim_none h (n := 0) (by decide)
  have h1 : (s.toList == [101, 114, 114, 111, 114]) = false := prim_none h (n := 0) (by decide)
  have h2 : (s.toList == [118, 111, 105, 100]) = false := prim_none h (n := 0) (by decide)
  have h3 : (s.toList == [37, 119, 105, 110, 100, 101, 114, 115]) = false := prim_none h (n := 0) (by decide)
  have h4 : (s.toList == [37, 117, 110, 115, 101, 116]) = false := prim_none h (n := 0) (by decide)
  have h5 : (s.toList == [110, 117, 108, 108, 63]) = false := prim_none h (n := 1) (by decide)
  have h6 : (s.toList == [112, 97, 105, 114, 63]) = false := prim_none h (n := 1) (by decide)
  have h7 : (s.toList == [118, 101, 99, 116, 111, 114, 63]) = false := prim_none h (n := 1) (by decide)
  have h8 : (s.toList == [115, 116, 114, 105, 110, 103, 63]) = false := prim_none h (n := 1) (by decide)
  have h9 : (s.toList == [115, 121, 109, 98, 111, 108, 63]) = false := prim_none h (n := 1) (by decide)
  have h10 : (s.toList == [99, 104, 97, 114, 63]) = false := prim_none h (n := 1) (by decide)
  have h11 : (s.toList == [105, 110, 116, 101, 103, 101, 114, 63]) = false := prim_none h (n := 1) (by decide)
  have h12 : (s.toList == [98, 111, 111, 108, 101, 97, 110, 63]) = false := prim_none h (n := 1) (by decide)
  have h13 : (s.toList == [112, 114, 111, 99, 101, 100, 117, 114, 101, 63]) = false := prim_none h (n := 1) (by decide)
  have h14 : (s.toList == [101, 111, 102, 45, 111, 98, 106, 101, 99, 116, 63]) = false := prim_none h (n := 1) (by decide)
  have h15 : (s.toList == [99, 97, 114]) = false := prim_none h (n := 1) (by decide)
  have h16 : (s.toList == [99, 100, 114]) = false := prim_none h (n := 1) (by decide)
  have h17 : (s.toList == [118, 101, 99, 116, 111, 114, 45, 108, 101, 110, 103, 116, 104]) = false := prim_none h (n := 1) (by decide)
  have h18 : (s.toList == [115, 116, 114, 105, 110, 103, 45, 108, 101, 110, 103, 116, 104]) = false := prim_none h (n := 1) (by decide)
  have h19 : (s.toList == [99, 104, 97, 114, 45, 62, 105, 110, 116, 101, 103, 101, 114]) = false := prim_none h (n := 1) (by decide)
  have h20 : (s.toList == [105, 110, 116, 101, 103, 101, 114, 45, 62, 99, 104, 97, 114]) = false := prim_none h (n := 1) (by decide)
  have h21 : (s.toList == [119, 114, 105, 116, 101, 45, 117, 56]) = false := prim_none h (n := 1) (by decide)
  have h22 : (s.toList == [37, 98, 111, 120]) = false := prim_none h (n := 1) (by decide)
  have h23 : (s.toList == [37, 117, 110, 98, 111, 120]) = false := prim_none h (n := 1) (by decide)
  have h24 : (s.toList == [37, 119, 105, 110, 100, 33]) = false := prim_none h (n := 1) (by decide)
  have h25 : (s.toList == [37, 99, 97, 108, 108, 99, 99]) = false := prim_none h (n := 1) (by decide)
  have h26 : (s.toList == [43]) = false := prim_none h (n := 2) (by decide)
  have h27 : (s.toList == [45]) = false := prim_none h (n := 2) (by decide)
  have h28 : (s.toList == [42]) = false := prim_none h (n := 2) (by decide)
  have h29 : (s.toList == [113, 117, 111, 116, 105, 101, 110, 116]) = false := prim_none h (n := 2) (by decide)
  have h30 : (s.toList == [114, 101, 109, 97, 105, 110, 100, 101, 114]) = false := prim_none h (n := 2) (by decide)
  have h31 : (s.toList == [60]) = false := prim_none h (n := 2) (by decide)
  have h32 : (s.toList == [61]) = false := prim_none h (n := 2) (by decide)
  have h33 : (s.toList == [101, 113, 63]) = false := prim_none h (n := 2) (by decide)
  have h34 : (s.toList == [99, 111, 110, 115]) = false := prim_none h (n := 2) (by decide)
  have h35 : (s.toList == [115, 101, 116, 45, 99, 97, 114, 33]) = false := prim_none h (n := 2) (by decide)
  have h36 : (s.toList == [115, 101, 116, 45, 99, 100, 114, 33]) = false := prim_none h (n := 2) (by decide)
  have h37 : (s.toList == [109, 97, 107, 101, 45, 118, 101, 99, 116, 111, 114]) = false := prim_none h (n := 2) (by decide)
  have h38 : (s.toList == [118, 101, 99, 116, 111, 114, 45, 114, 101, 102]) = false := prim_none h (n := 2) (by decide)
  have h39 : (s.toList == [109, 97, 107, 101, 45, 115, 116, 114, 105, 110, 103]) = false := prim_none h (n := 2) (by decide)
  have h40 : (s.toList == [115, 116, 114, 105, 110, 103, 45, 114, 101, 102]) = false := prim_none h (n := 2) (by decide)
  have h41 : (s.toList == [37, 115, 101, 116, 45, 98, 111, 120, 33]) = false := prim_none h (n := 2) (by decide)
  have h42 : (s.toList == [118, 101, 99, 116, 111, 114, 45, 115, 101, 116, 33]) = false := prim_none h (n := 3) (by decide)
  have h43 : (s.toList == [115, 116, 114, 105, 110, 103, 45, 115, 101, 116, 33]) = false := prim_none h (n := 3) (by decide)
  clear h
  go_enter Tryz.func25, Tryz.ntmps25
  go_wp2
  go_ret
  exact ⟨rfl, rfl⟩
theorem ca_any (s : ByteArray) (w : World) : Calls Tryz.prog 25 #[.string s] w fun e w' => e = .returned (.int .i64 (arityT s.data.toList)) ∧ w = w' := by
  by_cases h0 : s.data.toList ∈ prims.map (·.1)
  rotate_left
  · have h : ∀ p ∈ prims, p.1 ≠ s.data.toList := fun p hp e => h0 (e ▸ List.mem_map_of_mem hp)
    rw [arity_none h]
    exact ca_none s w h
  · have h := h0
    simp only [prims, List.map, List.mem_cons, List.not_mem_nil, or_false] at h
    clear h0
    have key : ∀ (l : List UInt8), s.data.toList = l → s = ⟨l.toArray⟩ := fun l e => Go.WideShapes.bytes_inj (by rw [e])
    rcases h with h | h | h | h | h | h | h | h | h | h | h | h | h | h | h | h | h | h | h | h | h | h | h | h | h | h | h | h | h | h | h | h | h | h | h | h | h | h | h | h | h | h | h | h
    · obtain rfl := key _ h
      exact ca_0 w
    · obtain rfl := key _ h
      exact ca_1 w
    · obtain rfl := key _ h
      exact ca_2 w
    · obtain rfl := key _ h
      exact ca_3 w
    · obtain rfl := key _ h
      exact ca_4 w
    · obtain rfl := key _ h
      exact ca_5 w
    · obtain rfl := key _ h
      exact ca_6 w
    · obtain rfl := key _ h
      exact ca_7 w
    · obtain rfl := key _ h
      exact ca_8 w
    · obtain rfl := key _ h
      exact ca_9 w
    · obtain rfl := key _ h
      exact ca_10 w
    · obtain rfl := key _ h
      exact ca_11 w
    · obtain rfl := key _ h
      exact ca_12 w
    · obtain rfl := key _ h
      exact ca_13 w
    · obtain rfl := key _ h
      exact ca_14 w
    · obtain rfl := key _ h
      exact ca_15 w
    · obtain rfl := key _ h
      exact ca_16 w
    · obtain rfl := key _ h
      exact ca_17 w
    · obtain rfl := key _ h
      exact ca_18 w
    · obtain rfl := key _ h
      exact ca_19 w
    · obtain rfl := key _ h
      exact ca_20 w
    · obtain rfl := key _ h
      exact ca_21 w
    · obtain rfl := key _ h
      exact ca_22 w
    · obtain rfl := key _ h
      exact ca_23 w
    · obtain rfl := key _ h
      exact ca_24 w
    · obtain rfl := key _ h
      exact ca_25 w
    · obtain rfl := key _ h
      exact ca_26 w
    · obtain rfl := key _ h
      exact ca_27 w
    · obtain rfl := key _ h
      exact ca_28 w
    · obtain rfl := key _ h
      exact ca_29 w
    · obtain rfl := key _ h
      exact ca_30 w
    · obtain rfl := key _ h
      exact ca_31 w
    · obtain rfl := key _ h
      exact ca_32 w
    · obtain rfl := key _ h
      exact ca_33 w
    · obtain rfl := key _ h
      exact ca_34 w
    · obtain rfl := key _ h
      exact ca_35 w
    · obtain rfl := key _ h
      exact ca_36 w
    · obtain rfl := key _ h
      exact ca_37 w
    · obtain rfl := key _ h
      exact ca_38 w
    · obtain rfl := key _ h
      exact ca_39 w
    · obtain rfl := key _ h
      exact ca_40 w
    · obtain rfl := key _ h
      exact ca_41 w
    · obtain rfl := key _ h
      exact ca_42 w
    · obtain rfl := key _ h
      exact ca_43 w
set_option maxRecDepth 100000 in
theorem ra_0 (w : World) : Calls Tryz.prog 86 #[.string ⟨#[114, 101, 97, 100, 45, 117, 56]⟩] w fun e w' => e = .returned (.int .i64 0) ∧ w = w' := by
  go_enter Tryz.func86, Tryz.ntmps86
  go_wp2
  go_ret
  exact ⟨rfl, rfl⟩
set_option maxRecDepth 100000 in
theorem ra_1 (w : World) : Calls Tryz.prog 86 #[.string ⟨#[101, 114, 114, 111, 114]⟩] w fun e w' => e = .returned (.int .i64 0) ∧ w = w' := by
  go_enter Tryz.func86, Tryz.ntmps86
  go_wp2
  go_ret
  exact ⟨rfl, rfl⟩
set_option maxRecDepth 100000 in
theorem ra_2 (w : World) : Calls Tryz.prog 86 #[.string ⟨#[118, 111, 105, 100]⟩] w fun e w' => e = .returned (.int .i64 0) ∧ w = w' := by
  go_enter Tryz.func86, Tryz.ntmps86
  go_wp2
  go_ret
  exact ⟨rfl, rfl⟩
set_option maxRecDepth 100000 in
theorem ra_3 (w : World) : Calls Tryz.prog 86 #[.string ⟨#[37, 119, 105, 110, 100, 101, 114, 115]⟩] w fun e w' => e = .returned (.int .i64 0) ∧ w = w' := by
  go_enter Tryz.func86, Tryz.ntmps86
  go_wp2
  go_ret
  exact ⟨rfl, rfl⟩
set_option maxRecDepth 100000 in
theorem ra_4 (w : World) : Calls Tryz.prog 86 #[.string ⟨#[37, 117, 110, 115, 101, 116]⟩] w fun e w' => e = .returned (.int .i64 0) ∧ w = w' := by
  go_enter Tryz.func86, Tryz.ntmps86
  go_wp2
  go_ret
  exact ⟨rfl, rfl⟩
set_option maxRecDepth 100000 in
theorem ra_5 (w : World) : Calls Tryz.prog 86 #[.string ⟨#[110, 117, 108, 108, 63]⟩] w fun e w' => e = .returned (.int .i64 1) ∧ w = w' := by
  go_enter Tryz.func86, Tryz.ntmps86
  go_wp2
  go_ret
  exact ⟨rfl, rfl⟩
set_option maxRecDepth 100000 in
theorem ra_6 (w : World) : Calls Tryz.prog 86 #[.string ⟨#[112, 97, 105, 114, 63]⟩] w fun e w' => e = .returned (.int .i64 1) ∧ w = w' := by
  go_enter Tryz.func86, Tryz.ntmps86
  go_wp2
  go_ret
  exact ⟨rfl, rfl⟩
set_option maxRecDepth 100000 in
theorem ra_7 (w : World) : Calls Tryz.prog 86 #[.string ⟨#[118, 101, 99, 116, 111, 114, 63]⟩] w fun e w' => e = .returned (.int .i64 1) ∧ w = w' := by
  go_enter Tryz.func86, Tryz.ntmps86
  go_wp2
  go_ret
  exact ⟨rfl, rfl⟩
set_option maxRecDepth 100000 in
theorem ra_8 (w : World) : Calls Tryz.prog 86 #[.string ⟨#[115, 116, 114, 105, 110, 103, 63]⟩] w fun e w' => e = .returned (.int .i64 1) ∧ w = w' := by
  go_enter Tryz.func86, Tryz.ntmps86
  go_wp2
  go_ret
  exact ⟨rfl, rfl⟩
set_option maxRecDepth 100000 in
theorem ra_9 (w : World) : Calls Tryz.prog 86 #[.string ⟨#[115, 121, 109, 98, 111, 108, 63]⟩] w fun e w' => e = .returned (.int .i64 1) ∧ w = w' := by
  go_enter Tryz.func86, Tryz.ntmps86
  go_wp2
  go_ret
  exact ⟨rfl, rfl⟩
set_option maxRecDepth 100000 in
theorem ra_10 (w : World) : Calls Tryz.prog 86 #[.string ⟨#[99, 104, 97, 114, 63]⟩] w fun e w' => e = .returned (.int .i64 1) ∧ w = w' := by
  go_enter Tryz.func86, Tryz.ntmps86
  go_wp2
  go_ret
  exact ⟨rfl, rfl⟩
set_option maxRecDepth 100000 in
theorem ra_11 (w : World) : Calls Tryz.prog 86 #[.string ⟨#[105, 110, 116, 101, 103, 101, 114, 63]⟩] w fun e w' => e = .returned (.int .i64 1) ∧ w = w' := by
  go_enter Tryz.func86, Tryz.ntmps86
  go_wp2
  go_ret
  exact ⟨rfl, rfl⟩
set_option maxRecDepth 100000 in
theorem ra_12 (w : World) : Calls Tryz.prog 86 #[.string ⟨#[98, 111, 111, 108, 101, 97, 110, 63]⟩] w fun e w' => e = .returned (.int .i64 1) ∧ w = w' := by
  go_enter Tryz.func86, Tryz.ntmps86
  go_wp2
  go_ret
  exact ⟨rfl, rfl⟩
set_option maxRecDepth 100000 in
theorem ra_13 (w : World) : Calls Tryz.prog 86 #[.string ⟨#[112, 114, 111, 99, 101, 100, 117, 114, 101, 63]⟩] w fun e w' => e = .returned (.int .i64 1) ∧ w = w' := by
  go_enter Tryz.func86, Tryz.ntmps86
  go_wp2
  go_ret
  exact ⟨rfl, rfl⟩
set_option maxRecDepth 100000 in
theorem ra_14 (w : World) : Calls Tryz.prog 86 #[.string ⟨#[101, 111, 102, 45, 111, 98, 106, 101, 99, 116, 63]⟩] w fun e w' => e = .returned (.int .i64 1) ∧ w = w' := by
  go_enter Tryz.func86, Tryz.ntmps86
  go_wp2
  go_ret
  exact ⟨rfl, rfl⟩
set_option maxRecDepth 100000 in
theorem ra_15 (w : World) : Calls Tryz.prog 86 #[.string ⟨#[99, 97, 114]⟩] w fun e w' => e = .returned (.int .i64 1) ∧ w = w' := by
  go_enter Tryz.func86, Tryz.ntmps86
  go_wp2
  go_ret
  exact ⟨rfl, rfl⟩
set_option maxRecDepth 100000 in
theorem ra_16 (w : World) : Calls Tryz.prog 86 #[.string ⟨#[99, 100, 114]⟩] w fun e w' => e = .returned (.int .i64 1) ∧ w = w' := by
  go_enter Tryz.func86, Tryz.ntmps86
  go_wp2
  go_ret
  exact ⟨rfl, rfl⟩
set_option maxRecDepth 100000 in
theorem ra_17 (w : World) : Calls Tryz.prog 86 #[.string ⟨#[118, 101, 99, 116, 111, 114, 45, 108, 101, 110, 103, 116, 104]⟩] w fun e w' => e = .returned (.int .i64 1) ∧ w = w' := by
  go_enter Tryz.func86, Tryz.ntmps86
  go_wp2
  go_ret
  exact ⟨rfl, rfl⟩
set_option maxRecDepth 100000 in
theorem ra_18 (w : World) : Calls Tryz.prog 86 #[.string ⟨#[115, 116, 114, 105, 110, 103, 45, 108, 101, 110, 103, 116, 104]⟩] w fun e w' => e = .returned (.int .i64 1) ∧ w = w' := by
  go_enter Tryz.func86, Tryz.ntmps86
  go_wp2
  go_ret
  exact ⟨rfl, rfl⟩
set_option maxRecDepth 100000 in
theorem ra_19 (w : World) : Calls Tryz.prog 86 #[.string ⟨#[99, 104, 97, 114, 45, 62, 105, 110, 116, 101, 103, 101, 114]⟩] w fun e w' => e = .returned (.int .i64 1) ∧ w = w' := by
  go_enter Tryz.func86, Tryz.ntmps86
  go_wp2
  go_ret
  exact ⟨rfl, rfl⟩
set_option maxRecDepth 100000 in
theorem ra_20 (w : World) : Calls Tryz.prog 86 #[.string ⟨#[105, 110, 116, 101, 103, 101, 114, 45, 62, 99, 104, 97, 114]⟩] w fun e w' => e = .returned (.int .i64 1) ∧ w = w' := by
  go_enter Tryz.func86, Tryz.ntmps86
  go_wp2
  go_ret
  exact ⟨rfl, rfl⟩
set_option maxRecDepth 100000 in
theorem ra_21 (w : World) : Calls Tryz.prog 86 #[.string ⟨#[119, 114, 105, 116, 101, 45, 117, 56]⟩] w fun e w' => e = .returned (.int .i64 1) ∧ w = w' := by
  go_enter Tryz.func86, Tryz.ntmps86
  go_wp2
  go_ret
  exact ⟨rfl, rfl⟩
set_option maxRecDepth 100000 in
theorem ra_22 (w : World) : Calls Tryz.prog 86 #[.string ⟨#[37, 98, 111, 120]⟩] w fun e w' => e = .returned (.int .i64 1) ∧ w = w' := by
  go_enter Tryz.func86, Tryz.ntmps86
  go_wp2
  go_ret
  exact ⟨rfl, rfl⟩
set_option maxRecDepth 100000 in
theorem ra_23 (w : World) : Calls Tryz.prog 86 #[.string ⟨#[37, 117, 110, 98, 111, 120]⟩] w fun e w' => e = .returned (.int .i64 1) ∧ w = w' := by
  go_enter Tryz.func86, Tryz.ntmps86
  go_wp2
  go_ret
  exact ⟨rfl, rfl⟩
set_option maxRecDepth 100000 in
theorem ra_24 (w : World) : Calls Tryz.prog 86 #[.string ⟨#[37, 119, 105, 110, 100, 33]⟩] w fun e w' => e = .returned (.int .i64 1) ∧ w = w' := by
  go_enter Tryz.func86, Tryz.ntmps86
  go_wp2
  go_ret
  exact ⟨rfl, rfl⟩
set_option maxRecDepth 100000 in
theorem ra_25 (w : World) : Calls Tryz.prog 86 #[.string ⟨#[37, 99, 97, 108, 108, 99, 99]⟩] w fun e w' => e = .returned (.int .i64 1) ∧ w = w' := by
  go_enter Tryz.func86, Tryz.ntmps86
  go_wp2
  go_ret
  exact ⟨rfl, rfl⟩
set_option maxRecDepth 100000 in
theorem ra_26 (w : World) : Calls Tryz.prog 86 #[.string ⟨#[43]⟩] w fun e w' => e = .returned (.int .i64 2) ∧ w = w' := by
  go_enter Tryz.func86, Tryz.ntmps86
  go_wp2
  go_ret
  exact ⟨rfl, rfl⟩
set_option maxRecDepth 100000 in
theorem ra_27 (w : World) : Calls Tryz.prog 86 #[.string ⟨#[45]⟩] w fun e w' => e = .returned (.int .i64 2) ∧ w = w' := by
  go_enter Tryz.func86, Tryz.ntmps86
  go_wp2
  go_ret
  exact ⟨rfl, rfl⟩
set_option maxRecDepth 100000 in
theorem ra_28 (w : World) : Calls Tryz.prog 86 #[.string ⟨#[42]⟩] w fun e w' => e = .returned (.int .i64 2) ∧ w = w' := by
  go_enter Tryz.func86, Tryz.ntmps86
  go_wp2
  go_ret
  exact ⟨rfl, rfl⟩
set_option maxRecDepth 100000 in
theorem ra_29 (w : World) : Calls Tryz.prog 86 #[.string ⟨#[113, 117, 111, 116, 105, 101, 110, 116]⟩] w fun e w' => e = .returned (.int .i64 2) ∧ w = w' := by
  go_enter Tryz.func86, Tryz.ntmps86
  go_wp2
  go_ret
  exact ⟨rfl, rfl⟩
set_option maxRecDepth 100000 in
theorem ra_30 (w : World) : Calls Tryz.prog 86 #[.string ⟨#[114, 101, 109, 97, 105, 110, 100, 101, 114]⟩] w fun e w' => e = .returned (.int .i64 2) ∧ w = w' := by
  go_enter Tryz.func86, Tryz.ntmps86
  go_wp2
  go_ret
  exact ⟨rfl, rfl⟩
set_option maxRecDepth 100000 in
theorem ra_31 (w : World) : Calls Tryz.prog 86 #[.string ⟨#[60]⟩] w fun e w' => e = .returned (.int .i64 2) ∧ w = w' := by
  go_enter Tryz.func86, Tryz.ntmps86
  go_wp2
  go_ret
  exact ⟨rfl, rfl⟩
set_option maxRecDepth 100000 in
theorem ra_32 (w : World) : Calls Tryz.prog 86 #[.string ⟨#[61]⟩] w fun e w' => e = .returned (.int .i64 2) ∧ w = w' := by
  go_enter Tryz.func86, Tryz.ntmps86
  go_wp2
  go_ret
  exact ⟨rfl, rfl⟩
set_option maxRecDepth 100000 in
theorem ra_33 (w : World) : Calls Tryz.prog 86 #[.string ⟨#[101, 113, 63]⟩] w fun e w' => e = .returned (.int .i64 2) ∧ w = w' := by
  go_enter Tryz.func86, Tryz.ntmps86
  go_wp2
  go_ret
  exact ⟨rfl, rfl⟩
set_option maxRecDepth 100000 in
theorem ra_34 (w : World) : Calls Tryz.prog 86 #[.string ⟨#[99, 111, 110, 115]⟩] w fun e w' => e = .returned (.int .i64 2) ∧ w = w' := by
  go_enter Tryz.func86, Tryz.ntmps86
  go_wp2
  go_ret
  exact ⟨rfl, rfl⟩
set_option maxRecDepth 100000 in
theorem ra_35 (w : World) : Calls Tryz.prog 86 #[.string ⟨#[115, 101, 116, 45, 99, 97, 114, 33]⟩] w fun e w' => e = .returned (.int .i64 2) ∧ w = w' := by
  go_enter Tryz.func86, Tryz.ntmps86
  go_wp2
  go_ret
  exact ⟨rfl, rfl⟩
set_option maxRecDepth 100000 in
theorem ra_36 (w : World) : Calls Tryz.prog 86 #[.string ⟨#[115, 101, 116, 45, 99, 100, 114, 33]⟩] w fun e w' => e = .returned (.int .i64 2) ∧ w = w' := by
  go_enter Tryz.func86, Tryz.ntmps86
  go_wp2
  go_ret
  exact ⟨rfl, rfl⟩
set_option maxRecDepth 100000 in
theorem ra_37 (w : World) : Calls Tryz.prog 86 #[.string ⟨#[109, 97, 107, 101, 45, 118, 101, 99, 116, 111, 114]⟩] w fun e w' => e = .returned (.int .i64 2) ∧ w = w' := by
  go_enter Tryz.func86, Tryz.ntmps86
  go_wp2
  go_ret
  exact ⟨rfl, rfl⟩
set_option maxRecDepth 100000 in
theorem ra_38 (w : World) : Calls Tryz.prog 86 #[.string ⟨#[118, 101, 99, 116, 111, 114, 45, 114, 101, 102]⟩] w fun e w' => e = .returned (.int .i64 2) ∧ w = w' := by
  go_enter Tryz.func86, Tryz.ntmps86
  go_wp2
  go_ret
  exact ⟨rfl, rfl⟩
set_option maxRecDepth 100000 in
theorem ra_39 (w : World) : Calls Tryz.prog 86 #[.string ⟨#[109, 97, 107, 101, 45, 115, 116, 114, 105, 110, 103]⟩] w fun e w' => e = .returned (.int .i64 2) ∧ w = w' := by
  go_enter Tryz.func86, Tryz.ntmps86
  go_wp2
  go_ret
  exact ⟨rfl, rfl⟩
set_option maxRecDepth 100000 in
theorem ra_40 (w : World) : Calls Tryz.prog 86 #[.string ⟨#[115, 116, 114, 105, 110, 103, 45, 114, 101, 102]⟩] w fun e w' => e = .returned (.int .i64 2) ∧ w = w' := by
  go_enter Tryz.func86, Tryz.ntmps86
  go_wp2
  go_ret
  exact ⟨rfl, rfl⟩
set_option maxRecDepth 100000 in
theorem ra_41 (w : World) : Calls Tryz.prog 86 #[.string ⟨#[37, 115, 101, 116, 45, 98, 111, 120, 33]⟩] w fun e w' => e = .returned (.int .i64 2) ∧ w = w' := by
  go_enter Tryz.func86, Tryz.ntmps86
  go_wp2
  go_ret
  exact ⟨rfl, rfl⟩
set_option maxRecDepth 100000 in
theorem ra_42 (w : World) : Calls Tryz.prog 86 #[.string ⟨#[118, 101, 99, 116, 111, 114, 45, 115, 101, 116, 33]⟩] w fun e w' => e = .returned (.int .i64 3) ∧ w = w' := by
  go_enter Tryz.func86, Tryz.ntmps86
  go_wp2
  go_ret
  exact ⟨rfl, rfl⟩
set_option maxRecDepth 100000 in
theorem ra_43 (w : World) : Calls Tryz.prog 86 #[.string ⟨#[115, 116, 114, 105, 110, 103, 45, 115, 101, 116, 33]⟩] w fun e w' => e = .returned (.int .i64 3) ∧ w = w' := by
  go_enter Tryz.func86, Tryz.ntmps86
  go_wp2
  go_ret
  exact ⟨rfl, rfl⟩
set_option maxRecDepth 100000 in
set_option maxHeartbeats 1000000 in
theorem ra_none (s : ByteArray) (w : World) (h : ∀ p ∈ prims, p.1 ≠ s.data.toList) : Calls Tryz.prog 86 #[.string s] w fun e w' => e = .returned (.int .i64 (-1)) ∧ w = w' := by
  have h0 : (s.toList == [114, 101, 97, 100, 45, 117, 56]) = false := prim_none h (n := 0) (by decide)
  have h1 : (s.toList == [101, 114, 114, 111, 114]) = false := prim_none h (n := 0) (by decide)
  have h2 : (s.toList == [118, 111, 105, 100]) = false := prim_none h (n := 0) (by decide)
  have h3 : (s.toList == [37, 119, 105, 110, 100, 101, 114, 115]) = false := prim_none h (n := 0) (by decide)
  have h4 : (s.toList == [37, 117, 110, 115, 101, 116]) = false := prim_none h (n := 0) (by decide)
  have h5 : (s.toList == [110, 117, 108, 108, 63]) = false := prim_none h (n := 1) (by decide)
  have h6 : (s.toList == [112, 97, 105, 114, 63]) = false := prim_none h (n := 1) (by decide)
  have h7 : (s.toList == [118, 101, 99, 116, 111, 114, 63]) = false := prim_none h (n := 1) (by decide)
  have h8 : (s.toList == [115, 116, 114, 105, 110, 103, 63]) = false := prim_none h (n := 1) (by decide)
  have h9 : (s.toList == [115, 121, 109, 98, 111, 108, 63]) = false := prim_none h (n := 1) (by decide)
  have h10 : (s.toList == [99, 104, 97, 114, 63]) = false := prim_none h (n := 1) (by decide)
  have h11 : (s.toList == [105, 110, 116, 101, 103, 101, 114, 63]) = false := prim_none h (n := 1) (by decide)
  have h12 : (s.toList == [98, 111, 111, 108, 101, 97, 110, 63]) = false := prim_none h (n := 1) (by decide)
  have h13 : (s.toList == [112, 114, 111, 99, 101, 100, 117, 114, 101, 63]) = false := prim_none h (n := 1) (by decide)
  have h14 : (s.toList == [101, 111, 102, 45, 111, 98, 106, 101, 99, 116, 63]) = false := prim_none h (n := 1) (by decide)
  have h15 : (s.toList == [99, 97, 114]) = false := prim_none h (n := 1) (by decide)
  have h16 : (s.toList == [99, 100, 114]) = false := prim_none h (n := 1) (by decide)
  have h17 : (s.toList == [118, 101, 99, 116, 111, 114, 45, 108, 101, 110, 103, 116, 104]) = false := prim_none h (n := 1) (by decide)
  have h18 : (s.toList == [115, 116, 114, 105, 110, 103, 45, 108, 101, 110, 103, 116, 104]) = false := prim_none h (n := 1) (by decide)
  have h19 : (s.toList == [99, 104, 97, 114, 45, 62, 105, 110, 116, 101, 103, 101, 114]) = false := prim_none h (n := 1) (by decide)
  have h20 : (s.toList == [105, 110, 116, 101, 103, 101, 114, 45, 62, 99, 104, 97, 114]) = false := prim_none h (n := 1) (by decide)
  have h21 : (s.toList == [119, 114, 105, 116, 101, 45, 117, 56]) = false := prim_none h (n := 1) (by decide)
  have h22 : (s.toList == [37, 98, 111, 120]) = false := prim_none h (n := 1) (by decide)
  have h23 : (s.toList == [37, 117, 110, 98, 111, 120]) = false := prim_none h (n := 1) (by decide)
  have h24 : (s.toList == [37, 119, 105, 110, 100, 33]) = false := prim_none h (n := 1) (by decide)
  have h25 : (s.toList == [37, 99, 97, 108, 108, 99, 99]) = false := prim_none h (n := 1) (by decide)
  have h26 : (s.toList == [43]) = false := prim_none h (n := 2) (by decide)
  have h27 : (s.toList == [45]) = false := prim_none h (n := 2) (by decide)
  have h28 : (s.toList == [42]) = false := prim_none h (n := 2) (by decide)
  have h29 : (s.toList == [113, 117, 111, 116, 105, 101, 110, 116]) = false := prim_none h (n := 2) (by decide)
  have h30 : (s.toList == [114, 101, 109, 97, 105, 110, 100, 101, 114]) = false := prim_none h (n := 2) (by decide)
  have h31 : (s.toList == [60]) = false := prim_none h (n := 2) (by decide)
  have h32 : (s.toList == [61]) = false := prim_none h (n := 2) (by decide)
  have h33 : (s.toList == [101, 113, 63]) = false := prim_none h (n := 2) (by decide)
  have h34 : (s.toList == [99, 111, 110, 115]) = false := prim_none h (n := 2) (by decide)
  have h35 : (s.toList == [115, 101, 116, 45, 99, 97, 114, 33]) = false := prim_none h (n := 2) (by decide)
  have h36 : (s.toList == [115, 101, 116, 45, 99, 100, 114, 33]) = false := prim_none h (n := 2) (by decide)
  have h37 : (s.toList == [109, 97, 107, 101, 45, 118, 101, 99, 116, 111, 114]) = false := prim_none h (n := 2) (by decide)
  have h38 : (s.toList == [118, 101, 99, 116, 111, 114, 45, 114, 101, 102]) = false := prim_none h (n := 2) (by decide)
  have h39 : (s.toList == [109, 97, 107, 101, 45, 115, 116, 114, 105, 110, 103]) = false := prim_none h (n := 2) (by decide)
  have h40 : (s.toList == [115, 116, 114, 105, 110, 103, 45, 114, 101, 102]) = false := prim_none h (n := 2) (by decide)
  have h41 : (s.toList == [37, 115, 101, 116, 45, 98, 111, 120, 33]) = false := prim_none h (n := 2) (by decide)
  have h42 : (s.toList == [118, 101, 99, 116, 111, 114, 45, 115, 101, 116, 33]) = false := prim_none h (n := 3) (by decide)
  have h43 : (s.toList == [115, 116, 114, 105, 110, 103, 45, 115, 101, 116, 33]) = false := prim_none h (n := 3) (by decide)
  clear h
  go_enter Tryz.func86, Tryz.ntmps86
  go_wp2
  go_ret
  exact ⟨rfl, rfl⟩
theorem ra_any (s : ByteArray) (w : World) : Calls Tryz.prog 86 #[.string s] w fun e w' => e = .returned (.int .i64 (arityT s.data.toList)) ∧ w = w' := by
  by_cases h0 : s.data.toList ∈ prims.map (·.1)
  rotate_left
  · have h : ∀ p ∈ prims, p.1 ≠ s.data.toList := fun p hp e => h0 (e ▸ List.mem_map_of_mem hp)
    rw [arity_none h]
    exact ra_none s w h
  · have h := h0
    simp only [prims, List.map, List.mem_cons, List.not_mem_nil, or_false] at h
    clear h0
    have key : ∀ (l : List UInt8), s.data.toList = l → s = ⟨l.toArray⟩ := fun l e => Go.WideShapes.bytes_inj (by rw [e])
    rcases h with h | h | h | h | h | h | h | h | h | h | h | h | h | h | h | h | h | h | h | h | h | h | h | h | h | h | h | h | h | h | h | h | h | h | h | h | h | h | h | h | h | h | h | h
    · obtain rfl := key _ h
      exact ra_0 w
    · obtain rfl := key _ h
      exact ra_1 w
    · obtain rfl := key _ h
      exact ra_2 w
    · obtain rfl := key _ h
      exact ra_3 w
    · obtain rfl := key _ h
      exact ra_4 w
    · obtain rfl := key _ h
      exact ra_5 w
    · obtain rfl := key _ h
      exact ra_6 w
    · obtain rfl := key _ h
      exact ra_7 w
    · obtain rfl := key _ h
      exact ra_8 w
    · obtain rfl := key _ h
      exact ra_9 w
    · obtain rfl := key _ h
      exact ra_10 w
    · obtain rfl := key _ h
      exact ra_11 w
    · obtain rfl := key _ h
      exact ra_12 w
    · obtain rfl := key _ h
      exact ra_13 w
    · obtain rfl := key _ h
      exact ra_14 w
    · obtain rfl := key _ h
      exact ra_15 w
    · obtain rfl := key _ h
      exact ra_16 w
    · obtain rfl := key _ h
      exact ra_17 w
    · obtain rfl := key _ h
      exact ra_18 w
    · obtain rfl := key _ h
      exact ra_19 w
    · obtain rfl := key _ h
      exact ra_20 w
    · obtain rfl := key _ h
      exact ra_21 w
    · obtain rfl := key _ h
      exact ra_22 w
    · obtain rfl := key _ h
      exact ra_23 w
    · obtain rfl := key _ h
      exact ra_24 w
    · obtain rfl := key _ h
      exact ra_25 w
    · obtain rfl := key _ h
      exact ra_26 w
    · obtain rfl := key _ h
      exact ra_27 w
    · obtain rfl := key _ h
      exact ra_28 w
    · obtain rfl := key _ h
      exact ra_29 w
    · obtain rfl := key _ h
      exact ra_30 w
    · obtain rfl := key _ h
      exact ra_31 w
    · obtain rfl := key _ h
      exact ra_32 w
    · obtain rfl := key _ h
      exact ra_33 w
    · obtain rfl := key _ h
      exact ra_34 w
    · obtain rfl := key _ h
      exact ra_35 w
    · obtain rfl := key _ h
      exact ra_36 w
    · obtain rfl := key _ h
      exact ra_37 w
    · obtain rfl := key _ h
      exact ra_38 w
    · obtain rfl := key _ h
      exact ra_39 w
    · obtain rfl := key _ h
      exact ra_40 w
    · obtain rfl := key _ h
      exact ra_41 w
    · obtain rfl := key _ h
      exact ra_42 w
    · obtain rfl := key _ h
      exact ra_43 w
end Go.Proofs.YtgajendgephkaaaGreatDoor.Core
