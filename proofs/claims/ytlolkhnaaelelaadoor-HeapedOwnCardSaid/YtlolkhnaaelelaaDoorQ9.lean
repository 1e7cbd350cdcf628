/-
Package heap's operation, charOf, reckon. Where the table of what is reckoned is as the program lays it.
-/
import Derived.Test.YtlolkhnaaelelaaDoorQ8
namespace Go.Proofs.YtlolkhnaaelelaaDoor.Hp
open Go.ChangeShapes Go.WideShapes Go.ChangeAt Go.RowKit Go.Deep
open Dat (PT ok64 RepV RepS RowX infoDatum)
set_option maxRecDepth 100000

/-- The table of what is reckoned. -/
def RecOk (w : World) : Prop := ∃ T fr, w.heap[0]? = some (.cells #[.string ⟨#[43]⟩, .string ⟨#[45]⟩, .string ⟨#[42]⟩, .string ⟨#[113, 117, 111, 116, 105, 101, 110, 116]⟩, .string ⟨#[114, 101, 109, 97, 105, 110, 100, 101, 114]⟩] T fr)
theorem RecOk.below {w w' : World} {C : Nat} (h : RecOk w) (hb : Below C w w') (hC : 1 ≤ C) : RecOk w' := by
  obtain ⟨T, fr, h⟩ := h
  exact ⟨T, fr, (hb.block _ (by show 0 < C; omega)).trans h⟩
theorem RecOk.cells {w : World} (h : RecOk w) : w.cell? ⟨0, 0, none⟩ = some (.string ⟨#[43]⟩) ∧ w.cell? ⟨0, 1, none⟩ = some (.string ⟨#[45]⟩) ∧ w.cell? ⟨0, 2, none⟩ = some (.string ⟨#[42]⟩) ∧
    w.cell? ⟨0, 3, none⟩ = some (.string ⟨#[113, 117, 111, 116, 105, 101, 110, 116]⟩) ∧ w.cell? ⟨0, 4, none⟩ = some (.string ⟨#[114, 101, 109, 97, 105, 110, 100, 101, 114]⟩) := by
  obtain ⟨T, fr, h⟩ := h
  refine ⟨?_, ?_, ?_, ?_, ?_⟩
  all_goals (rw [Lib.cell_of_heap h]; rfl)
theorem rec_at0 (w : World) : (Instr.index 122 (.agg #[.string ⟨#[43]⟩, .string ⟨#[45]⟩, .string ⟨#[42]⟩, .string ⟨#[113, 117, 111, 116, 105, 101, 110, 116]⟩, .string ⟨#[114, 101, 109, 97, 105, 110, 100, 101, 114]⟩]) (.int .i64 0)).run Tryd.prog w = .ok (.string ⟨#[43]⟩) w := by kernel_rfl
theorem rec_at1 (w : World) : (Instr.index 122 (.agg #[.string ⟨#[43]⟩, .string ⟨#[45]⟩, .string ⟨#[42]⟩, .string ⟨#[113, 117, 111, 116, 105, 101, 110, 116]⟩, .string ⟨#[114, 101, 109, 97, 105, 110, 100, 101, 114]⟩]) (.int .i64 1)).run Tryd.prog w = .ok (.string ⟨#[45]⟩) w := by kernel_rfl
theorem rec_at2 (w : World) : (Instr.index 122 (.agg #[.string ⟨#[43]⟩, .string ⟨#[45]⟩, .string ⟨#[42]⟩, .string ⟨#[113, 117, 111, 116, 105, 101, 110, 116]⟩, .string ⟨#[114, 101, 109, 97, 105, 110, 100, 101, 114]⟩]) (.int .i64 2)).run Tryd.prog w = .ok (.string ⟨#[42]⟩) w := by kernel_rfl
theorem rec_at3 (w : World) : (Instr.index 122 (.agg #[.string ⟨#[43]⟩, .string ⟨#[45]⟩, .string ⟨#[42]⟩, .string ⟨#[113, 117, 111, 116, 105, 101, 110, 116]⟩, .string ⟨#[114, 101, 109, 97, 105, 110, 100, 101, 114]⟩]) (.int .i64 3)).run Tryd.prog w = .ok (.string ⟨#[113, 117, 111, 116, 105, 101, 110, 116]⟩) w := by kernel_rfl
theorem rec_at4 (w : World) : (Instr.index 122 (.agg #[.string ⟨#[43]⟩, .string ⟨#[45]⟩, .string ⟨#[42]⟩, .string ⟨#[113, 117, 111, 116, 105, 101, 110, 116]⟩, .string ⟨#[114, 101, 109, 97, 105, 110, 100, 101, 114]⟩]) (.int .i64 4)).run Tryd.prog w = .ok (.string ⟨#[114, 101, 109, 97, 105, 110, 100, 101, 114]⟩) w := by kernel_rfl
theorem op_none (prim : ByteArray) (w : World) (h : RecOk w) (h0 : ([43] == prim.toList) = false) (h1 : ([45] == prim.toList) = false) (h2 : ([42] == prim.toList) = false) (h3 : ([113, 117, 111, 116, 105, 101, 110, 116] == prim.toList) = false) (h4 : ([114, 101, 109, 97, 105, 110, 100, 101, 114] == prim.toList) = false) :
    Calls Tryd.prog 48 #[.string prim] w fun e w' => e = .returned (.tuple #[.int .i64 0, .bool false]) ∧ w = w' := by
  obtain ⟨c0, c1, c2, c3, c4⟩ := h.cells
  have x0 := rec_at0 w
  have x1 := rec_at1 w
  have x2 := rec_at2 w
  have x3 := rec_at3 w
  have x4 := rec_at4 w
  clear h
  go_enter Tryd.func48, Tryd.ntmps48
  go_wp2
  go_loop [7] (fun x => ∃ j : Nat, j ≤ 5 ∧ x = .int .i64 j) (fun x => 5 - (intOf x).toNat)
  case atStart => exact ⟨0, Nat.zero_le _, rfl⟩
  case round =>
    obtain ⟨j, hj, rfl⟩ := hrel
    have h6 : j = 0 ∨ j = 1 ∨ j = 2 ∨ j = 3 ∨ j = 4 ∨ j = 5 := by omega
    rcases h6 with rfl | rfl | rfl | rfl | rfl | rfl
    · go_wp2
      go_round
      case rel => exact ⟨1, by omega, rfl⟩
      case measure => simp [intOf]
    · go_wp2
      go_round
      case rel => exact ⟨2, by omega, rfl⟩
      case measure => simp [intOf]
    · go_wp2
      go_round
      case rel => exact ⟨3, by omega, rfl⟩
      case measure => simp [intOf]
    · go_wp2
      go_round
      case rel => exact ⟨4, by omega, rfl⟩
      case measure => simp [intOf]
    · go_wp2
      go_round
      case rel => exact ⟨5, by omega, rfl⟩
      case measure => simp [intOf]
    · go_wp2
      go_ret2
      exact ⟨rfl, rfl⟩
theorem op_quo (w : World) (h : RecOk w) : Calls Tryd.prog 48 #[.string ⟨#[113, 117, 111, 116, 105, 101, 110, 116]⟩] w fun e w' => e = .returned (.tuple #[.int .i64 3, .bool true]) ∧ w = w' := by
  obtain ⟨c0, c1, c2, c3, c4⟩ := h.cells
  have x0 := rec_at0 w
  have x1 := rec_at1 w
  have x2 := rec_at2 w
  have x3 := rec_at3 w
  have x4 := rec_at4 w
  clear h
  go_enter Tryd.func48, Tryd.ntmps48
  go_wp2
  go_loop [7] (fun x => ∃ j : Nat, j ≤ 3 ∧ x = .int .i64 j) (fun x => 5 - (intOf x).toNat)
  case atStart => exact ⟨0, Nat.zero_le _, rfl⟩
  case round =>
    obtain ⟨j, hj, rfl⟩ := hrel
    have h6 : j = 0 ∨ j = 1 ∨ j = 2 ∨ j = 3 := by omega
    rcases h6 with rfl | rfl | rfl | rfl
    · go_wp2
      go_round
      case rel => exact ⟨1, by omega, rfl⟩
      case measure => simp [intOf]
    · go_wp2
      go_round
      case rel => exact ⟨2, by omega, rfl⟩
      case measure => simp [intOf]
    · go_wp2
      go_round
      case rel => exact ⟨3, by omega, rfl⟩
      case measure => simp [intOf]
    · go_wp2
      go_ret2
      exact ⟨rfl, rfl⟩
end Go.Proofs.YtlolkhnaaelelaaDoor.Hp
