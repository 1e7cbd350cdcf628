/-
What each primitive of package heap wants. Where it reckons: where the table of what is reckoned is as the program lays it.
-/
import Derived.Test.YtpejhilfopjckaaDoorQGd
namespace Go.Proofs.YtpejhilfopjckaaDoor.Hp
open Go.ChangeShapes Go.WideShapes Go.ChangeAt Go.RowKit Go.Deep
open Dat (PT ok64 RepV RepS RowX infoDatum)
set_option maxRecDepth 100000

theorem wants_mk {W : World} {ws : List Int} {t : TypeId} {fr : Nat × Nat} : WAt (W.alloc (.cells (ws.map (Value.int .i64)).toArray t fr)) ws (some ⟨W.heap.size, 0, none⟩) := by
  refine .inr ⟨W.heap.size, rfl, by rw [size_new]; omega, fun j hj => ?_⟩
  rw [Lib.cell_of_heap (heap_alloc_new W _)]
  simp [hj]
theorem wanted_p_box (w : World) : Calls Tryd.prog 27 #[.string ⟨#[37, 98, 111, 120]⟩] w fun e w' => WantsIs [0] e w' ∧ Below w.heap.size w w' := by
  go_enter Tryd.func27, Tryd.ntmps27
  go_wp2
  go_ret2
  exact ⟨⟨_, rfl, wants_mk (ws := [0])⟩, (Below.refl _ _).alloc (Nat.le_refl _) _⟩
theorem wanted_eq_q (w : World) : Calls Tryd.prog 27 #[.string ⟨#[101, 113, 63]⟩] w fun e w' => WantsIs [0, 0] e w' ∧ Below w.heap.size w w' := by
  go_enter Tryd.func27, Tryd.ntmps27
  go_wp2
  go_ret2
  exact ⟨⟨_, rfl, wants_mk (ws := [0, 0])⟩, (Below.refl _ _).alloc (Nat.le_refl _) _⟩
theorem wanted_cons (w : World) : Calls Tryd.prog 27 #[.string ⟨#[99, 111, 110, 115]⟩] w fun e w' => WantsIs [0, 0] e w' ∧ Below w.heap.size w w' := by
  go_enter Tryd.func27, Tryd.ntmps27
  go_wp2
  go_ret2
  exact ⟨⟨_, rfl, wants_mk (ws := [0, 0])⟩, (Below.refl _ _).alloc (Nat.le_refl _) _⟩
theorem wanted_lt (w : World) : Calls Tryd.prog 27 #[.string ⟨#[60]⟩] w fun e w' => WantsIs [2, 2] e w' ∧ Below w.heap.size w w' := by
  go_enter Tryd.func27, Tryd.ntmps27
  go_wp2
  go_ret2
  exact ⟨⟨_, rfl, wants_mk (ws := [2, 2])⟩, (Below.refl _ _).alloc (Nat.le_refl _) _⟩
theorem wanted_eq (w : World) : Calls Tryd.prog 27 #[.string ⟨#[61]⟩] w fun e w' => WantsIs [2, 2] e w' ∧ Below w.heap.size w w' := by
  go_enter Tryd.func27, Tryd.ntmps27
  go_wp2
  go_ret2
  exact ⟨⟨_, rfl, wants_mk (ws := [2, 2])⟩, (Below.refl _ _).alloc (Nat.le_refl _) _⟩
theorem wanted_car (w : World) : Calls Tryd.prog 27 #[.string ⟨#[99, 97, 114]⟩] w fun e w' => WantsIs [7] e w' ∧ Below w.heap.size w w' := by
  go_enter Tryd.func27, Tryd.ntmps27
  go_wp2
  go_ret2
  exact ⟨⟨_, rfl, wants_mk (ws := [7])⟩, (Below.refl _ _).alloc (Nat.le_refl _) _⟩
theorem wanted_cdr (w : World) : Calls Tryd.prog 27 #[.string ⟨#[99, 100, 114]⟩] w fun e w' => WantsIs [7] e w' ∧ Below w.heap.size w w' := by
  go_enter Tryd.func27, Tryd.ntmps27
  go_wp2
  go_ret2
  exact ⟨⟨_, rfl, wants_mk (ws := [7])⟩, (Below.refl _ _).alloc (Nat.le_refl _) _⟩
theorem wanted_set_car_x (w : World) : Calls Tryd.prog 27 #[.string ⟨#[115, 101, 116, 45, 99, 97, 114, 33]⟩] w fun e w' => WantsIs [7, 0] e w' ∧ Below w.heap.size w w' := by
  go_enter Tryd.func27, Tryd.ntmps27
  go_wp2
  go_ret2
  exact ⟨⟨_, rfl, wants_mk (ws := [7, 0])⟩, (Below.refl _ _).alloc (Nat.le_refl _) _⟩
theorem wanted_set_cdr_x (w : World) : Calls Tryd.prog 27 #[.string ⟨#[115, 101, 116, 45, 99, 100, 114, 33]⟩] w fun e w' => WantsIs [7, 0] e w' ∧ Below w.heap.size w w' := by
  go_enter Tryd.func27, Tryd.ntmps27
  go_wp2
  go_ret2
  exact ⟨⟨_, rfl, wants_mk (ws := [7, 0])⟩, (Below.refl _ _).alloc (Nat.le_refl _) _⟩
theorem wanted_make_vector (w : World) : Calls Tryd.prog 27 #[.string ⟨#[109, 97, 107, 101, 45, 118, 101, 99, 116, 111, 114]⟩] w fun e w' => WantsIs [2, 0] e w' ∧ Below w.heap.size w w' := by
  go_enter Tryd.func27, Tryd.ntmps27
  go_wp2
  go_ret2
  exact ⟨⟨_, rfl, wants_mk (ws := [2, 0])⟩, (Below.refl _ _).alloc (Nat.le_refl _) _⟩
theorem wanted_make_string (w : World) : Calls Tryd.prog 27 #[.string ⟨#[109, 97, 107, 101, 45, 115, 116, 114, 105, 110, 103]⟩] w fun e w' => WantsIs [2, 3] e w' ∧ Below w.heap.size w w' := by
  go_enter Tryd.func27, Tryd.ntmps27
  go_wp2
  go_ret2
  exact ⟨⟨_, rfl, wants_mk (ws := [2, 3])⟩, (Below.refl _ _).alloc (Nat.le_refl _) _⟩
theorem wanted_vector_length (w : World) : Calls Tryd.prog 27 #[.string ⟨#[118, 101, 99, 116, 111, 114, 45, 108, 101, 110, 103, 116, 104]⟩] w fun e w' => WantsIs [8] e w' ∧ Below w.heap.size w w' := by
  go_enter Tryd.func27, Tryd.ntmps27
  go_wp2
  go_ret2
  exact ⟨⟨_, rfl, wants_mk (ws := [8])⟩, (Below.refl _ _).alloc (Nat.le_refl _) _⟩
theorem wanted_string_length (w : World) : Calls Tryd.prog 27 #[.string ⟨#[115, 116, 114, 105, 110, 103, 45, 108, 101, 110, 103, 116, 104]⟩] w fun e w' => WantsIs [9] e w' ∧ Below w.heap.size w w' := by
  go_enter Tryd.func27, Tryd.ntmps27
  go_wp2
  go_ret2
  exact ⟨⟨_, rfl, wants_mk (ws := [9])⟩, (Below.refl _ _).alloc (Nat.le_refl _) _⟩
theorem wanted_vector_ref (w : World) : Calls Tryd.prog 27 #[.string ⟨#[118, 101, 99, 116, 111, 114, 45, 114, 101, 102]⟩] w fun e w' => WantsIs [8, 2] e w' ∧ Below w.heap.size w w' := by
  go_enter Tryd.func27, Tryd.ntmps27
  go_wp2
  go_ret2
  exact ⟨⟨_, rfl, wants_mk (ws := [8, 2])⟩, (Below.refl _ _).alloc (Nat.le_refl _) _⟩
theorem wanted_string_ref (w : World) : Calls Tryd.prog 27 #[.string ⟨#[115, 116, 114, 105, 110, 103, 45, 114, 101, 102]⟩] w fun e w' => WantsIs [9, 2] e w' ∧ Below w.heap.size w w' := by
  go_enter Tryd.func27, Tryd.ntmps27
  go_wp2
  go_ret2
  exact ⟨⟨_, rfl, wants_mk (ws := [9, 2])⟩, (Below.refl _ _).alloc (Nat.le_refl _) _⟩
theorem wanted_vector_set_x (w : World) : Calls Tryd.prog 27 #[.string ⟨#[118, 101, 99, 116, 111, 114, 45, 115, 101, 116, 33]⟩] w fun e w' => WantsIs [8, 2, 0] e w' ∧ Below w.heap.size w w' := by
  go_enter Tryd.func27, Tryd.ntmps27
  go_wp2
  go_ret2
  exact ⟨⟨_, rfl, wants_mk (ws := [8, 2, 0])⟩, (Below.refl _ _).alloc (Nat.le_refl _) _⟩
theorem wanted_string_set_x (w : World) : Calls Tryd.prog 27 #[.string ⟨#[115, 116, 114, 105, 110, 103, 45, 115, 101, 116, 33]⟩] w fun e w' => WantsIs [9, 2, 3] e w' ∧ Below w.heap.size w w' := by
  go_enter Tryd.func27, Tryd.ntmps27
  go_wp2
  go_ret2
  exact ⟨⟨_, rfl, wants_mk (ws := [9, 2, 3])⟩, (Below.refl _ _).alloc (Nat.le_refl _) _⟩
theorem wanted_char_to_integer (w : World) : Calls Tryd.prog 27 #[.string ⟨#[99, 104, 97, 114, 45, 62, 105, 110, 116, 101, 103, 101, 114]⟩] w fun e w' => WantsIs [3] e w' ∧ Below w.heap.size w w' := by
  go_enter Tryd.func27, Tryd.ntmps27
  go_wp2
  go_ret2
  exact ⟨⟨_, rfl, wants_mk (ws := [3])⟩, (Below.refl _ _).alloc (Nat.le_refl _) _⟩
theorem wanted_integer_to_char (w : World) : Calls Tryd.prog 27 #[.string ⟨#[105, 110, 116, 101, 103, 101, 114, 45, 62, 99, 104, 97, 114]⟩] w fun e w' => WantsIs [2] e w' ∧ Below w.heap.size w w' := by
  go_enter Tryd.func27, Tryd.ntmps27
  go_wp2
  go_ret2
  exact ⟨⟨_, rfl, wants_mk (ws := [2])⟩, (Below.refl _ _).alloc (Nat.le_refl _) _⟩
theorem wanted_p_unbox (w : World) : Calls Tryd.prog 27 #[.string ⟨#[37, 117, 110, 98, 111, 120]⟩] w fun e w' => WantsIs [10] e w' ∧ Below w.heap.size w w' := by
  go_enter Tryd.func27, Tryd.ntmps27
  go_wp2
  go_ret2
  exact ⟨⟨_, rfl, wants_mk (ws := [10])⟩, (Below.refl _ _).alloc (Nat.le_refl _) _⟩
theorem wanted_p_set_box_x (w : World) : Calls Tryd.prog 27 #[.string ⟨#[37, 115, 101, 116, 45, 98, 111, 120, 33]⟩] w fun e w' => WantsIs [10, 0] e w' ∧ Below w.heap.size w w' := by
  go_enter Tryd.func27, Tryd.ntmps27
  go_wp2
  go_ret2
  exact ⟨⟨_, rfl, wants_mk (ws := [10, 0])⟩, (Below.refl _ _).alloc (Nat.le_refl _) _⟩
theorem wanted_void (w : World) : Calls Tryd.prog 27 #[.string ⟨#[118, 111, 105, 100]⟩] w fun e w' => WantsIs [] e w' ∧ Below w.heap.size w w' := by
  go_enter Tryd.func27, Tryd.ntmps27
  go_wp2
  go_ret2
  exact ⟨⟨none, rfl, .inl rfl⟩, Below.refl _ _⟩
theorem wanted_p_unset (w : World) : Calls Tryd.prog 27 #[.string ⟨#[37, 117, 110, 115, 101, 116]⟩] w fun e w' => WantsIs [] e w' ∧ Below w.heap.size w w' := by
  go_enter Tryd.func27, Tryd.ntmps27
  go_wp2
  go_ret2
  exact ⟨⟨none, rfl, .inl rfl⟩, Below.refl _ _⟩
theorem asked_null_q (w : World) : Calls Tryd.prog 46 #[.string ⟨#[110, 117, 108, 108, 63]⟩] w fun e w' => e = .returned (.tuple #[.int .i64 5, .bool true]) ∧ w = w' := by
  go_enter Tryd.func46, Tryd.ntmps46
  go_wp2
  go_ret2
  exact ⟨rfl, rfl⟩
theorem wanted_null_q (w : World) : Calls Tryd.prog 27 #[.string ⟨#[110, 117, 108, 108, 63]⟩] w fun e w' => WantsIs [0] e w' ∧ Below w.heap.size w w' := by
  have K := Lib.hid (asked_null_q w)
  go_enter Tryd.func27, Tryd.ntmps27
  go_wp2_with fail
  refine K.out.mono ?_
  rintro e w1 ⟨rfl, rfl⟩
  go_wp2
  go_ret2
  exact ⟨⟨_, rfl, wants_mk (ws := [0])⟩, (Below.refl _ _).alloc (Nat.le_refl _) _⟩
theorem asked_symbol_q (w : World) : Calls Tryd.prog 46 #[.string ⟨#[115, 121, 109, 98, 111, 108, 63]⟩] w fun e w' => e = .returned (.tuple #[.int .i64 4, .bool true]) ∧ w = w' := by
  go_enter Tryd.func46, Tryd.ntmps46
  go_wp2
  go_ret2
  exact ⟨rfl, rfl⟩
theorem wanted_symbol_q (w : World) : Calls Tryd.prog 27 #[.string ⟨#[115, 121, 109, 98, 111, 108, 63]⟩] w fun e w' => WantsIs [0] e w' ∧ Below w.heap.size w w' := by
  have K := Lib.hid (asked_symbol_q w)
  go_enter Tryd.func27, Tryd.ntmps27
  go_wp2_with fail
  refine K.out.mono ?_
  rintro e w1 ⟨rfl, rfl⟩
  go_wp2
  go_ret2
  exact ⟨⟨_, rfl, wants_mk (ws := [0])⟩, (Below.refl _ _).alloc (Nat.le_refl _) _⟩
theorem asked_char_q (w : World) : Calls Tryd.prog 46 #[.string ⟨#[99, 104, 97, 114, 63]⟩] w fun e w' => e = .returned (.tuple #[.int .i64 3, .bool true]) ∧ w = w' := by
  go_enter Tryd.func46, Tryd.ntmps46
  go_wp2
  go_ret2
  exact ⟨rfl, rfl⟩
theorem wanted_char_q (w : World) : Calls Tryd.prog 27 #[.string ⟨#[99, 104, 97, 114, 63]⟩] w fun e w' => WantsIs [0] e w' ∧ Below w.heap.size w w' := by
  have K := Lib.hid (asked_char_q w)
  go_enter Tryd.func27, Tryd.ntmps27
  go_wp2_with fail
  refine K.out.mono ?_
  rintro e w1 ⟨rfl, rfl⟩
  go_wp2
  go_ret2
  exact ⟨⟨_, rfl, wants_mk (ws := [0])⟩, (Below.refl _ _).alloc (Nat.le_refl _) _⟩
theorem asked_integer_q (w : World) : Calls Tryd.prog 46 #[.string ⟨#[105, 110, 116, 101, 103, 101, 114, 63]⟩] w fun e w' => e = .returned (.tuple #[.int .i64 2, .bool true]) ∧ w = w' := by
  go_enter Tryd.func46, Tryd.ntmps46
  go_wp2
  go_ret2
  exact ⟨rfl, rfl⟩
theorem wanted_integer_q (w : World) : Calls Tryd.prog 27 #[.string ⟨#[105, 110, 116, 101, 103, 101, 114, 63]⟩] w fun e w' => WantsIs [0] e w' ∧ Below w.heap.size w w' := by
  have K := Lib.hid (asked_integer_q w)
  go_enter Tryd.func27, Tryd.ntmps27
  go_wp2_with fail
  refine K.out.mono ?_
  rintro e w1 ⟨rfl, rfl⟩
  go_wp2
  go_ret2
  exact ⟨⟨_, rfl, wants_mk (ws := [0])⟩, (Below.refl _ _).alloc (Nat.le_refl _) _⟩
theorem asked_boolean_q (w : World) : Calls Tryd.prog 46 #[.string ⟨#[98, 111, 111, 108, 101, 97, 110, 63]⟩] w fun e w' => e = .returned (.tuple #[.int .i64 1, .bool true]) ∧ w = w' := by
  go_enter Tryd.func46, Tryd.ntmps46
  go_wp2
  go_ret2
  exact ⟨rfl, rfl⟩
theorem wanted_boolean_q (w : World) : Calls Tryd.prog 27 #[.string ⟨#[98, 111, 111, 108, 101, 97, 110, 63]⟩] w fun e w' => WantsIs [0] e w' ∧ Below w.heap.size w w' := by
  have K := Lib.hid (asked_boolean_q w)
  go_enter Tryd.func27, Tryd.ntmps27
  go_wp2_with fail
  refine K.out.mono ?_
  rintro e w1 ⟨rfl, rfl⟩
  go_wp2
  go_ret2
  exact ⟨⟨_, rfl, wants_mk (ws := [0])⟩, (Below.refl _ _).alloc (Nat.le_refl _) _⟩
theorem asked_eof_object_q (w : World) : Calls Tryd.prog 46 #[.string ⟨#[101, 111, 102, 45, 111, 98, 106, 101, 99, 116, 63]⟩] w fun e w' => e = .returned (.tuple #[.int .i64 6, .bool true]) ∧ w = w' := by
  go_enter Tryd.func46, Tryd.ntmps46
  go_wp2
  go_ret2
  exact ⟨rfl, rfl⟩
theorem wanted_eof_object_q (w : World) : Calls Tryd.prog 27 #[.string ⟨#[101, 111, 102, 45, 111, 98, 106, 101, 99, 116, 63]⟩] w fun e w' => WantsIs [0] e w' ∧ Below w.heap.size w w' := by
  have K := Lib.hid (asked_eof_object_q w)
  go_enter Tryd.func27, Tryd.ntmps27
  go_wp2_with fail
  refine K.out.mono ?_
  rintro e w1 ⟨rfl, rfl⟩
  go_wp2
  go_ret2
  exact ⟨⟨_, rfl, wants_mk (ws := [0])⟩, (Below.refl _ _).alloc (Nat.le_refl _) _⟩
theorem asked_pair_q (w : World) : Calls Tryd.prog 46 #[.string ⟨#[112, 97, 105, 114, 63]⟩] w fun e w' => e = .returned (.tuple #[.int .i64 7, .bool true]) ∧ w = w' := by
  go_enter Tryd.func46, Tryd.ntmps46
  go_wp2
  go_ret2
  exact ⟨rfl, rfl⟩
theorem wanted_pair_q (w : World) : Calls Tryd.prog 27 #[.string ⟨#[112, 97, 105, 114, 63]⟩] w fun e w' => WantsIs [0] e w' ∧ Below w.heap.size w w' := by
  have K := Lib.hid (asked_pair_q w)
  go_enter Tryd.func27, Tryd.ntmps27
  go_wp2_with fail
  refine K.out.mono ?_
  rintro e w1 ⟨rfl, rfl⟩
  go_wp2
  go_ret2
  exact ⟨⟨_, rfl, wants_mk (ws := [0])⟩, (Below.refl _ _).alloc (Nat.le_refl _) _⟩
theorem asked_vector_q (w : World) : Calls Tryd.prog 46 #[.string ⟨#[118, 101, 99, 116, 111, 114, 63]⟩] w fun e w' => e = .returned (.tuple #[.int .i64 8, .bool true]) ∧ w = w' := by
  go_enter Tryd.func46, Tryd.ntmps46
  go_wp2
  go_ret2
  exact ⟨rfl, rfl⟩
theorem wanted_vector_q (w : World) : Calls Tryd.prog 27 #[.string ⟨#[118, 101, 99, 116, 111, 114, 63]⟩] w fun e w' => WantsIs [0] e w' ∧ Below w.heap.size w w' := by
  have K := Lib.hid (asked_vector_q w)
  go_enter Tryd.func27, Tryd.ntmps27
  go_wp2_with fail
  refine K.out.mono ?_
  rintro e w1 ⟨rfl, rfl⟩
  go_wp2
  go_ret2
  exact ⟨⟨_, rfl, wants_mk (ws := [0])⟩, (Below.refl _ _).alloc (Nat.le_refl _) _⟩
theorem asked_string_q (w : World) : Calls Tryd.prog 46 #[.string ⟨#[115, 116, 114, 105, 110, 103, 63]⟩] w fun e w' => e = .returned (.tuple #[.int .i64 9, .bool true]) ∧ w = w' := by
  go_enter Tryd.func46, Tryd.ntmps46
  go_wp2
  go_ret2
  exact ⟨rfl, rfl⟩
theorem wanted_string_q (w : World) : Calls Tryd.prog 27 #[.string ⟨#[115, 116, 114, 105, 110, 103, 63]⟩] w fun e w' => WantsIs [0] e w' ∧ Below w.heap.size w w' := by
  have K := Lib.hid (asked_string_q w)
  go_enter Tryd.func27, Tryd.ntmps27
  go_wp2_with fail
  refine K.out.mono ?_
  rintro e w1 ⟨rfl, rfl⟩
  go_wp2
  go_ret2
  exact ⟨⟨_, rfl, wants_mk (ws := [0])⟩, (Below.refl _ _).alloc (Nat.le_refl _) _⟩
theorem asked_procedure_q (w : World) : Calls Tryd.prog 46 #[.string ⟨#[112, 114, 111, 99, 101, 100, 117, 114, 101, 63]⟩] w fun e w' => e = .returned (.tuple #[.int .i64 11, .bool true]) ∧ w = w' := by
  go_enter Tryd.func46, Tryd.ntmps46
  go_wp2
  go_ret2
  exact ⟨rfl, rfl⟩
theorem wanted_procedure_q (w : World) : Calls Tryd.prog 27 #[.string ⟨#[112, 114, 111, 99, 101, 100, 117, 114, 101, 63]⟩] w fun e w' => WantsIs [0] e w' ∧ Below w.heap.size w w' := by
  have K := Lib.hid (asked_procedure_q w)
  go_enter Tryd.func27, Tryd.ntmps27
  go_wp2_with fail
  refine K.out.mono ?_
  rintro e w1 ⟨rfl, rfl⟩
  go_wp2
  go_ret2
  exact ⟨⟨_, rfl, wants_mk (ws := [0])⟩, (Below.refl _ _).alloc (Nat.le_refl _) _⟩
theorem asked_add (w : World) : Calls Tryd.prog 46 #[.string ⟨#[43]⟩] w fun e w' => e = .returned (.tuple #[.int .i64 0, .bool false]) ∧ w = w' := by
  go_enter Tryd.func46, Tryd.ntmps46
  go_wp2
  go_ret2
  exact ⟨rfl, rfl⟩
theorem oper_add (w : World) (h : RecOk w) : Calls Tryd.prog 47 #[.string ⟨#[43]⟩] w fun e w' => e = .returned (.tuple #[.int .i64 0, .bool true]) ∧ w = w' := by
  obtain ⟨c0, c1, c2, c3, c4⟩ := h.cells
  have x0 := rec_at0 w
  have x1 := rec_at1 w
  have x2 := rec_at2 w
  have x3 := rec_at3 w
  have x4 := rec_at4 w
  clear h
  go_enter Tryd.func47, Tryd.ntmps47
  go_wp2
  go_loop [7] (fun x => ∃ j : Nat, j ≤ 0 ∧ x = .int .i64 j) (fun x => 5 - (intOf x).toNat)
  case atStart => exact ⟨0, Nat.zero_le _, rfl⟩
  case round =>
    obtain ⟨j, hj, rfl⟩ := hrel
    have h6 : j = 0 := by omega
    rcases h6 with rfl
    · go_wp2
      go_ret2
      exact ⟨rfl, rfl⟩
theorem wanted_add (w : World) (h : RecOk w) : Calls Tryd.prog 27 #[.string ⟨#[43]⟩] w fun e w' => WantsIs [2, 2] e w' ∧ Below w.heap.size w w' := by
  have K := Lib.hid (asked_add w)
  have KO := Lib.hid (oper_add w h)
  clear h
  go_enter Tryd.func27, Tryd.ntmps27
  go_wp2_with fail
  refine K.out.mono ?_
  rintro e w1 ⟨rfl, rfl⟩
  go_wp2_with fail
  refine KO.out.mono ?_
  rintro e w1 ⟨rfl, rfl⟩
  go_wp2
  go_ret2
  exact ⟨⟨_, rfl, wants_mk (ws := [2, 2])⟩, (Below.refl _ _).alloc (Nat.le_refl _) _⟩
theorem asked_sub (w : World) : Calls Tryd.prog 46 #[.string ⟨#[45]⟩] w fun e w' => e = .returned (.tuple #[.int .i64 0, .bool false]) ∧ w = w' := by
  go_enter Tryd.func46, Tryd.ntmps46
  go_wp2
  go_ret2
  exact ⟨rfl, rfl⟩
theorem oper_sub (w : World) (h : RecOk w) : Calls Tryd.prog 47 #[.string ⟨#[45]⟩] w fun e w' => e = .returned (.tuple #[.int .i64 1, .bool true]) ∧ w = w' := by
  obtain ⟨c0, c1, c2, c3, c4⟩ := h.cells
  have x0 := rec_at0 w
  have x1 := rec_at1 w
  have x2 := rec_at2 w
  have x3 := rec_at3 w
  have x4 := rec_at4 w
  clear h
  go_enter Tryd.func47, Tryd.ntmps47
  go_wp2
  go_loop [7] (fun x => ∃ j : Nat, j ≤ 1 ∧ x = .int .i64 j) (fun x => 5 - (intOf x).toNat)
  case atStart => exact ⟨0, Nat.zero_le _, rfl⟩
  case round =>
    obtain ⟨j, hj, rfl⟩ := hrel
    have h6 : j = 0 ∨ j = 1 := by omega
    rcases h6 with rfl | rfl
    · go_wp2
      go_round
      case rel => exact ⟨1, by omega, rfl⟩
      case measure => simp [intOf]
    · go_wp2
      go_ret2
      exact ⟨rfl, rfl⟩
theorem wanted_sub (w : World) (h : RecOk w) : Calls Tryd.prog 27 #[.string ⟨#[45]⟩] w fun e w' => WantsIs [2, 2] e w' ∧ Below w.heap.size w w' := by
  have K := Lib.hid (asked_sub w)
  have KO := Lib.hid (oper_sub w h)
  clear h
  go_enter Tryd.func27, Tryd.ntmps27
  go_wp2_with fail
  refine K.out.mono ?_
  rintro e w1 ⟨rfl, rfl⟩
  go_wp2_with fail
  refine KO.out.mono ?_
  rintro e w1 ⟨rfl, rfl⟩
  go_wp2
  go_ret2
  exact ⟨⟨_, rfl, wants_mk (ws := [2, 2])⟩, (Below.refl _ _).alloc (Nat.le_refl _) _⟩
theorem asked_mul (w : World) : Calls Tryd.prog 46 #[.string ⟨#[42]⟩] w fun e w' => e = .returned (.tuple #[.int .i64 0, .bool false]) ∧ w = w' := by
  go_enter Tryd.func46, Tryd.ntmps46
  go_wp2
  go_ret2
  exact ⟨rfl, rfl⟩
theorem oper_mul (w : World) (h : RecOk w) : Calls Tryd.prog 47 #[.string ⟨#[42]⟩] w fun e w' => e = .returned (.tuple #[.int .i64 2, .bool true]) ∧ w = w' := by
  obtain ⟨c0, c1, c2, c3, c4⟩ := h.cells
  have x0 := rec_at0 w
  have x1 := rec_at1 w
  have x2 := rec_at2 w
  have x3 := rec_at3 w
  have x4 := rec_at4 w
  clear h
  go_enter Tryd.func47, Tryd.ntmps47
  go_wp2
  go_loop [7] (fun x => ∃ j : Nat, j ≤ 2 ∧ x = .int .i64 j) (fun x => 5 - (intOf x).toNat)
  case atStart => exact ⟨0, Nat.zero_le _, rfl⟩
  case round =>
    obtain ⟨j, hj, rfl⟩ := hrel
    have h6 : j = 0 ∨ j = 1 ∨ j = 2 := by omega
    rcases h6 with rfl | rfl | rfl
    · go_wp2
      go_round
      case rel => exact ⟨1, by omega, rfl⟩
      case measure => simp [intOf]
    · go_wp2
      go_round
      case rel => exact ⟨2, by omega, rfl⟩
      case measure => simp [intOf]
    · go_wp2
      go_ret2
      exact ⟨rfl, rfl⟩
theorem wanted_mul (w : World) (h : RecOk w) : Calls Tryd.prog 27 #[.string ⟨#[42]⟩] w fun e w' => WantsIs [2, 2] e w' ∧ Below w.heap.size w w' := by
  have K := Lib.hid (asked_mul w)
  have KO := Lib.hid (oper_mul w h)
  clear h
  go_enter Tryd.func27, Tryd.ntmps27
  go_wp2_with fail
  refine K.out.mono ?_
  rintro e w1 ⟨rfl, rfl⟩
  go_wp2_with fail
  refine KO.out.mono ?_
  rintro e w1 ⟨rfl, rfl⟩
  go_wp2
  go_ret2
  exact ⟨⟨_, rfl, wants_mk (ws := [2, 2])⟩, (Below.refl _ _).alloc (Nat.le_refl _) _⟩
theorem asked_quotient (w : World) : Calls Tryd.prog 46 #[.string ⟨#[113, 117, 111, 116, 105, 101, 110, 116]⟩] w fun e w' => e = .returned (.tuple #[.int .i64 0, .bool false]) ∧ w = w' := by
  go_enter Tryd.func46, Tryd.ntmps46
  go_wp2
  go_ret2
  exact ⟨rfl, rfl⟩
theorem oper_quotient (w : World) (h : RecOk w) : Calls Tryd.prog 47 #[.string ⟨#[113, 117, 111, 116, 105, 101, 110, 116]⟩] w fun e w' => e = .returned (.tuple #[.int .i64 3, .bool true]) ∧ w = w' := by
  obtain ⟨c0, c1, c2, c3, c4⟩ := h.cells
  have x0 := rec_at0 w
  have x1 := rec_at1 w
  have x2 := rec_at2 w
  have x3 := rec_at3 w
  have x4 := rec_at4 w
  clear h
  go_enter Tryd.func47, Tryd.ntmps47
  go_wp2
  go_loop [7] (fun x => ∃ j : Nat, j ≤ 3 ∧ x = .int .i64 j) (fun x => 5 - (intOf x).toNat)
  case atStart => exact ⟨0, Nat.zero_le _, rfl⟩
  case round =>
    obtain ⟨j, hj, rfl⟩ := hrel
    have h6 : j = 0 ∨ j = 1 ∨ j = 2 ∨ j = 3 := by omega
    rcases h6 with rfl | rfl | rfl | rfl
    · go_wp2
      go_round
      case rel => exact ⟨1, by omega, rfl⟩
      case measure => simp [intOf]
    · go_wp2
      go_round
      case rel => exact ⟨2, by omega, rfl⟩
      case measure => simp [intOf]
    · go_wp2
      go_round
      case rel => exact ⟨3, by omega, rfl⟩
      case measure => simp [intOf]
    · go_wp2
      go_ret2
      exact ⟨rfl, rfl⟩
theorem wanted_quotient (w : World) (h : RecOk w) : Calls Tryd.prog 27 #[.string ⟨#[113, 117, 111, 116, 105, 101, 110, 116]⟩] w fun e w' => WantsIs [2, 2] e w' ∧ Below w.heap.size w w' := by
  have K := Lib.hid (asked_quotient w)
  have KO := Lib.hid (oper_quotient w h)
  clear h
  go_enter Tryd.func27, Tryd.ntmps27
  go_wp2_with fail
  refine K.out.mono ?_
  rintro e w1 ⟨rfl, rfl⟩
  go_wp2_with fail
  refine KO.out.mono ?_
  rintro e w1 ⟨rfl, rfl⟩
  go_wp2
  go_ret2
  exact ⟨⟨_, rfl, wants_mk (ws := [2, 2])⟩, (Below.refl _ _).alloc (Nat.le_refl _) _⟩
theorem asked_remainder (w : World) : Calls Tryd.prog 46 #[.string ⟨#[114, 101, 109, 97, 105, 110, 100, 101, 114]⟩] w fun e w' => e = .returned (.tuple #[.int .i64 0, .bool false]) ∧ w = w' := by
  go_enter Tryd.func46, Tryd.ntmps46
  go_wp2
  go_ret2
  exact ⟨rfl, rfl⟩
theorem oper_remainder (w : World) (h : RecOk w) : Calls Tryd.prog 47 #[.string ⟨#[114, 101, 109, 97, 105, 110, 100, 101, 114]⟩] w fun e w' => e = .returned (.tuple #[.int .i64 4, .bool true]) ∧ w = w' := by
  obtain ⟨c0, c1, c2, c3, c4⟩ := h.cells
  have x0 := rec_at0 w
  have x1 := rec_at1 w
  have x2 := rec_at2 w
  have x3 := rec_at3 w
  have x4 := rec_at4 w
  clear h
  go_enter Tryd.func47, Tryd.ntmps47
  go_wp2
  go_loop [7] (fun x => ∃ j : Nat, j ≤ 4 ∧ x = .int .i64 j) (fun x => 5 - (intOf x).toNat)
  case atStart => exact ⟨0, Nat.zero_le _, rfl⟩
  case round =>
    obtain ⟨j, hj, rfl⟩ := hrel
    have h6 : j = 0 ∨ j = 1 ∨ j = 2 ∨ j = 3 ∨ j = 4 := by omega
    rcases h6 with rfl | rfl | rfl | rfl | rfl
    · go_wp2
      go_round
      case rel => exact ⟨1, by omega, rfl⟩
      case measure => simp [intOf]
    · go_wp2
      go_round
      case rel => exact ⟨2, by omega, rfl⟩
      case measure => simp [intOf]
    · go_wp2
      go_round
      case rel => exact ⟨3, by omega, rfl⟩
      case measure => simp [intOf]
    · go_wp2
      go_round
      case rel => exact ⟨4, by omega, rfl⟩
      case measure => simp [intOf]
    · go_wp2
      go_ret2
      exact ⟨rfl, rfl⟩
theorem wanted_remainder (w : World) (h : RecOk w) : Calls Tryd.prog 27 #[.string ⟨#[114, 101, 109, 97, 105, 110, 100, 101, 114]⟩] w fun e w' => WantsIs [2, 2] e w' ∧ Below w.heap.size w w' := by
  have K := Lib.hid (asked_remainder w)
  have KO := Lib.hid (oper_remainder w h)
  clear h
  go_enter Tryd.func27, Tryd.ntmps27
  go_wp2_with fail
  refine K.out.mono ?_
  rintro e w1 ⟨rfl, rfl⟩
  go_wp2_with fail
  refine KO.out.mono ?_
  rintro e w1 ⟨rfl, rfl⟩
  go_wp2
  go_ret2
  exact ⟨⟨_, rfl, wants_mk (ws := [2, 2])⟩, (Below.refl _ _).alloc (Nat.le_refl _) _⟩
end Go.Proofs.YtpejhilfopjckaaDoor.Hp
