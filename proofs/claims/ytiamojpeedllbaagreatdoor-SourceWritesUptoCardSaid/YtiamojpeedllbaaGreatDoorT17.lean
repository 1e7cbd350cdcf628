/-
Contract of the law's fixed calls: true; where the two errors of strconv are as the program lays them.
-/
import Derived.Test.YtiamojpeedllbaaGreatDoorT16
namespace Go.Proofs.YtiamojpeedllbaaGreatDoor
open Go.ChangeShapes Go.WideShapes Go.ChangeAt Go.RowKit

def fixT : List TkP := [⟨⟨0, [], 0⟩, 0, 1⟩, ⟨⟨9, [97], 0⟩, 1, 2⟩, ⟨⟨5, [], 1⟩, 3, 5⟩, ⟨⟨1, [], 0⟩, 5, 6⟩]
abbrev fixC : Array Value := #[.int .i64 0, .string ⟨#[]⟩, .int .i64 0, .int .i64 0, .int .i64 1, .int .i64 9, .string ⟨#[97]⟩, .int .i64 0, .int .i64 1, .int .i64 2, .int .i64 5, .string ⟨#[]⟩, .int .i64 1, .int .i64 3, .int .i64 5, .int .i64 1, .string ⟨#[]⟩, .int .i64 0, .int .i64 5, .int .i64 6]
theorem fixC_cells : fixC.toList = cellsOf fixT := rfl

set_option maxRecDepth 100000 in
theorem fixed_any (w : World) (hE : ErrsOk w) : Calls Tryz.prog 11 #[] w fun e w' => e = .returned (.bool true) ∧ Below w.heap.size w w' := by
  have HE := Lib.hid (fun W (h : Below w.heap.size w W) => hE.below h hE.two)
  have C1 : ∀ W, ErrsOk W → Calls Tryz.prog 13 #[.string ⟨#[40, 97, 32, 35, 116, 41, 32, 59, 32, 120]⟩] W fun e w' => ToksOk (fixT, 0, 0) W.heap.size e w' ∧ Below W.heap.size W w' := fun W h => by
    have := tokens_any ⟨#[40, 97, 32, 35, 116, 41, 32, 59, 32, 120]⟩ W (by show 10 ≤ maxLen; decide) h
    rwa [show toksT (⟨#[40, 97, 32, 35, 116, 41, 32, 59, 32, 120]⟩ : ByteArray).data.toList = (fixT, 0, 0) from fix1] at this
  have C2 : ∀ W, ErrsOk W → Calls Tryz.prog 13 #[.string ⟨#[32, 35, 116, 116]⟩] W fun e w' => ToksOk ([], 1, 31) W.heap.size e w' ∧ Below W.heap.size W w' := fun W h => by
    have := tokens_any ⟨#[32, 35, 116, 116]⟩ W (by show 4 ≤ maxLen; decide) h
    rwa [show toksT (⟨#[32, 35, 116, 116]⟩ : ByteArray).data.toList = ([], 1, 31) from fix2] at this
  have H1 := Lib.hid C1
  have H2 := Lib.hid C2
  have HE0 := Lib.hid hE
  clear C1 C2 hE
  go_enter Tryz.func11, Tryz.ntmps11
  go_wp2_with fail
  refine (H1.out _ HE0.out).mono ?_
  rintro e w1 ⟨⟨v1, rfl, o1⟩, hb1⟩
  have B1 := Lib.hid hb1
  have O1 := Lib.hid o1.at
  clear o1 hb1
  go_wp2_with fail
  refine (H2.out _ (HE.out _ B1.out)).mono ?_
  rintro e w2 ⟨⟨v2, rfl, _⟩, hb2⟩
  have B2 := Lib.hid (B1.out.trans (hb2.mono B1.out.size))
  have O2 := Lib.hid (O1.out.below hb2 (Nat.le_refl _))
  clear hb2
  have hnew := heap_alloc_new w2 (.cells fixC 33)
  have O3 : Hid (TokAt (w2.alloc (.cells fixC 33)) fixT v1) := Lib.hid (O2.out.below ((Below.refl _ _).alloc (Nat.le_refl _) (.cells fixC 33)) (Nat.le_refl _))
  have O4 : Hid (TokAt (w2.alloc (.cells fixC 33)) fixT (.slice (some ⟨w2.heap.size, 0, none⟩) 4 4)) := Lib.hid (by
    refine ⟨_, 4, rfl, Nat.le_refl _, by decide, .inr ⟨w2.heap.size, 0, rfl, by simp, fun j x hj => ?_⟩⟩
    rw [← fixC_cells] at hj
    rw [Nat.zero_add, Lib.cell_of_heap hnew]
    simpa using hj)
  have B4 := Lib.hid (B2.out.alloc B2.out.size (.cells fixC 33))
  clear hnew
  go_wp2_with fail
  refine (same_any fixT _ _ _ O3.out O4.out (by decide)).mono ?_
  rintro e w3 ⟨rfl, hb3⟩
  go_wp2
  go_ret
  exact ⟨rfl, B4.out.trans (hb3.mono B4.out.size)⟩
end Go.Proofs.YtiamojpeedllbaaGreatDoor
