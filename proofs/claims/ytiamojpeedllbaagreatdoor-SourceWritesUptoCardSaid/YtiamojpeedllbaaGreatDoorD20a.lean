/-
Small facts on numbers and rows. No condition.
-/
import Derived.Test.YtiamojpeedllbaaGreatDoorD19
namespace Go.Proofs.YtiamojpeedllbaaGreatDoor.Dat
open Go.ChangeShapes Go.WideShapes Go.ChangeAt Go.RowKit
set_option maxRecDepth 100000
theorem rep_none (W : World) (B : Nat) : RepS W B [] (.slice none 0 0) := ⟨none, 0, rfl, Nat.le_refl _, Nat.zero_le _, fun _ => rfl, .inl rfl⟩
theorem ok_small {n : Int} (h : -1000 ≤ n ∧ n ≤ 1000) : ok64 n := by unfold ok64; omega
end Go.Proofs.YtiamojpeedllbaaGreatDoor.Dat
