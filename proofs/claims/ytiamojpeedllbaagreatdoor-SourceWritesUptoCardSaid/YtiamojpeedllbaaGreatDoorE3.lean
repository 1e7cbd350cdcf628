/-
How many data a datum is. No condition.
-/
import Derived.Test.YtiamojpeedllbaaGreatDoorD17
namespace Go.Proofs.YtiamojpeedllbaaGreatDoor.Dat
open Go.ChangeShapes Go.WideShapes Go.ChangeAt Go.RowKit
set_option maxRecDepth 100000

mutual
/-- How many data a datum is. -/
def numT : PT → Nat
  | .mk _ _ _ l => 1 + numsT l
def numsT : List PT → Nat
  | [] => 0
  | t :: l => numT t + numsT l
end
theorem numsT_take : ∀ (l : List PT) (j : Nat) (h : j < l.length), numsT (l.take (j + 1)) = numsT (l.take j) + numT l[j]
  | t :: l, 0, _ => by simp [numsT]
  | t :: l, j + 1, h => by
    have := numsT_take l j (by simpa using h)
    simp only [List.take_succ_cons, numsT, List.getElem_cons_succ]
    omega
theorem numsT_le : ∀ (l : List PT) (j : Nat), numsT (l.take j) ≤ numsT l
  | [], j => by simp [numsT]
  | t :: l, 0 => by simp [numsT]
  | t :: l, j + 1 => by
    have := numsT_le l j
    simp only [List.take_succ_cons, numsT]
    omega

end Go.Proofs.YtiamojpeedllbaaGreatDoor.Dat
