/-
How many data some items are. No condition.
-/
import Derived.Test.YtiamojpeedllbaaGreatDoorM7
namespace Go.Proofs.YtiamojpeedllbaaGreatDoor.Dat
open Go.ChangeShapes Go.WideShapes Go.ChangeAt Go.RowKit
set_option maxRecDepth 100000

theorem nums_take (l : List PT) (j : Nat) : numsT (l.take j) ≤ numsT l := numsT_le l j

end Go.Proofs.YtiamojpeedllbaaGreatDoor.Dat
