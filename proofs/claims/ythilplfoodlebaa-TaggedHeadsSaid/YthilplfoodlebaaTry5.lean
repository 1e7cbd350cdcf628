/-
A number's word and error exist, and are as Int answers them.
-/
import Derived.Test.YthilplfoodlebaaTry3
namespace Go.Proofs.Ythilplfoodlebaa
open Go.ChangeShapes Go.WideShapes Go.ChangeAt Go.RowKit
theorem isAns_yes {x : Int} (h : Num x) : isAns x (8 * x) 0 := Or.inl ⟨h, rfl, rfl⟩
theorem isAns_no {x : Int} (h : ¬ Num x) : isAns x 0 10 := Or.inr ⟨h, rfl, rfl⟩
theorem isAns_some (x : Int) : ∃ r c, isAns x r c := by
  by_cases h : Num x
  · exact ⟨_, _, isAns_yes h⟩
  · exact ⟨_, _, isAns_no h⟩
end Go.Proofs.Ythilplfoodlebaa
