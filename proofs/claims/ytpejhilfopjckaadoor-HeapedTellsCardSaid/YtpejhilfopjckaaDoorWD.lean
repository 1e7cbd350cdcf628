/-
Texts D7, D8, D10, D11, one behind the other (a claim bears sixty files). Conditions: as each says.
-/
import Derived.Test.YtpejhilfopjckaaDoorWN
import Derived.Test.YtpejhilfopjckaaDoorD1
import Derived.OneCell

/-
Which fields a datum may have, itself: what the small tests of package data and of the document answer, for every datum. No condition.
-/
namespace Go.Proofs.YtpejhilfopjckaaDoor.Dat
open Go.ChangeShapes Go.WideShapes Go.ChangeAt Go.RowKit
set_option maxRecDepth 100000

theorem mayBeTail_any (k : Int) (r : Bool) (hr : r = (decide (k ≠ 5) && decide (k ≠ 6))) (w : World) : Calls Tryd.prog 88 #[.int .i64 k] w fun e w' => e = .returned (.bool r) ∧ w = w' := by
  have HR := Lib.hid hr
  clear hr
  by_cases h5 : k = 5
  · subst h5
    go_enter Tryd.func88, Tryd.ntmps88
    go_wp2
    go_ret
    exact ⟨ret_bool (by rw [HR.out]; rfl), rfl⟩
  by_cases h6 : k = 6
  · subst h6
    go_enter Tryd.func88, Tryd.ntmps88
    go_wp2
    go_ret
    exact ⟨ret_bool (by rw [HR.out]; rfl), rfl⟩
  have hf : r = true := by rw [HR.out]; simp [h5, h6]
  have HF := Lib.hid hf
  clear hf
  have b5 : (k == 5) = false := by simpa using h5
  have b6 : (k == 6) = false := by simpa using h6
  have c5 : (k != 5) = true := by simpa using h5
  have c6 : (k != 6) = true := by simpa using h6
  go_enter Tryd.func88, Tryd.ntmps88
  go_wp2
  go_ret
  exact ⟨ret_bool HF.out.symm, rfl⟩

def PT.kind : PT → Int
  | .mk k _ _ _ => k
end Go.Proofs.YtpejhilfopjckaaDoor.Dat

/-
Which fields a datum may have, itself: package data's isFormed and the document's form, for every datum. No condition.
-/
namespace Go.Proofs.YtpejhilfopjckaaDoor.Dat
open Go.ChangeShapes Go.WideShapes Go.ChangeAt Go.RowKit
set_option maxRecDepth 100000

end Go.Proofs.YtpejhilfopjckaaDoor.Dat

/-
What is wrong first in a datum: package data's Check, for every datum. No condition.
-/
namespace Go.Proofs.YtpejhilfopjckaaDoor.Dat
open Go.ChangeShapes Go.WideShapes Go.ChangeAt Go.RowKit
set_option maxRecDepth 100000

end Go.Proofs.YtpejhilfopjckaaDoor.Dat

/-
What is wrong first in a datum: package data's Check, for every datum. No condition.
-/
namespace Go.Proofs.YtpejhilfopjckaaDoor.Dat
open Go.ChangeShapes Go.WideShapes Go.ChangeAt Go.RowKit
set_option maxRecDepth 100000

/-- A datum's value. -/
def PT.val : PT → Value → Value
  | .mk k i s _, v => .agg #[.int .i64 k, .int .i64 i, .string s, v]
/-- A datum by value: its own fields in range, its items where the slice leads. -/
def RepV (w : World) (B : Nat) : PT → Value → Prop
  | .mk k i s l, v => ok64 k ∧ ok64 i ∧ s.size ≤ maxLen ∧ RepS w B l v

theorem blk_alloc {w : World} {o : Obj} {b : Nat} {x : Obj} (h : w.heap[b]? = some x) : (w.alloc o).heap[b]? = some x := (Below.heap_alloc w o b (lt_of_block h)).trans h

/-- An item of a list, as a value in memory: its four cells. -/
theorem repAt_item {w : World} {B : Nat} {l : List PT} {b o j : Nat} (h : RepAt w B l b o) (hj : j < l.length) :
    ∃ k i s m v, l[j] = .mk k i s m ∧ ok64 k ∧ ok64 i ∧ s.size ≤ maxLen ∧ w.cell? ⟨b, o + j * 4, none⟩ = some (.int .i64 k) ∧ w.cell? ⟨b, o + j * 4 + 1, none⟩ = some (.int .i64 i) ∧ w.cell? ⟨b, o + j * 4 + 2, none⟩ = some (.string s) ∧
      w.cell? ⟨b, o + j * 4 + 3, none⟩ = some v ∧ RepS w B m v := by
  have hr := repAt_get h j hj
  match hl : l[j] with
  | .mk k i s m =>
    rw [hl, repD_mk] at hr
    obtain ⟨h1, h2, h3, c0, c1, c2, v, c3, hv⟩ := hr
    exact ⟨k, i, s, m, v, rfl, h1, h2, h3, c0, c1, c2, c3, hv⟩

end Go.Proofs.YtpejhilfopjckaaDoor.Dat
