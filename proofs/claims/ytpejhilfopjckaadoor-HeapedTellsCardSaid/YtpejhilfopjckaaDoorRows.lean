/-
  NARROWER THAN 'FOR EVERY INPUT', by the rows' own cells (each row's printed sentence says how): HeapedDoes: laid · HeapedTells: laid.
  DERIVED. THE GIVEN ROWS OF THIS SEAT. 2 by the template 'for every input the law returns true; each argument reads behind the call as it read before'; 0 by the template 'total and deterministic' (their statements: YtpejhilfopjckaaDoorTotals.lean).
  GIVEN WITH THE SEED: the statements are not yours to turn. If you find one false, say at which input.
  Laid BY PROGRAM, IN A SANDBOX (cutbox-rows.mjs): the forced cells as the released guide's own fill.sh prints them over the translation b66a6b6ea0c8ae5b… (all of the seat's roots in one cut). By AI agents, Wed Nov 11 2026. No macro, syntax, notation, axiom, sorry.
-/
import Derived.Test.YtpejhilfopjckaaDoorChecked
import GoSem.Claim
import GoSem.ClaimJoined
import GoSem.ClaimMapViews
import Derived.JoinedTies
import Derived.KernelRfl
namespace Go.Proofs.YtpejhilfopjckaaDoor
/- THE CELL 'sum', in the pinned program and in every row, IS THE sha256 OF THE DUMP (.gsa) THAT YtpejhilfopjckaaDoorProg.lean LOADS. Nothing in Lean hashes anything: it is a label: what it is worth is what the hold of that sum in a sandbox is worth. -/
noncomputable def Tryd.pinned : Pinned := { name := "ytpejhilfopjckaadoor", sum := "b66a6b6ea0c8ae5bd59a1d5013cd72cb941a3e9d6ab4f51265e4b22ebd36a183", checked := Tryd.checked }
namespace Rows
def none {H : Type} : Left H := { results := [], args := [] }

/- WHAT THE LISTED PACKAGE-LEVEL VARIABLES READ AS WHEN THE CALL BEGINS. Each datum BY PROGRAM (the guide's laid-datum.mjs) off the statement by which the dump's own 'gosem.cut.vars' lays the variable. In a bare row this is a premise. The card (YtpejhilfopjckaaDoorCards.lean) ties it to the program's text. -/
def laid_scrimshaw_heap_reckoning {H : Type} : DataW H := .agg [.lit (.string [43]), .lit (.string [45]), .lit (.string [42]), .lit (.string [113, 117, 111, 116, 105, 101, 110, 116]), .lit (.string [114, 101, 109, 97, 105, 110, 100, 101, 114])]

/-- 'scrimshawlaw08.HeapedDoes': WHATEVER THE INPUT: true; the input reads as it did. -/
def heapedDoesSpec : ChangeSpec := { name := "heapedDoes", fn := fun _ => fun
  | [d] => { results := [.lit (.bool true)], args := [d] }
  | _ => none }
def heapedDoesRow : OpenClaim := { program := "ytpejhilfopjckaadoor", sum := "b66a6b6ea0c8ae5bd59a1d5013cd72cb941a3e9d6ab4f51265e4b22ebd36a183", func := "scrimshaw/scrimshawlaw08.HeapedDoes", spec := "heapedDoes", inPlace := ["internal/bytealg.IndexByteString"], unfollowed := true, recurses := true, named := ["scrimshaw/heap.reckoning"], apart := false, laid := [("scrimshaw/heap.reckoning", laid_scrimshaw_heap_reckoning)] }
def HeapedDoesSaid : Prop := heapedDoesRow.holds Tryd.pinned (OpenSpec.ofChange heapedDoesSpec)

/-- ITS FALSE NEIGHBOUR: 'it returns false'. Refute it at one input. -/
def heapedDoesWrong : ChangeSpec := { name := "heapedDoes", fn := fun _ => fun
  | [d] => { results := [.lit (.bool false)], args := [d] }
  | _ => none }
def HeapedDoesWrongFalsely : Prop := heapedDoesRow.holds Tryd.pinned (OpenSpec.ofChange heapedDoesWrong)

/-- 'scrimshawlaw08.HeapedTells': WHATEVER THE INPUT: true; the input reads as it did. -/
def heapedTellsSpec : ChangeSpec := { name := "heapedTells", fn := fun _ => fun
  | [d1, d2] => { results := [.lit (.bool true)], args := [d1, d2] }
  | _ => none }
def heapedTellsRow : OpenClaim := { program := "ytpejhilfopjckaadoor", sum := "b66a6b6ea0c8ae5bd59a1d5013cd72cb941a3e9d6ab4f51265e4b22ebd36a183", func := "scrimshaw/scrimshawlaw08.HeapedTells", spec := "heapedTells", inPlace := ["internal/bytealg.IndexByteString"], unfollowed := true, recurses := true, named := ["scrimshaw/heap.reckoning"], apart := false, laid := [("scrimshaw/heap.reckoning", laid_scrimshaw_heap_reckoning)] }
def HeapedTellsSaid : Prop := heapedTellsRow.holds Tryd.pinned (OpenSpec.ofChange heapedTellsSpec)

/-- ITS FALSE NEIGHBOUR: 'it returns false'. Refute it at one input. -/
def heapedTellsWrong : ChangeSpec := { name := "heapedTells", fn := fun _ => fun
  | [d1, d2] => { results := [.lit (.bool false)], args := [d1, d2] }
  | _ => none }
def HeapedTellsWrongFalsely : Prop := heapedTellsRow.holds Tryd.pinned (OpenSpec.ofChange heapedTellsWrong)

/- THE SECOND FORM. 'bulk': how many values and letters a reading holds, each counted each time it is reached (what is shared counts as often as it is met; a slice's spare places count too). A statement '..UptoSaid' is the law's where the arguments, and the package variables that the reading takes, are together of bulk at most 1048576: NARROWER than '..Said'. Prove '..Said' where nothing that the law and all that it calls make is longer than what came in: it says more and counts as full. Else prove '..UptoSaid'. A law counts once. -/
mutual
def uptoBulk {H : Type} : DataW H → Nat
  | .lit (.string bytes) => bytes.length + 1
  | .lit _ => 1
  | .nil => 1
  | .ptr d => uptoBulk d + 1
  | .slice elems spare => uptoBulkAll elems + uptoBulkAll spare + 1
  | .agg parts => uptoBulkAll parts + 1
  | .iface _ d => uptoBulk d + 1
  | .map entries => uptoBulkEntries entries + 1
  | .held _ => 1
def uptoBulkAll {H : Type} : List (DataW H) → Nat
  | [] => 0
  | d :: r => uptoBulk d + uptoBulkAll r
def uptoBulkEntries {H : Type} : List (Lit × DataW H) → Nat
  | [] => 0
  | x :: r => uptoBulkEntry x + uptoBulkEntries r
def uptoBulkEntry {H : Type} : Lit × DataW H → Nat
  | (.string bytes, d) => bytes.length + uptoBulk d + 1
  | (_, d) => uptoBulk d + 1
 end
def uptoSmall : (H : Type) → List (DataW H) → Bool := fun _ ds => decide (uptoBulkAll ds ≤ 1048576)
def OpenSpec.upto (s : _root_.Go.ChangeSpec) : _root_.Go.OpenSpec := { _root_.Go.OpenSpec.ofChange s with cond := some uptoSmall }

/-- 'scrimshawlaw08.HeapedDoes', WHERE WHAT IT READS IS OF BULK AT MOST 1048576: true; the input reads as it did. -/
def heapedDoesUptoRow : OpenClaim := { program := "ytpejhilfopjckaadoor", sum := "b66a6b6ea0c8ae5bd59a1d5013cd72cb941a3e9d6ab4f51265e4b22ebd36a183", func := "scrimshaw/scrimshawlaw08.HeapedDoes", spec := "heapedDoes", inPlace := ["internal/bytealg.IndexByteString"], unfollowed := true, recurses := true, named := ["scrimshaw/heap.reckoning"], apart := false, laid := [("scrimshaw/heap.reckoning", laid_scrimshaw_heap_reckoning)], narrowed := true }
def HeapedDoesUptoSaid : Prop := heapedDoesUptoRow.holds Tryd.pinned (OpenSpec.upto heapedDoesSpec)

/-- 'scrimshawlaw08.HeapedTells', WHERE WHAT IT READS IS OF BULK AT MOST 1048576: true; the input reads as it did. -/
def heapedTellsUptoRow : OpenClaim := { program := "ytpejhilfopjckaadoor", sum := "b66a6b6ea0c8ae5bd59a1d5013cd72cb941a3e9d6ab4f51265e4b22ebd36a183", func := "scrimshaw/scrimshawlaw08.HeapedTells", spec := "heapedTells", inPlace := ["internal/bytealg.IndexByteString"], unfollowed := true, recurses := true, named := ["scrimshaw/heap.reckoning"], apart := false, laid := [("scrimshaw/heap.reckoning", laid_scrimshaw_heap_reckoning)], narrowed := true }
def HeapedTellsUptoSaid : Prop := heapedTellsUptoRow.holds Tryd.pinned (OpenSpec.upto heapedTellsSpec)

end Rows
end Go.Proofs.YtpejhilfopjckaaDoor
