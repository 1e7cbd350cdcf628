/-
  NARROWER THAN 'FOR EVERY INPUT', by the rows' own cells (each row's printed sentence says how): HeapedConsts: loops, laid · HeapedKeeps: laid · HeapedPairs: loops, laid · HeapedOwn: laid.
  DERIVED. THE GIVEN ROWS OF THIS SEAT. 4 by the template 'for every input the law returns true; each argument reads behind the call as it read before'; 0 by the template 'total and deterministic' (their statements: YtcilmfjgbnfcgaaDoorTotals.lean).
  GIVEN WITH THE SEED: the statements are not yours to turn. If you find one false, say at which input.
  Laid BY PROGRAM, IN A SANDBOX (cutbox-rows.mjs): the forced cells as the released guide's own fill.sh prints them over the translation 961acb8a34ec1043… (all of the seat's roots in one cut). By AI agents, Wed Nov 11 2026. No macro, syntax, notation, axiom, sorry.
-/
import Derived.Test.YtcilmfjgbnfcgaaDoorChecked
import GoSem.Claim
import GoSem.ClaimJoined
import GoSem.ClaimMapViews
import Derived.JoinedTies
import Derived.KernelRfl
namespace Go.Proofs.YtcilmfjgbnfcgaaDoor
/- THE CELL 'sum', in the pinned program and in every row, IS THE sha256 OF THE DUMP (.gsa) THAT YtcilmfjgbnfcgaaDoorProg.lean LOADS. Nothing in Lean hashes anything: it is a label: what it is worth is what the hold of that sum in a sandbox is worth. -/
noncomputable def Tryd.pinned : Pinned := { name := "ytcilmfjgbnfcgaadoor", sum := "961acb8a34ec10439565e20d2a4f3673ec2060aecea1cf85e0dbbb37b8742edb", checked := Tryd.checked }
namespace Rows
def none {H : Type} : Left H := { results := [], args := [] }

/- WHAT THE LISTED PACKAGE-LEVEL VARIABLES READ AS WHEN THE CALL BEGINS. Each datum BY PROGRAM (the guide's laid-datum.mjs) off the statement by which the dump's own 'gosem.cut.vars' lays the variable. In a bare row this is a premise. The card (YtcilmfjgbnfcgaaDoorCards.lean) ties it to the program's text. -/
def laid_scrimshaw_heap_reckoning {H : Type} : DataW H := .agg [.lit (.string [43]), .lit (.string [45]), .lit (.string [42]), .lit (.string [113, 117, 111, 116, 105, 101, 110, 116]), .lit (.string [114, 101, 109, 97, 105, 110, 100, 101, 114])]

/-- 'scrimshawlaw08.HeapedConsts': WHATEVER THE INPUT: true; the input reads as it did. -/
def heapedConstsSpec : ChangeSpec := { name := "heapedConsts", fn := fun _ => fun
  | [d] => { results := [.lit (.bool true)], args := [d] }
  | _ => none }
def heapedConstsRow : OpenClaim := { program := "ytcilmfjgbnfcgaadoor", sum := "961acb8a34ec10439565e20d2a4f3673ec2060aecea1cf85e0dbbb37b8742edb", func := "scrimshaw/scrimshawlaw08.HeapedConsts", spec := "heapedConsts", inPlace := ["internal/bytealg.IndexByteString"], unfollowed := true, recurses := true, named := ["scrimshaw/heap.reckoning"], loops := true, apart := false, laid := [("scrimshaw/heap.reckoning", laid_scrimshaw_heap_reckoning)] }
def HeapedConstsSaid : Prop := heapedConstsRow.holds Tryd.pinned (OpenSpec.ofChange heapedConstsSpec)

/-- ITS FALSE NEIGHBOUR: 'it returns false'. Refute it at one input. -/
def heapedConstsWrong : ChangeSpec := { name := "heapedConsts", fn := fun _ => fun
  | [d] => { results := [.lit (.bool false)], args := [d] }
  | _ => none }
def HeapedConstsWrongFalsely : Prop := heapedConstsRow.holds Tryd.pinned (OpenSpec.ofChange heapedConstsWrong)

/-- 'scrimshawlaw08.HeapedKeeps': WHATEVER THE INPUT: true; the input reads as it did. -/
def heapedKeepsSpec : ChangeSpec := { name := "heapedKeeps", fn := fun _ => fun
  | [d1, d2, d3] => { results := [.lit (.bool true)], args := [d1, d2, d3] }
  | _ => none }
def heapedKeepsRow : OpenClaim := { program := "ytcilmfjgbnfcgaadoor", sum := "961acb8a34ec10439565e20d2a4f3673ec2060aecea1cf85e0dbbb37b8742edb", func := "scrimshaw/scrimshawlaw08.HeapedKeeps", spec := "heapedKeeps", inPlace := ["internal/bytealg.IndexByteString"], unfollowed := true, recurses := true, named := ["scrimshaw/heap.reckoning"], apart := false, laid := [("scrimshaw/heap.reckoning", laid_scrimshaw_heap_reckoning)] }
def HeapedKeepsSaid : Prop := heapedKeepsRow.holds Tryd.pinned (OpenSpec.ofChange heapedKeepsSpec)

/-- ITS FALSE NEIGHBOUR: 'it returns false'. Refute it at one input. -/
def heapedKeepsWrong : ChangeSpec := { name := "heapedKeeps", fn := fun _ => fun
  | [d1, d2, d3] => { results := [.lit (.bool false)], args := [d1, d2, d3] }
  | _ => none }
def HeapedKeepsWrongFalsely : Prop := heapedKeepsRow.holds Tryd.pinned (OpenSpec.ofChange heapedKeepsWrong)

/-- 'scrimshawlaw08.HeapedPairs': WHATEVER THE INPUT: true; the input reads as it did. -/
def heapedPairsSpec : ChangeSpec := { name := "heapedPairs", fn := fun _ => fun
  | [d] => { results := [.lit (.bool true)], args := [d] }
  | _ => none }
def heapedPairsRow : OpenClaim := { program := "ytcilmfjgbnfcgaadoor", sum := "961acb8a34ec10439565e20d2a4f3673ec2060aecea1cf85e0dbbb37b8742edb", func := "scrimshaw/scrimshawlaw08.HeapedPairs", spec := "heapedPairs", inPlace := ["internal/bytealg.IndexByteString"], unfollowed := true, recurses := true, named := ["scrimshaw/heap.reckoning"], loops := true, apart := false, laid := [("scrimshaw/heap.reckoning", laid_scrimshaw_heap_reckoning)] }
def HeapedPairsSaid : Prop := heapedPairsRow.holds Tryd.pinned (OpenSpec.ofChange heapedPairsSpec)

/-- ITS FALSE NEIGHBOUR: 'it returns false'. Refute it at one input. -/
def heapedPairsWrong : ChangeSpec := { name := "heapedPairs", fn := fun _ => fun
  | [d] => { results := [.lit (.bool false)], args := [d] }
  | _ => none }
def HeapedPairsWrongFalsely : Prop := heapedPairsRow.holds Tryd.pinned (OpenSpec.ofChange heapedPairsWrong)

/-- 'scrimshawlaw08.HeapedOwn': WHATEVER THE INPUT: true; the input reads as it did. -/
def heapedOwnSpec : ChangeSpec := { name := "heapedOwn", fn := fun _ => fun
  | [d] => { results := [.lit (.bool true)], args := [d] }
  | _ => none }
def heapedOwnRow : OpenClaim := { program := "ytcilmfjgbnfcgaadoor", sum := "961acb8a34ec10439565e20d2a4f3673ec2060aecea1cf85e0dbbb37b8742edb", func := "scrimshaw/scrimshawlaw08.HeapedOwn", spec := "heapedOwn", inPlace := ["internal/bytealg.IndexByteString"], unfollowed := true, recurses := true, named := ["scrimshaw/heap.reckoning"], apart := false, laid := [("scrimshaw/heap.reckoning", laid_scrimshaw_heap_reckoning)] }
def HeapedOwnSaid : Prop := heapedOwnRow.holds Tryd.pinned (OpenSpec.ofChange heapedOwnSpec)

/-- ITS FALSE NEIGHBOUR: 'it returns false'. Refute it at one input. -/
def heapedOwnWrong : ChangeSpec := { name := "heapedOwn", fn := fun _ => fun
  | [d] => { results := [.lit (.bool false)], args := [d] }
  | _ => none }
def HeapedOwnWrongFalsely : Prop := heapedOwnRow.holds Tryd.pinned (OpenSpec.ofChange heapedOwnWrong)

/- THE SECOND FORM. 'bulk': how many values and letters a reading holds, each counted each time it is reached (what is shared counts as often as it is met; a slice's spare places count too). A statement '..UptoSaid' is the law's where the arguments, and the package variables that the reading takes, are together of bulk at most 1048576: NARROWER than '..Said'. Prove '..Said' where nothing that the law and all that it calls make is longer than what came in: it says more and counts as full. Else prove '..UptoSaid'. A law counts once. -/
mutual
def uptoBulk {H : Type} : DataW H → Nat
  | .lit (.string bytes) => bytes.length + 1
  | .lit _ => 1
  | .nil => 1
  | .ptr d => uptoBulk d + 1
  | .slice elems spare => uptoBulkAll elems + uptoBulkAll spare + 1
  | .agg parts => uptoBulkAll parts + 1
  | .iface _ d => uptoBulk d + 1
  | .map entries => uptoBulkEntries entries + 1
  | .held _ => 1
def uptoBulkAll {H : Type} : List (DataW H) → Nat
  | [] => 0
  | d :: r => uptoBulk d + uptoBulkAll r
def uptoBulkEntries {H : Type} : List (Lit × DataW H) → Nat
  | [] => 0
  | x :: r => uptoBulkEntry x + uptoBulkEntries r
def uptoBulkEntry {H : Type} : Lit × DataW H → Nat
  | (.string bytes, d) => bytes.length + uptoBulk d + 1
  | (_, d) => uptoBulk d + 1
 end
def uptoSmall : (H : Type) → List (DataW H) → Bool := fun _ ds => decide (uptoBulkAll ds ≤ 1048576)
def OpenSpec.upto (s : _root_.Go.ChangeSpec) : _root_.Go.OpenSpec := { _root_.Go.OpenSpec.ofChange s with cond := some uptoSmall }

/-- 'scrimshawlaw08.HeapedConsts', WHERE WHAT IT READS IS OF BULK AT MOST 1048576: true; the input reads as it did. -/
def heapedConstsUptoRow : OpenClaim := { program := "ytcilmfjgbnfcgaadoor", sum := "961acb8a34ec10439565e20d2a4f3673ec2060aecea1cf85e0dbbb37b8742edb", func := "scrimshaw/scrimshawlaw08.HeapedConsts", spec := "heapedConsts", inPlace := ["internal/bytealg.IndexByteString"], unfollowed := true, recurses := true, named := ["scrimshaw/heap.reckoning"], loops := true, apart := false, laid := [("scrimshaw/heap.reckoning", laid_scrimshaw_heap_reckoning)], narrowed := true }
def HeapedConstsUptoSaid : Prop := heapedConstsUptoRow.holds Tryd.pinned (OpenSpec.upto heapedConstsSpec)

/-- 'scrimshawlaw08.HeapedKeeps', WHERE WHAT IT READS IS OF BULK AT MOST 1048576: true; the input reads as it did. -/
def heapedKeepsUptoRow : OpenClaim := { program := "ytcilmfjgbnfcgaadoor", sum := "961acb8a34ec10439565e20d2a4f3673ec2060aecea1cf85e0dbbb37b8742edb", func := "scrimshaw/scrimshawlaw08.HeapedKeeps", spec := "heapedKeeps", inPlace := ["internal/bytealg.IndexByteString"], unfollowed := true, recurses := true, named := ["scrimshaw/heap.reckoning"], apart := false, laid := [("scrimshaw/heap.reckoning", laid_scrimshaw_heap_reckoning)], narrowed := true }
def HeapedKeepsUptoSaid : Prop := heapedKeepsUptoRow.holds Tryd.pinned (OpenSpec.upto heapedKeepsSpec)

/-- 'scrimshawlaw08.HeapedPairs', WHERE WHAT IT READS IS OF BULK AT MOST 1048576: true; the input reads as it did. -/
def heapedPairsUptoRow : OpenClaim := { program := "ytcilmfjgbnfcgaadoor", sum := "961acb8a34ec10439565e20d2a4f3673ec2060aecea1cf85e0dbbb37b8742edb", func := "scrimshaw/scrimshawlaw08.HeapedPairs", spec := "heapedPairs", inPlace := ["internal/bytealg.IndexByteString"], unfollowed := true, recurses := true, named := ["scrimshaw/heap.reckoning"], loops := true, apart := false, laid := [("scrimshaw/heap.reckoning", laid_scrimshaw_heap_reckoning)], narrowed := true }
def HeapedPairsUptoSaid : Prop := heapedPairsUptoRow.holds Tryd.pinned (OpenSpec.upto heapedPairsSpec)

/-- 'scrimshawlaw08.HeapedOwn', WHERE WHAT IT READS IS OF BULK AT MOST 1048576: true; the input reads as it did. -/
def heapedOwnUptoRow : OpenClaim := { program := "ytcilmfjgbnfcgaadoor", sum := "961acb8a34ec10439565e20d2a4f3673ec2060aecea1cf85e0dbbb37b8742edb", func := "scrimshaw/scrimshawlaw08.HeapedOwn", spec := "heapedOwn", inPlace := ["internal/bytealg.IndexByteString"], unfollowed := true, recurses := true, named := ["scrimshaw/heap.reckoning"], apart := false, laid := [("scrimshaw/heap.reckoning", laid_scrimshaw_heap_reckoning)], narrowed := true }
def HeapedOwnUptoSaid : Prop := heapedOwnUptoRow.holds Tryd.pinned (OpenSpec.upto heapedOwnSpec)

end Rows
end Go.Proofs.YtcilmfjgbnfcgaaDoor
