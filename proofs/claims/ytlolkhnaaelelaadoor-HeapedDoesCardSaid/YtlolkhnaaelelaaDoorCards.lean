/-
  DERIVED. GIVEN WITH THE SEED: THE CARDS: each row of YtlolkhnaaelelaaDoorRows.lean that lists a variable, with what it lists TIED to the program's text (the seventh form; the later family's looks); each row that meets fmt, with fmt's text TOLD by the authors' own Lean function (tested against real Go, not proved from fmt's source: count such statements apart). THE CARD IS WHAT COUNTS. Prove the row's statement (the work); the ties are given (YtlolkhnaaelelaaDoorTie.lean); close each card by the builder's one call (the guide's Derived/Test/ToyasCard.lean, 'card_holds'). Laid BY PROGRAM, IN A SANDBOX (cutbox-door.mjs). By AI agents, Wed Nov 11 2026. No macro, syntax, notation, axiom, sorry.
-/
import Derived.Test.YtlolkhnaaelelaaDoorRows
import GoSem.ClaimSeven
namespace Go.Proofs.YtlolkhnaaelelaaDoor
namespace Rows

/-- THE TIED CARD OF 'scrimshawlaw08.HeapedDoes'. -/
def heapedDoesCard : Claim7 := { stood := { row := heapedDoesRow, standIns := [], harness := (true, "3f7ba5b7c62a1d56b1f03245a48f74c2251779adff151e44b8eb968cb626594d"), looks := false }, kinds := [], alts := [], laidByText := true, laidKinds := [.data], laidTests := true, laidLooks := .later }
def HeapedDoesCardSaid : Prop := Claim7.holds Tryd.pinned (.plain (OpenSpec.ofChange heapedDoesSpec)) heapedDoesCard

/-- THE TIED CARD OF 'scrimshawlaw08.HeapedTells'. -/
def heapedTellsCard : Claim7 := { stood := { row := heapedTellsRow, standIns := [], harness := (true, "3f7ba5b7c62a1d56b1f03245a48f74c2251779adff151e44b8eb968cb626594d"), looks := false }, kinds := [], alts := [], laidByText := true, laidKinds := [.data], laidTests := true, laidLooks := .later }
def HeapedTellsCardSaid : Prop := Claim7.holds Tryd.pinned (.plain (OpenSpec.ofChange heapedTellsSpec)) heapedTellsCard

/-- THE TIED CARD OF 'scrimshawlaw08.HeapedOwn'. -/
def heapedOwnCard : Claim7 := { stood := { row := heapedOwnRow, standIns := [], harness := (true, "3f7ba5b7c62a1d56b1f03245a48f74c2251779adff151e44b8eb968cb626594d"), looks := false }, kinds := [], alts := [], laidByText := true, laidKinds := [.data], laidTests := true, laidLooks := .later }
def HeapedOwnCardSaid : Prop := Claim7.holds Tryd.pinned (.plain (OpenSpec.ofChange heapedOwnSpec)) heapedOwnCard

/-- THE SECOND FORM's CARD OF 'scrimshawlaw08.HeapedDoes'. -/
def heapedDoesUptoCard : Claim7 := { stood := { row := heapedDoesUptoRow, standIns := [], harness := (true, "3f7ba5b7c62a1d56b1f03245a48f74c2251779adff151e44b8eb968cb626594d"), looks := false }, kinds := [], alts := [], laidByText := true, laidKinds := [.data], laidTests := true, laidLooks := .later }
def HeapedDoesUptoCardSaid : Prop := Claim7.holds Tryd.pinned (.plain (OpenSpec.upto heapedDoesSpec)) heapedDoesUptoCard

/-- THE SECOND FORM's CARD OF 'scrimshawlaw08.HeapedTells'. -/
def heapedTellsUptoCard : Claim7 := { stood := { row := heapedTellsUptoRow, standIns := [], harness := (true, "3f7ba5b7c62a1d56b1f03245a48f74c2251779adff151e44b8eb968cb626594d"), looks := false }, kinds := [], alts := [], laidByText := true, laidKinds := [.data], laidTests := true, laidLooks := .later }
def HeapedTellsUptoCardSaid : Prop := Claim7.holds Tryd.pinned (.plain (OpenSpec.upto heapedTellsSpec)) heapedTellsUptoCard

/-- THE SECOND FORM's CARD OF 'scrimshawlaw08.HeapedOwn'. -/
def heapedOwnUptoCard : Claim7 := { stood := { row := heapedOwnUptoRow, standIns := [], harness := (true, "3f7ba5b7c62a1d56b1f03245a48f74c2251779adff151e44b8eb968cb626594d"), looks := false }, kinds := [], alts := [], laidByText := true, laidKinds := [.data], laidTests := true, laidLooks := .later }
def HeapedOwnUptoCardSaid : Prop := Claim7.holds Tryd.pinned (.plain (OpenSpec.upto heapedOwnSpec)) heapedOwnUptoCard
end Rows
end Go.Proofs.YtlolkhnaaelelaaDoor
