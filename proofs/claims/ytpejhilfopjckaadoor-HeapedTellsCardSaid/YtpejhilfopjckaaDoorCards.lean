/-
  DERIVED. GIVEN WITH THE SEED: THE CARDS: each row of YtpejhilfopjckaaDoorRows.lean that lists a variable, with what it lists TIED to the program's text (the seventh form; the later family's looks); each row that meets fmt, with fmt's text TOLD by the authors' own Lean function (tested against real Go, not proved from fmt's source: count such statements apart). THE CARD IS WHAT COUNTS. Prove the row's statement (the work); the ties are given (YtpejhilfopjckaaDoorTie.lean); close each card by the builder's one call (the guide's Derived/Test/ToyasCard.lean, 'card_holds'). Laid BY PROGRAM, IN A SANDBOX (cutbox-door.mjs). By AI agents, Wed Nov 11 2026. No macro, syntax, notation, axiom, sorry.
-/
import Derived.Test.YtpejhilfopjckaaDoorRows
import GoSem.ClaimSeven
namespace Go.Proofs.YtpejhilfopjckaaDoor
namespace Rows

/-- THE TIED CARD OF 'scrimshawlaw08.HeapedDoes'. -/
def heapedDoesCard : Claim7 := { stood := { row := heapedDoesRow, standIns := [], harness := (true, "d628a30afa7daf6b736286c95174c60aad7db55c21920b37f3d996609e440a5e"), looks := false }, kinds := [], alts := [], laidByText := true, laidKinds := [.data], laidTests := true, laidLooks := .later }
def HeapedDoesCardSaid : Prop := Claim7.holds Tryd.pinned (.plain (OpenSpec.ofChange heapedDoesSpec)) heapedDoesCard

/-- THE TIED CARD OF 'scrimshawlaw08.HeapedTells'. -/
def heapedTellsCard : Claim7 := { stood := { row := heapedTellsRow, standIns := [], harness := (true, "d628a30afa7daf6b736286c95174c60aad7db55c21920b37f3d996609e440a5e"), looks := false }, kinds := [], alts := [], laidByText := true, laidKinds := [.data], laidTests := true, laidLooks := .later }
def HeapedTellsCardSaid : Prop := Claim7.holds Tryd.pinned (.plain (OpenSpec.ofChange heapedTellsSpec)) heapedTellsCard

/-- THE SECOND FORM's CARD OF 'scrimshawlaw08.HeapedDoes'. -/
def heapedDoesUptoCard : Claim7 := { stood := { row := heapedDoesUptoRow, standIns := [], harness := (true, "d628a30afa7daf6b736286c95174c60aad7db55c21920b37f3d996609e440a5e"), looks := false }, kinds := [], alts := [], laidByText := true, laidKinds := [.data], laidTests := true, laidLooks := .later }
def HeapedDoesUptoCardSaid : Prop := Claim7.holds Tryd.pinned (.plain (OpenSpec.upto heapedDoesSpec)) heapedDoesUptoCard

/-- THE SECOND FORM's CARD OF 'scrimshawlaw08.HeapedTells'. -/
def heapedTellsUptoCard : Claim7 := { stood := { row := heapedTellsUptoRow, standIns := [], harness := (true, "d628a30afa7daf6b736286c95174c60aad7db55c21920b37f3d996609e440a5e"), looks := false }, kinds := [], alts := [], laidByText := true, laidKinds := [.data], laidTests := true, laidLooks := .later }
def HeapedTellsUptoCardSaid : Prop := Claim7.holds Tryd.pinned (.plain (OpenSpec.upto heapedTellsSpec)) heapedTellsUptoCard
end Rows
end Go.Proofs.YtpejhilfopjckaaDoor
