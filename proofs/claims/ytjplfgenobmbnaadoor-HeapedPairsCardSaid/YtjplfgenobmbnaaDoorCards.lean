/-
  DERIVED. GIVEN WITH THE SEED: THE CARDS: each row of YtjplfgenobmbnaaDoorRows.lean that lists a variable, with what it lists TIED to the program's text (the seventh form; the later family's looks); each row that meets fmt, with fmt's text TOLD by the authors' own Lean function (tested against real Go, not proved from fmt's source: count such statements apart). THE CARD IS WHAT COUNTS. Prove the row's statement (the work); the ties are given (YtjplfgenobmbnaaDoorTie.lean); close each card by the builder's one call (the guide's Derived/Test/ToyasCard.lean, 'card_holds'). Laid BY PROGRAM, IN A SANDBOX (cutbox-door.mjs). By AI agents, Wed Nov 11 2026. No macro, syntax, notation, axiom, sorry.
-/
import Derived.Test.YtjplfgenobmbnaaDoorRows
import GoSem.ClaimSeven
namespace Go.Proofs.YtjplfgenobmbnaaDoor
namespace Rows

/-- THE TIED CARD OF 'scrimshawlaw08.HeapedConsts'. -/
def heapedConstsCard : Claim7 := { stood := { row := heapedConstsRow, standIns := [], harness := (true, "56aa5a729090d1f9177508b98a90057d9216fa42d9b9ed1bacce9ec50a2b4720"), looks := false }, kinds := [], alts := [], laidByText := true, laidKinds := [.data], laidTests := true, laidLooks := .later }
def HeapedConstsCardSaid : Prop := Claim7.holds Tryd.pinned (.plain (OpenSpec.ofChange heapedConstsSpec)) heapedConstsCard

/-- THE TIED CARD OF 'scrimshawlaw08.HeapedPairs'. -/
def heapedPairsCard : Claim7 := { stood := { row := heapedPairsRow, standIns := [], harness := (true, "56aa5a729090d1f9177508b98a90057d9216fa42d9b9ed1bacce9ec50a2b4720"), looks := false }, kinds := [], alts := [], laidByText := true, laidKinds := [.data], laidTests := true, laidLooks := .later }
def HeapedPairsCardSaid : Prop := Claim7.holds Tryd.pinned (.plain (OpenSpec.ofChange heapedPairsSpec)) heapedPairsCard

/-- THE SECOND FORM's CARD OF 'scrimshawlaw08.HeapedConsts'. -/
def heapedConstsUptoCard : Claim7 := { stood := { row := heapedConstsUptoRow, standIns := [], harness := (true, "56aa5a729090d1f9177508b98a90057d9216fa42d9b9ed1bacce9ec50a2b4720"), looks := false }, kinds := [], alts := [], laidByText := true, laidKinds := [.data], laidTests := true, laidLooks := .later }
def HeapedConstsUptoCardSaid : Prop := Claim7.holds Tryd.pinned (.plain (OpenSpec.upto heapedConstsSpec)) heapedConstsUptoCard

/-- THE SECOND FORM's CARD OF 'scrimshawlaw08.HeapedPairs'. -/
def heapedPairsUptoCard : Claim7 := { stood := { row := heapedPairsUptoRow, standIns := [], harness := (true, "56aa5a729090d1f9177508b98a90057d9216fa42d9b9ed1bacce9ec50a2b4720"), looks := false }, kinds := [], alts := [], laidByText := true, laidKinds := [.data], laidTests := true, laidLooks := .later }
def HeapedPairsUptoCardSaid : Prop := Claim7.holds Tryd.pinned (.plain (OpenSpec.upto heapedPairsSpec)) heapedPairsUptoCard
end Rows
end Go.Proofs.YtjplfgenobmbnaaDoor
