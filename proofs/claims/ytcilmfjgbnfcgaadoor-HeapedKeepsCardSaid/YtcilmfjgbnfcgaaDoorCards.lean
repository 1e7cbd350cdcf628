/-
  DERIVED. GIVEN WITH THE SEED: THE CARDS: each row of YtcilmfjgbnfcgaaDoorRows.lean that lists a variable, with what it lists TIED to the program's text (the seventh form; the later family's looks); each row that meets fmt, with fmt's text TOLD by the authors' own Lean function (tested against real Go, not proved from fmt's source: count such statements apart). THE CARD IS WHAT COUNTS. Prove the row's statement (the work); the ties are given (YtcilmfjgbnfcgaaDoorTie.lean); close each card by the builder's one call (the guide's Derived/Test/ToyasCard.lean, 'card_holds'). Laid BY PROGRAM, IN A SANDBOX (cutbox-door.mjs). By AI agents, Wed Nov 11 2026. No macro, syntax, notation, axiom, sorry.
-/
import Derived.Test.YtcilmfjgbnfcgaaDoorRows
import GoSem.ClaimSeven
namespace Go.Proofs.YtcilmfjgbnfcgaaDoor
namespace Rows

/-- THE TIED CARD OF 'scrimshawlaw08.HeapedConsts'. -/
def heapedConstsCard : Claim7 := { stood := { row := heapedConstsRow, standIns := [], harness := (true, "e1a019ded0a39eb4fb48b0c8b18db7323aa4bd18f27467737c0aa43efd250e12"), looks := false }, kinds := [], alts := [], laidByText := true, laidKinds := [.data], laidTests := true, laidLooks := .later }
def HeapedConstsCardSaid : Prop := Claim7.holds Tryd.pinned (.plain (OpenSpec.ofChange heapedConstsSpec)) heapedConstsCard

/-- THE TIED CARD OF 'scrimshawlaw08.HeapedKeeps'. -/
def heapedKeepsCard : Claim7 := { stood := { row := heapedKeepsRow, standIns := [], harness := (true, "e1a019ded0a39eb4fb48b0c8b18db7323aa4bd18f27467737c0aa43efd250e12"), looks := false }, kinds := [], alts := [], laidByText := true, laidKinds := [.data], laidTests := true, laidLooks := .later }
def HeapedKeepsCardSaid : Prop := Claim7.holds Tryd.pinned (.plain (OpenSpec.ofChange heapedKeepsSpec)) heapedKeepsCard

/-- THE TIED CARD OF 'scrimshawlaw08.HeapedPairs'. -/
def heapedPairsCard : Claim7 := { stood := { row := heapedPairsRow, standIns := [], harness := (true, "e1a019ded0a39eb4fb48b0c8b18db7323aa4bd18f27467737c0aa43efd250e12"), looks := false }, kinds := [], alts := [], laidByText := true, laidKinds := [.data], laidTests := true, laidLooks := .later }
def HeapedPairsCardSaid : Prop := Claim7.holds Tryd.pinned (.plain (OpenSpec.ofChange heapedPairsSpec)) heapedPairsCard

/-- THE TIED CARD OF 'scrimshawlaw08.HeapedOwn'. -/
def heapedOwnCard : Claim7 := { stood := { row := heapedOwnRow, standIns := [], harness := (true, "e1a019ded0a39eb4fb48b0c8b18db7323aa4bd18f27467737c0aa43efd250e12"), looks := false }, kinds := [], alts := [], laidByText := true, laidKinds := [.data], laidTests := true, laidLooks := .later }
def HeapedOwnCardSaid : Prop := Claim7.holds Tryd.pinned (.plain (OpenSpec.ofChange heapedOwnSpec)) heapedOwnCard

/-- THE SECOND FORM's CARD OF 'scrimshawlaw08.HeapedConsts'. -/
def heapedConstsUptoCard : Claim7 := { stood := { row := heapedConstsUptoRow, standIns := [], harness := (true, "e1a019ded0a39eb4fb48b0c8b18db7323aa4bd18f27467737c0aa43efd250e12"), looks := false }, kinds := [], alts := [], laidByText := true, laidKinds := [.data], laidTests := true, laidLooks := .later }
def HeapedConstsUptoCardSaid : Prop := Claim7.holds Tryd.pinned (.plain (OpenSpec.upto heapedConstsSpec)) heapedConstsUptoCard

/-- THE SECOND FORM's CARD OF 'scrimshawlaw08.HeapedKeeps'. -/
def heapedKeepsUptoCard : Claim7 := { stood := { row := heapedKeepsUptoRow, standIns := [], harness := (true, "e1a019ded0a39eb4fb48b0c8b18db7323aa4bd18f27467737c0aa43efd250e12"), looks := false }, kinds := [], alts := [], laidByText := true, laidKinds := [.data], laidTests := true, laidLooks := .later }
def HeapedKeepsUptoCardSaid : Prop := Claim7.holds Tryd.pinned (.plain (OpenSpec.upto heapedKeepsSpec)) heapedKeepsUptoCard

/-- THE SECOND FORM's CARD OF 'scrimshawlaw08.HeapedPairs'. -/
def heapedPairsUptoCard : Claim7 := { stood := { row := heapedPairsUptoRow, standIns := [], harness := (true, "e1a019ded0a39eb4fb48b0c8b18db7323aa4bd18f27467737c0aa43efd250e12"), looks := false }, kinds := [], alts := [], laidByText := true, laidKinds := [.data], laidTests := true, laidLooks := .later }
def HeapedPairsUptoCardSaid : Prop := Claim7.holds Tryd.pinned (.plain (OpenSpec.upto heapedPairsSpec)) heapedPairsUptoCard

/-- THE SECOND FORM's CARD OF 'scrimshawlaw08.HeapedOwn'. -/
def heapedOwnUptoCard : Claim7 := { stood := { row := heapedOwnUptoRow, standIns := [], harness := (true, "e1a019ded0a39eb4fb48b0c8b18db7323aa4bd18f27467737c0aa43efd250e12"), looks := false }, kinds := [], alts := [], laidByText := true, laidKinds := [.data], laidTests := true, laidLooks := .later }
def HeapedOwnUptoCardSaid : Prop := Claim7.holds Tryd.pinned (.plain (OpenSpec.upto heapedOwnSpec)) heapedOwnUptoCard
end Rows
end Go.Proofs.YtcilmfjgbnfcgaaDoor
