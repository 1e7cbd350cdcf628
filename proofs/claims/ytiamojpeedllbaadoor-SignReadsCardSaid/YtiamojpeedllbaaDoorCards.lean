/-
  DERIVED. GIVEN WITH THE SEED: THE CARDS: each row of YtiamojpeedllbaaDoorRows.lean that lists a variable, with what it lists TIED to the program's text (the seventh form; the later family's looks); each row that meets fmt, with fmt's text TOLD by the authors' own Lean function (tested against real Go, not proved from fmt's source: count such statements apart). THE CARD IS WHAT COUNTS. Prove the row's statement (the work); the ties are given (YtiamojpeedllbaaDoorTie.lean); close each card by the builder's one call (the guide's Derived/Test/ToyasCard.lean, 'card_holds'). Laid BY PROGRAM, IN A SANDBOX (cutbox-door.mjs). By AI agents, Wed Nov 11 2026. No macro, syntax, notation, axiom, sorry.
-/
import Derived.Test.YtiamojpeedllbaaDoorRows
import GoSem.ClaimSeven
namespace Go.Proofs.YtiamojpeedllbaaDoor
namespace Rows

/-- THE TIED CARD OF 'scrimshawlaw03.SignReads'. -/
def signReadsCard : Claim7 := { stood := { row := signReadsRow, standIns := [], harness := (true, "fc8d3e61cf1beaaee9c547e81dcf29fed77fc8502f8737fbc6b849811a981467"), looks := true }, kinds := [], alts := [], laidByText := true, laidKinds := [.data, .data, .data, .data, .sentinel, .sentinel, .pinned], laidTests := true, laidLooks := .later }
def SignReadsCardSaid : Prop := Claim7.holds Tryd.pinned (.plain (OpenSpec.ofChange signReadsSpec)) signReadsCard

/-- THE SECOND FORM's CARD OF 'scrimshawlaw03.SignReads'. -/
def signReadsUptoCard : Claim7 := { stood := { row := signReadsUptoRow, standIns := [], harness := (true, "fc8d3e61cf1beaaee9c547e81dcf29fed77fc8502f8737fbc6b849811a981467"), looks := true }, kinds := [], alts := [], laidByText := true, laidKinds := [.data, .data, .data, .data, .sentinel, .sentinel, .pinned], laidTests := true, laidLooks := .later }
def SignReadsUptoCardSaid : Prop := Claim7.holds Tryd.pinned (.plain (OpenSpec.upto signReadsSpec)) signReadsUptoCard
end Rows
end Go.Proofs.YtiamojpeedllbaaDoor
