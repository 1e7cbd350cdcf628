/-
  DERIVED. GIVEN WITH THE SEED: THE CARDS: each row of YthfjlcflpneffaaGreatDoorRows.lean that lists a variable, with what it lists TIED to the program's text (the seventh form; the later family's looks); each row that meets fmt, with fmt's text TOLD by the authors' own Lean function (tested against real Go, not proved from fmt's source: count such statements apart). THE CARD IS WHAT COUNTS. Prove the row's statement (the work); the ties are given (YthfjlcflpneffaaGreatDoorTie.lean); close each card by the builder's one call (the guide's Derived/Test/ToyasCard.lean, 'card_holds'). Laid BY PROGRAM, IN A SANDBOX (cutbox-door.mjs). By AI agents, Wed Nov 11 2026. No macro, syntax, notation, axiom, sorry.
-/
import Derived.Test.YthfjlcflpneffaaGreatDoorRows
import GoSem.ClaimSeven
namespace Go.Proofs.YthfjlcflpneffaaGreatDoor
namespace Rows

/-- THE TIED CARD OF 'scrimshawlaw04.SourceReads'. -/
def sourceReadsCard : Claim7 := { stood := { row := sourceReadsRow, standIns := [], harness := (true, "e79b7aa42a41bcc1a31baaec7b454047122cdb56a082e9e9a9a43c434459bb0c"), looks := true }, kinds := [], alts := [], laidByText := true, laidKinds := [.data, .data, .data, .data, .sentinel, .sentinel, .pinned], laidTests := true, laidLooks := .later }
def SourceReadsCardSaid : Prop := Claim7.holds Tryz.pinned (.plain (OpenSpec.ofChange sourceReadsSpec)) sourceReadsCard

/-- THE TIED CARD OF 'scrimshawlaw04.SourceBack'. -/
def sourceBackCard : Claim7 := { stood := { row := sourceBackRow, standIns := [], harness := (true, "e79b7aa42a41bcc1a31baaec7b454047122cdb56a082e9e9a9a43c434459bb0c"), looks := true }, kinds := [], alts := [], laidByText := true, laidKinds := [.data, .data, .data, .data, .sentinel, .sentinel, .pinned], laidTests := true, laidLooks := .later }
def SourceBackCardSaid : Prop := Claim7.holds Tryz.pinned (.plain (OpenSpec.ofChange sourceBackSpec)) sourceBackCard

/-- THE TIED CARD OF 'scrimshawlaw04.SourceAgain'. -/
def sourceAgainCard : Claim7 := { stood := { row := sourceAgainRow, standIns := [], harness := (true, "e79b7aa42a41bcc1a31baaec7b454047122cdb56a082e9e9a9a43c434459bb0c"), looks := true }, kinds := [], alts := [], laidByText := true, laidKinds := [.data, .data, .data, .data, .sentinel, .sentinel, .pinned], laidTests := true, laidLooks := .later }
def SourceAgainCardSaid : Prop := Claim7.holds Tryz.pinned (.plain (OpenSpec.ofChange sourceAgainSpec)) sourceAgainCard

/-- THE TIED CARD OF 'scrimshawlaw04.SourceJoins'. -/
def sourceJoinsCard : Claim7 := { stood := { row := sourceJoinsRow, standIns := [], harness := (true, "e79b7aa42a41bcc1a31baaec7b454047122cdb56a082e9e9a9a43c434459bb0c"), looks := true }, kinds := [], alts := [], laidByText := true, laidKinds := [.data, .data, .data, .data, .sentinel, .sentinel, .pinned], laidTests := true, laidLooks := .later }
def SourceJoinsCardSaid : Prop := Claim7.holds Tryz.pinned (.plain (OpenSpec.ofChange sourceJoinsSpec)) sourceJoinsCard

/-- THE TIED CARD OF 'scrimshawlaw04.SourceQuotes'. -/
def sourceQuotesCard : Claim7 := { stood := { row := sourceQuotesRow, standIns := [], harness := (true, "e79b7aa42a41bcc1a31baaec7b454047122cdb56a082e9e9a9a43c434459bb0c"), looks := true }, kinds := [], alts := [], laidByText := true, laidKinds := [.data, .data, .data, .data, .sentinel, .sentinel, .pinned], laidTests := true, laidLooks := .later }
def SourceQuotesCardSaid : Prop := Claim7.holds Tryz.pinned (.plain (OpenSpec.ofChange sourceQuotesSpec)) sourceQuotesCard

/-- THE TIED CARD OF 'scrimshawlaw04.SourceDots'. -/
def sourceDotsCard : Claim7 := { stood := { row := sourceDotsRow, standIns := [], harness := (true, "e79b7aa42a41bcc1a31baaec7b454047122cdb56a082e9e9a9a43c434459bb0c"), looks := true }, kinds := [], alts := [], laidByText := true, laidKinds := [.data, .data, .data, .data, .sentinel, .sentinel, .pinned], laidTests := true, laidLooks := .later }
def SourceDotsCardSaid : Prop := Claim7.holds Tryz.pinned (.plain (OpenSpec.ofChange sourceDotsSpec)) sourceDotsCard

/-- THE SECOND FORM's CARD OF 'scrimshawlaw04.SourceReads'. -/
def sourceReadsUptoCard : Claim7 := { stood := { row := sourceReadsUptoRow, standIns := [], harness := (true, "e79b7aa42a41bcc1a31baaec7b454047122cdb56a082e9e9a9a43c434459bb0c"), looks := true }, kinds := [], alts := [], laidByText := true, laidKinds := [.data, .data, .data, .data, .sentinel, .sentinel, .pinned], laidTests := true, laidLooks := .later }
def SourceReadsUptoCardSaid : Prop := Claim7.holds Tryz.pinned (.plain (OpenSpec.upto sourceReadsSpec)) sourceReadsUptoCard

/-- THE SECOND FORM's CARD OF 'scrimshawlaw04.SourceBack'. -/
def sourceBackUptoCard : Claim7 := { stood := { row := sourceBackUptoRow, standIns := [], harness := (true, "e79b7aa42a41bcc1a31baaec7b454047122cdb56a082e9e9a9a43c434459bb0c"), looks := true }, kinds := [], alts := [], laidByText := true, laidKinds := [.data, .data, .data, .data, .sentinel, .sentinel, .pinned], laidTests := true, laidLooks := .later }
def SourceBackUptoCardSaid : Prop := Claim7.holds Tryz.pinned (.plain (OpenSpec.upto sourceBackSpec)) sourceBackUptoCard

/-- THE SECOND FORM's CARD OF 'scrimshawlaw04.SourceAgain'. -/
def sourceAgainUptoCard : Claim7 := { stood := { row := sourceAgainUptoRow, standIns := [], harness := (true, "e79b7aa42a41bcc1a31baaec7b454047122cdb56a082e9e9a9a43c434459bb0c"), looks := true }, kinds := [], alts := [], laidByText := true, laidKinds := [.data, .data, .data, .data, .sentinel, .sentinel, .pinned], laidTests := true, laidLooks := .later }
def SourceAgainUptoCardSaid : Prop := Claim7.holds Tryz.pinned (.plain (OpenSpec.upto sourceAgainSpec)) sourceAgainUptoCard

/-- THE SECOND FORM's CARD OF 'scrimshawlaw04.SourceJoins'. -/
def sourceJoinsUptoCard : Claim7 := { stood := { row := sourceJoinsUptoRow, standIns := [], harness := (true, "e79b7aa42a41bcc1a31baaec7b454047122cdb56a082e9e9a9a43c434459bb0c"), looks := true }, kinds := [], alts := [], laidByText := true, laidKinds := [.data, .data, .data, .data, .sentinel, .sentinel, .pinned], laidTests := true, laidLooks := .later }
def SourceJoinsUptoCardSaid : Prop := Claim7.holds Tryz.pinned (.plain (OpenSpec.upto sourceJoinsSpec)) sourceJoinsUptoCard

/-- THE SECOND FORM's CARD OF 'scrimshawlaw04.SourceQuotes'. -/
def sourceQuotesUptoCard : Claim7 := { stood := { row := sourceQuotesUptoRow, standIns := [], harness := (true, "e79b7aa42a41bcc1a31baaec7b454047122cdb56a082e9e9a9a43c434459bb0c"), looks := true }, kinds := [], alts := [], laidByText := true, laidKinds := [.data, .data, .data, .data, .sentinel, .sentinel, .pinned], laidTests := true, laidLooks := .later }
def SourceQuotesUptoCardSaid : Prop := Claim7.holds Tryz.pinned (.plain (OpenSpec.upto sourceQuotesSpec)) sourceQuotesUptoCard

/-- THE SECOND FORM's CARD OF 'scrimshawlaw04.SourceDots'. -/
def sourceDotsUptoCard : Claim7 := { stood := { row := sourceDotsUptoRow, standIns := [], harness := (true, "e79b7aa42a41bcc1a31baaec7b454047122cdb56a082e9e9a9a43c434459bb0c"), looks := true }, kinds := [], alts := [], laidByText := true, laidKinds := [.data, .data, .data, .data, .sentinel, .sentinel, .pinned], laidTests := true, laidLooks := .later }
def SourceDotsUptoCardSaid : Prop := Claim7.holds Tryz.pinned (.plain (OpenSpec.upto sourceDotsSpec)) sourceDotsUptoCard
end Rows
end Go.Proofs.YthfjlcflpneffaaGreatDoor
