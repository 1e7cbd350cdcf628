/-
  DERIVED. GIVEN WITH THE SEED: THE CARDS: each row of YtjofdlnopchaeaaGreatDoorRows.lean that lists a variable, with what it lists TIED to the program's text (the seventh form; the later family's looks); each row that meets fmt, with fmt's text TOLD by the authors' own Lean function (tested against real Go, not proved from fmt's source: count such statements apart). THE CARD IS WHAT COUNTS. Prove the row's statement (the work); the ties are given (YtjofdlnopchaeaaGreatDoorTie.lean); close each card by the builder's one call (the guide's Derived/Test/ToyasCard.lean, 'card_holds'). Laid BY PROGRAM, IN A SANDBOX (cutbox-door.mjs). By AI agents, Wed Nov 11 2026. No macro, syntax, notation, axiom, sorry.
-/
import Derived.Test.YtjofdlnopchaeaaGreatDoorRows
import GoSem.ClaimSeven
namespace Go.Proofs.YtjofdlnopchaeaaGreatDoor
namespace Rows

/-- THE TIED CARD OF 'scrimshawlaw06.CoreRenames'. -/
def coreRenamesCard : Claim7 := { stood := { row := coreRenamesRow, standIns := [], harness := (true, "fb87e540e767fac0a8db0b8a1ae46a0ed82321da9110da12e89a9bbdc6f7e4c5"), looks := false }, kinds := [], alts := [], laidByText := true, laidKinds := [.data, .data, .data], laidTests := true, laidLooks := .later }
def CoreRenamesCardSaid : Prop := Claim7.holds Tryz.pinned (.plain (OpenSpec.ofChange coreRenamesSpec)) coreRenamesCard

/-- THE TIED CARD OF 'scrimshawlaw06.CoreUnique'. -/
def coreUniqueCard : Claim7 := { stood := { row := coreUniqueRow, standIns := [], harness := (true, "fb87e540e767fac0a8db0b8a1ae46a0ed82321da9110da12e89a9bbdc6f7e4c5"), looks := false }, kinds := [], alts := [], laidByText := true, laidKinds := [.data, .data, .data], laidTests := true, laidLooks := .later }
def CoreUniqueCardSaid : Prop := Claim7.holds Tryz.pinned (.plain (OpenSpec.ofChange coreUniqueSpec)) coreUniqueCard

/-- THE TIED CARD OF 'scrimshawlaw06.CoreTells'. -/
def coreTellsCard : Claim7 := { stood := { row := coreTellsRow, standIns := [], harness := (true, "fb87e540e767fac0a8db0b8a1ae46a0ed82321da9110da12e89a9bbdc6f7e4c5"), looks := false }, kinds := [], alts := [], laidByText := true, laidKinds := [.data, .data, .data], laidTests := true, laidLooks := .later }
def CoreTellsCardSaid : Prop := Claim7.holds Tryz.pinned (.plain (OpenSpec.ofChange coreTellsSpec)) coreTellsCard

/-- THE TIED CARD OF 'scrimshawlaw06.CoreBack'. -/
def coreBackCard : Claim7 := { stood := { row := coreBackRow, standIns := [], harness := (true, "fb87e540e767fac0a8db0b8a1ae46a0ed82321da9110da12e89a9bbdc6f7e4c5"), looks := false }, kinds := [], alts := [], laidByText := true, laidKinds := [.data, .data, .data], laidTests := true, laidLooks := .later }
def CoreBackCardSaid : Prop := Claim7.holds Tryz.pinned (.plain (OpenSpec.ofChange coreBackSpec)) coreBackCard

/-- THE SECOND FORM's CARD OF 'scrimshawlaw06.CoreRenames'. -/
def coreRenamesUptoCard : Claim7 := { stood := { row := coreRenamesUptoRow, standIns := [], harness := (true, "fb87e540e767fac0a8db0b8a1ae46a0ed82321da9110da12e89a9bbdc6f7e4c5"), looks := false }, kinds := [], alts := [], laidByText := true, laidKinds := [.data, .data, .data], laidTests := true, laidLooks := .later }
def CoreRenamesUptoCardSaid : Prop := Claim7.holds Tryz.pinned (.plain (OpenSpec.upto coreRenamesSpec)) coreRenamesUptoCard

/-- THE SECOND FORM's CARD OF 'scrimshawlaw06.CoreUnique'. -/
def coreUniqueUptoCard : Claim7 := { stood := { row := coreUniqueUptoRow, standIns := [], harness := (true, "fb87e540e767fac0a8db0b8a1ae46a0ed82321da9110da12e89a9bbdc6f7e4c5"), looks := false }, kinds := [], alts := [], laidByText := true, laidKinds := [.data, .data, .data], laidTests := true, laidLooks := .later }
def CoreUniqueUptoCardSaid : Prop := Claim7.holds Tryz.pinned (.plain (OpenSpec.upto coreUniqueSpec)) coreUniqueUptoCard

/-- THE SECOND FORM's CARD OF 'scrimshawlaw06.CoreTells'. -/
def coreTellsUptoCard : Claim7 := { stood := { row := coreTellsUptoRow, standIns := [], harness := (true, "fb87e540e767fac0a8db0b8a1ae46a0ed82321da9110da12e89a9bbdc6f7e4c5"), looks := false }, kinds := [], alts := [], laidByText := true, laidKinds := [.data, .data, .data], laidTests := true, laidLooks := .later }
def CoreTellsUptoCardSaid : Prop := Claim7.holds Tryz.pinned (.plain (OpenSpec.upto coreTellsSpec)) coreTellsUptoCard

/-- THE SECOND FORM's CARD OF 'scrimshawlaw06.CoreBack'. -/
def coreBackUptoCard : Claim7 := { stood := { row := coreBackUptoRow, standIns := [], harness := (true, "fb87e540e767fac0a8db0b8a1ae46a0ed82321da9110da12e89a9bbdc6f7e4c5"), looks := false }, kinds := [], alts := [], laidByText := true, laidKinds := [.data, .data, .data], laidTests := true, laidLooks := .later }
def CoreBackUptoCardSaid : Prop := Claim7.holds Tryz.pinned (.plain (OpenSpec.upto coreBackSpec)) coreBackUptoCard
end Rows
end Go.Proofs.YtjofdlnopchaeaaGreatDoor
