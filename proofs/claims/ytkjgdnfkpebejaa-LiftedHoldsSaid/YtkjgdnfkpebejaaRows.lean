/-
  NARROWER THAN 'FOR EVERY INPUT', by the rows' own cells (each row's printed sentence says how): LiftedTells: loops · LiftedBack: loops.
  DERIVED. THE GIVEN ROWS OF THIS SEAT. 3 by the template 'for every input the law returns true; each argument reads behind the call as it read before'; 0 by the template 'total and deterministic' (their statements: YtkjgdnfkpebejaaTotals.lean).
  GIVEN WITH THE SEED: the statements are not yours to turn. If you find one false, say at which input.
  Laid BY PROGRAM, IN A SANDBOX (cutbox-rows.mjs): the forced cells as the released guide's own fill.sh prints them over the translation b04c17fd14c5b369… (all of the seat's roots in one cut). By AI agents, Wed Nov 11 2026. No macro, syntax, notation, axiom, sorry.
-/
import Derived.Test.YtkjgdnfkpebejaaChecked
import GoSem.Claim
import GoSem.ClaimJoined
import GoSem.ClaimMapViews
import Derived.JoinedTies
import Derived.KernelRfl
namespace Go.Proofs.Ytkjgdnfkpebejaa
/- THE CELL 'sum', in the pinned program and in every row, IS THE sha256 OF THE DUMP (.gsa) THAT YtkjgdnfkpebejaaProg.lean LOADS. Nothing in Lean hashes anything: it is a label: what it is worth is what the hold of that sum in a sandbox is worth. -/
noncomputable def Try.pinned : Pinned := { name := "ytkjgdnfkpebejaa", sum := "b04c17fd14c5b3691dcd0730775a53d911622a08cf660905ee32afc05e638ef5", checked := Try.checked }
namespace Rows
def none {H : Type} : Left H := { results := [], args := [] }

/-- 'scrimshawlaw14.LiftedTells': WHATEVER THE INPUT: true; the input reads as it did. -/
def liftedTellsSpec : ChangeSpec := { name := "liftedTells", fn := fun _ => fun
  | [d] => { results := [.lit (.bool true)], args := [d] }
  | _ => none }
def liftedTellsRow : OpenClaim := { program := "ytkjgdnfkpebejaa", sum := "b04c17fd14c5b3691dcd0730775a53d911622a08cf660905ee32afc05e638ef5", func := "scrimshaw/scrimshawlaw14.LiftedTells", spec := "liftedTells", inPlace := ["internal/bytealg.IndexByteString"], unfollowed := true, recurses := true, loops := true, apart := false }
def LiftedTellsSaid : Prop := liftedTellsRow.holds Try.pinned (OpenSpec.ofChange liftedTellsSpec)

/-- ITS FALSE NEIGHBOUR: 'it returns false'. Refute it at one input. -/
def liftedTellsWrong : ChangeSpec := { name := "liftedTells", fn := fun _ => fun
  | [d] => { results := [.lit (.bool false)], args := [d] }
  | _ => none }
def LiftedTellsWrongFalsely : Prop := liftedTellsRow.holds Try.pinned (OpenSpec.ofChange liftedTellsWrong)

/-- 'scrimshawlaw14.LiftedBack': WHATEVER THE INPUT: true; the input reads as it did. -/
def liftedBackSpec : ChangeSpec := { name := "liftedBack", fn := fun _ => fun
  | [d1, d2] => { results := [.lit (.bool true)], args := [d1, d2] }
  | _ => none }
def liftedBackRow : OpenClaim := { program := "ytkjgdnfkpebejaa", sum := "b04c17fd14c5b3691dcd0730775a53d911622a08cf660905ee32afc05e638ef5", func := "scrimshaw/scrimshawlaw14.LiftedBack", spec := "liftedBack", inPlace := ["internal/bytealg.IndexByteString"], unfollowed := true, recurses := true, loops := true, apart := false }
def LiftedBackSaid : Prop := liftedBackRow.holds Try.pinned (OpenSpec.ofChange liftedBackSpec)

/-- ITS FALSE NEIGHBOUR: 'it returns false'. Refute it at one input. -/
def liftedBackWrong : ChangeSpec := { name := "liftedBack", fn := fun _ => fun
  | [d1, d2] => { results := [.lit (.bool false)], args := [d1, d2] }
  | _ => none }
def LiftedBackWrongFalsely : Prop := liftedBackRow.holds Try.pinned (OpenSpec.ofChange liftedBackWrong)

/-- 'scrimshawlaw14.LiftedHolds': WHATEVER THE INPUT: true; the input reads as it did. -/
def liftedHoldsSpec : ChangeSpec := { name := "liftedHolds", fn := fun _ => fun
  | [d] => { results := [.lit (.bool true)], args := [d] }
  | _ => none }
def liftedHoldsRow : OpenClaim := { program := "ytkjgdnfkpebejaa", sum := "b04c17fd14c5b3691dcd0730775a53d911622a08cf660905ee32afc05e638ef5", func := "scrimshaw/scrimshawlaw14.LiftedHolds", spec := "liftedHolds", inPlace := ["internal/bytealg.IndexByteString"], unfollowed := true, recurses := true, apart := false }
def LiftedHoldsSaid : Prop := liftedHoldsRow.holds Try.pinned (OpenSpec.ofChange liftedHoldsSpec)

/-- ITS FALSE NEIGHBOUR: 'it returns false'. Refute it at one input. -/
def liftedHoldsWrong : ChangeSpec := { name := "liftedHolds", fn := fun _ => fun
  | [d] => { results := [.lit (.bool false)], args := [d] }
  | _ => none }
def LiftedHoldsWrongFalsely : Prop := liftedHoldsRow.holds Try.pinned (OpenSpec.ofChange liftedHoldsWrong)

/- THE SECOND FORM. 'bulk': how many values and letters a reading holds, each counted each time it is reached (what is shared counts as often as it is met; a slice's spare places count too). A statement '..UptoSaid' is the law's where the arguments, and the package variables that the reading takes, are together of bulk at most 1048576: NARROWER than '..Said'. Prove '..Said' where nothing that the law and all that it calls make is longer than what came in: it says more and counts as full. Else prove '..UptoSaid'. A law counts once. -/
mutual
def uptoBulk {H : Type} : DataW H → Nat
  | .lit (.string bytes) => bytes.length + 1
  | .lit _ => 1
  | .nil => 1
  | .ptr d => uptoBulk d + 1
  | .slice elems spare => uptoBulkAll elems + uptoBulkAll spare + 1
  | .agg parts => uptoBulkAll parts + 1
  | .iface _ d => uptoBulk d + 1
  | .map entries => uptoBulkEntries entries + 1
  | .held _ => 1
def uptoBulkAll {H : Type} : List (DataW H) → Nat
  | [] => 0
  | d :: r => uptoBulk d + uptoBulkAll r
def uptoBulkEntries {H : Type} : List (Lit × DataW H) → Nat
  | [] => 0
  | x :: r => uptoBulkEntry x + uptoBulkEntries r
def uptoBulkEntry {H : Type} : Lit × DataW H → Nat
  | (.string bytes, d) => bytes.length + uptoBulk d + 1
  | (_, d) => uptoBulk d + 1
 end
def uptoSmall : (H : Type) → List (DataW H) → Bool := fun _ ds => decide (uptoBulkAll ds ≤ 1048576)
def OpenSpec.upto (s : _root_.Go.ChangeSpec) : _root_.Go.OpenSpec := { _root_.Go.OpenSpec.ofChange s with cond := some uptoSmall }

/-- 'scrimshawlaw14.LiftedTells', WHERE WHAT IT READS IS OF BULK AT MOST 1048576: true; the input reads as it did. -/
def liftedTellsUptoRow : OpenClaim := { program := "ytkjgdnfkpebejaa", sum := "b04c17fd14c5b3691dcd0730775a53d911622a08cf660905ee32afc05e638ef5", func := "scrimshaw/scrimshawlaw14.LiftedTells", spec := "liftedTells", inPlace := ["internal/bytealg.IndexByteString"], unfollowed := true, recurses := true, loops := true, apart := false, narrowed := true }
def LiftedTellsUptoSaid : Prop := liftedTellsUptoRow.holds Try.pinned (OpenSpec.upto liftedTellsSpec)

/-- 'scrimshawlaw14.LiftedBack', WHERE WHAT IT READS IS OF BULK AT MOST 1048576: true; the input reads as it did. -/
def liftedBackUptoRow : OpenClaim := { program := "ytkjgdnfkpebejaa", sum := "b04c17fd14c5b3691dcd0730775a53d911622a08cf660905ee32afc05e638ef5", func := "scrimshaw/scrimshawlaw14.LiftedBack", spec := "liftedBack", inPlace := ["internal/bytealg.IndexByteString"], unfollowed := true, recurses := true, loops := true, apart := false, narrowed := true }
def LiftedBackUptoSaid : Prop := liftedBackUptoRow.holds Try.pinned (OpenSpec.upto liftedBackSpec)

/-- 'scrimshawlaw14.LiftedHolds', WHERE WHAT IT READS IS OF BULK AT MOST 1048576: true; the input reads as it did. -/
def liftedHoldsUptoRow : OpenClaim := { program := "ytkjgdnfkpebejaa", sum := "b04c17fd14c5b3691dcd0730775a53d911622a08cf660905ee32afc05e638ef5", func := "scrimshaw/scrimshawlaw14.LiftedHolds", spec := "liftedHolds", inPlace := ["internal/bytealg.IndexByteString"], unfollowed := true, recurses := true, apart := false, narrowed := true }
def LiftedHoldsUptoSaid : Prop := liftedHoldsUptoRow.holds Try.pinned (OpenSpec.upto liftedHoldsSpec)

end Rows
end Go.Proofs.Ytkjgdnfkpebejaa
