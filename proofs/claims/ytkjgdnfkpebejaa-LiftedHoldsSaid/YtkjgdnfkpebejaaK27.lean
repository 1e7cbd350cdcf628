/-
Package core's datumOf and Data, for every expression. No condition.
-/
import Derived.Test.YtkjgdnfkpebejaaWKQ

namespace Go.Proofs.Ytkjgdnfkpebejaa.Core
open Go.ChangeShapes Go.WideShapes Go.ChangeAt Go.RowKit Go.Deep
open Dat (PT ok64 RepV RepS RowX infoDatum NewV NewS NewD)
set_option maxRecDepth 100000

theorem kids_none {k : Int} {nm : ByteArray} {n : Nat} {l : List PE} (hk : k < 0 ∨ 10 < k) : kidsB k nm n l = false := by
  unfold kidsB
  simp only [show ¬(k = 0 ∨ k = 1) by omega, show ¬k = 2 by omega, show ¬k = 3 by omega, show ¬k = 4 by omega, show ¬k = 5 by omega, show ¬k = 6 by omega, show ¬k = 7 by omega, show ¬(k = 8 ∨ k = 9) by omega, show ¬k = 10 by omega, if_false]
theorem results_row_one {P : Program} {fn : Func} {t p : Tmp} {ty : TypeId} (h : fn.results = #[.cell p ty, .tmp t]) (tmps : Array Value) (w : World) (g : Nat) (t' : TypeId) (cs : Array Value) (fr : Nat × Nat) (d : TypeDesc)
    (hp : tmps.getD p undef = .pointer (some ⟨g, 0, none⟩)) (hg : w.heap[g]? = some (.cells cs t' fr))
    (hu : P.underlying ty = some d) (hd : (match d with | .struct _ | .array _ _ => true | _ => false) = true) (hi : (P.info? ty).map (·.size) = some cs.size) :
    (results fn tmps).run P w = .ok (.tuple #[.agg cs, tmps.getD t undef]) w := by
  have hp' : tmps[p]?.getD undef = .pointer (some ⟨g, 0, none⟩) := by simpa using hp
  simp [results, h, hp', asAddr, run_loadVar_row w g t' ty cs fr d hg hu hd hi]
/-- What Data answers. -/
def DataIs (S : Nat → Prop) (t : PE) (e : Ending) (w : World) : Prop :=
  (checkE t = 0 ∧ ∃ v, e = .returned (.tuple #[(dataT t).val v, .int .i64 0]) ∧ InV w S (dataT t) v) ∨ (checkE t ≠ 0 ∧ e = .returned (.tuple #[.agg #[.int .i64 0, .int .i64 0, .string ⟨#[]⟩, .slice none 0 0], .int .i64 (checkE t)]))
end Go.Proofs.Ytkjgdnfkpebejaa.Core
