/-
What package lift's Lift and the document's answer; programs that stand in memory. No condition.
-/
import Derived.Test.YtkjgdnfkpebejaaN7
import Derived.Test.YtkjgdnfkpebejaaWNA

namespace Go.Proofs.Ytkjgdnfkpebejaa.Core
open Go.ChangeShapes Go.WideShapes Go.ChangeAt Go.RowKit Go.Deep
open Dat (PT ok64 RowX)
set_option maxRecDepth 100000

/-- May an expression be lifted? -/
def okL (t : PE) : Prop := checkE t = 0 ∧ freeT t = [] ∧ chgT t = false
/-- A program that stands in memory. -/
def InL (w : World) (t : PE) (fs : List FunT) (v : Value) : Prop :=
  ∃ vF k nm ns ck ci cs cl l vn vd vk, v = .agg #[vF, .int .i64 k, .string nm, vn, .int .i64 ck, .int .i64 ci, .string cs, vd, vk] ∧ t = .mk k nm ns (.mk ck ci cs cl) l ∧ InF w (fun _ => True) (.mk k nm ns (.mk ck ci cs cl) l) vn vd vk ∧ InFs w (fun _ => True) fs vF
theorem InL.below {w w' : World} {t : PE} {fs : List FunT} {v : Value} (h : InL w t fs v) (hb : Below w.heap.size w w') : InL w' t fs v := by
  obtain ⟨vF, k, nm, ns, ck, ci, cs, cl, l, vn, vd, vk, e, e2, h1, h2⟩ := h
  exact ⟨vF, k, nm, ns, ck, ci, cs, cl, l, vn, vd, vk, e, e2, h1.below hb, h2.below hb⟩
theorem InL.zero (w : World) : InL w PE0 [] (.agg #[.slice none 0 0, .int .i64 0, .string ⟨#[]⟩, .slice none 0 0, .int .i64 0, .int .i64 0, .string ⟨#[]⟩, .slice none 0 0, .slice none 0 0]) :=
  ⟨_, _, _, _, _, _, _, _, _, _, _, _, rfl, rfl, ⟨⟨by constructor <;> decide, by decide, inN_nil'⟩, ⟨by constructor <;> decide, by constructor <;> decide, by decide, ⟨none, 0, rfl, Nat.le_refl _, Nat.zero_le _, fun _ => rfl, .inl rfl⟩⟩, ⟨none, 0, rfl, Nat.le_refl _, Nat.zero_le _, fun _ => rfl, .inl rfl⟩⟩, ⟨none, 0, rfl, Nat.le_refl _, Nat.zero_le _, .inl rfl⟩⟩
open Classical in
/-- The program that comes of an expression, or nothing. -/
noncomputable def progL (t : PE) : PE × List FunT := if okL t then liftT [] t else (PE0, [])
open Classical in
/-- What is wrong with it. -/
noncomputable def codeL (t : PE) : Int := if okL t then 0 else 100
theorem progL_yes {t : PE} (h : okL t) : progL t = liftT [] t := by unfold progL; exact if_pos h
theorem progL_no {t : PE} (h : ¬ okL t) : progL t = (PE0, []) := by unfold progL; exact if_neg h
theorem codeL_yes {t : PE} (h : okL t) : codeL t = 0 := by unfold codeL; exact if_pos h
theorem codeL_no {t : PE} (h : ¬ okL t) : codeL t = 100 := by unfold codeL; exact if_neg h
/-- What Lift answers. -/
def LiftIs (t : PE) (e : Ending) (w : World) : Prop := ∃ v, e = .returned (.tuple #[v, .int .i64 (codeL t)]) ∧ InL w (progL t).1 (progL t).2 v
theorem liftIs_no {t : PE} {w : World} (h : ¬ okL t) : LiftIs t (.returned (.tuple #[.agg #[.slice none 0 0, .int .i64 0, .string ⟨#[]⟩, .slice none 0 0, .int .i64 0, .int .i64 0, .string ⟨#[]⟩, .slice none 0 0, .slice none 0 0], .int .i64 100])) w :=
  ⟨_, by rw [codeL_no h], by rw [progL_no h]; exact InL.zero w⟩
theorem liftIs_yes {t : PE} {w : World} {v : Value} (h : okL t) (hv : InL w (liftT [] t).1 (liftT [] t).2 v) : LiftIs t (.returned (.tuple #[v, .int .i64 0])) w :=
  ⟨v, by rw [codeL_yes h], by rw [progL_yes h]; exact hv⟩
end Go.Proofs.Ytkjgdnfkpebejaa.Core
