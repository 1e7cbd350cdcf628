/-
What the laws' proofs of layer 6 share beside their walks: the table of powers of ten out of the row's condition; the start of the witness; an argument that is an expression, or a datum; an argument behind a call that has made memory.
-/
import Derived.Test.YtjofdlnopchaeaaGreatDoorK14
import Derived.Test.YtjofdlnopchaeaaGreatDoorK28
import Derived.Test.YtjofdlnopchaeaaGreatDoorTie
import Derived.Test.YtjofdlnopchaeaaGreatDoorCards
import Derived.Lib.LaidTab
import Derived.LaidMore
import Derived.Lay
import Derived.Stop.Joined
import Derived.SevenTiedAt
namespace Go.Proofs.YtjofdlnopchaeaaGreatDoor
open Go.ChangeShapes Go.WideShapes Go.ChangeAt Go.WideMaps Go.WideElems Go.RowKit
set_option maxRecDepth 100000

theorem own : ownKnob Tryz.prog.godebug = none := by kernel_rfl
theorem laidOut : laidOutB Tryz.prog = true := by kernel_rfl
/-- The listed variables, as every row of this seat lists them. -/
def laid6 : List (String × DataW Unit) := Rows.coreUniqueRow.laid
theorem tab_global : Tryz.prog.globalNamed (laid6[2]'(by decide)).1 = some 0 := by kernel_rfl
theorem tab_type : (Tryz.prog.globals[0]?).map (·.type) = some 161 := by kernel_rfl
theorem tabOk_of_laid {W : World} (h : laidMetH Tryz.prog laid6 W) : TabOk W := by
  rw [MakeChecks.laidMetH_plain _ _ _ (by kernel_rfl)] at h
  obtain ⟨ps, ⟨g0, t0, cs0, f0, p0, q0, hg0, ht0, hv0, hd0, ⟨g1, t1, cs1, f1, p1, q1, hg1, ht1, hv1, hd1, ⟨g2, t2, cs2, f2, p2, q2, hg2, ht2, hv2, hd2, _, _⟩, _⟩, _⟩, _, _⟩ := h
  obtain rfl := Option.some.inj (tab_global.symm.trans hg2)
  obtain rfl := Option.some.inj (tab_type.symm.trans ht2)
  have hcs := Lib.cells_of_tab Tryz.underlying161 Tryz.underlying136 (by kernel_rfl) (by kernel_rfl) (k := .u64) (zs := Lib.pow10Tab) hd2
  simp only [World.var?] at hv2
  erw [tab_global] at hv2
  simp only [Option.bind_some] at hv2
  split at hv2
  · rename_i c T fr hb
    simp only [Option.some.injEq] at hv2
    subst hv2
    exact ⟨T, fr, by rw [hb, ← hcs]⟩
  · cases hv2
/-- The witness' own heap meets the condition. -/
theorem door_met (os : Os) (args : Array Value) : laidMetH Tryz.prog laid6 ((World.laidAll Tryz.prog os laid6).forCall (fun _ _ => 0) ⟨#[], args, []⟩).memory := by
  rw [MakeChecks.laidMetH_plain _ _ _ (by kernel_rfl)]
  exact laidMet_laidAll _ (by kernel_rfl) (by kernel_rfl)
/-- An argument reads behind the call as it did before. -/
theorem arg_stays {H : Type} {enc : TypeId × Value → H} {t : TypeId} (hr : Tryz.prog.readableRec t = true) (hrow : t < Tryz.prog.types.size) {W W' : World} {v : Value} {d : DataW H} {ps : List MemPlace}
    (h : DataW.Trod enc Tryz.prog W 0 (fun _ => true) true t v d ps) (hb : Below W.heap.size W W') (hlt : ∀ x ∈ ps, x.block < W.heap.size) (sp : Nat → Bool) (hsp : ∀ x ∈ ps, sp x.block = true) :
    DataW.Trod enc Tryz.prog W' 0 sp true t v d ps :=
  WideElems.Trod_stays laidOut hr hrow h (fun x hx => hb.same (hlt x hx)) hsp
section
variable {H : Type} {enc : TypeId × Value → H} {w : World} {spare : Nat → Bool} {held : Bool} {r : Reach} {b0 : Nat}
/-- An expression that is an argument. -/
theorem arg_expr {v : Value} {d : DataW H} {p : List MemPlace} (hv : Value.okWide Tryz.prog w r b0 28 v) (h : DataW.Trod enc Tryz.prog w 0 spare held 28 v d p) :
    ∃ t vn vd vk, v = Core.PE.val t vn vd vk ∧ Core.InF w (· < w.heap.size) t vn vd vk := by
  obtain ⟨cs, rfl, hsz⟩ := okWide_struct Tryz.underlying28 hv
  obtain ⟨n, hn⟩ := h
  obtain ⟨k, nm, ns, ck, ci, s, cl, l, vn, vd, vk, e, h1⟩ := Core.open_expr_fuel n _ _ hn
  obtain ⟨cs⟩ := cs
  simp only [Value.cells] at e
  subst e
  exact ⟨.mk k nm ns (.mk ck ci s cl) l, vn, vd, vk, rfl, h1⟩
/-- A datum that is an argument. -/
theorem arg_datum {v : Value} {d : DataW H} {p : List MemPlace} (hv : Value.okWide Tryz.prog w r b0 25 v) (h : DataW.Trod enc Tryz.prog w 0 spare held 25 v d p) :
    ∃ k i s x l, v = .agg #[.int .i64 k, .int .i64 i, .string s, x] ∧ Dat.RepV w w.heap.size (.mk k i s l) x := by
  obtain ⟨cs, rfl, hsz⟩ := okWide_struct Tryz.underlying25 hv
  obtain ⟨n, hn⟩ := h
  obtain ⟨k, i, s, x, l, e, h1⟩ := Dat.open_datum_fuel n _ _ hn
  obtain ⟨cs⟩ := cs
  simp only [Value.cells] at e
  subst e
  exact ⟨k, i, s, x, l, rfl, h1⟩
end
end Go.Proofs.YtjofdlnopchaeaaGreatDoor
