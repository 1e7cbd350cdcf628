/-
What the laws' proofs of layer 4 share besides: the table of tens out of the row's condition; arguments that are data.
-/
import Derived.Test.YtiamojpeedllbaaGreatDoorV1
import Derived.Test.YtiamojpeedllbaaGreatDoorD20a
import Derived.Lib.LaidTab
namespace Go.Proofs.YtiamojpeedllbaaGreatDoor
open Go.ChangeShapes Go.WideShapes Go.ChangeAt Go.WideMaps Go.WideElems Go.RowKit
set_option maxRecDepth 100000

theorem tab_global : Tryz.prog.globalNamed (laid7[2]'(by decide)).1 = some 0 := by kernel_rfl
theorem tab_type : (Tryz.prog.globals[0]?).map (·.type) = some 151 := by kernel_rfl

theorem tabOk_of_laid {W : World} (h : laidMetH Tryz.prog laid7 W) : TabOk W := by
  rw [MakeChecks.laidMetH_plain _ _ _ (by kernel_rfl)] at h
  obtain ⟨ps, ⟨g0, t0, cs0, f0, p0, q0, hg0, ht0, hv0, hd0, ⟨g1, t1, cs1, f1, p1, q1, hg1, ht1, hv1, hd1, ⟨g2, t2, cs2, f2, p2, q2, hg2, ht2, hv2, hd2, _, _⟩, _⟩, _⟩, _, _⟩ := h
  obtain rfl := Option.some.inj (tab_global.symm.trans hg2)
  obtain rfl := Option.some.inj (tab_type.symm.trans ht2)
  have hcs := Lib.cells_of_tab Tryz.underlying151 Tryz.underlying123 (by kernel_rfl) (by kernel_rfl) (k := .u64) (zs := Lib.pow10Tab) hd2
  simp only [World.var?] at hv2
  erw [tab_global] at hv2
  simp only [Option.bind_some] at hv2
  split at hv2
  · rename_i c T fr hb
    simp only [Option.some.injEq] at hv2
    subst hv2
    exact ⟨T, fr, by rw [hb, ← hcs]⟩
  · cases hv2
/-- What the program lays, that the laws lean on. -/
def LaidOk (w : World) : Prop := ErrsOk w ∧ TabOk w
theorem laidOk_of {W : World} (h : laidMetH Tryz.prog laid7 W) : LaidOk W := ⟨errsOk_of_laid h, tabOk_of_laid h⟩
section
variable {H : Type} {enc : TypeId × Value → H} {w : World} {spare : Nat → Bool} {held : Bool} {r : Reach} {b0 : Nat}
/-- A datum that is an argument. -/
theorem arg_datum {v : Value} {d : DataW H} {p : List MemPlace} (hv : Value.okWide Tryz.prog w r b0 28 v) (h : DataW.Trod enc Tryz.prog w 0 spare held 28 v d p) :
    ∃ k i s x l, v = .agg #[.int .i64 k, .int .i64 i, .string s, x] ∧ Dat.RepV w w.heap.size (.mk k i s l) x := by
  obtain ⟨cs, rfl, hsz⟩ := okWide_struct Tryz.underlying28 hv
  obtain ⟨n, hn⟩ := h
  obtain ⟨k, i, s, x, l, e, h1⟩ := Dat.open_datum_fuel n _ _ hn
  obtain ⟨cs⟩ := cs
  simp only [Value.cells] at e
  subst e
  exact ⟨k, i, s, x, l, rfl, h1⟩
/-- A row of data that is an argument. -/
theorem arg_data {v : Value} {d : DataW H} {p : List MemPlace} (hv : Value.okWide Tryz.prog w r b0 26 v) (h : DataW.Trod enc Tryz.prog w 0 spare held 26 v d p) : ∃ l, Dat.RepS w w.heap.size l v := by
  obtain ⟨n, hn⟩ := h
  obtain ⟨v', l, e, hr⟩ := Dat.open_list_of (fun m _ => Dat.open_datum_fuel m) hn
  obtain ⟨a, len, cap, rfl⟩ := okWide_slice Tryz.underlying26 hv
  simp only [Value.cells, List.cons.injEq, and_true] at e
  subst e
  exact ⟨l, hr⟩
end
end Go.Proofs.YtiamojpeedllbaaGreatDoor
