/-
What the laws' proofs of layer 2 share beside their walks: the row's last step where the call has made memory; the table of tens out of the row's condition; the start of the witness.
-/
import Derived.Test.YtphgcdmjnmopiaaDoorD20
import Derived.Test.YtphgcdmjnmopiaaDoorTie
import Derived.Test.YtphgcdmjnmopiaaDoorCards
import Derived.Lib.LaidTab
import Derived.LaidMore
import Derived.Stop.Joined
import Derived.SevenTiedAt
namespace Go.Proofs.YtphgcdmjnmopiaaDoor
open Go.ChangeShapes Go.WideShapes Go.ChangeAt Go.WideMaps Go.WideElems Go.RowKit

theorem own : ownKnob Tryd.prog.godebug = none := by kernel_rfl
theorem laidOut : laidOutB Tryd.prog = true := by kernel_rfl

/-- The listed variables, as every row of this seat lists them. -/
def laid3 : List (String × DataW Unit) := Rows.datumChecksRow.laid

theorem tab_global : Tryd.prog.globalNamed (laid3[2]'(by decide)).1 = some 1 := by kernel_rfl
theorem tab_type : (Tryd.prog.globals[1]?).map (·.type) = some 93 := by kernel_rfl

theorem tabOk_of_laid {W : World} (h : laidMetH Tryd.prog laid3 W) : TabOk W := by
  rw [MakeChecks.laidMetH_plain _ _ _ (by kernel_rfl)] at h
  obtain ⟨ps, ⟨g0, t0, cs0, f0, p0, q0, hg0, ht0, hv0, hd0, ⟨g1, t1, cs1, f1, p1, q1, hg1, ht1, hv1, hd1, ⟨g2, t2, cs2, f2, p2, q2, hg2, ht2, hv2, hd2, _, _⟩, _⟩, _⟩, _, _⟩ := h
  obtain rfl := Option.some.inj (tab_global.symm.trans hg2)
  obtain rfl := Option.some.inj (tab_type.symm.trans ht2)
  have hcs := Lib.cells_of_tab Tryd.underlying93 Tryd.underlying86 (by kernel_rfl) (by kernel_rfl) (k := .u64) (zs := Lib.pow10Tab) hd2
  simp only [World.var?] at hv2
  erw [tab_global] at hv2
  simp only [Option.bind_some] at hv2
  split at hv2
  · rename_i c T fr hb
    simp only [Option.some.injEq] at hv2
    subst hv2
    exact ⟨T, fr, by rw [hb, ← hcs]⟩
  · cases hv2

theorem two_of_tab {W : World} (h : TabOk W) : 2 ≤ W.heap.size := by
  obtain ⟨T, fr, h⟩ := h
  have := lt_of_block h
  omega

/-- The door's own heap meets the condition. -/
theorem door_met (os : Os) (args : Array Value) : laidMetH Tryd.prog laid3 ((World.doorLaid Tryd.prog 400 os).forCall (fun _ _ => 0) ⟨#[], args, []⟩).memory :=
  laidMetH_of_parts3 (fuel := 8) (laidMet_of_run' 8 (by kernel_rfl) (by kernel_rfl)) (by kernel_rfl) (by kernel_rfl)

/-- An argument reads behind the call as it did before. -/
theorem arg_stays {H : Type} {enc : TypeId × Value → H} {t : TypeId} (hr : Tryd.prog.readableRec t = true) (hrow : t < Tryd.prog.types.size) {W W' : World} {v : Value} {d : DataW H} {ps : List MemPlace}
    (h : DataW.Trod enc Tryd.prog W 0 (fun _ => true) true t v d ps) (hb : Below W.heap.size W W') (hlt : ∀ x ∈ ps, x.block < W.heap.size) (sp : Nat → Bool) (hsp : ∀ x ∈ ps, sp x.block = true) :
    DataW.Trod enc Tryd.prog W' 0 sp true t v d ps :=
  WideElems.Trod_stays laidOut hr hrow h (fun x hx => hb.same (hlt x hx)) hsp

section
variable {H : Type} {enc : TypeId × Value → H} {w : World} {spare : Nat → Bool} {held : Bool} {r : Reach} {b0 : Nat}
/-- A datum that is an argument. -/
theorem arg_datum {v : Value} {d : DataW H} {p : List MemPlace} (hv : Value.okWide Tryd.prog w r b0 24 v) (h : DataW.Trod enc Tryd.prog w 0 spare held 24 v d p) :
    ∃ k i s x l, v = .agg #[.int .i64 k, .int .i64 i, .string s, x] ∧ RepV w w.heap.size (.mk k i s l) x := by
  obtain ⟨cs, rfl, hsz⟩ := okWide_struct Tryd.underlying24 hv
  obtain ⟨n, hn⟩ := h
  obtain ⟨k, i, s, x, l, e, h1⟩ := open_datum_fuel n _ _ hn
  obtain ⟨cs⟩ := cs
  simp only [Value.cells] at e
  subst e
  exact ⟨k, i, s, x, l, rfl, h1⟩
/-- A row of data that is an argument. -/
theorem arg_data {v : Value} {d : DataW H} {p : List MemPlace} (hv : Value.okWide Tryd.prog w r b0 22 v) (h : DataW.Trod enc Tryd.prog w 0 spare held 22 v d p) : ∃ l, RepS w w.heap.size l v := by
  obtain ⟨n, hn⟩ := h
  obtain ⟨v', l, e, hr⟩ := open_list_of (fun m _ => open_datum_fuel m) hn
  obtain ⟨a, len, cap, rfl⟩ := okWide_slice Tryd.underlying22 hv
  simp only [Value.cells, List.cons.injEq, and_true] at e
  subst e
  exact ⟨l, hr⟩
end
end Go.Proofs.YtphgcdmjnmopiaaDoor
