/-
What the laws' proofs of layer 8 share beside their walks: the table of what is reckoned out of the row's condition; the start of the witness; arguments that are data; an argument behind a call that has made memory.
-/
import Derived.Test.YtlolkhnaaelelaaDoorQ9
import Derived.Test.YtlolkhnaaelelaaDoorTie
import Derived.Test.YtlolkhnaaelelaaDoorCards
import Derived.Lib.LaidTab
import Derived.LaidMore
import Derived.Lay
import Derived.Stop.Joined
import Derived.SevenTiedAt
namespace Go.Proofs.YtlolkhnaaelelaaDoor
open Go.ChangeShapes Go.WideShapes Go.ChangeAt Go.WideMaps Go.WideElems Go.RowKit
set_option maxRecDepth 100000

theorem own : ownKnob Tryd.prog.godebug = none := by kernel_rfl
theorem laidOut : laidOutB Tryd.prog = true := by kernel_rfl
/-- The listed variables, as every row of this seat lists them. -/
def laid8 : List (String × DataW Unit) := Rows.heapedOwnRow.laid
/-- An array of strings that reads as the table holds the table's strings, cell for cell. -/
theorem cells_of_strs {H : Type} {enc : TypeId × Value → H} {P : Program} {w : World} {base : Nat} {sp : Nat → Bool} {held : Bool} {fuel : Nat} {t e : TypeId} {n : Nat} {cs : List Value} {zs : List (List UInt8)} {p : List MemPlace}
    (ht : P.underlying t = some (.array n e)) (he : P.underlying e = some .string) (hce : P.cellsOf e = 1) (hct : P.cellsOf t = n)
    (h : DataW.trod enc P w base sp held fuel t cs = some (.agg (zs.map fun z => .lit (.string z)), p)) : cs = zs.map fun z => Value.string ⟨z.toArray⟩ := by
  cases fuel with
  | zero => simp [DataW.trod] at h
  | succ fuel =>
    simp only [DataW.trod, ht, hce, hct, Nat.mul_one] at h
    split at h
    · rename_i hl
      obtain ⟨xs, hm, hx⟩ := Option.map_eq_some_iff.1 h
      have hxs : xs.map (·.1) = zs.map fun z => (DataW.lit (.string z) : DataW H) := by
        have := congrArg Prod.fst hx
        simpa using this
      have hxl : xs.length = n := by simpa using Lib.mapM_length hm
      have hzl : zs.length = n := by
        have := congrArg List.length hxs
        simp at this
        omega
      apply List.ext_getElem?
      intro i
      by_cases hi : i < n
      · obtain ⟨b, hb, hf⟩ := Lib.mapM_at hm i i (by simp [hi])
        obtain ⟨z, hc, rfl, _⟩ := DataW.trod_string he hf
        have h1 : cs[i]? = some (.string z) := by
          have := congrArg (·[0]?) hc
          simpa [List.getElem?_take, List.getElem?_drop] using this
        have h2 : (xs.map (·.1))[i]? = some (DataW.lit (.string z.data.toList) : DataW H) := by simp [hb]
        rw [hxs] at h2
        simp only [List.getElem?_map, Option.map_eq_some_iff, DataW.lit.injEq, Lit.string.injEq] at h2
        obtain ⟨z', hz', rfl⟩ := h2
        simp [h1, hz']
      · rw [List.getElem?_eq_none (by omega), List.getElem?_eq_none (by simp; omega)]
    · cases h
theorem rec_global : Tryd.prog.globalNamed "scrimshaw/heap.reckoning" = some 0 := by kernel_rfl
theorem rec_type : (Tryd.prog.globals[0]?).map (·.type) = some 122 := by kernel_rfl
theorem recOk_of_laid {W : World} (h : laidMetH Tryd.prog laid8 W) : Hp.RecOk W := by
  rw [MakeChecks.laidMetH_plain _ _ _ (by kernel_rfl)] at h
  obtain ⟨ps, ⟨g0, t0, cs0, f0, p0, q0, hg0, ht0, hv0, hd0, _, _⟩, _⟩ := h
  obtain rfl := Option.some.inj (rec_global.symm.trans hg0)
  obtain rfl := Option.some.inj (rec_type.symm.trans ht0)
  have hcs := cells_of_strs (zs := [[43], [45], [42], [113, 117, 111, 116, 105, 101, 110, 116], [114, 101, 109, 97, 105, 110, 100, 101, 114]]) Tryd.underlying122 Tryd.underlying9 (by kernel_rfl) (by kernel_rfl) hd0
  simp only [World.var?] at hv0
  erw [rec_global] at hv0
  simp only [Option.bind_some] at hv0
  split at hv0
  · rename_i c T fr hb
    simp only [Option.some.injEq] at hv0
    subst hv0
    have hc2 : c = #[.string ⟨#[43]⟩, .string ⟨#[45]⟩, .string ⟨#[42]⟩, .string ⟨#[113, 117, 111, 116, 105, 101, 110, 116]⟩, .string ⟨#[114, 101, 109, 97, 105, 110, 100, 101, 114]⟩] := Array.ext' hcs
    exact ⟨T, fr, by rw [hb, hc2]⟩
  · cases hv0
/-- The witness' own heap meets the condition. -/
theorem door_met (os : Os) (args : Array Value) : laidMetH Tryd.prog laid8 ((World.laidAll Tryd.prog os laid8).forCall (fun _ _ => 0) ⟨#[], args, []⟩).memory := by
  rw [MakeChecks.laidMetH_plain _ _ _ (by kernel_rfl)]
  exact laidMet_laidAll _ (by kernel_rfl) (by kernel_rfl)
/-- An argument reads behind the call as it did before. -/
theorem arg_stays {H : Type} {enc : TypeId × Value → H} {t : TypeId} (hr : Tryd.prog.readableRec t = true) (hrow : t < Tryd.prog.types.size) {W W' : World} {v : Value} {d : DataW H} {ps : List MemPlace}
    (h : DataW.Trod enc Tryd.prog W 0 (fun _ => true) true t v d ps) (hb : Below W.heap.size W W') (hlt : ∀ x ∈ ps, x.block < W.heap.size) (sp : Nat → Bool) (hsp : ∀ x ∈ ps, sp x.block = true) :
    DataW.Trod enc Tryd.prog W' 0 sp true t v d ps :=
  WideElems.Trod_stays laidOut hr hrow h (fun x hx => hb.same (hlt x hx)) hsp
section
variable {H : Type} {enc : TypeId × Value → H} {w : World} {spare : Nat → Bool} {held : Bool} {r : Reach} {b0 : Nat}
/-- A datum that is an argument. -/
theorem arg_datum {v : Value} {d : DataW H} {p : List MemPlace} (hv : Value.okWide Tryd.prog w r b0 50 v) (h : DataW.Trod enc Tryd.prog w 0 spare held 50 v d p) :
    ∃ k i s x l, v = .agg #[.int .i64 k, .int .i64 i, .string s, x] ∧ Dat.RepV w w.heap.size (.mk k i s l) x := by
  obtain ⟨cs, rfl, hsz⟩ := okWide_struct Tryd.underlying50 hv
  obtain ⟨n, hn⟩ := h
  obtain ⟨k, i, s, x, l, e, h1⟩ := Dat.open_datum_fuel n _ _ hn
  obtain ⟨cs⟩ := cs
  simp only [Value.cells] at e
  subst e
  exact ⟨k, i, s, x, l, rfl, h1⟩
/-- A row of data that is an argument. -/
theorem arg_data {v : Value} {d : DataW H} {p : List MemPlace} (hv : Value.okWide Tryd.prog w r b0 48 v) (h : DataW.Trod enc Tryd.prog w 0 spare held 48 v d p) : ∃ l, Dat.RepS w w.heap.size l v := by
  obtain ⟨n, hn⟩ := h
  obtain ⟨v', l, e, hr⟩ := Dat.open_list_of (fun m _ => Dat.open_datum_fuel m) hn
  obtain ⟨a, len, cap, rfl⟩ := okWide_slice Tryd.underlying48 hv
  simp only [Value.cells, List.cons.injEq, and_true] at e
  subst e
  exact ⟨l, hr⟩
end
end Go.Proofs.YtlolkhnaaelelaaDoor
