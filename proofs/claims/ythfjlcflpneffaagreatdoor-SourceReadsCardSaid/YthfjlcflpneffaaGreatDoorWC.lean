/-
Texts V1, V2, Z12, V4, one behind the other (a claim bears sixty files). Conditions: as each says.
-/
import Derived.Test.YthfjlcflpneffaaGreatDoorWT
import Derived.Test.YthfjlcflpneffaaGreatDoorTie
import Derived.Test.YthfjlcflpneffaaGreatDoorCards
import Derived.Lib.LaidTab
import Derived.LaidMore
import Derived.Lay
import Derived.Stop.Joined
import Derived.Stop.LaidErr
import Derived.SevenTiedAt
import Derived.Test.YthfjlcflpneffaaGreatDoorWD
import Derived.Test.YthfjlcflpneffaaGreatDoorWB
import Derived.Test.YthfjlcflpneffaaGreatDoorWX
import Derived.Deep.DeepHandedRow

/-
What the laws' proofs of layer 3 share beside their walks: the two errors of strconv out of the row's condition; the start of the witness; an argument behind a call that has made memory.
-/
namespace Go.Proofs.YthfjlcflpneffaaGreatDoor
open Go.ChangeShapes Go.WideShapes Go.ChangeAt Go.WideMaps Go.WideElems Go.RowKit

theorem own : ownKnob Tryz.prog.godebug = none := by kernel_rfl
theorem laidOut : laidOutB Tryz.prog = true := by kernel_rfl

/-- The listed variables, as every row of this seat lists them. -/
def laid7 : List (String × DataW Unit) := Rows.sourceReadsRow.laid

theorem star : "*" ++ "errors.errorString" = "*errors.errorString" := by decide
theorem row130 (u : TypeId) (hu : Tryz.prog.typeName? 3 u = some "*errors.errorString") : u = 161 :=
  typeName_ptr_named (nm := "errors.errorString") (by rw [star]; kernel_rfl) (by kernel_rfl) (by decide) u (by rw [star]; exact hu)
theorem gSyn : Tryz.prog.globalNamed "strconv.ErrSyntax" = some 1 := by kernel_rfl
theorem gRan : Tryz.prog.globalNamed "strconv.ErrRange" = some 2 := by kernel_rfl
theorem gSynT : (Tryz.prog.globals[1]?).map (·.type) = some 64 := by kernel_rfl
theorem gRanT : (Tryz.prog.globals[2]?).map (·.type) = some 64 := by kernel_rfl

theorem errsOk_of_laid {W : World} (h : laidMetH Tryz.prog laid7 W) : ErrsOk W := by
  rw [MakeChecks.laidMetH_plain _ _ _ (by kernel_rfl)] at h
  have h4 := h.tail.tail.tail.tail
  have h5 := h4.tail
  obtain ⟨a, s, hv, _⟩ := laid_sentinel h4 gRan gRanT Tryz.underlying64 row130 Tryz.underlying161 Tryz.underlying163 rfl rfl Tryz.underlying9 (by kernel_rfl) (by kernel_rfl)
  obtain ⟨b, t, hu, _⟩ := laid_sentinel h5 gSyn gSynT Tryz.underlying64 row130 Tryz.underlying161 Tryz.underlying163 rfl rfl Tryz.underlying9 (by kernel_rfl) (by kernel_rfl)
  refine ⟨⟨161, .pointer (some b), ?_⟩, 161, .pointer (some a), ?_⟩
  · have := World.var?_cell gSyn hu 0
    simpa using this
  · have := World.var?_cell gRan hv 0
    simpa using this

/-- The witness' own heap meets the condition. -/
theorem door_met (os : Os) (args : Array Value) : laidMetH Tryz.prog laid7 ((World.laidAll Tryz.prog os laid7).forCall (fun _ _ => 0) ⟨#[], args, []⟩).memory := by
  rw [MakeChecks.laidMetH_plain _ _ _ (by kernel_rfl)]
  exact laidMet_laidAll _ (by kernel_rfl) (by kernel_rfl)

/-- An argument reads behind the call as it did before. -/
theorem arg_stays {H : Type} {enc : TypeId × Value → H} {t : TypeId} (hr : Tryz.prog.readableRec t = true) (hrow : t < Tryz.prog.types.size) {W W' : World} {v : Value} {d : DataW H} {ps : List MemPlace}
    (h : DataW.Trod enc Tryz.prog W 0 (fun _ => true) true t v d ps) (hb : Below W.heap.size W W') (hlt : ∀ x ∈ ps, x.block < W.heap.size) (sp : Nat → Bool) (hsp : ∀ x ∈ ps, sp x.block = true) :
    DataW.Trod enc Tryz.prog W' 0 sp true t v d ps :=
  WideElems.Trod_stays laidOut hr hrow h (fun x hx => hb.same (hlt x hx)) hsp
end Go.Proofs.YthfjlcflpneffaaGreatDoor

/-
What the laws' proofs of layer 4 share besides: the table of tens out of the row's condition; arguments that are data.
-/
namespace Go.Proofs.YthfjlcflpneffaaGreatDoor
open Go.ChangeShapes Go.WideShapes Go.ChangeAt Go.WideMaps Go.WideElems Go.RowKit
set_option maxRecDepth 100000

theorem tab_global : Tryz.prog.globalNamed (laid7[2]'(by decide)).1 = some 0 := by kernel_rfl
theorem tab_type : (Tryz.prog.globals[0]?).map (·.type) = some 145 := by kernel_rfl

theorem tabOk_of_laid {W : World} (h : laidMetH Tryz.prog laid7 W) : TabOk W := by
  rw [MakeChecks.laidMetH_plain _ _ _ (by kernel_rfl)] at h
  obtain ⟨ps, ⟨g0, t0, cs0, f0, p0, q0, hg0, ht0, hv0, hd0, ⟨g1, t1, cs1, f1, p1, q1, hg1, ht1, hv1, hd1, ⟨g2, t2, cs2, f2, p2, q2, hg2, ht2, hv2, hd2, _, _⟩, _⟩, _⟩, _, _⟩ := h
  obtain rfl := Option.some.inj (tab_global.symm.trans hg2)
  obtain rfl := Option.some.inj (tab_type.symm.trans ht2)
  have hcs := Lib.cells_of_tab Tryz.underlying145 Tryz.underlying119 (by kernel_rfl) (by kernel_rfl) (k := .u64) (zs := Lib.pow10Tab) hd2
  simp only [World.var?] at hv2
  erw [tab_global] at hv2
  simp only [Option.bind_some] at hv2
  split at hv2
  · rename_i c T fr hb
    simp only [Option.some.injEq] at hv2
    subst hv2
    exact ⟨T, fr, by rw [hb, ← hcs]⟩
  · cases hv2
/-- What the program lays, that the laws lean on. -/
def LaidOk (w : World) : Prop := ErrsOk w ∧ TabOk w
theorem laidOk_of {W : World} (h : laidMetH Tryz.prog laid7 W) : LaidOk W := ⟨errsOk_of_laid h, tabOk_of_laid h⟩
section
variable {H : Type} {enc : TypeId × Value → H} {w : World} {spare : Nat → Bool} {held : Bool} {r : Reach} {b0 : Nat}
/-- A datum that is an argument. -/
theorem arg_datum {v : Value} {d : DataW H} {p : List MemPlace} (hv : Value.okWide Tryz.prog w r b0 34 v) (h : DataW.Trod enc Tryz.prog w 0 spare held 34 v d p) :
    ∃ k i s x l, v = .agg #[.int .i64 k, .int .i64 i, .string s, x] ∧ Dat.RepV w w.heap.size (.mk k i s l) x := by
  obtain ⟨cs, rfl, hsz⟩ := okWide_struct Tryz.underlying34 hv
  obtain ⟨n, hn⟩ := h
  obtain ⟨k, i, s, x, l, e, h1⟩ := Dat.open_datum_fuel n _ _ hn
  obtain ⟨cs⟩ := cs
  simp only [Value.cells] at e
  subst e
  exact ⟨k, i, s, x, l, rfl, h1⟩
/-- A row of data that is an argument. -/
theorem arg_data {v : Value} {d : DataW H} {p : List MemPlace} (hv : Value.okWide Tryz.prog w r b0 22 v) (h : DataW.Trod enc Tryz.prog w 0 spare held 22 v d p) : ∃ l, Dat.RepS w w.heap.size l v := by
  obtain ⟨n, hn⟩ := h
  obtain ⟨v', l, e, hr⟩ := Dat.open_list_of (fun m _ => Dat.open_datum_fuel m) hn
  obtain ⟨a, len, cap, rfl⟩ := okWide_slice Tryz.underlying22 hv
  simp only [Value.cells, List.cons.injEq, and_true] at e
  subst e
  exact ⟨l, hr⟩
end
end Go.Proofs.YthfjlcflpneffaaGreatDoor

/-
What the fixed calls of layer 4's laws answer, pure.
-/
namespace Go.Proofs.YthfjlcflpneffaaGreatDoor
open Go.ChangeShapes Go.WideShapes Go.ChangeAt Go.RowKit
open Dat (PT makeT NewS)
set_option maxRecDepth 100000

theorem srcA : toksT [40, 97, 32, 46, 32, 40, 98, 32, 99, 41, 41, 32, 39, 120] = ([⟨⟨0, [], 0⟩, 0, 1⟩, ⟨⟨9, [97], 0⟩, 1, 2⟩, ⟨⟨4, [], 0⟩, 3, 4⟩, ⟨⟨0, [], 0⟩, 5, 6⟩, ⟨⟨9, [98], 0⟩, 6, 7⟩, ⟨⟨9, [99], 0⟩, 8, 9⟩, ⟨⟨1, [], 0⟩, 9, 10⟩, ⟨⟨1, [], 0⟩, 10, 11⟩, ⟨⟨3, [], 0⟩, 12, 13⟩, ⟨⟨9, [120], 0⟩, 13, 14⟩], 0, 0) := by
  have h0 : oneT [40, 97, 32, 46, 32, 40, 98, 32, 99, 41, 41, 32, 39, 120] = (⟨0, [], 0⟩, 1, 0) := by rw [oneT_cons, if_pos rfl]
  have g0 : gapS false (List.drop 1 [40, 97, 32, 46, 32, 40, 98, 32, 99, 41, 41, 32, 39, 120]) = [97, 32, 46, 32, 40, 98, 32, 99, 41, 41, 32, 39, 120] := by decide +kernel
  have h1 : oneT [97, 32, 46, 32, 40, 98, 32, 99, 41, 41, 32, 39, 120] = (⟨9, [97], 0⟩, 1, 0) := by
    rw [one_word _ (by decide) (by decide) (by decide) (by decide) (by decide), show wordL [97, 32, 46, 32, 40, 98, 32, 99, 41, 41, 32, 39, 120] = [97] by decide +kernel, if_neg (by simp), wordT, if_neg (by decide), if_neg (by decide +kernel), if_neg (by decide)]
    rfl
  have g1 : gapS false (List.drop 1 [97, 32, 46, 32, 40, 98, 32, 99, 41, 41, 32, 39, 120]) = [46, 32, 40, 98, 32, 99, 41, 41, 32, 39, 120] := by decide +kernel
  have h2 : oneT [46, 32, 40, 98, 32, 99, 41, 41, 32, 39, 120] = (⟨4, [], 0⟩, 1, 0) := by
    rw [one_word _ (by decide) (by decide) (by decide) (by decide) (by decide), show wordL [46, 32, 40, 98, 32, 99, 41, 41, 32, 39, 120] = [46] by decide +kernel, if_neg (by simp), wordT, if_pos rfl]
    rfl
  have g2 : gapS false (List.drop 1 [46, 32, 40, 98, 32, 99, 41, 41, 32, 39, 120]) = [40, 98, 32, 99, 41, 41, 32, 39, 120] := by decide +kernel
  have h3 : oneT [40, 98, 32, 99, 41, 41, 32, 39, 120] = (⟨0, [], 0⟩, 1, 0) := by rw [oneT_cons, if_pos rfl]
  have g3 : gapS false (List.drop 1 [40, 98, 32, 99, 41, 41, 32, 39, 120]) = [98, 32, 99, 41, 41, 32, 39, 120] := by decide +kernel
  have h4 : oneT [98, 32, 99, 41, 41, 32, 39, 120] = (⟨9, [98], 0⟩, 1, 0) := by
    rw [one_word _ (by decide) (by decide) (by decide) (by decide) (by decide), show wordL [98, 32, 99, 41, 41, 32, 39, 120] = [98] by decide +kernel, if_neg (by simp), wordT, if_neg (by decide), if_neg (by decide +kernel), if_neg (by decide)]
    rfl
  have g4 : gapS false (List.drop 1 [98, 32, 99, 41, 41, 32, 39, 120]) = [99, 41, 41, 32, 39, 120] := by decide +kernel
  have h5 : oneT [99, 41, 41, 32, 39, 120] = (⟨9, [99], 0⟩, 1, 0) := by
    rw [one_word _ (by decide) (by decide) (by decide) (by decide) (by decide), show wordL [99, 41, 41, 32, 39, 120] = [99] by decide +kernel, if_neg (by simp), wordT, if_neg (by decide), if_neg (by decide +kernel), if_neg (by decide)]
    rfl
  have g5 : gapS false (List.drop 1 [99, 41, 41, 32, 39, 120]) = [41, 41, 32, 39, 120] := by decide +kernel
  have h6 : oneT [41, 41, 32, 39, 120] = (⟨1, [], 0⟩, 1, 0) := by rw [oneT_cons, if_neg (by decide), if_pos rfl]
  have g6 : gapS false (List.drop 1 [41, 41, 32, 39, 120]) = [41, 32, 39, 120] := by decide +kernel
  have h7 : oneT [41, 32, 39, 120] = (⟨1, [], 0⟩, 1, 0) := by rw [oneT_cons, if_neg (by decide), if_pos rfl]
  have g7 : gapS false (List.drop 1 [41, 32, 39, 120]) = [39, 120] := by decide +kernel
  have h8 : oneT [39, 120] = (⟨3, [], 0⟩, 1, 0) := by rw [oneT_cons, if_neg (by decide), if_neg (by decide), if_pos rfl]
  have g8 : gapS false (List.drop 1 [39, 120]) = [120] := by decide +kernel
  have h9 : oneT [120] = (⟨9, [120], 0⟩, 1, 0) := by
    rw [one_word _ (by decide) (by decide) (by decide) (by decide) (by decide), show wordL [120] = [120] by decide +kernel, if_neg (by simp), wordT, if_neg (by decide), if_neg (by decide +kernel), if_neg (by decide)]
    rfl
  have g9 : gapS false (List.drop 1 [120]) = [] := by decide +kernel
  have r9 := run_step (N := 14) (cnt := 9) (by decide) (by simp) h9 g9 rfl
  have r8 := run_step (N := 14) (cnt := 8) (by decide) (by simp) h8 g8 r9
  have r7 := run_step (N := 14) (cnt := 7) (by decide) (by simp) h7 g7 r8
  have r6 := run_step (N := 14) (cnt := 6) (by decide) (by simp) h6 g6 r7
  have r5 := run_step (N := 14) (cnt := 5) (by decide) (by simp) h5 g5 r6
  have r4 := run_step (N := 14) (cnt := 4) (by decide) (by simp) h4 g4 r5
  have r3 := run_step (N := 14) (cnt := 3) (by decide) (by simp) h3 g3 r4
  have r2 := run_step (N := 14) (cnt := 2) (by decide) (by simp) h2 g2 r3
  have r1 := run_step (N := 14) (cnt := 1) (by decide) (by simp) h1 g1 r2
  have r0 := run_step (N := 14) (cnt := 0) (by decide) (by simp) h0 g0 r1
  have hg : gapS false [40, 97, 32, 46, 32, 40, 98, 32, 99, 41, 41, 32, 39, 120] = [40, 97, 32, 46, 32, 40, 98, 32, 99, 41, 41, 32, 39, 120] := by decide +kernel
  rw [toks_of (by decide), hg]
  simp only [List.length_cons, List.length_nil, Nat.zero_add, Nat.reduceAdd]
  rw [r0]
  simp [runT]
theorem srcB : toksT [40, 97, 32, 46, 32, 98, 32, 99, 41] = ([⟨⟨0, [], 0⟩, 0, 1⟩, ⟨⟨9, [97], 0⟩, 1, 2⟩, ⟨⟨4, [], 0⟩, 3, 4⟩, ⟨⟨9, [98], 0⟩, 5, 6⟩, ⟨⟨9, [99], 0⟩, 7, 8⟩, ⟨⟨1, [], 0⟩, 8, 9⟩], 0, 0) := by
  have h0 : oneT [40, 97, 32, 46, 32, 98, 32, 99, 41] = (⟨0, [], 0⟩, 1, 0) := by rw [oneT_cons, if_pos rfl]
  have g0 : gapS false (List.drop 1 [40, 97, 32, 46, 32, 98, 32, 99, 41]) = [97, 32, 46, 32, 98, 32, 99, 41] := by decide +kernel
  have h1 : oneT [97, 32, 46, 32, 98, 32, 99, 41] = (⟨9, [97], 0⟩, 1, 0) := by
    rw [one_word _ (by decide) (by decide) (by decide) (by decide) (by decide), show wordL [97, 32, 46, 32, 98, 32, 99, 41] = [97] by decide +kernel, if_neg (by simp), wordT, if_neg (by decide), if_neg (by decide +kernel), if_neg (by decide)]
    rfl
  have g1 : gapS false (List.drop 1 [97, 32, 46, 32, 98, 32, 99, 41]) = [46, 32, 98, 32, 99, 41] := by decide +kernel
  have h2 : oneT [46, 32, 98, 32, 99, 41] = (⟨4, [], 0⟩, 1, 0) := by
    rw [one_word _ (by decide) (by decide) (by decide) (by decide) (by decide), show wordL [46, 32, 98, 32, 99, 41] = [46] by decide +kernel, if_neg (by simp), wordT, if_pos rfl]
    rfl
  have g2 : gapS false (List.drop 1 [46, 32, 98, 32, 99, 41]) = [98, 32, 99, 41] := by decide +kernel
  have h3 : oneT [98, 32, 99, 41] = (⟨9, [98], 0⟩, 1, 0) := by
    rw [one_word _ (by decide) (by decide) (by decide) (by decide) (by decide), show wordL [98, 32, 99, 41] = [98] by decide +kernel, if_neg (by simp), wordT, if_neg (by decide), if_neg (by decide +kernel), if_neg (by decide)]
    rfl
  have g3 : gapS false (List.drop 1 [98, 32, 99, 41]) = [99, 41] := by decide +kernel
  have h4 : oneT [99, 41] = (⟨9, [99], 0⟩, 1, 0) := by
    rw [one_word _ (by decide) (by decide) (by decide) (by decide) (by decide), show wordL [99, 41] = [99] by decide +kernel, if_neg (by simp), wordT, if_neg (by decide), if_neg (by decide +kernel), if_neg (by decide)]
    rfl
  have g4 : gapS false (List.drop 1 [99, 41]) = [41] := by decide +kernel
  have h5 : oneT [41] = (⟨1, [], 0⟩, 1, 0) := by rw [oneT_cons, if_neg (by decide), if_pos rfl]
  have g5 : gapS false (List.drop 1 [41]) = [] := by decide +kernel
  have r5 := run_step (N := 9) (cnt := 5) (by decide) (by simp) h5 g5 rfl
  have r4 := run_step (N := 9) (cnt := 4) (by decide) (by simp) h4 g4 r5
  have r3 := run_step (N := 9) (cnt := 3) (by decide) (by simp) h3 g3 r4
  have r2 := run_step (N := 9) (cnt := 2) (by decide) (by simp) h2 g2 r3
  have r1 := run_step (N := 9) (cnt := 1) (by decide) (by simp) h1 g1 r2
  have r0 := run_step (N := 9) (cnt := 0) (by decide) (by simp) h0 g0 r1
  have hg : gapS false [40, 97, 32, 46, 32, 98, 32, 99, 41] = [40, 97, 32, 46, 32, 98, 32, 99, 41] := by decide +kernel
  rw [toks_of (by decide), hg]
  simp only [List.length_cons, List.length_nil, Nat.zero_add, Nat.reduceAdd]
  rw [r0]
  simp [runT]
theorem srcC : toksT [40, 97] = ([⟨⟨0, [], 0⟩, 0, 1⟩, ⟨⟨9, [97], 0⟩, 1, 2⟩], 0, 0) := by
  have h0 : oneT [40, 97] = (⟨0, [], 0⟩, 1, 0) := by rw [oneT_cons, if_pos rfl]
  have g0 : gapS false (List.drop 1 [40, 97]) = [97] := by decide +kernel
  have h1 : oneT [97] = (⟨9, [97], 0⟩, 1, 0) := by
    rw [one_word _ (by decide) (by decide) (by decide) (by decide) (by decide), show wordL [97] = [97] by decide +kernel, if_neg (by simp), wordT, if_neg (by decide), if_neg (by decide +kernel), if_neg (by decide)]
    rfl
  have g1 : gapS false (List.drop 1 [97]) = [] := by decide +kernel
  have r1 := run_step (N := 2) (cnt := 1) (by decide) (by simp) h1 g1 rfl
  have r0 := run_step (N := 2) (cnt := 0) (by decide) (by simp) h0 g0 r1
  have hg : gapS false [40, 97] = [40, 97] := by decide +kernel
  rw [toks_of (by decide), hg]
  simp only [List.length_cons, List.length_nil, Nat.zero_add, Nat.reduceAdd]
  rw [r0]
  simp [runT]
def srcD : List PT := [.mk 5 0 ⟨#[]⟩ [.mk 4 0 ⟨#[97]⟩ [], .mk 4 0 ⟨#[98]⟩ [], .mk 4 0 ⟨#[99]⟩ []], .mk 5 0 ⟨#[]⟩ [.mk 4 0 ⟨#[113, 117, 111, 116, 101]⟩ [], .mk 4 0 ⟨#[120]⟩ []]]
theorem readA : readT [40, 97, 32, 46, 32, 40, 98, 32, 99, 41, 41, 32, 39, 120] = (srcD, 0, 0) := by
  unfold readT
  rw [srcA, if_neg (by decide)]
  rfl
theorem readB : readT [40, 97, 32, 46, 32, 98, 32, 99, 41] = ([], 7, 42) := by
  unfold readT
  rw [srcB, if_neg (by decide)]
  rfl
theorem readC : readT [40, 97] = ([], 2, 41) := by
  unfold readT
  rw [srcC, if_neg (by decide)]
  rfl
theorem writeA : writeM srcD = ([40, 97, 32, 98, 32, 99, 41, 10, 40, 113, 117, 111, 116, 101, 32, 120, 41, 10], 0) := by
  decide +kernel

theorem fixed4_any (w : World) (hT : LaidOk w) (h2 : 2 ≤ w.heap.size) : Calls Tryz.prog 11 #[] w fun e w' => e = .returned (.bool true) ∧ Below w.heap.size w w' := by
  have HE := Lib.hid (fun W (h : Below w.heap.size w W) => hT.1.below h hT.1.two)
  have HTab := Lib.hid (fun W (h : Below w.heap.size w W) => Dat.tabOk_below hT.2 h h2)
  have K1 := Lib.hid (fun W (h : ErrsOk W) => read_any ⟨#[40, 97, 32, 46, 32, 40, 98, 32, 99, 41, 41, 32, 39, 120]⟩ W (by decide) h)
  have K2 := Lib.hid (fun W (h : ErrsOk W) => read_any ⟨#[40, 97, 32, 46, 32, 98, 32, 99, 41]⟩ W (by decide) h)
  have K3 := Lib.hid (fun W (h : ErrsOk W) => read_any ⟨#[40, 97]⟩ W (by decide) h)
  clear hT
  go_enter Tryz.func11, Tryz.ntmps11
  go_wp2_with fail
  refine (K1.out _ (HE.out _ (Below.refl _ _))).mono ?_
  rintro e w1 ⟨hb1, v1, he, hn1⟩
  have hn1' : NewS w1 w.heap.size srcD v1 := by
    have := hn1
    rwa [show (readT (⟨#[40, 97, 32, 46, 32, 40, 98, 32, 99, 41, 41, 32, 39, 120]⟩ : ByteArray).data.toList).1 = srcD from congrArg Prod.fst readA] at this
  rw [show (readT (⟨#[40, 97, 32, 46, 32, 40, 98, 32, 99, 41, 41, 32, 39, 120]⟩ : ByteArray).data.toList).2 = (0, 0) from congrArg Prod.snd readA] at he
  subst he
  have HN := Lib.hid hn1'
  have HB1 := Lib.hid hb1
  obtain ⟨a1, c1, rfl, _⟩ := hn1'
  clear hn1 hb1
  go_wp2_with fail
  refine (K2.out _ (HE.out _ HB1.out)).mono ?_
  rintro e w2 ⟨hb2, v2, he, _⟩
  rw [show (readT (⟨#[40, 97, 32, 46, 32, 98, 32, 99, 41]⟩ : ByteArray).data.toList).2 = (7, 42) from congrArg Prod.snd readB] at he
  subst he
  have HB12 := Lib.hid hb2
  have HB2 := Lib.hid (HB1.out.trans (hb2.mono HB1.out.size))
  clear hb2
  go_wp2_with fail
  refine (K3.out _ (HE.out _ HB2.out)).mono ?_
  rintro e w3 ⟨hb3, v3, he, _⟩
  rw [show (readT (⟨#[40, 97]⟩ : ByteArray).data.toList).2 = (2, 41) from congrArg Prod.snd readC] at he
  subst he
  have HB13 := Lib.hid (HB12.out.trans (hb3.mono HB12.out.size))
  have HB3 := Lib.hid (HB2.out.trans (hb3.mono HB2.out.size))
  clear hb3
  have KW := write_any srcD _ w3 w1.heap.size (HN.out.rep.below HB13.out (Nat.le_refl _)) HB13.out.size (by have := HB3.out.size; omega) (HTab.out _ HB3.out) (by decide +kernel)
  rw [writeA] at KW
  have HW := Lib.hid KW
  clear KW
  go_wp2_with fail
  refine HW.out.mono ?_
  rintro e w4 ⟨rfl, hb4⟩
  go_wp2
  go_ret
  exact ⟨rfl, HB3.out.trans (hb4.mono HB3.out.size)⟩
end Go.Proofs.YthfjlcflpneffaaGreatDoor

/-
The second form's bound: how long a row of data is that is an argument; the witness of the second form's rows.
-/
namespace Go.Proofs.YthfjlcflpneffaaGreatDoor
open Go.ChangeShapes Go.WideShapes Go.ChangeAt Go.WideMaps Go.WideElems Go.RowKit
set_option maxRecDepth 100000

theorem bulk_one {H : Type} (d : DataW H) : 1 ≤ Rows.uptoBulk d := by
  cases d with
  | lit l => cases l <;> simp [Rows.uptoBulk]
  | nil => simp [Rows.uptoBulk]
  | ptr d => simp [Rows.uptoBulk]
  | slice a b => simp [Rows.uptoBulk]
  | agg a => simp [Rows.uptoBulk]
  | iface a b => simp [Rows.uptoBulk]
  | map a => simp [Rows.uptoBulk]
  | held a => simp [Rows.uptoBulk]
theorem bulk_len {H : Type} : ∀ l : List (DataW H), l.length ≤ Rows.uptoBulkAll l
  | [] => by simp
  | x :: r => by have := bulk_one x; have := bulk_len r; simp only [Rows.uptoBulkAll, List.length_cons]; omega
theorem bulk_bound {H : Type} {l : List (DataW H)} (hk : Rows.uptoSmall H l = true) : Rows.uptoBulkAll l ≤ 1048576 := of_decide_eq_true hk

section
variable {H : Type} {enc : TypeId × Value → H} {w : World} {spare : Nat → Bool} {held : Bool}
theorem len_bulk {a : Option Addr} {len cap : Nat} {d : DataW H} {p : List MemPlace} (h : DataW.Trod enc Tryz.prog w 0 spare held 22 (.slice a len cap) d p) : len ≤ Rows.uptoBulk d := by
  obtain ⟨n, hn⟩ := h
  rcases DataW.trod_slice Tryz.underlying22 hn with ⟨h1, _⟩ | ⟨⟨b, o, spot⟩, len', cap', elems, rest, m, h1, h2, h3, _, hl, hm, hlen, hel, _, _⟩
  · have h4 : [Value.slice a len cap] = [Value.slice none 0 0] := h1
    cases h4
    exact Nat.zero_le _
  · have h4 : [Value.slice a len cap] = [Value.slice (some ⟨b, o, spot⟩) len' cap'] := h2
    cases h4
    cases h3
    have := bulk_len (elems.map (·.1))
    simp only [List.length_map] at this
    simp only [Rows.uptoBulk]
    omega
end

theorem witness7 {H : Type} {enc : TypeId × Value → H} {os : Os} {f : FuncId} {fn : Func} {s : OpenSpec} (args : Array Value) {x : List (DataW H) × List (DataW H) × List MemPlace}
    (hok : Input.okWideB Tryz.prog ((World.laidAll Tryz.prog os laid7).forCall (fun _ _ => 0) ⟨#[], args, []⟩) f ⟨#[], args, []⟩ = true)
    (hx : DataW.whole enc Tryz.prog ((World.laidAll Tryz.prog os laid7).forCall (fun _ _ => 0) ⟨#[], args, []⟩).memory fn.params.toList s.vars false args.toList 8 = some x)
    (hkk : ∀ k, s.cond = some k → k H (x.1 ++ x.2.1) = true)
    (hsz : s.bare.sizedB enc Tryz.prog fn false ((World.laidAll Tryz.prog os laid7).forCall (fun _ _ => 0) ⟨#[], args, []⟩).memory args 8 = true)
    (hsh : ((World.laidAll Tryz.prog os laid7).forCall (fun _ _ => 0) ⟨#[], args, []⟩).Shaped Tryz.prog) :
    ∃ (w : World) (tape : Tape) (i : Input), w.os = os ∧ (w.forCall tape i).Shaped Tryz.prog ∧ i.vars = [] ∧ Input.okWide Tryz.prog (w.forCall tape i) .any w.heap.size f i ∧
      s.preRow enc Tryz.prog fn [] false laid7 (w.forCall tape i).memory i.args ∧ ({} : Assume).holds Tryz.prog (lone (Frame.enter Tryz.prog f i.args .normal) [] (w.forCall tape i)) :=
  ⟨World.laidAll Tryz.prog os laid7, fun _ _ => 0, ⟨#[], args, []⟩, World.laidAll_os _ _ _, hsh, (Input.okWide_of_okWideB (base := 0) hok).1, (Input.okWide_of_okWideB hok).2,
    OpenSpec.preRow_of_cond 8 hx rfl hkk hsz (door_met os _), by
    simp only [Assume.holds]
    refine ⟨?_, ?_, ?_, ?_⟩ <;> simp⟩
end Go.Proofs.YthfjlcflpneffaaGreatDoor
