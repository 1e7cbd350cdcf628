/-
Texts D13, D14, D15, D16, D17, D18, D19, D20a, one behind the other (a claim bears sixty files). Conditions: as each says.
-/
import Derived.Test.YthfjlcflpneffaaGreatDoorD11
import Derived.Test.YthfjlcflpneffaaGreatDoorShelfI
import Derived.Lib.Builder
import Derived.Lib.AppendStr
import Derived.Lib.UnsafeStr
import Derived.Laws.Externs
import Derived.RegionTactic
import Derived.StillTailTactics
import Derived.Deep.QuietTactic
import Derived.BigQuiet
import Derived.Deep.RegionHeld3

/-
The builder in a teller of package data: what its calls do: copyCheck, WriteByte, WriteString, String. A text of at most 2^47 bytes.
-/
namespace Go.Proofs.YthfjlcflpneffaaGreatDoor.Dat
open Go.ChangeShapes Go.WideShapes Go.ChangeAt Go.RowKit
set_option maxRecDepth 100000

theorem infoByte : (Tryz.prog.info? 5).map (fun i => (i.zero, i.size, i.bytes)) = some (some (.int .u8 0), 1, 1) := by kernel_rfl
theorem sizeBuilder : (Tryz.prog.info? 62).map (·.size) = some 2 := by kernel_rfl
theorem liesBuilder : liesAt Tryz.prog Tryz.prog.depth 89 (3 / Tryz.prog.cellsOf 89) 0 62 1 = true := by kernel_rfl

/-- A teller in a block of its own, holding the bytes l; p: what its builder's first field holds. -/
def TellerAt (tb : Nat) (bare : Bool) (p : Value) (l : List UInt8) (w : World) : Prop :=
  ∃ v, w.heap[tb]? = some (.cells #[p, v, .bool bare] 89 (0, 0)) ∧ w.ownsRow tb 5 1 v l.length (Lib.byteCells l) ∧ v.ownBlock ≠ some tb
/-- .. fresh or used. -/
def IsTeller (tb : Nat) (bare : Bool) (l : List UInt8) (w : World) : Prop :=
  TellerAt tb bare (.pointer none) l w ∨ TellerAt tb bare (.pointer (some ⟨tb, 0, none⟩)) l w

set_option maxRecDepth 100000 in
theorem copyCheck_used (tb : Nat) (w : World) (h0 : w.cell? ⟨tb, 0, none⟩ = some (.pointer (some ⟨tb, 0, none⟩))) :
    Calls Tryz.prog 43 #[.pointer (some ⟨tb, 0, none⟩)] w fun e w' => e = .returned (.tuple #[]) ∧ w = w' := by
  obtain ⟨j, hj, _⟩ := Option.map_eq_some_iff.1 sizeBuilder
  go_enter Tryz.func43, Tryz.ntmps43
  go_wp2
  rw [Lib.run_neq_ptr_same w _ Tryz.underlying60 hj]
  go_wp2
  go_end0
  exact ⟨rfl, rfl⟩

set_option maxRecDepth 100000 in
theorem copyCheck_fresh (tb : Nat) (w : World) (h0 : w.cell? ⟨tb, 0, none⟩ = some (.pointer none)) (hsh : w.shape? tb = some (89, 3)) (hfz : w.frozen? ⟨tb, 0, none⟩ = false) :
    Calls Tryz.prog 43 #[.pointer (some ⟨tb, 0, none⟩)] w fun e w' => e = .returned (.tuple #[]) ∧ w' = w.setCell ⟨tb, 0, none⟩ (.pointer (some ⟨tb, 0, none⟩)) := by
  obtain ⟨j, hj, hjs⟩ := Option.map_eq_some_iff.1 sizeBuilder
  go_enter Tryz.func43, Tryz.ntmps43
  go_wp2
  rw [Lib.run_to_unsafe w ⟨tb, 0, none⟩ Tryz.underlying60 Tryz.underlying99 hj (by rw [hjs]; decide) hsh (Nat.zero_lt_succ 2)]
  simp only [Result.andThen]
  rw [Oper.upon_value]
  go_wp2
  rw [run_callFunc_extern Tryz.func60 (by kernel_rfl) (by kernel_rfl) (by kernel_rfl) (e := Extern.AbiNoEscape.same) (by kernel_rfl)]
  rw [Lib.run_noEscape]
  simp only [Result.andThen]
  rw [Oper.upon_value]
  go_wp2
  rw [Lib.run_from_unsafe w ⟨tb, 0, none⟩ Tryz.underlying99 Tryz.underlying60 hj hsh liesBuilder]
  simp only [Result.andThen]
  rw [Oper.upon_value]
  go_wp2
  go_end0
  exact ⟨rfl, rfl⟩

theorem TellerAt.cell {tb : Nat} {bare : Bool} {p : Value} {l : List UInt8} {w : World} (h : TellerAt tb bare p l w) : w.cell? ⟨tb, 0, none⟩ = some p ∧ w.cell? ⟨tb, 2, none⟩ = some (.bool bare) ∧ w.frozen? ⟨tb, 0, none⟩ = false ∧ w.shape? tb = some (89, 3) ∧ tb < w.heap.size := by
  obtain ⟨v, hb, _⟩ := h
  refine ⟨by rw [Lib.cell_of_heap hb]; rfl, by rw [Lib.cell_of_heap hb]; rfl, Lib.frozen_of_heap hb 0, by simp [World.shape?, hb], lt_of_block hb⟩

theorem TellerAt.used {tb : Nat} {bare : Bool} {p : Value} {l : List UInt8} {w : World} (h : TellerAt tb bare p l w) (q : Value) : TellerAt tb bare q l (w.setCell ⟨tb, 0, none⟩ q) := by
  obtain ⟨v, hb, hown, hne⟩ := h
  refine ⟨v, ?_, ?_, hne⟩
  · simp [World.setCell, Array.getElem?_modify, hb]
  · refine hown.kept (row := some tb) ⟨rfl, rfl, rfl, by simp [World.setCell], fun k _ hk => Below.heap_setCell _ _ _ _ (fun e => hk (by simp [e]))⟩ ?_
    exact Or.inr hne

theorem IsTeller.has {tb : Nat} {bare : Bool} {l : List UInt8} {w : World} (h : IsTeller tb bare l w) : ∃ p, TellerAt tb bare p l w := h.elim (fun h => ⟨_, h⟩) (fun h => ⟨_, h⟩)

theorem IsTeller.cells {tb : Nat} {bare : Bool} {l : List UInt8} {w : World} (h : IsTeller tb bare l w) : w.cell? ⟨tb, 2, none⟩ = some (.bool bare) ∧ tb < w.heap.size := by
  obtain ⟨p, hp⟩ := h.has
  exact ⟨hp.cell.2.1, hp.cell.2.2.2.2⟩

theorem IsTeller.moved {tb : Nat} {bare : Bool} {l : List UInt8} {w w' : World} (h : IsTeller tb bare l w) (hb : Below w.heap.size w w') : IsTeller tb bare l w' := by
  have one : ∀ p, TellerAt tb bare p l w → TellerAt tb bare p l w' := by
    rintro p ⟨v, hbk, hown, hne⟩
    refine ⟨v, (hb.block tb (lt_of_block hbk)).trans hbk, ?_, hne⟩
    exact hown.kept (row := none) ⟨hb.os, hb.tape, hb.output, hb.size, fun k hk _ => hb.block k hk⟩ (by cases hv : v.ownBlock <;> simp)
  exact h.elim (fun h => .inl (one _ h)) (fun h => .inr (one _ h))

theorem copyCheck_any (tb : Nat) (bare : Bool) (l : List UInt8) (w : World) (h : IsTeller tb bare l w) :
    Calls Tryz.prog 43 #[.pointer (some ⟨tb, 0, none⟩)] w fun e w' => e = .returned (.tuple #[]) ∧ TellerAt tb bare (.pointer (some ⟨tb, 0, none⟩)) l w' ∧ Below tb w w' := by
  rcases h with h | h
  · obtain ⟨c0, _, f0, sh, _⟩ := h.cell
    refine (copyCheck_fresh tb w c0 sh f0).mono ?_
    rintro e w' ⟨rfl, rfl⟩
    exact ⟨rfl, h.used _, (Below.refl tb w).setCell (p := ⟨tb, 0, none⟩) (Nat.le_refl _) _⟩
  · refine (copyCheck_used tb w h.cell.1).mono ?_
    rintro e w' ⟨rfl, rfl⟩
    exact ⟨rfl, h, Below.refl tb _⟩

/-- A new buffer laid into the builder. -/
theorem teller_put {tb : Nat} {bare : Bool} {p v v' : Value} {l : List UInt8} {w : World} (hb : w.heap[tb]? = some (.cells #[p, v, .bool bare] 89 (0, 0))) (hown : w.ownsRow tb 5 1 v' l.length (Lib.byteCells l)) :
    TellerAt tb bare p l (w.setCell ⟨tb, 1, none⟩ v') := by
  have hne := Lib.ownBlock_ne hown hb (by decide)
  refine ⟨v', ?_, ?_, hne⟩
  · simp [World.setCell, Array.getElem?_modify, hb]
  · exact hown.kept (row := some tb) ⟨rfl, rfl, rfl, by simp [World.setCell], fun k _ hk => Below.heap_setCell _ _ _ _ (fun e => hk (by simp [e]))⟩ (Or.inr hne)

set_option maxHeartbeats 1000000 in
set_option maxRecDepth 100000 in
theorem writeByte_any (tb : Nat) (bare : Bool) (l : List UInt8) (c : UInt8) (w : World) (h : IsTeller tb bare l w) (hlen : l.length + 1 ≤ 140737488355328) :
    Calls Tryz.prog 28 #[.pointer (some ⟨tb, 0, none⟩), .int .u8 (c.toNat : Int)] w fun e w' => e = .returned .nilIface ∧ TellerAt tb bare (.pointer (some ⟨tb, 0, none⟩)) (l ++ [c]) w' ∧ Below tb w w' := by
  obtain ⟨i0, hi, hz0, hz1, hz2⟩ := info_parts infoByte
  have htbw := h.cells.2
  go_enter Tryz.func28, Tryz.ntmps28
  go_wp2_with (go_at_call 43; refine (copyCheck_any tb bare l _ h).mono ?_)
  rintro e w1 ⟨rfl, ⟨v, hbk, hown, hne⟩, hb1⟩
  have c0 : w1.cell? ⟨tb, 0, none⟩ = some (.pointer (some ⟨tb, 0, none⟩)) := by rw [Lib.cell_of_heap hbk]; rfl
  have c1 : w1.cell? ⟨tb, 1, none⟩ = some v := by rw [Lib.cell_of_heap hbk]; rfl
  have hlt : tb < w1.heap.size := lt_of_block hbk
  go_wp2_with (at_builtin; refine wpList_append_own _ rfl _ _ 39 rfl tb 5 i0 (.int .u8 0) 1 1 Tryz.underlying39 hi hz0 hz1 hz2 rfl (by decide) _ _ _ rfl (hown.alloc _) ⟨w1.heap.size, 0, none⟩ 1 1 [.int .u8 c.toNat] rfl rfl ?c1 ?c2 ?c3 ?c4 ?c5 ?_)
  case c1 =>
    intro j u hj
    match j, hj with
    | 0, hj => simp at hj; subst hj; simp [Addr.add]
  case c2 => intro u hu; simp at hu; subst hu; rfl
  case c3 => unfold maxLen; omega
  case c4 => omega
  case c5 => simp; omega
  intro v' w2 hown' hgrow _
  have hb2 : w2.heap[tb]? = some (.cells #[.pointer (some ⟨tb, 0, none⟩), v, .bool bare] 89 (0, 0)) := by
    rw [hgrow.block tb (by simp; omega) (fun e => hne e.symm), Lib.alloc_old w1 _ tb hlt]
    exact hbk
  have d0 : w2.cell? ⟨tb, 0, none⟩ = some (.pointer (some ⟨tb, 0, none⟩)) := by rw [Lib.cell_of_heap hb2]; rfl
  have d1 : w2.cell? ⟨tb, 1, none⟩ = some v := by rw [Lib.cell_of_heap hb2]; rfl
  have f1 : w2.frozen? ⟨tb, 1, none⟩ = false := Lib.frozen_of_heap hb2 1
  obtain ⟨g, cap, rfl⟩ : ∃ g cap, v' = .slice (some ⟨g, 0, none⟩) (l.length + 1) cap := by
    rcases hown'.2 with ⟨_, h0⟩ | ⟨g, cap, cur, hv, _⟩
    · omega
    · exact ⟨g, cap, hv⟩
  go_wp2
  go_ret
  refine ⟨rfl, ?_, ?_⟩
  · exact teller_put hb2 (by simpa [Lib.byteCells_append, Lib.byteCells] using hown')
  · exact ((hb1.alloc (by omega) _).grown hgrow (by simp; omega) (fun k hk => (hown.lt k hk).1)).setCell (p := ⟨tb, 1, none⟩) (Nat.le_refl _) _

set_option maxHeartbeats 1000000 in
set_option maxRecDepth 100000 in
theorem writeString_any (tb : Nat) (bare : Bool) (l : List UInt8) (s : ByteArray) (w : World) (h : IsTeller tb bare l w) (hlen : l.length + s.size ≤ 140737488355328) :
    Calls Tryz.prog 27 #[.pointer (some ⟨tb, 0, none⟩), .string s] w fun e w' => e = .returned (.tuple #[.int .i64 s.size, .nilIface]) ∧ TellerAt tb bare (.pointer (some ⟨tb, 0, none⟩)) (l ++ s.data.toList) w' ∧ Below tb w w' := by
  obtain ⟨i0, hi, hz0, hz1, hz2⟩ := info_parts infoByte
  have htbw := h.cells.2
  go_enter Tryz.func27, Tryz.ntmps27
  go_wp2_with (go_at_call 43; refine (copyCheck_any tb bare l _ h).mono ?_)
  rintro e w1 ⟨rfl, ⟨v, hbk, hown, hne⟩, hb1⟩
  have c0 : w1.cell? ⟨tb, 0, none⟩ = some (.pointer (some ⟨tb, 0, none⟩)) := by rw [Lib.cell_of_heap hbk]; rfl
  have c1 : w1.cell? ⟨tb, 1, none⟩ = some v := by rw [Lib.cell_of_heap hbk]; rfl
  have hlt : tb < w1.heap.size := lt_of_block hbk
  go_wp2_with (at_builtin; refine Lib.wpList_append_own_string _ rfl _ _ 39 9 rfl tb 5 i0 Tryz.underlying39 Tryz.underlying9 hi hz0 hz1 hz2 _ _ _ rfl hown s rfl ?c3 ?c4 ?c5 ?_)
  case c3 => unfold maxLen; omega
  case c4 => omega
  case c5 => omega
  intro v' w2 hown' hgrow _
  have hb2 : w2.heap[tb]? = some (.cells #[.pointer (some ⟨tb, 0, none⟩), v, .bool bare] 89 (0, 0)) := by
    rw [hgrow.block tb hlt (fun e => hne e.symm)]
    exact hbk
  have d0 : w2.cell? ⟨tb, 0, none⟩ = some (.pointer (some ⟨tb, 0, none⟩)) := by rw [Lib.cell_of_heap hb2]; rfl
  have d1 : w2.cell? ⟨tb, 1, none⟩ = some v := by rw [Lib.cell_of_heap hb2]; rfl
  have f1 : w2.frozen? ⟨tb, 1, none⟩ = false := Lib.frozen_of_heap hb2 1
  obtain ⟨ao, n', cap, rfl⟩ : ∃ ao n' cap, v' = .slice ao n' cap := by
    rcases hown'.2 with ⟨hv, _⟩ | ⟨g, cap, cur, hv, _⟩
    · exact ⟨_, _, _, hv⟩
    · exact ⟨_, _, _, hv⟩
  go_wp2
  go_ret2
  refine ⟨rfl, ?_, ?_⟩
  · refine teller_put hb2 ?_
    rw [Lib.byteCells_append, ← Lib.strCells_eq, List.length_append, len_data]
    exact hown'
  · exact (hb1.grown hgrow (by omega) (fun k hk => (hown.lt k hk).1)).setCell (p := ⟨tb, 1, none⟩) (Nat.le_refl _) _

set_option maxHeartbeats 1000000 in
set_option maxRecDepth 100000 in
/-- String: of a teller that has written something. -/
theorem string_some (tb : Nat) (bare : Bool) (l : List UInt8) (w : World) (h : IsTeller tb bare l w) (h0 : l ≠ []) :
    Calls Tryz.prog 29 #[.pointer (some ⟨tb, 0, none⟩)] w fun e w' => e = .returned (.string ⟨l.toArray⟩) ∧ Below tb w w' := by
  obtain ⟨p, v, hbk, hown, hne⟩ := h.has
  have hl0 : l.length ≠ 0 := by simpa using h0
  obtain ⟨g, cap, cur, rfl, hbg, hg, hnc, hcm, hcs, htake⟩ : ∃ g cap cur, v = .slice (some ⟨g, 0, none⟩) l.length cap ∧ tb ≤ g ∧ w.heap[g]? = some (.cells cur 5 (0, 0)) ∧ l.length ≤ cap ∧ cap ≤ maxLen ∧ cur.size = cap * 1 ∧ cur.toList.take (l.length * 1) = Lib.byteCells l := by
    rcases hown.2 with ⟨_, hz⟩ | ⟨g, cap, cur, hv, r⟩
    · exact absurd hz hl0
    · exact ⟨g, cap, cur, hv, r⟩
  have c1 : w.drew.cell? ⟨tb, 1, none⟩ = some (.slice (some ⟨g, 0, none⟩) l.length cap) := by
    have : w.drew.heap[tb]? = some (.cells #[p, .slice (some ⟨g, 0, none⟩) l.length cap, .bool bare] 89 (0, 0)) := hbk
    rw [Lib.cell_of_heap this]; rfl
  have hSD : (Builtin.unsafeSliceData_ #[39] 85 #[.slice (some ⟨g, 0, none⟩) l.length cap]).run Tryz.prog w.drew = .ok (.pointer (some ⟨g, 0, none⟩)) w.drew :=
    Lib.run_unsafeSliceData_row _ _ _ _ _ _ (by omega)
  have hUS : (Builtin.unsafeString_ #[85, 3] 9 #[.pointer (some ⟨g, 0, none⟩), .int .i64 l.length]).run Tryz.prog w.drew = .ok (.string ⟨l.toArray⟩) (w.drew.freeze ⟨g, 0, none⟩ l.length) := by
    refine Lib.run_unsafeString_row w.drew 85 3 9 5 Tryz.underlying85 (by kernel_rfl) g cur.size (by have hg' : w.drew.heap[g]? = some (.cells cur 5 (0, 0)) := hg; simp [World.shape?, hg']) l h0 (by omega) (by unfold maxLen at hcm; omega) ?_
    intro j x hx
    have := hown.cells (g := g) rfl j (.int .u8 x.toNat) (by simp [Lib.byteCells, hx])
    exact this
  go_enter Tryz.func29, Tryz.ntmps29
  go_wp2
  go_region
  all_goals (go_wp2; go_ret; exact ⟨rfl, Lib.below_freeze (Below.drew (Below.refl tb w)) (p := ⟨g, 0, none⟩) hbg _⟩)
end Go.Proofs.YthfjlcflpneffaaGreatDoor.Dat

/-
What a teller of package data writes of a truth, of a byte, of a string: its small methods. A text of at most 2^47 bytes.
-/
namespace Go.Proofs.YthfjlcflpneffaaGreatDoor.Dat
open Go.ChangeShapes Go.WideShapes Go.ChangeAt Go.RowKit
set_option maxRecDepth 100000

def hexd (n : Nat) : UInt8 := if n < 10 then UInt8.ofNat (48 + n) else UInt8.ofNat (87 + n)
def hexT (c : UInt8) : List UInt8 := [120, hexd (c.toNat / 16), hexd (c.toNat % 16)]

def Wrote (tb : Nat) (bare : Bool) (l : List UInt8) (w : World) (e : Ending) (w' : World) : Prop := e = .returned (.tuple #[]) ∧ IsTeller tb bare l w' ∧ Below tb w w'

theorem putByte (tb : Nat) (bare : Bool) (l : List UInt8) (c : Int) (c8 : UInt8) (hc : c = (c8.toNat : Int)) (w : World) (h : IsTeller tb bare l w) (hlen : l.length + 1 ≤ 140737488355328) :
    Calls Tryz.prog 28 #[.pointer (some ⟨tb, 0, none⟩), .int .u8 c] w fun e w' => e = .returned .nilIface ∧ IsTeller tb bare (l ++ [c8]) w' ∧ Below tb w w' := by
  subst hc
  exact (writeByte_any tb bare l c8 w h hlen).mono fun _ _ ⟨he, h1, hb⟩ => ⟨he, .inr h1, hb⟩
theorem putText (tb : Nat) (bare : Bool) (l : List UInt8) (s : ByteArray) (t : List UInt8) (ht : s.data.toList = t) (w : World) (h : IsTeller tb bare l w) (hlen : l.length + t.length ≤ 140737488355328) :
    Calls Tryz.prog 27 #[.pointer (some ⟨tb, 0, none⟩), .string s] w fun e w' => e = .returned (.tuple #[.int .i64 s.size, .nilIface]) ∧ IsTeller tb bare (l ++ t) w' ∧ Below tb w w' := by
  subst ht
  rw [len_data] at hlen
  exact (writeString_any tb bare l s w h hlen).mono fun _ _ ⟨he, h1, hb⟩ => ⟨he, .inr h1, hb⟩

theorem truth_any (tb : Nat) (bare : Bool) (l : List UInt8) (n : Int) (w : World) (h : IsTeller tb bare l w) (hlen : l.length + 2 ≤ 140737488355328) :
    Calls Tryz.prog 63 #[.pointer (some ⟨tb, 0, none⟩), .int .i64 n] w (Wrote tb bare (l ++ (if n = 0 then [35, 102] else [35, 116])) w) := by
  by_cases hn : n = 0
  · subst hn
    rw [if_pos rfl]
    go_enter Tryz.func63, Tryz.ntmps63
    go_wp2_with fail
    refine (putText tb bare l _ [35, 102] rfl _ h hlen).mono ?_
    rintro e w1 ⟨rfl, h1, hb1⟩
    go_wp2
    go_end0
    exact ⟨rfl, h1, hb1⟩
  · rw [if_neg hn]
    have hn' : (n == 0) = false := by simpa using hn
    go_enter Tryz.func63, Tryz.ntmps63
    go_wp2_with fail
    refine (putText tb bare l _ [35, 116] rfl _ h hlen).mono ?_
    rintro e w1 ⟨rfl, h1, hb1⟩
    go_wp2
    go_end0
    exact ⟨rfl, h1, hb1⟩

theorem hex_index (n : Nat) (h : n < 16) : ((({ data := #[48, 49, 50, 51, 52, 53, 54, 55, 56, 57, 97, 98, 99, 100, 101, 102] } : ByteArray)[n]'h).toNat : Int) = ((hexd n).toNat : Int) := by
  have : ∀ m : Fin 16, (({ data := #[48, 49, 50, 51, 52, 53, 54, 55, 56, 57, 97, 98, 99, 100, 101, 102] } : ByteArray)[m.val]'m.isLt) = hexd m.val := by decide +kernel
  have e := this ⟨n, h⟩
  exact congrArg (fun c : UInt8 => (c.toNat : Int)) e
theorem and15 (c : UInt8) : bits .and .u8 (c.toNat : Int) 15 = (c.toNat : Int) % 16 := by
  have : ∀ m : Fin 256, bits .and .u8 (m.val : Int) 15 = (m.val : Int) % 16 := by decide +kernel
  exact this ⟨c.toNat, c.toNat_lt⟩
theorem IsTeller.drew {tb : Nat} {bare : Bool} {l : List UInt8} {w : World} (h : IsTeller tb bare l w) : IsTeller tb bare l w.drew := h

theorem hex_any (tb : Nat) (bare : Bool) (l : List UInt8) (c : UInt8) (w : World) (h : IsTeller tb bare l w) (hlen : l.length + 3 ≤ 140737488355328) :
    Calls Tryz.prog 85 #[.pointer (some ⟨tb, 0, none⟩), .int .u8 (c.toNat : Int)] w (Wrote tb bare (l ++ hexT c) w) := by
  have hlt := h.cells.2
  go_enter Tryz.func85, Tryz.ntmps85
  go_wp2_with fail
  refine (putByte tb bare l _ 120 rfl _ h (by omega)).mono ?_
  rintro e w1 ⟨rfl, h1, hb1⟩
  go_wp2
  have hc := c.toNat_lt
  have q0 : (0 : Int) ≤ (c.toNat : Int) / 16 := by omega
  have q1 : (c.toNat : Int) / 16 < 16 := by omega
  have H1 := Lib.hid h1.drew
  have HB := Lib.hid hb1.drew
  clear h1 hb1
  go_still_tail 6, (by kernel_rfl)
  change wpList _ _ _ _ _ w1.drew
  generalize w1.drew = w2 at H1 HB
  go_wp2_with fail
  refine (putByte tb bare _ _ (hexd (c.toNat / 16)) (hex_index _ _) _ H1.out (by simp; omega)).mono ?_
  rintro e w3 ⟨rfl, h3, hb3⟩
  have H3 := Lib.hid h3.drew
  have HB3 := Lib.hid (HB.out.trans hb3).drew
  clear h3 hb3
  have a15 := and15 c
  have r0 : (0 : Int) ≤ (c.toNat : Int) % 16 := by omega
  have r1 : (c.toNat : Int) % 16 < 16 := by omega
  go_wp2
  go_still_tail 6, (by kernel_rfl)
  change wpList _ _ _ _ _ w3.drew
  generalize w3.drew = w4 at H3 HB3
  go_wp2_with fail
  refine (putByte tb bare _ _ (hexd (c.toNat % 16)) (hex_index _ _) _ H3.out (by simp; omega)).mono ?_
  rintro e w5 ⟨rfl, h5, hb5⟩
  go_wp2
  go_end0
  refine ⟨rfl, ?_, HB3.out.trans hb5⟩
  rw [List.append_assoc, List.append_assoc] at h5
  exact h5

def spaceT : List UInt8 := [115, 112, 97, 99, 101]
def newlineT : List UInt8 := [110, 101, 119, 108, 105, 110, 101]
/-- A character's text. -/
def charT (c : UInt8) : List UInt8 :=
  [35, 92] ++ if c.toNat = 32 then spaceT else if c.toNat = 10 then newlineT else if 32 < c.toNat ∧ c.toNat ≤ 126 then [c] else hexT c
def charS (bare : Bool) (c : UInt8) : List UInt8 := if bare then [c] else charT c

theorem char_any (tb : Nat) (bare : Bool) (l : List UInt8) (c : UInt8) (w : World) (h : IsTeller tb bare l w) (hlen : l.length + 10 ≤ 140737488355328) :
    Calls Tryz.prog 65 #[.pointer (some ⟨tb, 0, none⟩), .int .u8 (c.toNat : Int)] w (Wrote tb bare (l ++ charS bare c) w) := by
  have hc2 := h.cells.1
  cases bare
  · have H := Lib.hid h
    clear h
    by_cases h32 : c.toNat = 32
    · have e : (c.toNat : Int) = 32 := by omega
      have E := Lib.hid h32
      rw [e]
      clear h32 e
      go_enter Tryz.func65, Tryz.ntmps65
      go_wp2_with fail
      refine (putText tb false l _ [35, 92] rfl _ H.out (by simp; omega)).mono ?_
      rintro e w1 ⟨rfl, h1, hb1⟩
      go_wp2_with fail
      refine (putText tb false _ _ spaceT rfl _ h1 (by simp [spaceT]; omega)).mono ?_
      rintro e w2 ⟨rfl, h2, hb2⟩
      go_wp2
      go_end0
      refine ⟨rfl, ?_, hb1.trans hb2⟩
      rw [List.append_assoc] at h2
      simpa [charS, charT, E.out] using h2
    · by_cases h10 : c.toNat = 10
      · have e : (c.toNat : Int) = 10 := by omega
        have E := Lib.hid h10
        rw [e]
        clear h10 e h32
        go_enter Tryz.func65, Tryz.ntmps65
        go_wp2_with fail
        refine (putText tb false l _ [35, 92] rfl _ H.out (by simp; omega)).mono ?_
        rintro e w1 ⟨rfl, h1, hb1⟩
        go_wp2_with fail
        refine (putText tb false _ _ newlineT rfl _ h1 (by simp [newlineT]; omega)).mono ?_
        rintro e w2 ⟨rfl, h2, hb2⟩
        go_wp2
        go_end0
        refine ⟨rfl, ?_, hb1.trans hb2⟩
        rw [List.append_assoc] at h2
        simpa [charS, charT, E.out] using h2
      · have b32 : ((c.toNat : Int) == 32) = false := by simp; omega
        have b10 : ((c.toNat : Int) == 10) = false := by simp; omega
        by_cases hp : 32 < c.toNat ∧ c.toNat ≤ 126
        · obtain ⟨p1, p2⟩ := hp
          have p1' : (32 : Int) < c.toNat := by omega
          have p2' : (c.toNat : Int) ≤ 126 := by omega
          have ht : charS false c = [35, 92] ++ [c] := by simp [charS, charT, h32, h10, p1, p2]
          have HT := Lib.hid ht
          clear ht h32 h10
          go_enter Tryz.func65, Tryz.ntmps65
          go_wp2_with fail
          refine (putText tb false l _ [35, 92] rfl _ H.out (by simp; omega)).mono ?_
          rintro e w1 ⟨rfl, h1, hb1⟩
          go_wp2_with fail
          refine (putByte tb false _ _ c rfl _ h1 (by simp; omega)).mono ?_
          rintro e w2 ⟨rfl, h2, hb2⟩
          go_wp2
          go_end0
          refine ⟨rfl, ?_, hb1.trans hb2⟩
          rw [List.append_assoc] at h2
          rw [HT.out]; exact h2
        · have ht : charS false c = [35, 92] ++ hexT c := by
            have : ¬ (32 < c.toNat ∧ c.toNat ≤ 126) := hp
            simp [charS, charT, h32, h10]
            omega
          have HT := Lib.hid ht
          clear ht h32 h10
          by_cases p1 : 32 < c.toNat
          · have p1' : (32 : Int) < c.toNat := by omega
            have p2' : ¬ (c.toNat : Int) ≤ 126 := by omega
            clear hp
            go_enter Tryz.func65, Tryz.ntmps65
            go_wp2_with fail
            refine (putText tb false l _ [35, 92] rfl _ H.out (by simp; omega)).mono ?_
            rintro e w1 ⟨rfl, h1, hb1⟩
            go_wp2_with fail
            refine (hex_any tb false _ c _ h1 (by simp; omega)).mono ?_
            rintro e w2 ⟨rfl, h2, hb2⟩
            go_wp2
            go_end0
            refine ⟨rfl, ?_, hb1.trans hb2⟩
            rw [List.append_assoc] at h2
            rw [HT.out]; exact h2
          · have p1' : ¬ (32 : Int) < c.toNat := by omega
            clear hp
            go_enter Tryz.func65, Tryz.ntmps65
            go_wp2_with fail
            refine (putText tb false l _ [35, 92] rfl _ H.out (by simp; omega)).mono ?_
            rintro e w1 ⟨rfl, h1, hb1⟩
            go_wp2_with fail
            refine (hex_any tb false _ c _ h1 (by simp; omega)).mono ?_
            rintro e w2 ⟨rfl, h2, hb2⟩
            go_wp2
            go_end0
            refine ⟨rfl, ?_, hb1.trans hb2⟩
            rw [List.append_assoc] at h2
            rw [HT.out]; exact h2
  · go_enter Tryz.func65, Tryz.ntmps65
    go_wp2_with fail
    refine (putByte tb true _ _ c rfl _ h (by omega)).mono ?_
    rintro e w2 ⟨rfl, h2, hb2⟩
    go_wp2
    refine bodyPost_ret (results_none rfl _ _ _) rfl ?_
    exact ⟨rfl, h2, hb2⟩

/-- A byte of a string's text. -/
def qbyteT (c : UInt8) : List UInt8 :=
  if c.toNat = 34 ∨ c.toNat = 92 then [92, c] else if c.toNat = 10 then [92, 110] else if 32 ≤ c.toNat ∧ c.toNat ≤ 126 then [c] else 92 :: hexT c

theorem qbyte_any (tb : Nat) (bare : Bool) (l : List UInt8) (c : UInt8) (w : World) (h : IsTeller tb bare l w) (hlen : l.length + 4 ≤ 140737488355328) :
    Calls Tryz.prog 86 #[.pointer (some ⟨tb, 0, none⟩), .int .u8 (c.toNat : Int)] w (Wrote tb bare (l ++ qbyteT c) w) := by
  by_cases hq : c.toNat = 34 ∨ c.toNat = 92
  · have ht : qbyteT c = [92] ++ [c] := by rw [qbyteT, if_pos hq]; rfl
    have HT := Lib.hid ht
    clear ht
    rcases hq with hq | hq
    · have b34 : ((c.toNat : Int) == 34) = true := by simp; omega
      clear hq
      go_enter Tryz.func86, Tryz.ntmps86
      go_wp2_with fail
      refine (putByte tb bare l _ 92 rfl _ h (by omega)).mono ?_
      rintro e w1 ⟨rfl, h1, hb1⟩
      go_wp2_with fail
      refine (putByte tb bare _ _ c rfl _ h1 (by simp; omega)).mono ?_
      rintro e w2 ⟨rfl, h2, hb2⟩
      go_wp2
      go_end0
      refine ⟨rfl, ?_, hb1.trans hb2⟩
      rw [List.append_assoc] at h2
      rw [HT.out]; exact h2
    · have b34 : ((c.toNat : Int) == 34) = false := by simp; omega
      have b92 : ((c.toNat : Int) == 92) = true := by simp; omega
      clear hq
      go_enter Tryz.func86, Tryz.ntmps86
      go_wp2_with fail
      refine (putByte tb bare l _ 92 rfl _ h (by omega)).mono ?_
      rintro e w1 ⟨rfl, h1, hb1⟩
      go_wp2_with fail
      refine (putByte tb bare _ _ c rfl _ h1 (by simp; omega)).mono ?_
      rintro e w2 ⟨rfl, h2, hb2⟩
      go_wp2
      go_end0
      refine ⟨rfl, ?_, hb1.trans hb2⟩
      rw [List.append_assoc] at h2
      rw [HT.out]; exact h2
  · have b34 : ((c.toNat : Int) == 34) = false := by simp; omega
    have b92 : ((c.toNat : Int) == 92) = false := by simp; omega
    by_cases h10 : c.toNat = 10
    · have b10 : ((c.toNat : Int) == 10) = true := by simp; omega
      have ht : qbyteT c = [92, 110] := by rw [qbyteT, if_neg hq, if_pos h10]
      have HT := Lib.hid ht
      clear ht h10 hq
      go_enter Tryz.func86, Tryz.ntmps86
      go_wp2_with fail
      refine (putText tb bare l _ [92, 110] rfl _ h (by simp; omega)).mono ?_
      rintro e w1 ⟨rfl, h1, hb1⟩
      go_wp2
      go_end0
      refine ⟨rfl, ?_, hb1⟩
      rw [HT.out]; exact h1
    · have b10 : ((c.toNat : Int) == 10) = false := by simp; omega
      by_cases hp : 32 ≤ c.toNat ∧ c.toNat ≤ 126
      · have ht : qbyteT c = [c] := by rw [qbyteT, if_neg hq, if_neg h10, if_pos hp]
        have HT := Lib.hid ht
        obtain ⟨p1, p2⟩ := hp
        have p1' : (32 : Int) ≤ c.toNat := by omega
        have p2' : (c.toNat : Int) ≤ 126 := by omega
        clear ht h10 hq
        go_enter Tryz.func86, Tryz.ntmps86
        go_wp2_with fail
        refine (putByte tb bare l _ c rfl _ h (by omega)).mono ?_
        rintro e w1 ⟨rfl, h1, hb1⟩
        go_wp2
        go_end0
        refine ⟨rfl, ?_, hb1⟩
        rw [HT.out]; exact h1
      · have ht : qbyteT c = [92] ++ hexT c := by rw [qbyteT, if_neg hq, if_neg h10, if_neg hp]; rfl
        have HT := Lib.hid ht
        clear ht h10 hq
        by_cases p1 : 32 ≤ c.toNat
        · have p1' : (32 : Int) ≤ c.toNat := by omega
          have p2' : ¬ (c.toNat : Int) ≤ 126 := by omega
          clear hp
          go_enter Tryz.func86, Tryz.ntmps86
          go_wp2_with fail
          refine (putByte tb bare l _ 92 rfl _ h (by omega)).mono ?_
          rintro e w1 ⟨rfl, h1, hb1⟩
          go_wp2_with fail
          refine (hex_any tb bare _ c _ h1 (by simp; omega)).mono ?_
          rintro e w2 ⟨rfl, h2, hb2⟩
          go_wp2
          go_end0
          refine ⟨rfl, ?_, hb1.trans hb2⟩
          rw [List.append_assoc] at h2
          rw [HT.out]; exact h2
        · have p1' : ¬ (32 : Int) ≤ c.toNat := by omega
          clear hp
          go_enter Tryz.func86, Tryz.ntmps86
          go_wp2_with fail
          refine (putByte tb bare l _ 92 rfl _ h (by omega)).mono ?_
          rintro e w1 ⟨rfl, h1, hb1⟩
          go_wp2_with fail
          refine (hex_any tb bare _ c _ h1 (by simp; omega)).mono ?_
          rintro e w2 ⟨rfl, h2, hb2⟩
          go_wp2
          go_end0
          refine ⟨rfl, ?_, hb1.trans hb2⟩
          rw [List.append_assoc] at h2
          rw [HT.out]; exact h2
end Go.Proofs.YthfjlcflpneffaaGreatDoor.Dat

/-
What a teller of package data writes of a string, of a list, of a datum. A text of at most 2^47 bytes.
-/
namespace Go.Proofs.YthfjlcflpneffaaGreatDoor.Dat
open Go.ChangeShapes Go.WideShapes Go.ChangeAt Go.RowKit
set_option maxRecDepth 100000

def qbytesT (s : List UInt8) : List UInt8 := s.flatMap qbyteT
/-- A string's text. -/
def quoteT (s : List UInt8) : List UInt8 := [34] ++ (qbytesT s ++ [34])
def quoteS (bare : Bool) (s : List UInt8) : List UInt8 := if bare then s else quoteT s

theorem hexT_len (c : UInt8) : (hexT c).length = 3 := rfl
theorem qbyteT_len (c : UInt8) : (qbyteT c).length ≤ 4 := by
  unfold qbyteT
  split
  · simp
  split
  · simp
  split
  · simp
  · simp [hexT_len]
theorem qbytesT_len (s : List UInt8) : (qbytesT s).length ≤ 4 * s.length := by
  induction s with
  | nil => simp [qbytesT]
  | cons c s ih =>
    simp only [qbytesT, List.flatMap_cons, List.length_append, List.length_cons] at ih ⊢
    have := qbyteT_len c
    omega
theorem qbytesT_take (s : List UInt8) (k : Nat) (h : k < s.length) : qbytesT (s.take (k + 1)) = qbytesT (s.take k) ++ qbyteT s[k] := by
  rw [qbytesT, List.take_succ_eq_append_getElem h, List.flatMap_append]; simp [qbytesT]

theorem quoted_any (tb : Nat) (bare : Bool) (l : List UInt8) (s : ByteArray) (w : World) (h : IsTeller tb bare l w) (hs : s.size ≤ maxLen) (hlen : l.length + 4 * s.size + 2 ≤ 140737488355328) :
    Calls Tryz.prog 66 #[.pointer (some ⟨tb, 0, none⟩), .string s] w (Wrote tb bare (l ++ quoteS bare s.data.toList) w) := by
  have hc2 := h.cells.1
  unfold maxLen at hs
  cases bare
  · have HL := Lib.hid (len_data s)
    go_enter Tryz.func66, Tryz.ntmps66
    go_wp2_with fail
    refine (putByte tb false l _ 34 rfl _ h (by omega)).mono ?_
    rintro e w1 ⟨rfl, h1, hb1⟩
    clear h hc2
    go_wp2
    go_loopw [20] (fun i wr => ∃ k : Nat, k ≤ s.size ∧ i = .int .i64 k ∧ IsTeller tb false (l ++ [34] ++ qbytesT (s.data.toList.take k)) wr ∧ Below tb w wr) (fun i _ => s.size - (intOf i).toNat)
    case atStart => exact ⟨0, Nat.zero_le _, rfl, by simpa [qbytesT] using h1, hb1⟩
    case round =>
      obtain ⟨k, hk, rfl, hT, hbr⟩ := hrel
      have hle : (qbytesT (s.data.toList.take k)).length ≤ 4 * k := by
        have := qbytesT_len (s.data.toList.take k)
        rw [List.length_take] at this
        omega
      by_cases hlt : k < s.size
      · have HT := Lib.hid (qbytesT_take s.data.toList k (by rw [HL.out]; exact hlt))
        go_wp2_with fail
        refine (qbyte_any tb false _ _ _ hT (by simp; omega)).mono ?_
        rintro e w2 ⟨rfl, h2, hb2⟩
        go_wp2
        go_roundw
        case rel => exact ⟨k + 1, by omega, by go_num, by rw [HT.out, ← List.append_assoc]; exact h2, hbr.trans hb2⟩
        case measure => simp [intOf]; omega
      · obtain rfl : k = s.size := by omega
        rw [List.take_of_length_le (by rw [HL.out]; omega)] at hT hle
        go_wp2_with fail
        refine (putByte tb false _ _ 34 rfl _ hT (by simp; omega)).mono ?_
        rintro e w2 ⟨rfl, h2, hb2⟩
        go_wp2
        go_end0
        refine ⟨rfl, ?_, hbr.trans hb2⟩
        rw [List.append_assoc, List.append_assoc] at h2
        exact h2
  · go_enter Tryz.func66, Tryz.ntmps66
    go_wp2_with fail
    refine (putText tb true _ _ s.data.toList rfl _ h (by rw [len_data]; omega)).mono ?_
    rintro e w2 ⟨rfl, h2, hb2⟩
    go_wp2
    refine bodyPost_ret (results_none rfl _ _ _) rfl ?_
    exact ⟨rfl, h2, hb2⟩

/-! ### texts of data -/
def tailJ (ts : List (List UInt8)) : List UInt8 := ts.flatMap fun u => 32 :: u
/-- Texts with a blank between each two. -/
def joinT : List (List UInt8) → List UInt8
  | [] => []
  | t :: ts => t ++ tailJ ts
theorem joinT_snoc (ts : List (List UInt8)) (u : List UInt8) (h : ts ≠ []) : joinT (ts ++ [u]) = joinT ts ++ 32 :: u := by
  match ts with
  | [] => exact absurd rfl h
  | t :: ts => simp [joinT, tailJ]
theorem joinT_take0 (ts : List (List UInt8)) (h : 0 < ts.length) : joinT (ts.take 1) = ts[0] := by
  match ts, h with
  | t :: ts, _ => simp [joinT, tailJ]
theorem joinT_take (ts : List (List UInt8)) (j : Nat) (hj : 0 < j) (h : j < ts.length) : joinT (ts.take (j + 1)) = joinT (ts.take j) ++ ([32] ++ ts[j]) := by
  rw [List.take_succ_eq_append_getElem h, joinT_snoc]
  · rfl
  · intro e
    have := congrArg List.length e
    simp only [List.length_take, List.length_nil] at this
    omega

/-- A datum's text, out of its items' texts. -/
def shapeT (bare : Bool) (k i : Int) (s : List UInt8) (ts : List (List UInt8)) : List UInt8 :=
  if k = 0 then (if i = 0 then [35, 102] else [35, 116])
  else if k = 1 then Lib.itoa i
  else if k = 2 then charS bare (UInt8.ofNat i.toNat)
  else if k = 3 then quoteS bare s
  else if k = 4 then s
  else if k = 5 then [40] ++ (joinT ts ++ [41])
  else if k = 6 then [40] ++ (joinT ts.dropLast ++ ([32, 46, 32] ++ (ts.getLast?.getD [] ++ [41])))
  else if k = 7 then [35] ++ ([40] ++ (joinT ts ++ [41]))
  else []

mutual
def textT (bare : Bool) : PT → List UInt8
  | .mk k i s l => shapeT bare k i s.data.toList (textsT bare l)
def textsT (bare : Bool) : List PT → List (List UInt8)
  | [] => []
  | t :: l => textT bare t :: textsT bare l
end

mutual
/-- A bound on a text's length. -/
def roomT : PT → Nat
  | .mk _ _ s l => 32 + 4 * s.size + roomsT l
def roomsT : List PT → Nat
  | [] => 0
  | t :: l => 1 + roomT t + roomsT l
end

mutual
/-- All the data's own fields may be. -/
def FormOk : PT → Prop
  | .mk k i s l => formB k i s.data.toList l = true ∧ FormsOk l
def FormsOk : List PT → Prop
  | [] => True
  | t :: l => FormOk t ∧ FormsOk l
end

theorem textsT_len (bare : Bool) : ∀ l : List PT, (textsT bare l).length = l.length
  | [] => rfl
  | t :: l => by rw [textsT, List.length_cons, textsT_len bare l, List.length_cons]
theorem textsT_get (bare : Bool) : ∀ (l : List PT) (j : Nat) (h : j < l.length), (textsT bare l)[j]'(by rw [textsT_len]; exact h) = textT bare l[j]
  | t :: l, 0, _ => by simp [textsT]
  | t :: l, j + 1, h => by
    simp only [textsT, List.getElem_cons_succ]
    exact textsT_get bare l j (by simpa using h)
theorem formsOk_get : ∀ {l : List PT}, FormsOk l → ∀ t ∈ l, FormOk t
  | [], _, t, h => by cases h
  | u :: l, hf, t, h => by
    rw [FormsOk] at hf
    rcases List.mem_cons.1 h with rfl | h
    · exact hf.1
    · exact formsOk_get hf.2 t h
theorem roomsT_get : ∀ (l : List PT) (j : Nat) (h : j < l.length), roomsT (l.take j) + 1 + roomT l[j] ≤ roomsT l
  | t :: l, 0, _ => by simp [roomsT]
  | t :: l, j + 1, h => by
    have := roomsT_get l j (by simpa using h)
    simp only [List.take_succ_cons, roomsT, List.getElem_cons_succ]
    omega

theorem decDigits_len (u : Nat) (m : Nat) (h : u < 10 ^ (m + 1)) : (Lib.decDigits u).length ≤ m + 1 := by
  induction m generalizing u with
  | zero =>
    rw [Lib.decDigits]
    rw [dif_pos (by omega)]
    simp
  | succ m ih =>
    rw [Lib.decDigits]
    split
    · simp
    · have := ih (u / 10) (by rw [Nat.div_lt_iff_lt_mul (by omega)]; rw [Nat.pow_succ] at h; omega)
      simp
      omega
theorem itoa_len (n : Int) (h : ok64 n) : (Lib.itoa n).length ≤ 21 := by
  unfold ok64 at h
  unfold Lib.itoa
  split
  · have := decDigits_len n.natAbs 19 (by omega)
    simp
    omega
  · have := decDigits_len n.toNat 19 (by omega)
    omega

theorem tailJ_len (ts : List (List UInt8)) (n : Nat) (h : (ts.map fun u => u.length + 1).sum ≤ n) : (tailJ ts).length ≤ n := by
  induction ts generalizing n with
  | nil => simp [tailJ]
  | cons u ts ih =>
    simp only [List.map_cons, List.sum_cons] at h
    have := ih ((ts.map fun u => u.length + 1).sum) (Nat.le_refl _)
    simp only [tailJ, List.flatMap_cons, List.length_append, List.length_cons] at this ⊢
    omega
theorem joinT_len (ts : List (List UInt8)) : (joinT ts).length ≤ (ts.map fun u => u.length + 1).sum := by
  match ts with
  | [] => simp [joinT]
  | t :: ts =>
    have := tailJ_len ts _ (Nat.le_refl _)
    simp only [joinT, List.length_append, List.map_cons, List.sum_cons]
    omega
theorem charS_len (bare : Bool) (c : UInt8) : (charS bare c).length ≤ 9 := by
  unfold charS charT spaceT newlineT
  cases bare
  · simp only [Bool.false_eq_true, if_false]
    split
    · simp
    split
    · simp
    split
    · simp
    · simp [hexT_len]
  · simp
theorem quoteS_len (bare : Bool) (s : List UInt8) : (quoteS bare s).length ≤ 4 * s.length + 2 := by
  have := qbytesT_len s
  unfold quoteS quoteT
  split
  · omega
  · simp; omega
theorem sum_dropLast (ts : List (List UInt8)) : (ts.dropLast.map fun u => u.length + 1).sum + (ts.getLast?.getD []).length ≤ (ts.map fun u => u.length + 1).sum := by
  rcases List.eq_nil_or_concat ts with rfl | ⟨l, u, rfl⟩
  · simp
  · simp

theorem shapeT_len (bare : Bool) (k i : Int) (s : List UInt8) (ts : List (List UInt8)) (hi : k = 1 → ok64 i) : (shapeT bare k i s ts).length ≤ 32 + 4 * s.length + (ts.map fun u => u.length + 1).sum := by
  have a := fun hk => itoa_len i (hi hk)
  have b := charS_len bare (UInt8.ofNat i.toNat)
  have c := quoteS_len bare s
  have d := joinT_len ts
  have e := joinT_len ts.dropLast
  have f := sum_dropLast ts
  clear hi
  generalize (ts.map fun u => u.length + 1).sum = n at *
  generalize (ts.dropLast.map fun u => u.length + 1).sum = m at *
  unfold shapeT
  split
  · clear a b c d e f; split <;> simp <;> omega
  split
  · have := a ‹_›; omega
  split
  · omega
  split
  · omega
  split
  · omega
  split
  · simp only [List.length_append, List.length_cons, List.length_nil]; omega
  split
  · simp only [List.length_append, List.length_cons, List.length_nil]; omega
  split
  · simp only [List.length_append, List.length_cons, List.length_nil]; omega
  · simp

theorem form_int {k i : Int} {s : List UInt8} {l : List PT} (h : formB k i s l = true) (hk : k = 1) : ok64 i := by
  subst hk
  unfold formB at h
  simp at h
  unfold ok64
  omega

mutual
theorem textT_len (bare : Bool) : ∀ t : PT, FormOk t → (textT bare t).length ≤ roomT t
  | .mk k i s l, h => by
    rw [FormOk] at h
    have h1 := textsT_sum bare l h.2
    have h2 := shapeT_len bare k i s.data.toList (textsT bare l) (form_int h.1)
    rw [len_data] at h2
    rw [textT, roomT]
    omega
theorem textsT_sum (bare : Bool) : ∀ l : List PT, FormsOk l → ((textsT bare l).map fun u => u.length + 1).sum ≤ roomsT l
  | [], _ => by simp [textsT]
  | t :: l, h => by
    rw [FormsOk] at h
    have h1 := textT_len bare t h.1
    have h2 := textsT_sum bare l h.2
    simp only [textsT, List.map_cons, List.sum_cons, roomsT]
    omega
end
theorem formsOk_take : ∀ (l : List PT) (j : Nat), FormsOk l → FormsOk (l.take j)
  | [], j, _ => by simp [FormsOk]
  | t :: l, 0, _ => by simp [FormsOk]
  | t :: l, j + 1, h => by
    rw [FormsOk] at h
    rw [List.take_succ_cons, FormsOk]
    exact ⟨h.1, formsOk_take l j h.2⟩
theorem textsT_take (bare : Bool) : ∀ (l : List PT) (j : Nat), (textsT bare l).take j = textsT bare (l.take j)
  | [], j => by simp [textsT]
  | t :: l, 0 => by simp [textsT]
  | t :: l, j + 1 => by simp [textsT, textsT_take bare l j]
theorem row_room (bare : Bool) (l : List PT) (j : Nat) (h : FormsOk l) : (joinT ((textsT bare l).take j)).length ≤ roomsT (l.take j) := by
  rw [textsT_take]
  exact Nat.le_trans (joinT_len _) (textsT_sum bare _ (formsOk_take l j h))
end Go.Proofs.YthfjlcflpneffaaGreatDoor.Dat

/-
What a teller of package data writes of rows, lists, dotted data, data. A text of at most 2^47 bytes.
-/
namespace Go.Proofs.YthfjlcflpneffaaGreatDoor.Dat
open Go.ChangeShapes Go.WideShapes Go.ChangeAt Go.RowKit
set_option maxRecDepth 100000

theorem tabOk_below {w w' : World} {C : Nat} (h : TabOk w) (hb : Below C w w') (hC : 2 ≤ C) : TabOk w' := by
  obtain ⟨T, fr, ht⟩ := h
  exact ⟨T, fr, (hb.block 0 (by omega)).trans ht⟩

/-- What is no row of bytes, and not the teller, is as it was. -/
def Others (tb : Nat) (w w' : World) : Prop := ∀ (q : Nat) (x : Array Value) (T : TypeId) (fr : Nat × Nat), T ≠ 5 → q ≠ tb → w.heap[q]? = some (.cells x T fr) → w'.heap[q]? = some (.cells x T fr)

theorem copyCheckK (tb : Nat) (bare : Bool) (l : List UInt8) (w : World) (h : IsTeller tb bare l w) :
    Calls Tryz.prog 43 #[.pointer (some ⟨tb, 0, none⟩)] w fun e w' => e = .returned (.tuple #[]) ∧ TellerAt tb bare (.pointer (some ⟨tb, 0, none⟩)) l w' ∧ Below tb w w' ∧ ∀ q, q ≠ tb → w'.heap[q]? = w.heap[q]? := by
  rcases h with h | h
  · obtain ⟨c0, _, f0, sh, _⟩ := h.cell
    refine (copyCheck_fresh tb w c0 sh f0).mono ?_
    rintro e w' ⟨rfl, rfl⟩
    exact ⟨rfl, h.used _, (Below.refl tb w).setCell (p := ⟨tb, 0, none⟩) (Nat.le_refl _) _, fun q hq => Below.heap_setCell _ _ _ _ hq⟩
  · refine (copyCheck_used tb w h.cell.1).mono ?_
    rintro e w' ⟨rfl, rfl⟩
    exact ⟨rfl, h, Below.refl tb _, fun _ _ => rfl⟩

set_option maxHeartbeats 1000000 in
set_option maxRecDepth 100000 in
theorem putByteK (tb : Nat) (bare : Bool) (l : List UInt8) (c : Int) (c8 : UInt8) (hc : c = (c8.toNat : Int)) (w : World) (h : IsTeller tb bare l w) (hlen : l.length + 1 ≤ 140737488355328) :
    Calls Tryz.prog 28 #[.pointer (some ⟨tb, 0, none⟩), .int .u8 c] w fun e w' => e = .returned .nilIface ∧ IsTeller tb bare (l ++ [c8]) w' ∧ Below tb w w' ∧ Others tb w w' := by
  obtain ⟨i0, hi, hz0, hz1, hz2⟩ := info_parts infoByte
  have htbw := h.cells.2
  have HC := Lib.hid hc
  clear hc
  go_enter Tryz.func28, Tryz.ntmps28
  go_wp2_with (go_at_call 43; refine (copyCheckK tb bare l _ h).mono ?_)
  rintro e w1 ⟨rfl, ⟨v, hbk, hown, hne⟩, hb1, hoth⟩
  have HO := Lib.hid hoth
  clear hoth
  have c0 : w1.cell? ⟨tb, 0, none⟩ = some (.pointer (some ⟨tb, 0, none⟩)) := by rw [Lib.cell_of_heap hbk]; rfl
  have c1 : w1.cell? ⟨tb, 1, none⟩ = some v := by rw [Lib.cell_of_heap hbk]; rfl
  have hlt : tb < w1.heap.size := lt_of_block hbk
  go_wp2_with (at_builtin; refine wpList_append_own _ rfl _ _ 39 rfl tb 5 i0 (.int .u8 0) 1 1 Tryz.underlying39 hi hz0 hz1 hz2 rfl (by decide) _ _ _ rfl (hown.alloc _) ⟨w1.heap.size, 0, none⟩ 1 1 [.int .u8 c] rfl rfl ?c1 ?c2 ?c3 ?c4 ?c5 ?_)
  case c1 =>
    intro j u hj
    match j, hj with
    | 0, hj => simp at hj; subst hj; simp [Addr.add]
  case c2 => intro u hu; simp at hu; subst hu; rfl
  case c3 => unfold maxLen; omega
  case c4 => omega
  case c5 => simp; omega
  intro v' w2 hown' hgrow _
  have hoth : Others tb w w2 := by
    intro q x T fr hT hq hx
    have hq1 : w1.heap[q]? = some (.cells x T fr) := (HO.out q hq).trans hx
    rw [hgrow.block q (by have := lt_of_block hq1; simp; omega) (fun e => Lib.ownBlock_ne hown hq1 hT e.symm), Lib.alloc_old w1 _ q (lt_of_block hq1)]
    exact hq1
  have HO2 := Lib.hid hoth
  clear hoth
  have hb2 : w2.heap[tb]? = some (.cells #[.pointer (some ⟨tb, 0, none⟩), v, .bool bare] 89 (0, 0)) := by
    rw [hgrow.block tb (by simp; omega) (fun e => hne e.symm), Lib.alloc_old w1 _ tb hlt]
    exact hbk
  have d0 : w2.cell? ⟨tb, 0, none⟩ = some (.pointer (some ⟨tb, 0, none⟩)) := by rw [Lib.cell_of_heap hb2]; rfl
  have d1 : w2.cell? ⟨tb, 1, none⟩ = some v := by rw [Lib.cell_of_heap hb2]; rfl
  have f1 : w2.frozen? ⟨tb, 1, none⟩ = false := Lib.frozen_of_heap hb2 1
  obtain ⟨g, cap, rfl⟩ : ∃ g cap, v' = .slice (some ⟨g, 0, none⟩) (l.length + 1) cap := by
    rcases hown'.2 with ⟨_, h0⟩ | ⟨g, cap, cur, hv, _⟩
    · omega
    · exact ⟨g, cap, hv⟩
  go_wp2
  go_ret
  rw [HC.out] at hown'
  refine ⟨rfl, .inr ?_, ?_, ?_⟩
  · exact teller_put hb2 (by simpa [Lib.byteCells_append, Lib.byteCells] using hown')
  · exact ((hb1.alloc (by omega) _).grown hgrow (by simp; omega) (fun k hk => (hown.lt k hk).1)).setCell (p := ⟨tb, 1, none⟩) (Nat.le_refl _) _
  · intro q x T fr hT hq hx
    exact (Below.heap_setCell _ _ _ _ hq).trans (HO2.out q x T fr hT hq hx)

def TellOk (bare : Bool) (t : PT) : Prop := ∀ (w : World) (B tb : Nat) (acc : List UInt8) (v : Value), RepV w B t v → B ≤ tb → 2 ≤ tb → TabOk w → IsTeller tb bare acc w → FormOk t → acc.length + roomT t ≤ 140737488355328 →
  Calls Tryz.prog 46 #[.pointer (some ⟨tb, 0, none⟩), t.val v] w (Wrote tb bare (acc ++ textT bare t) w)

theorem row_any (bare : Bool) (l : List PT) (ih : ∀ t ∈ l, TellOk bare t) (w : World) (B tb : Nat) (acc : List UInt8) (v : Value) (hv : RepS w B l v) (hB : B ≤ tb) (h2 : 2 ≤ tb) (htab : TabOk w) (hT : IsTeller tb bare acc w) (hf : FormsOk l) (hlen : acc.length + roomsT l ≤ 140737488355328) :
    Calls Tryz.prog 87 #[.pointer (some ⟨tb, 0, none⟩), v] w (Wrote tb bare (acc ++ joinT (textsT bare l)) w) := by
  obtain ⟨a, c, rfl, hl, hm, hna, hr⟩ := hv
  unfold maxLen at hm
  rcases hr with rfl | ⟨b, o, rfl, hb, hr⟩
  · go_enter Tryz.func87, Tryz.ntmps87
    go_wp2
    refine wp_loop_rounds 1 ?_
    rw [rounds_succ]
    go_wp2
    go_end0
    exact ⟨rfl, by simpa [textsT, joinT] using hT, Below.refl _ _⟩
  · have IH := Lib.hid ih
    have HR := Lib.hid hr
    have HF := Lib.hid hf
    have HTab := Lib.hid htab
    have hlt := hT.cells.2
    clear ih hr hf htab
    go_enter Tryz.func87, Tryz.ntmps87
    go_wp2
    go_loopw [8] (fun i wr => ∃ j : Nat, j ≤ l.length ∧ i = .int .i64 j ∧ IsTeller tb bare (acc ++ joinT ((textsT bare l).take j)) wr ∧ Below tb w wr) (fun i _ => l.length - (intOf i).toNat)
    case atStart => exact ⟨0, Nat.zero_le _, rfl, by simpa [joinT] using hT, Below.refl _ _⟩
    case round =>
      obtain ⟨j, hj, rfl, hTr, hbr⟩ := hrel
      by_cases hlt' : j < l.length
      · obtain ⟨k', i', s', m, v', hjl, ok1, ok2, hs', d0, d1, d2, d3, hv'⟩ := repAt_item (HR.out.below hbr hB hb) hlt'
        have hbs : b < wr.heap.size := World.block_lt_of_cell? _ _ d0
        have hroom := row_room bare l j HF.out
        have hget := roomsT_get l j hlt'
        have htx := textsT_get bare l j hlt'
        rw [hjl] at hget htx
        have hL : TellOk bare (.mk k' i' s' m) := by
          have := IH.out l[j] (List.getElem_mem _)
          rwa [hjl] at this
        have hF : FormOk (.mk k' i' s' m) := by
          have := formsOk_get HF.out l[j] (List.getElem_mem _)
          rwa [hjl] at this
        have HV := Lib.hid hv'
        have HFF := Lib.hid hF
        have HX := Lib.hid htx
        have HLL := Lib.hid hL
        obtain ⟨a', c', rfl, _⟩ := hv'
        clear hjl hF htx hL
        have hsz := hbr.size
        have hltr := hTr.cells.2
        have HTr := Lib.hid hTr
        clear hTr
        by_cases hj0 : j = 0
        · have hj0' : ¬ (0 : Int) < (j : Int) := by omega
          have HJ := Lib.hid hj0
          clear hj0
          go_wp2_with fail
          refine (HLL.out _ B tb _ _ ⟨ok1, ok2, hs', HV.out.below (((Below.refl tb wr)).alloc (by omega) _) hB⟩ hB h2 (tabOk_below HTab.out (hbr.alloc (by omega) _) h2) (HTr.out.moved ((Below.refl _ _).alloc (Nat.le_refl _) _)) HFF.out (by simp; omega)).mono ?_
          rintro e w2 ⟨rfl, hT2, hb2⟩
          go_wp2
          go_roundw
          case rel =>
            refine ⟨j + 1, by omega, by go_num, ?_, (hbr.alloc (by omega) _).trans hb2⟩
            have hj0 := HJ.out
            subst hj0
            rw [joinT_take0 _ (by rw [textsT_len]; omega), HX.out]
            simpa [joinT] using hT2
          case measure => simp [intOf]; omega
        · have hj0' : (0 : Int) < (j : Int) := by omega
          go_wp2_with fail
          refine (putByteK tb bare _ _ 32 rfl _ (HTr.out.moved ((Below.refl _ _).alloc (Nat.le_refl _) _)) (by simp; omega)).mono ?_
          rintro e w2 ⟨rfl, hT2, hb2, ho2⟩
          have hbox := ho2 wr.heap.size _ 34 (0, 0) (by decide) (by omega) (heap_alloc_new wr _)
          have g0 : w2.cell? ⟨wr.heap.size, 0, none⟩ = some (.int .i64 k') := by rw [Lib.cell_of_heap hbox]; rfl
          have g1 : w2.cell? ⟨wr.heap.size, 1, none⟩ = some (.int .i64 i') := by rw [Lib.cell_of_heap hbox]; rfl
          have g2 : w2.cell? ⟨wr.heap.size, 2, none⟩ = some (.string s') := by rw [Lib.cell_of_heap hbox]; rfl
          have g3 : w2.cell? ⟨wr.heap.size, 3, none⟩ = some (.slice a' m.length c') := by rw [Lib.cell_of_heap hbox]; rfl
          clear hbox ho2
          have hbr2 : Below tb w w2 := (hbr.alloc (by omega) _).trans hb2
          have hb22 : Below tb wr w2 := ((Below.refl tb wr).alloc (by omega) _).trans hb2
          clear hb2
          go_wp2_with fail
          refine (HLL.out _ B tb _ _ ⟨ok1, ok2, hs', HV.out.below hb22 hB⟩ hB h2 (tabOk_below HTab.out hbr2 h2) hT2 HFF.out (by simp; omega)).mono ?_
          rintro e w3 ⟨rfl, hT3, hb3⟩
          go_wp2
          go_roundw
          case rel =>
            refine ⟨j + 1, by omega, by go_num, ?_, hbr2.trans hb3⟩
            rw [joinT_take _ j (by omega) (by rw [textsT_len]; omega), HX.out]
            simpa using hT3
          case measure => simp [intOf]; omega
      · obtain rfl : j = l.length := by omega
        rw [List.take_of_length_le (by rw [textsT_len]; omega)] at hTr
        go_wp2
        go_end0
        exact ⟨rfl, hTr, hbr⟩
end Go.Proofs.YthfjlcflpneffaaGreatDoor.Dat

/-
What a teller of package data writes of lists, dotted data, data. A text of at most 2^47 bytes.
-/
namespace Go.Proofs.YthfjlcflpneffaaGreatDoor.Dat
open Go.ChangeShapes Go.WideShapes Go.ChangeAt Go.RowKit
set_option maxRecDepth 100000

theorem list_any (bare : Bool) (l : List PT) (ih : ∀ t ∈ l, TellOk bare t) (w : World) (B tb : Nat) (acc : List UInt8) (v : Value) (hv : RepS w B l v) (hB : B ≤ tb) (h2 : 2 ≤ tb) (htab : TabOk w) (hT : IsTeller tb bare acc w) (hf : FormsOk l) (hlen : acc.length + roomsT l + 2 ≤ 140737488355328) :
    Calls Tryz.prog 67 #[.pointer (some ⟨tb, 0, none⟩), v] w (Wrote tb bare (acc ++ ([40] ++ (joinT (textsT bare l) ++ [41]))) w) := by
  have hj : (joinT (textsT bare l)).length ≤ roomsT l := by
    have := row_room bare l l.length hf
    rwa [List.take_of_length_le (by rw [textsT_len]; omega), List.take_length] at this
  have HV := Lib.hid hv
  obtain ⟨a, c, rfl, _⟩ := hv
  have IH := Lib.hid ih
  have HF := Lib.hid hf
  have HTab := Lib.hid htab
  clear ih hf htab
  go_enter Tryz.func67, Tryz.ntmps67
  go_wp2_with fail
  refine (putByte tb bare _ _ 40 rfl _ hT (by omega)).mono ?_
  rintro e w1 ⟨rfl, h1, hb1⟩
  go_wp2_with fail
  refine (row_any bare l IH.out _ B tb _ _ (HV.out.below hb1 hB) hB h2 (tabOk_below HTab.out hb1 h2) h1 HF.out (by simp; omega)).mono ?_
  rintro e w2 ⟨rfl, hT2, hb2⟩
  go_wp2_with fail
  refine (putByte tb bare _ _ 41 rfl _ hT2 (by simp; omega)).mono ?_
  rintro e w3 ⟨rfl, h3, hb3⟩
  go_wp2
  go_end0
  refine ⟨rfl, ?_, (hb1.trans hb2).trans hb3⟩
  rw [List.append_assoc, List.append_assoc] at h3
  exact h3

theorem dotted_any (bare : Bool) (l : List PT) (ih : ∀ t ∈ l, TellOk bare t) (w : World) (B tb b o c : Nat) (acc : List UInt8) (hl : l.length ≤ c) (hm : c ≤ maxLen) (hb : b < B) (hr : RepAt w B l b o) (hn : 2 ≤ l.length) (hB : B ≤ tb) (h2 : 2 ≤ tb) (htab : TabOk w) (hT : IsTeller tb bare acc w) (hf : FormsOk l)
    (hlen : acc.length + roomsT l + 8 ≤ 140737488355328) :
    Calls Tryz.prog 68 #[.pointer (some ⟨tb, 0, none⟩), .slice (some ⟨b, o, none⟩) l.length c] w (Wrote tb bare (acc ++ ([40] ++ (joinT (textsT bare l).dropLast ++ ([32, 46, 32] ++ ((textsT bare l).getLast?.getD [] ++ [41]))))) w) := by
  have hgl : roomsT (l.take (l.length - 1)) + 1 + roomT (l[l.length - 1]'(by omega)) ≤ roomsT l := roomsT_get l (l.length - 1) (by omega)
  have hdl : (textsT bare l).dropLast = textsT bare (l.take (l.length - 1)) := by
    rw [List.dropLast_eq_take, textsT_len, textsT_take]
  have hla : (textsT bare l).getLast?.getD [] = textT bare (l[l.length - 1]'(by omega)) := by
    rw [List.getLast?_eq_getElem?, textsT_len, List.getElem?_eq_getElem (by rw [textsT_len]; omega), Option.getD_some, textsT_get]
  rw [hdl, hla]
  have hj : (joinT (textsT bare (l.take (l.length - 1)))).length ≤ roomsT (l.take (l.length - 1)) := by
    have := row_room bare l (l.length - 1) hf
    rwa [textsT_take] at this
  clear hdl hla
  have hv : RepS w B (l.take (l.length - 1)) (.slice (some ⟨b, o, none⟩) (l.length - 1) c) :=
    ⟨_, c, by rw [List.length_take, Nat.min_eq_left (by omega)], by rw [List.length_take]; omega, hm, (fun h => by cases h), .inr ⟨b, o, rfl, hb, repAt_take _ hr⟩⟩
  have hlastm : l[l.length - 1]'(by omega) ∈ l := List.getElem_mem _
  have hF : FormOk (l[l.length - 1]'(by omega)) := formsOk_get hf _ hlastm
  have hL : TellOk bare (l[l.length - 1]'(by omega)) := ih _ hlastm
  have hih : ∀ t ∈ l.take (l.length - 1), TellOk bare t := fun t ht => ih t (List.mem_of_mem_take ht)
  have hff := formsOk_take l (l.length - 1) hf
  have HV := Lib.hid hv
  have IH := Lib.hid hih
  have HF := Lib.hid hff
  have HFL := Lib.hid hF
  have HL := Lib.hid hL
  have HTab := Lib.hid htab
  have HR := Lib.hid hr
  have hlt := hT.cells.2
  unfold maxLen at hm
  clear ih hf htab hv hff hih hr hF hL
  go_enter Tryz.func68, Tryz.ntmps68
  go_wp2_with fail
  refine (putByte tb bare _ _ 40 rfl _ hT (by omega)).mono ?_
  rintro e w1 ⟨rfl, h1, hb1⟩
  go_wp2_with fail
  refine (row_any bare (l.take (l.length - 1)) IH.out _ B tb _ _ (HV.out.below hb1 hB) hB h2 (tabOk_below HTab.out hb1 h2) h1 HF.out (by simp; omega)).mono ?_
  rintro e w2 ⟨rfl, hT2, hb2⟩
  go_wp2_with fail
  refine (putText tb bare _ _ [32, 46, 32] rfl _ hT2 (by simp; omega)).mono ?_
  rintro e w3 ⟨rfl, h3, hb3⟩
  have hbr : Below tb w w3 := (hb1.trans hb2).trans hb3
  clear hb1 hb2 hb3 h1 hT2
  obtain ⟨k', i', s', m, v', hjl, ok1, ok2, hs', d0, d1, d2, d3, hv'⟩ := repAt_item (HR.out.below hbr hB hb) (j := l.length - 1) (by omega)
  rw [hjl] at HFL HL hgl
  have HJL := Lib.hid hjl
  have HV' := Lib.hid hv'
  obtain ⟨a', c', rfl, _⟩ := hv'
  have hbs : b < w3.heap.size := World.block_lt_of_cell? _ _ d0
  clear hjl
  go_wp2_with fail
  refine (HL.out _ B tb _ _ ⟨ok1, ok2, hs', HV'.out⟩ hB h2 (tabOk_below HTab.out hbr h2) h3 HFL.out (by simp; omega)).mono ?_
  rintro e w4 ⟨rfl, h4, hb4⟩
  have hlen4 := textT_len bare _ HFL.out
  go_wp2_with fail
  refine (putByte tb bare _ _ 41 rfl _ h4 (by simp; omega)).mono ?_
  rintro e w5 ⟨rfl, h5, hb5⟩
  go_wp2
  go_end0
  refine ⟨rfl, ?_, (hbr.trans hb4).trans hb5⟩
  rw [HJL.out]
  simp only [List.append_assoc] at h5 ⊢
  exact h5

/-- The kinds whose text needs no items. -/
theorem datum_plain (bare : Bool) (k i : Int) (s : ByteArray) (a : Option Addr) (n c : Nat) (tx : List UInt8) (hk : k = 0 ∧ tx = (if i = 0 then [35, 102] else [35, 116]) ∨ k = 3 ∧ tx = quoteS bare s.data.toList) (w : World) (tb : Nat) (acc : List UInt8) (hs : s.size ≤ maxLen) (hT : IsTeller tb bare acc w) (hlen : acc.length + 32 + 4 * s.size ≤ 140737488355328) :
    Calls Tryz.prog 46 #[.pointer (some ⟨tb, 0, none⟩), .agg #[.int .i64 k, .int .i64 i, .string s, .slice a n c]] w (Wrote tb bare (acc ++ tx) w) := by
  have hlt := hT.cells.2
  have HT := Lib.hid (hT.moved ((Below.refl w.heap.size w).alloc (Nat.le_refl _) (.cells #[.int .i64 k, .int .i64 i, .string s, .slice a n c] 34)))
  rcases hk with ⟨rfl, htx⟩ | ⟨rfl, htx⟩
  · have HX := Lib.hid htx
    clear htx hT
    go_enter Tryz.func46, Tryz.ntmps46
    go_wp2_with fail
    refine (truth_any tb bare acc i _ HT.out (by omega)).mono ?_
    rintro e w1 ⟨rfl, h1, hb1⟩
    go_wp2
    go_end0
    refine ⟨rfl, ?_, ((Below.refl tb w).alloc (by omega) _).trans hb1⟩
    rw [HX.out]; exact h1
  · have HX := Lib.hid htx
    clear htx hT
    go_enter Tryz.func46, Tryz.ntmps46
    go_wp2_with fail
    refine (quoted_any tb bare acc s _ HT.out hs (by omega)).mono ?_
    rintro e w1 ⟨rfl, h1, hb1⟩
    go_wp2
    go_end0
    refine ⟨rfl, ?_, ((Below.refl tb w).alloc (by omega) _).trans hb1⟩
    rw [HX.out]; exact h1

theorem datum_char (bare : Bool) (ch : UInt8) (s : ByteArray) (a : Option Addr) (n c : Nat) (w : World) (tb : Nat) (acc : List UInt8) (hT : IsTeller tb bare acc w) (hlen : acc.length + 32 ≤ 140737488355328) :
    Calls Tryz.prog 46 #[.pointer (some ⟨tb, 0, none⟩), .agg #[.int .i64 2, .int .i64 (ch.toNat : Int), .string s, .slice a n c]] w (Wrote tb bare (acc ++ charS bare ch) w) := by
  have hlt := hT.cells.2
  have HT := Lib.hid (hT.moved ((Below.refl w.heap.size w).alloc (Nat.le_refl _) (.cells #[.int .i64 2, .int .i64 (ch.toNat : Int), .string s, .slice a n c] 34)))
  have hch := ch.toNat_lt
  have hch0 : (0 : Int) ≤ ch.toNat := by omega
  have hch1 : (ch.toNat : Int) ≤ 255 := by omega
  clear hT
  go_enter Tryz.func46, Tryz.ntmps46
  go_wp2_with fail
  refine (char_any tb bare acc ch _ HT.out (by omega)).mono ?_
  rintro e w1 ⟨rfl, h1, hb1⟩
  go_wp2
  go_end0
  exact ⟨rfl, h1, ((Below.refl tb w).alloc (by omega) _).trans hb1⟩

/-- A cell of the newest block. -/
theorem new_cell (w : World) (cs : Array Value) (T : TypeId) (j : Nat) (v : Value) (hv : cs[j]? = some v) : (w.alloc (.cells cs T)).cell? ⟨w.heap.size, j, none⟩ = some v := by
  rw [Lib.cell_of_heap (heap_alloc_new w _)]; exact hv

theorem datum_symbol (bare : Bool) (i : Int) (s : ByteArray) (a : Option Addr) (n c : Nat) (w : World) (tb : Nat) (acc : List UInt8) (hT : IsTeller tb bare acc w) (hlen : acc.length + s.size ≤ 140737488355328) :
    Calls Tryz.prog 46 #[.pointer (some ⟨tb, 0, none⟩), .agg #[.int .i64 4, .int .i64 i, .string s, .slice a n c]] w (Wrote tb bare (acc ++ s.data.toList) w) := by
  have hlt := hT.cells.2
  have hM := hT.moved ((Below.refl w.heap.size w).alloc (Nat.le_refl _) (.cells #[.int .i64 4, .int .i64 i, .string s, .slice a n c] 34))
  have hB := (Below.refl tb w).alloc (by omega) (.cells #[.int .i64 4, .int .i64 i, .string s, .slice a n c] 34)
  have hcl := new_cell w #[.int .i64 4, .int .i64 i, .string s, .slice a n c] 34 2 _ rfl
  have HT := Lib.hid hM.drew
  have HB := Lib.hid hB.drew
  have HL := Lib.hid (len_data s)
  clear hT hM hB
  go_enter Tryz.func46, Tryz.ntmps46
  go_wp2
  generalize w.alloc (.cells #[.int .i64 4, .int .i64 i, .string s, .slice a n c] 34) = w1 at hcl HT HB ⊢
  go_still_tail 5, (by kernel_rfl)
  change wpList _ _ _ _ _ w1.drew
  clear hcl
  generalize w1.drew = w2 at HT HB ⊢
  go_wp2_with fail
  refine (putText tb bare acc _ s.data.toList rfl _ HT.out (by rw [HL.out]; omega)).mono ?_
  rintro e w3 ⟨rfl, h3, hb3⟩
  go_wp2
  go_end0
  exact ⟨rfl, h3, HB.out.trans hb3⟩

theorem datum_int (bare : Bool) (i : Int) (hi : ok64 i) (s : ByteArray) (a : Option Addr) (n c : Nat) (w : World) (tb : Nat) (acc : List UInt8) (h2 : 2 ≤ tb) (htab : TabOk w) (hT : IsTeller tb bare acc w) (hlen : acc.length + 32 ≤ 140737488355328) :
    Calls Tryz.prog 46 #[.pointer (some ⟨tb, 0, none⟩), .agg #[.int .i64 1, .int .i64 i, .string s, .slice a n c]] w (Wrote tb bare (acc ++ Lib.itoa i) w) := by
  have hlt := hT.cells.2
  have hM := hT.moved ((Below.refl w.heap.size w).alloc (Nat.le_refl _) (.cells #[.int .i64 1, .int .i64 i, .string s, .slice a n c] 34))
  have hB := (Below.refl tb w).alloc (by omega) (.cells #[.int .i64 1, .int .i64 i, .string s, .slice a n c] 34)
  have hcl := new_cell w #[.int .i64 1, .int .i64 i, .string s, .slice a n c] 34 1 _ rfl
  have hlen2 := itoa_len i hi
  have htab' := tabOk_below htab hB h2
  have hsz : tb < (w.alloc (.cells #[.int .i64 1, .int .i64 i, .string s, .slice a n c] 34)).heap.size := by simp; omega
  have HT := Lib.hid hM
  have HB := Lib.hid hB
  have HTab := Lib.hid htab'
  obtain ⟨i0, i1⟩ := hi
  clear hT hM hB htab htab'
  go_enter Tryz.func46, Tryz.ntmps46
  go_wp2
  generalize w.alloc (.cells #[.int .i64 1, .int .i64 i, .string s, .slice a n c] 34) = w1 at hcl HT HB HTab hsz ⊢
  have C : ∀ nq, Calls Tryz.prog 64 #[.int .i64 i] (w1.drewN nq) fun e w' => e = .returned (.string ⟨(Lib.itoa i).toArray⟩) ∧ Below w1.heap.size w1 w' := fun nq =>
    (Tryz.strconv_Itoa i i0 i1 (w1.drewN nq) (tabOk_below HTab.out (below_drewN (Below.refl tb w1) nq) h2)).mono fun _ _ ⟨he, hb⟩ => ⟨he, (below_drewN (Below.refl w1.heap.size w1) nq).trans (hb.mono (Nat.le_refl _))⟩
  have HC := Lib.hid C
  clear C
  go_region_with (first | (go_at_call 64; refine (HC.out 1).mono ?_; rintro e w2 ⟨rfl, hb2⟩) | (go_at_call 27; refine (putText tb bare acc _ (Lib.itoa i) rfl _ (HT.out.moved (by assumption)) (by omega)).mono ?_; rintro e w3 ⟨rfl, h3, hb3⟩))
  go_end0
  exact ⟨rfl, by assumption, (HB.out.trans ((by assumption : Below w1.heap.size w1 _).mono (by omega))).trans (by assumption)⟩
end Go.Proofs.YthfjlcflpneffaaGreatDoor.Dat

/-
What package data's Text and Show answer, for every datum that may be: the text; for every other one Check's error and no text. Where the table of tens is as the program lays it.
-/
namespace Go.Proofs.YthfjlcflpneffaaGreatDoor.Dat
open Go.ChangeShapes Go.WideShapes Go.ChangeAt Go.RowKit
set_option maxRecDepth 100000

theorem datum_items (bare : Bool) (k i : Int) (s : ByteArray) (l : List PT) (ih : ∀ t ∈ l, TellOk bare t) (hk : k = 5 ∨ k = 7) (w : World) (B tb : Nat) (acc : List UInt8) (v : Value) (hv : RepS w B l v) (hB : B ≤ tb) (h2 : 2 ≤ tb) (htab : TabOk w) (hT : IsTeller tb bare acc w) (hf : FormsOk l) (hlen : acc.length + roomsT l + 3 ≤ 140737488355328)
    (tx : List UInt8) (htx : tx = (if k = 5 then [] else [35]) ++ ([40] ++ (joinT (textsT bare l) ++ [41]))) :
    Calls Tryz.prog 46 #[.pointer (some ⟨tb, 0, none⟩), .agg #[.int .i64 k, .int .i64 i, .string s, v]] w (Wrote tb bare (acc ++ tx) w) := by
  have hlt := hT.cells.2
  have HV := Lib.hid hv
  obtain ⟨a, c, rfl, _⟩ := hv
  have hM := hT.moved ((Below.refl w.heap.size w).alloc (Nat.le_refl _) (.cells #[.int .i64 k, .int .i64 i, .string s, .slice a l.length c] 34))
  have hB0 := (Below.refl tb w).alloc (by omega) (.cells #[.int .i64 k, .int .i64 i, .string s, .slice a l.length c] 34)
  have HT := Lib.hid hM
  have HB := Lib.hid hB0
  have HTab := Lib.hid htab
  have IH := Lib.hid ih
  have HF := Lib.hid hf
  have HX := Lib.hid htx
  clear hT hM hB0 htab ih hf htx
  rcases hk with rfl | rfl
  · go_enter Tryz.func46, Tryz.ntmps46
    go_wp2_with fail
    refine (list_any bare l IH.out _ B tb _ _ (HV.out.below HB.out hB) hB h2 (tabOk_below HTab.out HB.out h2) HT.out HF.out (by omega)).mono ?_
    rintro e w1 ⟨rfl, h1, hb1⟩
    go_wp2
    go_end0
    refine ⟨rfl, ?_, HB.out.trans hb1⟩
    rw [HX.out]; exact h1
  · go_enter Tryz.func46, Tryz.ntmps46
    go_wp2_with fail
    refine (putByteK tb bare _ _ 35 rfl _ HT.out (by omega)).mono ?_
    rintro e w2 ⟨rfl, hT2, hb2, ho2⟩
    have hbox := ho2 w.heap.size _ 34 (0, 0) (by decide) (by omega) (heap_alloc_new w _)
    have g3 : w2.cell? ⟨w.heap.size, 3, none⟩ = some (.slice a l.length c) := by rw [Lib.cell_of_heap hbox]; rfl
    clear hbox ho2
    have hbr2 : Below tb w w2 := HB.out.trans hb2
    clear hb2
    go_wp2_with fail
    refine (list_any bare l IH.out _ B tb _ _ (HV.out.below hbr2 hB) hB h2 (tabOk_below HTab.out hbr2 h2) hT2 HF.out (by simp; omega)).mono ?_
    rintro e w1 ⟨rfl, h1, hb1⟩
    go_wp2
    go_end0
    refine ⟨rfl, ?_, hbr2.trans hb1⟩
    rw [HX.out]
    rw [List.append_assoc] at h1
    exact h1

theorem datum_dotted (bare : Bool) (i : Int) (s : ByteArray) (l : List PT) (ih : ∀ t ∈ l, TellOk bare t) (w : World) (B tb : Nat) (acc : List UInt8) (v : Value) (hv : RepS w B l v) (hn : 2 ≤ l.length) (hB : B ≤ tb) (h2 : 2 ≤ tb) (htab : TabOk w) (hT : IsTeller tb bare acc w) (hf : FormsOk l) (hlen : acc.length + roomsT l + 8 ≤ 140737488355328) :
    Calls Tryz.prog 46 #[.pointer (some ⟨tb, 0, none⟩), .agg #[.int .i64 6, .int .i64 i, .string s, v]] w (Wrote tb bare (acc ++ ([40] ++ (joinT (textsT bare l).dropLast ++ ([32, 46, 32] ++ ((textsT bare l).getLast?.getD [] ++ [41]))))) w) := by
  have hlt := hT.cells.2
  obtain ⟨a, c, rfl, hl, hm, hna, hr⟩ := hv
  rcases hr with rfl | ⟨b, o, rfl, hb, hr⟩
  · simp at hn
  have hM := hT.moved ((Below.refl w.heap.size w).alloc (Nat.le_refl _) (.cells #[.int .i64 6, .int .i64 i, .string s, .slice (some ⟨b, o, none⟩) l.length c] 34))
  have hB0 := (Below.refl tb w).alloc (by omega) (.cells #[.int .i64 6, .int .i64 i, .string s, .slice (some ⟨b, o, none⟩) l.length c] 34)
  have HT := Lib.hid hM
  have HB := Lib.hid hB0
  have HTab := Lib.hid htab
  have IH := Lib.hid ih
  have HF := Lib.hid hf
  have HR := Lib.hid hr
  clear hT hM hB0 htab ih hf hr
  go_enter Tryz.func46, Tryz.ntmps46
  go_wp2_with fail
  refine (dotted_any bare l IH.out _ B tb b o c acc hl hm hb (HR.out.below HB.out hB hb) hn hB h2 (tabOk_below HTab.out HB.out h2) HT.out HF.out (by omega)).mono ?_
  rintro e w1 ⟨rfl, h1, hb1⟩
  go_wp2
  go_end0
  exact ⟨rfl, h1, HB.out.trans hb1⟩

theorem tell_step (bare : Bool) (k i : Int) (s : ByteArray) (l : List PT) (ih : ∀ t ∈ l, TellOk bare t) : TellOk bare (.mk k i s l) := by
  intro w B tb acc v hv hB h2 htab hT hf hlen
  obtain ⟨ok1, ok2, hs, hv⟩ := hv
  rw [FormOk] at hf
  rw [roomT] at hlen
  rw [textT]
  obtain ⟨hf1, hf2⟩ := hf
  show Calls Tryz.prog 46 #[.pointer (some ⟨tb, 0, none⟩), .agg #[.int .i64 k, .int .i64 i, .string s, v]] w _
  rcases kind_ways k with (rfl | rfl | rfl) | rfl | rfl | hk | rfl | hk
  · obtain ⟨a, c, rfl, _⟩ := hv
    exact datum_plain bare 0 i s a l.length c _ (.inl ⟨rfl, rfl⟩) w tb acc hs hT (by omega)
  · obtain ⟨a, c, rfl, _⟩ := hv
    exact datum_int bare i ok2 s a l.length c w tb acc h2 htab hT (by omega)
  · obtain ⟨a, c, rfl, _⟩ := hv
    have hb : 0 ≤ i ∧ i ≤ 255 := by
      unfold formB at hf1
      simp at hf1
      omega
    have e : ((UInt8.ofNat i.toNat).toNat : Int) = i := by simp; omega
    have := datum_char bare (UInt8.ofNat i.toNat) s a l.length c w tb acc hT (by omega)
    rw [e] at this
    exact this
  · obtain ⟨a, c, rfl, _⟩ := hv
    exact datum_plain bare 3 i s a l.length c _ (.inr ⟨rfl, rfl⟩) w tb acc hs hT (by omega)
  · obtain ⟨a, c, rfl, _⟩ := hv
    exact datum_symbol bare i s a l.length c w tb acc hT (by omega)
  · rcases hk with rfl | rfl
    · exact datum_items bare 5 i s l ih (.inl rfl) w B tb acc v hv hB h2 htab hT hf2 (by omega) _ rfl
    · exact datum_items bare 7 i s l ih (.inr rfl) w B tb acc v hv hB h2 htab hT hf2 (by omega) _ rfl
  · have hn : 2 ≤ l.length := by
      unfold formB at hf1
      simp at hf1
      omega
    exact datum_dotted bare i s l ih w B tb acc v hv hn hB h2 htab hT hf2 (by omega)
  · exfalso
    have : formB k i s.data.toList l = false := by
      unfold formB
      repeat (rw [if_neg (by omega)])
    rw [this] at hf1
    cases hf1

mutual
theorem tell_any (bare : Bool) : ∀ t : PT, TellOk bare t
  | .mk k i s l => tell_step bare k i s l (tell_all bare l)
theorem tell_all (bare : Bool) : ∀ l : List PT, ∀ t ∈ l, TellOk bare t
  | [], t, h => by cases h
  | u :: l, t, h => (List.mem_cons.1 h).elim (fun e => e ▸ tell_any bare u) (fun h => tell_all bare l t h)
end

/-! ### what Check finds nothing wrong in -/
theorem form_size {k i : Int} {s : ByteArray} {l : List PT} (h : formB k i s.data.toList l = true) : s.size ≤ 4096 := by
  have hl := len_data s
  have hn : nameB s.data.toList = true → s.data.toList.length ≤ 64 := by
    intro hh
    unfold nameB at hh
    simp only [Bool.and_eq_true, decide_eq_true_eq] at hh
    exact hh.1.1.1.2
  have he : s.data.toList.isEmpty = true → s.data.toList.length = 0 := by
    intro hh
    rw [List.isEmpty_iff] at hh
    rw [hh]; rfl
  rw [← hl]
  generalize s.data.toList = x at *
  clear hl
  unfold formB at h
  repeat' split at h
  all_goals (first | (exfalso; cases h; done) | simp only [Bool.and_eq_true, decide_eq_true_eq] at h)
  · have := he h.1.2; omega
  · have := he h.1.2; omega
  · have := he h.1.2; omega
  · omega
  · have := hn h.1.2; omega
  · have := he h.2; omega
  · have := he h.1.1.2; omega

mutual
theorem chk_ok (deep n : Nat) : ∀ t : PT, (chk deep n t).2 = 0 → FormOk t ∧ roomT t + 1 + n * 16417 ≤ (chk deep n t).1 * 16417
  | .mk k i s l, h => by
    rw [chk] at h ⊢
    split at h
    · cases h
    split at h
    · cases h
    split at h
    · rename_i h1 h2 h3
      rw [if_neg h1, if_neg h2, if_pos h3]
      have := chkL_ok (deep + 1) (n + 1) l h
      have hs := form_size h3
      rw [FormOk, roomT]
      exact ⟨⟨h3, this.1⟩, by omega⟩
    · cases h
theorem chkL_ok (deep n : Nat) : ∀ l : List PT, (chkL deep n l).2 = 0 → FormsOk l ∧ roomsT l + n * 16417 ≤ (chkL deep n l).1 * 16417
  | [], _ => by simp [FormsOk, roomsT, chkL]
  | t :: l, h => by
    rw [chkL] at h ⊢
    split at h
    · rename_i h0
      rw [if_pos h0]
      have h1 := chk_ok deep n t h0
      have h2 := chkL_ok deep _ l h
      rw [FormsOk, roomsT]
      exact ⟨⟨h1.1, h2.1⟩, by omega⟩
    · rename_i h0
      exact absurd h h0
end
theorem check_ok (t : PT) (h : checkB t = 0) : FormOk t ∧ roomT t ≤ 67244032 := by
  have h1 := chk_ok 0 0 t h
  have h2 := chk_le 0 0 (by omega) t
  exact ⟨h1.1, by omega⟩

/-! ### the string that has been written -/
theorem unsafeString_none (W : World) (q : Option Addr) : (Builtin.unsafeString_ #[85, 3] 9 #[.pointer q, .int .i64 0]).run Tryz.prog W = .ok (.string .empty) W :=
  Lib.run_unsafeString_none W _ _ _ q

set_option maxHeartbeats 1000000 in
set_option maxRecDepth 100000 in
theorem string_nil (tb : Nat) (bare : Bool) (p : Value) (w : World) (hbk : w.heap[tb]? = some (.cells #[p, .slice none 0 0, .bool bare] 89 (0, 0))) :
    Calls Tryz.prog 29 #[.pointer (some ⟨tb, 0, none⟩)] w fun e w' => e = .returned (.string ⟨#[]⟩) ∧ Below tb w w' := by
  have hUS := unsafeString_none
  have c1 : w.drew.cell? ⟨tb, 1, none⟩ = some (.slice none 0 0) := by
    have : w.drew.heap[tb]? = some (.cells #[p, .slice none 0 0, .bool bare] 89 (0, 0)) := hbk
    rw [Lib.cell_of_heap this]; rfl
  have hSD : (Builtin.unsafeSliceData_ #[39] 85 #[.slice none 0 0]).run Tryz.prog w.drew = .ok (.pointer none) w.drew := rfl
  go_enter Tryz.func29, Tryz.ntmps29
  go_wp2
  go_region
  all_goals (go_wp2; go_ret; exact ⟨rfl, Below.drew (Below.refl tb w)⟩)

set_option maxHeartbeats 1000000 in
set_option maxRecDepth 100000 in
theorem string_noroom (tb g : Nat) (bare : Bool) (p : Value) (cur : Array Value) (w : World) (hbk : w.heap[tb]? = some (.cells #[p, .slice (some ⟨g, 0, none⟩) 0 0, .bool bare] 89 (0, 0))) (hg : w.heap[g]? = some (.cells cur 5 (0, 0))) :
    Calls Tryz.prog 29 #[.pointer (some ⟨tb, 0, none⟩)] w fun e w' => e = .returned (.string ⟨#[]⟩) ∧ Below tb w w' := by
  have hUS := unsafeString_none
  have hlt := lt_of_block hbk
  have c1 : w.drew.cell? ⟨tb, 1, none⟩ = some (.slice (some ⟨g, 0, none⟩) 0 0) := by
    have : w.drew.heap[tb]? = some (.cells #[p, .slice (some ⟨g, 0, none⟩) 0 0, .bool bare] 89 (0, 0)) := hbk
    rw [Lib.cell_of_heap this]; rfl
  have hSD : (Builtin.unsafeSliceData_ #[39] 85 #[.slice (some ⟨g, 0, none⟩) 0 0]).run Tryz.prog w.drew = .ok (.pointer (some ⟨w.drew.heap.size, 0, none⟩)) (w.drew.alloc (.view ⟨g, 0, none⟩ 5)) :=
    Lib.run_unsafeSliceData_zero w.drew _ _ 5 Tryz.underlying85 ⟨g, 0, none⟩ 0 (5, cur.size) (by have hg' : w.drew.heap[g]? = some (.cells cur 5 (0, 0)) := hg; simp [World.shape?, hg'])
  have c2 : (w.drew.alloc (.view ⟨g, 0, none⟩ 5)).cell? ⟨tb, 1, none⟩ = some (.slice (some ⟨g, 0, none⟩) 0 0) := by
    have : (w.drew.alloc (.view ⟨g, 0, none⟩ 5)).heap[tb]? = _ := (Lib.alloc_old w.drew _ tb hlt).trans hbk
    rw [Lib.cell_of_heap this]; rfl
  have c3 : (w.alloc (.view ⟨g, 0, none⟩ 5)).drew.cell? ⟨tb, 1, none⟩ = some (.slice (some ⟨g, 0, none⟩) 0 0) := c2
  have c0 : w.cell? ⟨tb, 1, none⟩ = some (.slice (some ⟨g, 0, none⟩) 0 0) := c1
  go_enter Tryz.func29, Tryz.ntmps29
  go_wp2
  go_region
  all_goals (go_wp2; go_ret; exact ⟨rfl, (Below.drew (Below.refl tb w)).alloc (by show tb ≤ w.heap.size; omega) _⟩)

set_option maxHeartbeats 1000000 in
set_option maxRecDepth 100000 in
theorem string_room (tb g cap : Nat) (bare : Bool) (p : Value) (w : World) (hc0 : cap ≠ 0) (hbk : w.heap[tb]? = some (.cells #[p, .slice (some ⟨g, 0, none⟩) 0 cap, .bool bare] 89 (0, 0))) :
    Calls Tryz.prog 29 #[.pointer (some ⟨tb, 0, none⟩)] w fun e w' => e = .returned (.string ⟨#[]⟩) ∧ Below tb w w' := by
  have hUS := unsafeString_none
  have c1 : w.drew.cell? ⟨tb, 1, none⟩ = some (.slice (some ⟨g, 0, none⟩) 0 cap) := by
    have : w.drew.heap[tb]? = some (.cells #[p, .slice (some ⟨g, 0, none⟩) 0 cap, .bool bare] 89 (0, 0)) := hbk
    rw [Lib.cell_of_heap this]; rfl
  have hSD : (Builtin.unsafeSliceData_ #[39] 85 #[.slice (some ⟨g, 0, none⟩) 0 cap]).run Tryz.prog w.drew = .ok (.pointer (some ⟨g, 0, none⟩)) w.drew :=
    Lib.run_unsafeSliceData_row _ _ _ _ _ _ hc0
  clear hc0
  go_enter Tryz.func29, Tryz.ntmps29
  go_wp2
  go_region
  all_goals (go_wp2; go_ret; exact ⟨rfl, Below.drew (Below.refl tb w)⟩)

theorem string_any (tb : Nat) (bare : Bool) (l : List UInt8) (w : World) (h : IsTeller tb bare l w) :
    Calls Tryz.prog 29 #[.pointer (some ⟨tb, 0, none⟩)] w fun e w' => e = .returned (.string ⟨l.toArray⟩) ∧ Below tb w w' := by
  by_cases h0 : l = []
  · subst h0
    obtain ⟨p, v, hbk, hown, hne⟩ := h.has
    rcases hown.2 with ⟨rfl, _⟩ | ⟨g, cap, cur, rfl, hbg, hg, _⟩
    · exact string_nil tb bare p w hbk
    · by_cases hc : cap = 0
      · subst hc
        exact string_noroom tb g bare p cur w hbk hg
      · exact string_room tb g cap bare p w hc hbk
  · exact string_some tb bare l w h h0
end Go.Proofs.YthfjlcflpneffaaGreatDoor.Dat

/-
What package data's Text and Show answer, for every datum: Check's error and no text; else the text. Where the table of tens is as the program lays it.
-/
namespace Go.Proofs.YthfjlcflpneffaaGreatDoor.Dat
open Go.ChangeShapes Go.WideShapes Go.ChangeAt Go.RowKit
set_option maxRecDepth 100000

/-- The text that is told with no error. -/
def toldT (bare : Bool) (t : PT) : List UInt8 := if checkB t = 0 then textT bare t else []

theorem tell_bad (bare : Bool) (t : PT) (v : Value) (w : World) (B : Nat) (hv : RepV w B t v) (hB : B ≤ w.heap.size) (hc : checkB t ≠ 0) :
    Calls Tryz.prog 31 #[t.val v, .bool bare] w fun e w' => e = .returned (.tuple #[.string ⟨#[]⟩, .int .i64 (checkB t)]) ∧ Below w.heap.size w w' := by
  match t with
  | .mk k i s l =>
    have HV := Lib.hid hv
    obtain ⟨a, c, rfl, _⟩ := hv.2.2.2
    clear hv
    show Calls Tryz.prog 31 #[.agg #[.int .i64 k, .int .i64 i, .string s, .slice a l.length c], .bool bare] w _
    have C := fun o : Obj => check_any (.mk k i s l) _ (w.alloc o) B ⟨HV.out.1, HV.out.2.1, HV.out.2.2.1, HV.out.2.2.2.below ((Below.refl w.heap.size w).alloc (Nat.le_refl _) _) hB⟩ (by simp; omega)
    have hz : (checkB (.mk k i s l) != 0) = true := by simpa using hc
    generalize checkB (.mk k i s l) = r at C hz ⊢
    have HC := Lib.hid C
    clear C hc
    go_enter Tryz.func31, Tryz.ntmps31
    go_wp2_with fail
    refine (HC.out _).mono ?_
    rintro e w1 ⟨rfl, hb1⟩
    go_wp2
    go_ret2
    exact ⟨rfl, ((Below.refl w.heap.size w).alloc (Nat.le_refl _) _).trans (hb1.mono (by simp))⟩

theorem tell_good (bare : Bool) (t : PT) (v : Value) (w : World) (B : Nat) (hv : RepV w B t v) (hB : B ≤ w.heap.size) (h2 : 2 ≤ w.heap.size) (htab : TabOk w) (hc : checkB t = 0) :
    Calls Tryz.prog 31 #[t.val v, .bool bare] w fun e w' => e = .returned (.tuple #[.string ⟨(textT bare t).toArray⟩, .int .i64 0]) ∧ Below w.heap.size w w' := by
  have hok := check_ok t hc
  match t with
  | .mk k i s l =>
    have HV := Lib.hid hv
    obtain ⟨a, c, rfl, _⟩ := hv.2.2.2
    clear hv
    show Calls Tryz.prog 31 #[.agg #[.int .i64 k, .int .i64 i, .string s, .slice a l.length c], .bool bare] w _
    have C := fun o : Obj => check_any (.mk k i s l) _ (w.alloc o) B ⟨HV.out.1, HV.out.2.1, HV.out.2.2.1, HV.out.2.2.2.below ((Below.refl w.heap.size w).alloc (Nat.le_refl _) _) hB⟩ (by simp; omega)
    rw [hc] at C
    have HC := Lib.hid C
    have HOK := Lib.hid hok
    have HTab := Lib.hid htab
    clear C hc hok htab
    go_enter Tryz.func31, Tryz.ntmps31
    go_wp2_with fail
    refine (HC.out _).mono ?_
    rintro e w1 ⟨rfl, hb1⟩
    have g0 := box_cell hb1 0 _ rfl
    have g1 := box_cell hb1 1 _ rfl
    have g2 := box_cell hb1 2 _ rfl
    have g3 := box_cell hb1 3 _ rfl
    have hsz := hb1.size
    simp at g0 g1 g2 g3
    have hsz' : w.heap.size < w1.heap.size := by simp at hsz; omega
    clear hsz
    have hbr : Below w.heap.size w w1 := ((Below.refl w.heap.size w).alloc (Nat.le_refl _) _).trans (hb1.mono (by simp))
    clear hb1
    go_wp2_with fail
    have hT0 : IsTeller w1.heap.size bare [] (w1.alloc (.cells #[.pointer none, .slice none 0 0, .bool bare] 89)) :=
      .inl ⟨.slice none 0 0, heap_alloc_new w1 _, World.ownsRow_nil _ _ _ _, by simp [Value.ownBlock]⟩
    refine (tell_any bare (.mk k i s l) _ B w1.heap.size [] _ ⟨HV.out.1, HV.out.2.1, HV.out.2.2.1, (HV.out.2.2.2.below hbr hB).below ((Below.refl w1.heap.size w1).alloc (Nat.le_refl _) _) (by omega)⟩ (by omega) (by omega) (tabOk_below (tabOk_below HTab.out hbr h2) ((Below.refl w1.heap.size w1).alloc (Nat.le_refl _) _) (by omega)) hT0 HOK.out.1 (by have := HOK.out.2; simp; omega)).mono ?_
    rintro e w2 ⟨rfl, hT2, hb2⟩
    go_wp2_with fail
    refine (string_any _ bare _ _ hT2).mono ?_
    rintro e w3 ⟨rfl, hb3⟩
    go_wp2
    go_ret2
    exact ⟨rfl, ((hbr.alloc (by omega) _).trans (hb2.mono (by omega))).trans (hb3.mono (by omega))⟩

theorem told_any (bare : Bool) (t : PT) (v : Value) (w : World) (B : Nat) (hv : RepV w B t v) (hB : B ≤ w.heap.size) (h2 : 2 ≤ w.heap.size) (htab : TabOk w) :
    Calls Tryz.prog 31 #[t.val v, .bool bare] w fun e w' => e = .returned (.tuple #[.string ⟨(toldT bare t).toArray⟩, .int .i64 (checkB t)]) ∧ Below w.heap.size w w' := by
  unfold toldT
  by_cases hc : checkB t = 0
  · rw [if_pos hc, hc]
    exact tell_good bare t v w B hv hB h2 htab hc
  · rw [if_neg hc]
    exact tell_bad bare t v w B hv hB hc

theorem text_any (t : PT) (v : Value) (w : World) (B : Nat) (hv : RepV w B t v) (hB : B ≤ w.heap.size) (h2 : 2 ≤ w.heap.size) (htab : TabOk w) :
    Calls Tryz.prog 15 #[t.val v] w fun e w' => e = .returned (.tuple #[.string ⟨(toldT false t).toArray⟩, .int .i64 (checkB t)]) ∧ Below w.heap.size w w' := by
  match t with
  | .mk k i s l =>
    have HV := Lib.hid hv
    obtain ⟨a, c, rfl, _⟩ := hv.2.2.2
    clear hv
    show Calls Tryz.prog 15 #[.agg #[.int .i64 k, .int .i64 i, .string s, .slice a l.length c]] w _
    have C := fun o : Obj => told_any false (.mk k i s l) _ (w.alloc o) B ⟨HV.out.1, HV.out.2.1, HV.out.2.2.1, HV.out.2.2.2.below ((Below.refl w.heap.size w).alloc (Nat.le_refl _) _) hB⟩ (by simp; omega) (by simp; omega) (tabOk_below htab ((Below.refl w.heap.size w).alloc (Nat.le_refl _) _) h2)
    generalize toldT false (.mk k i s l) = tx at C ⊢
    generalize checkB (.mk k i s l) = r at C ⊢
    have HC := Lib.hid C
    clear C htab
    go_enter Tryz.func15, Tryz.ntmps15
    go_wp2_with fail
    refine (HC.out _).mono ?_
    rintro e w1 ⟨rfl, hb1⟩
    go_wp2
    go_ret2
    exact ⟨rfl, ((Below.refl w.heap.size w).alloc (Nat.le_refl _) _).trans (hb1.mono (by simp))⟩

end Go.Proofs.YthfjlcflpneffaaGreatDoor.Dat

/-
Small facts on numbers and rows. No condition.
-/
namespace Go.Proofs.YthfjlcflpneffaaGreatDoor.Dat
open Go.ChangeShapes Go.WideShapes Go.ChangeAt Go.RowKit
set_option maxRecDepth 100000
theorem rep_none (W : World) (B : Nat) : RepS W B [] (.slice none 0 0) := ⟨none, 0, rfl, Nat.le_refl _, Nat.zero_le _, fun _ => rfl, .inl rfl⟩
theorem ok_small {n : Int} (h : -1000 ≤ n ∧ n ≤ 1000) : ok64 n := by unfold ok64; omega
end Go.Proofs.YthfjlcflpneffaaGreatDoor.Dat
