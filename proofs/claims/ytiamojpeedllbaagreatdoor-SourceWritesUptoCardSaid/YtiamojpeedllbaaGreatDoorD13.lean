/-
The builder in a teller of package data: what its calls do: copyCheck, WriteByte, WriteString, String. A text of at most 2^47 bytes.
-/
import Derived.Test.YtiamojpeedllbaaGreatDoorD11
import Derived.Test.YtiamojpeedllbaaGreatDoorShelfI
import Derived.Lib.Builder
import Derived.Lib.AppendStr
import Derived.Lib.UnsafeStr
import Derived.Laws.Externs
import Derived.RegionTactic
namespace Go.Proofs.YtiamojpeedllbaaGreatDoor.Dat
open Go.ChangeShapes Go.WideShapes Go.ChangeAt Go.RowKit
set_option maxRecDepth 100000

theorem infoByte : (Tryz.prog.info? 5).map (fun i => (i.zero, i.size, i.bytes)) = some (some (.int .u8 0), 1, 1) := by kernel_rfl
theorem sizeBuilder : (Tryz.prog.info? 69).map (·.size) = some 2 := by kernel_rfl
theorem liesBuilder : liesAt Tryz.prog Tryz.prog.depth 86 (3 / Tryz.prog.cellsOf 86) 0 69 1 = true := by kernel_rfl

/-- A teller in a block of its own, holding the bytes l; p: what its builder's first field holds. -/
def TellerAt (tb : Nat) (bare : Bool) (p : Value) (l : List UInt8) (w : World) : Prop :=
  ∃ v, w.heap[tb]? = some (.cells #[p, v, .bool bare] 86 (0, 0)) ∧ w.ownsRow tb 5 1 v l.length (Lib.byteCells l) ∧ v.ownBlock ≠ some tb
/-- .. fresh or used. -/
def IsTeller (tb : Nat) (bare : Bool) (l : List UInt8) (w : World) : Prop :=
  TellerAt tb bare (.pointer none) l w ∨ TellerAt tb bare (.pointer (some ⟨tb, 0, none⟩)) l w

set_option maxRecDepth 100000 in
theorem copyCheck_used (tb : Nat) (w : World) (h0 : w.cell? ⟨tb, 0, none⟩ = some (.pointer (some ⟨tb, 0, none⟩))) :
    Calls Tryz.prog 60 #[.pointer (some ⟨tb, 0, none⟩)] w fun e w' => e = .returned (.tuple #[]) ∧ w = w' := by
  obtain ⟨j, hj, _⟩ := Option.map_eq_some_iff.1 sizeBuilder
  go_enter Tryz.func60, Tryz.ntmps60
  go_wp2
  rw [Lib.run_neq_ptr_same w _ Tryz.underlying67 hj]
  go_wp2
  go_end0
  exact ⟨rfl, rfl⟩

set_option maxRecDepth 100000 in
theorem copyCheck_fresh (tb : Nat) (w : World) (h0 : w.cell? ⟨tb, 0, none⟩ = some (.pointer none)) (hsh : w.shape? tb = some (86, 3)) (hfz : w.frozen? ⟨tb, 0, none⟩ = false) :
    Calls Tryz.prog 60 #[.pointer (some ⟨tb, 0, none⟩)] w fun e w' => e = .returned (.tuple #[]) ∧ w' = w.setCell ⟨tb, 0, none⟩ (.pointer (some ⟨tb, 0, none⟩)) := by
  obtain ⟨j, hj, hjs⟩ := Option.map_eq_some_iff.1 sizeBuilder
  go_enter Tryz.func60, Tryz.ntmps60
  go_wp2
  rw [Lib.run_to_unsafe w ⟨tb, 0, none⟩ Tryz.underlying67 Tryz.underlying115 hj (by rw [hjs]; decide) hsh (Nat.zero_lt_succ 2)]
  simp only [Result.andThen]
  rw [Oper.upon_value]
  go_wp2
  rw [run_callFunc_extern Tryz.func88 (by kernel_rfl) (by kernel_rfl) (by kernel_rfl) (e := Extern.AbiNoEscape.same) (by kernel_rfl)]
  rw [Lib.run_noEscape]
  simp only [Result.andThen]
  rw [Oper.upon_value]
  go_wp2
  rw [Lib.run_from_unsafe w ⟨tb, 0, none⟩ Tryz.underlying115 Tryz.underlying67 hj hsh liesBuilder]
  simp only [Result.andThen]
  rw [Oper.upon_value]
  go_wp2
  go_end0
  exact ⟨rfl, rfl⟩

theorem TellerAt.cell {tb : Nat} {bare : Bool} {p : Value} {l : List UInt8} {w : World} (h : TellerAt tb bare p l w) : w.cell? ⟨tb, 0, none⟩ = some p ∧ w.cell? ⟨tb, 2, none⟩ = some (.bool bare) ∧ w.frozen? ⟨tb, 0, none⟩ = false ∧ w.shape? tb = some (86, 3) ∧ tb < w.heap.size := by
  obtain ⟨v, hb, _⟩ := h
  refine ⟨by rw [Lib.cell_of_heap hb]; rfl, by rw [Lib.cell_of_heap hb]; rfl, Lib.frozen_of_heap hb 0, by simp [World.shape?, hb], lt_of_block hb⟩

theorem TellerAt.used {tb : Nat} {bare : Bool} {p : Value} {l : List UInt8} {w : World} (h : TellerAt tb bare p l w) (q : Value) : TellerAt tb bare q l (w.setCell ⟨tb, 0, none⟩ q) := by
  obtain ⟨v, hb, hown, hne⟩ := h
  refine ⟨v, ?_, ?_, hne⟩
  · simp [World.setCell, Array.getElem?_modify, hb]
  · refine hown.kept (row := some tb) ⟨rfl, rfl, rfl, by simp [World.setCell], fun k _ hk => Below.heap_setCell _ _ _ _ (fun e => hk (by simp [e]))⟩ ?_
    exact Or.inr hne

theorem IsTeller.has {tb : Nat} {bare : Bool} {l : List UInt8} {w : World} (h : IsTeller tb bare l w) : ∃ p, TellerAt tb bare p l w := h.elim (fun h => ⟨_, h⟩) (fun h => ⟨_, h⟩)

theorem IsTeller.cells {tb : Nat} {bare : Bool} {l : List UInt8} {w : World} (h : IsTeller tb bare l w) : w.cell? ⟨tb, 2, none⟩ = some (.bool bare) ∧ tb < w.heap.size := by
  obtain ⟨p, hp⟩ := h.has
  exact ⟨hp.cell.2.1, hp.cell.2.2.2.2⟩

theorem IsTeller.moved {tb : Nat} {bare : Bool} {l : List UInt8} {w w' : World} (h : IsTeller tb bare l w) (hb : Below w.heap.size w w') : IsTeller tb bare l w' := by
  have one : ∀ p, TellerAt tb bare p l w → TellerAt tb bare p l w' := by
    rintro p ⟨v, hbk, hown, hne⟩
    refine ⟨v, (hb.block tb (lt_of_block hbk)).trans hbk, ?_, hne⟩
    exact hown.kept (row := none) ⟨hb.os, hb.tape, hb.output, hb.size, fun k hk _ => hb.block k hk⟩ (by cases hv : v.ownBlock <;> simp)
  exact h.elim (fun h => .inl (one _ h)) (fun h => .inr (one _ h))

theorem copyCheck_any (tb : Nat) (bare : Bool) (l : List UInt8) (w : World) (h : IsTeller tb bare l w) :
    Calls Tryz.prog 60 #[.pointer (some ⟨tb, 0, none⟩)] w fun e w' => e = .returned (.tuple #[]) ∧ TellerAt tb bare (.pointer (some ⟨tb, 0, none⟩)) l w' ∧ Below tb w w' := by
  rcases h with h | h
  · obtain ⟨c0, _, f0, sh, _⟩ := h.cell
    refine (copyCheck_fresh tb w c0 sh f0).mono ?_
    rintro e w' ⟨rfl, rfl⟩
    exact ⟨rfl, h.used _, (Below.refl tb w).setCell (p := ⟨tb, 0, none⟩) (Nat.le_refl _) _⟩
  · refine (copyCheck_used tb w h.cell.1).mono ?_
    rintro e w' ⟨rfl, rfl⟩
    exact ⟨rfl, h, Below.refl tb _⟩

/-- A new buffer laid into the builder. -/
theorem teller_put {tb : Nat} {bare : Bool} {p v v' : Value} {l : List UInt8} {w : World} (hb : w.heap[tb]? = some (.cells #[p, v, .bool bare] 86 (0, 0))) (hown : w.ownsRow tb 5 1 v' l.length (Lib.byteCells l)) :
    TellerAt tb bare p l (w.setCell ⟨tb, 1, none⟩ v') := by
  have hne := Lib.ownBlock_ne hown hb (by decide)
  refine ⟨v', ?_, ?_, hne⟩
  · simp [World.setCell, Array.getElem?_modify, hb]
  · exact hown.kept (row := some tb) ⟨rfl, rfl, rfl, by simp [World.setCell], fun k _ hk => Below.heap_setCell _ _ _ _ (fun e => hk (by simp [e]))⟩ (Or.inr hne)

set_option maxHeartbeats 1000000 in
set_option maxRecDepth 100000 in
theorem writeByte_any (tb : Nat) (bare : Bool) (l : List UInt8) (c : UInt8) (w : World) (h : IsTeller tb bare l w) (hlen : l.length + 1 ≤ 140737488355328) :
    Calls Tryz.prog 39 #[.pointer (some ⟨tb, 0, none⟩), .int .u8 (c.toNat : Int)] w fun e w' => e = .returned .nilIface ∧ TellerAt tb bare (.pointer (some ⟨tb, 0, none⟩)) (l ++ [c]) w' ∧ Below tb w w' := by
  obtain ⟨i0, hi, hz0, hz1, hz2⟩ := info_parts infoByte
  have htbw := h.cells.2
  go_enter Tryz.func39, Tryz.ntmps39
  go_wp2_with (go_at_call 60; refine (copyCheck_any tb bare l _ h).mono ?_)
  rintro e w1 ⟨rfl, ⟨v, hbk, hown, hne⟩, hb1⟩
  have c0 : w1.cell? ⟨tb, 0, none⟩ = some (.pointer (some ⟨tb, 0, none⟩)) := by rw [Lib.cell_of_heap hbk]; rfl
  have c1 : w1.cell? ⟨tb, 1, none⟩ = some v := by rw [Lib.cell_of_heap hbk]; rfl
  have hlt : tb < w1.heap.size := lt_of_block hbk
  go_wp2_with (at_builtin; refine wpList_append_own _ rfl _ _ 35 rfl tb 5 i0 (.int .u8 0) 1 1 Tryz.underlying35 hi hz0 hz1 hz2 rfl (by decide) _ _ _ rfl (hown.alloc _) ⟨w1.heap.size, 0, none⟩ 1 1 [.int .u8 c.toNat] rfl rfl ?c1 ?c2 ?c3 ?c4 ?c5 ?_)
  case c1 =>
    intro j u hj
    match j, hj with
    | 0, hj => simp at hj; subst hj; simp [Addr.add]
  case c2 => intro u hu; simp at hu; subst hu; rfl
  case c3 => unfold maxLen; omega
  case c4 => omega
  case c5 => simp; omega
  intro v' w2 hown' hgrow _
  have hb2 : w2.heap[tb]? = some (.cells #[.pointer (some ⟨tb, 0, none⟩), v, .bool bare] 86 (0, 0)) := by
    rw [hgrow.block tb (by simp; omega) (fun e => hne e.symm), Lib.alloc_old w1 _ tb hlt]
    exact hbk
  have d0 : w2.cell? ⟨tb, 0, none⟩ = some (.pointer (some ⟨tb, 0, none⟩)) := by rw [Lib.cell_of_heap hb2]; rfl
  have d1 : w2.cell? ⟨tb, 1, none⟩ = some v := by rw [Lib.cell_of_heap hb2]; rfl
  have f1 : w2.frozen? ⟨tb, 1, none⟩ = false := Lib.frozen_of_heap hb2 1
  obtain ⟨g, cap, rfl⟩ : ∃ g cap, v' = .slice (some ⟨g, 0, none⟩) (l.length + 1) cap := by
    rcases hown'.2 with ⟨_, h0⟩ | ⟨g, cap, cur, hv, _⟩
    · omega
    · exact ⟨g, cap, hv⟩
  go_wp2
  go_ret
  refine ⟨rfl, ?_, ?_⟩
  · exact teller_put hb2 (by simpa [Lib.byteCells_append, Lib.byteCells] using hown')
  · exact ((hb1.alloc (by omega) _).grown hgrow (by simp; omega) (fun k hk => (hown.lt k hk).1)).setCell (p := ⟨tb, 1, none⟩) (Nat.le_refl _) _

set_option maxHeartbeats 1000000 in
set_option maxRecDepth 100000 in
theorem writeString_any (tb : Nat) (bare : Bool) (l : List UInt8) (s : ByteArray) (w : World) (h : IsTeller tb bare l w) (hlen : l.length + s.size ≤ 140737488355328) :
    Calls Tryz.prog 38 #[.pointer (some ⟨tb, 0, none⟩), .string s] w fun e w' => e = .returned (.tuple #[.int .i64 s.size, .nilIface]) ∧ TellerAt tb bare (.pointer (some ⟨tb, 0, none⟩)) (l ++ s.data.toList) w' ∧ Below tb w w' := by
  obtain ⟨i0, hi, hz0, hz1, hz2⟩ := info_parts infoByte
  have htbw := h.cells.2
  go_enter Tryz.func38, Tryz.ntmps38
  go_wp2_with (go_at_call 60; refine (copyCheck_any tb bare l _ h).mono ?_)
  rintro e w1 ⟨rfl, ⟨v, hbk, hown, hne⟩, hb1⟩
  have c0 : w1.cell? ⟨tb, 0, none⟩ = some (.pointer (some ⟨tb, 0, none⟩)) := by rw [Lib.cell_of_heap hbk]; rfl
  have c1 : w1.cell? ⟨tb, 1, none⟩ = some v := by rw [Lib.cell_of_heap hbk]; rfl
  have hlt : tb < w1.heap.size := lt_of_block hbk
  go_wp2_with (at_builtin; refine Lib.wpList_append_own_string _ rfl _ _ 35 9 rfl tb 5 i0 Tryz.underlying35 Tryz.underlying9 hi hz0 hz1 hz2 _ _ _ rfl hown s rfl ?c3 ?c4 ?c5 ?_)
  case c3 => unfold maxLen; omega
  case c4 => omega
  case c5 => omega
  intro v' w2 hown' hgrow _
  have hb2 : w2.heap[tb]? = some (.cells #[.pointer (some ⟨tb, 0, none⟩), v, .bool bare] 86 (0, 0)) := by
    rw [hgrow.block tb hlt (fun e => hne e.symm)]
    exact hbk
  have d0 : w2.cell? ⟨tb, 0, none⟩ = some (.pointer (some ⟨tb, 0, none⟩)) := by rw [Lib.cell_of_heap hb2]; rfl
  have d1 : w2.cell? ⟨tb, 1, none⟩ = some v := by rw [Lib.cell_of_heap hb2]; rfl
  have f1 : w2.frozen? ⟨tb, 1, none⟩ = false := Lib.frozen_of_heap hb2 1
  obtain ⟨ao, n', cap, rfl⟩ : ∃ ao n' cap, v' = .slice ao n' cap := by
    rcases hown'.2 with ⟨hv, _⟩ | ⟨g, cap, cur, hv, _⟩
    · exact ⟨_, _, _, hv⟩
    · exact ⟨_, _, _, hv⟩
  go_wp2
  go_ret2
  refine ⟨rfl, ?_, ?_⟩
  · refine teller_put hb2 ?_
    rw [Lib.byteCells_append, ← Lib.strCells_eq, List.length_append, len_data]
    exact hown'
  · exact (hb1.grown hgrow (by omega) (fun k hk => (hown.lt k hk).1)).setCell (p := ⟨tb, 1, none⟩) (Nat.le_refl _) _

set_option maxHeartbeats 1000000 in
set_option maxRecDepth 100000 in
/-- String: of a teller that has written something. -/
theorem string_some (tb : Nat) (bare : Bool) (l : List UInt8) (w : World) (h : IsTeller tb bare l w) (h0 : l ≠ []) :
    Calls Tryz.prog 40 #[.pointer (some ⟨tb, 0, none⟩)] w fun e w' => e = .returned (.string ⟨l.toArray⟩) ∧ Below tb w w' := by
  obtain ⟨p, v, hbk, hown, hne⟩ := h.has
  have hl0 : l.length ≠ 0 := by simpa using h0
  obtain ⟨g, cap, cur, rfl, hbg, hg, hnc, hcm, hcs, htake⟩ : ∃ g cap cur, v = .slice (some ⟨g, 0, none⟩) l.length cap ∧ tb ≤ g ∧ w.heap[g]? = some (.cells cur 5 (0, 0)) ∧ l.length ≤ cap ∧ cap ≤ maxLen ∧ cur.size = cap * 1 ∧ cur.toList.take (l.length * 1) = Lib.byteCells l := by
    rcases hown.2 with ⟨_, hz⟩ | ⟨g, cap, cur, hv, r⟩
    · exact absurd hz hl0
    · exact ⟨g, cap, cur, hv, r⟩
  have c1 : w.drew.cell? ⟨tb, 1, none⟩ = some (.slice (some ⟨g, 0, none⟩) l.length cap) := by
    have : w.drew.heap[tb]? = some (.cells #[p, .slice (some ⟨g, 0, none⟩) l.length cap, .bool bare] 86 (0, 0)) := hbk
    rw [Lib.cell_of_heap this]; rfl
  have hSD : (Builtin.unsafeSliceData_ #[35] 95 #[.slice (some ⟨g, 0, none⟩) l.length cap]).run Tryz.prog w.drew = .ok (.pointer (some ⟨g, 0, none⟩)) w.drew :=
    Lib.run_unsafeSliceData_row _ _ _ _ _ _ (by omega)
  have hUS : (Builtin.unsafeString_ #[95, 3] 9 #[.pointer (some ⟨g, 0, none⟩), .int .i64 l.length]).run Tryz.prog w.drew = .ok (.string ⟨l.toArray⟩) (w.drew.freeze ⟨g, 0, none⟩ l.length) := by
    refine Lib.run_unsafeString_row w.drew 95 3 9 5 Tryz.underlying95 (by kernel_rfl) g cur.size (by have hg' : w.drew.heap[g]? = some (.cells cur 5 (0, 0)) := hg; simp [World.shape?, hg']) l h0 (by omega) (by unfold maxLen at hcm; omega) ?_
    intro j x hx
    have := hown.cells (g := g) rfl j (.int .u8 x.toNat) (by simp [Lib.byteCells, hx])
    exact this
  go_enter Tryz.func40, Tryz.ntmps40
  go_wp2
  go_region
  all_goals (go_wp2; go_ret; exact ⟨rfl, Lib.below_freeze (Below.drew (Below.refl tb w)) (p := ⟨g, 0, none⟩) hbg _⟩)
end Go.Proofs.YtiamojpeedllbaaGreatDoor.Dat
