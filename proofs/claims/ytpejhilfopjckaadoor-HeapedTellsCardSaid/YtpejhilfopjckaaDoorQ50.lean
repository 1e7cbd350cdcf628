/-
Package heap's parts: an iterator over all parts of a thing; slices.Collect of it. No condition but that the thing's cells lie in memory, and a bound on how many parts there are.
-/
import Derived.Test.YtpejhilfopjckaaDoorQGb
import Derived.RangeFuncNested
import Derived.RangeFuncBound
import Derived.RangeFuncBox
import Derived.RangeFuncCalls
import Derived.RangeFuncLeaves
import Derived.Shelf.Abstract
import Derived.Shelf.RegionOpen
import Derived.WalkKit
import Derived.OwnWalkIn
import Derived.TacticsInMore
import Derived.LoopNIn
import Derived.LoopIn
import Derived.Maps.AppendAt
namespace Go.Proofs.YtpejhilfopjckaaDoor.Hp
open Go.ChangeShapes Go.WideShapes Go.ChangeAt Go.RowKit Go.Deep Go.Shelf
open Dat (PT ok64 RepV RepS RowX infoDatum)
set_option maxRecDepth 100000
attribute [local go_sem] Oper.semAt_some

/-- All parts of a thing, whose four cells lie from ⟨tb, o⟩ on. -/
def PieceC (w : World) (tb o : Nat) (l : List PV) : Prop := w.cell? ⟨tb, o + 1, none⟩ = some (.int .i64 (l.length : Int)) ∧ ∀ i (h : i < l.length), PartC w tb o l.length i l[i]
theorem PieceC.below {w w' : World} {tb o : Nat} {l : List PV} (h : PieceC w tb o l) (hb : Below w.heap.size w w') : PieceC w' tb o l :=
  ⟨(hb.cell (p := ⟨tb, o + 1, none⟩) (World.block_lt_of_cell? _ _ h.1)).trans h.1, fun i hi => (h.2 i hi).below hb⟩
/-- One argument of a round: a value. -/
def encV (x : PV) : Array Value := #[.agg #[.int .i64 x.k, .int .i64 x.i, .string x.s]]
theorem grown_below {W W' : World} (h : Below W.heap.size W W') : W.grownBy W' none := ⟨h.os, h.tape, h.output, h.size, fun k hk _ => h.block k hk⟩
theorem abides {J : List PV → World → Prop} {B : Nat} (hJ : AbidesFrom B J) {s : List PV} {W W' : World} (hj : J s W) (hb : Below W.heap.size W W') : J s W' :=
  hJ s W W' none hj (grown_below hb) (fun r e => by cases e)
theorem take_snoc {l : List PV} {j : Nat} (h : j < l.length) : l.take j ++ [l[j]] = l.take (j + 1) := by simp

set_option maxHeartbeats 2000000 in
/-- The iterator: whatever the rounds do, so they leave what lay. -/
theorem parts1_in (n : Nat) (hn : 1 ≤ n) (l Bn tb o : Nat) (xs : List PV) (hxs : xs.length ≤ 1000000) (w0 : World) (J Jx : List PV → World → Prop)
    (hY : ∀ pre x W, J pre W → pre.length < xs.length → YieldAt Fence.wide (n - 1) Tryd.prog l (encV x) W fun e W' =>
      (e = .returned (.bool true) ∧ J (pre ++ [x]) W' ∧ Below w0.heap.size W W') ∨ (e = .returned (.bool false) ∧ Jx (pre ++ [x]) W'))
    (W : World) (hW : Below w0.heap.size w0 W) (B : Nat) (hJ : AbidesFrom B J) (hBn : w0.cell? ⟨Bn, 0, none⟩ = some (.pointer (some ⟨tb, o, none⟩))) (hP : PieceC w0 tb o xs) (h0 : J [] W) :
    CallsIn Fence.wide n Tryd.prog 61 #[.func (.yield l) #[] #[], .pointer (some ⟨Bn, 0, none⟩)] W fun e W' => (∃ v, e = .returned v) ∧
      ((∃ ys, ys = xs ∧ J ys W') ∨ (∃ pre, pre <+: xs ∧ Jx pre W')) := by
  have hBl := World.block_lt_of_cell? _ _ hBn
  have hc0 := (hW.cell (p := ⟨Bn, 0, none⟩) hBl).trans hBn
  have hc1 := (hW.cell (p := ⟨tb, o + 1, none⟩) (World.block_lt_of_cell? _ _ hP.1)).trans hP.1
  have HP := Lib.hid hP
  clear hP
  refine callsIn_of_wp Tryd.func61 rfl trivial ?_ rfl
  simp only [Tryd.ntmps61, List.size_toArray, List.length_cons, List.length_nil, Nat.reduceAdd, Nat.reduceSub, Array.replicate_succ, Array.replicate_zero, List.push_toArray, List.append_toArray, List.nil_append, List.cons_append]
  gi_wp2
  clear hc0 hc1
  gi_loopw [10] (fun x wr => ∃ j : Nat, j ≤ xs.length ∧ x = .int .i64 (j : Int) ∧ Below w0.heap.size w0 wr ∧ J (xs.take j) wr) (fun x _ => xs.length - (Lib.intOf x).toNat)
  case atStart => exact ⟨0, Nat.zero_le _, rfl, hW, h0⟩
  case round =>
    obtain ⟨j, hj, rfl, hb, hJs⟩ := hrel
    have hc0 := (hb.cell (p := ⟨Bn, 0, none⟩) hBl).trans hBn
    by_cases hlt : j < xs.length
    · have KP0 := part_gen tb o xs.length j xs[j] wr ((HP.out.2 j hlt).below hb)
      have HY := Lib.hid (fun W3 (h3 : Below wr.heap.size wr W3) => hY (xs.take j) xs[j] W3 (abides hJ hJs h3) (by simp; omega))
      have HS := Lib.hid (take_snoc hlt)
      have hi1 : (j : Int) < (xs.length : Int) := by omega
      have HB := Lib.hid hb
      generalize xs[j] = u at KP0 HY HS
      obtain ⟨uk, ui, us⟩ := u
      unfold VE at KP0
      dsimp only at KP0
      have KP := Lib.hid KP0
      clear hJs hb KP0
      gi_wp2_with (refine ⟨trivial, ?_⟩; gi_at_call 51; refine (callsIn_wide.2 KP.out).mono ?_; rintro e w2 ⟨rfl, hb2⟩; obtain ⟨fn, tmps, assign, body, hy, hR⟩ := HY.out (w2.alloc (.cells #[.int .i64 uk, .int .i64 ui, .string us] 36)) (hb2.alloc hb2.size _); unfold encV at hy; dsimp only at hy)
      refine hR.mono ?_
      rintro e W3 (⟨rfl, hJ3, hk3⟩ | ⟨rfl, hJx3⟩)
      · gi_wp2
        exact ⟨⟨j + 1, by omega, by go_num, HB.out.trans (((hb2.alloc hb2.size _).mono HB.out.size).trans hk3), by rw [← HS.out]; exact hJ3⟩, by simp [Lib.intOf]; omega⟩
      · gi_wp2
        refine bodyPost_ret (results_none rfl _ _ _) rfl ?_
        exact ⟨⟨_, rfl⟩, .inr ⟨_, by rw [HS.out]; exact List.take_prefix _ _, hJx3⟩⟩
    · obtain rfl : j = xs.length := by omega
      gi_wp2
      go_end0
      exact ⟨⟨_, rfl⟩, .inl ⟨_, rfl, by rw [List.take_length] at hJs; exact hJs⟩⟩
/-- The block of a round's value. -/
def BoxV (W : World) (B : Nat) (x : PV) : Prop := W.heap[B]? = some (.cells #[.int .i64 x.k, .int .i64 x.i, .string x.s] 36 (0, 0))
theorem BoxV.kept {X Y : World} {B : Nat} {x : PV} {row : Option Nat} (h : BoxV X B x) (hg : X.grownBy Y row) (hr : ∀ r, row = some r → ∃ o : Obj, X.heap[r]? = some o ∧ o.isCells = false) : BoxV Y B x := by
  refine (hg.block B (lt_of_block h) (fun e => ?_)).trans h
  obtain ⟨o, ho, hc⟩ := hr B e.symm
  rw [show X.heap[B]? = _ from h] at ho
  cases ho
  cases hc
/-- The iterator over a thing's parts. -/
theorem parts_any (p : Option Addr) (w : World) : Calls Tryd.prog 40 #[.pointer p] w fun e w' => e = .returned (.func (.func 61) #[] #[.pointer (some ⟨w.heap.size, 0, none⟩)]) ∧ w' = w.alloc (.cells #[.pointer p] 101) := by
  go_enter Tryd.func40, Tryd.ntmps40
  go_wp2
  go_ret
  exact ⟨rfl, rfl⟩
/-- One of the heap's things, by its four cells. -/
theorem HeapM.piece {w : World} {hb : Nat} {T : List (Int × List PV)} {F : Nat → Prop} (h : HeapM w hb T F) (j : Nat) (hj : j < T.length) :
    ∃ tb cap sa sn sc mo, w.cell? ⟨hb, 0, none⟩ = some (.slice (some ⟨tb, 0, none⟩) T.length cap) ∧ T.length ≤ cap ∧ cap ≤ maxLen ∧ w.cell? ⟨tb, j * 4, none⟩ = some (.int .i64 T[j].1) ∧ w.cell? ⟨tb, j * 4 + 1, none⟩ = some (.int .i64 (T[j].2.length : Int)) ∧ w.cell? ⟨tb, j * 4 + 2, none⟩ = some (.slice sa sn sc) ∧ w.cell? ⟨tb, j * 4 + 3, none⟩ = some (.map mo) ∧ ok64 T[j].1 ∧ PieceC w tb (j * 4) T[j].2 ∧ ∀ u ∈ T[j].2, okV u := by
  obtain ⟨tb, cap, g, pv, mv, a1, a2, a3, a4, a5, a6, a7, a8, a9, _, _⟩ := h.thing j hj
  have hp : ∀ i (hi : i < T[j].2.length), PartC w tb (j * 4) T[j].2.length i T[j].2[i] := fun i hi => by
    obtain ⟨tb', cap', g, nf, cp, mv, c0, p1, p2, c1, c2, c3, p3, p4, vk, hlook⟩ := h.part j hj i hi
    rw [a1] at c0
    obtain rfl : tb = tb' := by injection c0 with c0; injection c0 with c0; injection c0 with c0; injection c0 with c0
    exact ⟨g, nf, cp, mv, c1, c2, c3, p3, p4, hi, vk, hlook⟩
  have hform : (∃ sa sn sc, pv = .slice sa sn sc) ∧ ∃ mo, mv = .map mo := by
    rcases a9 with ⟨rfl, h2⟩ | ⟨rfl, _, sa, sn, sc, rfl⟩ | ⟨_, _, _, _, p, h4, h5⟩
    · obtain ⟨a, c, rfl, _, _⟩ := h2.slice
      exact ⟨⟨_, _, _, rfl⟩, _, rfl⟩
    · exact ⟨⟨_, _, _, rfl⟩, _, rfl⟩
    · obtain ⟨a, c, rfl, _, _⟩ := h4.slice
      rcases h5 with ⟨rfl, _⟩ | ⟨b, m, rfl, _⟩
      · exact ⟨⟨_, _, _, rfl⟩, _, rfl⟩
      · exact ⟨⟨_, _, _, rfl⟩, _, rfl⟩
  obtain ⟨⟨sa, sn, sc, rfl⟩, mo, rfl⟩ := hform
  refine ⟨tb, cap, sa, sn, sc, mo, a1, a2, a3, a4, a5, a6, a7, a8, ⟨a5, hp⟩, fun u hu => ?_⟩
  obtain ⟨i, hi, rfl⟩ := List.getElem_of_mem hu
  obtain ⟨_, _, _, _, _, _, _, _, _, _, vk, _⟩ := hp i hi
  exact vk
end Go.Proofs.YtpejhilfopjckaaDoor.Hp
