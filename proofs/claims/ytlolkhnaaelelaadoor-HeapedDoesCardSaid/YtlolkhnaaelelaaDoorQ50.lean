/-
Package heap's parts: an iterator over all parts of a thing; slices.Collect of it. No condition but that the thing's cells lie in memory, and a bound on how many parts there are.
-/
import Derived.Test.YtlolkhnaaelelaaDoorQGb
import Derived.RangeFuncNested
import Derived.RangeFuncBound
import Derived.RangeFuncBox
import Derived.RangeFuncCalls
import Derived.RangeFuncLeaves
import Derived.Shelf.Abstract
import Derived.Shelf.RegionOpen
import Derived.WalkKit
import Derived.OwnWalkIn
import Derived.TacticsInMore
import Derived.LoopNIn
import Derived.LoopIn
import Derived.Maps.AppendAt
namespace Go.Proofs.YtlolkhnaaelelaaDoor.Hp
open Go.ChangeShapes Go.WideShapes Go.ChangeAt Go.RowKit Go.Deep Go.Shelf
open Dat (PT ok64 RepV RepS RowX infoDatum)
set_option maxRecDepth 100000
attribute [local go_sem] Oper.semAt_some

/-- All parts of a thing, whose four cells lie from ⟨tb, o⟩ on. -/
def PieceC (w : World) (tb o : Nat) (l : List PV) : Prop := w.cell? ⟨tb, o + 1, none⟩ = some (.int .i64 (l.length : Int)) ∧ ∀ i (h : i < l.length), PartC w tb o l.length i l[i]
theorem PieceC.below {w w' : World} {tb o : Nat} {l : List PV} (h : PieceC w tb o l) (hb : Below w.heap.size w w') : PieceC w' tb o l :=
  ⟨(hb.cell (p := ⟨tb, o + 1, none⟩) (World.block_lt_of_cell? _ _ h.1)).trans h.1, fun i hi => (h.2 i hi).below hb⟩
/-- One argument of a round: a value. -/
def encV (x : PV) : Array Value := #[.agg #[.int .i64 x.k, .int .i64 x.i, .string x.s]]
theorem grown_below {W W' : World} (h : Below W.heap.size W W') : W.grownBy W' none := ⟨h.os, h.tape, h.output, h.size, fun k hk _ => h.block k hk⟩
theorem abides {J : List PV → World → Prop} {B : Nat} (hJ : AbidesFrom B J) {s : List PV} {W W' : World} (hj : J s W) (hb : Below W.heap.size W W') : J s W' :=
  hJ s W W' none hj (grown_below hb) (fun r e => by cases e)
theorem take_snoc {l : List PV} {j : Nat} (h : j < l.length) : l.take j ++ [l[j]] = l.take (j + 1) := by simp

set_option maxHeartbeats 2000000 in
/-- The iterator: whatever the rounds do, so they leave what lay. -/
theorem parts1_in (n : Nat) (hn : 1 ≤ n) (l Bn tb o : Nat) (xs : List PV) (hxs : xs.length ≤ 1000000) (w0 : World) (J Jx : List PV → World → Prop)
    (hY : ∀ pre x W, J pre W → pre.length < xs.length → YieldAt Fence.wide (n - 1) Tryd.prog l (encV x) W fun e W' =>
      (e = .returned (.bool true) ∧ J (pre ++ [x]) W' ∧ Below w0.heap.size W W') ∨ (e = .returned (.bool false) ∧ Jx (pre ++ [x]) W'))
    (W : World) (hW : Below w0.heap.size w0 W) (B : Nat) (hJ : AbidesFrom B J) (hBn : w0.cell? ⟨Bn, 0, none⟩ = some (.pointer (some ⟨tb, o, none⟩))) (hP : PieceC w0 tb o xs) (h0 : J [] W) :
    CallsIn Fence.wide n Tryd.prog 62 #[.func (.yield l) #[] #[], .pointer (some ⟨Bn, 0, none⟩)] W fun e W' => (∃ v, e = .returned v) ∧
      ((∃ ys, ys = xs ∧ J ys W') ∨ (∃ pre, pre <+: xs ∧ Jx pre W')) := by
  have hBl := World.block_lt_of_cell? _ _ hBn
  have hc0 := (hW.cell (p := ⟨Bn, 0, none⟩) hBl).trans hBn
  have hc1 := (hW.cell (p := ⟨tb, o + 1, none⟩) (World.block_lt_of_cell? _ _ hP.1)).trans hP.1
  have HP := Lib.hid hP
  clear hP
  refine callsIn_of_wp Tryd.func62 rfl trivial ?_ rfl
  simp only [Tryd.ntmps62, List.size_toArray, List.length_cons, List.length_nil, Nat.reduceAdd, Nat.reduceSub, Array.replicate_succ, Array.replicate_zero, List.push_toArray, List.append_toArray, List.nil_append, List.cons_append]
  gi_wp2
  clear hc0 hc1
  gi_loopw [10] (fun x wr => ∃ j : Nat, j ≤ xs.length ∧ x = .int .i64 (j : Int) ∧ Below w0.heap.size w0 wr ∧ J (xs.take j) wr) (fun x _ => xs.length - (Lib.intOf x).toNat)
  case atStart => exact ⟨0, Nat.zero_le _, rfl, hW, h0⟩
  case round =>
    obtain ⟨j, hj, rfl, hb, hJs⟩ := hrel
    have hc0 := (hb.cell (p := ⟨Bn, 0, none⟩) hBl).trans hBn
    by_cases hlt : j < xs.length
    · have KP0 := part_gen tb o xs.length j xs[j] wr ((HP.out.2 j hlt).below hb)
      have HY := Lib.hid (fun W3 (h3 : Below wr.heap.size wr W3) => hY (xs.take j) xs[j] W3 (abides hJ hJs h3) (by simp; omega))
      have HS := Lib.hid (take_snoc hlt)
      have hi1 : (j : Int) < (xs.length : Int) := by omega
      have HB := Lib.hid hb
      generalize xs[j] = u at KP0 HY HS
      obtain ⟨uk, ui, us⟩ := u
      unfold VE at KP0
      dsimp only at KP0
      have KP := Lib.hid KP0
      clear hJs hb KP0
      gi_wp2_with (refine ⟨trivial, ?_⟩; gi_at_call 52; refine (callsIn_wide.2 KP.out).mono ?_; rintro e w2 ⟨rfl, hb2⟩; obtain ⟨fn, tmps, assign, body, hy, hR⟩ := HY.out (w2.alloc (.cells #[.int .i64 uk, .int .i64 ui, .string us] 36)) (hb2.alloc hb2.size _); unfold encV at hy; dsimp only at hy)
      refine hR.mono ?_
      rintro e W3 (⟨rfl, hJ3, hk3⟩ | ⟨rfl, hJx3⟩)
      · gi_wp2
        exact ⟨⟨j + 1, by omega, by go_num, HB.out.trans (((hb2.alloc hb2.size _).mono HB.out.size).trans hk3), by rw [← HS.out]; exact hJ3⟩, by simp [Lib.intOf]; omega⟩
      · gi_wp2
        refine bodyPost_ret (results_none rfl _ _ _) rfl ?_
        exact ⟨⟨_, rfl⟩, .inr ⟨_, by rw [HS.out]; exact List.take_prefix _ _, hJx3⟩⟩
    · obtain rfl : j = xs.length := by omega
      gi_wp2
      go_end0
      exact ⟨⟨_, rfl⟩, .inl ⟨_, rfl, by rw [List.take_length] at hJs; exact hJs⟩⟩
/-- The block of a round's value. -/
def BoxV (W : World) (B : Nat) (x : PV) : Prop := W.heap[B]? = some (.cells #[.int .i64 x.k, .int .i64 x.i, .string x.s] 36 (0, 0))
theorem BoxV.kept {X Y : World} {B : Nat} {x : PV} {row : Option Nat} (h : BoxV X B x) (hg : X.grownBy Y row) (hr : ∀ r, row = some r → ∃ o : Obj, X.heap[r]? = some o ∧ o.isCells = false) : BoxV Y B x := by
  refine (hg.block B (lt_of_block h) (fun e => ?_)).trans h
  obtain ⟨o, ho, hc⟩ := hr B e.symm
  rw [show X.heap[B]? = _ from h] at ho
  cases ho
  cases hc
theorem cells3_new (W : World) (t : TypeId) (a b c : Value) (j : Nat) (u : Value) (h : [a, b, c][j]? = some u) : (W.alloc (.cells #[a, b, c] t)).cell? ((⟨W.heap.size, 0, none⟩ : Addr).add j) = some u := by
  rw [add_plain, Nat.zero_add, Lib.cell_of_heap (World.alloc_heap_new W _)]
  simpa using h
set_option maxHeartbeats 2000000 in
/-- slices.AppendSeq of nothing, against whatever iterator. -/
theorem appendSeq_in (n : Nat) (hn : 2 ≤ n) (g : Nat) (lb : Array Value) (eg : ∀ args w, (callFunc g args).run Tryd.prog w = .ok (.enter g args) w) (xs : List PV) (hxs : xs.length ≤ 1000000) (w : World)
    (hseq : SeqStopsK Fence.wide (n - 1) Tryd.prog g lb encV (Below w.heap.size) (fun ys => ys = xs) (fun pre => pre <+: xs) xs.length w) :
    CallsIn Fence.wide n Tryd.prog 61 #[.slice none 0 0, .func (.func g) #[] lb] w fun e w' => ∃ v, e = .returned v ∧ w'.ownsRow w.heap.size 36 3 v xs.length (vCells xs) ∧ Below w.heap.size w w' := by
  have h1 : 1 ≤ n := by omega
  obtain ⟨i0, hi, hz0, hz1, hz2⟩ := info_parts infoVal
  refine callsIn_of_wp_marks Tryd.func61 rfl trivial ?_ rfl
  simp only [Tryd.ntmps61, List.size_toArray, List.length_cons, List.length_nil, Nat.reduceAdd, Nat.reduceSub, Array.replicate_succ, Array.replicate_zero, List.push_toArray, List.append_toArray, List.nil_append, List.cons_append]
  gi_wp2
  have bO := Boxed.new w 30 (.slice none 0 0)
  have hB0 : Below w.heap.size w (w.alloc (.cells #[.slice none 0 0] 30)) := (Below.refl _ w).alloc (Nat.le_refl _) _
  have hsz : (w.alloc (.cells #[.slice none 0 0] 30)).heap.size = w.heap.size + 1 := by simp
  obtain ⟨W0, hW0⟩ : ∃ W0, w.alloc (.cells #[.slice none 0 0] 30) = W0 := ⟨_, rfl⟩
  rw [hW0] at bO hB0 hsz ⊢
  clear hW0
  refine wpIn_rangeFunc_ownH rfl h1 (gf := g) (lb := lb) rfl trivial eg hseq belowK_t (belowK_b (by omega)) hB0 (fun _ => rfl)
    (fun pre W => (∃ v, Boxed W w.heap.size 30 v ∧ W.ownsRow w.heap.size 36 3 v pre.length (vCells pre) ∧ True) ∧ Below w.heap.size w W)
    (fun _ _ _ => False)
    (OwnFrom.and (Own.from (holdsRow_own w.heap.size w.heap.size 30 36 3 (fun pre => pre.length) (fun pre => vCells pre) (fun _ _ => True)) _) (ownFrom_below (Nat.le_refl _) (by omega)))
    (fun _ _ _ _ _ hs _ _ => hs)
    ⟨⟨_, bO, World.ownsRow_nil _ _ _ _, trivial⟩, hB0⟩
    (fun x a' W => ∃ Bx, w.heap.size < Bx ∧ BoxV W Bx x ∧ a' = { tmps := #[.slice none 0 0, .func (.func g) #[] lb, .pointer (some ⟨w.heap.size, 0, none⟩), undef, .slice none 0 0, .pointer (some ⟨Bx, 0, none⟩), .func (.func g) #[] lb, .agg #[.int .i64 x.k, .int .i64 x.i, .string x.s], undef, undef, undef, undef, undef], defers := [] })
    (fun x a' _ X Y row hs hg hr => by obtain ⟨Bx, h1, h2, h3⟩ := hs; exact ⟨Bx, h1, h2.kept hg (fun r e => (hr r e).2), h3⟩)
    ?assign ?body ?done ?stop
  case assign =>
    rintro l pre x W K ⟨⟨v, hv, hrow, _⟩, hB1⟩ hK
    unfold encV
    gi_wp2
    exact hK _ _ ((KeepsOthers.alloc _ _).from _) ((Below.refl _ W).alloc hB1.size _) ⟨⟨v, hv.alloc _, hrow.alloc _, trivial⟩, hB1.alloc hB1.size _⟩ ⟨W.heap.size, hv.lt, World.alloc_heap_new W _, rfl⟩
  case body =>
    rintro l pre x a' W hl ⟨r, hr⟩ ⟨⟨v, hv, hrow, _⟩, hB1⟩ ⟨Bx, hBx, bX, rfl⟩ hlt
    have cB := hv.cell
    have hE := Lib.hid (vCells_append pre [x])
    obtain ⟨⟨x0, x1, x2⟩, -⟩ := look3 bX
    gi_wp2_with (gi_at_builtin; refine wpListIn_append_own _ rfl _ _ 30 rfl w.heap.size 36 i0 _ 3 32 Tryd.underlying30 hi hz0 hz1 hz2 rfl (by decide) _ _ _ rfl (hrow.alloc _) ⟨W.heap.size, 0, none⟩ 1 1 [.int .i64 x.k, .int .i64 x.i, .string x.s] rfl rfl (fun j u => cells3_new _ _ _ _ _ j u) (by simp [Value.oneCell']) (by unfold maxLen; omega) (by omega) (by have := hB1.size; simp; omega) ?_; intro v' w1 hown' hgrow _; obtain ⟨g', cap', rfl⟩ := ownsRow_succ hown'; obtain ⟨hv1, hv2, hr2, hk2, hb2⟩ := hv.appended (by decide) hrow hB1.size (Nat.le_refl _) hown' hgrow; have hc1 := hv1.cell; have hf1 := hv1.frozen)
    exact ⟨hk2.from _, hb2, ⟨_, hv2, by rw [hE.out]; simpa [vCells] using hr2, trivial⟩, hB1.trans hb2⟩
  case done =>
    rintro D ys W hD rfl ⟨⟨v, hv, hrow, _⟩, hB1⟩ hK
    have cB := hv.cell
    gi_wp2
    refine ⟨by simp, .inl ⟨_, _, rfl, run_takeDeferred hK, ?_⟩⟩
    exact ⟨_, results_tmp rfl _ _ _, v, rfl, ownsRow_putObj hrow _ hK rfl, hB1.trans (belowK_b (w := w) (Nat.le_refl _) W D _ _ (by omega) hK rfl rfl)⟩
  case stop =>
    rintro D c pre W _ _ h _
    exact h.elim
set_option maxHeartbeats 1000000 in
/-- slices.Collect, against whatever iterator. -/
theorem collect_in (n : Nat) (hn : 3 ≤ n) (g : Nat) (lb : Array Value) (eg : ∀ args w, (callFunc g args).run Tryd.prog w = .ok (.enter g args) w) (xs : List PV) (hxs : xs.length ≤ 1000000) (w : World)
    (hseq : SeqStopsK Fence.wide (n - 1 - 1) Tryd.prog g lb encV (Below w.heap.size) (fun ys => ys = xs) (fun pre => pre <+: xs) xs.length w) :
    CallsIn Fence.wide n Tryd.prog 40 #[.func (.func g) #[] lb] w fun e w' => ∃ v, e = .returned v ∧ w'.ownsRow w.heap.size 36 3 v xs.length (vCells xs) ∧ Below w.heap.size w w' := by
  have h1 : 1 ≤ n := by omega
  refine callsIn_of_wp Tryd.func40 rfl trivial ?_ rfl
  simp only [Tryd.ntmps40, List.size_toArray, List.length_cons, List.length_nil, Nat.reduceAdd, Nat.reduceSub, Array.replicate_succ, Array.replicate_zero, List.push_toArray, List.append_toArray, List.nil_append, List.cons_append]
  gi_wp2_with (refine ⟨trivial, ?_⟩; gi_at_call 61; refine (appendSeq_in (n - 1) (by omega) g lb eg xs hxs _ hseq).mono ?_; rintro e w' ⟨v, rfl, hrow, hb⟩)
  go_ret
  exact ⟨v, rfl, hrow, hb⟩
/-- The iterator over a thing's parts. -/
theorem parts_any (p : Option Addr) (w : World) : Calls Tryd.prog 41 #[.pointer p] w fun e w' => e = .returned (.func (.func 62) #[] #[.pointer (some ⟨w.heap.size, 0, none⟩)]) ∧ w' = w.alloc (.cells #[.pointer p] 101) := by
  go_enter Tryd.func41, Tryd.ntmps41
  go_wp2
  go_ret
  exact ⟨rfl, rfl⟩
/-- slices.Collect of a thing's parts: all of them, in a row of its own. -/
theorem collect_parts (Bn tb o : Nat) (xs : List PV) (hxs : xs.length ≤ 1000000) (w : World) (hBn : w.cell? ⟨Bn, 0, none⟩ = some (.pointer (some ⟨tb, o, none⟩))) (hP : PieceC w tb o xs) (hok : ∀ u ∈ xs, okV u) :
    Calls Tryd.prog 40 #[.func (.func 62) #[] #[.pointer (some ⟨Bn, 0, none⟩)]] w fun e w' => NewP w.heap.size xs e w' ∧ Below w.heap.size w w' := by
  have hs : SeqStopsK Fence.wide (4 - 1 - 1) Tryd.prog 62 #[.pointer (some ⟨Bn, 0, none⟩)] encV (Below w.heap.size) (fun ys => ys = xs) (fun pre => pre <+: xs) xs.length w := by
    intro l J Jx W hW hJ _ hY h0
    exact parts1_in 2 (by decide) l Bn tb o xs hxs w J Jx hY W hW _ hJ hBn hP h0
  have hc := collect_in 4 (by decide) 62 #[.pointer (some ⟨Bn, 0, none⟩)] (enters_of Tryd.func62 (by kernel_rfl) rfl) xs hxs w hs
  refine (callsIn_wide.1 hc).mono ?_
  rintro e w' ⟨v, rfl, hrow, hb⟩
  obtain ⟨g, hp, hg⟩ := parts_of_own hrow hok
  exact ⟨⟨v, g, rfl, hp, hg⟩, hb⟩

theorem PartC.copy {w : World} {tb o B o' n i : Nat} {u : PV} (h : PartC w tb o n i u) (h1 : w.cell? ⟨B, o' + 1, none⟩ = w.cell? ⟨tb, o + 1, none⟩) (h2 : w.cell? ⟨B, o' + 2, none⟩ = w.cell? ⟨tb, o + 2, none⟩) (h3 : w.cell? ⟨B, o' + 3, none⟩ = w.cell? ⟨tb, o + 3, none⟩) : PartC w B o' n i u := by
  obtain ⟨g, nf, cp, mv, c1, c2, c3, r⟩ := h
  exact ⟨g, nf, cp, mv, h1.trans c1, h2.trans c2, h3.trans c3, r⟩
theorem PieceC.copy {w : World} {tb o B o' : Nat} {l : List PV} (h : PieceC w tb o l) (h1 : w.cell? ⟨B, o' + 1, none⟩ = w.cell? ⟨tb, o + 1, none⟩) (h2 : w.cell? ⟨B, o' + 2, none⟩ = w.cell? ⟨tb, o + 2, none⟩) (h3 : w.cell? ⟨B, o' + 3, none⟩ = w.cell? ⟨tb, o + 3, none⟩) : PieceC w B o' l :=
  ⟨h1.trans h.1, fun i hi => (h.2 i hi).copy h1 h2 h3⟩
/-- One of the heap's things, by its four cells. -/
theorem HeapM.piece {w : World} {hb : Nat} {T : List (Int × List PV)} {F : Nat → Prop} (h : HeapM w hb T F) (j : Nat) (hj : j < T.length) :
    ∃ tb cap sa sn sc mo, w.cell? ⟨hb, 0, none⟩ = some (.slice (some ⟨tb, 0, none⟩) T.length cap) ∧ T.length ≤ cap ∧ cap ≤ maxLen ∧ w.cell? ⟨tb, j * 4, none⟩ = some (.int .i64 T[j].1) ∧ w.cell? ⟨tb, j * 4 + 1, none⟩ = some (.int .i64 (T[j].2.length : Int)) ∧ w.cell? ⟨tb, j * 4 + 2, none⟩ = some (.slice sa sn sc) ∧ w.cell? ⟨tb, j * 4 + 3, none⟩ = some (.map mo) ∧ ok64 T[j].1 ∧ PieceC w tb (j * 4) T[j].2 ∧ ∀ u ∈ T[j].2, okV u := by
  obtain ⟨tb, cap, g, pv, mv, a1, a2, a3, a4, a5, a6, a7, a8, a9, _, _⟩ := h.thing j hj
  have hp : ∀ i (hi : i < T[j].2.length), PartC w tb (j * 4) T[j].2.length i T[j].2[i] := fun i hi => by
    obtain ⟨tb', cap', g, nf, cp, mv, c0, p1, p2, c1, c2, c3, p3, p4, vk, hlook⟩ := h.part j hj i hi
    rw [a1] at c0
    obtain rfl : tb = tb' := by injection c0 with c0; injection c0 with c0; injection c0 with c0; injection c0 with c0
    exact ⟨g, nf, cp, mv, c1, c2, c3, p3, p4, hi, vk, hlook⟩
  have hform : (∃ sa sn sc, pv = .slice sa sn sc) ∧ ∃ mo, mv = .map mo := by
    rcases a9 with ⟨rfl, h2⟩ | ⟨rfl, _, sa, sn, sc, rfl⟩ | ⟨_, _, _, _, p, h4, h5⟩
    · obtain ⟨a, c, rfl, _, _⟩ := h2.slice
      exact ⟨⟨_, _, _, rfl⟩, _, rfl⟩
    · exact ⟨⟨_, _, _, rfl⟩, _, rfl⟩
    · obtain ⟨a, c, rfl, _, _⟩ := h4.slice
      rcases h5 with ⟨rfl, _⟩ | ⟨b, m, rfl, _⟩
      · exact ⟨⟨_, _, _, rfl⟩, _, rfl⟩
      · exact ⟨⟨_, _, _, rfl⟩, _, rfl⟩
  obtain ⟨⟨sa, sn, sc, rfl⟩, mo, rfl⟩ := hform
  refine ⟨tb, cap, sa, sn, sc, mo, a1, a2, a3, a4, a5, a6, a7, a8, ⟨a5, hp⟩, fun u hu => ?_⟩
  obtain ⟨i, hi, rfl⟩ := List.getElem_of_mem hu
  obtain ⟨_, _, _, _, _, _, _, _, _, _, vk, _⟩ := hp i hi
  exact vk
end Go.Proofs.YtlolkhnaaelelaaDoor.Hp
