/-
The law DatumMakes of layer 2: slices.Grow at nil, slices.Concat at two rows of data.
-/
import Derived.Test.YtiamojpeedllbaaGreatDoorM1
namespace Go.Proofs.YtiamojpeedllbaaGreatDoor.Dat
open Go.ChangeShapes Go.WideShapes Go.ChangeAt Go.RowKit
set_option maxRecDepth 100000

theorem grow_any (n : Nat) (h1 : 1 ≤ n) (hn : n ≤ 1000000) (w : World) :
    Calls Tryz.prog 67 #[.slice none 0 0, .int .i64 (n : Int)] w fun e w' => (∃ v, e = .returned v ∧ w'.ownsRow w.heap.size 28 4 v 0 []) ∧ Below w.heap.size w w' := by
  obtain ⟨i0, hi, hz0, hz1, hz2⟩ := info_parts infoDatum
  have hr : ∀ ty, (Builtin.append_ #[26, 3] ty #[.slice none 0 0, .int .i64 (n : Int)]).run Tryz.prog w = _ := fun ty => Lib.run_append_nil_zeros (P := Tryz.prog) w 26 3 ty 28 i0 _ .i64 .i64 Tryz.underlying26 Tryz.underlying3 hi hz0 n (by omega) (by omega) (by omega) (by rw [hz2]; omega)
  have hge := grownCap_ge w n 0 28
  have hle := grownCap_le_maxLen w n 0 28 (by unfold maxLen; omega)
  have hown : ((w.drew.alloc (.cells (Builtin.zeroCells (Value.agg #[.int .i64 0, .int .i64 0, .string ⟨#[]⟩, .slice none 0 0]).cells n ++ Builtin.zeroCells (Value.agg #[.int .i64 0, .int .i64 0, .string ⟨#[]⟩, .slice none 0 0]).cells (grownCap w n 0 28 - n)) 28))).ownsRow w.heap.size 28 4 (.slice (some ⟨w.heap.size, 0, none⟩) 0 (grownCap w n 0 28)) 0 [] :=
    World.ownsRow_made w.drew _ _ (Nat.le_refl _) hle (by
      rw [Array.size_append, size_zeroCells, size_zeroCells]
      show n * 4 + (grownCap w n 0 28 - n) * 4 = _
      omega)
  have hbel : Below w.heap.size w (w.drew.alloc (.cells (Builtin.zeroCells (Value.agg #[.int .i64 0, .int .i64 0, .string ⟨#[]⟩, .slice none 0 0]).cells n ++ Builtin.zeroCells (Value.agg #[.int .i64 0, .int .i64 0, .string ⟨#[]⟩, .slice none 0 0]).cells (grownCap w n 0 28 - n)) 28)) := ((Below.refl _ _).drew).alloc (Nat.le_refl _) _
  generalize (w.drew.alloc (.cells (Builtin.zeroCells (Value.agg #[.int .i64 0, .int .i64 0, .string ⟨#[]⟩, .slice none 0 0]).cells n ++ Builtin.zeroCells (Value.agg #[.int .i64 0, .int .i64 0, .string ⟨#[]⟩, .slice none 0 0]).cells (grownCap w n 0 28 - n)) 28)) = w1 at hr hown hbel
  generalize grownCap w n 0 28 = cap at hr hge hle hown
  unfold maxLen at hle
  have HRUN := Lib.hid hr
  have HO := Lib.hid hown
  clear hr hown
  have hn0 : ¬ (n : Int) < 0 := by omega
  have hn1 : (0 : Int) < (n : Int) := by omega
  go_enter Tryz.func67, Tryz.ntmps67
  go_wp2_with (at_builtin; refine Lib.wpList_append_run _ rfl _ _ 26 3 rfl _ _ rfl rfl _ _ (HRUN.out _) ?_)
  go_wp2
  go_ret
  exact ⟨⟨_, rfl, HO.out⟩, hbel⟩

set_option maxRecDepth 100000 in
theorem concat_any (l m : List PT) (x y : Value) (w : World) (B b : Nat) (hb : w.heap[b]? = some (.cells #[x, y] 26 (0, 0))) (hx : RepS w B l x) (hy : RepS w B m y) (hB : B ≤ w.heap.size) (h1 : 1 ≤ l.length) (hn : l.length + m.length ≤ 1000000) :
    Calls Tryz.prog 48 #[.slice (some ⟨b, 0, none⟩) 2 2] w fun e w' => (∃ v', e = .returned v' ∧ RepS w' w'.heap.size (l ++ m) v') ∧ Below w.heap.size w w' := by
  have HX := Lib.hid hx
  have HY := Lib.hid hy
  have hbs := lt_of_block hb
  have c0 : w.cell? ⟨b, 0, none⟩ = some x := by rw [Lib.cell_of_heap hb]; rfl
  have c1 : w.cell? ⟨b, 1, none⟩ = some y := by rw [Lib.cell_of_heap hb]; rfl
  obtain ⟨a, c, rfl, hl, hm, _⟩ := hx
  obtain ⟨a', c', rfl, hl', hm', _⟩ := hy
  unfold maxLen at hm hm'
  have G : ∀ W, Calls Tryz.prog 67 #[.slice none 0 0, .int .i64 ((l.length : Int) + (m.length : Int))] W fun e w' => (∃ v, e = .returned v ∧ w'.ownsRow W.heap.size 28 4 v 0 []) ∧ Below W.heap.size W w' := fun W => by
    have := grow_any (l.length + m.length) (by omega) hn W
    rwa [Int.natCast_add] at this
  have HG := Lib.hid G
  clear G
  have hb0 : (0 : Int) + (l.length : Int) = (l.length : Int) := by omega
  have hneg : ¬ (l.length : Int) < 0 := by omega
  have hneg2 : ¬ (l.length : Int) + (m.length : Int) < 0 := by omega
  have hb2 : Below w.heap.size w w := Below.refl _ _
  go_enter Tryz.func48, Tryz.ntmps48
  go_wp2
  refine wp_loop_rounds 3 ?_
  rw [rounds_succ]
  go_wp2
  rw [rounds_succ]
  go_wp2
  rw [rounds_succ]
  go_wp2_with fail
  refine (HG.out _).mono ?_
  rintro e w1 ⟨⟨v1, rfl, ho1⟩, hb1⟩
  have HO1 := Lib.hid (show RowOwn w1 w.heap.size B [] v1 from ⟨[], ho1, by rw [RepX, RowX]⟩)
  have hne : some b ≠ v1.ownBlock := fun e => by have := (ho1.lt _ e.symm).1; omega
  have c0 : w1.cell? ⟨b, 0, none⟩ = some (.slice a l.length c) := by rw [hb1.cell (p := ⟨b, 0, none⟩) hbs]; exact c0
  have c1 : w1.cell? ⟨b, 1, none⟩ = some (.slice a' m.length c') := by rw [hb1.cell (p := ⟨b, 1, none⟩) hbs]; exact c1
  have hlt1 : b < w1.heap.size := World.block_lt_of_cell? _ _ c0
  go_wp2
  refine wp_loop_rounds 3 ?_
  rw [rounds_succ]
  go_wp2_with (at_builtin; refine wpList_append_rows rfl _ _ rfl w.heap.size B [] l v1 (.slice a l.length c) rfl rfl HO1.out (HX.out.below hb1 hB).src (by simp; omega) hb1.size hB ?_)
  intro v2 w2 ho2 hbb2 hsz2 hk2
  have HO2 := Lib.hid ho2
  have hb12 : Below w.heap.size w w2 := hb1.trans hbb2
  have e1 : w2.cell? ⟨b, 1, none⟩ = some (.slice a' m.length c') := by rw [World.cell?_of_block (w := w1) (w' := w2) (a := ⟨b, 1, none⟩) (hk2 b hlt1 hne)]; exact c1
  have HSZ2 := Lib.hid hb12.size
  have HB12 := Lib.hid hb12
  clear ho2 hbb2 hk2 hsz2 hb12
  go_wp2
  rw [rounds_succ]
  go_wp2_with (at_builtin; refine wpList_append_rows rfl _ _ rfl w.heap.size B l m v2 (.slice a' m.length c') rfl rfl HO2.out (HY.out.below HB12.out hB).src hn HSZ2.out hB ?_)
  intro v3 w3 ho3 hbb3 hsz3 _
  have HO3 := Lib.hid ho3
  have HB13 := Lib.hid (HB12.out.trans hbb3)
  clear ho3 hbb3 hsz3
  go_wp2
  rw [rounds_succ]
  go_wp2
  go_ret
  exact ⟨⟨_, rfl, HO3.out.rep (Nat.le_trans hB HB13.out.size)⟩, HB13.out⟩
end Go.Proofs.YtiamojpeedllbaaGreatDoor.Dat
