/-
The law DatumChecks of layer 2: its walk. Where the table of tens is as the program lays it.
-/
import Derived.Test.YtphgcdmjnmopiaaDoorD12
import Derived.Test.YtphgcdmjnmopiaaDoorD20
import Derived.Deep.RegionWith
namespace Go.Proofs.YtphgcdmjnmopiaaDoor
open Go.ChangeShapes Go.WideShapes Go.ChangeAt Go.RowKit

/-- The world W has come of w, and the datum in the first new block is as it was. -/
def St (w : World) (cs : Array Value) (W : World) : Prop := Below w.heap.size w W ∧ W.heap[w.heap.size]? = some (.cells cs 24 (0, 0))
theorem St.first (w : World) (cs : Array Value) : St w cs (w.alloc (.cells cs 24)) := ⟨(Below.refl _ _).alloc (Nat.le_refl _) _, heap_alloc_new w _⟩
theorem St.next {w W W' : World} {cs : Array Value} (h : St w cs W) (hb : Below W.heap.size W W') : St w cs W' :=
  ⟨h.1.trans (hb.mono (Nat.le_of_lt (lt_of_block h.2))), (hb.block _ (lt_of_block h.2)).trans h.2⟩
theorem St.drew {w W : World} {cs : Array Value} (h : St w cs W) : St w cs W.drew := ⟨h.1.drew, h.2⟩
theorem St.cell {w W : World} {cs : Array Value} (h : St w cs W) (j : Nat) (v : Value) (hv : cs[j]? = some v) : W.cell? ⟨w.heap.size, j, none⟩ = some v := by
  rw [Lib.cell_of_heap h.2]; exact hv
theorem St.lt {w W : World} {cs : Array Value} (h : St w cs W) : w.heap.size < W.heap.size := lt_of_block h.2

set_option maxHeartbeats 4000000 in
theorem checks_walk (k i : Int) (s : ByteArray) (v : Value) (l : List PT) (t : ByteArray) (w : World) (hv : RepV w w.heap.size (.mk k i s l) v) (ht : t.size ≤ maxLen) (h2 : 2 ≤ w.heap.size) (htab : TabOk w) :
    Calls Tryd.prog 3 #[.agg #[.int .i64 k, .int .i64 i, .string s, v], .string t] w fun e w' => e = .returned (.bool true) ∧ Below w.heap.size w w' := by
  obtain ⟨a, c, e, _⟩ := hv.2.2.2
  subst e
  have s0 := (St.first w #[.int .i64 k, .int .i64 i, .string s, .slice a l.length c])
  have C9 := Lib.hid (fun W (h : St w #[.int .i64 k, .int .i64 i, .string s, .slice a l.length c] W) => fixed_any W (Nat.le_trans h2 (Nat.le_of_lt h.lt)) (tabOk_below htab h.1 h2))
  have D10 := fun W (h : St w #[.int .i64 k, .int .i64 i, .string s, .slice a l.length c] W) => check_any (.mk k i s l) (.slice a l.length c) W w.heap.size ⟨hv.1, hv.2.1, hv.2.2.1, hv.2.2.2.below h.1 (Nat.le_refl _)⟩ (Nat.le_of_lt h.lt)
  have D11 := fun W (h : St w #[.int .i64 k, .int .i64 i, .string s, .slice a l.length c] W) => rcheck_any (.mk k i s l) (.slice a l.length c) W w.heap.size ⟨hv.1, hv.2.1, hv.2.2.1, hv.2.2.2.below h.1 (Nat.le_refl _)⟩ (Nat.le_of_lt h.lt)
  have D12 := fun W => name_any t W ht
  have D13 := fun W => rname_any t W ht
  generalize checkB (.mk k i s l) = r at D10 D11
  generalize nameB t.data.toList = q at D12 D13
  have C10 := Lib.hid D10
  have C11 := Lib.hid D11
  have C12 := Lib.hid D12
  have C13 := Lib.hid D13
  have c0 := s0.cell 0 _ rfl
  have c1 := s0.cell 1 _ rfl
  have c2 := s0.cell 2 _ rfl
  have c3 := s0.cell 3 _ rfl
  simp at c0 c1 c2 c3
  clear hv D10 D11 D12 D13 htab
  go_enter Tryd.func3, Tryd.ntmps3
  go_wp2
  generalize w.alloc (.cells #[.int .i64 k, .int .i64 i, .string s, .slice a l.length c] 24) = W0 at s0 c0 c1 c2 c3 ⊢
  have s0' := s0.drew
  clear s0
  go_region_with (first
    | (go_at_call 9; refine (C9.out _ (by assumption)).mono ?_; rintro e w1 ⟨rfl, hb1⟩; have s1 := St.next (by assumption) hb1; have c0 := s1.cell 0 _ rfl; have c1 := s1.cell 1 _ rfl; have c2 := s1.cell 2 _ rfl; have c3 := s1.cell 3 _ rfl; simp at c0 c1 c2 c3)
    | (go_at_call 10; refine (C10.out _ (by assumption)).mono ?_; rintro e w1 ⟨rfl, hb1⟩; have s1 := St.next (by assumption) hb1; have c0 := s1.cell 0 _ rfl; have c1 := s1.cell 1 _ rfl; have c2 := s1.cell 2 _ rfl; have c3 := s1.cell 3 _ rfl; simp at c0 c1 c2 c3)
    | (go_at_call 11; refine (C11.out _ (by assumption)).mono ?_; rintro e w1 ⟨rfl, hb1⟩; have s1 := St.next (by assumption) hb1; have c0 := s1.cell 0 _ rfl; have c1 := s1.cell 1 _ rfl; have c2 := s1.cell 2 _ rfl; have c3 := s1.cell 3 _ rfl; simp at c0 c1 c2 c3)
    | (go_at_call 12; refine (C12.out _).mono ?_; rintro e w1 ⟨rfl, rfl⟩)
    | (go_at_call 13; refine (C13.out _).mono ?_; rintro e w1 ⟨rfl, rfl⟩))
  all_goals
    go_wp2
    go_ret
    exact ⟨rfl, (by assumption : St w #[.int .i64 k, .int .i64 i, .string s, .slice a l.length c] _).1⟩
end Go.Proofs.YtphgcdmjnmopiaaDoor
