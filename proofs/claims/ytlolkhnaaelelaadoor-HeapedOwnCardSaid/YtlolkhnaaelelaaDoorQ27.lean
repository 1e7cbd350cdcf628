/-
The document's SameThing, of two things of one kind and the same parts. No condition but that they lie in memory.
-/
import Derived.Test.YtlolkhnaaelelaaDoorQ25
namespace Go.Proofs.YtlolkhnaaelelaaDoor.Hp
open Go.ChangeShapes Go.WideShapes Go.ChangeAt Go.RowKit Go.Deep
open Dat (PT ok64 RepV RepS RowX infoDatum NewV NewS makeT make_any MakeOk numT numsT)
set_option maxRecDepth 100000

set_option maxHeartbeats 1000000 in
theorem sameThing_any (kd : Int) (l : List PV) (v v' : Value) (S S' : Nat → Prop) (w : World) (h : InP w S l v) (h' : InP w S' l v') :
    Calls Tryd.prog 15 #[.agg #[.int .i64 kd, v], .agg #[.int .i64 kd, v']] w fun e w' => e = .returned (.bool true) ∧ Below w.heap.size w w' := by
  have HP := Lib.hid h
  have HP' := Lib.hid h'
  obtain ⟨a, c, rfl, h1, h2, _, _⟩ := h
  obtain ⟨a', c', rfl, h1', h2', _, _⟩ := h'
  unfold maxLen at h2 h2'
  have Za := heap_alloc_new w (.cells #[.int .i64 kd, .slice a l.length c] 43)
  have Ba := (Below.refl w.heap.size w).alloc (Nat.le_refl _) (.cells #[.int .i64 kd, .slice a l.length c] 43)
  have hsa := size_new w (.cells #[.int .i64 kd, .slice a l.length c] 43)
  have Zb := heap_alloc_new (w.alloc (.cells #[.int .i64 kd, .slice a l.length c] 43)) (.cells #[.int .i64 kd, .slice a' l.length c'] 43)
  have Za1 := Lib.hid (blk_skip' (o := .cells #[.int .i64 kd, .slice a' l.length c'] 43) Za)
  have B0 := Lib.hid (Ba.alloc (by omega) (.cells #[.int .i64 kd, .slice a' l.length c'] 43))
  have hs0 := size_new (w.alloc (.cells #[.int .i64 kd, .slice a l.length c] 43)) (.cells #[.int .i64 kd, .slice a' l.length c'] 43)
  rw [hsa] at hs0 Zb
  have Z0 := Lib.hid Zb
  clear Za Ba Zb hsa
  go_enter Tryd.func15, Tryd.ntmps15
  go_wp2
  generalize (w.alloc (.cells #[.int .i64 kd, .slice a l.length c] 43)).alloc (.cells #[.int .i64 kd, .slice a' l.length c'] 43) = w0 at *
  go_loopw [5] (fun x wr => ∃ j : Nat, j ≤ l.length ∧ x = .int .i64 j ∧ Below w0.heap.size w0 wr) (fun x _ => l.length - (intOf x).toNat)
  case atStart => exact ⟨0, Nat.zero_le _, rfl, Below.refl _ _⟩
  case round =>
    obtain ⟨j, hj, rfl, hbr⟩ := hrel
    have HBR := Lib.hid hbr
    have B3 := Lib.hid (B0.out.trans (hbr.mono B0.out.size))
    obtain ⟨⟨x0, x1⟩, -⟩ := look2 ((hbr.block w.heap.size (by omega)).trans Za1.out)
    obtain ⟨⟨y0, y1⟩, -⟩ := look2 ((hbr.block (w.heap.size + 1) (by omega)).trans Z0.out)
    clear hbr
    by_cases hlt : j < l.length
    · obtain ⟨b, o, c2, ea, hs, hbl, hv⟩ := HP.out.cells (by rintro rfl; cases hlt)
      cases ea
      obtain ⟨c0, c1, c2, ok⟩ := hv.item j hlt
      obtain ⟨b', o', c2', ea', hs', hbl', hv'⟩ := HP'.out.cells (by rintro rfl; cases hlt)
      cases ea'
      obtain ⟨d0, d1, d2, _⟩ := hv'.item j hlt
      replace c0 := (B3.out.cell (p := ⟨b, o + j * 3, none⟩) hbl).trans c0
      replace c1 := (B3.out.cell (p := ⟨b, o + j * 3 + 1, none⟩) hbl).trans c1
      replace c2 := (B3.out.cell (p := ⟨b, o + j * 3 + 2, none⟩) hbl).trans c2
      replace d0 := (B3.out.cell (p := ⟨b', o' + j * 3, none⟩) hbl').trans d0
      replace d1 := (B3.out.cell (p := ⟨b', o' + j * 3 + 1, none⟩) hbl').trans d1
      replace d2 := (B3.out.cell (p := ⟨b', o' + j * 3 + 2, none⟩) hbl').trans d2
      generalize l[j] = t at c0 c1 c2 d0 d1 d2
      have hi1 : (j : Int) < (l.length : Int) := by omega
      clear hv hv' ok
      go_wp2
      go_quiet (fail)
      go_wp2
      exact ⟨⟨j + 1, by omega, by go_num, Dat.below_drewN HBR.out _⟩, by simp [intOf]; omega⟩
    · go_wp2
      go_ret
      exact ⟨rfl, B3.out⟩
end Go.Proofs.YtlolkhnaaelelaaDoor.Hp
