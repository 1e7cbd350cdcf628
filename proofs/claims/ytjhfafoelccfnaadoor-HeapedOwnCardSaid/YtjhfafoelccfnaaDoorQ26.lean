/-
Package heap's Thing, of a value that tells of one. No condition but that the heap lies in memory.
-/
import Derived.Test.YtjhfafoelccfnaaDoorQ25
import Derived.Deep.RegionWith
namespace Go.Proofs.YtjhfafoelccfnaaDoor.Hp
open Go.ChangeShapes Go.WideShapes Go.ChangeAt Go.RowKit Go.Deep
open Dat (PT ok64 RepV RepS RowX infoDatum NewV NewS makeT make_any MakeOk numT numsT)
set_option maxRecDepth 100000

theorem res_tb {fn : Func} {t p : Tmp} (h : fn.results = #[.cell p 43, .tmp t]) (tmps : Array Value) (w : World) (g : Nat) (a b : Value)
    (hp : tmps.getD p undef = .pointer (some ⟨g, 0, none⟩)) (hg : w.heap[g]? = some (.cells #[a, b] 43 (0, 0))) : (results fn tmps).run Tryd.prog w = .ok (.tuple #[.agg #[a, b], tmps.getD t undef]) w := by
  have hp' : tmps[p]?.getD undef = .pointer (some ⟨g, 0, none⟩) := by simpa using hp
  have hi : (Tryd.prog.info? 43).map (·.size) = some (#[a, b] : Array Value).size := by kernel_rfl
  simp [results, h, hp', asAddr, run_loadVar_row w g 43 43 #[a, b] (0, 0) _ hg Tryd.underlying43 rfl hi]
theorem put2 {W : World} {g : Nat} {t : TypeId} {x0 x1 : Value} (hb : W.heap[g]? = some (.cells #[x0, x1] t (0, 0))) (y0 y1 : Value) :
    ((W.setCell ⟨g, 0, none⟩ y0).setCell ⟨g, 1, none⟩ y1).heap[g]? = some (.cells #[y0, y1] t (0, 0)) :=
  heap_setCell_same _ g 1 _ t y1 (heap_setCell_same W g 0 _ t y0 hb)
theorem put2_below {C : Nat} {a W : World} (h : Below C a W) {g : Nat} (hg : C ≤ g) (y0 y1 : Value) : Below C a ((W.setCell ⟨g, 0, none⟩ y0).setCell ⟨g, 1, none⟩ y1) :=
  (h.setCell (p := ⟨g, 0, none⟩) hg _).setCell (p := ⟨g, 1, none⟩) hg _
theorem put2_other {W : World} {g : Nat} (y0 y1 : Value) {b : Nat} (h : b ≠ g) : ((W.setCell ⟨g, 0, none⟩ y0).setCell ⟨g, 1, none⟩ y1).heap[b]? = W.heap[b]? :=
  (Below.heap_setCell _ _ _ _ h).trans (Below.heap_setCell _ _ _ _ h)
/-- What Thing answers of one that is. -/
def ThingOk (w : World) (kd : Int) (l : List PV) (e : Ending) (w' : World) : Prop :=
  (∃ pv g, e = .returned (.tuple #[.agg #[.int .i64 kd, pv], .bool true]) ∧ PartsM w' l g pv ∧ (l ≠ [] → w.heap.size ≤ g ∧ g < w'.heap.size)) ∧ Below w.heap.size w w'
set_option maxHeartbeats 1000000 in
theorem thing_any (i : Int) (s : ByteArray) (kd : Int) (l : List PV) (hb : Nat) (T : List (Int × List PV)) (F : Nat → Prop) (w : World) (h : HeapM w hb T F) (hF : ∀ b, F b → b < w.heap.size) (hs : s.size ≤ maxLen) (h1 : hasB T.length ⟨8, i, s⟩ = true) (hi : 0 ≤ i)
    (hT : T[i.toNat]? = some (kd, l)) (hl : l.length ≤ 1000000) :
    Calls Tryd.prog 17 #[.pointer (some ⟨hb, 0, none⟩), .agg #[.int .i64 8, .int .i64 i, .string s]] w fun e w' => ThingOk w kd l e w' := by
  obtain ⟨hj, hTe⟩ := List.getElem?_eq_some_iff.1 hT
  have Za := heap_alloc_new w (.cells #[.int .i64 8, .int .i64 i, .string s] 36)
  have Ba := (Below.refl w.heap.size w).alloc (Nat.le_refl _) (.cells #[.int .i64 8, .int .i64 i, .string s] 36)
  have hsa := size_new w (.cells #[.int .i64 8, .int .i64 i, .string s] 36)
  have Zb := heap_alloc_new (w.alloc (.cells #[.int .i64 8, .int .i64 i, .string s] 36)) (.cells #[.int .i64 0, .slice none 0 0] 43)
  have Za1 := Lib.hid (blk_skip' (o := .cells #[.int .i64 0, .slice none 0 0] 43) Za)
  have B0 := Lib.hid (Ba.alloc (by omega) (.cells #[.int .i64 0, .slice none 0 0] 43))
  have hs0 := size_new (w.alloc (.cells #[.int .i64 8, .int .i64 i, .string s] 36)) (.cells #[.int .i64 0, .slice none 0 0] 43)
  rw [hsa] at hs0 Zb
  have Z0 := Lib.hid Zb
  have HH := Lib.hid h
  have HF := Lib.hid hF
  have KH0 := has_any 8 i s hb T.length _ hs (LenM.below h.len B0.out)
  rw [h1] at KH0
  have KH := Lib.hid KH0
  clear Za Ba Zb hsa h hF KH0 h1 hT
  go_enter Tryd.func17, Tryd.ntmps17
  go_wp2_with fail
  generalize (w.alloc (.cells #[.int .i64 8, .int .i64 i, .string s] 36)).alloc (.cells #[.int .i64 0, .slice none 0 0] 43) = w0 at *
  refine KH.out.mono ?_
  rintro e w1 ⟨rfl, hb1⟩
  have B1 := Lib.hid (B0.out.trans (hb1.mono B0.out.size))
  have Zv := Lib.hid ((hb1.block w.heap.size (by omega)).trans Za1.out)
  have Zr := Lib.hid ((hb1.block (w.heap.size + 1) (by omega)).trans Z0.out)
  have hs1 : w.heap.size + 2 ≤ w1.heap.size := by have := hb1.size; omega
  obtain ⟨tb, cap, g, pv, c0, c1, c2, t0, t1, ok1, hp, htb, hg⟩ := (HH.out.below B1.out).thing i.toNat hj
  rw [hTe] at t0 ok1 hp hg
  simp only [] at t0 ok1 hp hg
  obtain ⟨pa, pc, rfl, hpl, hpm⟩ := hp.slice
  have HPP := Lib.hid hp
  obtain ⟨⟨y0, y1, y2⟩, -⟩ := look3 Zv.out
  have hiT : i < (T.length : Int) := by omega
  have htb1 : tb < w1.heap.size := World.block_lt_of_cell? _ _ t0
  have hv1 : w.heap.size < w1.heap.size := by omega
  have hbl : hb < w1.heap.size := World.block_lt_of_cell? _ _ c0
  unfold maxLen at c2 hpm
  clear hp hb1 hg KH hTe
  go_wp2
  go_region
  go_wp2
  have Zt : Hid ((w1.alloc (.cells #[.int .i64 kd, .slice pa l.length pc] 43)).drew.heap[w1.heap.size]? = some (.cells #[.int .i64 kd, .slice pa l.length pc] 43 (0, 0))) := Lib.hid (heap_alloc_new w1 _)
  have A2 : Below w1.heap.size w1 (w1.alloc (.cells #[.int .i64 kd, .slice pa l.length pc] 43)).drew := ((Below.refl w1.heap.size w1).alloc (Nat.le_refl _) _).drew
  have B2 := Lib.hid (B1.out.trans (A2.mono B1.out.size))
  have Zr2 := Lib.hid ((A2.block (w.heap.size + 1) (by omega)).trans Zr.out)
  have P2 : PartsM (w1.alloc (.cells #[.int .i64 kd, .slice pa l.length pc] 43)).drew l g (.slice pa l.length pc) := HPP.out.move fun h0 => A2.block g ((HPP.out.at h0).lt h0)
  have hs2 : w1.heap.size + 1 ≤ (w1.alloc (.cells #[.int .i64 kd, .slice pa l.length pc] 43)).drew.heap.size := Nat.le_of_eq (size_new _ _).symm
  clear A2 c0 c1 c2 t0 t1 y0 y1 y2 Za1 Z0 Zv Zr B0 B1 HPP
  generalize hw2 : (w1.alloc (.cells #[.int .i64 kd, .slice pa l.length pc] 43)).drew = w2 at *
  clear hw2
  generalize w1.heap.size = bt at *
  have KC := Lib.hid (clone_any l _ _ w2.drew (P2.move (w' := w2.drew) (fun _ => rfl)).inP hl)
  have Zt2 : Hid (w2.drew.heap[bt]? = some (.cells #[.int .i64 kd, .slice pa l.length pc] 43 (0, 0))) := Lib.hid Zt.out
  have Zr3 : Hid (w2.drew.heap[w.heap.size + 1]? = some (.cells #[.int .i64 0, .slice none 0 0] 43 (0, 0))) := Lib.hid Zr2.out
  have B3 : Hid (Below w.heap.size w w2.drew) := Lib.hid B2.out.drew
  obtain ⟨⟨x0, x1⟩, -⟩ := look2 Zt.out
  have hs3 : bt + 1 ≤ w2.drew.heap.size := hs2
  clear P2 Zt Zr2 B2
  go_region_with
    (go_at_call 30
     refine KC.out.mono ?_
     rintro e w3 ⟨⟨pv, g', rfl, hp, hg⟩, hb3⟩
     have hz3 := hb3.size
     have E3 := (hb3.block (w.heap.size + 1) (by omega)).trans Zr3.out
     have B4 := Lib.hid (B3.out.trans (hb3.mono B3.out.size))
     obtain ⟨⟨z0, z1⟩, -⟩ := look2 ((hb3.block bt (by omega)).trans Zt2.out)
     obtain ⟨⟨q0, q1⟩, f0, f1⟩ := look2 E3
     have HE3 := Lib.hid E3
     have HP3 := Lib.hid hp
     have HG3 := Lib.hid hg
     obtain ⟨ra, rc, rfl, _, _⟩ := hp.slice
     clear hp hg hb3 E3)
  all_goals
    go_wp2
    refine bodyPost_ret (res_tb (t := 5) (p := 4) rfl _ _ (w.heap.size + 1) _ _ rfl (put2 HE3.out _ _)) rfl ⟨⟨_, g', rfl, HP3.out.move (fun h0 => put2_other _ _ (by have := (HG3.out h0).1; omega)), fun h0 => ?_⟩, put2_below B4.out (Nat.le_succ _) _ _⟩
    rw [size_put, size_put]
    have := HG3.out h0
    have := B3.out.size
    exact ⟨by omega, by omega⟩
end Go.Proofs.YtjhfafoelccfnaaDoor.Hp
