/-
Package heap's Thing, of a value that tells of one. No condition but that the heap lies in memory.
-/
import Derived.Test.YtlolkhnaaelelaaDoorQGj
import Derived.Test.YtlolkhnaaelelaaDoorQ50
import Derived.Test.YtlolkhnaaelelaaDoorRT
import Derived.Deep.RegionWith
namespace Go.Proofs.YtlolkhnaaelelaaDoor.Hp
open Go.ChangeShapes Go.WideShapes Go.ChangeAt Go.RowKit Go.Deep
open Dat (PT ok64 RepV RepS RowX infoDatum NewV NewS makeT make_any MakeOk numT numsT)
set_option maxRecDepth 100000

theorem res_tb {fn : Func} {t p : Tmp} (h : fn.results = #[.cell p 43, .tmp t]) (tmps : Array Value) (w : World) (g : Nat) (a b : Value)
    (hp : tmps.getD p undef = .pointer (some ⟨g, 0, none⟩)) (hg : w.heap[g]? = some (.cells #[a, b] 43 (0, 0))) : (results fn tmps).run Tryd.prog w = .ok (.tuple #[.agg #[a, b], tmps.getD t undef]) w := by
  have hp' : tmps[p]?.getD undef = .pointer (some ⟨g, 0, none⟩) := by simpa using hp
  have hi : (Tryd.prog.info? 43).map (·.size) = some (#[a, b] : Array Value).size := by kernel_rfl
  simp [results, h, hp', asAddr, run_loadVar_row w g 43 43 #[a, b] (0, 0) _ hg Tryd.underlying43 rfl hi]
theorem put2 {W : World} {g : Nat} {t : TypeId} {x0 x1 : Value} (hb : W.heap[g]? = some (.cells #[x0, x1] t (0, 0))) (y0 y1 : Value) :
    ((W.setCell ⟨g, 0, none⟩ y0).setCell ⟨g, 1, none⟩ y1).heap[g]? = some (.cells #[y0, y1] t (0, 0)) :=
  heap_setCell_same _ g 1 _ t y1 (heap_setCell_same W g 0 _ t y0 hb)
theorem put2_below {C : Nat} {a W : World} (h : Below C a W) {g : Nat} (hg : C ≤ g) (y0 y1 : Value) : Below C a ((W.setCell ⟨g, 0, none⟩ y0).setCell ⟨g, 1, none⟩ y1) :=
  (h.setCell (p := ⟨g, 0, none⟩) hg _).setCell (p := ⟨g, 1, none⟩) hg _
theorem put2_other {W : World} {g : Nat} (y0 y1 : Value) {b : Nat} (h : b ≠ g) : ((W.setCell ⟨g, 0, none⟩ y0).setCell ⟨g, 1, none⟩ y1).heap[b]? = W.heap[b]? :=
  (Below.heap_setCell _ _ _ _ h).trans (Below.heap_setCell _ _ _ _ h)
/-- What Thing answers of one that is. -/
def ThingOk (w : World) (kd : Int) (l : List PV) (e : Ending) (w' : World) : Prop :=
  (∃ pv g, e = .returned (.tuple #[.agg #[.int .i64 kd, pv], .bool true]) ∧ PartsM w' l g pv ∧ (l ≠ [] → w.heap.size ≤ g ∧ g < w'.heap.size)) ∧ Below w.heap.size w w'
/-- What each operation of the last statement has. -/
def RTh (bt C : Nat) (kd : Int) (l : List PV) : Nat → Value → World → Prop
  | 0, v, _ => v = .pointer (some ⟨bt, 0, none⟩)
  | 1, v, _ => v = .int .i64 kd
  | 2, v, W => ∃ g, v = .func (.func 62) #[] #[.pointer (some ⟨g, 0, none⟩)] ∧ W.cell? ⟨g, 0, none⟩ = some (.pointer (some ⟨bt, 0, none⟩))
  | 3, v, W => ∃ a c g, v = .slice a l.length c ∧ PartsM W l g v ∧ (l ≠ [] → C + 2 ≤ g ∧ g < W.heap.size)
  | _, _, _ => True
theorem RTh.mono {bt C : Nat} {kd : Int} {l : List PV} : ∀ (i : Nat) (v : Value) (W W' : World), RTh bt C kd l i v W → Below W.heap.size W W' → RTh bt C kd l i v W' := by
  intro i v W W' h hb
  match i, h with
  | 0, h => exact h
  | 1, h => exact h
  | 2, ⟨g, e, h⟩ => exact ⟨g, e, (hb.cell (p := ⟨g, 0, none⟩) (World.block_lt_of_cell? _ _ h)).trans h⟩
  | 3, ⟨a, c, g, e, h, hg⟩ => exact ⟨a, c, g, e, h.move fun h0 => hb.block g (hg h0).2, fun h0 => ⟨(hg h0).1, Nat.lt_of_lt_of_le (hg h0).2 hb.size⟩⟩
  | n + 4, _ => exact trivial
set_option maxHeartbeats 1000000 in
theorem thing_any (i : Int) (s : ByteArray) (kd : Int) (l : List PV) (hb : Nat) (T : List (Int × List PV)) (F : Nat → Prop) (w : World) (h : HeapM w hb T F) (_hF : ∀ b, F b → b < w.heap.size) (hs : s.size ≤ maxLen) (h1 : hasB T.length ⟨8, i, s⟩ = true) (hi : 0 ≤ i)
    (hT : T[i.toNat]? = some (kd, l)) (hl : l.length ≤ 1000000) :
    Calls Tryd.prog 14 #[.pointer (some ⟨hb, 0, none⟩), .agg #[.int .i64 8, .int .i64 i, .string s]] w fun e w' => ThingOk w kd l e w' := by
  obtain ⟨hj, hTe⟩ := List.getElem?_eq_some_iff.1 hT
  have Za := heap_alloc_new w (.cells #[.int .i64 8, .int .i64 i, .string s] 36)
  have Ba := (Below.refl w.heap.size w).alloc (Nat.le_refl _) (.cells #[.int .i64 8, .int .i64 i, .string s] 36)
  have hsa := size_new w (.cells #[.int .i64 8, .int .i64 i, .string s] 36)
  have Zb := heap_alloc_new (w.alloc (.cells #[.int .i64 8, .int .i64 i, .string s] 36)) (.cells #[.int .i64 0, .slice none 0 0] 43)
  have Za1 := Lib.hid (blk_skip' (o := .cells #[.int .i64 0, .slice none 0 0] 43) Za)
  have B0 := Lib.hid (Ba.alloc (by omega) (.cells #[.int .i64 0, .slice none 0 0] 43))
  have hs0 := size_new (w.alloc (.cells #[.int .i64 8, .int .i64 i, .string s] 36)) (.cells #[.int .i64 0, .slice none 0 0] 43)
  rw [hsa] at hs0 Zb
  have Z0 := Lib.hid Zb
  have HH := Lib.hid h
  have KH0 := has_any 8 i s hb T.length _ hs (LenM.below h.len B0.out)
  rw [h1] at KH0
  have KH := Lib.hid KH0
  clear Za Ba Zb hsa h KH0 h1 hT
  go_enter Tryd.func14, Tryd.ntmps14
  go_wp2_with fail
  generalize (w.alloc (.cells #[.int .i64 8, .int .i64 i, .string s] 36)).alloc (.cells #[.int .i64 0, .slice none 0 0] 43) = w0 at *
  refine KH.out.mono ?_
  rintro e w1 ⟨rfl, hb1⟩
  have B1 := Lib.hid (B0.out.trans (hb1.mono B0.out.size))
  have Zv := Lib.hid ((hb1.block w.heap.size (by omega)).trans Za1.out)
  have Zr := Lib.hid ((hb1.block (w.heap.size + 1) (by omega)).trans Z0.out)
  have hs1 : w.heap.size + 2 ≤ w1.heap.size := by have := hb1.size; omega
  obtain ⟨tb, cap, sa, sn, sc, mo, c0, c1, c2, t0, t1, t2, t3, ok1, hp, hok⟩ := (HH.out.below B1.out).piece i.toNat hj
  have HPP := Lib.hid hp
  have HOK := Lib.hid hok
  rw [hTe] at t0 t1 HPP HOK ok1
  simp only [] at t0 t1 HPP HOK ok1
  obtain ⟨⟨y0, y1, y2⟩, -⟩ := look3 Zv.out
  have hiT : i < (T.length : Int) := by omega
  have htb1 : tb < w1.heap.size := World.block_lt_of_cell? _ _ t0
  have hv1 : w.heap.size < w1.heap.size := by omega
  have hbl : hb < w1.heap.size := World.block_lt_of_cell? _ _ c0
  unfold maxLen at c2
  clear hp hok hb1 KH hTe
  go_wp2
  go_region
  go_wp2
  have hE : Hid (∃ W, W = (w1.alloc (.cells #[.int .i64 kd, .int .i64 (l.length : Int), .slice sa sn sc, .map mo] 83)).drew) := Lib.hid ⟨_, rfl⟩
  have Zt : Hid ((w1.alloc (.cells #[.int .i64 kd, .int .i64 (l.length : Int), .slice sa sn sc, .map mo] 83)).drew.heap[w1.heap.size]? = some (.cells #[.int .i64 kd, .int .i64 (l.length : Int), .slice sa sn sc, .map mo] 83 (0, 0))) := Lib.hid (heap_alloc_new w1 _)
  have A2 : Below w1.heap.size w1 (w1.alloc (.cells #[.int .i64 kd, .int .i64 (l.length : Int), .slice sa sn sc, .map mo] 83)).drew := ((Below.refl w1.heap.size w1).alloc (Nat.le_refl _) _).drew
  have B2 := Lib.hid (B1.out.trans (A2.mono B1.out.size))
  have Zr2 := Lib.hid ((A2.block (w.heap.size + 1) (by omega)).trans Zr.out)
  have hs2 : w1.heap.size + 1 ≤ (w1.alloc (.cells #[.int .i64 kd, .int .i64 (l.length : Int), .slice sa sn sc, .map mo] 83)).drew.heap.size := Nat.le_of_eq (size_new _ _).symm
  have P2 : PieceC (w1.alloc (.cells #[.int .i64 kd, .int .i64 (l.length : Int), .slice sa sn sc, .map mo] 83)).drew w1.heap.size 0 l := by
    obtain ⟨-, x1, x2, x3⟩ := (look4 Zt.out).1
    exact (HPP.out.below A2).copy (x1.trans ((A2.cell (p := ⟨tb, i.toNat * 4 + 1, none⟩) htb1).trans t1).symm) (x2.trans ((A2.cell (p := ⟨tb, i.toNat * 4 + 2, none⟩) htb1).trans t2).symm) (x3.trans ((A2.cell (p := ⟨tb, i.toNat * 4 + 3, none⟩) htb1).trans t3).symm)
  clear A2 c0 c1 c2 t0 t1 t2 t3 y0 y1 y2 Za1 Z0 Zv Zr B0 B1 HPP hE
  generalize hw2 : (w1.alloc (.cells #[.int .i64 kd, .int .i64 (l.length : Int), .slice sa sn sc, .map mo] 83)).drew = w2 at *
  clear hw2
  generalize w1.heap.size = bt at *
  have HP2 := Lib.hid P2
  have hCw : w.heap.size + 2 ≤ w2.heap.size := by omega
  have hbt : bt < w2.heap.size := by omega
  clear P2
  refine Rg.wp_region_tail 4 (by kernel_rfl) w2.heap.size (Nat.le_refl _) (RTh bt w.heap.size kd l) RTh.mono (by kernel_rfl) ?_ ?_
  · intro i o d hi4 hi hd vs W hb hR
    have HR := Lib.hid hR
    have HB := Lib.hid hb
    have hCW : w.heap.size + 2 ≤ W.heap.size := Nat.le_trans hCw hb.size
    clear hR hb
    rcases i with _ | _ | _ | _ | i
    case succ.succ.succ.succ => omega
    all_goals simp only [List.getElem?_cons_zero, List.getElem?_cons_succ, Option.some.injEq, Nat.reduceAdd] at hi
    all_goals subst hi
    all_goals simp only [Option.some.injEq] at hd
    all_goals subst hd
    all_goals simp only [Rg.putAll, Act.put, List.setIfInBounds_toArray, List.set_cons_zero, List.set_cons_succ, Nat.zero_add, Nat.reduceAdd, List.take_succ_cons, List.take_zero]
    · go_simp
      exact ⟨_, rfl, rfl, Below.refl _ _⟩
    · have e0 := (HR.out 0 (by decide) (by kernel_rfl) : RTh bt w.heap.size kd l 0 (vs 0) W)
      rw [show vs 0 = _ from e0]
      obtain ⟨⟨x0, -, -, -⟩, -⟩ := look4 ((HB.out.block bt hbt).trans Zt.out)
      go_simp
      exact ⟨_, rfl, rfl, Below.refl _ _⟩
    · go_simp
      refine (parts_any _ _).mono ?_
      rintro e w5 ⟨rfl, rfl⟩
      exact ⟨_, rfl, ⟨_, rfl, by rw [Lib.cell_of_heap (heap_alloc_new W _)]; rfl⟩, (Below.refl _ _).alloc (Nat.le_refl _) _⟩
    · obtain ⟨g, e2, h2⟩ := (HR.out 2 (by decide) (by kernel_rfl) : RTh bt w.heap.size kd l 2 (vs 2) W)
      rw [show vs 2 = _ from e2]
      go_simp
      refine (collect_parts g bt 0 l hl W h2 (HP2.out.below HB.out) HOK.out).mono ?_
      rintro e w5 ⟨⟨v, g5, rfl, hp5, hg5⟩, hb5⟩
      obtain ⟨a5, c5, rfl, _, _⟩ := hp5.slice
      exact ⟨_, rfl, ⟨a5, c5, g5, rfl, hp5, fun h0 => by have := hg5 h0; omega⟩, hb5⟩
  · intro vs W hb hR
    have e1 := (hR 1 (by decide) : RTh bt w.heap.size kd l 1 (vs 1) W)
    obtain ⟨a3, c3, g3, e3, hp3, hg3⟩ := (hR 3 (by decide) : RTh bt w.heap.size kd l 3 (vs 3) W)
    have HB := Lib.hid (B2.out.trans (hb.mono B2.out.size))
    have HZ := Lib.hid ((hb.block (w.heap.size + 1) (by omega)).trans Zr2.out)
    rw [e3] at hp3
    have HP3 := Lib.hid hp3
    have HG3 := Lib.hid hg3
    simp only [Rg.putAll, Act.put, List.setIfInBounds_toArray, List.set_cons_zero, List.set_cons_succ, Nat.zero_add, Nat.reduceAdd, List.take_succ_cons, List.take_zero, List.drop_succ_cons, List.drop_zero]
    rw [show vs 1 = _ from e1, e3]
    obtain ⟨⟨q0, q1⟩, f0, f1⟩ := look2 HZ.out
    clear hR hb hp3 hg3 e1 e3
    go_wp2
    refine bodyPost_ret (res_tb (t := 5) (p := 4) rfl _ _ (w.heap.size + 1) _ _ rfl (put2 HZ.out _ _)) rfl ⟨⟨_, g3, rfl, HP3.out.move (fun h0 => put2_other _ _ (by have := HG3.out h0; omega)), fun h0 => ?_⟩, put2_below HB.out (Nat.le_succ _) _ _⟩
    rw [size_put, size_put]
    have := HG3.out h0
    exact ⟨by omega, this.2⟩
end Go.Proofs.YtlolkhnaaelelaaDoor.Hp
