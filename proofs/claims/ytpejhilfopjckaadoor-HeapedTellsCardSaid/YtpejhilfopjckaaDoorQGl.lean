/-
Texts QGj, Q26, QGl, one behind the other (a claim bears sixty files). Conditions: as each says.
-/
import Derived.Test.YtpejhilfopjckaaDoorQGg
import Derived.Test.YtpejhilfopjckaaDoorQ50
import Derived.Test.YtpejhilfopjckaaDoorRG
import Derived.Deep.RegionWith
import Derived.Test.YtpejhilfopjckaaDoorQ70
import Derived.Maps.AppendAt
import Derived.BigQuiet

/-
Texts Q25, Q27, one behind the other (a claim bears sixty files). Conditions: as each says.
-/

/-
Package heap's Make of a vector. No condition but that the heap lies in memory.
-/
namespace Go.Proofs.YtpejhilfopjckaaDoor.Hp
open Go.ChangeShapes Go.WideShapes Go.ChangeAt Go.RowKit Go.Deep
open Dat (PT ok64 RepV RepS RowX infoDatum NewV NewS makeT make_any MakeOk numT numsT)
set_option maxRecDepth 100000

end Go.Proofs.YtpejhilfopjckaaDoor.Hp

/-
The document's SameThing, of two things of one kind and the same parts. No condition but that they lie in memory.
-/
namespace Go.Proofs.YtpejhilfopjckaaDoor.Hp
open Go.ChangeShapes Go.WideShapes Go.ChangeAt Go.RowKit Go.Deep
open Dat (PT ok64 RepV RepS RowX infoDatum NewV NewS makeT make_any MakeOk numT numsT)
set_option maxRecDepth 100000

end Go.Proofs.YtpejhilfopjckaaDoor.Hp

/-
Package heap's Thing, of a value that tells of one. No condition but that the heap lies in memory.
-/
namespace Go.Proofs.YtpejhilfopjckaaDoor.Hp
open Go.ChangeShapes Go.WideShapes Go.ChangeAt Go.RowKit Go.Deep
open Dat (PT ok64 RepV RepS RowX infoDatum NewV NewS makeT make_any MakeOk numT numsT)
set_option maxRecDepth 100000

/-- What each operation of the last statement has. -/
def RTh (bt C : Nat) (kd : Int) (l : List PV) : Nat → Value → World → Prop
  | 0, v, _ => v = .pointer (some ⟨bt, 0, none⟩)
  | 1, v, _ => v = .int .i64 kd
  | 2, v, W => ∃ g, v = .func (.func 61) #[] #[.pointer (some ⟨g, 0, none⟩)] ∧ W.cell? ⟨g, 0, none⟩ = some (.pointer (some ⟨bt, 0, none⟩))
  | 3, v, W => ∃ a c g, v = .slice a l.length c ∧ PartsM W l g v ∧ (l ≠ [] → C + 2 ≤ g ∧ g < W.heap.size)
  | _, _, _ => True
theorem RTh.mono {bt C : Nat} {kd : Int} {l : List PV} : ∀ (i : Nat) (v : Value) (W W' : World), RTh bt C kd l i v W → Below W.heap.size W W' → RTh bt C kd l i v W' := by
  intro i v W W' h hb
  match i, h with
  | 0, h => exact h
  | 1, h => exact h
  | 2, ⟨g, e, h⟩ => exact ⟨g, e, (hb.cell (p := ⟨g, 0, none⟩) (World.block_lt_of_cell? _ _ h)).trans h⟩
  | 3, ⟨a, c, g, e, h, hg⟩ => exact ⟨a, c, g, e, h.move fun h0 => hb.block g (hg h0).2, fun h0 => ⟨(hg h0).1, Nat.lt_of_lt_of_le (hg h0).2 hb.size⟩⟩
  | n + 4, _ => exact trivial
end Go.Proofs.YtpejhilfopjckaaDoor.Hp

/-
Texts Q74, Q75, Q77, one behind the other (a claim bears sixty files). Conditions: as each says.
-/

/-
The law's filled: an op's values. No condition but that the rows lie in memory.
-/
namespace Go.Proofs.YtpejhilfopjckaaDoor.Hp
open Go.ChangeShapes Go.WideShapes Go.ChangeAt Go.RowKit Go.Deep
open Dat (PT ok64 RepV RepS RowX infoDatum)
set_option maxRecDepth 100000

theorem PartsM.set {w : World} {l : List PV} {g j : Nat} {v : Value} {u : PV} (h : PartsM w l g v) (hj : j < l.length) (hu : okV u) : PartsM (set3 w g (j * 3) u) (l.set j u) g v := by
  rcases h with h | ⟨h0, ho, cp, cur, e, c1, c2, c3, c4, c5⟩
  · rw [h.1] at hj; cases hj
  · refine .inr ⟨set_ne_nil.2 h0, fun x hx => ?_, cp, _, by rw [List.length_set]; exact e, by rw [List.length_set]; exact c1, c2, set3_same c3, by simpa using c4, ?_⟩
    · rcases List.mem_or_eq_of_mem_set hx with hx | rfl
      · exact ho x hx
      · exact hu
    · simp only [Array.toList_setIfInBounds, List.length_set]
      rw [List.take_set, List.take_set, List.take_set, c5, vCells_set, if_pos hj]
/-- A row of numbers at a slice. -/
def InZ (w : World) (l : List Int) (v : Value) : Prop := ∃ a c, v = .slice a l.length c ∧ l.length ≤ c ∧ c ≤ maxLen ∧ ∀ (j : Nat) (h : j < l.length), ok64 l[j] ∧ ∃ b o, a = some ⟨b, o, none⟩ ∧ b < w.heap.size ∧ w.cell? ⟨b, o + j, none⟩ = some (.int .i64 l[j])
theorem InZ.below {w w' : World} {l : List Int} {v : Value} (h : InZ w l v) (hb : Below w.heap.size w w') : InZ w' l v := by
  obtain ⟨a, c, e, h1, h2, h3⟩ := h
  refine ⟨a, c, e, h1, h2, fun j hj => ?_⟩
  obtain ⟨h4, b, o, e1, h5, h6⟩ := h3 j hj
  exact ⟨h4, b, o, e1, Nat.lt_of_lt_of_le h5 hb.size, (hb.cell (p := ⟨b, o + j, none⟩) h5).trans h6⟩
/-- A row of as many values as n, at a slice of new blocks. -/
def RowV (C n : Nat) (e : Ending) (w : World) : Prop := ∃ l g v, l.length = n ∧ e = .returned v ∧ PartsM w l g v ∧ (l ≠ [] → C ≤ g ∧ g < w.heap.size)
set_option maxHeartbeats 2000000 in
theorem lfilled_any (pr : ByteArray) (kd : Int) (vals told : List PV) (ago : List Int) (vv av tv : Value) (S S' : Nat → Prop) (w : World) (hv : InP w S vals vv) (ht : InP w S' told tv) (ha : InZ w ago av) (hl : vals.length ≤ 4398046511104) :
    Calls Tryd.prog 7 #[.agg #[.string pr, .int .i64 kd, vv, av], tv] w fun e w' => RowV w.heap.size vals.length e w' ∧ Below w.heap.size w w' := by
  have A0 := al w (.cells #[.string pr, .int .i64 kd, vv, av] 34)
  have Z0 := Lib.hid (heap_alloc_new w (.cells #[.string pr, .int .i64 kd, vv, av] 34))
  have hs0 := size_new w (.cells #[.string pr, .int .i64 kd, vv, av] 34)
  have HV := Lib.hid (hv.belowP A0)
  have HT := Lib.hid (ht.belowP A0)
  have HA := Lib.hid (ha.below A0)
  have HOK := Lib.hid (okV_all hv)
  have HOT := Lib.hid (okV_all ht)
  have B0 := Lib.hid A0
  obtain ⟨vva, vvc, rfl, hv1, hv2, -, -⟩ := hv
  obtain ⟨ta, tc, rfl, ht1, ht2, -, -⟩ := ht
  obtain ⟨aa, ac, rfl, ha1, ha2, -⟩ := ha
  unfold maxLen at hv2 ht2 ha2
  clear A0
  go_enter Tryd.func7, Tryd.ntmps7
  go_upto_region 1 with fail
  generalize w.alloc (.cells #[.string pr, .int .i64 kd, .slice vva vals.length vvc, .slice aa ago.length ac] 34) = w2 at *
  have HS0 := Lib.hid hs0
  clear hs0
  have HO : Hid ((w2.alloc (.cells #[] 36)).ownsRow w2.heap.size 36 3 (.slice (some ⟨w2.heap.size, 0, none⟩) 0 0) 0 []) :=
    Lib.hid ⟨rfl, .inr ⟨w2.heap.size, 0, #[], rfl, Nat.le_refl _, heap_alloc_new w2 _, Nat.le_refl _, Nat.zero_le _, rfl, rfl⟩⟩
  have HPW := Lib.hid (HV.out.belowP (al w2 (.cells #[] 36)))
  have hsz : w2.heap.size ≤ (w2.alloc (.cells #[] 36)).heap.size := by rw [size_new]; omega
  have hlt0 : w.heap.size < w2.heap.size := lt_of_block Z0.out
  have x0 : (w2.alloc (.cells #[] 36)).cell? ⟨w.heap.size, 2, none⟩ = some (.slice vva vals.length vvc) := by
    rw [(al w2 (.cells #[] 36)).cell (p := ⟨w.heap.size, 2, none⟩) hlt0, Lib.cell_of_heap Z0.out]; rfl
  go_wp2_with (at_builtin; refine wpList_append_vals rfl _ _ rfl w2.heap.size S vals _ _ rfl rfl HO.out HPW.out hl hsz ?_; intro v1 w3 ho hb3)
  have hs0 := HS0.out
  obtain ⟨g, hp, hg⟩ := parts_of_own ho HOK.out
  have b3 : Below w2.heap.size w2 w3 := (al w2 (.cells #[] 36)).trans hb3
  obtain ⟨ra, rc, rfl, hrl, hrm⟩ := hp.slice
  have HRA : Hid (vals ≠ [] → ra = some ⟨g, 0, none⟩) := Lib.hid (fun h0 => by
    rcases hp with h | ⟨_, _, _, _, e, _⟩
    · exact absurd h.1 h0
    · cases e; rfl)
  have HB3 := Lib.hid b3
  have HG : Hid (vals ≠ [] → w.heap.size + 1 ≤ g ∧ g < w3.heap.size) := Lib.hid (fun h0 => by have := hg h0; omega)
  have HP := Lib.hid hp
  have hs3 : w.heap.size + 1 ≤ w3.heap.size := by have := b3.size; omega
  unfold maxLen at hrm
  clear x0 hlt0 ho hb3 hg hp b3 HO HPW hsz
  go_wp2
  go_loopw [6] (fun x wr => ∃ j : Nat, j ≤ vals.length ∧ x = .int .i64 j ∧ (∃ l, l.length = vals.length ∧ PartsM wr l g (.slice ra vals.length rc)) ∧ Below (w.heap.size + 1) w2 wr ∧ w3.heap.size ≤ wr.heap.size) (fun x _ => vals.length - (intOf x).toNat)
  case atStart => exact ⟨0, Nat.zero_le _, rfl, ⟨vals, rfl, HP.out⟩, HB3.out.mono (by omega), Nat.le_refl _⟩
  case round =>
    obtain ⟨j, hj, rfl, ⟨l, hln, hp⟩, hbr, hsr⟩ := hrel
    have ZR := Lib.hid ((hbr.block w.heap.size (by omega)).trans Z0.out)
    have x1 : wr.cell? ⟨w.heap.size, 3, none⟩ = some (.slice aa ago.length ac) := by rw [Lib.cell_of_heap ZR.out]; rfl
    have BW : Hid (Below w.heap.size w wr) := Lib.hid (B0.out.trans (hbr.mono (by omega)))
    have HPR := Lib.hid hp
    have HBR := Lib.hid hbr
    clear hp hbr
    by_cases hlt : j < vals.length
    · have hi1 : (j : Int) < (vals.length : Int) := by omega
      have hne : vals ≠ [] := by rintro rfl; cases hlt
      by_cases hla : j < ago.length
      · have hi2 : (j : Int) < (ago.length : Int) := by omega
        obtain ⟨_, c', e0, _, _, ha3⟩ := HA.out
        cases e0
        obtain ⟨hok, b, o, e1, hbl, hc⟩ := ha3 j hla
        subst e1
        have c0 : wr.cell? ⟨b, o + j, none⟩ = some (.int .i64 ago[j]) := by
          by_cases e : b < w.heap.size + 1
          · exact (HBR.out.cell (p := ⟨b, o + j, none⟩) e).trans hc
          · omega
        have hok' := hok
        unfold ok64 at hok'
        generalize ago[j] = y at c0 hok hok'
        by_cases hy0 : 0 < y
        · by_cases hy1 : y ≤ (told.length : Int)
          · obtain ⟨m, rfl⟩ : ∃ m : Nat, y = m := ⟨y.toNat, by omega⟩
            have hti : told.length - m < told.length := by omega
            have het : (told.length : Int) - (m : Int) = ((told.length - m : Nat) : Int) := by omega
            obtain ⟨tb, tq, _, e2, hs, htl, htv⟩ := HT.out.cells (by rintro rfl; cases hti)
            cases e2
            obtain ⟨d0, d1, d2, dok⟩ := htv.item _ hti
            have hd : ∀ q, wr.cell? ⟨tb, q, none⟩ = w2.cell? ⟨tb, q, none⟩ := fun q => HBR.out.cell (p := ⟨tb, q, none⟩) (show tb < w.heap.size + 1 by omega)
            replace d0 := (hd _).trans d0
            replace d1 := (hd _).trans d1
            replace d2 := (hd _).trans d2
            have DOK := Lib.hid dok
            generalize told[told.length - m] = u at d0 d1 d2 DOK
            obtain ⟨uk, ui, us⟩ := u
            dsimp only at d0 d1 d2
            obtain rfl : ra = some ⟨g, 0, none⟩ := HRA.out hne
            obtain ⟨r0, r1, r2, -⟩ := (HPR.out.at (by rintro rfl; rw [← hln] at hlt; cases hlt)).item j (by omega)
            simp only [Nat.zero_add] at r0 r1 r2
            generalize told.length - m = ti at *
            generalize (l[j]).k = lk at r0
            generalize (l[j]).i = li at r1
            generalize (l[j]).s = ls at r2
            obtain ⟨cur, hcur⟩ := HPR.out.cells (by rintro rfl; rw [← hln] at hlt; cases hlt)
            have f0 := Lib.frozen_of_heap hcur (j * 3)
            have f1 := Lib.frozen_of_heap hcur (j * 3 + 1)
            have f2 := Lib.frozen_of_heap hcur (j * 3 + 2)
            have HS := Lib.hid (HPR.out.set (j := j) (u := ⟨uk, ui, us⟩) (by omega) DOK.out)
            have HGG := Lib.hid (HG.out hne)
            clear hcur htv hs hd hc ha3 hok
            go_wp2
            go_roundw
            case rel => exact ⟨j + 1, by omega, by go_num, ⟨_, by rw [List.length_set]; exact hln, HS.out⟩, HBR.out.trans (set3_below (u := ⟨uk, ui, us⟩) HGG.out.1)⟩
            case measure => simp [intOf]; omega
          · have k1 : decide (y ≤ (told.length : Int)) = false := decide_eq_false hy1
            clear hc ha3 hok
            go_wp2
            go_roundw
            case rel => exact ⟨j + 1, by omega, by go_num, ⟨l, hln, HPR.out⟩, HBR.out, hsr⟩
            case measure => simp [intOf]; omega
        · have k1 : decide (0 < y) = false := decide_eq_false hy0
          clear hc ha3 hok
          go_wp2
          go_roundw
          case rel => exact ⟨j + 1, by omega, by go_num, ⟨l, hln, HPR.out⟩, HBR.out, hsr⟩
          case measure => simp [intOf]; omega
      · have hi2 : ¬ (j : Int) < (ago.length : Int) := by omega
        go_wp2
        go_ret
        exact ⟨⟨l, g, _, hln, rfl, HPR.out, fun h0 => by have := HG.out hne; omega⟩, BW.out⟩
    · have hi1 : ¬ (j : Int) < (vals.length : Int) := by omega
      go_wp2
      go_ret
      exact ⟨⟨l, g, _, hln, rfl, HPR.out, fun h0 => by
        have := HG.out (by rintro rfl; exact h0 (List.length_eq_zero_iff.1 hln))
        omega⟩, BW.out⟩
end Go.Proofs.YtpejhilfopjckaaDoor.Hp

/-
How things stand while the law HeapedDoes goes on: two heaps, blocks of the caller's own, the row of what was told. No condition.
-/
namespace Go.Proofs.YtpejhilfopjckaaDoor.Hp
open Go.ChangeShapes Go.WideShapes Go.ChangeAt Go.RowKit Go.Deep
open Dat (PT ok64 RepV RepS RowX infoDatum)
set_option maxRecDepth 100000

/-- Two heaps, each in blocks of its own, all of them newer than w. -/
structure DSt (w : World) (hb mb : Nat) (T U : List (Int × List PV)) (F G : Nat → Prop) (W : World) : Prop where
  h : HeapM W hb T F
  m : HeapR W mb U G
  f : ∀ b, F b → w.heap.size ≤ b ∧ b < W.heap.size
  g : ∀ b, G b → w.heap.size ≤ b ∧ b < W.heap.size
  d : ∀ b, F b → ¬ G b
  b : Below w.heap.size w W
/-- A block of the caller's own is of neither heap. -/
def Apart (F G : Nat → Prop) (b : Nat) : Prop := ¬ F b ∧ ¬ G b
/-- What a call leaves: blocks that are of neither heap stay so, and hold what they held. -/
def Kept (F G : Nat → Prop) (W : World) (F' G' : Nat → Prop) (W' : World) : Prop := W.heap.size ≤ W'.heap.size ∧ ∀ R, R < W.heap.size → Apart F G R → Apart F' G' R ∧ W'.heap[R]? = W.heap[R]?
theorem Kept.refl {F G : Nat → Prop} {W : World} : Kept F G W F G W := ⟨Nat.le_refl _, fun _ _ h => ⟨h, rfl⟩⟩
theorem Kept.trans {F G F' G' F'' G'' : Nat → Prop} {W W' W'' : World} (h : Kept F G W F' G' W') (k : Kept F' G' W' F'' G'' W'') : Kept F G W F'' G'' W'' :=
  ⟨Nat.le_trans h.1 k.1, fun R hR ha => by
    obtain ⟨h1, h2⟩ := h.2 R hR ha
    obtain ⟨k1, k2⟩ := k.2 R (Nat.lt_of_lt_of_le hR h.1) h1
    exact ⟨k1, k2.trans h2⟩⟩
theorem Kept.of_below {F G : Nat → Prop} {W W' : World} (h : Below W.heap.size W W') : Kept F G W F G W' := ⟨h.size, fun R hR ha => ⟨ha, h.block R hR⟩⟩
theorem HeapR.shrink {w : World} {hb : Nat} {T : List (Int × List PV)} {F : Nat → Prop} (h : HeapR w hb T F) : HeapR w hb T (fun b => F b ∧ b < w.heap.size) := by
  obtain ⟨sv, xs, g, pv, h1, h2, h3, h4, h5⟩ := h
  refine ⟨sv, xs, g, pv, h1, ⟨h2, lt_of_block h1⟩, h3, fun b hb => ⟨h4 b hb, ?_⟩, fun j hj => ?_⟩
  · rcases h3.2 with ⟨rfl, _⟩ | ⟨t, cap, cur, rfl, _, b2, _⟩
    · cases hb
    · cases hb
      exact lt_of_block b2
  · obtain ⟨a1, a2, a3, a4, a5, a6⟩ := h5 j hj
    refine ⟨a1, a2, a3, a4, fun h => ⟨a5 h, ?_⟩, a6⟩
    obtain ⟨cur, hc⟩ := a4.cells h
    exact lt_of_block hc
section
variable {w W W' : World} {hb mb : Nat} {T U T' U' : List (Int × List PV)} {F G : Nat → Prop}
theorem DSt.below (h : DSt w hb mb T U F G W) (hb' : Below W.heap.size W W') : DSt w hb mb T U F G W' :=
  ⟨h.h.below hb', h.m.below hb', fun b hf => ⟨(h.f b hf).1, Nat.lt_of_lt_of_le (h.f b hf).2 hb'.size⟩, fun b hf => ⟨(h.g b hf).1, Nat.lt_of_lt_of_le (h.g b hf).2 hb'.size⟩, h.d, h.b.trans (hb'.mono h.b.size)⟩
theorem DSt.new (h : DSt w hb mb T U F G W) : Apart F G W.heap.size := ⟨fun hf => by have := (h.f _ hf).2; omega, fun hf => by have := (h.g _ hf).2; omega⟩
theorem DSt.apart (h : DSt w hb mb T U F G W) {b : Nat} (hb' : W.heap.size ≤ b) : Apart F G b := ⟨fun hf => by have := (h.f _ hf).2; omega, fun hf => by have := (h.g _ hf).2; omega⟩
theorem DSt.old (h : DSt w hb mb T U F G W) {b : Nat} (hb' : b < w.heap.size) : Apart F G b := ⟨fun hf => by have := (h.f _ hf).1; omega, fun hf => by have := (h.g _ hf).1; omega⟩
/-- The code's heap has been called. -/
theorem DSt.useH {u : PV} {err : Int} {e : Ending} (h : DSt w hb mb T U F G W) (hd : DoOk W hb F u err T' e W') :
    e = VE u err ∧ ∃ F', DSt w hb mb T' U F' G W' ∧ Kept F G W F' G W' := by
  obtain ⟨h1, F', h2, h3, h4, h5⟩ := hd.use h.f h.b.size
  have hsz : W.heap.size ≤ W'.heap.size := by obtain ⟨_, _, _, hs⟩ := hd; exact hs.1.1.size
  have hk : ∀ R, R < W.heap.size → ¬ F R → ¬ F' R ∧ W'.heap[R]? = W.heap[R]? := h5
  refine ⟨h1, F', ⟨h2, h.m.move (fun b hg hlt => (hk b hlt (fun hf => h.d b hf hg)).2) (fun _ q => q), h3, fun b hg => ⟨(h.g b hg).1, Nat.lt_of_lt_of_le (h.g b hg).2 hsz⟩, fun b hf hg => ?_, h.b.trans h4⟩, hsz, fun R hR ha => ⟨⟨(hk R hR ha.1).1, ha.2⟩, (hk R hR ha.1).2⟩⟩
  exact (hk b (h.g b hg).2 (fun hf' => h.d b hf' hg)).1 hf
/-- The document's heap has been called. -/
theorem DSt.useM {u : PV} {err : Int} {e : Ending} (h : DSt w hb mb T U F G W) (hd : DoR W mb G u err U' e W') :
    e = VE u err ∧ ∃ G', DSt w hb mb T U' F G' W' ∧ Kept F G W F G' W' := by
  obtain ⟨h1, G0, h2, h3⟩ := hd
  have hsz : W.heap.size ≤ W'.heap.size := h3.1.1.size
  have hk : ∀ R, R < W.heap.size → ¬ G R → ¬ G0 R ∧ W'.heap[R]? = W.heap[R]? := fun R hR hg => ⟨fun h6 => by
    rcases h3.2 R h6 with h | h
    · exact hg h
    · omega, h3.1.2 R hR hg⟩
  refine ⟨h1, fun b => G0 b ∧ b < W'.heap.size, ⟨h.h.move (fun b hf hlt => (hk b hlt (fun hg => h.d b hf hg)).2) (fun _ q => q), h2.shrink, fun b hf => ⟨(h.f b hf).1, Nat.lt_of_lt_of_le (h.f b hf).2 hsz⟩, fun b hg => ⟨?_, hg.2⟩, fun b hf hg => (hk b (h.f b hf).2 (fun hg' => h.d b hf hg')).1 hg.1, h.b.trans (h3.below (fun b hb => (h.g b hb).1) h.b.size)⟩, hsz, fun R hR ha => ⟨⟨ha.1, fun hg => (hk R hR ha.2).1 hg.1⟩, (hk R hR ha.2).2⟩⟩
  rcases h3.2 b hg.1 with h4 | h4
  · exact (h.g b h4).1
  · exact Nat.le_trans h.b.size h4
end
/-- The row of what was told. -/
def Told (F G : Nat → Prop) (C : Nat) (l : List PV) (v : Value) (W : World) : Prop := W.ownsRow C 36 3 v l.length (vCells l) ∧ (∀ u ∈ l, okV u) ∧ ∀ b, v.ownBlock = some b → Apart F G b
theorem Told.kept {F G F' G' : Nat → Prop} {C : Nat} {l : List PV} {v : Value} {W W' : World} (h : Told F G C l v W) (k : Kept F G W F' G' W') : Told F' G' C l v W' := by
  refine ⟨⟨h.1.1, h.1.2.imp id ?_⟩, h.2.1, fun b hb => (k.2 b (h.1.lt b hb).2 (h.2.2 b hb)).1⟩
  rintro ⟨t, cap, cur, e, a1, a2, a3⟩
  exact ⟨t, cap, cur, e, a1, (k.2 t (lt_of_block a2) (h.2.2 t (by rw [e]; rfl))).2.trans a2, a3⟩
theorem Told.inP {F G : Nat → Prop} {C : Nat} {l : List PV} {v : Value} {W : World} (h : Told F G C l v W) : ∃ S, InP W S l v := by
  obtain ⟨g, hp, _⟩ := parts_of_own h.1 h.2.1
  exact ⟨_, hp.inP⟩
/-- A block of the caller's own. -/
def Own (F G : Nat → Prop) (R : Nat) (o : Obj) (W : World) : Prop := W.heap[R]? = some o ∧ Apart F G R
theorem Own.kept {F G F' G' : Nat → Prop} {R : Nat} {o : Obj} {W W' : World} (h : Own F G R o W) (k : Kept F G W F' G' W') : Own F' G' R o W' :=
  ⟨(k.2 R (lt_of_block h.1) h.2).2.trans h.1, (k.2 R (lt_of_block h.1) h.2).1⟩
/-- A row of values that no heap holds. -/
def Args (F G : Nat → Prop) (l : List PV) (v : Value) (W : World) : Prop := InP W (fun b => b < W.heap.size ∧ Apart F G b) l v
theorem Args.kept {F G F' G' : Nat → Prop} {l : List PV} {v : Value} {W W' : World} (h : Args F G l v W) (k : Kept F G W F' G' W') : Args F' G' l v W' :=
  h.move fun b hs _ => ⟨⟨Nat.lt_of_lt_of_le hs.1 k.1, (k.2 b hs.1 hs.2).1⟩, (k.2 b hs.1 hs.2).2⟩
theorem InP.take {W : World} {S : Nat → Prop} {l : List PV} {a : Option Addr} {n c m : Nat} (h : InP W S l (.slice a n c)) (hm : m ≤ l.length) : InP W S (l.take m) (.slice a m c) := by
  obtain ⟨a', c', e, h1, h2, h3, h4⟩ := h
  obtain ⟨rfl, rfl, rfl⟩ : a = a' ∧ n = l.length ∧ c = c' := by cases e; exact ⟨rfl, rfl, rfl⟩
  have hl : (l.take m).length = m := by rw [List.length_take]; omega
  refine ⟨a, c, by rw [hl], by omega, h2, h3, ?_⟩
  rcases h4 with rfl | ⟨b, o, e1, h5, h6⟩
  · exact .inl (by simp)
  · refine .inr ⟨b, o, e1, h5, fun j u hj => h6.1 j u ?_, fun v hv => h6.2 v (List.mem_of_mem_take hv)⟩
    have hx : ∀ (l : List PV) (m : Nat), vCells (l.take m) = (vCells l).take (m * 3) := by
      intro l
      induction l with
      | nil => intro m; simp [vCells]
      | cons v l ih =>
        intro m
        cases m with
        | zero => simp [vCells]
        | succ m =>
          rw [List.take_succ_cons, vCells, vCells, ih, show (m + 1) * 3 = m * 3 + 1 + 1 + 1 from by omega, List.take_succ_cons, List.take_succ_cons, List.take_succ_cons]
    rw [hx] at hj
    rw [List.getElem?_take] at hj
    split at hj
    · exact hj
    · cases hj
end Go.Proofs.YtpejhilfopjckaaDoor.Hp

/-
Package heap's Thing where there is none. No condition but that the heap lies in memory.
-/
namespace Go.Proofs.YtpejhilfopjckaaDoor.Hp
open Go.ChangeShapes Go.WideShapes Go.ChangeAt Go.RowKit Go.Deep
open Dat (PT ok64 RepV RepS RowX infoDatum)
set_option maxRecDepth 100000

end Go.Proofs.YtpejhilfopjckaaDoor.Hp
