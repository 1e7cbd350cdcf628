/-
The law DatumMakes of layer 2: its walk. Where the table of tens is as the program lays it.
-/
import Derived.Test.YtphgcdmjnmopiaaDoorM10
import Derived.Test.YtphgcdmjnmopiaaDoorD20
namespace Go.Proofs.YtphgcdmjnmopiaaDoor
open Go.ChangeShapes Go.WideShapes Go.ChangeAt Go.RowKit

theorem samesB_refl (l : List PT) : samesB l l = true := by rw [← samePT_mk5]; exact sameB_refl _

/-- Four data in blocks of their own. -/
def Four (V : World) (T D X Y : Nat) (t0 t1 t2 t3 d0 d1 d2 d3 x0 x1 x2 x3 y0 y1 y2 y3 : Value) : Prop :=
  V.heap[T]? = some (.cells #[t0, t1, t2, t3] 24 (0, 0)) ∧ V.heap[D]? = some (.cells #[d0, d1, d2, d3] 24 (0, 0)) ∧ V.heap[X]? = some (.cells #[x0, x1, x2, x3] 24 (0, 0)) ∧ V.heap[Y]? = some (.cells #[y0, y1, y2, y3] 24 (0, 0))
abbrev Behind4 (V W : World) : Prop := Below V.heap.size V W
theorem four_cells {V W : World} {T D X Y : Nat} {t0 t1 t2 t3 d0 d1 d2 d3 x0 x1 x2 x3 y0 y1 y2 y3 : Value} (h : Four V T D X Y t0 t1 t2 t3 d0 d1 d2 d3 x0 x1 x2 x3 y0 y1 y2 y3) (hb : Behind4 V W) :
    W.cell? ⟨T, 0, none⟩ = some t0 ∧ W.cell? ⟨T, 1, none⟩ = some t1 ∧ W.cell? ⟨T, 2, none⟩ = some t2 ∧ W.cell? ⟨T, 3, none⟩ = some t3 ∧
    W.cell? ⟨D, 0, none⟩ = some d0 ∧ W.cell? ⟨D, 1, none⟩ = some d1 ∧ W.cell? ⟨D, 2, none⟩ = some d2 ∧ W.cell? ⟨D, 3, none⟩ = some d3 ∧
    W.cell? ⟨X, 0, none⟩ = some x0 ∧ W.cell? ⟨X, 1, none⟩ = some x1 ∧ W.cell? ⟨X, 2, none⟩ = some x2 ∧ W.cell? ⟨X, 3, none⟩ = some x3 ∧
    W.cell? ⟨Y, 0, none⟩ = some y0 ∧ W.cell? ⟨Y, 1, none⟩ = some y1 ∧ W.cell? ⟨Y, 2, none⟩ = some y2 ∧ W.cell? ⟨Y, 3, none⟩ = some y3 ∧ Behind4 V W := by
  obtain ⟨h1, h2, h3, h4⟩ := h
  have k1 := (hb.block _ (lt_of_block h1)).trans h1
  have k2 := (hb.block _ (lt_of_block h2)).trans h2
  have k3 := (hb.block _ (lt_of_block h3)).trans h3
  have k4 := (hb.block _ (lt_of_block h4)).trans h4
  refine ⟨?_, ?_, ?_, ?_, ?_, ?_, ?_, ?_, ?_, ?_, ?_, ?_, ?_, ?_, ?_, ?_, hb⟩
  · rw [Lib.cell_of_heap k1]; rfl
  · rw [Lib.cell_of_heap k1]; rfl
  · rw [Lib.cell_of_heap k1]; rfl
  · rw [Lib.cell_of_heap k1]; rfl
  · rw [Lib.cell_of_heap k2]; rfl
  · rw [Lib.cell_of_heap k2]; rfl
  · rw [Lib.cell_of_heap k2]; rfl
  · rw [Lib.cell_of_heap k2]; rfl
  · rw [Lib.cell_of_heap k3]; rfl
  · rw [Lib.cell_of_heap k3]; rfl
  · rw [Lib.cell_of_heap k3]; rfl
  · rw [Lib.cell_of_heap k3]; rfl
  · rw [Lib.cell_of_heap k4]; rfl
  · rw [Lib.cell_of_heap k4]; rfl
  · rw [Lib.cell_of_heap k4]; rfl
  · rw [Lib.cell_of_heap k4]; rfl

set_option maxRecDepth 100000 in
theorem makes_huge (l : List PT) (v : Value) (k i : Int) (s : ByteArray) (m : List PT) (x : Value) (w : World) (hv : RepS w w.heap.size l v) (hx : RepV w w.heap.size (.mk k i s m) x) (htab : TabOk w) (hh : hugeB l = true ∨ hugeB l = false ∧ hugeB [.mk k i s m] = true) :
    Calls Tryd.prog 7 #[v, .agg #[.int .i64 k, .int .i64 i, .string s, x]] w fun e w' => e = .returned (.bool true) ∧ Below w.heap.size w w' := by
  have h2 : 2 ≤ w.heap.size := by obtain ⟨T, fr, h⟩ := htab; have := lt_of_block h; omega
  have C9 := Lib.hid (fun W (h : Below w.heap.size w W) => fixed_any W (by have := h.size; omega) (tabOk_below htab h h2))
  have C17 := Lib.hid (fun W (h : Below w.heap.size w W) => huge_any l v W w.heap.size (hv.below h (Nat.le_refl _)) h.size)
  have C17t := Lib.hid (fun W n (hn : n < W.heap.size) (h : Below w.heap.size w W) (hb : W.heap[n]? = _) => huge_any [.mk k i s m] _ W W.heap.size (rep_one hn hb ((hx.below h (Nat.le_refl _)).mono h.size)) (Nat.le_refl _))
  obtain ⟨a, c, e, _⟩ := hv
  subst e
  obtain ⟨a', c', e, _⟩ := hx.2.2.2
  subst e
  have B0 := Lib.hid ((Below.refl w.heap.size w).alloc (Nat.le_refl _) (.cells #[.int .i64 k, .int .i64 i, .string s, .slice a' m.length c'] 24))
  have hb0 : Hid ((w.alloc (.cells #[.int .i64 k, .int .i64 i, .string s, .slice a' m.length c'] 24)).heap[w.heap.size]? = some (.cells #[.int .i64 k, .int .i64 i, .string s, .slice a' m.length c'] 24 (0, 0))) := Lib.hid (heap_alloc_new w _)
  clear hx htab
  rcases hh with hh | ⟨hh, hh2⟩
  · have D17 := Lib.hid (show ∀ W, Below w.heap.size w W → _ from fun W h => C17.out W h)
    rw [hh] at C17
    clear hh D17
    go_enter Tryd.func7, Tryd.ntmps7
    go_wp2_with fail
    refine (C17.out _ B0.out).mono ?_
    rintro e w1 ⟨rfl, hb1⟩
    have B1 := Lib.hid (B0.out.trans (hb1.mono B0.out.size))
    clear hb1
    go_wp2_with fail
    refine (C9.out _ B1.out).mono ?_
    rintro e w2 ⟨rfl, hb2⟩
    go_wp2
    go_ret
    exact ⟨rfl, B1.out.trans (hb2.mono B1.out.size)⟩
  · rw [hh] at C17
    rw [hh2] at C17t
    clear hh hh2
    go_enter Tryd.func7, Tryd.ntmps7
    go_wp2_with fail
    refine (C17.out _ B0.out).mono ?_
    rintro e w1 ⟨rfl, hb1⟩
    have B1 := Lib.hid (B0.out.trans (hb1.mono B0.out.size))
    have hk1 : w1.heap[w.heap.size]? = some (.cells #[.int .i64 k, .int .i64 i, .string s, .slice a' m.length c'] 24 (0, 0)) := (hb1.block _ (by simp)).trans hb0.out
    have c0 : w1.cell? ⟨w.heap.size, 0, none⟩ = some (.int .i64 k) := by rw [Lib.cell_of_heap hk1]; rfl
    have c1 : w1.cell? ⟨w.heap.size, 1, none⟩ = some (.int .i64 i) := by rw [Lib.cell_of_heap hk1]; rfl
    have c2 : w1.cell? ⟨w.heap.size, 2, none⟩ = some (.string s) := by rw [Lib.cell_of_heap hk1]; rfl
    have c3 : w1.cell? ⟨w.heap.size, 3, none⟩ = some (.slice a' m.length c') := by rw [Lib.cell_of_heap hk1]; rfl
    have B2 := Lib.hid (B1.out.alloc B1.out.size (.cells #[.int .i64 k, .int .i64 i, .string s, .slice a' m.length c'] 24))
    clear hb1 hk1
    go_wp2_with fail
    refine (C17t.out _ w1.heap.size (by simp) B2.out (heap_alloc_new w1 _)).mono ?_
    rintro e w2 ⟨rfl, hb2⟩
    have B3 := Lib.hid (B2.out.trans (hb2.mono B2.out.size))
    clear hb2
    go_wp2_with fail
    refine (C9.out _ B3.out).mono ?_
    rintro e w3 ⟨rfl, hb3⟩
    go_wp2
    go_ret
    exact ⟨rfl, B3.out.trans (hb3.mono B3.out.size)⟩

theorem four_of {V W : World} {a0 a1 a2 a3 a4 a5 a6 a7 a8 a9 b0 b1 b2 b3 b4 b5 : Prop} (h : a0 ∧ a1 ∧ a2 ∧ a3 ∧ a4 ∧ a5 ∧ a6 ∧ a7 ∧ a8 ∧ a9 ∧ b0 ∧ b1 ∧ b2 ∧ b3 ∧ b4 ∧ b5 ∧ Behind4 V W) : Behind4 V W := h.2.2.2.2.2.2.2.2.2.2.2.2.2.2.2.2
theorem four_next {V W W' : World} (h : Behind4 V W) (hb : Below W.heap.size W W') : Behind4 V W' := h.trans (hb.mono h.size)
theorem RepV.drewn {W : World} {t : PT} {v : Value} (h : RepV W W.heap.size t v) : RepV W.drew W.drew.heap.size t v := h.below ((Below.refl W.heap.size W).drew) (Nat.le_refl _)

set_option maxRecDepth 100000 in
set_option maxHeartbeats 8000000 in
theorem makes_main (l : List PT) (v : Value) (k i : Int) (s : ByteArray) (m : List PT) (x : Value) (w : World) (hv : RepS w w.heap.size l v) (hx : RepV w w.heap.size (.mk k i s m) x) (htab : TabOk w) (hh : hugeB l = false) (hh2 : hugeB [.mk k i s m] = false) :
    Calls Tryd.prog 7 #[v, .agg #[.int .i64 k, .int .i64 i, .string s, x]] w fun e w' => e = .returned (.bool true) ∧ Below w.heap.size w w' := by
  have h2 : 2 ≤ w.heap.size := by obtain ⟨T, fr, h⟩ := htab; have := lt_of_block h; omega
  have n1 : numsT l ≤ 100000 := by simp only [hugeB, decide_eq_false_iff_not] at hh; omega
  have n2 : numT (.mk k i s m) ≤ 100000 := by
    simp only [hugeB, decide_eq_false_iff_not] at hh2
    rw [numsT, numsT] at hh2; omega
  have hlen := nums_len l
  have hlen2 : m.length ≤ 100000 := by have := nums_len m; rw [numT] at n2; omega
  have C9 := Lib.hid (fun W (h : Below w.heap.size w W) => fixed_any W (by have := h.size; omega) (tabOk_below htab h h2))
  have C17 := Lib.hid (fun W (h : Below w.heap.size w W) => hh ▸ huge_any l v W w.heap.size (hv.below h (Nat.le_refl _)) h.size)
  have C17t := Lib.hid (fun W n (hn : n < W.heap.size) (h : Below w.heap.size w W) (hb : W.heap[n]? = _) => hh2 ▸ huge_any [.mk k i s m] _ W W.heap.size (rep_one hn hb ((hx.below h (Nat.le_refl _)).mono h.size)) (Nat.le_refl _))
  obtain ⟨r, hr⟩ : ∃ r, r = makeT l (.mk k i s m) := ⟨_, rfl⟩
  have C20 := Lib.hid (fun W (h : Below w.heap.size w W) => make_any l k i s m v x W w.heap.size (hv.below h (Nat.le_refl _)) (hx.below h (Nat.le_refl _)) h.size (by omega) r hr)
  have C23 := Lib.hid (fun W (h : Below w.heap.size w W) => rmake_any l v k i s m x W w.heap.size (hv.below h (Nat.le_refl _)) (hx.below h (Nat.le_refl _)) h.size (by omega) (by omega) r hr)
  have C21 := Lib.hid (fun W (h : Below w.heap.size w W) => items_any k i s m x W w.heap.size (hx.below h (Nat.le_refl _)) h.size (by omega))
  have C22 := Lib.hid (fun W (h : Below w.heap.size w W) => ritems_any k i s m x W w.heap.size (hx.below h (Nat.le_refl _)) h.size)
  obtain ⟨a, c, e, _⟩ := hv
  subst e
  obtain ⟨a', c', e, _⟩ := hx.2.2.2
  subst e
  obtain ⟨il, hil⟩ : ∃ il, il = itemsL (.mk k i s m) := ⟨_, rfl⟩
  obtain ⟨it, hit⟩ : ∃ it, it = itemsT (.mk k i s m) := ⟨_, rfl⟩
  unfold ItemsOk at C21 C22
  rw [← hil, ← hit] at C21 C22
  obtain ⟨rk, ri, rs, rl⟩ := r
  obtain ⟨tk, ti, ts, tl⟩ := it
  have B0 := Lib.hid ((Below.refl w.heap.size w).alloc (Nat.le_refl _) (.cells #[.int .i64 k, .int .i64 i, .string s, .slice a' m.length c'] 24))
  have hb0 : Hid ((w.alloc (.cells #[.int .i64 k, .int .i64 i, .string s, .slice a' m.length c'] 24)).heap[w.heap.size]? = some (.cells #[.int .i64 k, .int .i64 i, .string s, .slice a' m.length c'] 24 (0, 0))) := Lib.hid (heap_alloc_new w _)
  clear hx htab hr hil hit hh hh2 n1 n2 hlen hlen2
  go_enter Tryd.func7, Tryd.ntmps7
  go_wp2_with fail
  refine (C17.out _ B0.out).mono ?_
  rintro e w1 ⟨rfl, hb1⟩
  have B1 := Lib.hid (B0.out.trans (hb1.mono B0.out.size))
  have K1 : Hid (w1.heap[w.heap.size]? = some (.cells #[.int .i64 k, .int .i64 i, .string s, .slice a' m.length c'] 24 (0, 0))) := Lib.hid ((hb1.block _ (by simp)).trans hb0.out)
  have c0 : w1.cell? ⟨w.heap.size, 0, none⟩ = some (.int .i64 k) := by rw [Lib.cell_of_heap K1.out]; rfl
  have c1 : w1.cell? ⟨w.heap.size, 1, none⟩ = some (.int .i64 i) := by rw [Lib.cell_of_heap K1.out]; rfl
  have c2 : w1.cell? ⟨w.heap.size, 2, none⟩ = some (.string s) := by rw [Lib.cell_of_heap K1.out]; rfl
  have c3 : w1.cell? ⟨w.heap.size, 3, none⟩ = some (.slice a' m.length c') := by rw [Lib.cell_of_heap K1.out]; rfl
  have B2 := Lib.hid (B1.out.alloc B1.out.size (.cells #[.int .i64 k, .int .i64 i, .string s, .slice a' m.length c'] 24))
  have K2 : Hid ((w1.alloc (.cells #[.int .i64 k, .int .i64 i, .string s, .slice a' m.length c'] 24)).heap[w.heap.size]? = some (.cells #[.int .i64 k, .int .i64 i, .string s, .slice a' m.length c'] 24 (0, 0))) := Lib.hid (blk_alloc K1.out)
  clear hb1
  go_wp2_with fail
  refine (C17t.out _ w1.heap.size (by simp) B2.out (heap_alloc_new w1 _)).mono ?_
  rintro e w2 ⟨rfl, hb2⟩
  have B3 := Lib.hid (B2.out.trans (hb2.mono B2.out.size))
  have K3 : Hid (w2.heap[w.heap.size]? = some (.cells #[.int .i64 k, .int .i64 i, .string s, .slice a' m.length c'] 24 (0, 0))) := Lib.hid ((hb2.block _ (by have := B1.out.size; have := lt_of_block K1.out; simp; omega)).trans K2.out)
  clear hb2 c0 c1 c2 c3
  have c0 : w2.cell? ⟨w.heap.size, 0, none⟩ = some (.int .i64 k) := by rw [Lib.cell_of_heap K3.out]; rfl
  have c1 : w2.cell? ⟨w.heap.size, 1, none⟩ = some (.int .i64 i) := by rw [Lib.cell_of_heap K3.out]; rfl
  have c2 : w2.cell? ⟨w.heap.size, 2, none⟩ = some (.string s) := by rw [Lib.cell_of_heap K3.out]; rfl
  have c3 : w2.cell? ⟨w.heap.size, 3, none⟩ = some (.slice a' m.length c') := by rw [Lib.cell_of_heap K3.out]; rfl
  go_wp2_with fail
  refine (C20.out _ B3.out).mono ?_
  rintro e w3 ⟨⟨xd, he, rd⟩, hb3⟩
  change e = .returned (.agg #[.int .i64 rk, .int .i64 ri, .string rs, xd]) at he
  subst he
  obtain ⟨ad, cd, e, _⟩ := rd.2.2.2
  subst e
  have RD := Lib.hid rd
  have B4 := Lib.hid ((B3.out.trans (hb3.mono B3.out.size)).alloc (by have := hb3.size; have := B3.out.size; omega) (.cells #[.int .i64 rk, .int .i64 ri, .string rs, .slice ad rl.length cd] 24))
  have K4 : Hid ((w3.alloc (.cells #[.int .i64 rk, .int .i64 ri, .string rs, .slice ad rl.length cd] 24)).heap[w.heap.size]? = some (.cells #[.int .i64 k, .int .i64 i, .string s, .slice a' m.length c'] 24 (0, 0))) := Lib.hid (blk_alloc ((hb3.block _ (lt_of_block K3.out)).trans K3.out))
  have L4 : Hid ((w3.alloc (.cells #[.int .i64 rk, .int .i64 ri, .string rs, .slice ad rl.length cd] 24)).heap[w3.heap.size]? = some (.cells #[.int .i64 rk, .int .i64 ri, .string rs, .slice ad rl.length cd] 24 (0, 0))) := Lib.hid (heap_alloc_new w3 _)
  have hw3 : w2.heap.size ≤ w3.heap.size := hb3.size
  have K3' : Hid (w3.heap[w.heap.size]? = some (.cells #[.int .i64 k, .int .i64 i, .string s, .slice a' m.length c'] 24 (0, 0))) := Lib.hid ((hb3.block _ (lt_of_block K3.out)).trans K3.out)
  clear hb3 c0 c1 c2 c3 rd
  have c0 : w3.cell? ⟨w.heap.size, 0, none⟩ = some (.int .i64 k) := by rw [Lib.cell_of_heap K3'.out]; rfl
  have c1 : w3.cell? ⟨w.heap.size, 1, none⟩ = some (.int .i64 i) := by rw [Lib.cell_of_heap K3'.out]; rfl
  have c2 : w3.cell? ⟨w.heap.size, 2, none⟩ = some (.string s) := by rw [Lib.cell_of_heap K3'.out]; rfl
  have c3 : w3.cell? ⟨w.heap.size, 3, none⟩ = some (.slice a' m.length c') := by rw [Lib.cell_of_heap K3'.out]; rfl
  have hlt3 : w.heap.size < w3.heap.size := World.block_lt_of_cell? _ _ c0
  go_wp2_with fail
  refine (C21.out _ B4.out).mono ?_
  rintro e w4 ⟨⟨v4, x4, he, q4, u4⟩, hb4⟩
  change e = .returned (.tuple #[v4, .agg #[.int .i64 tk, .int .i64 ti, .string ts, x4]]) at he
  subst he
  obtain ⟨ax, cx, e, _⟩ := u4.2.2.2
  subst e
  have U4 := Lib.hid u4
  have Q4 := Lib.hid q4
  have P4 := Lib.hid (((Below.refl w3.heap.size w3).alloc (Nat.le_refl _) (.cells #[.int .i64 rk, .int .i64 ri, .string rs, .slice ad rl.length cd] 24)).trans (hb4.mono (by simp)))
  have K4' : Hid (w4.heap[w.heap.size]? = some (.cells #[.int .i64 k, .int .i64 i, .string s, .slice a' m.length c'] 24 (0, 0))) := Lib.hid ((hb4.block _ (lt_of_block K4.out)).trans K4.out)
  have L4' : Hid (w4.heap[w3.heap.size]? = some (.cells #[.int .i64 rk, .int .i64 ri, .string rs, .slice ad rl.length cd] 24 (0, 0))) := Lib.hid ((hb4.block _ (lt_of_block L4.out)).trans L4.out)
  have B5 := Lib.hid ((B4.out.trans (hb4.mono B4.out.size)).alloc (by have := hb4.size; have := B4.out.size; omega) (.cells #[.int .i64 tk, .int .i64 ti, .string ts, .slice ax tl.length cx] 24))
  have K5 : Hid ((w4.alloc (.cells #[.int .i64 tk, .int .i64 ti, .string ts, .slice ax tl.length cx] 24)).heap[w.heap.size]? = some (.cells #[.int .i64 k, .int .i64 i, .string s, .slice a' m.length c'] 24 (0, 0))) := Lib.hid (blk_alloc K4'.out)
  have L5 : Hid ((w4.alloc (.cells #[.int .i64 tk, .int .i64 ti, .string ts, .slice ax tl.length cx] 24)).heap[w3.heap.size]? = some (.cells #[.int .i64 rk, .int .i64 ri, .string rs, .slice ad rl.length cd] 24 (0, 0))) := Lib.hid (blk_alloc L4'.out)
  have X5 : Hid ((w4.alloc (.cells #[.int .i64 tk, .int .i64 ti, .string ts, .slice ax tl.length cx] 24)).heap[w4.heap.size]? = some (.cells #[.int .i64 tk, .int .i64 ti, .string ts, .slice ax tl.length cx] 24 (0, 0))) := Lib.hid (heap_alloc_new w4 _)
  clear hb4 c0 c1 c2 c3 u4 q4 hlt3
  have c0 : w4.cell? ⟨w.heap.size, 0, none⟩ = some (.int .i64 k) := by rw [Lib.cell_of_heap K4'.out]; rfl
  have c1 : w4.cell? ⟨w.heap.size, 1, none⟩ = some (.int .i64 i) := by rw [Lib.cell_of_heap K4'.out]; rfl
  have c2 : w4.cell? ⟨w.heap.size, 2, none⟩ = some (.string s) := by rw [Lib.cell_of_heap K4'.out]; rfl
  have c3 : w4.cell? ⟨w.heap.size, 3, none⟩ = some (.slice a' m.length c') := by rw [Lib.cell_of_heap K4'.out]; rfl
  have hlt4 : w.heap.size < w4.heap.size := World.block_lt_of_cell? _ _ c0
  go_wp2_with fail
  refine (C22.out _ B5.out).mono ?_
  rintro e w5 ⟨⟨v5, x5, he, q5, u5⟩, hb5⟩
  change e = .returned (.tuple #[v5, .agg #[.int .i64 tk, .int .i64 ti, .string ts, x5]]) at he
  subst he
  obtain ⟨ay, cy, e, _⟩ := u5.2.2.2
  subst e
  have P5 := Lib.hid (((Below.refl w4.heap.size w4).alloc (Nat.le_refl _) (.cells #[.int .i64 tk, .int .i64 ti, .string ts, .slice ax tl.length cx] 24)).trans (hb5.mono (by simp)))
  obtain ⟨V, hV⟩ : ∃ V, w5.alloc (.cells #[.int .i64 tk, .int .i64 ti, .string ts, .slice ay tl.length cy] 24) = V := ⟨_, rfl⟩
  have P6 : Below w5.heap.size w5 V := hV ▸ (Below.refl w5.heap.size w5).alloc (Nat.le_refl _) _
  have FOUR : Hid (Four V w.heap.size w3.heap.size w4.heap.size w5.heap.size (.int .i64 k) (.int .i64 i) (.string s) (.slice a' m.length c') (.int .i64 rk) (.int .i64 ri) (.string rs) (.slice ad rl.length cd) (.int .i64 tk) (.int .i64 ti) (.string ts) (.slice ax tl.length cx) (.int .i64 tk) (.int .i64 ti) (.string ts) (.slice ay tl.length cy)) := Lib.hid (by
    subst hV
    exact ⟨blk_alloc ((hb5.block _ (lt_of_block K5.out)).trans K5.out), blk_alloc ((hb5.block _ (lt_of_block L5.out)).trans L5.out), blk_alloc ((hb5.block _ (lt_of_block X5.out)).trans X5.out), heap_alloc_new w5 _⟩)
  have hs4 := P4.out.size
  have hs5 := P5.out.size
  have hs6 := P6.size
  have P56 : Below w4.heap.size w4 V := P5.out.trans (P6.mono hs5)
  have P46 : Below w3.heap.size w3 V := P4.out.trans (P56.mono hs4)
  have hs3 : w.heap.size ≤ w3.heap.size := by have := lt_of_block K3'.out; omega
  have BV : Below w.heap.size w V := (B5.out.trans (hb5.mono B5.out.size)).trans (P6.mono (by omega))
  have E9 := Lib.hid (fun W (h : Behind4 V W) => C9.out W (BV.trans (h.mono (by omega))))
  have E23 := Lib.hid (fun W (h : Behind4 V W) => C23.out W (BV.trans (h.mono (by omega))))
  have e19a : ∀ W x', Behind4 V W → RepV W W.heap.size (.mk rk ri rs rl) x' → Calls Tryd.prog 19 #[.agg #[.int .i64 rk, .int .i64 ri, .string rs, .slice ad rl.length cd], .agg #[.int .i64 rk, .int .i64 ri, .string rs, x']] W fun e w' => e = .returned (.bool true) ∧ Below W.heap.size W w' := fun W x' h hx => by
    have hsz := h.size
    have C := same_any (.mk rk ri rs rl) (.mk rk ri rs rl) W W.heap.size _ _ ((RD.out.below (P46.trans (h.mono (by omega))) (Nat.le_refl _)).mono (by omega)) hx (Nat.le_refl _)
    rwa [sameB_refl] at C
  have e19b : ∀ W, Behind4 V W → Calls Tryd.prog 19 #[.agg #[.int .i64 tk, .int .i64 ti, .string ts, .slice ax tl.length cx], .agg #[.int .i64 tk, .int .i64 ti, .string ts, .slice ay tl.length cy]] W fun e w' => e = .returned (.bool true) ∧ Below W.heap.size W w' := fun W h => by
    have hsz := h.size
    have C := same_any (.mk tk ti ts tl) (.mk tk ti ts tl) W W.heap.size _ _ ((U4.out.below (P56.trans (h.mono (by omega))) (Nat.le_refl _)).mono (by omega)) ((u5.below (P6.trans (h.mono (by omega))) (Nat.le_refl _)).mono (by omega)) (Nat.le_refl _)
    rwa [sameB_refl] at C
  have e24 : ∀ W, Behind4 V W → Calls Tryd.prog 24 #[v4, v5] W fun e w' => e = .returned (.bool true) ∧ Below W.heap.size W w' := fun W h => by
    have hsz := h.size
    have C := sameAll_any il il v4 v5 W W.heap.size ((Q4.out.below (P56.trans (h.mono (by omega))) (Nat.le_refl _)).move (by omega) (fun _ _ _ => rfl)) ((q5.below (P6.trans (h.mono (by omega))) (Nat.le_refl _)).move (by omega) (fun _ _ _ => rfl)) (Nat.le_refl _)
    rwa [samesB_refl] at C
  have E19a := Lib.hid e19a
  have E19b := Lib.hid e19b
  have E24 := Lib.hid e24
  have BV := Lib.hid BV
  have HV := Lib.hid hV
  have hwV : w.heap.size ≤ V.heap.size := BV.out.size
  clear e19a e19b e24 hb5 c0 c1 c2 c3 u5 q5 hlt4 P56 P46 P6 hs4 hs5 hs6 hs3 hV
  go_wp2
  try simp only [HV.out]
  have b6 : Behind4 V V := Below.refl _ _
  obtain ⟨c0, c1, c2, c3, d0, d1, d2, d3, g0, g1, g2, g3, h0, h1, h2, h3, _⟩ := four_cells FOUR.out b6
  go_region_held3 (fun W => W.cell? ⟨w.heap.size, 0, none⟩ = some (.int .i64 k) ∧ W.cell? ⟨w.heap.size, 1, none⟩ = some (.int .i64 i) ∧ W.cell? ⟨w.heap.size, 2, none⟩ = some (.string s) ∧ W.cell? ⟨w.heap.size, 3, none⟩ = some (.slice a' m.length c') ∧ W.cell? ⟨w3.heap.size, 0, none⟩ = some (.int .i64 rk) ∧ W.cell? ⟨w3.heap.size, 1, none⟩ = some (.int .i64 ri) ∧ W.cell? ⟨w3.heap.size, 2, none⟩ = some (.string rs) ∧ W.cell? ⟨w3.heap.size, 3, none⟩ = some (.slice ad rl.length cd) ∧ W.cell? ⟨w4.heap.size, 0, none⟩ = some (.int .i64 tk) ∧ W.cell? ⟨w4.heap.size, 1, none⟩ = some (.int .i64 ti) ∧ W.cell? ⟨w4.heap.size, 2, none⟩ = some (.string ts) ∧ W.cell? ⟨w4.heap.size, 3, none⟩ = some (.slice ax tl.length cx) ∧ W.cell? ⟨w5.heap.size, 0, none⟩ = some (.int .i64 tk) ∧ W.cell? ⟨w5.heap.size, 1, none⟩ = some (.int .i64 ti) ∧ W.cell? ⟨w5.heap.size, 2, none⟩ = some (.string ts) ∧ W.cell? ⟨w5.heap.size, 3, none⟩ = some (.slice ay tl.length cy) ∧ Behind4 V W)
    (first | (exact four_cells FOUR.out (by assumption)) | (exact four_cells FOUR.out (Below.drew (by assumption))))
    (first
      | (go_at_call 9; refine (E9.out _ (four_of (by assumption))).mono ?_; rintro e w7 ⟨rfl, hb7⟩; have b7 := four_next (four_of (by assumption)) hb7)
      | (go_at_call 23; refine (E23.out _ (four_of (by assumption))).mono ?_; rintro e w7 ⟨⟨x', he, rx⟩, hb7⟩; change e = .returned (.agg #[.int .i64 rk, .int .i64 ri, .string rs, x']) at he; subst he; have b7 := four_next (four_of (by assumption)) hb7)
      | (go_at_call 24; refine (E24.out _ (four_of (by assumption))).mono ?_; rintro e w7 ⟨rfl, hb7⟩; have b7 := four_next (four_of (by assumption)) hb7)
      | (go_at_call 19; (first | (with_reducible refine (E19b.out _ (four_of (by assumption))).mono ?_) | (with_reducible refine (E19a.out _ _ (four_of (by assumption)) (by first | assumption | (exact RepV.drewn (by assumption)))).mono ?_)); rintro e w7 ⟨rfl, hb7⟩; have b7 := four_next (four_of (by assumption)) hb7))
  go_wp2
  go_ret
  exact ⟨rfl, BV.out.trans ((by assumption : Behind4 V _).mono hwV)⟩

theorem makes_walk (l : List PT) (v : Value) (k i : Int) (s : ByteArray) (m : List PT) (x : Value) (w : World) (hv : RepS w w.heap.size l v) (hx : RepV w w.heap.size (.mk k i s m) x) (htab : TabOk w) :
    Calls Tryd.prog 7 #[v, .agg #[.int .i64 k, .int .i64 i, .string s, x]] w fun e w' => e = .returned (.bool true) ∧ Below w.heap.size w w' := by
  cases hh : hugeB l
  · cases hh2 : hugeB [.mk k i s m]
    · exact makes_main l v k i s m x w hv hx htab hh hh2
    · exact makes_huge l v k i s m x w hv hx htab (.inr ⟨hh, hh2⟩)
  · exact makes_huge l v k i s m x w hv hx htab (.inl hh)
end Go.Proofs.YtphgcdmjnmopiaaDoor
