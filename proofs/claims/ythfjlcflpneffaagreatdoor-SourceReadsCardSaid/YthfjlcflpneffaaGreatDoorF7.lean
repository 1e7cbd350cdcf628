/-
The document's ended, in memory: its walk. No condition but small numbers.
-/
import Derived.Test.YthfjlcflpneffaaGreatDoorF6b
namespace Go.Proofs.YthfjlcflpneffaaGreatDoor
open Go.ChangeShapes Go.WideShapes Go.ChangeAt Go.RowKit
open Dat (PT makeT RepS RepV)

mutual
theorem ins_andD {w : World} {S T : Nat → Prop} : ∀ (t : PT) {b o : Nat}, InD w S t b o → InD w T t b o → InD w (fun b => S b ∧ T b) t b o
  | .mk k i s l, b, o, h, h' => by
    rw [inD_mk] at h h' ⊢
    obtain ⟨h1, h2, h3, c0, c1, c2, v, c3, a, c, e, hl, hm, hn, hr⟩ := h
    obtain ⟨_, _, _, _, _, _, v', c3', a', c', e', _, _, _, hr'⟩ := h'
    rw [c3] at c3'
    cases c3'
    subst e
    cases e'
    refine ⟨h1, h2, h3, c0, c1, c2, _, c3, a, c, rfl, hl, hm, hn, ?_⟩
    rcases hr with hr | ⟨b', o', rfl, hs, hr⟩
    · exact .inl hr
    · rcases hr' with hr' | ⟨b2, o2, e2, hs', hr'⟩
      · exact .inl hr'
      · cases e2
        exact .inr ⟨b', o', rfl, ⟨hs, hs'⟩, ins_andAt l hr hr'⟩
theorem ins_andAt {w : World} {S T : Nat → Prop} : ∀ (l : List PT) {b o : Nat}, InAt w S l b o → InAt w T l b o → InAt w (fun b => S b ∧ T b) l b o
  | [], _, _, _, _ => by rw [InAt]; trivial
  | t :: l, b, o, h, h' => by
    rw [InAt] at h h' ⊢
    exact ⟨ins_andD t h.1 h'.1, ins_andAt l h.2 h'.2⟩
end
/-- Rows below the heap's size, and apart from two blocks. -/
theorem ins_and {w : World} {g q : Nat} {l : List PT} {v : Value} (h' : InS w (fun b => b ≠ q ∧ b ≠ g) l v) : InS w (fun b => b ≠ w.heap.size ∧ b ≠ w.heap.size + 1 ∧ b ≠ g ∧ b ≠ q) l v := by
  have h := ins_of h'.rep
  have key : InS w (fun b => b < w.heap.size ∧ b ≠ q ∧ b ≠ g) l v := by
    obtain ⟨a, c, e, hl, hm, hn, hr⟩ := h
    obtain ⟨a', c', e', _, _, _, hr'⟩ := h'
    subst e
    cases e'
    refine ⟨a, c, rfl, hl, hm, hn, ?_⟩
    rcases hr with hr | ⟨b', o', rfl, hs, hr⟩
    · exact .inl hr
    · rcases hr' with hr' | ⟨b2, o2, e2, hs', hr'⟩
      · exact .inl hr'
      · cases e2
        exact .inr ⟨b', o', rfl, ⟨hs, hs'⟩, ins_andAt l hr hr'⟩
  exact key.move (fun b hb _ => ⟨by omega, by omega, hb.2.2, hb.2.1⟩) (fun _ _ _ _ h => h)
theorem StkOwn.front {w : World} {C q g cap n : Nat} {l l1 r : List Op} (h : StkOwn w C q l (.slice (some ⟨g, 0, none⟩) n cap)) (e : l = l1 ++ r) : StkOwn w C q l1 (.slice (some ⟨g, 0, none⟩) l1.length cap) := by
  obtain ⟨g', cap', cur, e1, h1, h2, h3, h4, h5, h6, h7⟩ := h
  cases e1
  subst e
  rw [List.length_append] at h3
  have h8 := h7.take l1.length
  rw [List.take_left' rfl, List.take_take, Nat.min_eq_left (by rw [List.length_append]; omega)] at h8
  exact ⟨g, cap, cur, rfl, h1, h2, by omega, h4, h5, h6, h8⟩
theorem ended_results {b : Nat} {W : World} {y0 y1 y2 y3 : Value} (h : W.heap[b]? = some (.cells #[y0, y1, y2, y3] 34 (0, 0))) (tmps : Array Value) (v4 v6 : Value)
    (h4 : tmps.getD 4 undef = v4) (h5 : tmps.getD 5 undef = .pointer (some ⟨b, 0, none⟩)) (h6 : tmps.getD 6 undef = v6) :
    (results Tryz.f25 tmps).run Tryz.prog W = .ok (.tuple #[v4, .agg #[y0, y1, y2, y3], v6]) W := by
  have c0 : W.cell? ⟨b, 0, none⟩ = some y0 := by rw [Lib.cell_of_heap h]; rfl
  have c1 : W.cell? ⟨b, 1, none⟩ = some y1 := by rw [Lib.cell_of_heap h]; rfl
  have c2 : W.cell? ⟨b, 2, none⟩ = some y2 := by rw [Lib.cell_of_heap h]; rfl
  have c3 : W.cell? ⟨b, 3, none⟩ = some y3 := by rw [Lib.cell_of_heap h]; rfl
  rw [Array.getD_eq_getD_getElem?] at h4 h5 h6
  simp [results, Tryz.results25, go_sem, h4, h5, h6, c0, c1, c2, c3]
theorem src_oneP {W : World} {x : Nat} {S : Nat → Prop} {k i : Int} {s : ByteArray} {m : List PT} {v : Value} (h : W.heap[x]? = some (.cells #[.int .i64 k, .int .i64 i, .string s, v] 34 (0, 0))) (h1 : Dat.ok64 k) (h2 : Dat.ok64 i) (h3 : s.size ≤ maxLen) (hv : InS W S m v) : SrcP W S [.mk k i s m] (.slice (some ⟨x, 0, none⟩) 1 1) := by
  refine ⟨_, 1, rfl, Nat.le_refl _, by decide, (fun h => by cases h), .inr ⟨x, 0, rfl, ?_⟩⟩
  rw [InAt, InAt, inD_mk]
  refine ⟨⟨h1, h2, h3, ?_, ?_, ?_, _, ?_, hv⟩, trivial⟩
  all_goals (rw [Lib.cell_of_heap h]; rfl)
theorem rowS_shape {W : World} {base : Nat} {S : Nat → Prop} {l : List PT} {v : Value} (h : RowOwnS W base S l v) (h0 : l ≠ []) : ∃ g cap, v = .slice (some ⟨g, 0, none⟩) l.length cap := by
  obtain ⟨xs, ho, _⟩ := h
  rcases ho.2 with ⟨_, h1⟩ | ⟨g, cap, cur, rfl, _⟩
  · exact absurd (List.length_eq_zero_iff.1 h1) h0
  · exact ⟨g, cap, rfl⟩
theorem rowS_alloc {W : World} {base : Nat} {S : Nat → Prop} {l : List PT} {v : Value} (h : RowOwnS W base S l v) (o : Obj) : RowOwnS (W.alloc o) base S l v := by
  obtain ⟨xs, ho, hx⟩ := h
  exact ⟨xs, ho.alloc o, Dat.RowX.imp (fun m u hm => hm.move (fun b hb _ => hb) (fun b o' y hb hc => by
    rw [World.cell?_of_block (w := W) (a := ⟨b, o', none⟩) (Lib.alloc_old W o b (World.block_lt_of_cell? _ _ hc))]; exact hc)) hx⟩
theorem bel_alloc' {w W : World} (h : Below w.heap.size w W) (o : Obj) : Below w.heap.size w (W.alloc o) := h.alloc h.size o
theorem blk_skip' {w : World} {o : Obj} {b : Nat} {x : Obj} (h : w.heap[b]? = some x) : (w.alloc o).heap[b]? = some x := (Below.heap_alloc w o b (lt_of_block h)).trans h
/-- But for a slice's own block all is as it was. -/
def KeptBut (v : Value) (w w' : World) : Prop := ∀ b, b < w.heap.size → v.ownBlock ≠ some b → w'.heap[b]? = w.heap[b]?
/-- What ended answers. -/
def GotE (l : List Op) (d : PT) (C q : Nat) (e : Ending) (w' : World) : Prop :=
  (∃ l' v', endedM l.reverse d = (l'.reverse, none) ∧ StkOwn w' C q l' v' ∧ e = .returned (.tuple #[v', .agg #[.int .i64 0, .int .i64 0, .string ⟨#[]⟩, .slice none 0 0], .bool false])) ∨
  (∃ v' k i s m x, endedM l.reverse d = ([], some (.mk k i s m)) ∧ StkOwn w' C q [] v' ∧ (Dat.ok64 k ∧ Dat.ok64 i ∧ s.size ≤ maxLen ∧ InS w' (· ≠ q) m x) ∧ e = .returned (.tuple #[v', .agg #[.int .i64 k, .int .i64 i, .string s, x], .bool true]))

set_option maxRecDepth 100000 in
set_option maxHeartbeats 2000000 in
theorem ended_mem (l : List Op) (C q : Nat) (v : Value) (k i : Int) (s : ByteArray) (m : List PT) (x : Value) (w : World) (hst : StkOwn w C q l v) (hd : Dat.ok64 k ∧ Dat.ok64 i ∧ s.size ≤ maxLen ∧ InS w (· ≠ q) m x) (hq : q < w.heap.size) (hl : l.length ≤ 32) (hll : ∀ o ∈ l, o.list.length ≤ 5000) (hC : C ≤ w.heap.size) :
    Calls Tryz.prog 25 #[v, .agg #[.int .i64 k, .int .i64 i, .string s, x]] w fun e w' => GotE l (.mk k i s m) C q e w' ∧ Below C w w' ∧ KeptBut v w w' := by
  obtain ⟨g, cap, rfl⟩ := hst.shape
  obtain ⟨ax, cx, rfl, _⟩ := hd.2.2.2
  have HST := Lib.hid hst
  have HD := Lib.hid hd
  have HLL := Lib.hid hll
  have hg := (hst.lt g rfl)
  have hcap : l.length ≤ cap ∧ cap ≤ maxLen := by
    obtain ⟨g', cap', cur, e1, h1, h2, h3, h4, _⟩ := hst
    cases e1
    exact ⟨h3, h4⟩
  obtain ⟨S, hS⟩ : ∃ S : Nat → Prop, S = fun b => b ≠ w.heap.size ∧ b ≠ w.heap.size + 1 ∧ b ≠ g ∧ b ≠ q := ⟨_, rfl⟩
  clear hst hd hll
  unfold maxLen at hcap
  go_enter Tryz.func25, Tryz.ntmps25
  go_wp2
  go_loopw [0] (fun sx wr => ∃ l', (∃ r, l = l' ++ r) ∧ sx = .slice (some ⟨g, 0, none⟩) l'.length cap ∧ (∃ d', endedM l.reverse (.mk k i s m) = endedM l'.reverse d' ∧ BoxS wr w.heap.size S d') ∧ Below w.heap.size w wr ∧ wr.heap[w.heap.size + 1]? = some (.cells #[.int .i64 0, .int .i64 0, .string ⟨#[]⟩, .slice none 0 0] 34 (0, 0))) (fun sx _ => lenOf sx)
  case atStart =>
    have hb3 := ((Below.refl w.heap.size w).alloc (Nat.le_refl _) (.cells #[.int .i64 k, .int .i64 i, .string s, .slice ax m.length cx] 34)).alloc (by rw [size_new]; omega) (.cells #[.int .i64 0, .int .i64 0, .string ⟨#[]⟩, .slice none 0 0] 34)
    refine ⟨l, ⟨[], by simp⟩, rfl, ⟨_, rfl, k, i, s, m, _, rfl, HD.out.1, HD.out.2.1, HD.out.2.2.1, Dat.blk_alloc (heap_alloc_new w _), ?_⟩, hb3, new2 w _ _⟩
    obtain ⟨g', cap', cur, e1, _, h2, _, _, _, h6, _⟩ := HST.out
    cases e1
    have h1 := HD.out.2.2.2.far (nostr_cell h2 h6)
    have hboth : InS w S m (.slice ax m.length cx) := by
      rw [hS]
      exact ins_and h1
    exact hboth.move (fun b hb _ => hb) (fun b o u hb hc => by
      rw [World.cell?_of_block (w := w) (a := ⟨b, o, none⟩) (hb3.block b (World.block_lt_of_cell? _ _ hc))]; exact hc)
  case round =>
    obtain ⟨l', ⟨r, hr⟩, rfl, ⟨d', hen, hbox⟩, hbr, hres⟩ := hrel
    obtain ⟨k', i', s', m', v', rfl, ok1, ok2, ok3, hcell, hin⟩ := hbox
    obtain ⟨av, cv, ev, _⟩ := id hin
    subst ev
    have hP := lt_of_block hcell
    have p0 : wr.cell? ⟨w.heap.size, 0, none⟩ = some (.int .i64 k') := by rw [Lib.cell_of_heap hcell]; rfl
    have p1 : wr.cell? ⟨w.heap.size, 1, none⟩ = some (.int .i64 i') := by rw [Lib.cell_of_heap hcell]; rfl
    have p2 : wr.cell? ⟨w.heap.size, 2, none⟩ = some (.string s') := by rw [Lib.cell_of_heap hcell]; rfl
    have p3 : wr.cell? ⟨w.heap.size, 3, none⟩ = some (.slice av m'.length cv) := by rw [Lib.cell_of_heap hcell]; rfl
    have f0 := Lib.frozen_of_heap hcell 0
    have f1 := Lib.frozen_of_heap hcell 1
    have f2 := Lib.frozen_of_heap hcell 2
    have f3 := Lib.frozen_of_heap hcell 3
    have HIN := Lib.hid hin
    have HCELL := Lib.hid hcell
    have HEN := Lib.hid hen
    have HBR := Lib.hid hbr
    have HRES := Lib.hid hres
    have HR := Lib.hid hr
    clear hin hcell hen hbr hres hr
    have hcase : l' = [] ∨ ∃ l1 o, l' = l1 ++ [o] := by
      by_cases h0 : l' = []
      · exact .inl h0
      · exact .inr ⟨l'.dropLast, l'.getLast h0, (List.dropLast_concat_getLast h0).symm⟩
    rcases hcase with rfl | ⟨l1, o, rfl⟩
    · clear f0 f1 f2 f3
      have r0 : wr.cell? ⟨w.heap.size + 1, 0, none⟩ = some (.int .i64 0) := by rw [Lib.cell_of_heap HRES.out]; rfl
      have r1 : wr.cell? ⟨w.heap.size + 1, 1, none⟩ = some (.int .i64 0) := by rw [Lib.cell_of_heap HRES.out]; rfl
      have r2 : wr.cell? ⟨w.heap.size + 1, 2, none⟩ = some (.string ⟨#[]⟩) := by rw [Lib.cell_of_heap HRES.out]; rfl
      have r3 : wr.cell? ⟨w.heap.size + 1, 3, none⟩ = some (.slice none 0 0) := by rw [Lib.cell_of_heap HRES.out]; rfl
      have q0 := Lib.frozen_of_heap HRES.out 0
      have q1 := Lib.frozen_of_heap HRES.out 1
      have q2 := Lib.frozen_of_heap HRES.out 2
      have q3 := Lib.frozen_of_heap HRES.out 3
      go_wp2
      go_region
      go_wp2
      have hrow := Dat.row_set4 HRES.out (.int .i64 k') (.int .i64 i') (.string s') (.slice av m'.length cv)
      have hle : w.heap.size ≤ w.heap.size + 1 := Nat.le_succ _
      have hbe := ((((HBR.out.setCell (p := ⟨w.heap.size + 1, 0, none⟩) hle (.int .i64 k')).setCell (p := ⟨w.heap.size + 1, 1, none⟩) hle (.int .i64 i')).setCell (p := ⟨w.heap.size + 1, 2, none⟩) hle (.string s')).setCell (p := ⟨w.heap.size + 1, 3, none⟩) hle (.slice av m'.length cv)).drew
      refine bodyPost_ret (ended_results (b := w.heap.size + 1) (y0 := .int .i64 k') (y1 := .int .i64 i') (y2 := .string s') (y3 := .slice av m'.length cv) (by exact hrow) _ (.slice (some ⟨g, 0, none⟩) 0 cap) (.bool true) rfl rfl rfl) rfl ⟨?_, hbe.mono hC, fun b hb _ => hbe.block b hb⟩
      · refine .inr ⟨_, k', i', s', m', _, ?_, ?_, ⟨ok1, ok2, ok3, ?_⟩, rfl⟩
        · rw [HEN.out]; rfl
        · have h1 := HST.out.front (l1 := []) (r := l) rfl
          exact h1.moved hbe
        · have h2 := HIN.out
          rw [hS] at h2
          exact h2.move (S' := (· ≠ q)) (fun _ hb _ => hb.2.2.2) (fun b o u hb hc => by
            refine (World.cell?_of_block (w := wr) (a := ⟨b, o, none⟩) ?_).trans hc
            have hne := hb.2.1
            show ((((wr.setCell ⟨w.heap.size + 1, 0, none⟩ (.int .i64 k')).setCell ⟨w.heap.size + 1, 1, none⟩ (.int .i64 i')).setCell ⟨w.heap.size + 1, 2, none⟩ (.string s')).setCell ⟨w.heap.size + 1, 3, none⟩ (.slice av m'.length cv)).heap[b]? = wr.heap[b]?
            rw [Below.heap_setCell _ _ _ _ (by show b ≠ _; exact hne), Below.heap_setCell _ _ _ _ (by show b ≠ _; exact hne), Below.heap_setCell _ _ _ _ (by show b ≠ _; exact hne), Below.heap_setCell _ _ _ _ (by show b ≠ _; exact hne)])
    · have hlen : (l1 ++ [o]).length = l1.length + 1 := by simp
      obtain ⟨vo, a0, a1, a2, a3, a4⟩ := stk_top HST.out (l1 := l1) (o := o) (l2 := r) HR.out
      have hgk := HBR.out.block g hg.2
      have t0 := (World.cell?_of_block (a := ⟨g, l1.length * 3, none⟩) hgk).trans a0
      have t1 := (World.cell?_of_block (a := ⟨g, l1.length * 3 + 1, none⟩) hgk).trans a1
      have t4 : wr.frozen? ⟨g, l1.length * 3 + 1, none⟩ = false := by simp only [World.frozen?] at a4 ⊢; rw [hgk]; exact a4
      have A3 := Lib.hid a3
      obtain ⟨ao, co, rfl, _⟩ := id a3
      have hR := lt_of_block HRES.out
      have hl1 : l1.length + 1 ≤ 32 := by
        have := congrArg List.length HR.out
        simp only [List.length_append, List.length_cons, List.length_nil] at this
        omega
      have hl2 : (l1.length : Int) + 1 ≤ (cap : Int) := by
        have := congrArg List.length HR.out
        simp only [List.length_append, List.length_cons, List.length_nil] at this
        omega
      have hl3 : (l1.length : Int) ≤ (cap : Int) := by omega
      have hl4 : l1.length ≤ cap := by omega
      rw [hlen]
      clear a0 a1 a2 a3 a4 hgk
      by_cases h3 : o.kind = 3
      · rw [h3] at t0
        go_wp2
        have hrow := Dat.row_set4 HCELL.out (.int .i64 5) (.int .i64 0) (.string ⟨#[]⟩) (.slice (some ⟨wr.heap.size, 0, none⟩) 2 2)
        have hother : ∀ q, q ≠ w.heap.size → ((((wr.setCell ⟨w.heap.size, 0, none⟩ (.int .i64 5)).setCell ⟨w.heap.size, 1, none⟩ (.int .i64 0)).setCell ⟨w.heap.size, 2, none⟩ (.string ⟨#[]⟩)).setCell ⟨w.heap.size, 3, none⟩ (.slice (some ⟨wr.heap.size, 0, none⟩) 2 2)).heap[q]? = wr.heap[q]? := fun q hq => by
          rw [Below.heap_setCell _ _ _ _ (by show q ≠ _; exact hq), Below.heap_setCell _ _ _ _ (by show q ≠ _; exact hq), Below.heap_setCell _ _ _ _ (by show q ≠ _; exact hq), Below.heap_setCell _ _ _ _ (by show q ≠ _; exact hq)]
        have hsz4 : ((((wr.setCell ⟨w.heap.size, 0, none⟩ (.int .i64 5)).setCell ⟨w.heap.size, 1, none⟩ (.int .i64 0)).setCell ⟨w.heap.size, 2, none⟩ (.string ⟨#[]⟩)).setCell ⟨w.heap.size, 3, none⟩ (.slice (some ⟨wr.heap.size, 0, none⟩) 2 2)).heap.size = wr.heap.size := by
          rw [size_put, size_put, size_put, size_put]
        have hle : w.heap.size ≤ w.heap.size := Nat.le_refl _
        have hb4 := (((HBR.out.setCell (p := ⟨w.heap.size, 0, none⟩) hle (.int .i64 5)).setCell (p := ⟨w.heap.size, 1, none⟩) hle (.int .i64 0)).setCell (p := ⟨w.heap.size, 2, none⟩) hle (.string ⟨#[]⟩)).setCell (p := ⟨w.heap.size, 3, none⟩) hle (.slice (some ⟨wr.heap.size, 0, none⟩) 2 2)
        refine ⟨⟨l1, ⟨[o] ++ r, by rw [HR.out, List.append_assoc]⟩, rfl, ⟨quoteD (.mk k' i' s' m'), ?_, ?_⟩, ?_, ?_⟩, ?_⟩
        · rw [HEN.out, ended_app, if_pos h3]
        · refine boxS_next ok1 ok2 ok3 HIN.out ?_ ?_ (fun q hq hne => ?_) ?_ ?_
          · rw [hS]; have := HBR.out.size; simp only []; omega
          · rw [hS]; simp
          · rw [Lib.alloc_old _ _ _ (by rw [hsz4]; exact hq)]; exact hother q hne
          · have := heap_alloc_new ((((wr.setCell ⟨w.heap.size, 0, none⟩ (.int .i64 5)).setCell ⟨w.heap.size, 1, none⟩ (.int .i64 0)).setCell ⟨w.heap.size, 2, none⟩ (.string ⟨#[]⟩)).setCell ⟨w.heap.size, 3, none⟩ (.slice (some ⟨wr.heap.size, 0, none⟩) 2 2)) (.cells #[.int .i64 4, .int .i64 0, .string quoteS, .slice none 0 0, .int .i64 k', .int .i64 i', .string s', .slice av m'.length cv] 34)
            rw [hsz4] at this
            exact this
          · rw [Lib.alloc_old _ _ _ (by rw [hsz4]; exact hP)]; exact hrow
        · exact hb4.alloc (by rw [hsz4]; exact HBR.out.size) _
        · rw [Lib.alloc_old _ _ _ (by rw [hsz4]; exact hR), hother _ (by omega)]; exact HRES.out
        · simp [lenOf]
      · have h3b : (o.kind != 3) = true := by simpa using h3
        generalize o.kind = okk at t0 h3b
        have HLO : Hid (o.list.length ≤ 5000) := Lib.hid (HLL.out o (by rw [HR.out]; simp))
        have hw2 : w.heap.size + 2 ≤ wr.heap.size := by omega
        have hwg : g < wr.heap.size := by omega
        obtain ⟨S', hS0⟩ : ∃ S' : Nat → Prop, S' = fun b => b < wr.heap.size ∧ b ≠ w.heap.size ∧ b ≠ w.heap.size + 1 ∧ b ≠ g ∧ b ≠ q := ⟨_, rfl⟩
        have hS' : ∀ b, S' b → b < wr.heap.size := fun b hb => by rw [hS0] at hb; exact hb.1
        have SO : Hid (∀ W, Below wr.heap.size wr W → SrcP W S' o.list (.slice ao o.list.length co)) := Lib.hid fun W hb => by
          obtain ⟨g', cap', cur, e1, _, h2, _, _, _, h6, _⟩ := HST.out
          cases e1
          have hi := ins_and (A3.out.far (nostr_cell h2 h6))
          have hwr := HBR.out.size
          refine (hi.move (w' := W) (S' := S') (fun b hb hlt => by rw [hS0]; exact ⟨by omega, hb.1, hb.2.1, hb.2.2.1, hb.2.2.2⟩) (fun b o' u _ hc => ?_)).src
          have hlt : b < w.heap.size := World.block_lt_of_cell? _ _ hc
          rw [World.cell?_of_block (w := wr) (a := ⟨b, o', none⟩) (hb.block b (by show b < _; omega)), World.cell?_of_block (w := w) (a := ⟨b, o', none⟩) (HBR.out.block b hlt)]
          exact hc
        have SV : Hid (∀ W, Below wr.heap.size wr W → InS W S' m' (.slice av m'.length cv)) := Lib.hid fun W hb => by
          have hi := HIN.out
          rw [hS] at hi
          exact hi.move (fun b hb hlt => by rw [hS0]; exact ⟨hlt, hb.1, hb.2.1, hb.2.2.1, hb.2.2.2⟩) (fun b o' u _ hc => by
            rw [World.cell?_of_block (w := wr) (a := ⟨b, o', none⟩) (hb.block b (World.block_lt_of_cell? _ _ hc))]; exact hc)
        have CLT : Hid (∀ W, Below wr.heap.size wr W → W.cell? ⟨w.heap.size, 0, none⟩ = some (.int .i64 k') ∧ W.cell? ⟨w.heap.size, 1, none⟩ = some (.int .i64 i') ∧ W.cell? ⟨w.heap.size, 2, none⟩ = some (.string s') ∧ W.cell? ⟨w.heap.size, 3, none⟩ = some (.slice av m'.length cv) ∧ W.cell? ⟨g, l1.length * 3 + 1, none⟩ = some (.slice ao o.list.length co) ∧ W.frozen? ⟨g, l1.length * 3 + 1, none⟩ = false) := Lib.hid fun W hb => by
          have h := fun o => World.cell?_of_block (w := wr) (a := ⟨w.heap.size, o, none⟩) (hb.block w.heap.size hP)
          have hg2 := hb.block g hwg
          exact ⟨(h 0).trans p0, (h 1).trans p1, (h 2).trans p2, (h 3).trans p3, (World.cell?_of_block (w := wr) (a := ⟨g, l1.length * 3 + 1, none⟩) hg2).trans t1, by simp only [World.frozen?] at t4 ⊢; rw [hg2]; exact t4⟩
        have Q0 := Lib.hid (((Below.refl wr.heap.size wr).alloc (Nat.le_refl _) (.cells #[] 34)).drew)
        have Q01 := Lib.hid ((((Below.refl wr.heap.size wr).alloc (Nat.le_refl _) (.cells #[] 34)).alloc (by rw [size_new]; omega) (.cells #[.int .i64 k', .int .i64 i', .string s', .slice av m'.length cv] 34)).drew)
        have Q10 := Lib.hid ((((Below.refl wr.heap.size wr).alloc (Nat.le_refl _) (.cells #[.int .i64 k', .int .i64 i', .string s', .slice av m'.length cv] 34)).alloc (by rw [size_new]; omega) (.cells #[] 34)).drew)
        have N0 := Lib.hid (heap_alloc_new wr (.cells #[] 34))
        have N00 := Lib.hid (blk_skip' (o := (.cells #[.int .i64 k', .int .i64 i', .string s', .slice av m'.length cv] 34)) N0.out)
        have N01 := Lib.hid (new2 wr (.cells #[] 34) (.cells #[.int .i64 k', .int .i64 i', .string s', .slice av m'.length cv] 34))
        have N10 := Lib.hid (new2 wr (.cells #[.int .i64 k', .int .i64 i', .string s', .slice av m'.length cv] 34) (.cells #[] 34))
        have N11 := Lib.hid (blk_skip' (o := (.cells #[] 34)) (heap_alloc_new wr (.cells #[.int .i64 k', .int .i64 i', .string s', .slice av m'.length cv] 34)))
        have hn1 : ([] : List PT).length + o.list.length ≤ 1000000 := by have := HLO.out; simp; omega
        have hn2 : o.list.length + [PT.mk k' i' s' m'].length ≤ 1000000 := by have := HLO.out; simp; omega
        have FIN : Hid (∀ (w8 : World) (g8 c8 : Nat), Below wr.heap.size wr w8 → RowOwnS w8 wr.heap.size S' (o.list ++ [.mk k' i' s' m']) (.slice (some ⟨g8, 0, none⟩) (o.list ++ [PT.mk k' i' s' m']).length c8) →
            (((((w8.setCell ⟨g, l1.length * 3 + 1, none⟩ (.slice (some ⟨g8, 0, none⟩) (o.list.length + 1) c8)).setCell ⟨w.heap.size + 1, 0, none⟩ (.int .i64 0)).setCell ⟨w.heap.size + 1, 1, none⟩ (.int .i64 0)).setCell ⟨w.heap.size + 1, 2, none⟩ (.string ⟨#[]⟩)).setCell ⟨w.heap.size + 1, 3, none⟩ (.slice none 0 0)).heap[w.heap.size + 1]? = some (.cells #[.int .i64 0, .int .i64 0, .string ⟨#[]⟩, .slice none 0 0] 34 (0, 0)) ∧
            GotE l (.mk k i s m) C q (.returned (.tuple #[.slice (some ⟨g, 0, none⟩) (l1.length + 1) cap, .agg #[.int .i64 0, .int .i64 0, .string ⟨#[]⟩, .slice none 0 0], .bool false])) (((((w8.setCell ⟨g, l1.length * 3 + 1, none⟩ (.slice (some ⟨g8, 0, none⟩) (o.list.length + 1) c8)).setCell ⟨w.heap.size + 1, 0, none⟩ (.int .i64 0)).setCell ⟨w.heap.size + 1, 1, none⟩ (.int .i64 0)).setCell ⟨w.heap.size + 1, 2, none⟩ (.string ⟨#[]⟩)).setCell ⟨w.heap.size + 1, 3, none⟩ (.slice none 0 0)) ∧ Below C w (((((w8.setCell ⟨g, l1.length * 3 + 1, none⟩ (.slice (some ⟨g8, 0, none⟩) (o.list.length + 1) c8)).setCell ⟨w.heap.size + 1, 0, none⟩ (.int .i64 0)).setCell ⟨w.heap.size + 1, 1, none⟩ (.int .i64 0)).setCell ⟨w.heap.size + 1, 2, none⟩ (.string ⟨#[]⟩)).setCell ⟨w.heap.size + 1, 3, none⟩ (.slice none 0 0)) ∧ KeptBut (.slice (some ⟨g, 0, none⟩) l.length cap) w (((((w8.setCell ⟨g, l1.length * 3 + 1, none⟩ (.slice (some ⟨g8, 0, none⟩) (o.list.length + 1) c8)).setCell ⟨w.heap.size + 1, 0, none⟩ (.int .i64 0)).setCell ⟨w.heap.size + 1, 1, none⟩ (.int .i64 0)).setCell ⟨w.heap.size + 1, 2, none⟩ (.string ⟨#[]⟩)).setCell ⟨w.heap.size + 1, 3, none⟩ (.slice none 0 0))) := Lib.hid fun w8 g8 c8 B8 o8 => by
          have elen : (o.list ++ [PT.mk k' i' s' m']).length = o.list.length + 1 := by simp
          rw [elen] at o8
          have hres8 := (B8.block _ hR).trans HRES.out
          have hgR : g ≠ w.heap.size + 1 := by omega
          have hother : ∀ b, b ≠ g → b ≠ w.heap.size + 1 → (((((w8.setCell ⟨g, l1.length * 3 + 1, none⟩ (.slice (some ⟨g8, 0, none⟩) (o.list.length + 1) c8)).setCell ⟨w.heap.size + 1, 0, none⟩ (.int .i64 0)).setCell ⟨w.heap.size + 1, 1, none⟩ (.int .i64 0)).setCell ⟨w.heap.size + 1, 2, none⟩ (.string ⟨#[]⟩)).setCell ⟨w.heap.size + 1, 3, none⟩ (.slice none 0 0)).heap[b]? = w8.heap[b]? := fun b h1 h2 => by
            rw [Below.heap_setCell _ _ _ _ (by show b ≠ _; exact h2), Below.heap_setCell _ _ _ _ (by show b ≠ _; exact h2), Below.heap_setCell _ _ _ _ (by show b ≠ _; exact h2), Below.heap_setCell _ _ _ _ (by show b ≠ _; exact h2), Below.heap_setCell _ _ _ _ (by show b ≠ _; exact h1)]
          have hgcell : (((((w8.setCell ⟨g, l1.length * 3 + 1, none⟩ (.slice (some ⟨g8, 0, none⟩) (o.list.length + 1) c8)).setCell ⟨w.heap.size + 1, 0, none⟩ (.int .i64 0)).setCell ⟨w.heap.size + 1, 1, none⟩ (.int .i64 0)).setCell ⟨w.heap.size + 1, 2, none⟩ (.string ⟨#[]⟩)).setCell ⟨w.heap.size + 1, 3, none⟩ (.slice none 0 0)).heap[g]? = (w8.setCell ⟨g, l1.length * 3 + 1, none⟩ (.slice (some ⟨g8, 0, none⟩) (o.list.length + 1) c8)).heap[g]? := by
            rw [Below.heap_setCell _ _ _ _ (by show g ≠ _; exact hgR), Below.heap_setCell _ _ _ _ (by show g ≠ _; exact hgR), Below.heap_setCell _ _ _ _ (by show g ≠ _; exact hgR), Below.heap_setCell _ _ _ _ (by show g ≠ _; exact hgR)]
          have hres9 : (w8.setCell ⟨g, l1.length * 3 + 1, none⟩ (.slice (some ⟨g8, 0, none⟩) (o.list.length + 1) c8)).heap[w.heap.size + 1]? = some (.cells #[.int .i64 0, .int .i64 0, .string ⟨#[]⟩, .slice none 0 0] 34 (0, 0)) := by
            rw [Below.heap_setCell _ _ _ _ (by show w.heap.size + 1 ≠ g; omega)]; exact hres8
          have hrow := Dat.row_set4 hres9 (.int .i64 0) (.int .i64 0) (.string ⟨#[]⟩) (.slice none 0 0)
          have hwr := HBR.out.size
          have h8 := B8.size
          have hszf : (((((w8.setCell ⟨g, l1.length * 3 + 1, none⟩ (.slice (some ⟨g8, 0, none⟩) (o.list.length + 1) c8)).setCell ⟨w.heap.size + 1, 0, none⟩ (.int .i64 0)).setCell ⟨w.heap.size + 1, 1, none⟩ (.int .i64 0)).setCell ⟨w.heap.size + 1, 2, none⟩ (.string ⟨#[]⟩)).setCell ⟨w.heap.size + 1, 3, none⟩ (.slice none 0 0)).heap.size = w8.heap.size := by rw [size_put, size_put, size_put, size_put, size_put]
          have hbel : Below C w (((((w8.setCell ⟨g, l1.length * 3 + 1, none⟩ (.slice (some ⟨g8, 0, none⟩) (o.list.length + 1) c8)).setCell ⟨w.heap.size + 1, 0, none⟩ (.int .i64 0)).setCell ⟨w.heap.size + 1, 1, none⟩ (.int .i64 0)).setCell ⟨w.heap.size + 1, 2, none⟩ (.string ⟨#[]⟩)).setCell ⟨w.heap.size + 1, 3, none⟩ (.slice none 0 0)) := by
            have b0 := (HBR.out.trans (B8.mono hwr)).mono hC
            have q : ∀ j, C ≤ (⟨w.heap.size + 1, j, none⟩ : Addr).block := fun j => by show C ≤ w.heap.size + 1; omega
            exact (((((b0.setCell (p := ⟨g, l1.length * 3 + 1, none⟩) hg.1 _).setCell (q 0) _).setCell (q 1) _).setCell (q 2) _).setCell (q 3) _)
          refine ⟨hrow, .inl ⟨l1 ++ [⟨o.kind, o.list ++ [.mk k' i' s' m'], o.dot⟩], _, ?_, ?_, rfl⟩, hbel, ?_⟩
          · rw [HEN.out, ended_app, if_neg h3]
          · refine stk_put HST.out HR.out (o.list ++ [.mk k' i' s' m']) (some ⟨g8, 0, none⟩) c8 ?_ ?_ ?_
            · rw [elen]
              have hi := o8.ins
              rw [hS0] at hi
              have hqw : q < wr.heap.size := by omega
              exact hi.move (w' := (((((w8.setCell ⟨g, l1.length * 3 + 1, none⟩ (.slice (some ⟨g8, 0, none⟩) (o.list.length + 1) c8)).setCell ⟨w.heap.size + 1, 0, none⟩ (.int .i64 0)).setCell ⟨w.heap.size + 1, 1, none⟩ (.int .i64 0)).setCell ⟨w.heap.size + 1, 2, none⟩ (.string ⟨#[]⟩)).setCell ⟨w.heap.size + 1, 3, none⟩ (.slice none 0 0))) (S' := (· ≠ q)) (fun b hb _ => hb.elim (fun h => h.2.2.2.2) (fun h => by omega)) (fun b o' u hb hc => by
                refine (World.cell?_of_block (w := w8) (a := ⟨b, o', none⟩) (hother b ?_ ?_)).trans hc
                · rcases hb with hb | hb
                  · exact hb.2.2.2.1
                  · omega
                · rcases hb with hb | hb
                  · exact hb.2.2.1
                  · omega)
            · rw [elen, hgcell]
              obtain ⟨g', cap', cur, e1, _, h2, _⟩ := HST.out
              cases e1
              have h2w : w8.heap[g]? = _ := (B8.block g hwg).trans ((HBR.out.block g hg.2).trans h2)
              rw [heap_setCell_same w8 g _ cur _ _ h2w, heap_setCell_same w g _ cur _ _ h2]
            · intro b hb hbg
              rw [hother b hbg (by omega), B8.block b (by omega), HBR.out.block b hb]
          · intro b hb hbg0
            have hbg : b ≠ g := fun e => hbg0 (by rw [e]; rfl)
            rw [hother b hbg (by omega), B8.block b (by omega), HBR.out.block b hb]
        clear f0 f1 f2 f3
        go_wp2
        have hidx : (l1.length : Int) < (l1.length : Int) + 1 := by omega
        have hidx0 : (0 : Int) ≤ (l1.length : Int) := by omega
        go_region_law (first
            | (refine step_append_rowS (w := ((wr.alloc (.cells #[] 34)).alloc (.cells #[.int .i64 k', .int .i64 i', .string s', .slice av m'.length cv] 34)).drew) rfl _ _ rfl wr.heap.size S' hS' [] o.list (.slice (some ⟨wr.heap.size, 0, none⟩) 0 0) (.slice ao o.list.length co) rfl rfl (rowS_nil N00.out (by omega)) (SO.out _ Q01.out) hn1 (by have := (Q01.out : Below wr.heap.size wr ((wr.alloc (.cells #[] 34)).alloc (.cells #[.int .i64 k', .int .i64 i', .string s', .slice av m'.length cv] 34)).drew).size; exact this) ?_
               intro v7 w7 o7 hb7 hk7
               have B7 : Below wr.heap.size wr w7 := (Q01.out : Below wr.heap.size wr ((wr.alloc (.cells #[] 34)).alloc (.cells #[.int .i64 k', .int .i64 i', .string s', .slice av m'.length cv] 34)).drew).trans hb7
               have hz7 : wr.heap.size ≤ w7.heap.size := B7.size
               obtain ⟨z0, z1, z2, z3, z4, z5⟩ := CLT.out _ B7
               have T7 := (hk7 (wr.heap.size + 1) (by show wr.heap.size + 1 < ((wr.alloc (.cells #[] 34)).alloc (.cells #[.int .i64 k', .int .i64 i', .string s', .slice av m'.length cv] 34)).heap.size; rw [size_new, size_new]; omega) (by simp [Value.ownBlock])).trans N01.out)
            | (refine step_append_rowS (w := ((wr.alloc (.cells #[.int .i64 k', .int .i64 i', .string s', .slice av m'.length cv] 34)).alloc (.cells #[] 34)).drew) rfl _ _ rfl wr.heap.size S' hS' [] o.list (.slice (some ⟨wr.heap.size + 1, 0, none⟩) 0 0) (.slice ao o.list.length co) rfl rfl (rowS_nil N10.out (by omega)) (SO.out _ Q10.out) hn1 (by have := (Q10.out : Below wr.heap.size wr ((wr.alloc (.cells #[.int .i64 k', .int .i64 i', .string s', .slice av m'.length cv] 34)).alloc (.cells #[] 34)).drew).size; exact this) ?_
               intro v7 w7 o7 hb7 hk7
               have B7 : Below wr.heap.size wr w7 := (Q10.out : Below wr.heap.size wr ((wr.alloc (.cells #[.int .i64 k', .int .i64 i', .string s', .slice av m'.length cv] 34)).alloc (.cells #[] 34)).drew).trans hb7
               have hz7 : wr.heap.size ≤ w7.heap.size := B7.size
               obtain ⟨z0, z1, z2, z3, z4, z5⟩ := CLT.out _ B7
               have T7 := (hk7 wr.heap.size (by show wr.heap.size < ((wr.alloc (.cells #[.int .i64 k', .int .i64 i', .string s', .slice av m'.length cv] 34)).alloc (.cells #[] 34)).heap.size; rw [size_new, size_new]; omega) (by simp [Value.ownBlock])).trans N11.out)
            | (refine step_append_rowS (w := (wr.alloc (.cells #[] 34)).drew) rfl _ _ rfl wr.heap.size S' hS' [] o.list (.slice (some ⟨wr.heap.size, 0, none⟩) 0 0) (.slice ao o.list.length co) rfl rfl (rowS_nil N0.out (by omega)) (SO.out _ Q0.out) hn1 (by have := (Q0.out : Below wr.heap.size wr (wr.alloc (.cells #[] 34)).drew).size; exact this) ?_
               intro v7 w7 o7 hb7 hk7
               have B7 : Below wr.heap.size wr w7 := (Q0.out : Below wr.heap.size wr (wr.alloc (.cells #[] 34)).drew).trans hb7
               have hz7 : wr.heap.size ≤ w7.heap.size := B7.size
               obtain ⟨z0, z1, z2, z3, z4, z5⟩ := CLT.out _ B7)
            | (refine step_append_rowS (w := w7) rfl _ _ rfl wr.heap.size S' hS' o.list [.mk k' i' s' m'] v7 _ rfl rfl o7 (src_oneP T7 ok1 ok2 ok3 (SV.out _ B7)) hn2 hz7 ?_
               intro v8 w8 o8 hb8 hk8
               have B8 : Below wr.heap.size wr w8 := B7.trans hb8
               obtain ⟨g8, c8, rfl⟩ := rowS_shape o8 (by simp)
               obtain ⟨y0, y1, y2, y3, y4, y5⟩ := CLT.out _ B8)
            | (refine step_append_rowS (w := w7.alloc (.cells #[.int .i64 k', .int .i64 i', .string s', .slice av m'.length cv] 34)) rfl _ _ rfl wr.heap.size S' hS' o.list [.mk k' i' s' m'] v7 _ rfl rfl (rowS_alloc o7 _) (src_oneP (heap_alloc_new w7 _) ok1 ok2 ok3 (SV.out _ (bel_alloc' B7 _))) hn2 (by rw [size_new]; omega) ?_
               intro v8 w8 o8 hb8 hk8
               have B8 : Below wr.heap.size wr w8 := (bel_alloc' B7 _).trans hb8
               obtain ⟨g8, c8, rfl⟩ := rowS_shape o8 (by simp)
               obtain ⟨y0, y1, y2, y3, y4, y5⟩ := CLT.out _ B8))
        all_goals
          have hres8 := (B8.block _ hR).trans HRES.out
          have r0 : w8.cell? ⟨w.heap.size + 1, 0, none⟩ = some (.int .i64 0) := by rw [Lib.cell_of_heap hres8]; rfl
          have r1 : w8.cell? ⟨w.heap.size + 1, 1, none⟩ = some (.int .i64 0) := by rw [Lib.cell_of_heap hres8]; rfl
          have r2 : w8.cell? ⟨w.heap.size + 1, 2, none⟩ = some (.string ⟨#[]⟩) := by rw [Lib.cell_of_heap hres8]; rfl
          have r3 : w8.cell? ⟨w.heap.size + 1, 3, none⟩ = some (.slice none 0 0) := by rw [Lib.cell_of_heap hres8]; rfl
          have q0 := Lib.frozen_of_heap hres8 0
          have q1 := Lib.frozen_of_heap hres8 1
          have q2 := Lib.frozen_of_heap hres8 2
          have q3 := Lib.frozen_of_heap hres8 3
          obtain ⟨hrow, hpost⟩ := FIN.out w8 g8 c8 B8 o8
          have HROW := Lib.hid hrow
          have HPOST := Lib.hid hpost
          clear hres8 hrow hpost
          go_wp2
          first
            | exact bodyPost_ret (ended_results (b := w.heap.size + 1) (y0 := .int .i64 0) (y1 := .int .i64 0) (y2 := .string ⟨#[]⟩) (y3 := .slice none 0 0) HROW.out _ (.slice (some ⟨g, 0, none⟩) (l1.length + 1) cap) (.bool false) rfl rfl rfl) rfl HPOST.out
            | (trace_state; sorry)
end Go.Proofs.YthfjlcflpneffaaGreatDoor
