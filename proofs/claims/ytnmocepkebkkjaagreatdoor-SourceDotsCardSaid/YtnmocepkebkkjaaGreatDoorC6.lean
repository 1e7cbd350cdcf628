/-
The walk of the law SourceQuotes, for every datum and number.
-/
import Derived.Test.YtnmocepkebkkjaaGreatDoorC4
import Derived.Test.YtnmocepkebkkjaaGreatDoorC5
namespace Go.Proofs.YtnmocepkebkkjaaGreatDoor
open Go.ChangeShapes Go.WideShapes Go.ChangeAt Go.RowKit
open Dat (PT makeT RepS RepV NewS samesB textT textsT FormOk checkB toldT RepAt repD_mk)

set_option maxRecDepth 100000 in
theorem quotes_out (k i : Int) (s : ByteArray) (m : List PT) (x : Value) (n : Int) (hn : Dat.ok64 n) (w : World) (hv : RepV w w.heap.size (.mk k i s m) x) (hT : LaidOk w) (h2 : 2 ≤ w.heap.size)
    (h0 : (checkB (.mk k i s m) != 0) = true ∨ checkB (.mk k i s m) = 0 ∧ (500 : Int) < ((toldT false (.mk k i s m)).length : Int) ∨ checkB (.mk k i s m) = 0 ∧ ¬ (500 : Int) < ((toldT false (.mk k i s m)).length : Int) ∧ n < 0 ∨ checkB (.mk k i s m) = 0 ∧ ¬ (500 : Int) < ((toldT false (.mk k i s m)).length : Int) ∧ ¬ n < 0 ∧ 40 < n) :
    Calls Tryz.prog 7 #[.agg #[.int .i64 k, .int .i64 i, .string s, x], .int .i64 n] w fun e w' => e = .returned (.bool true) ∧ Below w.heap.size w w' := by
  have K1 : Hid (∀ W, Below w.heap.size w W → Calls Tryz.prog 15 #[.agg #[.int .i64 k, .int .i64 i, .string s, x]] W fun e w' => e = .returned (.tuple #[.string ⟨(toldT false (.mk k i s m)).toArray⟩, .int .i64 (checkB (.mk k i s m))]) ∧ Below W.heap.size W w') :=
    Lib.hid fun W hb => Dat.text_any (.mk k i s m) x W w.heap.size ⟨hv.1, hv.2.1, hv.2.2.1, hv.2.2.2.below hb (Nat.le_refl _)⟩ hb.size (Nat.le_trans h2 hb.size) (Dat.tabOk_below hT.2 hb h2)
  have K3 := Lib.hid (fun W (h : Below w.heap.size w W) => fixed4_any W ⟨hT.1.below h hT.1.two, Dat.tabOk_below hT.2 h h2⟩ (Nat.le_trans h2 h.size))
  have hz : ((⟨(toldT false (.mk k i s m)).toArray⟩ : ByteArray).size : Int) = ((toldT false (.mk k i s m)).length : Int) := by rw [size_mk]
  rw [← hz] at h0
  generalize (⟨(toldT false (.mk k i s m)).toArray⟩ : ByteArray) = tx at K1 h0
  generalize checkB (.mk k i s m) = er at K1 h0
  obtain ⟨n1, n2⟩ := hn
  obtain ⟨a, c, rfl, _⟩ := hv.2.2.2
  clear hT h2 hz hv
  go_enter Tryz.func7, Tryz.ntmps7
  go_wp2_with fail
  refine (K1.out _ ((Below.refl _ _).alloc (Nat.le_refl _) _)).mono ?_
  rintro e w1 ⟨rfl, hb1⟩
  have B1 := Lib.hid (((Below.refl w.heap.size w).alloc (Nat.le_refl _) _).trans (hb1.mono (by simp)))
  clear hb1
  go_wp2_with fail
  refine (K3.out _ B1.out).mono ?_
  rintro e w3 ⟨rfl, hb3⟩
  have B3 := Lib.hid (B1.out.trans (hb3.mono B1.out.size))
  clear hb3
  rcases h0 with h0 | ⟨rfl, h0⟩ | ⟨rfl, h0, h1⟩ | ⟨rfl, h0, h1, h4⟩
  all_goals
    go_wp2_with fail
    refine (K3.out _ B3.out).mono ?_
    rintro e w4 ⟨rfl, hb4⟩
    have B4 := Lib.hid (B3.out.trans (hb4.mono B3.out.size))
    clear hb4
    go_wp2
    go_ret
    exact ⟨rfl, B4.out⟩

/-- What holds of the loop's box: it holds a datum whose rows lie elsewhere. -/
def BoxD (w : World) (P : Nat) (t : PT) : Prop :=
  ∃ k i s m v, t = .mk k i s m ∧ Dat.ok64 k ∧ Dat.ok64 i ∧ s.size ≤ maxLen ∧ w.heap[P]? = some (.cells #[.int .i64 k, .int .i64 i, .string s, v] 34 (0, 0)) ∧ InS w (· ≠ P) m v
theorem box_next {w w' : World} {P : Nat} {k i : Int} {s : ByteArray} {m : List PT} {v : Value} (h1 : Dat.ok64 k) (h2 : Dat.ok64 i) (h3 : s.size ≤ maxLen) (hm : InS w (· ≠ P) m v) (hP : P < w.heap.size)
    (hold : ∀ b, b < w.heap.size → b ≠ P → w'.heap[b]? = w.heap[b]?)
    (hnew : w'.heap[w.heap.size]? = some (.cells #[.int .i64 4, .int .i64 0, .string quoteS, .slice none 0 0, .int .i64 k, .int .i64 i, .string s, v] 34 (0, 0)))
    (hbox : w'.heap[P]? = some (.cells #[.int .i64 5, .int .i64 0, .string ⟨#[]⟩, .slice (some ⟨w.heap.size, 0, none⟩) 2 2] 34 (0, 0))) : BoxD w' P (quoteD (.mk k i s m)) := by
  have hcell : ∀ b o u, b ≠ P → w.cell? ⟨b, o, none⟩ = some u → w'.cell? ⟨b, o, none⟩ = some u := fun b o u hb hc => by
    rw [World.cell?_of_block (w := w) (a := ⟨b, o, none⟩) (hold b (World.block_lt_of_cell? _ _ hc) hb)]; exact hc
  have hm' : InS w' (· ≠ P) m v := hm.move (fun b hb _ => hb) (fun b o u hb hc => hcell b o u hb hc)
  refine ⟨5, 0, ⟨#[]⟩, _, _, rfl, Dat.ok_small (by decide), Dat.ok_small (by decide), by decide, hbox, ⟨_, 2, rfl, by simp, by decide, (fun h => by cases h), .inr ⟨w.heap.size, 0, rfl, by omega, ?_⟩⟩⟩
  rw [InAt, InAt, InAt, inD_mk, inD_mk]
  refine ⟨⟨Dat.ok_small (by decide), Dat.ok_small (by decide), by decide, ?_, ?_, ?_, .slice none 0 0, ?_, ⟨none, 0, rfl, Nat.le_refl _, Nat.zero_le _, fun _ => rfl, .inl rfl⟩⟩, ⟨h1, h2, h3, ?_, ?_, ?_, v, ?_, hm'⟩, trivial⟩
  all_goals (rw [Lib.cell_of_heap hnew]; rfl)

set_option maxRecDepth 100000 in
set_option maxHeartbeats 1000000 in
theorem quotes_main (k i : Int) (s : ByteArray) (m : List PT) (x : Value) (n : Nat) (w : World) (hv : RepV w w.heap.size (.mk k i s m) x) (hT : LaidOk w) (h2 : 2 ≤ w.heap.size)
    (h0 : checkB (.mk k i s m) = 0) (hl : (textT false (.mk k i s m)).length ≤ 500) (hn : n ≤ 40) :
    Calls Tryz.prog 7 #[.agg #[.int .i64 k, .int .i64 i, .string s, x], .int .i64 (n : Int)] w fun e w' => e = .returned (.bool true) ∧ Below w.heap.size w w' := by
  have hf := (check_back h0).1
  have K1 : Hid (∀ W, Below w.heap.size w W → Calls Tryz.prog 15 #[.agg #[.int .i64 k, .int .i64 i, .string s, x]] W fun e w' => e = .returned (.tuple #[.string ⟨(textT false (.mk k i s m)).toArray⟩, .int .i64 0]) ∧ Below W.heap.size W w') :=
    Lib.hid fun W hb => by
      have := Dat.text_any (.mk k i s m) x W w.heap.size ⟨hv.1, hv.2.1, hv.2.2.1, hv.2.2.2.below hb (Nat.le_refl _)⟩ hb.size (Nat.le_trans h2 hb.size) (Dat.tabOk_below hT.2 hb h2)
      rw [told_ok h0, h0] at this
      exact this
  have K3 := Lib.hid (fun W (h : Below w.heap.size w W) => fixed4_any W ⟨hT.1.below h hT.1.two, Dat.tabOk_below hT.2 h h2⟩ (Nat.le_trans h2 h.size))
  have HE := Lib.hid (fun W (h : Below w.heap.size w W) => hT.1.below h hT.1.two)
  obtain ⟨r1, r2, r3⟩ := read_quotes hf n hl hn
  obtain ⟨tx, htx⟩ : ∃ tx : ByteArray, tx = ⟨(textT false (.mk k i s m)).toArray⟩ := ⟨_, rfl⟩
  have HTX : Hid (tx.data.toList = textT false (.mk k i s m)) := Lib.hid (by rw [htx])
  rw [← htx] at K1
  have hsz : (tx.size : Int) ≤ 500 := by rw [htx, size_mk]; omega
  have hnn : (n : Int) ≤ 40 := by omega
  obtain ⟨a, c, rfl, _⟩ := hv.2.2.2
  have HV := Lib.hid hv
  have HR1 := Lib.hid r1
  have HR2 := Lib.hid r2
  have HR3 := Lib.hid r3
  clear hT h2 hv h0 hl hf htx r1 r2 r3
  go_enter Tryz.func7, Tryz.ntmps7
  go_wp2_with fail
  refine (K1.out _ ((Below.refl _ _).alloc (Nat.le_refl _) _)).mono ?_
  rintro e w1 ⟨rfl, hb1⟩
  have B1 := Lib.hid (((Below.refl w.heap.size w).alloc (Nat.le_refl _) _).trans (hb1.mono (by simp)))
  have hk1 := (hb1.block w.heap.size (by simp)).trans (heap_alloc_new w _)
  clear hb1
  go_wp2_with fail
  refine (K3.out _ B1.out).mono ?_
  rintro e w3 ⟨rfl, hb3⟩
  have B3 := Lib.hid (B1.out.trans (hb3.mono B1.out.size))
  have hk3 := (hb3.block w.heap.size (lt_of_block hk1)).trans hk1
  have c0 : w3.cell? ⟨w.heap.size, 0, none⟩ = some (.int .i64 k) := by rw [Lib.cell_of_heap hk3]; rfl
  have c1 : w3.cell? ⟨w.heap.size, 1, none⟩ = some (.int .i64 i) := by rw [Lib.cell_of_heap hk3]; rfl
  have c2 : w3.cell? ⟨w.heap.size, 2, none⟩ = some (.string s) := by rw [Lib.cell_of_heap hk3]; rfl
  have c3 : w3.cell? ⟨w.heap.size, 3, none⟩ = some (.slice a m.length c) := by rw [Lib.cell_of_heap hk3]; rfl
  clear hb3 hk1 hk3
  go_wp2
  go_loopw [5, 8] (fun sx ix wr => ∃ (j : Nat) (b : ByteArray), j ≤ n ∧ ix = .int .i64 j ∧ sx = .string b ∧ b.data.toList = q39 j (textT false (.mk k i s m)) ∧ (b.size : Int) = (j : Int) + (tx.size : Int) ∧ BoxD wr w3.heap.size (quoteN j (.mk k i s m)) ∧ Below w.heap.size w wr) (fun _ ix _ => n - (intOf ix).toNat)
  case atStart =>
    refine ⟨0, tx, Nat.zero_le _, rfl, rfl, by rw [HTX.out]; simp [q39], by simp, ⟨k, i, s, m, _, rfl, HV.out.1, HV.out.2.1, HV.out.2.2.1, heap_alloc_new w3 _, ?_⟩, B3.out.alloc B3.out.size _⟩
    have h1 := ins_of (HV.out.2.2.2.below B3.out (Nat.le_refl _))
    have hsz := B3.out.size
    exact h1.move (fun b hb _ => by omega) (fun b o u hb hc => by
      rw [World.cell?_of_block (w := w3) (a := ⟨b, o, none⟩) (Lib.alloc_old w3 _ b (World.block_lt_of_cell? _ _ hc))]; exact hc)
  case round =>
    obtain ⟨j, b, hj, rfl, rfl, hb, hbs, hbox, hbr⟩ := hrel
    obtain ⟨k', i', s', m', v', ht, ok1, ok2, ok3, hcell, hin⟩ := hbox
    have hP := lt_of_block hcell
    have p0 : wr.cell? ⟨w3.heap.size, 0, none⟩ = some (.int .i64 k') := by rw [Lib.cell_of_heap hcell]; rfl
    have p1 : wr.cell? ⟨w3.heap.size, 1, none⟩ = some (.int .i64 i') := by rw [Lib.cell_of_heap hcell]; rfl
    have p2 : wr.cell? ⟨w3.heap.size, 2, none⟩ = some (.string s') := by rw [Lib.cell_of_heap hcell]; rfl
    have p3 : wr.cell? ⟨w3.heap.size, 3, none⟩ = some v' := by rw [Lib.cell_of_heap hcell]; rfl
    have f0 := Lib.frozen_of_heap hcell 0
    have f1 := Lib.frozen_of_heap hcell 1
    have f2 := Lib.frozen_of_heap hcell 2
    have f3 := Lib.frozen_of_heap hcell 3
    have HIN := Lib.hid hin
    have HCELL := Lib.hid hcell
    have HT := Lib.hid ht
    have HBR := Lib.hid hbr
    have HB := Lib.hid hb
    have HBS := Lib.hid hbs
    have hbs2 : (b.size : Int) ≤ 540 := by omega
    clear hin hcell ht hbr hb hbs
    by_cases hlt : j < n
    · go_wp2
      have hw3 := B3.out.size
      have hrow := Dat.row_set4 HCELL.out (.int .i64 5) (.int .i64 0) (.string ⟨#[]⟩) (.slice (some ⟨wr.heap.size, 0, none⟩) 2 2)
      have hother : ∀ q, q ≠ w3.heap.size → ((((wr.setCell ⟨w3.heap.size, 0, none⟩ (.int .i64 5)).setCell ⟨w3.heap.size, 1, none⟩ (.int .i64 0)).setCell ⟨w3.heap.size, 2, none⟩ (.string ⟨#[]⟩)).setCell ⟨w3.heap.size, 3, none⟩ (.slice (some ⟨wr.heap.size, 0, none⟩) 2 2)).heap[q]? = wr.heap[q]? := fun q hq => by
        rw [Below.heap_setCell _ _ _ _ (by show q ≠ _; exact hq), Below.heap_setCell _ _ _ _ (by show q ≠ _; exact hq), Below.heap_setCell _ _ _ _ (by show q ≠ _; exact hq), Below.heap_setCell _ _ _ _ (by show q ≠ _; exact hq)]
      have hsz4 : ((((wr.setCell ⟨w3.heap.size, 0, none⟩ (.int .i64 5)).setCell ⟨w3.heap.size, 1, none⟩ (.int .i64 0)).setCell ⟨w3.heap.size, 2, none⟩ (.string ⟨#[]⟩)).setCell ⟨w3.heap.size, 3, none⟩ (.slice (some ⟨wr.heap.size, 0, none⟩) 2 2)).heap.size = wr.heap.size := by
        rw [size_put, size_put, size_put, size_put]
      have hb4 := (((HBR.out.setCell (p := ⟨w3.heap.size, 0, none⟩) hw3 (.int .i64 5)).setCell (p := ⟨w3.heap.size, 1, none⟩) hw3 (.int .i64 0)).setCell (p := ⟨w3.heap.size, 2, none⟩) hw3 (.string ⟨#[]⟩)).setCell (p := ⟨w3.heap.size, 3, none⟩) hw3 (.slice (some ⟨wr.heap.size, 0, none⟩) 2 2)
      refine ⟨⟨j + 1, ⟨#[39]⟩ ++ b, by omega, by go_num, rfl, ?_, ?_, ?_, ?_⟩, ?_⟩
      · rw [ByteArray.data_append]
        simp only [Array.toList_append]
        rw [HB.out]; simp [q39, List.replicate_succ]
      · rw [ByteArray.size_append]
        have := HBS.out
        show ((1 + b.size : Nat) : Int) = _
        omega
      · rw [quoteN, HT.out]
        refine box_next ok1 ok2 ok3 HIN.out hP (fun q hq hne => ?_) ?_ ?_
        · rw [Lib.alloc_old _ _ _ (by rw [hsz4]; exact hq)]; exact hother q hne
        · have := heap_alloc_new ((((wr.setCell ⟨w3.heap.size, 0, none⟩ (.int .i64 5)).setCell ⟨w3.heap.size, 1, none⟩ (.int .i64 0)).setCell ⟨w3.heap.size, 2, none⟩ (.string ⟨#[]⟩)).setCell ⟨w3.heap.size, 3, none⟩ (.slice (some ⟨wr.heap.size, 0, none⟩) 2 2)) (.cells #[.int .i64 4, .int .i64 0, .string quoteS, .slice none 0 0, .int .i64 k', .int .i64 i', .string s', v'] 34)
          rw [hsz4] at this
          exact this
        · rw [Lib.alloc_old _ _ _ (by rw [hsz4]; exact hP)]; exact hrow
      · exact hb4.alloc (by rw [hsz4]; exact HBR.out.size) _
      · simp [intOf]; omega
    · obtain rfl : j = n := by omega
      have K4 := Lib.hid (read_any b wr (by unfold maxLen; omega) (HE.out wr HBR.out))
      go_wp2_with fail
      refine K4.out.mono ?_
      rintro e w5 ⟨hb5, u5, he, hn5⟩
      rw [HB.out] at he hn5
      have B5 := Lib.hid (HBR.out.trans (hb5.mono HBR.out.size))
      have hcell5 := (hb5.block _ hP).trans HCELL.out
      have q0 : w5.cell? ⟨w3.heap.size, 0, none⟩ = some (.int .i64 k') := by rw [Lib.cell_of_heap hcell5]; rfl
      have q1 : w5.cell? ⟨w3.heap.size, 1, none⟩ = some (.int .i64 i') := by rw [Lib.cell_of_heap hcell5]; rfl
      have q2 : w5.cell? ⟨w3.heap.size, 2, none⟩ = some (.string s') := by rw [Lib.cell_of_heap hcell5]; rfl
      have q3 : w5.cell? ⟨w3.heap.size, 3, none⟩ = some v' := by rw [Lib.cell_of_heap hcell5]; rfl
      have hrep : RepV w5 w5.heap.size (.mk k' i' s' m') v' := ⟨ok1, ok2, ok3, (HIN.out.rep.below hb5 (Nat.le_refl _)).move hb5.size fun _ _ _ => rfl⟩
      have KC := Dat.check_any (.mk k' i' s' m') v' w5 w5.heap.size hrep (Nat.le_refl _)
      rw [← HT.out, HR3.out, HT.out] at KC
      have HREP := Lib.hid hrep
      clear hb5 hcell5 p0 p1 p2 p3 f0 f1 f2 f3
      obtain ⟨av, cv, rfl, _⟩ := hrep.2.2.2
      by_cases hd : j + depthT (.mk k i s m) ≤ 32
      · rw [if_pos hd] at KC
        rw [HR1.out hd] at he hn5
        subst he
        have HKC := Lib.hid KC
        have HN5 := Lib.hid hn5.rep
        obtain ⟨a5, c5, rfl, hc5, hm5, _, hor⟩ := hn5.rep
        obtain ⟨b5, o5, ea, hlt5, hat⟩ := hor.resolve_left (by simp)
        subst ea
        rw [HT.out, Dat.RepAt, repD_mk] at hat
        obtain ⟨⟨_, _, _, d0, d1, d2, y, d3, hy⟩, _⟩ := hat
        have hy0 := hy
        obtain ⟨ay, cy, rfl, _⟩ := hy
        have HY0 := Lib.hid hy0
        have HKE : Hid (∀ W, Below w5.heap.size w5 W → Calls Tryz.prog 16 #[.agg #[.int .i64 k', .int .i64 i', .string s', .slice ay m'.length cy], .agg #[.int .i64 k', .int .i64 i', .string s', .slice av m'.length cv]] W fun e w' => e = .returned (.bool true) ∧ Below w5.heap.size w5 w') := Lib.hid fun W hb => by
          have := Dat.eq_any (.mk k' i' s' m') (.mk k' i' s' m') W w5.heap.size (.slice ay m'.length cy) (.slice av m'.length cv) ⟨ok1, ok2, ok3, HY0.out.below hb (Nat.le_refl _)⟩ ⟨ok1, ok2, ok3, HREP.out.2.2.2.below hb (Nat.le_refl _)⟩ hb.size
          rw [show Dat.sameB (.mk k' i' s' m') (.mk k' i' s' m') = true by simp [Dat.sameB]] at this
          refine this.mono ?_
          rintro e w' ⟨h1, h2⟩
          exact ⟨h1, hb.trans (h2.mono hb.size)⟩
        have HKC : Hid (∀ W, Below w5.heap.size w5 W → Calls Tryz.prog 14 #[.agg #[.int .i64 k', .int .i64 i', .string s', .slice av m'.length cv]] W fun e w' => e = .returned (.int .i64 0) ∧ Below w5.heap.size w5 w') := Lib.hid fun W hb => by
          have := Dat.check_any (.mk k' i' s' m') (.slice av m'.length cv) W w5.heap.size ⟨ok1, ok2, ok3, HREP.out.2.2.2.below hb (Nat.le_refl _)⟩ hb.size
          have e1 : checkB (.mk k' i' s' m') = 0 := by rw [← HT.out, HR3.out, if_pos hd]
          rw [e1] at this
          refine this.mono ?_
          rintro e w' ⟨h1, h2⟩
          exact ⟨h1, hb.trans (h2.mono hb.size)⟩
        have hP5 : w3.heap.size < w5.heap.size := World.block_lt_of_cell? _ _ q0
        have CL : Hid (∀ W, Below w5.heap.size w5 W → W.cell? ⟨w3.heap.size, 0, none⟩ = some (.int .i64 k') ∧ W.cell? ⟨w3.heap.size, 1, none⟩ = some (.int .i64 i') ∧ W.cell? ⟨w3.heap.size, 2, none⟩ = some (.string s') ∧ W.cell? ⟨w3.heap.size, 3, none⟩ = some (.slice av m'.length cv) ∧ W.cell? ⟨b5, o5, none⟩ = some (.int .i64 k') ∧ W.cell? ⟨b5, o5 + 1, none⟩ = some (.int .i64 i') ∧ W.cell? ⟨b5, o5 + 2, none⟩ = some (.string s') ∧ W.cell? ⟨b5, o5 + 3, none⟩ = some (.slice ay m'.length cy) ∧ Below w5.heap.size w5 W) := Lib.hid fun W hb => by
          have h := fun o => World.cell?_of_block (w := w5) (a := ⟨w3.heap.size, o, none⟩) (hb.block w3.heap.size hP5)
          have g := fun o => World.cell?_of_block (w := w5) (a := ⟨b5, o, none⟩) (hb.block b5 hlt5)
          exact ⟨(h 0).trans q0, (h 1).trans q1, (h 2).trans q2, (h 3).trans q3, (g _).trans d0, (g _).trans d1, (g _).trans d2, (g _).trans d3, hb⟩
        have OF : Hid (∀ W, (W.cell? ⟨w3.heap.size, 0, none⟩ = some (.int .i64 k') ∧ W.cell? ⟨w3.heap.size, 1, none⟩ = some (.int .i64 i') ∧ W.cell? ⟨w3.heap.size, 2, none⟩ = some (.string s') ∧ W.cell? ⟨w3.heap.size, 3, none⟩ = some (.slice av m'.length cv) ∧ W.cell? ⟨b5, o5, none⟩ = some (.int .i64 k') ∧ W.cell? ⟨b5, o5 + 1, none⟩ = some (.int .i64 i') ∧ W.cell? ⟨b5, o5 + 2, none⟩ = some (.string s') ∧ W.cell? ⟨b5, o5 + 3, none⟩ = some (.slice ay m'.length cy) ∧ Below w5.heap.size w5 W) → Below w5.heap.size w5 W) := Lib.hid fun W h => h.2.2.2.2.2.2.2.2
        have BZ : Below w5.heap.size w5 w5 := Below.refl _ _
        clear KC hn5 hor hrep hy0 hd
        go_wp2
        go_region_held3 (fun W => W.cell? ⟨w3.heap.size, 0, none⟩ = some (.int .i64 k') ∧ W.cell? ⟨w3.heap.size, 1, none⟩ = some (.int .i64 i') ∧ W.cell? ⟨w3.heap.size, 2, none⟩ = some (.string s') ∧ W.cell? ⟨w3.heap.size, 3, none⟩ = some (.slice av m'.length cv) ∧ W.cell? ⟨b5, o5, none⟩ = some (.int .i64 k') ∧ W.cell? ⟨b5, o5 + 1, none⟩ = some (.int .i64 i') ∧ W.cell? ⟨b5, o5 + 2, none⟩ = some (.string s') ∧ W.cell? ⟨b5, o5 + 3, none⟩ = some (.slice ay m'.length cy) ∧ Below w5.heap.size w5 W)
          (first | (exact CL.out _ (by assumption)) | (exact CL.out _ (Below.drew (by assumption))))
          (first
            | (go_at_call 16; refine (HKE.out _ (OF.out _ (by assumption))).mono ?_; rintro e w6 ⟨rfl, hb6⟩)
            | (go_at_call 14; refine (HKC.out _ (OF.out _ (by assumption))).mono ?_; rintro e w6 ⟨rfl, hb6⟩))
        all_goals
          go_wp2
          go_ret
          exact ⟨rfl, B5.out.trans ((OF.out _ (by assumption)).mono B5.out.size)⟩
      · rw [if_neg hd] at KC
        obtain ⟨at_, hr⟩ := HR2.out (by omega)
        rw [hr] at he hn5
        subst he
        have HKC := Lib.hid KC
        obtain ⟨a5, c5, rfl, _⟩ := hn5
        have hat : (0 : Int) ≤ (at_ : Int) := by omega
        clear KC hrep
        go_wp2_with fail
        refine HKC.out.mono ?_
        rintro e w6 ⟨rfl, hb6⟩
        have B6 := Lib.hid (B5.out.trans (hb6.mono B5.out.size))
        clear hb6
        go_wp2
        go_ret
        exact ⟨rfl, B6.out⟩
theorem quotes_walk (k i : Int) (s : ByteArray) (m : List PT) (x : Value) (n : Int) (hn : Dat.ok64 n) (w : World) (hv : RepV w w.heap.size (.mk k i s m) x) (hT : LaidOk w) (h2 : 2 ≤ w.heap.size) :
    Calls Tryz.prog 7 #[.agg #[.int .i64 k, .int .i64 i, .string s, x], .int .i64 n] w fun e w' => e = .returned (.bool true) ∧ Below w.heap.size w w' := by
  by_cases h0 : checkB (.mk k i s m) = 0
  · by_cases h1 : (500 : Int) < ((toldT false (.mk k i s m)).length : Int)
    · exact quotes_out k i s m x n hn w hv hT h2 (.inr (.inl ⟨h0, h1⟩))
    · by_cases h3 : n < 0
      · exact quotes_out k i s m x n hn w hv hT h2 (.inr (.inr (.inl ⟨h0, h1, h3⟩)))
      · by_cases h4 : 40 < n
        · exact quotes_out k i s m x n hn w hv hT h2 (.inr (.inr (.inr ⟨h0, h1, h3, h4⟩)))
        · obtain ⟨p, rfl⟩ := Int.eq_ofNat_of_zero_le (show 0 ≤ n by omega)
          rw [told_ok h0] at h1
          exact quotes_main k i s m x p w hv hT h2 h0 (by omega) (by omega)
  · exact quotes_out k i s m x n hn w hv hT h2 (.inl (by simpa using h0))
end Go.Proofs.YtnmocepkebkkjaaGreatDoor
