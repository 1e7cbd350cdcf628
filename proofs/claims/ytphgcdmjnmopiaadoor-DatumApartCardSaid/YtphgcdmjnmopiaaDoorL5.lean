/-
The law DatumApart of layer 2: its walk. Where the table of tens is as the program lays it.
-/
import Derived.Test.YtphgcdmjnmopiaaDoorH3
import Derived.Test.YtphgcdmjnmopiaaDoorL3
import Derived.Test.YtphgcdmjnmopiaaDoorD19
namespace Go.Proofs.YtphgcdmjnmopiaaDoor
open Go.ChangeShapes Go.WideShapes Go.ChangeAt Go.RowKit

theorem bytes_beq (l m : List UInt8) : decide (l = m) = ((ByteArray.mk l.toArray).toList == (ByteArray.mk m.toArray).toList) := by
  rw [ByteArray.toList_eq, ByteArray.toList_eq, Bool.eq_iff_iff]
  simp

set_option maxRecDepth 100000 in
set_option maxHeartbeats 4000000 in
theorem apart_walk (k i : Int) (s : ByteArray) (v : Value) (l : List PT) (k' i' : Int) (s' : ByteArray) (v' : Value) (l' : List PT) (w : World) (hv : RepV w w.heap.size (.mk k i s l) v) (hv' : RepV w w.heap.size (.mk k' i' s' l') v') (htab : TabOk w) :
    Calls Tryd.prog 6 #[.agg #[.int .i64 k, .int .i64 i, .string s, v], .agg #[.int .i64 k', .int .i64 i', .string s', v']] w fun e w' => e = .returned (.bool true) ∧ Below w.heap.size w w' := by
  have h2 : 2 ≤ w.heap.size := by obtain ⟨T, fr, h⟩ := htab; have := lt_of_block h; omega
  obtain ⟨a, c, e, _⟩ := hv.2.2.2
  subst e
  obtain ⟨b, d, e, _⟩ := hv'.2.2.2
  subst e
  have S0 := Lib.hid (St2.first w #[.int .i64 k, .int .i64 i, .string s, .slice a l.length c] #[.int .i64 k', .int .i64 i', .string s', .slice b l'.length d])
  have LE : ∀ W, St2 w #[.int .i64 k, .int .i64 i, .string s, .slice a l.length c] #[.int .i64 k', .int .i64 i', .string s', .slice b l'.length d] W → w.heap.size ≤ W.heap.size ∧ 2 ≤ W.heap.size := fun W h => ⟨by have := h.lt; omega, by have := h.lt; omega⟩
  have C9 := Lib.hid (fun W (h : St2 w #[.int .i64 k, .int .i64 i, .string s, .slice a l.length c] #[.int .i64 k', .int .i64 i', .string s', .slice b l'.length d] W) => fixed_any W (LE W h).2 (tabOk_below htab h.1 h2))
  have D14a := fun W (h : St2 w #[.int .i64 k, .int .i64 i, .string s, .slice a l.length c] #[.int .i64 k', .int .i64 i', .string s', .slice b l'.length d] W) => text_any (.mk k i s l) (.slice a l.length c) W w.heap.size (hv.below h.1 (Nat.le_refl _)) (LE W h).1 (LE W h).2 (tabOk_below htab h.1 h2)
  have D14b := fun W (h : St2 w #[.int .i64 k, .int .i64 i, .string s, .slice a l.length c] #[.int .i64 k', .int .i64 i', .string s', .slice b l'.length d] W) => text_any (.mk k' i' s' l') (.slice b l'.length d) W w.heap.size (hv'.below h.1 (Nat.le_refl _)) (LE W h).1 (LE W h).2 (tabOk_below htab h.1 h2)
  have D10a := fun W (h : St2 w #[.int .i64 k, .int .i64 i, .string s, .slice a l.length c] #[.int .i64 k', .int .i64 i', .string s', .slice b l'.length d] W) => check_any (.mk k i s l) (.slice a l.length c) W w.heap.size (hv.below h.1 (Nat.le_refl _)) (LE W h).1
  have D10b := fun W (h : St2 w #[.int .i64 k, .int .i64 i, .string s, .slice a l.length c] #[.int .i64 k', .int .i64 i', .string s', .slice b l'.length d] W) => check_any (.mk k' i' s' l') (.slice b l'.length d) W w.heap.size (hv'.below h.1 (Nat.le_refl _)) (LE W h).1
  have D18 := fun W (h : St2 w #[.int .i64 k, .int .i64 i, .string s, .slice a l.length c] #[.int .i64 k', .int .i64 i', .string s', .slice b l'.length d] W) => eq_any (.mk k i s l) (.mk k' i' s' l') W w.heap.size (.slice a l.length c) (.slice b l'.length d) (hv.below h.1 (Nat.le_refl _)) (hv'.below h.1 (Nat.le_refl _)) (LE W h).1
  have ONE : checkB (.mk k i s l) = 0 → checkB (.mk k' i' s' l') = 0 → sameB (.mk k i s l) (.mk k' i' s' l') = decide (toldT false (.mk k i s l) = toldT false (.mk k' i' s' l')) := fun h1 h2 => by
    rw [← one_text h1 h2]
    unfold toldT
    rw [if_pos h1, if_pos h2]
  generalize checkB (.mk k i s l) = q at D10a D14a ONE
  generalize checkB (.mk k' i' s' l') = q' at D10b D14b ONE
  generalize toldT false (.mk k i s l) = ta at D14a ONE
  generalize toldT false (.mk k' i' s' l') = tb at D14b ONE
  generalize sameB (.mk k i s l) (.mk k' i' s' l') = r at D18 ONE
  have C14a := Lib.hid D14a
  have C14b := Lib.hid D14b
  have C10a := Lib.hid D10a
  have C10b := Lib.hid D10b
  clear D14a D14b D10a D10b hv hv' htab LE
  by_cases hq : q = 0 ∧ q' = 0
  · obtain ⟨rfl, rfl⟩ := hq
    have e := ONE rfl rfl
    subst e
    rw [bytes_beq] at D18
    have C18 := Lib.hid D18
    clear D18 ONE
    generalize ByteArray.mk ta.toArray = xa at C14a C18
    generalize ByteArray.mk tb.toArray = xb at C14b C18
    go_enter Tryd.func6, Tryd.ntmps6
    obtain ⟨c0, c1, c2, c3, d0, d1, d2, d3, _⟩ := S0.out.cells
    go_wp2_with fail
    refine (C14a.out _ S0.out).mono ?_
    rintro e w1 ⟨rfl, hb1⟩
    have S1 := Lib.hid (St2.next S0.out hb1)
    clear hb1
    clear c0 c1 c2 c3 d0 d1 d2 d3
    obtain ⟨c0, c1, c2, c3, d0, d1, d2, d3, _⟩ := S1.out.cells
    go_wp2_with fail
    refine (C14b.out _ S1.out).mono ?_
    rintro e w2 ⟨rfl, hb1⟩
    have S2 := Lib.hid (St2.next S1.out hb1)
    clear hb1
    clear c0 c1 c2 c3 d0 d1 d2 d3
    go_wp2_with fail
    refine (C9.out _ S2.out).mono ?_
    rintro e w3 ⟨rfl, hb1⟩
    have S3 := Lib.hid (St2.next S2.out hb1)
    clear hb1
    obtain ⟨c0, c1, c2, c3, d0, d1, d2, d3, _⟩ := S3.out.cells
    go_wp2_with fail
    refine (C10a.out _ S3.out).mono ?_
    rintro e w4 ⟨rfl, hb1⟩
    have S4 := Lib.hid (St2.next S3.out hb1)
    clear hb1
    clear c0 c1 c2 c3 d0 d1 d2 d3
    obtain ⟨c0, c1, c2, c3, d0, d1, d2, d3, _⟩ := S4.out.cells
    go_wp2_with fail
    refine (C10b.out _ S4.out).mono ?_
    rintro e w5 ⟨rfl, hb1⟩
    have S5 := Lib.hid (St2.next S4.out hb1)
    clear hb1
    clear c0 c1 c2 c3 d0 d1 d2 d3
    obtain ⟨c0, c1, c2, c3, d0, d1, d2, d3, _⟩ := S5.out.cells
    go_wp2_with fail
    refine (C18.out _ S5.out).mono ?_
    rintro e w6 ⟨rfl, hb1⟩
    have S6 := Lib.hid (St2.next S5.out hb1)
    clear hb1
    clear c0 c1 c2 c3 d0 d1 d2 d3
    go_wp2
    go_ret
    exact ⟨ret_bool (by simp), S6.out.1⟩
  · clear D18 ONE
    generalize ByteArray.mk ta.toArray = xa at C14a
    generalize ByteArray.mk tb.toArray = xb at C14b
    have hq1 : (q != 0) = true ∨ (q != 0) = false ∧ (q' != 0) = true := by
      by_cases h : q = 0
      · exact .inr ⟨by simp [h], by simpa using fun h' => hq ⟨h, h'⟩⟩
      · exact .inl (by simpa using h)
    clear hq
    rcases hq1 with hq1 | ⟨hq1, hq2⟩
    all_goals
      go_enter Tryd.func6, Tryd.ntmps6
      obtain ⟨c0, c1, c2, c3, d0, d1, d2, d3, _⟩ := S0.out.cells
      go_wp2_with fail
      refine (C14a.out _ S0.out).mono ?_
      rintro e w1 ⟨rfl, hb1⟩
      have S1 := Lib.hid (St2.next S0.out hb1)
      clear hb1
      clear c0 c1 c2 c3 d0 d1 d2 d3
      obtain ⟨c0, c1, c2, c3, d0, d1, d2, d3, _⟩ := S1.out.cells
      go_wp2_with fail
      refine (C14b.out _ S1.out).mono ?_
      rintro e w2 ⟨rfl, hb1⟩
      have S2 := Lib.hid (St2.next S1.out hb1)
      clear hb1
      clear c0 c1 c2 c3 d0 d1 d2 d3
      go_wp2_with fail
      refine (C9.out _ S2.out).mono ?_
      rintro e w3 ⟨rfl, hb1⟩
      have S3 := Lib.hid (St2.next S2.out hb1)
      clear hb1
      obtain ⟨c0, c1, c2, c3, d0, d1, d2, d3, _⟩ := S3.out.cells
      go_wp2_with fail
      refine (C10a.out _ S3.out).mono ?_
      rintro e w4 ⟨rfl, hb1⟩
      have S4 := Lib.hid (St2.next S3.out hb1)
      clear hb1
      clear c0 c1 c2 c3 d0 d1 d2 d3
      obtain ⟨c0, c1, c2, c3, d0, d1, d2, d3, _⟩ := S4.out.cells
      go_wp2_with fail
      refine (C10b.out _ S4.out).mono ?_
      rintro e w5 ⟨rfl, hb1⟩
      have S5 := Lib.hid (St2.next S4.out hb1)
      clear hb1
      clear c0 c1 c2 c3 d0 d1 d2 d3
      go_wp2
      go_ret
      exact ⟨ret_bool (by simp), S5.out.1⟩
end Go.Proofs.YtphgcdmjnmopiaaDoor
