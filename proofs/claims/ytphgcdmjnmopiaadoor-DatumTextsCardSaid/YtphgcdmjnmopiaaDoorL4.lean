/-
The law DatumTexts of layer 2: its walk. Where the table of tens is as the program lays it.
-/
import Derived.Test.YtphgcdmjnmopiaaDoorG5
import Derived.Test.YtphgcdmjnmopiaaDoorL1
namespace Go.Proofs.YtphgcdmjnmopiaaDoor
open Go.ChangeShapes Go.WideShapes Go.ChangeAt Go.RowKit


set_option maxRecDepth 100000 in
set_option maxHeartbeats 4000000 in
theorem texts_walk (k i : Int) (s : ByteArray) (v : Value) (l : List PT) (w : World) (hv : RepV w w.heap.size (.mk k i s l) v) (htab : TabOk w) :
    Calls Tryd.prog 4 #[.agg #[.int .i64 k, .int .i64 i, .string s, v]] w fun e w' => e = .returned (.bool true) ∧ Below w.heap.size w w' := by
  have h2 : 2 ≤ w.heap.size := by obtain ⟨T, fr, h⟩ := htab; have := lt_of_block h; omega
  obtain ⟨a, c, e, _⟩ := hv.2.2.2
  subst e
  have S0 := Lib.hid (St.first w #[.int .i64 k, .int .i64 i, .string s, .slice a l.length c])
  have RV : ∀ W, St w #[.int .i64 k, .int .i64 i, .string s, .slice a l.length c] W → RepV W w.heap.size (.mk k i s l) (.slice a l.length c) := fun W h => ⟨hv.1, hv.2.1, hv.2.2.1, hv.2.2.2.below h.1 (Nat.le_refl _)⟩
  have C9 := Lib.hid (fun W (h : St w #[.int .i64 k, .int .i64 i, .string s, .slice a l.length c] W) => fixed_any W (Nat.le_trans h2 (Nat.le_of_lt h.lt)) (tabOk_below htab h.1 h2))
  have D11 := fun W (h : St w #[.int .i64 k, .int .i64 i, .string s, .slice a l.length c] W) => rcheck_any (.mk k i s l) (.slice a l.length c) W w.heap.size (RV W h) (Nat.le_of_lt h.lt)
  have D14 := fun W (h : St w #[.int .i64 k, .int .i64 i, .string s, .slice a l.length c] W) => text_any (.mk k i s l) (.slice a l.length c) W w.heap.size (RV W h) (Nat.le_of_lt h.lt) (Nat.le_trans h2 (Nat.le_of_lt h.lt)) (tabOk_below htab h.1 h2)
  have D15 := fun W (h : St w #[.int .i64 k, .int .i64 i, .string s, .slice a l.length c] W) => show_any (.mk k i s l) (.slice a l.length c) W w.heap.size (RV W h) (Nat.le_of_lt h.lt) (Nat.le_trans h2 (Nat.le_of_lt h.lt)) (tabOk_below htab h.1 h2)
  have D16 : ∀ bare, checkB (.mk k i s l) = 0 → ∀ W, St w #[.int .i64 k, .int .i64 i, .string s, .slice a l.length c] W → Calls Tryd.prog 16 #[(PT.mk k i s l).val (.slice a l.length c), .bool bare] W fun e w' => e = .returned (.string ⟨(textT bare (.mk k i s l)).toArray⟩) ∧ Below W.heap.size W w' :=
    fun bare h0 W h => rtext_any bare (.mk k i s l) W w.heap.size _ (RV W h) (Nat.le_of_lt h.lt) (check_ok _ h0).1 (by have := (check_ok _ h0).2; omega)
  have e1 : checkB (.mk k i s l) = 0 → ∀ bare, toldT bare (.mk k i s l) = textT bare (.mk k i s l) := fun h bare => if_pos h
  have e2 : checkB (.mk k i s l) ≠ 0 → ∀ bare, toldT bare (.mk k i s l) = [] := fun h bare => if_neg h
  generalize checkB (.mk k i s l) = r at D11 D14 D15 D16 e1 e2
  generalize textT = txt at D16 e1
  generalize toldT = tld at D14 D15 e1 e2
  by_cases hr : r = 0
  · subst hr
    have D16a := D16 false rfl
    have D16b := D16 true rfl
    rw [e1 rfl] at D14 D15
    generalize txt false (.mk k i s l) = ta at D14 D16a
    generalize txt true (.mk k i s l) = tb at D15 D16b
    have C11 := Lib.hid D11
    have C14 := Lib.hid D14
    have C15 := Lib.hid D15
    have C16a := Lib.hid D16a
    have C16b := Lib.hid D16b
    clear hv D11 D14 D15 D16 D16a D16b htab e1 e2 RV
    go_enter Tryd.func4, Tryd.ntmps4
    have c0 := S0.out.cell 0 _ rfl
    have c1 := S0.out.cell 1 _ rfl
    have c2 := S0.out.cell 2 _ rfl
    have c3 := S0.out.cell 3 _ rfl
    simp at c0 c1 c2 c3
    go_wp2_with fail
    refine (C14.out _ S0.out).mono ?_
    rintro e w1 ⟨rfl, hb1⟩
    have S1 := Lib.hid (St.next S0.out hb1)
    clear hb1 c0 c1 c2 c3
    have c0 := S1.out.cell 0 _ rfl
    have c1 := S1.out.cell 1 _ rfl
    have c2 := S1.out.cell 2 _ rfl
    have c3 := S1.out.cell 3 _ rfl
    simp at c0 c1 c2 c3
    go_wp2_with fail
    refine (C15.out _ S1.out).mono ?_
    rintro e w2 ⟨rfl, hb1⟩
    have S2 := Lib.hid (St.next S1.out hb1)
    clear hb1 c0 c1 c2 c3
    have c0 := S2.out.cell 0 _ rfl
    have c1 := S2.out.cell 1 _ rfl
    have c2 := S2.out.cell 2 _ rfl
    have c3 := S2.out.cell 3 _ rfl
    simp at c0 c1 c2 c3
    go_wp2_with fail
    refine (C11.out _ S2.out).mono ?_
    rintro e w3 ⟨rfl, hb1⟩
    have S3 := Lib.hid (St.next S2.out hb1)
    clear hb1 c0 c1 c2 c3
    go_wp2_with fail
    refine (C9.out _ S3.out).mono ?_
    rintro e w4 ⟨rfl, hb1⟩
    have S4 := Lib.hid (St.next S3.out hb1)
    clear hb1
    have c0 := S4.out.cell 0 _ rfl
    have c1 := S4.out.cell 1 _ rfl
    have c2 := S4.out.cell 2 _ rfl
    have c3 := S4.out.cell 3 _ rfl
    simp at c0 c1 c2 c3
    go_wp2_with fail
    refine (C16a.out _ S4.out).mono ?_
    rintro e w5 ⟨rfl, hb1⟩
    have S5 := Lib.hid (St.next S4.out hb1)
    clear hb1 c0 c1 c2 c3
    have c0 := S5.out.cell 0 _ rfl
    have c1 := S5.out.cell 1 _ rfl
    have c2 := S5.out.cell 2 _ rfl
    have c3 := S5.out.cell 3 _ rfl
    simp at c0 c1 c2 c3
    go_wp2_with fail
    refine (C16b.out _ S5.out).mono ?_
    rintro e w6 ⟨rfl, hb1⟩
    have S6 := Lib.hid (St.next S5.out hb1)
    clear hb1
    go_wp2
    go_ret
    exact ⟨rfl, S6.out.1⟩
  · rw [e2 hr] at D14 D15
    have C11 := Lib.hid D11
    have C14 := Lib.hid D14
    have C15 := Lib.hid D15
    clear hv D11 D14 D15 D16 htab e1 e2 RV
    go_enter Tryd.func4, Tryd.ntmps4
    have c0 := S0.out.cell 0 _ rfl
    have c1 := S0.out.cell 1 _ rfl
    have c2 := S0.out.cell 2 _ rfl
    have c3 := S0.out.cell 3 _ rfl
    simp at c0 c1 c2 c3
    go_wp2_with fail
    refine (C14.out _ S0.out).mono ?_
    rintro e w1 ⟨rfl, hb1⟩
    have S1 := Lib.hid (St.next S0.out hb1)
    clear hb1 c0 c1 c2 c3
    have c0 := S1.out.cell 0 _ rfl
    have c1 := S1.out.cell 1 _ rfl
    have c2 := S1.out.cell 2 _ rfl
    have c3 := S1.out.cell 3 _ rfl
    simp at c0 c1 c2 c3
    go_wp2_with fail
    refine (C15.out _ S1.out).mono ?_
    rintro e w2 ⟨rfl, hb1⟩
    have S2 := Lib.hid (St.next S1.out hb1)
    clear hb1 c0 c1 c2 c3
    have c0 := S2.out.cell 0 _ rfl
    have c1 := S2.out.cell 1 _ rfl
    have c2 := S2.out.cell 2 _ rfl
    have c3 := S2.out.cell 3 _ rfl
    simp at c0 c1 c2 c3
    go_wp2_with fail
    refine (C11.out _ S2.out).mono ?_
    rintro e w3 ⟨rfl, hb1⟩
    have S3 := Lib.hid (St.next S2.out hb1)
    clear hb1 c0 c1 c2 c3
    go_wp2_with fail
    refine (C9.out _ S3.out).mono ?_
    rintro e w4 ⟨rfl, hb1⟩
    have S4 := Lib.hid (St.next S3.out hb1)
    clear hb1
    go_wp2
    go_ret
    exact ⟨rfl, S4.out.1⟩
end Go.Proofs.YtphgcdmjnmopiaaDoor
