/-
Contracts of package lex's ofNumeral, ofWord: what each returns, for every word; where the two errors of strconv are as the program lays them.
-/
import Derived.Test.YtiamojpeedllbaaGreatDoorT7
namespace Go.Proofs.YtiamojpeedllbaaGreatDoor
open Go.ChangeShapes Go.WideShapes Go.ChangeAt Go.RowKit

/-- The world W has come of w, and the token in the first new block is as told. -/
def Res1 (w : World) (y : Array Value) (W : World) : Prop := Below w.heap.size w W ∧ W.heap[w.heap.size]? = some (.cells y 33 (0, 0))
theorem Res1.first (w : World) (y : Array Value) : Res1 w y (w.alloc (.cells y 33)) := ⟨(Below.refl _ _).alloc (Nat.le_refl _) _, heap_alloc_new w _⟩
theorem Res1.lt {w W : World} {y : Array Value} (h : Res1 w y W) : w.heap.size < W.heap.size := lt_of_block h.2
theorem Res1.next {w W W' : World} {y : Array Value} (h : Res1 w y W) (hb : Below W.heap.size W W') : Res1 w y W' :=
  ⟨h.1.trans (hb.mono (by have := h.lt; omega)), (hb.block _ (lt_of_block h.2)).trans h.2⟩
theorem Res1.drew {w W : World} {y : Array Value} (h : Res1 w y W) : Res1 w y W.drew := ⟨h.1.drew, h.2⟩
theorem Res1.cells {w W : World} {x0 x1 x2 x3 x4 : Value} (h : Res1 w #[x0, x1, x2, x3, x4] W) :
    W.cell? ⟨w.heap.size, 0, none⟩ = some x0 ∧ W.cell? ⟨w.heap.size, 1, none⟩ = some x1 ∧ W.cell? ⟨w.heap.size, 2, none⟩ = some x2 ∧ W.cell? ⟨w.heap.size, 3, none⟩ = some x3 ∧ W.cell? ⟨w.heap.size, 4, none⟩ = some x4 := by
  refine ⟨?_, ?_, ?_, ?_, ?_⟩ <;> (rw [Lib.cell_of_heap h.2]; rfl)
theorem Res1.froz {w W : World} {y : Array Value} (h : Res1 w y W) :
    W.frozen? ⟨w.heap.size, 0, none⟩ = false ∧ W.frozen? ⟨w.heap.size, 1, none⟩ = false ∧ W.frozen? ⟨w.heap.size, 2, none⟩ = false ∧ W.frozen? ⟨w.heap.size, 3, none⟩ = false ∧ W.frozen? ⟨w.heap.size, 4, none⟩ = false :=
  ⟨Lib.frozen_of_heap h.2 0, Lib.frozen_of_heap h.2 1, Lib.frozen_of_heap h.2 2, Lib.frozen_of_heap h.2 3, Lib.frozen_of_heap h.2 4⟩
theorem Res1.put {w W : World} {x0 x1 x2 x3 x4 : Value} (h : Res1 w #[x0, x1, x2, x3, x4] W) (y0 y1 y2 y3 y4 : Value) :
    Res1 w #[y0, y1, y2, y3, y4] (((((W.setCell ⟨w.heap.size, 0, none⟩ y0).setCell ⟨w.heap.size, 1, none⟩ y1).setCell ⟨w.heap.size, 2, none⟩ y2).setCell ⟨w.heap.size, 3, none⟩ y3).setCell ⟨w.heap.size, 4, none⟩ y4) := by
  refine ⟨((((h.1.setCell (p := ⟨w.heap.size, 0, none⟩) (Nat.le_refl _) _).setCell (p := ⟨w.heap.size, 1, none⟩) (Nat.le_refl _) _).setCell (p := ⟨w.heap.size, 2, none⟩) (Nat.le_refl _) _).setCell (p := ⟨w.heap.size, 3, none⟩) (Nat.le_refl _) _).setCell (p := ⟨w.heap.size, 4, none⟩) (Nat.le_refl _) _, ?_⟩
  exact heap_setCell_same _ _ 4 _ 33 y4 (heap_setCell_same _ _ 3 _ 33 y3 (heap_setCell_same _ _ 2 _ 33 y2 (heap_setCell_same _ _ 1 _ 33 y1 (heap_setCell_same W _ 0 _ 33 y0 h.2))))
theorem size35 {y0 y1 y2 y3 y4 : Value} : (Tryz.prog.info? 33).map (·.size) = some (#[y0, y1, y2, y3, y4] : Array Value).size := by kernel_rfl
abbrev zero5 : Array Value := #[.int .i64 0, .string ⟨#[]⟩, .int .i64 0, .int .i64 0, .int .i64 0]

def WordOk (l : List UInt8) (e : Ending) : Prop := e = .returned (.tuple #[(wordT l).1.val 0 0, .int .i64 (wordT l).2])

theorem word_num {l : List UInt8} (h : numB l = true) : wordT l = if okNum (numV l) then (⟨6, [], numV l⟩, 0) else (noTk, 33) := by
  have h46 : l ≠ [46] := by rintro rfl; exact absurd h (by decide)
  rw [wordT, if_neg h46, if_pos h]

set_option maxRecDepth 100000 in
theorem ofNum_any (s : ByteArray) (w : World) (hs : s.size ≤ 4096) (h : numB s.data.toList = true) (hE : ErrsOk w) :
    Calls Tryz.prog 79 #[.string s] w fun e w' => WordOk s.data.toList e ∧ Below w.heap.size w w' := by
  have R0 := Lib.hid (Res1.first w zero5)
  have hat := atoi_num h
  have hw := word_num h
  by_cases hr : -9223372036854775808 ≤ numV s.data.toList ∧ numV s.data.toList ≤ 9223372036854775807
  · rw [if_pos hr] at hat
    have C := Tryz.strconv_Atoi_ok s (by omega) _ hat (w.alloc (.cells zero5 33))
    have C' : Calls Tryz.prog 102 #[.string s] (w.alloc (.cells zero5 33)) fun e w' => e = .returned (.tuple #[.int .i64 (numV s.data.toList), .nilIface]) ∧ Below (w.alloc (.cells zero5 33)).heap.size (w.alloc (.cells zero5 33)) w' := by
      refine C.mono ?_
      rintro e w' ⟨he, hw | ⟨t, hw⟩⟩
      · subst hw; exact ⟨he, Below.refl _ _⟩
      · subst hw; exact ⟨he, Lib.bytesWorld_below _ 5 t⟩
    clear C
    by_cases ho : okNum (numV s.data.toList)
    · rw [if_pos ho] at hw
      unfold WordOk
      rw [hw]
      obtain ⟨o1, o2⟩ := ho
      generalize numV s.data.toList = v at C' hw o1 o2 ⊢
      have H := Lib.hid C'
      clear C' hw hat hr
      go_enter Tryz.func79, Tryz.ntmps79
      go_wp2_with fail
      refine H.out.mono ?_
      rintro e w1 ⟨rfl, hb⟩
      have R1 := Lib.hid (R0.out.next hb)
      obtain ⟨c0, c1, c2, c3, c4⟩ := R1.out.cells
      obtain ⟨f0, f1, f2, f3, f4⟩ := R1.out.froz
      go_wp2
      have R2 := R1.out.put (.int .i64 6) (.string ⟨#[]⟩) (.int .i64 v) (.int .i64 0) (.int .i64 0)
      exact bodyPost_ret (results_row_tmp (P := Tryz.prog) rfl _ _ w.heap.size 33 _ (0, 0) _ rfl R2.2 Tryz.underlying33 rfl size35) rfl ⟨rfl, R2.1⟩
    · rw [if_neg ho] at hw
      unfold WordOk
      rw [hw]
      have ho' : numV s.data.toList < -1152921504606846976 ∨ -1152921504606846976 ≤ numV s.data.toList ∧ 1152921504606846975 < numV s.data.toList := by unfold okNum at ho; omega
      generalize numV s.data.toList = v at C' hw ho' hr ⊢
      obtain ⟨r1, r2⟩ := hr
      have H := Lib.hid C'
      clear C' hw hat ho
      rcases ho' with o1 | ⟨o1, o2⟩
      all_goals
        go_enter Tryz.func79, Tryz.ntmps79
        go_wp2_with fail
        refine H.out.mono ?_
        rintro e w1 ⟨rfl, hb⟩
        have R1 := Lib.hid (R0.out.next hb)
        obtain ⟨c0, c1, c2, c3, c4⟩ := R1.out.cells
        obtain ⟨f0, f1, f2, f3, f4⟩ := R1.out.froz
        go_wp2
        have R2 := R1.out.put (.int .i64 0) (.string ⟨#[]⟩) (.int .i64 0) (.int .i64 0) (.int .i64 0)
        exact bodyPost_ret (results_row_tmp (P := Tryz.prog) rfl _ _ w.heap.size 33 _ (0, 0) _ rfl R2.2 Tryz.underlying33 rfl size35) rfl ⟨rfl, R2.1⟩
  · rw [if_neg hr] at hat
    have ho : ¬ okNum (numV s.data.toList) := by unfold okNum; omega
    rw [if_neg ho] at hw
    unfold WordOk
    rw [hw]
    have hE1 := hE.below R0.out.1 hE.two
    obtain ⟨_, tp, p, he⟩ := hE1
    have C := Tryz.strconv_Atoi_range s (by omega) hat (.iface tp p) (w.alloc (.cells zero5 33)) he (.inr ⟨tp, p, rfl⟩)
    generalize Lib.atoiSat s.data.toList = v at C
    have H := Lib.hid C
    clear C hw hat hr he ho
    go_enter Tryz.func79, Tryz.ntmps79
    go_wp2_with fail
    refine H.out.mono ?_
    rintro e w1 ⟨N, rfl, _, _, hb⟩
    have R1 := Lib.hid (R0.out.next hb)
    obtain ⟨c0, c1, c2, c3, c4⟩ := R1.out.cells
    obtain ⟨f0, f1, f2, f3, f4⟩ := R1.out.froz
    go_wp2
    have R2 := R1.out.put (.int .i64 0) (.string ⟨#[]⟩) (.int .i64 0) (.int .i64 0) (.int .i64 0)
    exact bodyPost_ret (results_row_tmp (P := Tryz.prog) rfl _ _ w.heap.size 33 _ (0, 0) _ rfl R2.2 Tryz.underlying33 rfl size35) rfl ⟨rfl, R2.1⟩

theorem clone_any (s : ByteArray) (w : World) (hlim : s.size ≤ 281474976710656) : Calls Tryz.prog 80 #[.string s] w fun e w' => e = .returned (.string s) ∧ Below w.heap.size w w' := by
  have H := Lib.hid (Tryz.stringslite_Clone s w hlim)
  go_enter Tryz.func80, Tryz.ntmps80
  go_wp2_with fail
  refine H.out.mono ?_
  rintro e w1 ⟨rfl, hb⟩
  go_wp2
  go_ret
  exact ⟨rfl, hb⟩

set_option maxRecDepth 100000 in
theorem ofWord_any (s : ByteArray) (w : World) (hs : s.size ≤ 4096) (h0 : 0 < s.size) (hE : ErrsOk w) :
    Calls Tryz.prog 54 #[.string s] w fun e w' => WordOk s.data.toList e ∧ Below w.heap.size w w' := by
  have R0 := Lib.hid (Res1.first w zero5)
  have HE := Lib.hid (fun W (h : Below w.heap.size w W) => hE.below h hE.two)
  have hl := len_data s
  obtain ⟨n1, n2⟩ := ne_of_size h0
  clear hE
  by_cases h46 : s.data.toList = [46]
  · have hw : wordT s.data.toList = (⟨4, [], 0⟩, 0) := by rw [wordT, if_pos h46]
    unfold WordOk
    rw [hw]
    have e1 : s.toList = [46] := by rw [ByteArray.toList_eq]; exact h46
    have e2 : (s.toList == [46]) = true := by rw [e1]; rfl
    clear hw h46 n1 n2 hl
    go_enter Tryz.func54, Tryz.ntmps54
    go_wp2
    have R2 := Res1.first w #[.int .i64 4, .string ⟨#[]⟩, .int .i64 0, .int .i64 0, .int .i64 0]
    exact bodyPost_ret (results_row_tmp (P := Tryz.prog) rfl _ _ w.heap.size 33 _ (0, 0) _ rfl R2.2 Tryz.underlying33 rfl size35) rfl ⟨rfl, R2.1⟩
  · have e1 : ¬ s.toList = [46] := by rw [ByteArray.toList_eq]; exact h46
    have e2 : (s.toList == [46]) = false := by simpa using e1
    have C36 := isNum_any s (w.alloc (.cells zero5 33)) (by unfold maxLen; omega) h0
    by_cases hn : numB s.data.toList = true
    · rw [hn] at C36
      have H36 := Lib.hid C36
      have C37 : ∀ W, ErrsOk W → Calls Tryz.prog 79 #[.string s] W fun e w' => WordOk s.data.toList e ∧ Below W.heap.size W w' := fun W h => ofNum_any s W hs hn h
      unfold WordOk Tk.val at C37
      unfold WordOk Tk.val
      generalize wordT s.data.toList = q at C37 ⊢
      obtain ⟨t, er⟩ := q
      simp only at C37 ⊢
      have H37 := Lib.hid C37
      clear C36 hn h46 hl C37
      go_enter Tryz.func54, Tryz.ntmps54
      go_wp2_with fail
      refine H36.out.mono ?_
      rintro e w1 ⟨rfl, hb⟩
      have R1 := Lib.hid (R0.out.next hb)
      clear hb
      go_wp2_with fail
      refine (H37.out w1 (HE.out _ R1.out.1)).mono ?_
      rintro e w2 ⟨rfl, hb⟩
      have R2 := Lib.hid (R1.out.next hb)
      obtain ⟨c0, c1, c2, c3, c4⟩ := R2.out.cells
      obtain ⟨f0, f1, f2, f3, f4⟩ := R2.out.froz
      go_wp2
      have R3 := R2.out.put (.int .i64 t.kind) (.string ⟨t.text.toArray⟩) (.int .i64 t.int) (.int .i64 0) (.int .i64 0)
      exact bodyPost_ret (results_row_tmp (P := Tryz.prog) rfl _ _ w.heap.size 33 _ (0, 0) _ rfl R3.2 Tryz.underlying33 rfl size35) rfl ⟨rfl, R3.1⟩
    · have hn' : numB s.data.toList = false := by simpa using hn
      rw [hn'] at C36
      have H36 := Lib.hid C36
      clear C36
      by_cases h64 : 64 < s.size
      · have hw : wordT s.data.toList = (noTk, 36) := by rw [wordT, if_neg h46, if_neg hn, if_pos (by omega)]
        unfold WordOk
        rw [hw]
        clear hw hn hn' h46 hl
        have h64' : (64 : Int) < s.size := by omega
        go_enter Tryz.func54, Tryz.ntmps54
        go_wp2_with fail
        refine H36.out.mono ?_
        rintro e w1 ⟨rfl, hb⟩
        have R1 := Lib.hid (R0.out.next hb)
        obtain ⟨c0, c1, c2, c3, c4⟩ := R1.out.cells
        obtain ⟨f0, f1, f2, f3, f4⟩ := R1.out.froz
        go_wp2
        have R3 := R1.out.put (.int .i64 0) (.string ⟨#[]⟩) (.int .i64 0) (.int .i64 0) (.int .i64 0)
        exact bodyPost_ret (results_row_tmp (P := Tryz.prog) rfl _ _ w.heap.size 33 _ (0, 0) _ rfl R3.2 Tryz.underlying33 rfl size35) rfl ⟨rfl, R3.1⟩
      · have hw : wordT s.data.toList = (⟨9, s.data.toList, 0⟩, 0) := by rw [wordT, if_neg h46, if_neg hn, if_neg (by omega)]
        unfold WordOk
        rw [hw]
        clear hw hn hn' h46 hl
        have h64' : (s.size : Int) ≤ 64 := by omega
        go_enter Tryz.func54, Tryz.ntmps54
        go_wp2_with fail
        refine H36.out.mono ?_
        rintro e w1 ⟨rfl, hb⟩
        have R1 := Lib.hid (R0.out.next hb)
        clear hb
        go_wp2_with fail
        refine (clone_any s w1 (by omega)).mono ?_
        rintro e w2 ⟨rfl, hb⟩
        have R2 := Lib.hid (R1.out.next hb)
        obtain ⟨c0, c1, c2, c3, c4⟩ := R2.out.cells
        obtain ⟨f0, f1, f2, f3, f4⟩ := R2.out.froz
        go_wp2
        have R3 := R2.out.put (.int .i64 9) (.string s) (.int .i64 0) (.int .i64 0) (.int .i64 0)
        exact bodyPost_ret (results_row_tmp (P := Tryz.prog) rfl _ _ w.heap.size 33 _ (0, 0) _ rfl R3.2 Tryz.underlying33 rfl size35) rfl ⟨rfl, R3.1⟩
end Go.Proofs.YtiamojpeedllbaaGreatDoor
