/-
The law DatumMakes of layer 2: package data's Make, at every row of items and every tail. No condition but a bound on how many data there are.
-/
import Derived.Test.YtiamojpeedllbaaGreatDoorM5
import Derived.Test.YtiamojpeedllbaaGreatDoorM8
namespace Go.Proofs.YtiamojpeedllbaaGreatDoor.Dat
open Go.ChangeShapes Go.WideShapes Go.ChangeAt Go.RowKit
set_option maxRecDepth 100000

theorem numsT_append : ∀ (l m : List PT), numsT (l ++ m) = numsT l + numsT m
  | [], m => by simp [numsT]
  | t :: l, m => by
    rw [List.cons_append, numsT, numsT, numsT_append l m]; omega
def MakeOk (base : Nat) (r : PT) (e : Ending) (w' : World) : Prop := ∃ x', e = .returned (r.val x') ∧ RepV w' w'.heap.size r x' ∧ NewV w' base r x'

theorem rep_one {W : World} {B b : Nat} {k i : Int} {s : ByteArray} {l : List PT} {v : Value} (hb : b < B) (h : W.heap[b]? = some (.cells #[.int .i64 k, .int .i64 i, .string s, v] 28 (0, 0))) (hv : RepV W B (.mk k i s l) v) :
    RepS W B [.mk k i s l] (.slice (some ⟨b, 0, none⟩) 1 1) := by
  refine ⟨some ⟨b, 0, none⟩, 1, rfl, Nat.le_refl _, by decide, (fun h => by cases h), .inr ⟨b, 0, rfl, hb, ?_⟩⟩
  rw [RepAt, RepAt]
  refine ⟨repD_mk.2 ⟨hv.1, hv.2.1, hv.2.2.1, ?_, ?_, ?_, v, ?_, hv.2.2.2⟩, trivial⟩
  all_goals (rw [Lib.cell_of_heap h]; rfl)

set_option maxRecDepth 100000 in
theorem make_none (k i : Int) (s : ByteArray) (m : List PT) (x v : Value) (w : World) (B : Nat) (hv : RepS w B [] v) (hx : RepV w B (.mk k i s m) x) (hB : B ≤ w.heap.size) (hn : numT (.mk k i s m) ≤ 200000) :
    Calls Tryz.prog 23 #[v, .agg #[.int .i64 k, .int .i64 i, .string s, x]] w fun e w' => MakeOk w.heap.size (.mk k i s m) e w' ∧ Below w.heap.size w w' := by
  have HX := Lib.hid hx
  obtain ⟨a, c, rfl, _⟩ := hv
  obtain ⟨a', c', e, hl', hm', _⟩ := hx.2.2.2
  subst e
  clear hx
  unfold maxLen at hm'
  have S0 := Lib.hid (St2.first w #[.int .i64 k, .int .i64 i, .string s, .slice a' m.length c'] #[.int .i64 0, .int .i64 0, .string ⟨#[]⟩, .slice none 0 0])
  have C := Lib.hid (copied_any (.mk k i s m) ((w.alloc (.cells #[.int .i64 k, .int .i64 i, .string s, .slice a' m.length c'] 28)).alloc (.cells #[.int .i64 0, .int .i64 0, .string ⟨#[]⟩, .slice none 0 0] 28)) B (.slice a' m.length c') (HX.out.below S0.out.1 hB) (by have := S0.out.1.size; omega) hn)
  go_enter Tryz.func23, Tryz.ntmps23
  go_wp2_with fail
  refine C.out.mono ?_
  rintro e w1 ⟨⟨v', he, hn1⟩, hb1⟩
  change e = .returned (.agg #[.int .i64 k, .int .i64 i, .string s, v']) at he
  subst he
  have S1 := Lib.hid (S0.out.next hb1)
  have N1 := Lib.hid (hn1.move (C' := w.heap.size + 2) (by simp) fun _ _ _ _ h => h)
  obtain ⟨a2, c2, rfl, _⟩ := hn1.2.2.2
  obtain ⟨g0, g1, g2, g3⟩ := S1.out.froz
  obtain ⟨_, _, _, _, d0, d1, d2, d3, _⟩ := S1.out.cells
  clear hb1 C hn1
  go_wp2
  obtain ⟨e4, K4, b4⟩ := new_end S1.out (.int .i64 k) (.int .i64 i) (.string s) (.slice a2 m.length c2)
  exact bodyPost_ret (results_cell_row (P := Tryz.prog) rfl _ _ (w.heap.size + 1) 28 _ (0, 0) _ rfl e4 Tryz.underlying28 rfl (by kernel_rfl)) rfl ⟨⟨_, rfl, (N1.out.move (Nat.le_refl _) K4.cell).rep, (N1.out.move (Nat.le_refl _) K4.cell).move (by omega) fun _ _ _ _ h => h⟩, b4⟩

set_option maxRecDepth 100000 in
set_option maxHeartbeats 2000000 in
theorem make_tail (l : List PT) (k i : Int) (s : ByteArray) (m : List PT) (v x : Value) (w : World) (B : Nat) (hv : RepS w B l v) (hx : RepV w B (.mk k i s m) x) (hB : B ≤ w.heap.size) (h0 : l ≠ []) (k5 : k ≠ 5) (k6 : k ≠ 6) (hn : numsT l + numT (.mk k i s m) ≤ 200000) :
    Calls Tryz.prog 23 #[v, .agg #[.int .i64 k, .int .i64 i, .string s, x]] w fun e w' => MakeOk w.heap.size (.mk 6 0 ⟨#[]⟩ (l ++ [.mk k i s m])) e w' ∧ Below w.heap.size w w' := by
  have HX := Lib.hid hx
  have HV := Lib.hid hv
  obtain ⟨a, c, rfl, hl, hm, _⟩ := hv
  obtain ⟨a', c', e, hl', hm', _⟩ := hx.2.2.2
  subst e
  clear hx
  unfold maxLen at hm hm'
  have hz : ((l.length : Int) == 0) = false := by
    have := List.length_pos_iff.2 h0
    simp; omega
  have S0 := Lib.hid (St2.first w #[.int .i64 k, .int .i64 i, .string s, .slice a' m.length c'] #[.int .i64 0, .int .i64 0, .string ⟨#[]⟩, .slice none 0 0])
  have CT := Lib.hid (fun W => mayBeTail_any k true (by simp [k5, k6]) W)
  have hlen := nums_len l
  have hnum : numsT (l ++ [.mk k i s m]) ≤ 200000 := by
    rw [numsT_append, numsT, numsT]; omega
  have hl1 : 1 ≤ l.length := List.length_pos_iff.2 h0
  have hl2 : l.length + [PT.mk k i s m].length ≤ 1000000 := by simp; omega
  have HW : Hid (∀ W, W = (((w.alloc (.cells #[.int .i64 k, .int .i64 i, .string s, .slice a' m.length c'] 28)).alloc (.cells #[.int .i64 0, .int .i64 0, .string ⟨#[]⟩, .slice none 0 0] 28)).alloc (.cells #[.int .i64 k, .int .i64 i, .string s, .slice a' m.length c'] 28)).alloc (.cells #[.slice a l.length c, .slice (some ⟨w.heap.size + 1 + 1, 0, none⟩) 1 1] 26) →
      St2 w #[.int .i64 k, .int .i64 i, .string s, .slice a' m.length c'] #[.int .i64 0, .int .i64 0, .string ⟨#[]⟩, .slice none 0 0] W ∧
      Calls Tryz.prog 48 #[.slice (some ⟨w.heap.size + 1 + 1 + 1, 0, none⟩) 2 2] W fun e w' => (∃ v', e = .returned v' ∧ RepS w' w'.heap.size (l ++ [.mk k i s m]) v') ∧ Below W.heap.size W w') := Lib.hid (by
    intro W hW
    have s1 := (S0.out.next ((Below.refl _ _).alloc (Nat.le_refl _) (.cells #[.int .i64 k, .int .i64 i, .string s, .slice a' m.length c'] 28))).next ((Below.refl _ _).alloc (Nat.le_refl _) (.cells #[.slice a l.length c, .slice (some ⟨w.heap.size + 1 + 1, 0, none⟩) 1 1] 26))
    rw [← hW] at s1
    have hsz : W.heap.size = w.heap.size + 4 := by rw [hW]; simp
    have b2 : W.heap[w.heap.size + 1 + 1]? = some (.cells #[.int .i64 k, .int .i64 i, .string s, .slice a' m.length c'] 28 (0, 0)) := by
      rw [hW, Lib.alloc_old _ _ _ (by simp)]
      have := heap_alloc_new ((w.alloc (.cells #[.int .i64 k, .int .i64 i, .string s, .slice a' m.length c'] 28)).alloc (.cells #[.int .i64 0, .int .i64 0, .string ⟨#[]⟩, .slice none 0 0] 28)) (.cells #[.int .i64 k, .int .i64 i, .string s, .slice a' m.length c'] 28)
      simpa using this
    have b3 : W.heap[w.heap.size + 1 + 1 + 1]? = some (.cells #[.slice a l.length c, .slice (some ⟨w.heap.size + 1 + 1, 0, none⟩) 1 1] 26 (0, 0)) := by
      have := heap_alloc_new (((w.alloc (.cells #[.int .i64 k, .int .i64 i, .string s, .slice a' m.length c'] 28)).alloc (.cells #[.int .i64 0, .int .i64 0, .string ⟨#[]⟩, .slice none 0 0] 28)).alloc (.cells #[.int .i64 k, .int .i64 i, .string s, .slice a' m.length c'] 28)) (.cells #[.slice a l.length c, .slice (some ⟨w.heap.size + 1 + 1, 0, none⟩) 1 1] 26)
      rw [hW]
      simpa using this
    refine ⟨s1, concat_any l [.mk k i s m] _ _ W W.heap.size (w.heap.size + 1 + 1 + 1) b3 ?_ ?_ (Nat.le_refl _) hl1 hl2⟩
    · exact (HV.out.below s1.1 hB).move (by omega) (fun _ _ _ => rfl)
    · exact rep_one (by omega) b2 ((HX.out.below s1.1 hB).mono (by omega)))
  have HN := Lib.hid hnum
  clear hnum h0 k5 k6 hlen hl1 hl2
  go_enter Tryz.func23, Tryz.ntmps23
  go_wp2_with (go_at_call 46; ((with_reducible refine (CT.out _).mono ?_); rintro e w' ⟨rfl, rfl⟩))
  refine ((HW.out _ rfl).2).mono ?_
  rintro e w1 ⟨⟨v1, rfl, r1⟩, hb1⟩
  have S1 := Lib.hid (((HW.out _ rfl).1).next hb1)
  have R1 := Lib.hid r1
  clear hb1 r1 HW
  go_wp2_with fail
  refine (copiedList_any _ w1 w1.heap.size v1 R1.out (Nat.le_refl _) HN.out).mono ?_
  rintro e w2 ⟨⟨v2, rfl, n2⟩, hb2⟩
  have S2 := Lib.hid (S1.out.next hb2)
  have N2 := Lib.hid (n2.move (C' := w.heap.size + 2) (by have := S1.out.lt; omega) fun _ _ _ _ h => h)
  obtain ⟨a2, c2, rfl, _⟩ := n2
  obtain ⟨g0, g1, g2, g3⟩ := S2.out.froz
  obtain ⟨_, _, _, _, d0, d1, d2, d3, _⟩ := S2.out.cells
  clear hb2
  go_wp2
  obtain ⟨e4, K4, b4⟩ := new_end S2.out (.int .i64 6) (.int .i64 0) (.string ⟨#[]⟩) (.slice a2 (l ++ [PT.mk k i s m]).length c2)
  have fin : MakeOk w.heap.size (.mk 6 0 ⟨#[]⟩ (l ++ [.mk k i s m])) (.returned (.agg #[.int .i64 6, .int .i64 0, .string ⟨#[]⟩, .slice a2 (l ++ [PT.mk k i s m]).length c2])) _ := ⟨_, rfl, ⟨ok_small (by decide), ok_small (by decide), by decide, (N2.out.move (Nat.le_refl _) K4.cell).rep⟩, ⟨ok_small (by decide), ok_small (by decide), by decide, (N2.out.move (Nat.le_refl _) K4.cell).move (by omega) fun _ _ _ _ h => h⟩⟩
  simp only [List.length_append, List.length_cons, List.length_nil] at e4 b4 fin
  exact bodyPost_ret (results_cell_row (P := Tryz.prog) rfl _ _ (w.heap.size + 1) 28 _ (0, 0) _ rfl e4 Tryz.underlying28 rfl (by kernel_rfl)) rfl ⟨fin, b4⟩
end Go.Proofs.YtiamojpeedllbaaGreatDoor.Dat
