/-
The law DatumMakes of layer 2: package data's Make at a tail that is a list, or dotted; and at every tail. No condition but a bound on how many data there are.
-/
import Derived.Test.YtiamojpeedllbaaGreatDoorM9
namespace Go.Proofs.YtiamojpeedllbaaGreatDoor.Dat
open Go.ChangeShapes Go.WideShapes Go.ChangeAt Go.RowKit
set_option maxRecDepth 100000

set_option maxRecDepth 100000 in
set_option maxHeartbeats 4000000 in
theorem make_join (l : List PT) (k i : Int) (s : ByteArray) (m : List PT) (v x : Value) (w : World) (B : Nat) (hv : RepS w B l v) (hx : RepV w B (.mk k i s m) x) (hB : B ≤ w.heap.size) (h0 : l ≠ []) (hk : k = 5 ∨ k = 6) (hn : numsT l + numT (.mk k i s m) ≤ 200000) :
    Calls Tryz.prog 23 #[v, .agg #[.int .i64 k, .int .i64 i, .string s, x]] w fun e w' => MakeOk w.heap.size (.mk k 0 ⟨#[]⟩ (l ++ m)) e w' ∧ Below w.heap.size w w' := by
  have HX := Lib.hid hx
  have HV := Lib.hid hv
  have hok := hx.1
  obtain ⟨a, c, rfl, hl, hm, _⟩ := hv
  obtain ⟨a', c', e, hl', hm', _⟩ := hx.2.2.2
  subst e
  clear hx
  unfold maxLen at hm hm'
  have hz : ((l.length : Int) == 0) = false := by
    have := List.length_pos_iff.2 h0
    simp; omega
  have S0 := Lib.hid (St2.first w #[.int .i64 k, .int .i64 i, .string s, .slice a' m.length c'] #[.int .i64 0, .int .i64 0, .string ⟨#[]⟩, .slice none 0 0])
  have CT := Lib.hid (fun W => mayBeTail_any k false (by rcases hk with rfl | rfl <;> rfl) W)
  have hlen := nums_len l
  have hlen2 := nums_len m
  rw [numT] at hn
  have hnum : numsT (l ++ m) ≤ 200000 := by rw [numsT_append]; omega
  have hl1 : 1 ≤ l.length := List.length_pos_iff.2 h0
  have hl2 : l.length + m.length ≤ 1000000 := by omega
  have s1 := S0.out.next ((Below.refl _ _).alloc (Nat.le_refl _) (.cells #[.slice a l.length c, .slice a' m.length c'] 26))
  have b2 : (((w.alloc (.cells #[.int .i64 k, .int .i64 i, .string s, .slice a' m.length c'] 28)).alloc (.cells #[.int .i64 0, .int .i64 0, .string ⟨#[]⟩, .slice none 0 0] 28)).alloc (.cells #[.slice a l.length c, .slice a' m.length c'] 26)).heap[w.heap.size + 1 + 1]? = some (.cells #[.slice a l.length c, .slice a' m.length c'] 26 (0, 0)) := by
    have := heap_alloc_new ((w.alloc (.cells #[.int .i64 k, .int .i64 i, .string s, .slice a' m.length c'] 28)).alloc (.cells #[.int .i64 0, .int .i64 0, .string ⟨#[]⟩, .slice none 0 0] 28)) (.cells #[.slice a l.length c, .slice a' m.length c'] 26)
    simpa using this
  have C40 : Hid (Calls Tryz.prog 48 #[.slice (some ⟨w.heap.size + 1 + 1, 0, none⟩) 2 2] ((((w.alloc (.cells #[.int .i64 k, .int .i64 i, .string s, .slice a' m.length c'] 28)).alloc (.cells #[.int .i64 0, .int .i64 0, .string ⟨#[]⟩, .slice none 0 0] 28)).alloc (.cells #[.slice a l.length c, .slice a' m.length c'] 26)).drew) fun e w' => (∃ v', e = .returned v' ∧ RepS w' w'.heap.size (l ++ m) v') ∧ St2 w #[.int .i64 k, .int .i64 i, .string s, .slice a' m.length c'] #[.int .i64 0, .int .i64 0, .string ⟨#[]⟩, .slice none 0 0] w') := Lib.hid (by
    have key : ∀ W : World, W.heap[w.heap.size + 1 + 1]? = some (.cells #[.slice a l.length c, .slice a' m.length c'] 26 (0, 0)) → St2 w #[.int .i64 k, .int .i64 i, .string s, .slice a' m.length c'] #[.int .i64 0, .int .i64 0, .string ⟨#[]⟩, .slice none 0 0] W →
        Calls Tryz.prog 48 #[.slice (some ⟨w.heap.size + 1 + 1, 0, none⟩) 2 2] W.drew fun e w' => (∃ v', e = .returned v' ∧ RepS w' w'.heap.size (l ++ m) v') ∧ St2 w #[.int .i64 k, .int .i64 i, .string s, .slice a' m.length c'] #[.int .i64 0, .int .i64 0, .string ⟨#[]⟩, .slice none 0 0] w' := by
      intro W hb hs
      have s2 := hs.drew
      have hw2 := s2.lt
      refine (concat_any l m _ _ W.drew W.drew.heap.size (w.heap.size + 1 + 1) hb ?_ ?_ (Nat.le_refl _) hl1 hl2).mono ?_
      · exact (HV.out.below s2.1 hB).move (by omega) (fun _ _ _ => rfl)
      · exact (HX.out.2.2.2.below s2.1 hB).move (by omega) (fun _ _ _ => rfl)
      · rintro e w' ⟨h1, h2⟩
        exact ⟨h1, s2.next h2⟩
    exact key _ b2 s1)
  clear s1 b2
  have C39 : Hid (∀ W v1, St2 w #[.int .i64 k, .int .i64 i, .string s, .slice a' m.length c'] #[.int .i64 0, .int .i64 0, .string ⟨#[]⟩, .slice none 0 0] W → RepS W W.heap.size (l ++ m) v1 →
      Calls Tryz.prog 47 #[v1] W fun e w' => (∃ a2 c2, e = .returned (.slice a2 (l ++ m).length c2) ∧ NewS w' (w.heap.size + 2) (l ++ m) (.slice a2 (l ++ m).length c2)) ∧ St2 w #[.int .i64 k, .int .i64 i, .string s, .slice a' m.length c'] #[.int .i64 0, .int .i64 0, .string ⟨#[]⟩, .slice none 0 0] w') := Lib.hid (by
    intro W v1 hW hr
    refine (copiedList_any (l ++ m) W W.heap.size v1 hr (Nat.le_refl _) hnum).mono ?_
    rintro e w' ⟨⟨v', he, hn'⟩, hb'⟩
    have hmv := hn'.move (C' := w.heap.size + 2) hW.lt (fun _ _ _ _ h => h)
    obtain ⟨a2, c2, rfl, _⟩ := hn'
    exact ⟨⟨a2, c2, he, hmv⟩, hW.next hb'⟩)
  have FIN : Hid (∀ W a2 c2, St2 w #[.int .i64 k, .int .i64 i, .string s, .slice a' m.length c'] #[.int .i64 0, .int .i64 0, .string ⟨#[]⟩, .slice none 0 0] W → NewS W (w.heap.size + 2) (l ++ m) (.slice a2 (l ++ m).length c2) →
      ((((W.setCell ⟨w.heap.size + 1, 0, none⟩ (.int .i64 k)).setCell ⟨w.heap.size + 1, 1, none⟩ (.int .i64 0)).setCell ⟨w.heap.size + 1, 2, none⟩ (.string ⟨#[]⟩)).setCell ⟨w.heap.size + 1, 3, none⟩ (.slice a2 (l ++ m).length c2)).heap[w.heap.size + 1]? = some (.cells #[.int .i64 k, .int .i64 0, .string ⟨#[]⟩, .slice a2 (l ++ m).length c2] 28 (0, 0)) ∧
      MakeOk w.heap.size (.mk k 0 ⟨#[]⟩ (l ++ m)) (.returned (.agg #[.int .i64 k, .int .i64 0, .string ⟨#[]⟩, .slice a2 (l ++ m).length c2])) ((((W.setCell ⟨w.heap.size + 1, 0, none⟩ (.int .i64 k)).setCell ⟨w.heap.size + 1, 1, none⟩ (.int .i64 0)).setCell ⟨w.heap.size + 1, 2, none⟩ (.string ⟨#[]⟩)).setCell ⟨w.heap.size + 1, 3, none⟩ (.slice a2 (l ++ m).length c2)) ∧
      Below w.heap.size w ((((W.setCell ⟨w.heap.size + 1, 0, none⟩ (.int .i64 k)).setCell ⟨w.heap.size + 1, 1, none⟩ (.int .i64 0)).setCell ⟨w.heap.size + 1, 2, none⟩ (.string ⟨#[]⟩)).setCell ⟨w.heap.size + 1, 3, none⟩ (.slice a2 (l ++ m).length c2))) := Lib.hid fun W a2 c2 hS h1 => by
    obtain ⟨e4, K4, b4⟩ := new_end hS (.int .i64 k) (.int .i64 0) (.string ⟨#[]⟩) (.slice a2 (l ++ m).length c2)
    exact ⟨e4, ⟨_, rfl, ⟨hok, ok_small (by decide), by decide, (h1.move (Nat.le_refl _) K4.cell).rep⟩, ⟨hok, ok_small (by decide), by decide, (h1.move (Nat.le_refl _) K4.cell).move (by omega) fun _ _ _ _ h => h⟩⟩, b4⟩
  have S0d := S0.out.drew
  obtain ⟨q0, q1, q2, q3, y0, y1, y2, y3, _⟩ := S0d.cells
  clear hnum h0 hk hlen hlen2 hl1 hl2 hok hn
  obtain ⟨LM, hLM⟩ : ∃ LM, LM = l ++ m := ⟨_, rfl⟩
  rw [← hLM] at C40 C39 FIN ⊢
  clear hLM
  go_enter Tryz.func23, Tryz.ntmps23
  go_wp2_with (go_at_call 46; ((with_reducible refine (CT.out _).mono ?_); rintro e w' ⟨rfl, rfl⟩))
  go_region_with (first
    | (go_at_call 48; (with_reducible refine C40.out.mono ?_); rintro e w1 ⟨⟨v1, rfl, r1⟩, s1'⟩; obtain ⟨p0, p1, p2, p3, p4, p5, p6, p7, _⟩ := s1'.cells; obtain ⟨f0, f1, f2, f3⟩ := s1'.froz)
    | (go_at_call 47; (with_reducible refine (C39.out _ _ (by assumption) (by assumption)).mono ?_); rintro e w1 ⟨⟨a2, c2, rfl, g2⟩, s2'⟩; obtain ⟨p0, p1, p2, p3, p4, p5, p6, p7, _⟩ := s2'.cells; obtain ⟨f0, f1, f2, f3⟩ := s2'.froz))
  all_goals
    go_wp2
    exact bodyPost_ret (results_cell_row (P := Tryz.prog) rfl _ _ (w.heap.size + 1) 28 _ (0, 0) _ rfl (FIN.out _ _ _ (by assumption) (by assumption)).1 Tryz.underlying28 rfl (by kernel_rfl)) rfl (show MakeOk _ _ _ _ ∧ _ from (FIN.out _ _ _ (by assumption) (by assumption)).2)

/-- Package data's Make, at every row of items and every tail. -/
theorem make_any (l : List PT) (k i : Int) (s : ByteArray) (m : List PT) (v x : Value) (w : World) (B : Nat) (hv : RepS w B l v) (hx : RepV w B (.mk k i s m) x) (hB : B ≤ w.heap.size) (hn : numsT l + numT (.mk k i s m) ≤ 200000) (r : PT) (hr : r = makeT l (.mk k i s m)) :
    Calls Tryz.prog 23 #[v, .agg #[.int .i64 k, .int .i64 i, .string s, x]] w fun e w' => MakeOk w.heap.size r e w' ∧ Below w.heap.size w w' := by
  subst hr
  by_cases h0 : l = []
  · subst h0
    rw [makeT, if_pos rfl]
    exact make_none k i s m x v w B hv hx hB (by omega)
  · by_cases hk : k = 5 ∨ k = 6
    · rw [makeT, if_neg h0, if_pos hk]
      exact make_join l k i s m v x w B hv hx hB h0 hk hn
    · rw [makeT, if_neg h0, if_neg hk]
      exact make_tail l k i s m v x w B hv hx hB h0 (fun e => hk (.inl e)) (fun e => hk (.inr e)) hn
end Go.Proofs.YtiamojpeedllbaaGreatDoor.Dat
