/-
The document's Make once more, of data whose rows lie in blocks that a predicate tells: where the rows lie of what it answers. No condition but a bound on how many data there are.
-/
import Derived.Test.YthfjlcflpneffaaGreatDoorF8
namespace Go.Proofs.YthfjlcflpneffaaGreatDoor
open Go.ChangeShapes Go.WideShapes Go.ChangeAt Go.RowKit
open Dat (PT makeT RepS RepV St2 RowX ok64 ok_small blk_alloc row_set4)
set_option maxRecDepth 100000

theorem RowOwnS.setCell {w : World} {base : Nat} {S : Nat → Prop} {l : List PT} {v : Value} (h : RowOwnS w base S l v) {a : Addr} (h1 : a.block < base) (h2 : ¬ S a.block) (u : Value) : RowOwnS (w.setCell a u) base S l v := by
  obtain ⟨xs, ho, hx⟩ := h
  exact ⟨xs, ownsRow_setCell_below ho h1 u, RowX.imp (fun m x hm => hm.move (fun b hb _ => hb) (fun b o y hb hc => by
    rw [World.cell?_of_block (w := w) (a := ⟨b, o, none⟩) (Below.heap_setCell _ _ _ _ (by show b ≠ _; rintro rfl; exact h2 hb))]; exact hc)) hx⟩
theorem InS.drewn {w : World} {S : Nat → Prop} {m : List PT} {x : Value} (h : InS w S m x) : InS w.drew S m x := InS.move (w := w) (w' := w.drew) (fun _ hb _ => hb) (fun _ _ _ _ hc => hc) h
theorem RowOwnS.drewn {w : World} {base : Nat} {S : Nat → Prop} {l : List PT} {v : Value} (h : RowOwnS w base S l v) : RowOwnS w.drew base S l v := by
  obtain ⟨xs, ho, hx⟩ := h
  exact ⟨xs, ho, RowX.imp (fun m x hm => hm.drewn) hx⟩
theorem wpList_append_rowS {ops : Array Oper} {rest : List Oper} {o : Oper} {a : Act} {w : World} {Q : Exit → Act → World → Prop} (hgd : o.guard = none) (s x : Operand)
    (ho : o.op = .call { callee := .builtin .append, args := #[s, x], argTypes := #[22, 22] }) (base : Nat) (S : Nat → Prop) (hS : ∀ b, S b → b < base) (l m : List PT) (v u : Value) (hs : a.eval s = v) (hx : a.eval x = u)
    (hown : RowOwnS w base S l v) (hsrc : SrcP w S m u) (hlen : l.length + m.length ≤ 1000000) (hbase : base ≤ w.heap.size)
    (h : ∀ v' w', RowOwnS w' base S (l ++ m) v' → Below base w w' → (∀ k, k < w.heap.size → some k ≠ v.ownBlock → w'.heap[k]? = w.heap[k]?) → wpList Tryz.prog ops Q rest (a.put o.dst v') w') : wpList Tryz.prog ops Q (o :: rest) a w :=
  wpList_plain hgd fun _ hK => wp_append_rowS s x ho base S hS l m v u hs hx hown hsrc hlen hbase fun v' w' h1 h2 h3 => hK _ _ (h v' w' h1 h2 h3)
theorem rowS_rep {w : World} {base : Nat} {S : Nat → Prop} {l : List PT} {v : Value} (h : RowOwnS w base S l v) : ∃ a c, v = .slice a l.length c := by
  obtain ⟨a, c, e, _⟩ := h.ins
  exact ⟨a, c, e⟩
theorem end_S {w w2 : World} {cs : Array Value} {y0 y1 y2 y3 v : Value} {S : Nat → Prop} {L : List PT} (hS : ∀ b, S b → b < w.heap.size) (T : St2 w cs #[y0, y1, y2, y3] w2) (ho : RowOwnS w2 (w.heap.size + 2) S L v) (K : Int) :
    ((((w2.setCell ⟨w.heap.size + 1, 0, none⟩ (.int .i64 K)).setCell ⟨w.heap.size + 1, 1, none⟩ (.int .i64 0)).setCell ⟨w.heap.size + 1, 2, none⟩ (.string ⟨#[]⟩)).setCell ⟨w.heap.size + 1, 3, none⟩ v).heap[w.heap.size + 1]? = some (.cells #[.int .i64 K, .int .i64 0, .string ⟨#[]⟩, v] 34 (0, 0)) ∧
    InS ((((w2.setCell ⟨w.heap.size + 1, 0, none⟩ (.int .i64 K)).setCell ⟨w.heap.size + 1, 1, none⟩ (.int .i64 0)).setCell ⟨w.heap.size + 1, 2, none⟩ (.string ⟨#[]⟩)).setCell ⟨w.heap.size + 1, 3, none⟩ v) (fun b => S b ∨ w.heap.size ≤ b) L v ∧
    Below w.heap.size w ((((w2.setCell ⟨w.heap.size + 1, 0, none⟩ (.int .i64 K)).setCell ⟨w.heap.size + 1, 1, none⟩ (.int .i64 0)).setCell ⟨w.heap.size + 1, 2, none⟩ (.string ⟨#[]⟩)).setCell ⟨w.heap.size + 1, 3, none⟩ v) := by
  have hn : ¬ S (w.heap.size + 1) := fun h => by have := hS _ h; omega
  have o1 := ((((ho.setCell (a := ⟨w.heap.size + 1, 0, none⟩) (by simp only []; omega) hn (.int .i64 K)).setCell (a := ⟨w.heap.size + 1, 1, none⟩) (by simp only []; omega) hn (.int .i64 0)).setCell (a := ⟨w.heap.size + 1, 2, none⟩) (by simp only []; omega) hn (.string ⟨#[]⟩)).setCell (a := ⟨w.heap.size + 1, 3, none⟩) (by simp only []; omega) hn v)
  have b1 := ((((T.1.setCell (p := ⟨w.heap.size + 1, 0, none⟩) (by simp only []; omega) (.int .i64 K)).setCell (p := ⟨w.heap.size + 1, 1, none⟩) (by simp only []; omega) (.int .i64 0)).setCell (p := ⟨w.heap.size + 1, 2, none⟩) (by simp only []; omega) (.string ⟨#[]⟩)).setCell (p := ⟨w.heap.size + 1, 3, none⟩) (by simp only []; omega) v)
  exact ⟨row_set4 T.2.2 _ _ _ _, o1.ins.move (fun b hb _ => hb.imp id (fun h => by omega)) (fun _ _ _ _ h => h), b1⟩

/-- What the document's Make answers. -/
def GotM (r : PT) (w : World) (S : Nat → Prop) (e : Ending) (w' : World) : Prop :=
  ∃ rk ri rs rl x, r = .mk rk ri rs rl ∧ e = .returned (.agg #[.int .i64 rk, .int .i64 ri, .string rs, x]) ∧ ok64 rk ∧ ok64 ri ∧ rs.size ≤ maxLen ∧ InS w' (fun b => S b ∨ w.heap.size ≤ b) rl x

set_option maxHeartbeats 2000000 in
theorem rmake_S (l : List PT) (v : Value) (k i : Int) (s : ByteArray) (m : List PT) (x : Value) (w : World) (S : Nat → Prop) (hS : ∀ b, S b → b < w.heap.size) (hv : InS w S l v) (hx : ok64 k ∧ ok64 i ∧ s.size ≤ maxLen ∧ InS w S m x) (h1 : l.length ≤ 200000) (h2 : m.length ≤ 200000) (r : PT) (hr : r = makeT l (.mk k i s m)) :
    Calls Tryz.prog 42 #[v, .agg #[.int .i64 k, .int .i64 i, .string s, x]] w fun e w' => GotM r w S e w' ∧ Below w.heap.size w w' := by
  have HV := Lib.hid hv
  have HX := Lib.hid hx
  have HSB := Lib.hid hS
  obtain ⟨a, c, rfl, hl, hm, _⟩ := hv
  obtain ⟨a', c', e, hl', hm', _⟩ := hx.2.2.2
  subst e
  unfold maxLen at hm hm'
  clear hx hS
  have S0 := Lib.hid (St2.first w #[.int .i64 k, .int .i64 i, .string s, .slice a' m.length c'] #[.int .i64 0, .int .i64 0, .string ⟨#[]⟩, .slice none 0 0])
  by_cases h0 : l = []
  · have e : makeT l (.mk k i s m) = .mk k i s m := by rw [makeT, if_pos h0]
    rw [e] at hr
    subst hr
    subst h0
    clear e
    go_enter Tryz.func42, Tryz.ntmps42
    go_wp2
    have S1 := St2.first w #[.int .i64 k, .int .i64 i, .string s, .slice a' m.length c'] #[.int .i64 k, .int .i64 i, .string s, .slice a' m.length c']
    refine bodyPost_ret (results_cell_row (P := Tryz.prog) rfl _ _ (w.heap.size + 1) 34 _ (0, 0) _ rfl S1.2.2 Tryz.underlying34 rfl (by kernel_rfl)) rfl ?_
    exact ⟨⟨k, i, s, m, _, rfl, rfl, HX.out.1, HX.out.2.1, HX.out.2.2.1, (ins_below HX.out.2.2.2 S1.1).move (fun b hb _ => .inl hb) (fun _ _ _ _ h => h)⟩, S1.1⟩
  · have hz : ((l.length : Int) == 0) = false := by
      have := List.length_pos_iff.2 h0
      simp; omega
    have HSB2 := Lib.hid (fun b (hb : S b) => Nat.lt_of_lt_of_le (HSB.out b hb) (Nat.le_add_right w.heap.size 2))
    have HR0 : Hid (RowOwnS (((w.alloc (.cells #[.int .i64 k, .int .i64 i, .string s, .slice a' m.length c'] 34)).alloc (.cells #[.int .i64 0, .int .i64 0, .string ⟨#[]⟩, .slice none 0 0] 34)).alloc (.cells #[] 34)) (w.heap.size + 2) S [] (.slice (some ⟨w.heap.size + 1 + 1, 0, none⟩) 0 0)) := by
      refine Lib.hid (rowS_nil ?_ (Nat.le_refl _))
      have := heap_alloc_new ((w.alloc (.cells #[.int .i64 k, .int .i64 i, .string s, .slice a' m.length c'] 34)).alloc (.cells #[.int .i64 0, .int .i64 0, .string ⟨#[]⟩, .slice none 0 0] 34)) (.cells #[] 34)
      simpa using this
    have HV0 := Lib.hid (ins_below HV.out ((S0.out.1).alloc (by simp; omega) (.cells #[] 34))).src
    have hl0 : ([] : List PT).length + l.length ≤ 1000000 := by simp; omega
    have hsz0 : w.heap.size + 2 ≤ (((w.alloc (.cells #[.int .i64 k, .int .i64 i, .string s, .slice a' m.length c'] 34)).alloc (.cells #[.int .i64 0, .int .i64 0, .string ⟨#[]⟩, .slice none 0 0] 34)).alloc (.cells #[] 34)).heap.size := by simp
    go_enter Tryz.func42, Tryz.ntmps42
    go_wp2_with (at_builtin; refine wpList_append_rowS rfl _ _ rfl (w.heap.size + 2) S HSB2.out [] l _ _ rfl rfl HR0.out HV0.out hl0 hsz0 ?_)
    intro v1 w1 ho1 hbb1 _
    have S1 := Lib.hid ((S0.out.next ((Below.refl _ _).alloc (Nat.le_refl _) (.cells #[] 34))).nextB hbb1 (Nat.le_refl _))
    have HO1 := Lib.hid ho1
    clear ho1 hbb1 HR0 HV0 hsz0
    obtain ⟨c0, c1, c2, c3, d0, d1, d2, d3, _⟩ := S1.out.cells
    have hsz1 : w.heap.size + 2 ≤ w1.heap.size := S1.out.lt
    rcases (show k = 5 ∨ k = 6 ∨ (k ≠ 5 ∧ k ≠ 6) by omega) with rfl | rfl | ⟨k5, k6⟩
    · have e : makeT l (.mk 5 i s m) = .mk 5 0 ⟨#[]⟩ (l ++ m) := by rw [makeT, if_neg h0, if_pos (by omega)]
      have ER := Lib.hid (hr.trans e)
      clear hr e
      go_wp2
      have S1D := Lib.hid S1.out.drew
      have HO2 := Lib.hid HO1.out.drewn
      have HSR : Hid (SrcP w1.drew S m (.slice a' m.length c')) := Lib.hid (ins_below HX.out.2.2.2 S1.out.1).drewn.src
      have hsz2 : w.heap.size + 2 ≤ w1.drew.heap.size := hsz1
      have hl2 : l.length + m.length ≤ 1000000 := by omega
      go_region_law (first
        | (refine step_append_rowS rfl _ _ rfl (w.heap.size + 2) S HSB2.out l m v1 _ rfl rfl HO2.out HSR.out hl2 hsz2 ?_
           intro v2 w2 ho2 hbb2 _
           have S2 := Lib.hid (S1D.out.nextB hbb2 (Nat.le_refl _))
           obtain ⟨a2, c2, rfl⟩ := rowS_rep ho2
           have HR2 := Lib.hid ho2
           clear ho2 hbb2
           obtain ⟨e0, e1, e2, e3, q0, q1, q2, q3, _⟩ := S2.out.cells
           have g0 : w2.frozen? ⟨w.heap.size + 1, 0, none⟩ = false := Lib.frozen_of_heap S2.out.2.2 0
           have g1 : w2.frozen? ⟨w.heap.size + 1, 1, none⟩ = false := Lib.frozen_of_heap S2.out.2.2 1
           have g2 : w2.frozen? ⟨w.heap.size + 1, 2, none⟩ = false := Lib.frozen_of_heap S2.out.2.2 2
           have g3 : w2.frozen? ⟨w.heap.size + 1, 3, none⟩ = false := Lib.frozen_of_heap S2.out.2.2 3))
      all_goals
        have er := ER.out
        subst er
        clear ER
        go_wp2
        obtain ⟨e4, r4, b4⟩ := end_S HSB.out S2.out HR2.out 5
        simp only [List.length_append] at e4 r4 b4
        exact bodyPost_ret (results_cell_row (P := Tryz.prog) rfl _ _ (w.heap.size + 1) 34 _ (0, 0) _ rfl e4 Tryz.underlying34 rfl (by kernel_rfl)) rfl ⟨⟨5, 0, _, _, _, rfl, rfl, ok_small (by decide), ok_small (by decide), by decide, r4⟩, b4⟩
    · have e : makeT l (.mk 6 i s m) = .mk 6 0 ⟨#[]⟩ (l ++ m) := by rw [makeT, if_neg h0, if_pos (by omega)]
      have ER := Lib.hid (hr.trans e)
      clear hr e
      go_wp2
      have S1D := Lib.hid S1.out.drew
      have HO2 := Lib.hid HO1.out.drewn
      have HSR : Hid (SrcP w1.drew S m (.slice a' m.length c')) := Lib.hid (ins_below HX.out.2.2.2 S1.out.1).drewn.src
      have hsz2 : w.heap.size + 2 ≤ w1.drew.heap.size := hsz1
      have hl2 : l.length + m.length ≤ 1000000 := by omega
      go_region_law (first
        | (refine step_append_rowS rfl _ _ rfl (w.heap.size + 2) S HSB2.out l m v1 _ rfl rfl HO2.out HSR.out hl2 hsz2 ?_
           intro v2 w2 ho2 hbb2 _
           have S2 := Lib.hid (S1D.out.nextB hbb2 (Nat.le_refl _))
           obtain ⟨a2, c2, rfl⟩ := rowS_rep ho2
           have HR2 := Lib.hid ho2
           clear ho2 hbb2
           obtain ⟨e0, e1, e2, e3, q0, q1, q2, q3, _⟩ := S2.out.cells
           have g0 : w2.frozen? ⟨w.heap.size + 1, 0, none⟩ = false := Lib.frozen_of_heap S2.out.2.2 0
           have g1 : w2.frozen? ⟨w.heap.size + 1, 1, none⟩ = false := Lib.frozen_of_heap S2.out.2.2 1
           have g2 : w2.frozen? ⟨w.heap.size + 1, 2, none⟩ = false := Lib.frozen_of_heap S2.out.2.2 2
           have g3 : w2.frozen? ⟨w.heap.size + 1, 3, none⟩ = false := Lib.frozen_of_heap S2.out.2.2 3))
      all_goals
        have er := ER.out
        subst er
        clear ER
        go_wp2
        obtain ⟨e4, r4, b4⟩ := end_S HSB.out S2.out HR2.out 6
        simp only [List.length_append] at e4 r4 b4
        exact bodyPost_ret (results_cell_row (P := Tryz.prog) rfl _ _ (w.heap.size + 1) 34 _ (0, 0) _ rfl e4 Tryz.underlying34 rfl (by kernel_rfl)) rfl ⟨⟨6, 0, _, _, _, rfl, rfl, ok_small (by decide), ok_small (by decide), by decide, r4⟩, b4⟩
    · have e : makeT l (.mk k i s m) = .mk 6 0 ⟨#[]⟩ (l ++ [.mk k i s m]) := by rw [makeT, if_neg h0, if_neg (by omega)]
      have ER := Lib.hid (hr.trans e)
      clear hr e
      have k5' : (k == 5) = false := by simpa using k5
      have k6' : (k == 6) = false := by simpa using k6
      clear k5 k6
      have HBA := Lib.hid ((Below.refl w1.heap.size w1).alloc (Nat.le_refl _) (.cells #[.int .i64 k, .int .i64 i, .string s, .slice a' m.length c'] 34))
      have HSR : Hid (SrcP (w1.alloc (.cells #[.int .i64 k, .int .i64 i, .string s, .slice a' m.length c'] 34)) S [.mk k i s m] (.slice (some ⟨w1.heap.size, 0, none⟩) 1 1)) := Lib.hid (src_oneP (heap_alloc_new w1 _) HX.out.1 HX.out.2.1 HX.out.2.2.1 (ins_below (ins_below HX.out.2.2.2 S1.out.1) HBA.out))
      have HO2 := Lib.hid (rowS_alloc HO1.out (.cells #[.int .i64 k, .int .i64 i, .string s, .slice a' m.length c'] 34))
      have hl2 : l.length + [PT.mk k i s m].length ≤ 1000000 := by simp; omega
      have hsz2 : w.heap.size + 2 ≤ (w1.alloc (.cells #[.int .i64 k, .int .i64 i, .string s, .slice a' m.length c'] 34)).heap.size := by simp; omega
      go_wp2_with (at_builtin; refine wpList_append_rowS rfl _ _ rfl (w.heap.size + 2) S HSB2.out l [.mk k i s m] v1 _ rfl rfl HO2.out HSR.out hl2 hsz2 ?_)
      intro v2 w2 ho2 hbb2 _
      have S2 := Lib.hid ((S1.out.next HBA.out).nextB hbb2 (Nat.le_refl _))
      obtain ⟨a2, c2, rfl⟩ := rowS_rep ho2
      have HR2 := Lib.hid ho2
      clear ho2 hbb2 c0 c1 c3 d0 d1 d2 d3
      obtain ⟨_, _, _, _, d0, d1, d2, d3, _⟩ := S2.out.cells
      have g0 : w2.frozen? ⟨w.heap.size + 1, 0, none⟩ = false := Lib.frozen_of_heap S2.out.2.2 0
      have g1 : w2.frozen? ⟨w.heap.size + 1, 1, none⟩ = false := Lib.frozen_of_heap S2.out.2.2 1
      have g2 : w2.frozen? ⟨w.heap.size + 1, 2, none⟩ = false := Lib.frozen_of_heap S2.out.2.2 2
      have g3 : w2.frozen? ⟨w.heap.size + 1, 3, none⟩ = false := Lib.frozen_of_heap S2.out.2.2 3
      have er := ER.out
      subst er
      clear ER
      go_wp2
      obtain ⟨e4, r4, b4⟩ := end_S HSB.out S2.out HR2.out 6
      simp only [List.length_append, List.length_cons, List.length_nil] at e4 r4 b4
      exact bodyPost_ret (results_cell_row (P := Tryz.prog) rfl _ _ (w.heap.size + 1) 34 _ (0, 0) _ rfl e4 Tryz.underlying34 rfl (by kernel_rfl)) rfl ⟨⟨6, 0, _, _, _, rfl, rfl, ok_small (by decide), ok_small (by decide), by decide, r4⟩, b4⟩
end Go.Proofs.YthfjlcflpneffaaGreatDoor
