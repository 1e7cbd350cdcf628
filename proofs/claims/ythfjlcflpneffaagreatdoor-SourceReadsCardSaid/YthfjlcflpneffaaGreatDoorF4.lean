/-
The document's closed, in memory: what it answers. No condition but small numbers.
-/
import Derived.Test.YthfjlcflpneffaaGreatDoorF2
import Derived.Test.YthfjlcflpneffaaGreatDoorF0
namespace Go.Proofs.YthfjlcflpneffaaGreatDoor
open Go.ChangeShapes Go.WideShapes Go.ChangeAt Go.RowKit
open Dat (PT makeT RepS RepV)

theorem repS_take {w : World} {B : Nat} {l : List PT} {a : Option Addr} {c : Nat} (h : RepS w B l (.slice a l.length c)) (d : Nat) (hd : d ≤ l.length) : RepS w B (l.take d) (.slice a d c) := by
  obtain ⟨a', c', e, hl, hm, hn, hr⟩ := h
  cases e
  have hlen : (l.take d).length = d := by rw [List.length_take]; omega
  refine ⟨a, c, by rw [hlen], by omega, hm, hn, ?_⟩
  rcases hr with rfl | ⟨b', o', ha, hlt, hr⟩
  · exact .inl (by simp)
  · exact .inr ⟨b', o', ha, hlt, Dat.repAt_take d hr⟩
theorem new2 (w : World) (o p : Obj) : ((w.alloc o).alloc p).heap[w.heap.size + 1]? = some p := by
  have := heap_alloc_new (w.alloc o) p
  rwa [size_new] at this
set_option maxRecDepth 100000 in
theorem closed_plain (k : Int) (od : Int) (L : Nat) (al : Option Addr) (cl : Nat) (w : World) (K : Int) (h : k = 2 ∧ K = 7 ∨ (k == 2) = false ∧ od < 0 ∧ K = 5) :
    Calls Tryz.prog 23 #[.agg #[.int .i64 k, .slice al L cl, .int .i64 od]] w fun e w' => e = .returned (.agg #[.int .i64 K, .int .i64 0, .string ⟨#[]⟩, .slice al L cl]) ∧ Below w.heap.size w w' := by
  have HB := Lib.hid (fun (x y : Obj) => ((Below.refl w.heap.size w).alloc (Nat.le_refl _) x).alloc (by rw [size_new]; omega) y)
  rcases h with ⟨rfl, rfl⟩ | ⟨h1, h2, rfl⟩
  all_goals
    go_enter Tryz.func23, Tryz.ntmps23
    go_wp2
    exact bodyPost_ret (results_cell_row (P := Tryz.prog) rfl _ _ (w.heap.size + 1) 34 _ (0, 0) _ rfl (new2 w _ _) Tryz.underlying34 rfl (by kernel_rfl)) rfl ⟨rfl, HB.out _ _⟩
set_option maxRecDepth 100000 in
theorem closed_make (k : Int) (l : List PT) (t : PT) (al : Option Addr) (cl : Nat) (w : World) (hk : (k == 2) = false) (hv : RepS w w.heap.size (l ++ [t]) (.slice al (l ++ [t]).length cl)) (hl : l.length ≤ 5000) (ht : ∀ k i s m, t = .mk k i s m → m.length ≤ 5000) (r : PT) (hr : r = makeT l t) :
    Calls Tryz.prog 23 #[.agg #[.int .i64 k, .slice al (l ++ [t]).length cl, .int .i64 (l.length : Int)]] w fun e w' => (∃ x, e = .returned (r.val x) ∧ RepV w' w'.heap.size r x) ∧ Below w.heap.size w w' := by
  obtain ⟨tk, ti, ts, tm⟩ := t
  obtain ⟨rk, ri, rs, rm⟩ := r
  have htl := ht tk ti ts tm rfl
  have hlen : (l ++ [PT.mk tk ti ts tm]).length = l.length + 1 := by simp
  have HRT := repS_take hv l.length (by omega)
  rw [List.take_left'] at HRT
  rotate_left
  · rfl
  have HV := Lib.hid hv
  obtain ⟨a', c', e, hlc, hm, _, hor⟩ := hv
  cases e
  obtain ⟨b, o, rfl, hlt, hat⟩ := hor.resolve_left (by simp)
  obtain ⟨k', i', s', m', v', hjl, ok1, ok2, ok3, d0, d1, d2, d3, hv'⟩ := Dat.repAt_item hat (j := l.length) (by omega)
  rw [List.getElem_append_right (by omega)] at hjl
  simp only [Nat.sub_self, List.getElem_cons_zero, PT.mk.injEq] at hjl
  obtain ⟨rfl, rfl, rfl, rfl⟩ := hjl
  obtain ⟨at', ct', rfl, _⟩ := id hv'
  have HRTH := Lib.hid HRT
  have HVT := Lib.hid hv'
  have Q := Lib.hid (fun (x y : Obj) => ((Below.refl w.heap.size w).alloc (Nat.le_refl _) x).alloc (by rw [size_new]; omega) y)
  have KM : Hid (∀ W, Below w.heap.size w W → Calls Tryz.prog 42 #[.slice (some ⟨b, o, none⟩) l.length cl, .agg #[.int .i64 tk, .int .i64 ti, .string ts, .slice at' tm.length ct']] W fun e w' => (∃ x', e = .returned (PT.val (.mk rk ri rs rm) x') ∧ RepV w' w'.heap.size (.mk rk ri rs rm) x' ∧ (rm = tm ∧ x' = .slice at' tm.length ct' ∨ Dat.RowOwn w' (W.heap.size + 2) w.heap.size rm x')) ∧ Below W.heap.size W w') := Lib.hid fun W hb => by
    have := Dat.rmake_own l (.slice (some ⟨b, o, none⟩) l.length cl) tk ti ts tm (.slice at' tm.length ct') W w.heap.size (HRTH.out.below hb (Nat.le_refl _)) ⟨ok1, ok2, ok3, HVT.out.below hb (Nat.le_refl _)⟩ hb.size (by omega) (by omega) (.mk rk ri rs rm) hr
    refine this.mono ?_
    rintro e w' ⟨⟨x', h1, h2, h3⟩, h4⟩
    refine ⟨⟨x', h1, h2, ?_⟩, h4⟩
    rcases h3 with ⟨h0, h5⟩ | ⟨_, _, _, _, h5, h6⟩
    · subst h0
      rw [makeT, if_pos rfl] at hr
      cases hr
      exact .inl ⟨rfl, h5⟩
    · cases h5
      exact .inr h6
  rw [hlen] at hlc ⊢
  unfold maxLen at hm
  generalize hLn : l.length = L at *
  obtain ⟨M, hM⟩ : ∃ M, M = L + 1 := ⟨_, rfl⟩
  rw [← hM] at hlc ⊢
  have h0 : ((w.alloc (.cells #[.int .i64 k, .slice (some ⟨b, o, none⟩) M cl, .int .i64 (L : Int)] 55)).alloc (.cells #[.int .i64 0, .int .i64 0, .string ⟨#[]⟩, .slice none 0 0] 34)).heap[w.heap.size]? = some (.cells #[.int .i64 k, .slice (some ⟨b, o, none⟩) M cl, .int .i64 (L : Int)] 55) := Dat.blk_alloc (heap_alloc_new w _)
  have H1 := Lib.hid (new2 w (.cells #[.int .i64 k, .slice (some ⟨b, o, none⟩) M cl, .int .i64 (L : Int)] 55) (.cells #[.int .i64 0, .int .i64 0, .string ⟨#[]⟩, .slice none 0 0] 34))
  have HB := Lib.hid (Q.out (.cells #[.int .i64 k, .slice (some ⟨b, o, none⟩) M cl, .int .i64 (L : Int)] 55) (.cells #[.int .i64 0, .int .i64 0, .string ⟨#[]⟩, .slice none 0 0] 34))
  have b1 : ((w.alloc (.cells #[.int .i64 k, .slice (some ⟨b, o, none⟩) M cl, .int .i64 (L : Int)] 55)).alloc (.cells #[.int .i64 0, .int .i64 0, .string ⟨#[]⟩, .slice none 0 0] 34)).cell? ⟨w.heap.size, 1, none⟩ = some (.slice (some ⟨b, o, none⟩) M cl) := by rw [Lib.cell_of_heap h0]; rfl
  have b2 : ((w.alloc (.cells #[.int .i64 k, .slice (some ⟨b, o, none⟩) M cl, .int .i64 (L : Int)] 55)).alloc (.cells #[.int .i64 0, .int .i64 0, .string ⟨#[]⟩, .slice none 0 0] 34)).cell? ⟨w.heap.size, 2, none⟩ = some (.int .i64 (L : Int)) := by rw [Lib.cell_of_heap h0]; rfl
  have hbk := HB.out.block b hlt
  have e0 := (World.cell?_of_block (a := ⟨b, o + L * 4, none⟩) hbk).trans d0
  have e1 := (World.cell?_of_block (a := ⟨b, o + L * 4 + 1, none⟩) hbk).trans d1
  have e2 := (World.cell?_of_block (a := ⟨b, o + L * 4 + 2, none⟩) hbk).trans d2
  have e3 := (World.cell?_of_block (a := ⟨b, o + L * 4 + 3, none⟩) hbk).trans d3
  have sl1 : (L : Int) ≤ (cl : Int) := by omega
  have sl2 : ¬ (L : Int) < 0 := by omega
  have sl3 : L ≤ cl := by omega
  have sl4 : (L : Int) < (M : Int) := by omega
  clear hbk h0 d0 d1 d2 d3 Q
  clear hv' HRT hat hor hr ht htl HV
  go_enter Tryz.func23, Tryz.ntmps23
  clear hM
  go_wp2
  generalize ((w.alloc (.cells #[.int .i64 k, .slice (some ⟨b, o, none⟩) M cl, .int .i64 (L : Int)] 55)).alloc (.cells #[.int .i64 0, .int .i64 0, .string ⟨#[]⟩, .slice none 0 0] 34)) = w1 at b1 b2 e0 e1 e2 e3 HB H1 ⊢
  go_still_tail 11, (by kernel_rfl)
  change wpList _ _ _ _ _ w1.drew
  have hd := H1.out
  change w1.drew.heap[w.heap.size + 1]? = _ at hd
  have HB1 := Lib.hid HB.out.drew
  generalize w1.drew = w2 at hd HB1 ⊢
  have HD := Lib.hid hd
  clear hd b1 b2 e0 e1 e2 e3
  go_wp2_with fail
  refine (KM.out w2 HB1.out).mono ?_
  rintro e w3 ⟨⟨x', rfl, hx, hown⟩, hb3⟩
  have HOWN := Lib.hid hown
  have hd3 := (hb3.block _ (lt_of_block HD.out)).trans HD.out
  have HD3 := Lib.hid hd3
  have HB3 := Lib.hid (HB1.out.trans (hb3.mono HB1.out.size))
  have HX := Lib.hid hx
  obtain ⟨ax, cx, rfl, _⟩ := hx.2.2.2
  have g0 : w3.cell? ⟨w.heap.size + 1, 0, none⟩ = some (.int .i64 0) := by rw [Lib.cell_of_heap hd3]; rfl
  have g1 : w3.cell? ⟨w.heap.size + 1, 1, none⟩ = some (.int .i64 0) := by rw [Lib.cell_of_heap hd3]; rfl
  have g2 : w3.cell? ⟨w.heap.size + 1, 2, none⟩ = some (.string ⟨#[]⟩) := by rw [Lib.cell_of_heap hd3]; rfl
  have g3 : w3.cell? ⟨w.heap.size + 1, 3, none⟩ = some (.slice none 0 0) := by rw [Lib.cell_of_heap hd3]; rfl
  have f0 := Lib.frozen_of_heap hd3 0
  have f1 := Lib.frozen_of_heap hd3 1
  have f2 := Lib.frozen_of_heap hd3 2
  have f3 := Lib.frozen_of_heap hd3 3
  unfold Dat.PT.val
  have hsz2 : w.heap.size + 2 ≤ w2.heap.size := by have := lt_of_block HD.out; omega
  have OKS := Lib.hid (And.intro hx.1 (And.intro hx.2.1 hx.2.2.1))
  clear hd3 hb3 hx hown
  go_wp2
  have hrow := Dat.row_set4 HD3.out (.int .i64 rk) (.int .i64 ri) (.string rs) (.slice ax rm.length cx)
  have hle : w.heap.size ≤ w.heap.size + 1 := Nat.le_succ _
  have hbe := (((HB3.out.setCell (p := ⟨w.heap.size + 1, 0, none⟩) hle (.int .i64 rk)).setCell (p := ⟨w.heap.size + 1, 1, none⟩) hle (.int .i64 ri)).setCell (p := ⟨w.heap.size + 1, 2, none⟩) hle (.string rs)).setCell (p := ⟨w.heap.size + 1, 3, none⟩) hle (.slice ax rm.length cx)
  refine bodyPost_ret (results_cell_row (P := Tryz.prog) rfl _ _ (w.heap.size + 1) 34 _ (0, 0) _ rfl hrow Tryz.underlying34 rfl (by kernel_rfl)) rfl ⟨⟨_, rfl, ?_⟩, hbe⟩
  refine ⟨OKS.out.1, OKS.out.2.1, OKS.out.2.2, ?_⟩
  rcases HOWN.out with ⟨h1, h2⟩ | h
  · subst h1
    cases h2
    exact (HVT.out.below hbe (Nat.le_refl _)).move hbe.size fun _ _ _ => rfl
  · have h5 := ((((h.setCell (a := ⟨w.heap.size + 1, 0, none⟩) (by simp only []; omega) hle (.int .i64 rk)).setCell (a := ⟨w.heap.size + 1, 1, none⟩) (by simp only []; omega) hle (.int .i64 ri)).setCell (a := ⟨w.heap.size + 1, 2, none⟩) (by simp only []; omega) hle (.string rs)).setCell (a := ⟨w.heap.size + 1, 3, none⟩) (by simp only []; omega) hle (.slice ax rm.length cx))
    exact h5.rep hbe.size
end Go.Proofs.YthfjlcflpneffaaGreatDoor
