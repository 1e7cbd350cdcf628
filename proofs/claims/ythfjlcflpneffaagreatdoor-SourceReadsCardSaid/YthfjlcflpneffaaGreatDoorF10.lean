/-
The document's closed once more, of data whose rows lie in no row of a block: where the rows lie of what it answers. No condition but small numbers.
-/
import Derived.Test.YthfjlcflpneffaaGreatDoorF9
namespace Go.Proofs.YthfjlcflpneffaaGreatDoor
open Go.ChangeShapes Go.WideShapes Go.ChangeAt Go.RowKit
open Dat (PT makeT RepS RepV)

theorem inAt_snoc {w : World} {S : Nat → Prop} {t : PT} : ∀ {l : List PT} {b o : Nat}, InAt w S (l ++ [t]) b o → InAt w S l b o ∧ InD w S t b (o + l.length * 4)
  | [], b, o, h => by
    rw [List.nil_append, InAt] at h
    rw [InAt]
    exact ⟨trivial, by simpa using h.1⟩
  | u :: l, b, o, h => by
    rw [List.cons_append, InAt] at h
    obtain ⟨h1, h2⟩ := inAt_snoc h.2
    rw [InAt]
    refine ⟨⟨h.1, h1⟩, ?_⟩
    rw [List.length_cons, show o + (l.length + 1) * 4 = o + 4 + l.length * 4 by omega]
    exact h2
/-- What closed answers. -/
def GotC (r : PT) (S : Nat → Prop) (e : Ending) (w' : World) : Prop :=
  ∃ rk ri rs rl x, r = .mk rk ri rs rl ∧ e = .returned (.agg #[.int .i64 rk, .int .i64 ri, .string rs, x]) ∧ (Dat.ok64 rk ∧ Dat.ok64 ri ∧ rs.size ≤ maxLen ∧ InS w' S rl x)
set_option maxRecDepth 100000 in
theorem closed_S (k : Int) (l : List PT) (t : PT) (al : Option Addr) (cl : Nat) (w : World) (S : Nat → Prop) (hS : ∀ b, w.heap.size ≤ b → S b) (hk : (k == 2) = false) (hv : InS w S (l ++ [t]) (.slice al (l ++ [t]).length cl)) (hl : l.length ≤ 10000) (ht : ∀ k i s m, t = .mk k i s m → m.length ≤ 10000) (r : PT) (hr : r = makeT l t) :
    Calls Tryz.prog 23 #[.agg #[.int .i64 k, .slice al (l ++ [t]).length cl, .int .i64 (l.length : Int)]] w fun e w' => GotC r S e w' ∧ Below w.heap.size w w' := by
  obtain ⟨tk, ti, ts, tm⟩ := t
  have htl := ht tk ti ts tm rfl
  have HSS := Lib.hid hS
  have hlen : (l ++ [PT.mk tk ti ts tm]).length = l.length + 1 := by simp
  have hv2 : InS w (fun b => b < w.heap.size ∧ S b) (l ++ [PT.mk tk ti ts tm]) (.slice al (l ++ [PT.mk tk ti ts tm]).length cl) := hv.move (fun b hb hlt => ⟨hlt, hb⟩) (fun _ _ _ _ h => h)
  obtain ⟨a', c', e, hlc, hm, _, hor⟩ := hv2
  cases e
  obtain ⟨b, o, rfl, hlt, hat⟩ := hor.resolve_left (by simp)
  obtain ⟨hat1, hD⟩ := inAt_snoc hat
  rw [inD_mk] at hD
  obtain ⟨ok1, ok2, ok3, d0, d1, d2, v', d3, hv'⟩ := hD
  obtain ⟨at', ct', rfl, _⟩ := id hv'
  have HRT : Hid (InS w (fun b => b < w.heap.size ∧ S b) l (.slice (some ⟨b, o, none⟩) l.length cl)) := Lib.hid ⟨_, _, rfl, by omega, hm, (fun h => by cases h), .inr ⟨b, o, rfl, hlt, hat1⟩⟩
  have HVT := Lib.hid hv'
  have Q := Lib.hid (fun (x y : Obj) => ((Below.refl w.heap.size w).alloc (Nat.le_refl _) x).alloc (by rw [size_new]; omega) y)
  have KM : Hid (∀ W, Below w.heap.size w W → Calls Tryz.prog 42 #[.slice (some ⟨b, o, none⟩) l.length cl, .agg #[.int .i64 tk, .int .i64 ti, .string ts, .slice at' tm.length ct']] W fun e w' => GotM r W (fun b => b < w.heap.size ∧ S b) e w' ∧ Below W.heap.size W w') := Lib.hid fun W hb =>
    rmake_S l (.slice (some ⟨b, o, none⟩) l.length cl) tk ti ts tm (.slice at' tm.length ct') W _ (fun b hb' => Nat.lt_of_lt_of_le hb'.1 hb.size) (ins_below HRT.out hb) ⟨ok1, ok2, ok3, ins_below HVT.out hb⟩ (by omega) (by omega) r hr
  have hltb : b < w.heap.size := hlt.1
  rw [hlen] at hlc ⊢
  unfold maxLen at hm
  generalize hLn : l.length = L at *
  obtain ⟨M, hM⟩ : ∃ M, M = L + 1 := ⟨_, rfl⟩
  rw [← hM] at hlc ⊢
  have h0 : ((w.alloc (.cells #[.int .i64 k, .slice (some ⟨b, o, none⟩) M cl, .int .i64 (L : Int)] 55)).alloc (.cells #[.int .i64 0, .int .i64 0, .string ⟨#[]⟩, .slice none 0 0] 34)).heap[w.heap.size]? = some (.cells #[.int .i64 k, .slice (some ⟨b, o, none⟩) M cl, .int .i64 (L : Int)] 55) := Dat.blk_alloc (heap_alloc_new w _)
  have H1 := Lib.hid (new2 w (.cells #[.int .i64 k, .slice (some ⟨b, o, none⟩) M cl, .int .i64 (L : Int)] 55) (.cells #[.int .i64 0, .int .i64 0, .string ⟨#[]⟩, .slice none 0 0] 34))
  have HB := Lib.hid (Q.out (.cells #[.int .i64 k, .slice (some ⟨b, o, none⟩) M cl, .int .i64 (L : Int)] 55) (.cells #[.int .i64 0, .int .i64 0, .string ⟨#[]⟩, .slice none 0 0] 34))
  have b1 : ((w.alloc (.cells #[.int .i64 k, .slice (some ⟨b, o, none⟩) M cl, .int .i64 (L : Int)] 55)).alloc (.cells #[.int .i64 0, .int .i64 0, .string ⟨#[]⟩, .slice none 0 0] 34)).cell? ⟨w.heap.size, 1, none⟩ = some (.slice (some ⟨b, o, none⟩) M cl) := by rw [Lib.cell_of_heap h0]; rfl
  have b2 : ((w.alloc (.cells #[.int .i64 k, .slice (some ⟨b, o, none⟩) M cl, .int .i64 (L : Int)] 55)).alloc (.cells #[.int .i64 0, .int .i64 0, .string ⟨#[]⟩, .slice none 0 0] 34)).cell? ⟨w.heap.size, 2, none⟩ = some (.int .i64 (L : Int)) := by rw [Lib.cell_of_heap h0]; rfl
  have hbk := HB.out.block b hltb
  have e0 := (World.cell?_of_block (a := ⟨b, o + L * 4, none⟩) hbk).trans d0
  have e1 := (World.cell?_of_block (a := ⟨b, o + L * 4 + 1, none⟩) hbk).trans d1
  have e2 := (World.cell?_of_block (a := ⟨b, o + L * 4 + 2, none⟩) hbk).trans d2
  have e3 := (World.cell?_of_block (a := ⟨b, o + L * 4 + 3, none⟩) hbk).trans d3
  have sl1 : (L : Int) ≤ (cl : Int) := by omega
  have sl2 : ¬ (L : Int) < 0 := by omega
  have sl3 : L ≤ cl := by omega
  have sl4 : (L : Int) < (M : Int) := by omega
  clear hbk h0 d0 d1 d2 d3 Q
  clear hv' hat hat1 hor hlt hr ht htl hv hS
  go_enter Tryz.func23, Tryz.ntmps23
  clear hM
  go_wp2
  generalize ((w.alloc (.cells #[.int .i64 k, .slice (some ⟨b, o, none⟩) M cl, .int .i64 (L : Int)] 55)).alloc (.cells #[.int .i64 0, .int .i64 0, .string ⟨#[]⟩, .slice none 0 0] 34)) = w1 at b1 b2 e0 e1 e2 e3 HB H1 ⊢
  go_still_tail 11, (by kernel_rfl)
  change wpList _ _ _ _ _ w1.drew
  have hd := H1.out
  change w1.drew.heap[w.heap.size + 1]? = _ at hd
  have HB1 := Lib.hid HB.out.drew
  generalize w1.drew = w2 at hd HB1 ⊢
  have HD := Lib.hid hd
  clear hd b1 b2 e0 e1 e2 e3
  go_wp2_with fail
  refine (KM.out w2 HB1.out).mono ?_
  rintro e w3 ⟨⟨rk, ri, rs, rl, x', rfl, rfl, ko1, ko2, ko3, hx⟩, hb3⟩
  have HX := Lib.hid hx
  have hd3 := (hb3.block _ (lt_of_block HD.out)).trans HD.out
  have HD3 := Lib.hid hd3
  have HB3 := Lib.hid (HB1.out.trans (hb3.mono HB1.out.size))
  obtain ⟨ax, cx, rfl, _⟩ := hx
  have g0 : w3.cell? ⟨w.heap.size + 1, 0, none⟩ = some (.int .i64 0) := by rw [Lib.cell_of_heap hd3]; rfl
  have g1 : w3.cell? ⟨w.heap.size + 1, 1, none⟩ = some (.int .i64 0) := by rw [Lib.cell_of_heap hd3]; rfl
  have g2 : w3.cell? ⟨w.heap.size + 1, 2, none⟩ = some (.string ⟨#[]⟩) := by rw [Lib.cell_of_heap hd3]; rfl
  have g3 : w3.cell? ⟨w.heap.size + 1, 3, none⟩ = some (.slice none 0 0) := by rw [Lib.cell_of_heap hd3]; rfl
  have f0 := Lib.frozen_of_heap hd3 0
  have f1 := Lib.frozen_of_heap hd3 1
  have f2 := Lib.frozen_of_heap hd3 2
  have f3 := Lib.frozen_of_heap hd3 3
  have hsz2 : w.heap.size + 2 ≤ w2.heap.size := by have := lt_of_block HD.out; omega
  have OKS := Lib.hid (And.intro ko1 (And.intro ko2 ko3))
  clear hd3 hb3 ko1 ko2 ko3
  go_wp2
  have hrow := Dat.row_set4 HD3.out (.int .i64 rk) (.int .i64 ri) (.string rs) (.slice ax rl.length cx)
  have hle : w.heap.size ≤ w.heap.size + 1 := Nat.le_succ _
  have hbe := (((HB3.out.setCell (p := ⟨w.heap.size + 1, 0, none⟩) hle (.int .i64 rk)).setCell (p := ⟨w.heap.size + 1, 1, none⟩) hle (.int .i64 ri)).setCell (p := ⟨w.heap.size + 1, 2, none⟩) hle (.string rs)).setCell (p := ⟨w.heap.size + 1, 3, none⟩) hle (.slice ax rl.length cx)
  refine bodyPost_ret (results_cell_row (P := Tryz.prog) rfl _ _ (w.heap.size + 1) 34 _ (0, 0) _ rfl hrow Tryz.underlying34 rfl (by kernel_rfl)) rfl ⟨⟨_, _, _, _, _, rfl, rfl, OKS.out.1, OKS.out.2.1, OKS.out.2.2, ?_⟩, hbe⟩
  refine HX.out.move (fun b hb _ => ?_) (fun b o' u hb hc => ?_)
  · rcases hb with hb | hb
    · exact hb.2
    · exact HSS.out b (by omega)
  · have hne : b ≠ w.heap.size + 1 := by
      rcases hb with hb | hb
      · have := hb.1; omega
      · omega
    refine (World.cell?_of_block (w := w3) (a := ⟨b, o', none⟩) ?_).trans hc
    rw [Below.heap_setCell _ _ _ _ (by show b ≠ _; exact hne), Below.heap_setCell _ _ _ _ (by show b ≠ _; exact hne), Below.heap_setCell _ _ _ _ (by show b ≠ _; exact hne), Below.heap_setCell _ _ _ _ (by show b ≠ _; exact hne)]
end Go.Proofs.YthfjlcflpneffaaGreatDoor
