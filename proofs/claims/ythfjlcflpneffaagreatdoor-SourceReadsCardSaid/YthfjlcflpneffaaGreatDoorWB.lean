/-
Texts Z5, Z6, Z7, A2, Z8, Z9, Z10, one behind the other (a claim bears sixty files). Conditions: as each says.
-/
import Derived.Test.YthfjlcflpneffaaGreatDoorWA
import Derived.Deep.RegionHeld3
import Derived.Deep.RegionWith
import Derived.Recover
import Derived.Laws.Pointers
import Derived.Test.YthfjlcflpneffaaGreatDoorWX
import Derived.Test.YthfjlcflpneffaaGreatDoorWD
import Derived.Lib.AppendStr

/-
Package read's behind and datum: what they answer, for any tokens. No condition.
-/
namespace Go.Proofs.YthfjlcflpneffaaGreatDoor
open Go.ChangeShapes Go.WideShapes Go.ChangeAt Go.RowKit
open Dat (PT makeT RowX NewS NewV NewX numT numsT)

set_option maxRecDepth 100000 in
set_option maxHeartbeats 2000000 in
theorem behind_row {N R m : Nat} (hD : DatOk N R m) (w : World) (t : TkP) (r : List TkP) (n : Nat) (hm : r.length ≤ m) (hts : r.length ≤ 4096) (hn : n < 32) (hk : t.t.kind = 2 ∨ t.t.kind = 0) (hr : RdAt w R N r) :
    Calls Tryz.prog 54 #[.pointer (some ⟨R, 0, none⟩), .int .i64 t.t.kind, .int .i64 ((n : Int) + 1)] w (GotD N R n (t :: r) w) := by
  have B0 : Hid (But R w (w.alloc (.cells zero4 34))) := Lib.hid ((But.refl R w).alloc _)
  have hr0 := hr.grown ((Below.refl w.heap.size w).alloc (Nat.le_refl _) (.cells zero4 34))
  have hRlt := hr.lt
  have C : Hid (∃ k0, t.t.kind = k0 ∧ ((k0 = 2 ∧ Calls Tryz.prog 76 #[.pointer (some ⟨R, 0, none⟩), .int .i64 ((n : Int) + 1)] (w.alloc (.cells zero4 34)) (GotIn N R n k0 r (w.alloc (.cells zero4 34)))) ∨
      (k0 = 0 ∧ Calls Tryz.prog 77 #[.pointer (some ⟨R, 0, none⟩), .int .i64 ((n : Int) + 1)] (w.alloc (.cells zero4 34)) (GotIn N R n k0 r (w.alloc (.cells zero4 34)))))) := Lib.hid (by
    rcases hk with h | h
    · exact ⟨2, h, .inl ⟨rfl, vector_of hD _ r n hm hts hn hr0⟩⟩
    · exact ⟨0, h, .inr ⟨rfl, list_of hD _ r n hm hts hn hr0⟩⟩)
  clear hD hr hr0
  obtain ⟨k0, hk0, C⟩ := C.out
  have HK := Lib.hid hk0
  rw [hk0]
  clear hk0
  rcases C with ⟨rfl, C⟩ | ⟨rfl, C⟩
  all_goals
    have HC := Lib.hid C
    clear C
    go_enter Tryz.func54, Tryz.ntmps54
    go_wp2_with fail
    refine HC.out.mono ?_
    rintro e w1 ⟨hbt, ⟨k, i, s, d, x, rest, rfl, hnew, hnm, hg, hrd⟩ | ⟨at_, er, rfl, hf⟩⟩
    · have S1 : Hid (But R w w1 ∧ RdAt w1 R N rest ∧ NewV w1 (w.heap.size + 1) (.mk k i s d) x ∧ w1.heap[w.heap.size]? = some (.cells zero4 34 (0, 0))) := Lib.hid
        ⟨B0.out.trans hbt, hrd, ⟨hnew.1, hnew.2.1, hnew.2.2.1, hnew.2.2.2.move (by simp) fun _ _ _ _ h => h⟩, (hbt.block _ (by simp) (by omega)).trans (heap_alloc_new w _)⟩
      have G1 := Lib.hid (gives_open (N := N) (t := t) (by omega) hn (HK.out ▸ hg))
      have hnum : numT (.mk k i s d) + 2 * rest.length + 1 ≤ 2 * (t :: r).length := by simp only [List.length_cons]; omega
      obtain ⟨ax, cx, ex, _⟩ := hnew.2.2.2
      subst ex
      clear hbt hnew hg hrd
      obtain ⟨d0, d1, d2, d3, g0, g1, g2, g3⟩ := res_cells S1.out.2.2.2
      have hs1 : w.heap.size < w1.heap.size := lt_of_block S1.out.2.2.2
      go_wp2
      have E := ResEnd.put S1.out.1 S1.out.2.1 hRlt S1.out.2.2.2 S1.out.2.2.1.1 S1.out.2.2.1.2.1 S1.out.2.2.1.2.2.1 S1.out.2.2.1.2.2.2
      exact bodyPost_ret (results_cell_row (P := Tryz.prog) rfl _ _ w.heap.size 34 _ (0, 0) _ rfl E.blk Tryz.underlying34 rfl (by kernel_rfl)) rfl ⟨E.but, .inl ⟨k, i, s, d, _, rest, rfl, E.new, hnum, G1.out, E.rd⟩⟩
    · have F1 := Lib.hid (fails_open (N := N) (t := t) (by omega) hn (HK.out ▸ hf))
      have HB := Lib.hid (B0.out.trans hbt)
      clear hf hbt
      go_wp2
      exact ⟨rfl, HB.out, .inr ⟨_, _, rfl, F1.out⟩⟩

theorem kept_blk {R : Nat} {W w1 : World} {b : Nat} {c : Obj} (hbt : But R W w1) (h : W.heap[b]? = some c) (hne : b ≠ R) : w1.heap[b]? = some c := (hbt.block b ((Array.getElem?_eq_some_iff.1 h).1) hne).trans h
abbrev signC : Array Value := #[.int .i64 4, .int .i64 0, .string quoteS, .slice none 0 0]
theorem sign_cells {W : World} {b : Nat} (h : W.heap[b]? = some (.cells signC 34 (0, 0))) : W.cell? ⟨b, 0, none⟩ = some (.int .i64 4) ∧ W.cell? ⟨b, 1, none⟩ = some (.int .i64 0) ∧ W.cell? ⟨b, 2, none⟩ = some (.string quoteS) ∧ W.cell? ⟨b, 3, none⟩ = some (.slice none 0 0) := by
  refine ⟨?_, ?_, ?_, ?_⟩
  all_goals (rw [Lib.cell_of_heap h]; rfl)
theorem quote_end {N R : Nat} {w W w1 : World} {rest : List TkP} {k i : Int} {s : ByteArray} {d : List PT} {x : Value} (hW : But R w W) (hbt : But R W w1) (hz : w1.heap[w.heap.size]? = some (.cells zero4 34 (0, 0))) (hnew : NewV w1 W.heap.size (.mk k i s d) x)
    (hs : w.heap.size + 1 ≤ W.heap.size) (hrd : RdAt w1 R N rest) (hR : R < w.heap.size) :
    ResEnd N R w (((((w1.setCell ⟨w.heap.size, 0, none⟩ (.int .i64 5)).setCell ⟨w.heap.size, 1, none⟩ (.int .i64 0)).setCell ⟨w.heap.size, 2, none⟩ (.string ⟨#[]⟩)).setCell ⟨w.heap.size, 3, none⟩ (.slice (some ⟨w1.heap.size, 0, none⟩) 2 2)).alloc
      (.cells #[.int .i64 4, .int .i64 0, .string quoteS, .slice none 0 0, .int .i64 k, .int .i64 i, .string s, x] 34)) rest 5 0 ⟨#[]⟩ [.mk 4 0 quoteS [], .mk k i s d] (.slice (some ⟨w1.heap.size, 0, none⟩) 2 2) := by
  obtain ⟨U, hU⟩ : ∃ U, U = ((((w1.setCell ⟨w.heap.size, 0, none⟩ (.int .i64 5)).setCell ⟨w.heap.size, 1, none⟩ (.int .i64 0)).setCell ⟨w.heap.size, 2, none⟩ (.string ⟨#[]⟩)).setCell ⟨w.heap.size, 3, none⟩ (.slice (some ⟨w1.heap.size, 0, none⟩) 2 2)) := ⟨_, rfl⟩
  have hsz : U.heap.size = w1.heap.size := by rw [hU]; simp [World.setCell]
  have b1 : U.heap[w.heap.size]? = some (.cells #[.int .i64 5, .int .i64 0, .string ⟨#[]⟩, .slice (some ⟨w1.heap.size, 0, none⟩) 2 2] 34 (0, 0)) := by rw [hU]; exact put4 hz _ _ _ _
  have b2 : But R w U := by rw [hU]; exact ((((hW.trans hbt).put (Nat.le_refl _) _).put (Nat.le_refl _) _).put (Nat.le_refl _) _).put (Nat.le_refl _) _
  have b3 : RdAt U R N rest := by rw [hU]; exact (((hrd.setCell hR _).setCell hR _).setCell hR _).setCell hR _
  have b4 : NewS U W.heap.size d x := by
    rw [hU]
    exact news_set (news_set (news_set (news_set hnew.2.2.2 (a := ⟨w.heap.size, 0, none⟩) (by simp only []; omega) _) (a := ⟨w.heap.size, 1, none⟩) (by simp only []; omega) _) (a := ⟨w.heap.size, 2, none⟩) (by simp only []; omega) _) (a := ⟨w.heap.size, 3, none⟩) (by simp only []; omega) _
  rw [← hU]
  have hal : Below U.heap.size U (U.alloc (.cells #[.int .i64 4, .int .i64 0, .string quoteS, .slice none 0 0, .int .i64 k, .int .i64 i, .string s, x] 34)) := (Below.refl _ _).alloc (Nat.le_refl _) _
  have hws : W.heap.size ≤ w1.heap.size := hbt.size
  have hnb := heap_alloc_new U (.cells #[.int .i64 4, .int .i64 0, .string quoteS, .slice none 0 0, .int .i64 k, .int .i64 i, .string s, x] 34)
  rw [hsz] at hnb
  refine ⟨(Lib.alloc_old _ _ _ (lt_of_block b1)).trans b1, b2.alloc _, b3.grown hal, by unfold Dat.ok64; omega, by unfold Dat.ok64; omega, by decide, ?_⟩
  refine ⟨_, 2, rfl, by simp, by decide, (fun h => by cases h), .inr ⟨w1.heap.size, 0, rfl, by omega, Dat.newAt_of_x (xs := [.int .i64 4, .int .i64 0, .string quoteS, .slice none 0 0, .int .i64 k, .int .i64 i, .string s, x]) ?_ (fun j u hj => ?_)⟩⟩
  · rw [NewX, RowX]
    refine ⟨.slice none 0 0, [.int .i64 k, .int .i64 i, .string s, x], rfl, by unfold Dat.ok64; omega, by unfold Dat.ok64; omega, by decide, ⟨none, 0, rfl, Nat.le_refl _, Nat.zero_le _, fun _ => rfl, .inl rfl⟩, ?_⟩
    rw [RowX]
    refine ⟨x, [], rfl, hnew.1, hnew.2.1, hnew.2.2.1, ?_, by rw [RowX]⟩
    exact b4.move (by omega) (fun b o' v _ hc => Dat.kept_of_below hal b o' v hc)
  · rw [Nat.zero_add, Lib.cell_of_heap hnb]
    simpa using hj
set_option maxRecDepth 100000 in
set_option maxHeartbeats 4000000 in
theorem behind_quote {N R m : Nat} (hD : DatOk N R m) (w : World) (t : TkP) (r : List TkP) (n : Nat) (hm : r.length ≤ m) (hn : n < 32) (hk : t.t.kind = 3) (hr : RdAt w R N r) :
    Calls Tryz.prog 54 #[.pointer (some ⟨R, 0, none⟩), .int .i64 t.t.kind, .int .i64 ((n : Int) + 1)] w (GotD N R n (t :: r) w) := by
  have HK := Lib.hid hk
  rw [hk]
  have HDD := Lib.hid (fun W h => hD W r (n + 1) hm (by omega) h)
  have HR := Lib.hid hr
  have hRlt := hr.lt
  clear hD hr hk
  go_enter Tryz.func54, Tryz.ntmps54
  go_wp2_with fail
  have S0 : Hid (∀ W, W = (w.alloc (.cells zero4 34)).alloc (.cells signC 34) → But R w W.drew ∧ RdAt W.drew R N r ∧ W.drew.heap[w.heap.size]? = some (.cells zero4 34 (0, 0)) ∧ W.drew.heap[w.heap.size + 1]? = some (.cells signC 34 (0, 0))) := Lib.hid (by
    rintro W rfl
    have hb : Below w.heap.size w ((w.alloc (.cells zero4 34)).alloc (.cells signC 34)).drew := (((Below.refl _ _).alloc (Nat.le_refl _) _).alloc (by simp) _).drew
    refine ⟨.of hb, HR.out.grown hb, ?_, ?_⟩
    · exact (Lib.alloc_old _ _ _ (by simp)).trans (heap_alloc_new w _)
    · have := heap_alloc_new (w.alloc (.cells zero4 34)) (.cells signC 34)
      rw [show (w.alloc (.cells zero4 34)).heap.size = w.heap.size + 1 by simp] at this
      exact this)
  have FQ : Hid (∀ a er, Fails N (n + 1) r a er → Fails N n (t :: r) a er) := Lib.hid (fun a er h => fails_quote HK.out hn h)
  go_region_with (go_at_call 39; (refine (HDD.out _ (S0.out _ rfl).2.1).mono ?_); rintro e w1 ⟨hbt, hor⟩; (rcases hor with ⟨k, i, s, d, x, rest, rfl, hnew, hnm, hg, hrd⟩ | ⟨at_, er, rfl, hf⟩); rotate_left; (focus (go_wp2; exact ⟨rfl, (S0.out _ rfl).1.trans hbt, .inr ⟨_, _, rfl, FQ.out _ _ hf⟩⟩)); (have Z1 := kept_blk hbt (S0.out _ rfl).2.2.1 (by omega)); (have Z2 := kept_blk hbt (S0.out _ rfl).2.2.2 (by omega)); (obtain ⟨d0, d1, d2, d3, g0, g1, g2, g3⟩ := res_cells Z1); (obtain ⟨y0, y1, y2, y3⟩ := sign_cells Z2); (have hs1 : w.heap.size < w1.heap.size := lt_of_block Z1); (have hs2 : w.heap.size + 1 < w1.heap.size := lt_of_block Z2); (obtain ⟨ax, cx, ex, _⟩ := hnew.2.2.2); subst ex; (have QF := Lib.hid (And.intro hbt (And.intro hnew (And.intro hnm (And.intro hg hrd))))); clear hbt hnew hnm hg hrd)
  all_goals
    obtain ⟨hbt, hnew, hnm, hg, hrd⟩ := QF.out
    have E := quote_end (S0.out _ rfl).1 hbt Z1 hnew (by simp) hrd hRlt
    have G1 := gives_quote HK.out hn hg
    have hnum : numT (quoteD (.mk k i s d)) + 2 * rest.length + 1 ≤ 2 * (t :: r).length := by
      rw [numT] at hnm
      simp only [quoteD, numT, numsT, List.length_cons]; omega
    clear hbt hnew hnm hg hrd S0 QF HDD
    go_wp2
    exact bodyPost_ret (results_cell_row (P := Tryz.prog) rfl _ _ w.heap.size 34 _ (0, 0) _ rfl E.blk Tryz.underlying34 rfl (by kernel_rfl)) rfl ⟨E.but, .inl ⟨5, 0, ⟨#[]⟩, _, _, rest, rfl, E.new, hnum, G1, E.rd⟩⟩

theorem behind_of {N R m : Nat} (hD : DatOk N R m) (w : World) (t : TkP) (r : List TkP) (n : Nat) (hm : r.length ≤ m) (hts : r.length ≤ 4096) (hn : n < 32) (hk : t.t.kind = 0 ∨ t.t.kind = 2 ∨ t.t.kind = 3) (hr : RdAt w R N r) :
    Calls Tryz.prog 54 #[.pointer (some ⟨R, 0, none⟩), .int .i64 t.t.kind, .int .i64 ((n : Int) + 1)] w (GotD N R n (t :: r) w) := by
  rcases hk with h | h | h
  · exact behind_row hD w t r n hm hts hn (.inr h) hr
  · exact behind_row hD w t r n hm hts hn (.inl h) hr
  · exact behind_quote hD w t r n hm hn h hr

set_option maxRecDepth 100000 in
set_option maxHeartbeats 4000000 in
theorem datum_none (N R : Nat) (w : World) (n : Nat) (hr : RdAt w R N []) :
    Calls Tryz.prog 39 #[.pointer (some ⟨R, 0, none⟩), .int .i64 (n : Int)] w (GotD N R n [] w) := by
  have C := Lib.hid (next_none (w.alloc (.cells zero4 34)) R N (hr.grown ((Below.refl _ _).alloc (Nat.le_refl _) _)))
  have B0 : Hid (But R w (w.alloc (.cells zero4 34))) := Lib.hid ((But.refl R w).alloc _)
  clear hr
  go_enter Tryz.func39, Tryz.ntmps39
  go_wp2_with fail
  refine C.out.mono ?_
  rintro e w1 ⟨he, hb⟩
  change e = .panicked (wrongC N 41) at he
  subst he
  have HB := Lib.hid (B0.out.trans (.of hb))
  clear hb
  go_wp2
  exact ⟨rfl, HB.out, .inr ⟨N, 41, rfl, fails_end⟩⟩

theorem kindT_ok (k : Int) : Dat.ok64 (kindT k) := by
  unfold kindT Dat.ok64
  split
  · omega
  · split
    · omega
    · split
      · omega
      · split <;> omega
theorem ResEnd.drew {N R : Nat} {w W : World} {q : List TkP} {k i : Int} {s : ByteArray} {d : List PT} {x : Value} (h : ResEnd N R w W q k i s d x) : ResEnd N R w W.drew q k i s d x :=
  ⟨h.blk, ⟨h.but.os, h.but.tape, h.but.output, h.but.size, h.but.block⟩, h.rd, h.new.1, h.new.2.1, h.new.2.2.1, h.new.2.2.2.move (w := W) (w' := W.drew) (Nat.le_refl _) (fun _ _ _ _ hc => hc)⟩
set_option maxRecDepth 100000 in
set_option maxHeartbeats 8000000 in
theorem datum_some {N R m : Nat} (hD : DatOk N R m) (w : World) (t : TkP) (r : List TkP) (n : Nat) (hm : r.length ≤ m) (hts : r.length ≤ 4096) (hn : n ≤ 32) (hr : RdAt w R N (t :: r)) :
    Calls Tryz.prog 39 #[.pointer (some ⟨R, 0, none⟩), .int .i64 (n : Int)] w (GotD N R n (t :: r) w) := by
  have C := Lib.hid (next_some (w.alloc (.cells zero4 34)) R N t r (hr.grown ((Below.refl _ _).alloc (Nat.le_refl _) _)))
  have B0 : Hid (But R w (w.alloc (.cells zero4 34))) := Lib.hid ((But.refl R w).alloc _)
  have hRlt := hr.lt
  have HOK : Hid (Dat.ok64 t.t.int ∧ (⟨t.t.text.toArray⟩ : ByteArray).size ≤ maxLen) := Lib.hid (by
    obtain ⟨g, o, c, _, _, _, _, _, ⟨_, h1, h2⟩, _⟩ := rd_first hr
    exact ⟨h1, by show t.t.text.toArray.size ≤ maxLen; rw [List.size_toArray]; exact h2⟩)
  have HB := Lib.hid (fun W (hn : n < 32) hk (h : RdAt W R N r) => behind_of hD W t r n hm hts hn hk h)
  clear hD hr
  go_enter Tryz.func39, Tryz.ntmps39
  go_wp2_with fail
  refine C.out.mono ?_
  rintro e w1 ⟨he, hrd, hbt⟩
  change e = .returned (.agg #[.int .i64 t.t.kind, .string ⟨t.t.text.toArray⟩, .int .i64 t.t.int, .int .i64 (t.a : Int), .int .i64 (t.b : Int)]) at he
  subst he
  have S1 : Hid (But R w w1 ∧ RdAt w1 R N r ∧ w1.heap[w.heap.size]? = some (.cells zero4 34 (0, 0))) := Lib.hid
    ⟨B0.out.trans hbt, hrd, (hbt.block _ (by simp) (by omega)).trans (heap_alloc_new w _)⟩
  obtain ⟨d0, d1, d2, d3, g0, g1, g2, g3⟩ := res_cells S1.out.2.2
  have hs1 : w.heap.size < w1.heap.size := lt_of_block S1.out.2.2
  clear hrd hbt
  by_cases h1 : t.t.kind = 1
  · have b1 : (t.t.kind == 1) = true := by simpa using h1
    have F := Lib.hid (fails_close (N := N) (n := n) (r := r) h1)
    clear h1
    go_wp2
    exact ⟨rfl, S1.out.1.alloc _, .inr ⟨_, _, rfl, F.out⟩⟩
  have b1 : (t.t.kind == 1) = false := by simpa using h1
  by_cases h4 : t.t.kind = 4
  · have b4 : (t.t.kind == 4) = true := by simpa using h4
    have F := Lib.hid (fails_dot (N := N) (n := n) (r := r) h4)
    clear h4 h1
    go_wp2
    exact ⟨rfl, S1.out.1.alloc _, .inr ⟨_, _, rfl, F.out⟩⟩
  have b4 : (t.t.kind == 4) = false := by simpa using h4
  by_cases ho : t.t.kind = 0 ∨ t.t.kind = 2 ∨ t.t.kind = 3
  · have HO := Lib.hid ho
    have ways : (t.t.kind == 3) = true ∨ (t.t.kind == 3) = false ∧ (t.t.kind == 2) = true ∨ (t.t.kind == 3) = false ∧ (t.t.kind == 2) = false ∧ (t.t.kind == 0) = true := by
      rcases ho with h | h | h <;> rw [h] <;> decide
    have R1 : Hid (RdAt (w1.alloc (.cells #[.int .i64 t.t.kind, .string ⟨t.t.text.toArray⟩, .int .i64 t.t.int, .int .i64 (t.a : Int), .int .i64 (t.b : Int)] 52)) R N r) := Lib.hid (S1.out.2.1.grown ((Below.refl _ _).alloc (Nat.le_refl _) _))
    have hblk : (w1.alloc (.cells #[.int .i64 t.t.kind, .string ⟨t.t.text.toArray⟩, .int .i64 t.t.int, .int .i64 (t.a : Int), .int .i64 (t.b : Int)] 52)).heap[w.heap.size]? = some (.cells zero4 34 (0, 0)) := (Lib.alloc_old _ _ _ hs1).trans S1.out.2.2
    have HBK := Lib.hid hblk
    clear h1 h4 ho hblk
    by_cases h32 : n = 32
    · have n32 : ((n : Int) == 32) = true := by rw [h32]; rfl
      have F := Lib.hid (fails_deep (N := N) (n := n) (r := r) HO.out (by omega))
      clear h32
      rcases ways with h | ⟨h, h'⟩ | ⟨h, h', h''⟩
      all_goals
        go_wp2
        exact ⟨rfl, S1.out.1.alloc _, .inr ⟨_, _, rfl, F.out⟩⟩
    · have n32 : ((n : Int) == 32) = false := by rw [beq_eq_false_iff_ne]; omega
      have HC := Lib.hid (HB.out _ (by omega) HO.out R1.out)
      clear h32
      rcases ways with h | ⟨h, h'⟩ | ⟨h, h', h''⟩
      all_goals
        go_wp2_with fail
        refine HC.out.mono ?_
        rintro e w2 ⟨hbt, ⟨k, i, s, d, x, rest, rfl, hnew, hnm, hg, hrd⟩ | ⟨at_, er, rfl, hf⟩⟩
        · have Z := kept_blk hbt HBK.out (by omega)
          have S2 : Hid (But R w w2 ∧ RdAt w2 R N rest ∧ NewV w2 (w.heap.size + 1) (.mk k i s d) x ∧ w2.heap[w.heap.size]? = some (.cells zero4 34 (0, 0))) := Lib.hid
            ⟨(S1.out.1.alloc _).trans hbt, hrd, ⟨hnew.1, hnew.2.1, hnew.2.2.1, hnew.2.2.2.move (by simp; omega) fun _ _ _ _ h => h⟩, Z⟩
          have HG := Lib.hid hg
          have HNM := Lib.hid hnm
          obtain ⟨ax, cx, ex, _⟩ := hnew.2.2.2
          subst ex
          obtain ⟨u0, u1, u2, u3, v0, v1, v2, v3⟩ := res_cells Z
          have hs2 : w.heap.size < w2.heap.size := lt_of_block Z
          clear hbt hnew hg hrd Z hnm d0 d1 d2 d3 g0 g1 g2 g3
          go_wp2
          have E := ResEnd.put S2.out.1 S2.out.2.1 hRlt S2.out.2.2.2 S2.out.2.2.1.1 S2.out.2.2.1.2.1 S2.out.2.2.1.2.2.1 S2.out.2.2.1.2.2.2
          exact bodyPost_ret (results_cell_row (P := Tryz.prog) rfl _ _ w.heap.size 34 _ (0, 0) _ rfl E.blk Tryz.underlying34 rfl (by kernel_rfl)) rfl ⟨E.but, .inl ⟨k, i, s, d, _, rest, rfl, E.new, HNM.out, HG.out, E.rd⟩⟩
        · have F := Lib.hid hf
          have HBT := Lib.hid ((S1.out.1.alloc (.cells #[.int .i64 t.t.kind, .string ⟨t.t.text.toArray⟩, .int .i64 t.t.int, .int .i64 (t.a : Int), .int .i64 (t.b : Int)] 52)).trans hbt)
          clear hf hbt
          go_wp2
          exact ⟨rfl, HBT.out, .inr ⟨_, _, rfl, F.out⟩⟩
  · have b0 : (t.t.kind == 0) = false := by rw [beq_eq_false_iff_ne]; intro h; exact ho (.inl h)
    have b2 : (t.t.kind == 2) = false := by rw [beq_eq_false_iff_ne]; intro h; exact ho (.inr (.inl h))
    have b3 : (t.t.kind == 3) = false := by rw [beq_eq_false_iff_ne]; intro h; exact ho (.inr (.inr h))
    have G1 := Lib.hid (gives_leaf (N := N) (n := n) (t := t) (r := r) (fun h => ho (.inl h)) h1 (fun h => ho (.inr (.inl h))) (fun h => ho (.inr (.inr h))) h4)
    have HKO := Lib.hid (fun W => kindOf_any t.t.kind W)
    clear h1 h4 ho
    go_wp2_with fail
    have hne : w.heap.size ≠ w1.heap.size := by omega
    have hne' : w1.heap.size ≠ w.heap.size := by omega
    go_region_with (go_at_call 55; ((with_reducible refine (HKO.out _).mono ?_); rintro e w' ⟨rfl, rfl⟩))
    all_goals
      have E := ((ResEnd.put (k := kindT t.t.kind) (i := t.t.int) (s := ⟨t.t.text.toArray⟩) (d := []) (x := .slice none 0 0) S1.out.1 S1.out.2.1 hRlt S1.out.2.2 (kindT_ok _) HOK.out.1 HOK.out.2 ⟨none, 0, rfl, Nat.le_refl _, Nat.zero_le _, fun _ => rfl, .inl rfl⟩).alloc (.cells #[.int .i64 t.t.kind, .string ⟨t.t.text.toArray⟩, .int .i64 t.t.int, .int .i64 (t.a : Int), .int .i64 (t.b : Int)] 52)).drew
      go_wp2
      exact bodyPost_ret (results_cell_row (P := Tryz.prog) rfl _ _ w.heap.size 34 _ (0, 0) _ rfl E.blk Tryz.underlying34 rfl (by kernel_rfl)) rfl ⟨E.but, .inl ⟨_, _, _, [], _, r, rfl, E.new, by rw [numT, numsT]; simp only [List.length_cons]; omega, G1.out, E.rd⟩⟩
theorem datum_any (N R : Nat) : ∀ m, m ≤ 4097 → DatOk N R m
  | 0, _ => fun w ts n hm _ hr => by
    obtain rfl : ts = [] := List.length_eq_zero_iff.1 (by omega)
    exact datum_none N R w n hr
  | m + 1, hM => fun w ts n hm hn hr => by
    match ts, hm, hr with
    | [], _, hr => exact datum_none N R w n hr
    | t :: r, hm, hr => exact datum_some (datum_any N R m (by omega)) w t r n (by simpa using hm) (by simp at hm; omega) hn hr
end Go.Proofs.YthfjlcflpneffaaGreatDoor

/-
Package read's source and Read: what they answer, for every string. Where the two errors of strconv are as the program lays them.
-/
namespace Go.Proofs.YthfjlcflpneffaaGreatDoor
open Go.ChangeShapes Go.WideShapes Go.ChangeAt Go.RowKit
open Dat (PT makeT RowX NewS NewV NewX numT numsT)

/-- What source answers of tokens. -/
def GotS (N R : Nat) (ts : List TkP) (w : World) (e : Ending) (w' : World) : Prop :=
  But R w w' ∧ ((∃ l v, e = .returned v ∧ NewS w' w.heap.size l v ∧ runM N [] [] ts = (l, 0, 0)) ∨ ∃ a er, e = .panicked (wrongC a er) ∧ runM N [] [] ts = ([], a, er))

structure SrcLoop (N R : Nat) (ts : List TkP) (w wr : World) (l : List PT) (q : List TkP) (v : Value) : Prop where
  own : ItemsOwn wr w.heap.size l v
  rd : RdAt wr R N q
  but : But R w wr
  len : l.length + q.length ≤ ts.length
  run : runM N [] [] ts = runM N [] l q

theorem SrcLoop.snoc {N R : Nat} {ts : List TkP} {w w0 w1 w2 : World} {l : List PT} {q rest : List TkP} {v x : Value} {k i : Int} {s : ByteArray} {d : List PT} {xs : List Value} {o : Obj} {g cap : Nat}
    (hL : SrcLoop N R ts w w0 l q v) (hbt : But R w0 w1) (hnew : NewV w1 w0.heap.size (.mk k i s d) x) (hlen : rest.length + 1 ≤ q.length) (hrun : runM N [] [] ts = runM N [] (l ++ [.mk k i s d]) rest) (hrd : RdAt w1 R N rest)
    (hrx : RowX (InS w1 fun b => w.heap.size ≤ b ∧ v.ownBlock ≠ some b) l xs) (hR : R < w.heap.size)
    (hown : w2.ownsRow w.heap.size 34 4 (.slice (some ⟨g, 0, none⟩) (l.length + 1) cap) (l.length + 1) (xs ++ [.int .i64 k, .int .i64 i, .string s, x]))
    (hgrow : (w1.alloc o).grownBy w2 v.ownBlock) (hlie : v.ownBlock = some g ∨ g = w1.heap.size + 1) : SrcLoop N R ts w w2 (l ++ [.mk k i s d]) rest (.slice (some ⟨g, 0, none⟩) (l.length + 1) cap) := by
  have hv : ∀ b, v.ownBlock = some b → w.heap.size ≤ b ∧ b < w0.heap.size := fun b hb => by
    obtain ⟨ys, ho, _⟩ := hL.own
    exact World.ownsRow.lt (w := w0) ho b hb
  have hsz := hL.but.size
  have h01 := hbt.size
  have hl := hL.len
  refine ⟨ItemsOwn.snoc hrx hnew hsz (fun b hb => (hv b hb).2) hown hgrow (fun b hb => ?_), hrd.grow hgrow (fun b hb => by have := hv b hb; omega), (hL.but.trans hbt).grow hgrow (fun b hb => (hv b hb).1), ?_, hrun⟩
  · have e : g = b := by simpa [Value.ownBlock] using hb
    subst e
    rcases hlie with h | h
    · exact .inl h
    · right; omega
  · simp only [List.length_append, List.length_cons, List.length_nil]; omega

set_option maxRecDepth 100000 in
set_option maxHeartbeats 2000000 in
theorem source_any (N R : Nat) (w : World) (ts : List TkP) (hts : ts.length ≤ 4096) (hr : RdAt w R N ts) :
    Calls Tryz.prog 20 #[.pointer (some ⟨R, 0, none⟩)] w (GotS N R ts w) := by
  obtain ⟨i0, hi, hz0, hz1, hz2⟩ := info_parts infoDatum
  have HDD := Lib.hid (datum_any N R 4096 (by omega))
  have HR0 := Lib.hid hr
  have hRlt := hr.lt
  clear hr
  go_enter Tryz.func20, Tryz.ntmps20
  go_wp2
  go_loopw [3] (fun v wr => ∃ l q, SrcLoop N R ts w wr l q v) (fun v _ => ts.length - lenOf v)
  case atStart => exact ⟨[], ts, itemsOwn_nil _ _, HR0.out, But.refl _ _, by simp, rfl⟩
  case round =>
    obtain ⟨l, q, hL⟩ := hrel
    have HL := Lib.hid hL
    obtain ⟨a, c, rfl⟩ := hL.own.shape
    have hrd := hL.rd
    clear hL
    match q, HL, hrd with
    | [], HL, hrd =>
      have hlt := hrd.lt
      obtain ⟨v, hb, a', c', rfl, h1, ⟨h2, _⟩, h3⟩ := hrd
      have c0 : wr.cell? ⟨R, 0, none⟩ = some (.slice a' 0 c') := by rw [Lib.cell_of_heap hb]; rfl
      unfold maxLen at h2
      have FIN : Hid (But R w wr ∧ NewS wr w.heap.size l (.slice a l.length c) ∧ runM N [] [] ts = (l, 0, 0)) := Lib.hid ⟨HL.out.but, HL.out.own.news, by rw [HL.out.run, run_nil, if_pos rfl]⟩
      clear HL
      go_wp2
      go_ret
      exact ⟨FIN.out.1, .inl ⟨l, _, rfl, FIN.out.2.1, FIN.out.2.2⟩⟩
    | t :: q, HL, hrd =>
      obtain ⟨g, o, cc, c0, c1, f0, h1, h2, ⟨hg, _, _⟩, x0, x1, x2, x3, x4, fin⟩ := rd_first hrd
      have hl : (0 : Int) < (q.length : Int) + 1 := by omega
      have hq : q.length + 1 ≤ 4096 := by have := HL.out.len; simp only [List.length_cons] at this; omega
      have hl5 : l.length ≤ 4096 := by have := HL.out.len; omega
      have hRr := hrd.lt
      unfold maxLen at h2
      clear fin hrd
      go_wp2_with fail
      refine (HDD.out _ (t :: q) 0 (by simpa using hq) (by omega) HL.out.rd).mono ?_
      rintro e w1 ⟨hbt, ⟨k, i, s, d, x, rest, rfl, hnew, hnm, hg', hrd⟩ | ⟨at_, er, rfl, hf⟩⟩
      · have RUN : Hid (runM N [] [] ts = runM N [] (l ++ [.mk k i s d]) rest) := Lib.hid (HL.out.run.trans (source_next (by simp) hg' l))
        have OWN := Lib.hid (HL.out.own.but hbt (by omega))
        obtain ⟨xs, hox, hrx⟩ := OWN.out
        have HOX := Lib.hid hox
        have HRX := Lib.hid hrx
        have HNEW := Lib.hid hnew
        have HRD := Lib.hid hrd
        have HBT := Lib.hid hbt
        have HLN : Hid (rest.length + 1 ≤ (t :: q).length) := Lib.hid (by rw [numT] at hnm; omega)
        have hwr1 := hbt.size
        have hwr0 := HL.out.but.size
        clear hox hrx hnew hrd hbt hg' hnm
        go_wp2_with (at_builtin; refine wpList_append_lies _ rfl _ _ 22 rfl w.heap.size 34 i0 _ 4 56 Tryz.underlying22 hi hz0 hz1 hz2 rfl (by decide) _ _ xs rfl (HOX.out.alloc _) ⟨w1.heap.size, 0, none⟩ 1 1 [.int .i64 k, .int .i64 i, .string s, x] rfl rfl ?c1 ?c2 ?c3 ?c4 ?c5 ?c6 _ rfl ?_)
        case c1 =>
          intro j u hj
          rw [add_plain, Nat.zero_add, Lib.cell_of_heap (heap_alloc_new w1 _)]
          simpa using hj
        case c2 =>
          intro u hu
          simp only [List.mem_cons, List.not_mem_nil, or_false] at hu
          rcases hu with rfl | rfl | rfl | rfl
          · rfl
          · rfl
          · rfl
          · exact news_one HNEW.out
        case c3 => exact Nat.one_pos
        case c4 => unfold maxLen; omega
        case c5 => omega
        case c6 => simp; omega
        intro g2 cap w2 hown hgrow hlie hglt
        have LN := Lib.hid (HL.out.snoc HBT.out HNEW.out HLN.out RUN.out HRD.out HRX.out HR0.out.lt hown hgrow hlie)
        clear hown hgrow
        go_wp2
        go_roundw
        case rel => exact ⟨_, _, LN.out⟩
        case measure => have := LN.out.len; simp [lenOf] at this ⊢; omega
      · have RUN := Lib.hid (HL.out.run.trans (source_fails (by simp) hf l))
        have HB := Lib.hid (HL.out.but.trans hbt)
        clear hf hbt
        go_wp2
        exact ⟨rfl, HB.out, .inr ⟨_, _, rfl, RUN.out⟩⟩
end Go.Proofs.YthfjlcflpneffaaGreatDoor

/-
Package read's Read: what is deferred in it.
-/
namespace Go.Proofs.YthfjlcflpneffaaGreatDoor
open Go.ChangeShapes Go.WideShapes Go.ChangeAt Go.RowKit
open Dat (PT makeT RowX NewS NewV NewX numT numsT)

theorem catch_idle (p0 p1 p2 : Addr) (w : World) :
    CallsD Tryz.prog 19 #[.pointer (some p0), .pointer (some p1), .pointer (some p2)] .returning w fun e u' w' => e = .returned (.tuple #[]) ∧ u' = .returning ∧ w' = w := by
  refine callsD_of_wpS Tryz.func19 rfl fun c₀ cs hu => ?_
  apply wpS_seq
  apply wpS_region
  simp [wpOpsS, go_sem, recoverD, hu, Tryz.ntmps19, Exit.thenS]
  refine wpS_of_wp ?_
  go_wp2
  cases c₀
  simp_all [bodyPostS, results, Tryz.results19]

theorem wrong_is (v : Value) (xT : TypeId) (w : World) : (Instr.typeAssert (.iface 46 v) xT 46 false).run Tryz.prog w = .ok v w := by kernel_rfl
/-- Read's three results in their blocks. -/
def Res3 (b : Nat) (v0 v1 v2 : Value) (W : World) : Prop :=
  W.heap[b]? = some (.cells #[v0] 22 (0, 0)) ∧ W.heap[b + 1]? = some (.cells #[v1] 3 (0, 0)) ∧ W.heap[b + 2]? = some (.cells #[v2] 23 (0, 0))
theorem Res3.facts {b : Nat} {v0 v1 v2 : Value} {W : World} (h : Res3 b v0 v1 v2 W) : b + 2 < W.heap.size ∧ W.cell? ⟨b, 0, none⟩ = some v0 ∧ W.cell? ⟨b + 1, 0, none⟩ = some v1 ∧ W.cell? ⟨b + 2, 0, none⟩ = some v2 ∧
    W.frozen? ⟨b, 0, none⟩ = false ∧ W.frozen? ⟨b + 1, 0, none⟩ = false ∧ W.frozen? ⟨b + 2, 0, none⟩ = false :=
  ⟨lt_of_block h.2.2, by rw [Lib.cell_of_heap h.1]; rfl, by rw [Lib.cell_of_heap h.2.1]; rfl, by rw [Lib.cell_of_heap h.2.2]; rfl, Lib.frozen_of_heap h.1 0, Lib.frozen_of_heap h.2.1 0, Lib.frozen_of_heap h.2.2 0⟩
theorem Res3.next {b M : Nat} {v0 v1 v2 : Value} {W W' : World} (h : Res3 b v0 v1 v2 W) (hb : Below M W W') (hM : b + 2 < M) : Res3 b v0 v1 v2 W' :=
  ⟨(hb.block _ (by omega)).trans h.1, (hb.block _ (by omega)).trans h.2.1, (hb.block _ hM).trans h.2.2⟩
theorem put_one {W : World} {b : Nat} {v : Value} {T : TypeId} (h : W.heap[b]? = some (.cells #[v] T (0, 0))) (x : Value) : (W.setCell ⟨b, 0, none⟩ x).heap[b]? = some (.cells #[x] T (0, 0)) := by
  have := heap_setCell_same W b 0 #[v] T x h
  simpa using this
theorem put_else {W : World} {b : Nat} {o : Option Obj} {c : Nat} (h : W.heap[b]? = o) (x : Value) (hn : b ≠ c) : (W.setCell ⟨c, 0, none⟩ x).heap[b]? = o := (heap_setCell_other W ⟨c, 0, none⟩ b x hn).trans h
theorem Res3.put0 {b : Nat} {v0 v1 v2 : Value} {W : World} (h : Res3 b v0 v1 v2 W) (x : Value) : Res3 b x v1 v2 (W.setCell ⟨b, 0, none⟩ x) :=
  ⟨put_one h.1 x, put_else h.2.1 x (by omega), put_else h.2.2 x (by omega)⟩
theorem Res3.put1 {b : Nat} {v0 v1 v2 : Value} {W : World} (h : Res3 b v0 v1 v2 W) (x : Value) : Res3 b v0 x v2 (W.setCell ⟨b + 1, 0, none⟩ x) :=
  ⟨put_else h.1 x (by omega), put_one h.2.1 x, put_else h.2.2 x (by omega)⟩
theorem Res3.put2 {b : Nat} {v0 v1 v2 : Value} {W : World} (h : Res3 b v0 v1 v2 W) (x : Value) : Res3 b v0 v1 x (W.setCell ⟨b + 2, 0, none⟩ x) :=
  ⟨put_else h.1 x (by omega), put_else h.2.1 x (by omega), put_one h.2.2 x⟩

set_option maxRecDepth 100000 in
theorem catch_wrong (B : Nat) (v0 : Value) (x1 x2 : Int) (a : Nat) (er : Int) (w : World) (hR : Res3 B v0 (.int .i64 x1) (.int .i64 x2) w) :
    CallsD Tryz.prog 19 #[.pointer (some ⟨B, 0, none⟩), .pointer (some ⟨B + 1, 0, none⟩), .pointer (some ⟨B + 2, 0, none⟩)] (.panicking (wrongC a er)) w fun e u' w' =>
      e = .returned (.tuple #[]) ∧ u' = .panicking [{ v := .iface 46 (.agg #[.int .i64 (a : Int), .int .i64 er]), recovered := true }] ∧ 
      w' = ((((w.alloc (.cells #[.int .i64 (a : Int), .int .i64 er] 46)).setCell ⟨B, 0, none⟩ (.slice none 0 0)).setCell ⟨B + 1, 0, none⟩ (.int .i64 a)).setCell ⟨B + 2, 0, none⟩ (.int .i64 er)).drew := by
  obtain ⟨hB, c0, c1, c2, f0, f1, f2⟩ := (hR.next ((Below.refl _ _).alloc (Nat.le_refl _) (.cells #[.int .i64 (a : Int), .int .i64 er] 46)) (lt_of_block hR.2.2)).facts
  have hB := lt_of_block hR.2.2
  have n0 : ¬ B = w.heap.size := by omega
  have n1 : ¬ B + 1 = w.heap.size := by omega
  have n2 : ¬ B + 2 = w.heap.size := by omega
  have m0 : ¬ w.heap.size = B := by omega
  have m1 : ¬ w.heap.size = B + 1 := by omega
  have m2 : ¬ w.heap.size = B + 2 := by omega
  clear hR
  refine callsD_of_wpS Tryz.func19 rfl fun c₀ cs hu => ?_
  unfold wrongC at hu
  have hta := wrong_is
  apply wpS_seq
  apply wpS_region
  simp [wpOpsS, go_sem, recoverD, hu, Tryz.ntmps19, Exit.thenS]
  refine wpS_of_wp ?_
  change Code.wp _ _ _ (Act.mk #[.pointer (some ⟨B, 0, none⟩), .pointer (some ⟨B + 1, 0, none⟩), .pointer (some ⟨B + 2, 0, none⟩), .iface 46 (.agg #[.int .i64 (a : Int), .int .i64 er]), undef, .iface 46 (.agg #[.int .i64 (a : Int), .int .i64 er]), undef, undef, undef, undef, undef, undef, undef, undef] []) _
  go_wp2
  go_region
  exact ⟨rfl, _, rfl, _, results_none rfl _ _ _, rfl, rfl, rfl⟩
end Go.Proofs.YthfjlcflpneffaaGreatDoor

/-
Tokens that are read are such as fit: their numbers, how long their texts are. No condition.
-/
namespace Go.Proofs.YthfjlcflpneffaaGreatDoor
open Go.ChangeShapes Go.WideShapes Go.ChangeAt Go.RowKit

theorem txt_short : ∀ {l t : List UInt8} {k : Nat}, txt l = some (t, k) → t.length + 1 ≤ k
  | [], t, k, h => by rw [txt] at h; cases h
  | c :: r, t, k, h => by
    rw [txt] at h
    split at h
    · cases h; simp
    · split at h
      · cases h
      · rename_i b n he
        have hn := escV_pos he
        split at h
        · cases h
        · rename_i t' k' ht
          have := txt_short ht
          cases h
          simp; omega
termination_by l => l.length
decreasing_by simp; omega

theorem charV_lt {l : List UInt8} {x : Nat} (h : charV l = some x) : x < 256 := by
  unfold charV at h
  split at h
  · match l with
    | [] => cases h
    | c :: r => simp at h; subst h; exact UInt8.toNat_lt c
  · split at h
    · cases h; omega
    · split at h
      · cases h; omega
      · split at h
        · exact twoV_lt h
        · cases h

/-- A token that is of such a size. -/
def FitT (N : Nat) (t : Tk) : Prop := Dat.ok64 t.int ∧ t.text.length ≤ N
theorem fit_small {N : Nat} {k : Int} {x : Int} (hx : 0 ≤ x) (h : x < 256) : FitT N ⟨k, [], x⟩ := ⟨by unfold Dat.ok64; constructor <;> simp only [] <;> omega, by simp⟩
theorem fit_hash (r : List UInt8) : FitT r.length (hashT r).1 := by
  have hno : FitT r.length noTk := fit_small (by omega) (by omega)
  unfold hashT
  split
  · exact fit_small (by omega) (by omega)
  · split
    · rename_i x hx
      have := charV_lt hx
      exact fit_small (by omega) (by omega)
    · exact hno
  · split
    · exact fit_small (by omega) (by omega)
    · split
      · exact fit_small (by omega) (by omega)
      · exact hno
theorem fit_word (w : List UInt8) : FitT w.length (wordT w).1 := by
  have hno : FitT w.length noTk := fit_small (by omega) (by omega)
  unfold wordT
  split
  · exact fit_small (by omega) (by omega)
  · split
    · split
      · rename_i h
        unfold okNum at h
        exact ⟨by unfold Dat.ok64; constructor <;> simp only [] <;> omega, by simp⟩
      · exact hno
    · split
      · exact hno
      · exact ⟨by unfold Dat.ok64; constructor <;> simp only [] <;> omega, Nat.le_refl _⟩
theorem FitT.le {N M : Nat} {t : Tk} (h : FitT N t) (hN : N ≤ M) : FitT M t := ⟨h.1, Nat.le_trans h.2 hN⟩
theorem fit_one (l : List UInt8) : FitT l.length (oneT l).1 := by
  match l with
  | [] => exact fit_small (by omega) (by omega)
  | c :: r =>
    have hno : FitT (c :: r).length noTk := fit_small (by omega) (by omega)
    rw [oneT]
    split
    · exact fit_small (by omega) (by omega)
    · split
      · exact fit_small (by omega) (by omega)
      · split
        · exact fit_small (by omega) (by omega)
        · split
          · exact (fit_hash r).le (by simp)
          · split
            · split
              · rename_i t k ht
                have := txt_short ht
                have := txt_len ht
                exact ⟨by unfold Dat.ok64; constructor <;> simp only [] <;> omega, by simp only [List.length_cons]; omega⟩
              · exact hno
            · split
              · exact hno
              · exact (fit_word _).le (wordL_le _)
theorem fit_run (N : Nat) : ∀ (n cnt : Nat) (m : List UInt8), m.length ≤ n → ∀ t ∈ (runT N cnt m).1, FitT n t.t := by
  intro n
  induction n with
  | zero =>
    intro cnt m hm
    match m, hm with
    | [], _ => simp [runT]
  | succ n ih =>
    intro cnt m hm
    match m with
    | [] => simp [runT]
    | c :: r =>
      by_cases hc : cnt = 2048
      · subst hc; rw [runT_many]; simp
      · by_cases he : (oneT (c :: r)).2.2 = 0
        · rw [runT_next N cnt c r hc he]
          intro t ht
          rcases List.mem_cons.1 ht with rfl | ht
          · exact (fit_one (c :: r)).le hm
          · exact (ih (cnt + 1) _ (by have := gapS_le false (r.drop ((oneT (c :: r)).2.1 - 1)); simp at this hm; omega) t ht).le (by omega)
        · rw [runT_bad N cnt c r hc he]; simp
theorem toks_fit (l : List UInt8) : OkToks (toksT l).1 := by
  unfold toksT
  split
  · intro t ht; cases ht
  · rename_i h
    split
    · intro t ht
      have := fit_run l.length l.length 0 (gapS false l) (gapS_le false l) t ht
      exact ⟨this.1, by have := this.2; unfold maxLen; omega⟩
    · intro t ht; cases ht
end Go.Proofs.YthfjlcflpneffaaGreatDoor

/-
Package read's Read: what it answers, for every string. Where the two errors of strconv are as the program lays them.
-/
namespace Go.Proofs.YthfjlcflpneffaaGreatDoor
open Go.ChangeShapes Go.WideShapes Go.ChangeAt Go.RowKit
open Dat (PT makeT RowX NewS NewV NewX numT numsT)

/-- What Read answers. -/
def GotR (l : List UInt8) (w : World) (e : Ending) (w' : World) : Prop :=
  Below w.heap.size w w' ∧ ∃ v, e = .returned (.tuple #[v, .int .i64 ((readT l).2.1 : Int), .int .i64 (readT l).2.2]) ∧ NewS w' w.heap.size (readT l).1 v

theorem rd_at {W : World} {C N : Nat} {ts : List TkP} {v : Value} (h : TokOwn W C ts v) (hok : OkToks ts) : RdAt (W.alloc (.cells #[v, .int .i64 (N : Int)] 48)) W.heap.size N ts := by
  refine ⟨v, heap_alloc_new W _, ?_⟩
  obtain ⟨_, ⟨rfl, h0⟩ | ⟨g, cap, cur, rfl, _, hb, h1, h2, _, h4⟩⟩ := h
  · have : ts = [] := List.length_eq_zero_iff.1 h0
    subst this
    exact ⟨none, 0, rfl, Nat.le_refl _, ⟨Nat.zero_le _, hok⟩, .inl rfl⟩
  · have hlt := lt_of_block hb
    refine ⟨_, cap, rfl, h1, ⟨h2, hok⟩, .inr ⟨g, 0, rfl, hlt, fun j x hj => ?_⟩⟩
    rw [World.cell?_of_block (w := W) (a := ⟨g, 0 + j, none⟩) (Lib.alloc_old W _ g hlt), Lib.cell_of_heap hb, ← hj, ← h4, Nat.zero_add, List.getElem?_take]
    split
    · simp
    · rename_i hn
      rw [← h4, List.getElem?_take, if_neg hn] at hj
      cases hj

theorem size_new (w : World) (o : Obj) : (w.alloc o).heap.size = w.heap.size + 1 := by simp only [World.alloc, Array.size_push]
theorem below3 (w : World) (o p q : Obj) : Below w.heap.size w (((w.alloc o).alloc p).alloc q) :=
  (((Below.refl w.heap.size w).alloc (Nat.le_refl _) o).alloc (by rw [size_new]; omega) p).alloc (by rw [size_new, size_new]; omega) q
theorem res3_new (w : World) (u0 u1 u2 : Value) :
    Res3 w.heap.size u0 u1 u2 (((w.alloc (.cells #[u0] 22)).alloc (.cells #[u1] 3)).alloc (.cells #[u2] 23)) ∧ w.heap.size + 2 < (((w.alloc (.cells #[u0] 22)).alloc (.cells #[u1] 3)).alloc (.cells #[u2] 23)).heap.size := by
  refine ⟨⟨?_, ?_, ?_⟩, by rw [size_new, size_new, size_new]; omega⟩
  · rw [Lib.alloc_old _ _ _ (by rw [size_new, size_new]; omega), Lib.alloc_old _ _ _ (by rw [size_new]; omega), heap_alloc_new]
  · rw [Lib.alloc_old _ _ _ (by rw [size_new, size_new]; omega)]
    have := heap_alloc_new (w.alloc (.cells #[u0] 22)) (.cells #[u1] 3)
    rwa [size_new] at this
  · have := heap_alloc_new ((w.alloc (.cells #[u0] 22)).alloc (.cells #[u1] 3)) (.cells #[u2] 23)
    rwa [size_new, size_new] at this

theorem Res3.drew {b : Nat} {v0 v1 v2 : Value} {W : World} (h : Res3 b v0 v1 v2 W) : Res3 b v0 v1 v2 W.drew := h
theorem Res3.but {b R : Nat} {v0 v1 v2 : Value} {W W' : World} (h : Res3 b v0 v1 v2 W) (hb : But R W W') (hR : b + 2 < R) : Res3 b v0 v1 v2 W' := by
  have := lt_of_block h.2.2
  exact ⟨(hb.block _ (by omega) (by omega)).trans h.1, (hb.block _ (by omega) (by omega)).trans h.2.1, (hb.block _ (by omega) (by omega)).trans h.2.2⟩
theorem size_put (w : World) (a : Addr) (v : Value) : (w.setCell a v).heap.size = w.heap.size := by simp [World.setCell]
theorem read_results {b : Nat} {v0 v1 v2 : Value} {W : World} (h : Res3 b v0 v1 v2 W) (tmps : Array Value)
    (h2 : tmps.getD 2 undef = .pointer (some ⟨b, 0, none⟩)) (h3 : tmps.getD 3 undef = .pointer (some ⟨b + 1, 0, none⟩)) (h4 : tmps.getD 4 undef = .pointer (some ⟨b + 2, 0, none⟩)) :
    (results Tryz.f9 tmps).run Tryz.prog W = .ok (.tuple #[v0, v1, v2]) W := by
  obtain ⟨_, c0, c1, c2, _⟩ := h.facts
  rw [Array.getD_eq_getD_getElem?] at h2 h3 h4
  simp [results, Tryz.results9, go_sem, h2, h3, h4, c0, c1, c2]

set_option maxRecDepth 100000 in
theorem read_bad (s : ByteArray) (w : World) (hs : s.size ≤ maxLen) (hE : ErrsOk w) (ts : List TkP) (a : Nat) (er : Int) (hq : toksT s.data.toList = (ts, a, er)) (hne : (er != 0) = true) :
    Calls Tryz.prog 9 #[.string s] w fun e w' => Below w.heap.size w w' ∧ e = .returned (.tuple #[.slice none 0 0, .int .i64 (a : Int), .int .i64 er]) := by
  have HB := Lib.hid (below3 w (.cells #[.slice none 0 0] 22) (.cells #[.int .i64 0] 3) (.cells #[.int .i64 0] 23))
  have HR := Lib.hid (res3_new w (.slice none 0 0) (.int .i64 0) (.int .i64 0))
  have HT := Lib.hid (tokens_any s _ hs (hE.below HB.out hE.two))
  rw [hq] at HT
  clear hE hq
  go_enter_defers Tryz.func9, Tryz.ntmps9
  go_wp2_with (go_at_call 18; refine HT.out.mono ?_; rintro e w1 ⟨⟨v, rfl, hown⟩, hb⟩; obtain ⟨hB, c0, c1, c2, f0, f1, f2⟩ := (HR.out.1.next hb HR.out.2).facts; clear hown)
  go_wp2
  go_region
  go_wp2
  have R1 := (((((HR.out.1.next hb HR.out.2).put1 (.int .i64 (a : Int))).put2 (.int .i64 er)).put0 (.slice none 0 0)).put1 (.int .i64 (a : Int))).put2 (.int .i64 er)
  have B1 := HB.out.trans (hb.mono (by have := HR.out.2; omega))
  have e0 : w.heap.size ≤ (⟨w.heap.size, 0, none⟩ : Addr).block := Nat.le_refl _
  have e1 : w.heap.size ≤ (⟨w.heap.size + 1, 0, none⟩ : Addr).block := by show w.heap.size ≤ w.heap.size + 1; omega
  have e2 : w.heap.size ≤ (⟨w.heap.size + 2, 0, none⟩ : Addr).block := by show w.heap.size ≤ w.heap.size + 2; omega
  refine ⟨_, read_results (b := w.heap.size) (v0 := .slice none 0 0) (v1 := .int .i64 (a : Int)) (v2 := .int .i64 er) ?_ _ rfl rfl rfl, ?_, rfl⟩
  · exact R1.drew
  · exact ((((((B1.setCell e1 _).setCell e2 _).setCell e0 _).setCell e1 _).setCell e2 _).drew)

set_option maxRecDepth 100000 in
theorem read_good (s : ByteArray) (w : World) (hs : s.size ≤ maxLen) (hE : ErrsOk w) (ts : List TkP) (hq : toksT s.data.toList = (ts, 0, 0)) :
    Calls Tryz.prog 9 #[.string s] w fun e w' => Below w.heap.size w w' ∧
      ((∃ l v, e = .returned (.tuple #[v, .int .i64 0, .int .i64 0]) ∧ NewS w' w.heap.size l v ∧ runM s.size [] [] ts = (l, 0, 0)) ∨ ∃ (a : Nat) (er : Int), e = .returned (.tuple #[.slice none 0 0, .int .i64 (a : Int), .int .i64 er]) ∧ runM s.size [] [] ts = ([], a, er)) := by
  have hmf : ∀ (fn : Fn) (first cap : Array Value) (w : World), (Instr.makeFunc fn first cap).run Tryz.prog w = .ok (.func fn first cap) w := fun _ _ _ _ => rfl
  have HB := Lib.hid (below3 w (.cells #[.slice none 0 0] 22) (.cells #[.int .i64 0] 3) (.cells #[.int .i64 0] 23))
  have HR := Lib.hid (res3_new w (.slice none 0 0) (.int .i64 0) (.int .i64 0))
  have HT := Lib.hid (tokens_any s _ hs (hE.below HB.out hE.two))
  have HL : Hid (ts.length ≤ 4096 ∧ OkToks ts) := Lib.hid (by
    have h1 := toks_some s.data.toList
    have h2 := toks_fit s.data.toList
    rw [hq] at h1 h2
    exact ⟨h1, h2⟩)
  rw [hq] at HT
  clear hE hq
  go_enter_defers Tryz.func9, Tryz.ntmps9
  go_wp2_with (first
    | (go_at_call 18; refine HT.out.mono ?_; rintro e w1 ⟨⟨v, rfl, hown⟩, hb⟩; obtain ⟨hB, c0, c1, c2, f0, f1, f2⟩ := (HR.out.1.next hb HR.out.2).facts; obtain ⟨a0, k0, rfl⟩ := hown.shape; have HOWN := Lib.hid hown; clear hown)
    | fail)
  have R1 := Lib.hid ((((HR.out.1.next hb HR.out.2).put1 (.int .i64 0)).put2 (.int .i64 0)).next ((Below.refl _ _).alloc (Nat.le_refl _) (.cells #[.slice a0 ts.length k0, .int .i64 (s.size : Int)] 48)) (by rw [size_put, size_put]; exact hB))
  have e1 : w.heap.size ≤ (⟨w.heap.size + 1, 0, none⟩ : Addr).block := by show w.heap.size ≤ w.heap.size + 1; omega
  have e2 : w.heap.size ≤ (⟨w.heap.size + 2, 0, none⟩ : Addr).block := by show w.heap.size ≤ w.heap.size + 2; omega
  have B1 : Hid (Below w.heap.size w (((w1.setCell ⟨w.heap.size + 1, 0, none⟩ (.int .i64 0)).setCell ⟨w.heap.size + 2, 0, none⟩ (.int .i64 0)).alloc (.cells #[.slice a0 ts.length k0, .int .i64 (s.size : Int)] 48))) :=
    Lib.hid ((((HB.out.trans (hb.mono (by have := HR.out.2; omega))).setCell e1 _).setCell e2 _).alloc (by rw [size_put, size_put]; omega) _)
  have RD : Hid (RdAt (((w1.setCell ⟨w.heap.size + 1, 0, none⟩ (.int .i64 0)).setCell ⟨w.heap.size + 2, 0, none⟩ (.int .i64 0)).alloc (.cells #[.slice a0 ts.length k0, .int .i64 (s.size : Int)] 48)) w1.heap.size s.size ts) := Lib.hid (by
    have h1 : TokOwn (w1.setCell ⟨w.heap.size + 1, 0, none⟩ (.int .i64 0)) _ ts _ := ownsRow_setCell_below HOWN.out (by have := HR.out.2; show w.heap.size + 1 < _; omega) _
    have h2 : TokOwn ((w1.setCell ⟨w.heap.size + 1, 0, none⟩ (.int .i64 0)).setCell ⟨w.heap.size + 2, 0, none⟩ (.int .i64 0)) _ ts _ := ownsRow_setCell_below h1 (by exact HR.out.2) _
    have := rd_at (N := s.size) h2 HL.out.2
    rwa [size_put, size_put] at this)
  have HS := Lib.hid (source_any s.size w1.heap.size _ ts HL.out.1 RD.out)
  refine HS.out.mono ?_
  rintro e w2 ⟨hbt, ⟨l, x, rfl, hnew, hrun⟩ | ⟨a, er, rfl, hrun⟩⟩
  · have R2 := Lib.hid (R1.out.but hbt (by omega))
    obtain ⟨hB2, d0, d1, d2, g0, g1, g2⟩ := R2.out.facts
    have HN : Hid (NewS w2 (w1.heap.size + 1) l x) := Lib.hid (by rwa [size_new, size_put, size_put] at hnew)
    obtain ⟨ax, cx, rfl, _⟩ := hnew
    have HRUN := Lib.hid hrun
    have HBT := Lib.hid hbt
    clear hrun hbt
    go_wp2
    have R3 := ((R2.out.put0 (.slice ax l.length cx)).put1 (.int .i64 0)).put2 (.int .i64 0)
    have hlt := HR.out.2
    have B3 := (((B1.out.trans (HBT.out.below (by rw [size_new, size_put, size_put]; omega) |>.mono (by omega))).setCell (p := ⟨w.heap.size, 0, none⟩) (Nat.le_refl _) (.slice ax l.length cx)).setCell (p := ⟨w.heap.size + 1, 0, none⟩) (Nat.le_add_right _ _) (.int .i64 0)).setCell (p := ⟨w.heap.size + 2, 0, none⟩) (Nat.le_add_right _ _) (.int .i64 0)
    have N3 := (news_set (news_set (news_set HN.out (a := ⟨w.heap.size, 0, none⟩) (by simp only []; omega) (.slice ax l.length cx)) (a := ⟨w.heap.size + 1, 0, none⟩) (by simp only []; omega) (.int .i64 0)) (a := ⟨w.heap.size + 2, 0, none⟩) (by simp only []; omega) (.int .i64 0)).move (C' := w.heap.size) (by omega) fun _ _ _ _ h => h
    refine leaves_cons (f := 19) (args := #[.pointer (some ⟨w.heap.size, 0, none⟩), .pointer (some ⟨w.heap.size + 1, 0, none⟩), .pointer (some ⟨w.heap.size + 2, 0, none⟩)]) (by simp) (by simp [go_sem]) ?_
    refine (catch_idle _ _ _ _).mono ?_
    rintro e u' w3 ⟨rfl, rfl, rfl⟩
    exact ⟨_, read_results R3 _ rfl rfl rfl, B3, .inl ⟨l, _, rfl, N3, HRUN.out⟩⟩
  · have R2 := Lib.hid (R1.out.but hbt (by omega))
    have HRUN := Lib.hid hrun
    have HBT := Lib.hid hbt
    clear hrun hbt
    go_wp2
    have hlt := HR.out.2
    have R3 := (((R2.out.next ((Below.refl _ _).alloc (Nat.le_refl _) (.cells #[.int .i64 (a : Int), .int .i64 er] 46)) (lt_of_block R2.out.2.2)).put0 (.slice none 0 0)).put1 (.int .i64 (a : Int))).put2 (.int .i64 er)
    have B2 := B1.out.trans (HBT.out.below (by rw [size_new, size_put, size_put]; omega) |>.mono (by omega : w.heap.size ≤ w1.heap.size))
    have B3 := ((((B2.alloc B2.size (.cells #[.int .i64 (a : Int), .int .i64 er] 46)).setCell (p := ⟨w.heap.size, 0, none⟩) (Nat.le_refl _) (.slice none 0 0)).setCell (p := ⟨w.heap.size + 1, 0, none⟩) (Nat.le_add_right _ _) (.int .i64 (a : Int))).setCell (p := ⟨w.heap.size + 2, 0, none⟩) (Nat.le_add_right _ _) (.int .i64 er)).drew
    refine leaves_cons (f := 19) (args := #[.pointer (some ⟨w.heap.size, 0, none⟩), .pointer (some ⟨w.heap.size + 1, 0, none⟩), .pointer (some ⟨w.heap.size + 2, 0, none⟩)]) (by simp) (by simp [go_sem]) ?_
    refine (catch_wrong w.heap.size _ _ _ a er w2 R2.out).mono ?_
    rintro e u' w3 ⟨rfl, rfl, rfl⟩
    exact ⟨_, read_results R3.drew _ rfl rfl rfl, B3, .inr ⟨a, er, rfl, HRUN.out⟩⟩

theorem read_any (s : ByteArray) (w : World) (hs : s.size ≤ maxLen) (hE : ErrsOk w) : Calls Tryz.prog 9 #[.string s] w (GotR s.data.toList w) := by
  generalize hq : toksT s.data.toList = q
  obtain ⟨ts, a, er⟩ := q
  have hl : s.data.toList.length = s.size := Array.length_toList
  by_cases h : er = 0
  · subst h
    have ha : a = 0 := by
      have := (toks_ok (s := s.data.toList) (by rw [hq])).2.2.2
      rwa [hq] at this
    subst ha
    have hr : readT s.data.toList = runM s.size [] [] ts := by unfold readT; rw [hq, if_neg (by simp), hl]
    refine (read_good s w hs hE ts hq).mono ?_
    rintro e w' ⟨hb, ⟨l, v, rfl, hn, hrun⟩ | ⟨a, er, rfl, hrun⟩⟩
    · exact ⟨hb, v, by rw [hr, hrun]; rfl, by rw [hr, hrun]; exact hn⟩
    · exact ⟨hb, .slice none 0 0, by rw [hr, hrun], by rw [hr, hrun]; exact ⟨none, 0, rfl, Nat.le_refl _, Nat.zero_le _, fun _ => rfl, .inl rfl⟩⟩
  · have hr : readT s.data.toList = ([], a, er) := by unfold readT; rw [hq, if_pos h]
    refine (read_bad s w hs hE ts a er hq (by simpa using h)).mono ?_
    rintro e w' ⟨hb, rfl⟩
    exact ⟨hb, .slice none 0 0, by rw [hr], by rw [hr]; exact ⟨none, 0, rfl, Nat.le_refl _, Nat.zero_le _, fun _ => rfl, .inl rfl⟩⟩
end Go.Proofs.YthfjlcflpneffaaGreatDoor

/-
A builder of one's own: WriteString. A text of at most 2^47 bytes.
-/
namespace Go.Proofs.YthfjlcflpneffaaGreatDoor
open Go.ChangeShapes Go.WideShapes Go.ChangeAt Go.RowKit
open Dat (PT makeT RowX NewS NewV NewX numT numsT)

set_option maxHeartbeats 1000000 in
set_option maxRecDepth 100000 in
theorem writeText_any (b : Nat) (l : List UInt8) (s : ByteArray) (w : World) (h : Bd b l w) (hlen : l.length + s.size ≤ 140737488355328) :
    Calls Tryz.prog 27 #[.pointer (some ⟨b, 0, none⟩), .string s] w fun e w' => e = .returned (.tuple #[.int .i64 s.size, .nilIface]) ∧ Bd b (l ++ s.data.toList) w' ∧ Below b w w' := by
  obtain ⟨i0, hi, hz0, hz1, hz2⟩ := info_parts infoByte
  have hbw := h.lt
  have hbl : (Lib.byteCells l).length = l.length := by simp [Lib.byteCells]
  go_enter Tryz.func27, Tryz.ntmps27
  go_wp2_with (go_at_call 43; refine (copyCheck_any b l _ h).mono ?_)
  rintro e w1 ⟨rfl, ⟨_, v, hbk, hown, hne⟩, hb1⟩
  rw [hbl] at hown
  have c0 : w1.cell? ⟨b, 0, none⟩ = some (.pointer (some ⟨b, 0, none⟩)) := by rw [Lib.cell_of_heap hbk]; rfl
  have c1 : w1.cell? ⟨b, 1, none⟩ = some v := by rw [Lib.cell_of_heap hbk]; rfl
  have hlt : b < w1.heap.size := lt_of_block hbk
  go_wp2_with (at_builtin; refine Lib.wpList_append_own_string _ rfl _ _ 39 9 rfl b 5 i0 Tryz.underlying39 Tryz.underlying9 hi hz0 hz1 hz2 _ _ _ rfl hown s rfl ?c3 ?c4 ?c5 ?_)
  case c3 => unfold maxLen; omega
  case c4 => omega
  case c5 => omega
  intro v' w2 hown' hgrow _
  have hb2 : w2.heap[b]? = some (.cells #[.pointer (some ⟨b, 0, none⟩), v] 62 (0, 0)) := by
    rw [hgrow.block b hlt (fun e => hne e.symm)]
    exact hbk
  have d0 : w2.cell? ⟨b, 0, none⟩ = some (.pointer (some ⟨b, 0, none⟩)) := by rw [Lib.cell_of_heap hb2]; rfl
  have d1 : w2.cell? ⟨b, 1, none⟩ = some v := by rw [Lib.cell_of_heap hb2]; rfl
  have f1 : w2.frozen? ⟨b, 1, none⟩ = false := Lib.frozen_of_heap hb2 1
  obtain ⟨ao, n', cap, rfl⟩ : ∃ ao n' cap, v' = .slice ao n' cap := by
    rcases hown'.2 with ⟨hv, _⟩ | ⟨g, cap, cur, hv, _⟩
    · exact ⟨_, _, _, hv⟩
    · exact ⟨_, _, _, hv⟩
  go_wp2
  go_ret2
  refine ⟨rfl, .inr (Lib.BuilderAt.put (Nat.le_refl _) hb2 ?_ (by decide)), ?_⟩
  · have hl : (Lib.byteCells (l ++ s.data.toList)).length = l.length + s.size := by simp [Lib.byteCells]
    rw [hl, Lib.byteCells_append, ← Lib.strCells_eq]
    exact hown'
  · exact (hb1.grown hgrow (by omega) (fun k hk => (hown.lt k hk).1)).setCell (p := ⟨b, 1, none⟩) (Nat.le_refl _) _
end Go.Proofs.YthfjlcflpneffaaGreatDoor

/-
Package read's Write: what it answers, for every row of data whose texts come to at most 2^47 bytes.
-/
namespace Go.Proofs.YthfjlcflpneffaaGreatDoor
open Go.ChangeShapes Go.WideShapes Go.ChangeAt Go.RowKit
open Dat (PT makeT RowX NewS NewV NewX numT numsT RepS RepV RepAt)

/-- The texts of data, each on a line; what is wrong in the first that may not be. -/
def linesM (l : List PT) : List UInt8 := l.flatMap fun t => Dat.toldT false t ++ [10]
def firstM : List PT → Int
  | [] => 0
  | t :: r => if Dat.checkB t ≠ 0 then Dat.checkB t else firstM r
def writeM (l : List PT) : List UInt8 × Int := if firstM l ≠ 0 then ([], firstM l) else (linesM l, 0)
theorem lines_take {l : List PT} {j : Nat} (h : j < l.length) : linesM (l.take (j + 1)) = linesM (l.take j) ++ (Dat.toldT false l[j] ++ [10]) := by
  rw [List.take_succ_eq_append_getElem h, linesM, List.flatMap_append]; simp [linesM]
theorem lines_le (l : List PT) (j : Nat) : (linesM (l.take j)).length ≤ (linesM l).length := by
  conv => rhs; rw [← List.take_append_drop j l]
  rw [linesM, linesM, List.flatMap_append, List.length_append]; omega
theorem first_take : ∀ {l : List PT} {j : Nat} (h : j < l.length), firstM (l.take j) = 0 → firstM (l.take (j + 1)) = Dat.checkB l[j]
  | t :: r, 0, _, _ => by
    simp only [Nat.zero_add, List.take_succ_cons, List.take_zero, firstM, List.getElem_cons_zero]
    split
    · rfl
    · rename_i h; exact (Decidable.not_not.1 h).symm
  | t :: r, j + 1, h, h0 => by
    simp only [List.take_succ_cons, firstM] at h0 ⊢
    split at h0
    · contradiction
    · rename_i hz
      rw [if_neg hz]
      exact first_take (l := r) (j := j) (by simpa using h) h0
theorem first_whole : ∀ {l : List PT} {j : Nat}, firstM (l.take j) ≠ 0 → firstM l = firstM (l.take j)
  | [], _, h => by simp at h ⊢
  | t :: r, 0, h => by simp [firstM] at h
  | t :: r, j + 1, h => by
    simp only [List.take_succ_cons, firstM] at h ⊢
    split
    · rfl
    · rename_i hz
      rw [if_neg hz] at h
      exact first_whole h

set_option maxRecDepth 100000 in
set_option maxHeartbeats 1000000 in
theorem write_any (l : List PT) (v : Value) (w : World) (B : Nat) (hv : RepS w B l v) (hB : B ≤ w.heap.size) (h2 : 2 ≤ w.heap.size) (htab : TabOk w) (hlen : (linesM l).length ≤ 140737488355328) :
    Calls Tryz.prog 13 #[v] w fun e w' => e = .returned (.tuple #[.string ⟨(writeM l).1.toArray⟩, .int .i64 (writeM l).2]) ∧ Below w.heap.size w w' := by
  obtain ⟨a, c, rfl, hl, hm, _, hor⟩ := hv
  have HOR := Lib.hid hor
  have HT := Lib.hid htab
  have HL := Lib.hid hlen
  have KB := Lib.hid (fun (acc : List UInt8) W (h : Bd w.heap.size acc W) hn => (writeByte_any w.heap.size acc 10 W h hn : Calls Tryz.prog _ #[.pointer (some ⟨w.heap.size, 0, none⟩), .int .u8 10] W _))
  have B0 : Hid (Bd w.heap.size [] (w.alloc (.cells #[.pointer none, .slice none 0 0] 62))) := Lib.hid (Lib.fresh_isBuilder 62 5 w)
  unfold maxLen at hm
  clear hor htab hlen
  go_enter Tryz.func13, Tryz.ntmps13
  go_wp2
  go_loopw [11] (fun i wr => ∃ j : Nat, j ≤ l.length ∧ i = .int .i64 j ∧ firstM (l.take j) = 0 ∧ Bd w.heap.size (linesM (l.take j)) wr ∧ Below w.heap.size w wr) (fun i _ => l.length - (intOf i).toNat)
  case atStart => exact ⟨0, Nat.zero_le _, rfl, rfl, B0.out, (Below.refl _ _).alloc (Nat.le_refl _) _⟩
  case round =>
    obtain ⟨j, hj, rfl, h0, hbd, hbr⟩ := hrel
    have HB := Lib.hid hbd
    have H0 := Lib.hid h0
    clear hbd h0
    by_cases hlt : j < l.length
    · obtain ⟨b, o, ea, hb, hr⟩ := HOR.out.resolve_left (by rintro rfl; cases hlt)
      subst ea
      obtain ⟨k', i', s', m, v', hjl, ok1, ok2, hs', d0, d1, d2, d3, hv'⟩ := Dat.repAt_item (hr.below hbr hB hb) hlt
      have HV := Lib.hid hv'
      have HJ := Lib.hid hjl
      obtain ⟨a', c', rfl, _⟩ := hv'
      clear hjl hr
      have C := fun x : Obj => Dat.text_any (.mk k' i' s' m) _ (wr.alloc x) B ⟨ok1, ok2, hs', HV.out.below ((hbr.trans ((Below.refl _ _).alloc hbr.size x)) |> fun _ => (Below.refl wr.heap.size wr).alloc (Nat.le_refl _) x) (by have := hbr.size; omega)⟩ (by have := hbr.size; rw [size_new]; omega) (by have := hbr.size; rw [size_new]; omega) (Dat.tabOk_below HT.out (hbr.trans ((Below.refl _ _).alloc hbr.size x)) h2)
      have HLE := Lib.hid (lines_le l (j + 1))
      rw [lines_take hlt, HJ.out] at HLE
      have HS := Lib.hid (first_take hlt H0.out)
      rw [HJ.out] at HS
      have HX : Hid (linesM (l.take (j + 1)) = linesM (l.take j) ++ (Dat.toldT false (.mk k' i' s' m) ++ [10])) := Lib.hid (by rw [lines_take hlt, HJ.out])
      generalize Dat.toldT false (.mk k' i' s' m) = tx at C HLE HX
      generalize Dat.checkB (.mk k' i' s' m) = r at C HS
      have HC := Lib.hid C
      clear C
      have hlen1 : (linesM (l.take j)).length + tx.length + 1 ≤ 140737488355328 := by
        have h1 := HLE.out
        have h2 := HL.out
        simp only [List.length_append, List.length_cons, List.length_nil] at h1
        omega
      have hbs := hbr.size
      have hbb : b < wr.heap.size := by omega
      by_cases hz : r = 0
      · subst hz
        go_wp2_with fail
        refine (HC.out _).mono ?_
        rintro e w1 ⟨rfl, hb1⟩
        have HB1 := Lib.hid (HB.out.moved (((Below.refl wr.heap.size wr).alloc (Nat.le_refl _) _).trans (hb1.mono (by rw [size_new]; omega))))
        have hbr1 := Lib.hid (hbr.trans ((((Below.refl wr.heap.size wr).alloc (Nat.le_refl _) _).trans (hb1.mono (by rw [size_new]; omega))).mono hbs))
        clear hb1
        go_wp2_with fail
        refine (writeText_any w.heap.size _ ⟨tx.toArray⟩ w1 HB1.out (by show _ + tx.toArray.size ≤ _; rw [List.size_toArray]; omega)).mono ?_
        rintro e w2 ⟨rfl, hbd2, hb2⟩
        have HB2 := Lib.hid hbd2
        have hbr2 := Lib.hid (hbr1.out.trans hb2)
        clear hbd2 hb2
        go_wp2_with fail
        refine (KB.out _ w2 HB2.out (by simp only [List.length_append]; omega)).mono ?_
        rintro e w3 ⟨rfl, hbd3, hb3⟩
        have HB3 := Lib.hid hbd3
        have hbr3 := Lib.hid (hbr2.out.trans hb3)
        clear hbd3 hb3
        go_wp2
        go_roundw
        case rel => exact ⟨j + 1, by omega, by go_num, HS.out, by rw [HX.out, ← List.append_assoc]; exact HB3.out, hbr3.out⟩
        case measure => simp [intOf]; omega
      · have hzb : (r != 0) = true := by simpa using hz
        have HW := Lib.hid (first_whole (l := l) (j := j + 1) (by rw [HS.out]; exact hz))
        have HZ := Lib.hid hz
        clear hz
        go_wp2_with fail
        refine (HC.out _).mono ?_
        rintro e w1 ⟨rfl, hb1⟩
        have hbr1 := Lib.hid (hbr.trans ((((Below.refl wr.heap.size wr).alloc (Nat.le_refl _) _).trans (hb1.mono (by rw [size_new]; omega))).mono hbs))
        clear hb1
        go_wp2
        go_ret2
        have hw : writeM l = ([], r) := by unfold writeM; rw [HW.out, HS.out, if_pos HZ.out]
        rw [hw]
        exact ⟨rfl, hbr1.out⟩
    · have hje : j = l.length := by omega
      subst hje
      rw [List.take_length] at HB H0
      go_wp2_with fail
      refine (Tryz.Builder_String_any_k w.heap.size w.heap.size _ wr (Lib.IsBuilderF.of HB.out) hbr.size).mono ?_
      rintro e w1 ⟨rfl, _, hb1, _⟩
      have hbr1 := Lib.hid (hbr.trans hb1)
      clear hb1
      go_wp2
      go_ret2
      have hw : writeM l = (linesM l, 0) := by unfold writeM; rw [H0.out, if_neg (by simp)]
      rw [hw]
      exact ⟨rfl, hbr1.out⟩
end Go.Proofs.YthfjlcflpneffaaGreatDoor
