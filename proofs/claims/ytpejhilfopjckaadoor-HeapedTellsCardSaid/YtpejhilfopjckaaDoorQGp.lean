/-
Texts Q89, Q83, Q91, one behind the other (a claim bears sixty files). Conditions: as each says.
-/
import Derived.Test.YtpejhilfopjckaaDoorQ80
import Derived.Test.YtpejhilfopjckaaDoorQ62
import Derived.Test.YtpejhilfopjckaaDoorQGf
import Derived.Test.YtpejhilfopjckaaDoorQGb
import Derived.Test.YtpejhilfopjckaaDoorWM
import Derived.Test.YtpejhilfopjckaaDoorK0
import Derived.Test.YtpejhilfopjckaaDoorQGm
import Derived.StillTailTactics

/-
The document's tell: a value that is no thing; a box, a procedure; too many, too deep. No condition but that the heap lies in memory.
-/
namespace Go.Proofs.YtpejhilfopjckaaDoor.Hp
open Go.ChangeShapes Go.WideShapes Go.ChangeAt Go.RowKit Go.Deep
open Dat (PT ok64 RepV RepS RowX infoDatum NewV NewS makeT MakeOk numT numsT)
set_option maxRecDepth 100000

theorem res_dib {fn : Func} {t u p : Tmp} (h : fn.results = #[.cell p 50, .tmp t, .tmp u]) (tmps : Array Value) (w : World) (g : Nat) (a b c d : Value)
    (hp : tmps.getD p undef = .pointer (some ⟨g, 0, none⟩)) (hg : w.heap[g]? = some (.cells #[a, b, c, d] 50 (0, 0))) : (results fn tmps).run Tryd.prog w = .ok (.tuple #[.agg #[a, b, c, d], tmps.getD t undef, tmps.getD u undef]) w := by
  have hp' : tmps[p]?.getD undef = .pointer (some ⟨g, 0, none⟩) := by simpa using hp
  have hi : (Tryd.prog.info? 50).map (·.size) = some (#[a, b, c, d] : Array Value).size := by kernel_rfl
  simp [results, h, hp', asAddr, run_loadVar_row w g 50 50 #[a, b, c, d] (0, 0) _ hg Tryd.underlying50 rfl hi]
/-- What the document's tell answers. -/
def RTelRes (W : World) (C : Nat) (r : Option (PT × Nat)) (k i : Int) (s : ByteArray) (x : Value) (sn : Int) (ok : Bool) : Prop :=
  match r with
  | none => ok = false ∧ k = 0 ∧ i = 0 ∧ s = ⟨#[]⟩ ∧ x = .slice none 0 0
  | some (d, n) => ok = true ∧ sn = (n : Int) ∧ ∃ l, d = .mk k i s l ∧ NewV W C (.mk k i s l) x
def RTelOk (w : World) (r : Option (PT × Nat)) (e : Ending) (w' : World) : Prop :=
  ∃ k i s a n c sn ok, e = .returned (.tuple #[.agg #[.int .i64 k, .int .i64 i, .string s, .slice a n c], .int .i64 sn, .bool ok]) ∧ RTelRes w' w.heap.size r k i s (.slice a n c) sn ok ∧ Below w.heap.size w w'
def RValF (hb : Nat) (T : List (Int × List PV)) (F : Nat → Prop) (f : Nat) : Prop :=
  ∀ (v : PV) (m n : Nat) (w : World), hasB T.length v = true → okV v → m ≤ 33 → n ≤ 200 → 200 ≤ n + f → HeapR w hb T F → (∀ b, F b → b < w.heap.size) →
    Calls Tryd.prog 42 #[.pointer (some ⟨hb, 0, none⟩), .agg #[.int .i64 v.k, .int .i64 v.i, .string v.s], .int .i64 (m : Int), .int .i64 (n : Int)] w fun e w' => RTelOk w (tellF T f v m n) e w'
theorem four_new (w : World) (A B C E : Obj) : ((((w.alloc A).alloc B).alloc C).alloc E).heap[w.heap.size + 1]? = some B ∧ Below w.heap.size w ((((w.alloc A).alloc B).alloc C).alloc E) := by
  obtain ⟨z0, z1, b0⟩ := two_new w A B
  refine ⟨blk_skip' (blk_skip' z1), ?_⟩
  have s2 : ((w.alloc A).alloc B).heap.size = w.heap.size + 2 := by rw [size_new, size_new]
  exact (b0.alloc (by omega) _).alloc (by rw [size_new]; omega) _
theorem new_leaf (W : World) (C : Nat) (k i : Int) (s : ByteArray) (hk : ok64 k) (hi : ok64 i) (hs : s.size ≤ maxLen) : NewV W C (.mk k i s []) (.slice none 0 0) := ⟨hk, hi, hs, none, 0, rfl, Nat.le_refl _, Nat.zero_le _, fun _ => rfl, .inl rfl⟩
set_option maxHeartbeats 1000000 in
theorem rtell_fail (k i : Int) (s : ByteArray) (hb m n : Nat) (h : 200 ≤ n ∨ 32 < m) (w : World) :
    Calls Tryd.prog 42 #[.pointer (some ⟨hb, 0, none⟩), .agg #[.int .i64 k, .int .i64 i, .string s], .int .i64 (m : Int), .int .i64 (n : Int)] w fun e w' => RTelOk w none e w' := by
  obtain ⟨z0, z1, b0⟩ := two_new w (.cells #[.int .i64 k, .int .i64 i, .string s] 36) (.cells #[.int .i64 0, .int .i64 0, .string ⟨#[]⟩, .slice none 0 0] 50)
  have HE := Lib.hid z1
  have HB := Lib.hid b0
  clear z0 z1 b0
  by_cases h200 : 200 ≤ n
  · have n1 : (200 : Int) ≤ (n : Int) := by omega
    go_enter Tryd.func42, Tryd.ntmps42
    go_wp2
    exact bodyPost_ret (res_dib (t := 9) (u := 10) (p := 8) rfl _ _ (w.heap.size + 1) _ _ _ _ rfl HE.out) rfl ⟨0, 0, ⟨#[]⟩, none, 0, 0, _, false, rfl, ⟨rfl, rfl, rfl, rfl, rfl⟩, HB.out⟩
  · have n1 : ¬ (200 : Int) ≤ (n : Int) := by omega
    have n2 : (32 : Int) < (m : Int) := by omega
    go_enter Tryd.func42, Tryd.ntmps42
    go_wp2
    exact bodyPost_ret (res_dib (t := 9) (u := 10) (p := 8) rfl _ _ (w.heap.size + 1) _ _ _ _ rfl HE.out) rfl ⟨0, 0, ⟨#[]⟩, none, 0, 0, _, false, rfl, ⟨rfl, rfl, rfl, rfl, rfl⟩, HB.out⟩
set_option maxHeartbeats 2000000 in
theorem rtell_leaf (k i : Int) (s : ByteArray) (h0 : 0 ≤ k) (h7 : k ≤ 7) (ho : okV ⟨k, i, s⟩) (hb m n : Nat) (hm : m ≤ 32) (hn : n < 200) (w : World) :
    Calls Tryd.prog 42 #[.pointer (some ⟨hb, 0, none⟩), .agg #[.int .i64 k, .int .i64 i, .string s], .int .i64 (m : Int), .int .i64 (n : Int)] w fun e w' => RTelOk w (some (shownT ⟨k, i, s⟩, n + 1)) e w' := by
  have HO := Lib.hid ho
  have n1 : ¬ (200 : Int) ≤ (n : Int) := by omega
  have n2 : ¬ (32 : Int) < (m : Int) := by omega
  have HN : Hid (((n : Int) + 1) = ((n + 1 : Nat) : Int)) := Lib.hid (by omega)
  clear ho
  have h8 : k = 0 ∨ k = 1 ∨ k = 2 ∨ k = 3 ∨ k = 4 ∨ k = 5 ∨ k = 6 ∨ k = 7 := by omega
  clear h0 h7
  rcases h8 with rfl | rfl | rfl | rfl | rfl | rfl | rfl | rfl
  · go_enter Tryd.func42, Tryd.ntmps42
    go_wp2
    exact bodyPost_ret (res_dib (t := 9) (u := 10) (p := 8) rfl _ _ (w.heap.size + 1) _ _ _ _ rfl (four_new w _ _ _ _).1) rfl ⟨0, i, ⟨#[]⟩, none, 0, 0, _, true, rfl, ⟨rfl, HN.out, [], rfl, new_leaf _ _ _ _ _ ⟨by decide, by decide⟩ HO.out.2.1 (by decide)⟩, (four_new w _ _ _ _).2⟩
  · go_enter Tryd.func42, Tryd.ntmps42
    go_wp2
    exact bodyPost_ret (res_dib (t := 9) (u := 10) (p := 8) rfl _ _ (w.heap.size + 1) _ _ _ _ rfl (four_new w _ _ _ _).1) rfl ⟨1, i, ⟨#[]⟩, none, 0, 0, _, true, rfl, ⟨rfl, HN.out, [], rfl, new_leaf _ _ _ _ _ ⟨by decide, by decide⟩ HO.out.2.1 (by decide)⟩, (four_new w _ _ _ _).2⟩
  · go_enter Tryd.func42, Tryd.ntmps42
    go_wp2
    exact bodyPost_ret (res_dib (t := 9) (u := 10) (p := 8) rfl _ _ (w.heap.size + 1) _ _ _ _ rfl (four_new w _ _ _ _).1) rfl ⟨2, i, ⟨#[]⟩, none, 0, 0, _, true, rfl, ⟨rfl, HN.out, [], rfl, new_leaf _ _ _ _ _ ⟨by decide, by decide⟩ HO.out.2.1 (by decide)⟩, (four_new w _ _ _ _).2⟩
  · go_enter Tryd.func42, Tryd.ntmps42
    go_wp2
    exact bodyPost_ret (res_dib (t := 9) (u := 10) (p := 8) rfl _ _ (w.heap.size + 1) _ _ _ _ rfl (four_new w _ _ _ _).1) rfl ⟨4, 0, s, none, 0, 0, _, true, rfl, ⟨rfl, HN.out, [], rfl, new_leaf _ _ _ _ _ ⟨by decide, by decide⟩ ⟨by decide, by decide⟩ HO.out.2.2⟩, (four_new w _ _ _ _).2⟩
  · go_enter Tryd.func42, Tryd.ntmps42
    go_wp2
    exact bodyPost_ret (res_dib (t := 9) (u := 10) (p := 8) rfl _ _ (w.heap.size + 1) _ _ _ _ rfl (four_new w _ _ _ _).1) rfl ⟨5, 0, ⟨#[]⟩, none, 0, 0, _, true, rfl, ⟨rfl, HN.out, [], rfl, new_leaf _ _ _ _ _ ⟨by decide, by decide⟩ ⟨by decide, by decide⟩ (by decide)⟩, (four_new w _ _ _ _).2⟩
  · go_enter Tryd.func42, Tryd.ntmps42
    go_wp2
    exact bodyPost_ret (res_dib (t := 9) (u := 10) (p := 8) rfl _ _ (w.heap.size + 1) _ _ _ _ rfl (four_new w _ _ _ _).1) rfl ⟨4, 0, ⟨#[118, 111, 105, 100]⟩, none, 0, 0, _, true, rfl, ⟨rfl, HN.out, [], rfl, new_leaf _ _ _ _ _ ⟨by decide, by decide⟩ ⟨by decide, by decide⟩ (by decide)⟩, (four_new w _ _ _ _).2⟩
  · go_enter Tryd.func42, Tryd.ntmps42
    go_wp2
    exact bodyPost_ret (res_dib (t := 9) (u := 10) (p := 8) rfl _ _ (w.heap.size + 1) _ _ _ _ rfl (four_new w _ _ _ _).1) rfl ⟨4, 0, ⟨#[101, 111, 102]⟩, none, 0, 0, _, true, rfl, ⟨rfl, HN.out, [], rfl, new_leaf _ _ _ _ _ ⟨by decide, by decide⟩ ⟨by decide, by decide⟩ (by decide)⟩, (four_new w _ _ _ _).2⟩
  · go_enter Tryd.func42, Tryd.ntmps42
    go_wp2
    exact bodyPost_ret (res_dib (t := 9) (u := 10) (p := 8) rfl _ _ (w.heap.size + 1) _ _ _ _ rfl (four_new w _ _ _ _).1) rfl ⟨4, 0, ⟨#[117, 110, 115, 101, 116]⟩, none, 0, 0, _, true, rfl, ⟨rfl, HN.out, [], rfl, new_leaf _ _ _ _ _ ⟨by decide, by decide⟩ ⟨by decide, by decide⟩ (by decide)⟩, (four_new w _ _ _ _).2⟩
end Go.Proofs.YtpejhilfopjckaaDoor.Hp

/-
The document's Make, of data whose rows lie in blocks that a predicate tells: where the rows lie of what it answers. No condition but a bound on how many data there are.
-/
namespace Go.Proofs.YtpejhilfopjckaaDoor
open Go.ChangeShapes Go.WideShapes Go.ChangeAt Go.RowKit
open Dat (PT makeT RepS RepV St2 RowX ok64 ok_small blk_alloc row_set4)
set_option maxRecDepth 100000

theorem end_S {w w2 : World} {cs : Array Value} {y0 y1 y2 y3 v : Value} {S : Nat → Prop} {L : List PT} (hS : ∀ b, S b → b < w.heap.size) (T : St2 w cs #[y0, y1, y2, y3] w2) (ho : RowOwnS w2 (w.heap.size + 2) S L v) (K : Int) :
    ((((w2.setCell ⟨w.heap.size + 1, 0, none⟩ (.int .i64 K)).setCell ⟨w.heap.size + 1, 1, none⟩ (.int .i64 0)).setCell ⟨w.heap.size + 1, 2, none⟩ (.string ⟨#[]⟩)).setCell ⟨w.heap.size + 1, 3, none⟩ v).heap[w.heap.size + 1]? = some (.cells #[.int .i64 K, .int .i64 0, .string ⟨#[]⟩, v] 50 (0, 0)) ∧
    InS ((((w2.setCell ⟨w.heap.size + 1, 0, none⟩ (.int .i64 K)).setCell ⟨w.heap.size + 1, 1, none⟩ (.int .i64 0)).setCell ⟨w.heap.size + 1, 2, none⟩ (.string ⟨#[]⟩)).setCell ⟨w.heap.size + 1, 3, none⟩ v) (fun b => S b ∨ w.heap.size ≤ b) L v ∧
    Below w.heap.size w ((((w2.setCell ⟨w.heap.size + 1, 0, none⟩ (.int .i64 K)).setCell ⟨w.heap.size + 1, 1, none⟩ (.int .i64 0)).setCell ⟨w.heap.size + 1, 2, none⟩ (.string ⟨#[]⟩)).setCell ⟨w.heap.size + 1, 3, none⟩ v) := by
  have hn : ¬ S (w.heap.size + 1) := fun h => by have := hS _ h; omega
  have o1 := ((((ho.setCell (a := ⟨w.heap.size + 1, 0, none⟩) (by simp only []; omega) hn (.int .i64 K)).setCell (a := ⟨w.heap.size + 1, 1, none⟩) (by simp only []; omega) hn (.int .i64 0)).setCell (a := ⟨w.heap.size + 1, 2, none⟩) (by simp only []; omega) hn (.string ⟨#[]⟩)).setCell (a := ⟨w.heap.size + 1, 3, none⟩) (by simp only []; omega) hn v)
  have b1 := ((((T.1.setCell (p := ⟨w.heap.size + 1, 0, none⟩) (by simp only []; omega) (.int .i64 K)).setCell (p := ⟨w.heap.size + 1, 1, none⟩) (by simp only []; omega) (.int .i64 0)).setCell (p := ⟨w.heap.size + 1, 2, none⟩) (by simp only []; omega) (.string ⟨#[]⟩)).setCell (p := ⟨w.heap.size + 1, 3, none⟩) (by simp only []; omega) v)
  exact ⟨row_set4 T.2.2 _ _ _ _, o1.ins.move (fun b hb _ => hb.imp id (fun h => by omega)) (fun _ _ _ _ h => h), b1⟩

/-- What the document's Make answers. -/
def GotM (r : PT) (w : World) (S : Nat → Prop) (e : Ending) (w' : World) : Prop :=
  ∃ rk ri rs rl x, r = .mk rk ri rs rl ∧ e = .returned (.agg #[.int .i64 rk, .int .i64 ri, .string rs, x]) ∧ ok64 rk ∧ ok64 ri ∧ rs.size ≤ maxLen ∧ InS w' (fun b => S b ∨ w.heap.size ≤ b) rl x

set_option maxHeartbeats 2000000 in
theorem rmake_S (l : List PT) (v : Value) (k i : Int) (s : ByteArray) (m : List PT) (x : Value) (w : World) (S : Nat → Prop) (hS : ∀ b, S b → b < w.heap.size) (hv : InS w S l v) (hx : ok64 k ∧ ok64 i ∧ s.size ≤ maxLen ∧ InS w S m x) (h1 : l.length ≤ 200000) (h2 : m.length ≤ 200000) (r : PT) (hr : r = makeT l (.mk k i s m)) :
    Calls Tryd.prog 67 #[v, .agg #[.int .i64 k, .int .i64 i, .string s, x]] w fun e w' => GotM r w S e w' ∧ Below w.heap.size w w' := by
  have HV := Lib.hid hv
  have HX := Lib.hid hx
  have HSB := Lib.hid hS
  obtain ⟨a, c, rfl, hl, hm, _⟩ := hv
  obtain ⟨a', c', e, hl', hm', _⟩ := hx.2.2.2
  subst e
  unfold maxLen at hm hm'
  clear hx hS
  have S0 := Lib.hid (St2.first w #[.int .i64 k, .int .i64 i, .string s, .slice a' m.length c'] #[.int .i64 0, .int .i64 0, .string ⟨#[]⟩, .slice none 0 0])
  by_cases h0 : l = []
  · have e : makeT l (.mk k i s m) = .mk k i s m := by rw [makeT, if_pos h0]
    rw [e] at hr
    subst hr
    subst h0
    clear e
    go_enter Tryd.func67, Tryd.ntmps67
    go_wp2
    have S1 := St2.first w #[.int .i64 k, .int .i64 i, .string s, .slice a' m.length c'] #[.int .i64 k, .int .i64 i, .string s, .slice a' m.length c']
    refine bodyPost_ret (results_cell_row (P := Tryd.prog) rfl _ _ (w.heap.size + 1) 50 _ (0, 0) _ rfl S1.2.2 Tryd.underlying50 rfl (by kernel_rfl)) rfl ?_
    exact ⟨⟨k, i, s, m, _, rfl, rfl, HX.out.1, HX.out.2.1, HX.out.2.2.1, (ins_below HX.out.2.2.2 S1.1).move (fun b hb _ => .inl hb) (fun _ _ _ _ h => h)⟩, S1.1⟩
  · have hz : ((l.length : Int) == 0) = false := by
      have := List.length_pos_iff.2 h0
      simp; omega
    have HSB2 := Lib.hid (fun b (hb : S b) => Nat.lt_of_lt_of_le (HSB.out b hb) (Nat.le_add_right w.heap.size 2))
    have HR0 : Hid (RowOwnS (((w.alloc (.cells #[.int .i64 k, .int .i64 i, .string s, .slice a' m.length c'] 50)).alloc (.cells #[.int .i64 0, .int .i64 0, .string ⟨#[]⟩, .slice none 0 0] 50)).alloc (.cells #[] 50)) (w.heap.size + 2) S [] (.slice (some ⟨w.heap.size + 1 + 1, 0, none⟩) 0 0)) := by
      refine Lib.hid (rowS_nil ?_ (Nat.le_refl _))
      have := heap_alloc_new ((w.alloc (.cells #[.int .i64 k, .int .i64 i, .string s, .slice a' m.length c'] 50)).alloc (.cells #[.int .i64 0, .int .i64 0, .string ⟨#[]⟩, .slice none 0 0] 50)) (.cells #[] 50)
      simpa using this
    have HV0 := Lib.hid (ins_below HV.out ((S0.out.1).alloc (by simp; omega) (.cells #[] 50))).src
    have hl0 : ([] : List PT).length + l.length ≤ 1000000 := by simp; omega
    have hsz0 : w.heap.size + 2 ≤ (((w.alloc (.cells #[.int .i64 k, .int .i64 i, .string s, .slice a' m.length c'] 50)).alloc (.cells #[.int .i64 0, .int .i64 0, .string ⟨#[]⟩, .slice none 0 0] 50)).alloc (.cells #[] 50)).heap.size := by simp
    go_enter Tryd.func67, Tryd.ntmps67
    go_wp2_with (at_builtin; refine wpList_append_rowS rfl _ _ rfl (w.heap.size + 2) S HSB2.out [] l _ _ rfl rfl HR0.out HV0.out hl0 hsz0 ?_)
    intro v1 w1 ho1 hbb1 _
    have S1 := Lib.hid ((S0.out.next ((Below.refl _ _).alloc (Nat.le_refl _) (.cells #[] 50))).nextB hbb1 (Nat.le_refl _))
    have HO1 := Lib.hid ho1
    clear ho1 hbb1 HR0 HV0 hsz0
    obtain ⟨c0, c1, c2, c3, d0, d1, d2, d3, _⟩ := S1.out.cells
    have hsz1 : w.heap.size + 2 ≤ w1.heap.size := S1.out.lt
    rcases (show k = 5 ∨ k = 6 ∨ (k ≠ 5 ∧ k ≠ 6) by omega) with rfl | rfl | ⟨k5, k6⟩
    · have e : makeT l (.mk 5 i s m) = .mk 5 0 ⟨#[]⟩ (l ++ m) := by rw [makeT, if_neg h0, if_pos (by omega)]
      have ER := Lib.hid (hr.trans e)
      clear hr e
      go_wp2
      have S1D := Lib.hid S1.out.drew
      have HO2 := Lib.hid HO1.out.drewn
      have HSR : Hid (SrcP w1.drew S m (.slice a' m.length c')) := Lib.hid (ins_below HX.out.2.2.2 S1.out.1).drewn.src
      have hsz2 : w.heap.size + 2 ≤ w1.drew.heap.size := hsz1
      have hl2 : l.length + m.length ≤ 1000000 := by omega
      go_region_law (first
        | (refine step_append_rowS rfl _ _ rfl (w.heap.size + 2) S HSB2.out l m v1 _ rfl rfl HO2.out HSR.out hl2 hsz2 ?_
           intro v2 w2 ho2 hbb2 _
           have S2 := Lib.hid (S1D.out.nextB hbb2 (Nat.le_refl _))
           obtain ⟨a2, c2, rfl⟩ := rowS_rep ho2
           have HR2 := Lib.hid ho2
           clear ho2 hbb2
           obtain ⟨e0, e1, e2, e3, q0, q1, q2, q3, _⟩ := S2.out.cells
           have g0 : w2.frozen? ⟨w.heap.size + 1, 0, none⟩ = false := Lib.frozen_of_heap S2.out.2.2 0
           have g1 : w2.frozen? ⟨w.heap.size + 1, 1, none⟩ = false := Lib.frozen_of_heap S2.out.2.2 1
           have g2 : w2.frozen? ⟨w.heap.size + 1, 2, none⟩ = false := Lib.frozen_of_heap S2.out.2.2 2
           have g3 : w2.frozen? ⟨w.heap.size + 1, 3, none⟩ = false := Lib.frozen_of_heap S2.out.2.2 3))
      all_goals
        have er := ER.out
        subst er
        clear ER
        go_wp2
        obtain ⟨e4, r4, b4⟩ := end_S HSB.out S2.out HR2.out 5
        simp only [List.length_append] at e4 r4 b4
        exact bodyPost_ret (results_cell_row (P := Tryd.prog) rfl _ _ (w.heap.size + 1) 50 _ (0, 0) _ rfl e4 Tryd.underlying50 rfl (by kernel_rfl)) rfl ⟨⟨5, 0, _, _, _, rfl, rfl, ok_small (by decide), ok_small (by decide), by decide, r4⟩, b4⟩
    · have e : makeT l (.mk 6 i s m) = .mk 6 0 ⟨#[]⟩ (l ++ m) := by rw [makeT, if_neg h0, if_pos (by omega)]
      have ER := Lib.hid (hr.trans e)
      clear hr e
      go_wp2
      have S1D := Lib.hid S1.out.drew
      have HO2 := Lib.hid HO1.out.drewn
      have HSR : Hid (SrcP w1.drew S m (.slice a' m.length c')) := Lib.hid (ins_below HX.out.2.2.2 S1.out.1).drewn.src
      have hsz2 : w.heap.size + 2 ≤ w1.drew.heap.size := hsz1
      have hl2 : l.length + m.length ≤ 1000000 := by omega
      go_region_law (first
        | (refine step_append_rowS rfl _ _ rfl (w.heap.size + 2) S HSB2.out l m v1 _ rfl rfl HO2.out HSR.out hl2 hsz2 ?_
           intro v2 w2 ho2 hbb2 _
           have S2 := Lib.hid (S1D.out.nextB hbb2 (Nat.le_refl _))
           obtain ⟨a2, c2, rfl⟩ := rowS_rep ho2
           have HR2 := Lib.hid ho2
           clear ho2 hbb2
           obtain ⟨e0, e1, e2, e3, q0, q1, q2, q3, _⟩ := S2.out.cells
           have g0 : w2.frozen? ⟨w.heap.size + 1, 0, none⟩ = false := Lib.frozen_of_heap S2.out.2.2 0
           have g1 : w2.frozen? ⟨w.heap.size + 1, 1, none⟩ = false := Lib.frozen_of_heap S2.out.2.2 1
           have g2 : w2.frozen? ⟨w.heap.size + 1, 2, none⟩ = false := Lib.frozen_of_heap S2.out.2.2 2
           have g3 : w2.frozen? ⟨w.heap.size + 1, 3, none⟩ = false := Lib.frozen_of_heap S2.out.2.2 3))
      all_goals
        have er := ER.out
        subst er
        clear ER
        go_wp2
        obtain ⟨e4, r4, b4⟩ := end_S HSB.out S2.out HR2.out 6
        simp only [List.length_append] at e4 r4 b4
        exact bodyPost_ret (results_cell_row (P := Tryd.prog) rfl _ _ (w.heap.size + 1) 50 _ (0, 0) _ rfl e4 Tryd.underlying50 rfl (by kernel_rfl)) rfl ⟨⟨6, 0, _, _, _, rfl, rfl, ok_small (by decide), ok_small (by decide), by decide, r4⟩, b4⟩
    · have e : makeT l (.mk k i s m) = .mk 6 0 ⟨#[]⟩ (l ++ [.mk k i s m]) := by rw [makeT, if_neg h0, if_neg (by omega)]
      have ER := Lib.hid (hr.trans e)
      clear hr e
      have k5' : (k == 5) = false := by simpa using k5
      have k6' : (k == 6) = false := by simpa using k6
      clear k5 k6
      have HBA := Lib.hid ((Below.refl w1.heap.size w1).alloc (Nat.le_refl _) (.cells #[.int .i64 k, .int .i64 i, .string s, .slice a' m.length c'] 50))
      have HSR : Hid (SrcP (w1.alloc (.cells #[.int .i64 k, .int .i64 i, .string s, .slice a' m.length c'] 50)) S [.mk k i s m] (.slice (some ⟨w1.heap.size, 0, none⟩) 1 1)) := Lib.hid (src_oneP (heap_alloc_new w1 _) HX.out.1 HX.out.2.1 HX.out.2.2.1 (ins_below (ins_below HX.out.2.2.2 S1.out.1) HBA.out))
      have HO2 := Lib.hid (rowS_alloc HO1.out (.cells #[.int .i64 k, .int .i64 i, .string s, .slice a' m.length c'] 50))
      have hl2 : l.length + [PT.mk k i s m].length ≤ 1000000 := by simp; omega
      have hsz2 : w.heap.size + 2 ≤ (w1.alloc (.cells #[.int .i64 k, .int .i64 i, .string s, .slice a' m.length c'] 50)).heap.size := by simp; omega
      go_wp2_with (at_builtin; refine wpList_append_rowS rfl _ _ rfl (w.heap.size + 2) S HSB2.out l [.mk k i s m] v1 _ rfl rfl HO2.out HSR.out hl2 hsz2 ?_)
      intro v2 w2 ho2 hbb2 _
      have S2 := Lib.hid ((S1.out.next HBA.out).nextB hbb2 (Nat.le_refl _))
      obtain ⟨a2, c2, rfl⟩ := rowS_rep ho2
      have HR2 := Lib.hid ho2
      clear ho2 hbb2 c0 c1 c3 d0 d1 d2 d3
      obtain ⟨_, _, _, _, d0, d1, d2, d3, _⟩ := S2.out.cells
      have g0 : w2.frozen? ⟨w.heap.size + 1, 0, none⟩ = false := Lib.frozen_of_heap S2.out.2.2 0
      have g1 : w2.frozen? ⟨w.heap.size + 1, 1, none⟩ = false := Lib.frozen_of_heap S2.out.2.2 1
      have g2 : w2.frozen? ⟨w.heap.size + 1, 2, none⟩ = false := Lib.frozen_of_heap S2.out.2.2 2
      have g3 : w2.frozen? ⟨w.heap.size + 1, 3, none⟩ = false := Lib.frozen_of_heap S2.out.2.2 3
      have er := ER.out
      subst er
      clear ER
      go_wp2
      obtain ⟨e4, r4, b4⟩ := end_S HSB.out S2.out HR2.out 6
      simp only [List.length_append, List.length_cons, List.length_nil] at e4 r4 b4
      exact bodyPost_ret (results_cell_row (P := Tryd.prog) rfl _ _ (w.heap.size + 1) 50 _ (0, 0) _ rfl e4 Tryd.underlying50 rfl (by kernel_rfl)) rfl ⟨⟨6, 0, _, _, _, rfl, rfl, ok_small (by decide), ok_small (by decide), by decide, r4⟩, b4⟩
end Go.Proofs.YtpejhilfopjckaaDoor

/-
The document's tell of a value that tells of a thing, of each kind. No condition but that the heap lies in memory and its things are such as calls make.
-/
namespace Go.Proofs.YtpejhilfopjckaaDoor.Hp
open Go.ChangeShapes Go.WideShapes Go.ChangeAt Go.RowKit Go.Deep
open Dat (PT ok64 RepV RepS RowX infoDatum NewV NewS makeT MakeOk numT numsT)
set_option maxRecDepth 100000

set_option maxHeartbeats 4000000 in
theorem rtell_box (i : Int) (s : ByteArray) (hb m n : Nat) (T : List (Int × List PV)) (F : Nat → Prop) (hm : m ≤ 32) (hn : n < 200) (hi : 0 ≤ i) (l : List PV) (hT : T[i.toNat]? = some (3, l)) (_ : l.length ≤ 1000)
    (w : World) (hH : HeapR w hb T F) (hFb : ∀ b, F b → b < w.heap.size) (R : Option (PT × Nat)) (hR : R = some (boxT, n + 1)) :
    Calls Tryd.prog 42 #[.pointer (some ⟨hb, 0, none⟩), .agg #[.int .i64 8, .int .i64 i, .string s], .int .i64 (m : Int), .int .i64 (n : Int)] w fun e w' => RTelOk w R e w' := by
  have n1 : ¬ (200 : Int) ≤ (n : Int) := by omega
  have n2 : ¬ (32 : Int) < (m : Int) := by omega
  have HN : Hid (((n : Int) + 1) = ((n + 1 : Nat) : Int)) := Lib.hid (by omega)
  have HRR := Lib.hid hR
  have hj : i.toNat < T.length := (List.getElem?_eq_some_iff.1 hT).1
  have hTj : T[i.toNat] = (3, l) := (List.getElem?_eq_some_iff.1 hT).2
  obtain ⟨tk, cap, g, pv, x0, x1, x2, x3, x4, x5, x6, x7, x8⟩ := hH.thing i.toNat hj
  rw [hTj] at x3 x5 x6 x8
  dsimp only at x3 x5 x6 x8
  obtain ⟨pa, pc, rfl, p1, p2⟩ := x6.slice
  have hL : i < (T.length : Int) := by omega
  obtain ⟨z1, b0⟩ := four_new w (.cells #[.int .i64 8, .int .i64 i, .string s] 36) (.cells #[.int .i64 0, .int .i64 0, .string ⟨#[]⟩, .slice none 0 0] 50) (.cells #[.int .i64 0, .int .i64 i, .string ⟨#[]⟩, .slice none 0 0] 50) (.cells #[.string ⟨#[]⟩, .string ⟨#[]⟩, .string ⟨#[]⟩, .string ⟨#[]⟩, .string ⟨#[]⟩, .string ⟨#[118, 111, 105, 100]⟩, .string ⟨#[101, 111, 102]⟩, .string ⟨#[117, 110, 115, 101, 116]⟩] 9)
  have z0 : ((((w.alloc (.cells #[.int .i64 8, .int .i64 i, .string s] 36)).alloc (.cells #[.int .i64 0, .int .i64 0, .string ⟨#[]⟩, .slice none 0 0] 50)).alloc (.cells #[.int .i64 0, .int .i64 i, .string ⟨#[]⟩, .slice none 0 0] 50)).alloc (.cells #[.string ⟨#[]⟩, .string ⟨#[]⟩, .string ⟨#[]⟩, .string ⟨#[]⟩, .string ⟨#[]⟩, .string ⟨#[118, 111, 105, 100]⟩, .string ⟨#[101, 111, 102]⟩, .string ⟨#[117, 110, 115, 101, 116]⟩] 9)).heap[w.heap.size]? = some (.cells #[.int .i64 8, .int .i64 i, .string s] 36 (0, 0)) := blk_skip' (blk_skip' (blk_skip' (heap_alloc_new w _)))
  have hs0 : ((((w.alloc (.cells #[.int .i64 8, .int .i64 i, .string s] 36)).alloc (.cells #[.int .i64 0, .int .i64 0, .string ⟨#[]⟩, .slice none 0 0] 50)).alloc (.cells #[.int .i64 0, .int .i64 i, .string ⟨#[]⟩, .slice none 0 0] 50)).alloc (.cells #[.string ⟨#[]⟩, .string ⟨#[]⟩, .string ⟨#[]⟩, .string ⟨#[]⟩, .string ⟨#[]⟩, .string ⟨#[118, 111, 105, 100]⟩, .string ⟨#[101, 111, 102]⟩, .string ⟨#[117, 110, 115, 101, 116]⟩] 9)).heap.size = w.heap.size + 4 := by rw [size_new, size_new, size_new, size_new]
  have HZ0 := Lib.hid z0
  have HZ1 := Lib.hid z1
  have HB0 := Lib.hid b0
  have HS0 := Lib.hid hs0
  have HPA := Lib.hid x6
  have HG := Lib.hid x8
  have HH := Lib.hid hH
  have HFB := Lib.hid hFb
  have hbl := hH.lt
  have htl := World.block_lt_of_cell? _ _ x3
  have X0 := Lib.hid x0
  have X3 := Lib.hid x3
  have X4 := Lib.hid x4
  unfold maxLen at x2
  clear hT hR hTj x0 x3 x4 x5 x6 x7 x8 z0 z1 b0 hs0 hH hFb
  go_enter Tryd.func42, Tryd.ntmps42
  go_upto_region 21 with fail
  generalize (((w.alloc (.cells #[.int .i64 8, .int .i64 i, .string s] 36)).alloc (.cells #[.int .i64 0, .int .i64 0, .string ⟨#[]⟩, .slice none 0 0] 50)).alloc (.cells #[.int .i64 0, .int .i64 i, .string ⟨#[]⟩, .slice none 0 0] 50)).alloc (.cells #[.string ⟨#[]⟩, .string ⟨#[]⟩, .string ⟨#[]⟩, .string ⟨#[]⟩, .string ⟨#[]⟩, .string ⟨#[118, 111, 105, 100]⟩, .string ⟨#[101, 111, 102]⟩, .string ⟨#[117, 110, 115, 101, 116]⟩] 9) = w1 at *
  have c0 := cell_below (HB0.out.mono (Nat.le_refl _)) X0.out
  have c3 := cell_below (HB0.out.mono (Nat.le_refl _)) X3.out
  have c4 := cell_below (HB0.out.mono (Nat.le_refl _)) X4.out
  obtain ⟨⟨y0, y1, y2⟩, -⟩ := look3 HZ0.out
  have hsz1 := HS0.out
  have l1 : hb < w1.heap.size := by omega
  have l2 : tk < w1.heap.size := by have : tk < w.heap.size := htl; omega
  have l3 : w.heap.size < w1.heap.size := by omega
  have ba := (Below.refl w1.heap.size w1).alloc (Nat.le_refl _) (.cells #[.int .i64 0, .slice none 0 0] 43)
  have d0 := cell_below ba c0
  have d3 := cell_below ba c3
  have d4 := cell_below ba c4
  have e0 := cell_below ba y0
  have e1 := cell_below ba y1
  have e2 := cell_below ba y2
  clear ba
  go_region
  have Z13 := Lib.hid (show ((w1.alloc (.cells #[.int .i64 3, .slice pa l.length pc] 43)).drew).heap[w.heap.size + 4]? = some (.cells #[.int .i64 3, .slice pa l.length pc] 43 (0, 0)) from hsz1 ▸ heap_alloc_new w1 _)
  have hsz2 : ((w1.alloc (.cells #[.int .i64 3, .slice pa l.length pc] 43)).drew).heap.size = w1.heap.size + 1 := size_new _ _
  have HB2 := Lib.hid (((Below.refl w1.heap.size w1).alloc (Nat.le_refl _) (.cells #[.int .i64 3, .slice pa l.length pc] 43)).drew)
  clear c0 c3 c4 y0 y1 y2 d0 d3 d4 e0 e1 e2
  generalize (w1.alloc (.cells #[.int .i64 3, .slice pa l.length pc] 43)).drew = W2 at *
  have HB := Lib.hid (HB0.out.trans (HB2.out.mono HB0.out.size))
  have E2 := Lib.hid ((HB2.out.block (w.heap.size + 1) (by omega)).trans HZ1.out)
  obtain ⟨⟨k0, k1⟩, -⟩ := look2 Z13.out
  obtain ⟨⟨q0, q1, q2, q3⟩, f0, f1, f2, f3⟩ := look4 E2.out
  go_wp2
  exact bodyPost_ret (res_dib (t := 9) (u := 10) (p := 8) rfl _ _ (w.heap.size + 1) _ _ _ _ rfl (put4 E2.out _ _ _ _)) rfl ⟨4, 0, ⟨#[98, 111, 120]⟩, none, 0, 0, _, true, rfl, by rw [HRR.out]; exact ⟨rfl, HN.out, [], rfl, new_leaf _ _ _ _ _ ⟨by decide, by decide⟩ ⟨by decide, by decide⟩ (by decide)⟩, put4_below HB.out (Nat.le_succ _) _ _ _ _⟩
set_option maxHeartbeats 4000000 in
theorem rtell_proc (i : Int) (s : ByteArray) (hb m n : Nat) (T : List (Int × List PV)) (F : Nat → Prop) (hm : m ≤ 32) (hn : n < 200) (hi : 0 ≤ i) (l : List PV) (hT : T[i.toNat]? = some (4, l)) (_ : l.length ≤ 1000)
    (w : World) (hH : HeapR w hb T F) (hFb : ∀ b, F b → b < w.heap.size) (R : Option (PT × Nat)) (hR : R = some (procT, n + 1)) :
    Calls Tryd.prog 42 #[.pointer (some ⟨hb, 0, none⟩), .agg #[.int .i64 8, .int .i64 i, .string s], .int .i64 (m : Int), .int .i64 (n : Int)] w fun e w' => RTelOk w R e w' := by
  have n1 : ¬ (200 : Int) ≤ (n : Int) := by omega
  have n2 : ¬ (32 : Int) < (m : Int) := by omega
  have HN : Hid (((n : Int) + 1) = ((n + 1 : Nat) : Int)) := Lib.hid (by omega)
  have HRR := Lib.hid hR
  have hj : i.toNat < T.length := (List.getElem?_eq_some_iff.1 hT).1
  have hTj : T[i.toNat] = (4, l) := (List.getElem?_eq_some_iff.1 hT).2
  obtain ⟨tk, cap, g, pv, x0, x1, x2, x3, x4, x5, x6, x7, x8⟩ := hH.thing i.toNat hj
  rw [hTj] at x3 x5 x6 x8
  dsimp only at x3 x5 x6 x8
  obtain ⟨pa, pc, rfl, p1, p2⟩ := x6.slice
  have hL : i < (T.length : Int) := by omega
  obtain ⟨z1, b0⟩ := four_new w (.cells #[.int .i64 8, .int .i64 i, .string s] 36) (.cells #[.int .i64 0, .int .i64 0, .string ⟨#[]⟩, .slice none 0 0] 50) (.cells #[.int .i64 0, .int .i64 i, .string ⟨#[]⟩, .slice none 0 0] 50) (.cells #[.string ⟨#[]⟩, .string ⟨#[]⟩, .string ⟨#[]⟩, .string ⟨#[]⟩, .string ⟨#[]⟩, .string ⟨#[118, 111, 105, 100]⟩, .string ⟨#[101, 111, 102]⟩, .string ⟨#[117, 110, 115, 101, 116]⟩] 9)
  have z0 : ((((w.alloc (.cells #[.int .i64 8, .int .i64 i, .string s] 36)).alloc (.cells #[.int .i64 0, .int .i64 0, .string ⟨#[]⟩, .slice none 0 0] 50)).alloc (.cells #[.int .i64 0, .int .i64 i, .string ⟨#[]⟩, .slice none 0 0] 50)).alloc (.cells #[.string ⟨#[]⟩, .string ⟨#[]⟩, .string ⟨#[]⟩, .string ⟨#[]⟩, .string ⟨#[]⟩, .string ⟨#[118, 111, 105, 100]⟩, .string ⟨#[101, 111, 102]⟩, .string ⟨#[117, 110, 115, 101, 116]⟩] 9)).heap[w.heap.size]? = some (.cells #[.int .i64 8, .int .i64 i, .string s] 36 (0, 0)) := blk_skip' (blk_skip' (blk_skip' (heap_alloc_new w _)))
  have hs0 : ((((w.alloc (.cells #[.int .i64 8, .int .i64 i, .string s] 36)).alloc (.cells #[.int .i64 0, .int .i64 0, .string ⟨#[]⟩, .slice none 0 0] 50)).alloc (.cells #[.int .i64 0, .int .i64 i, .string ⟨#[]⟩, .slice none 0 0] 50)).alloc (.cells #[.string ⟨#[]⟩, .string ⟨#[]⟩, .string ⟨#[]⟩, .string ⟨#[]⟩, .string ⟨#[]⟩, .string ⟨#[118, 111, 105, 100]⟩, .string ⟨#[101, 111, 102]⟩, .string ⟨#[117, 110, 115, 101, 116]⟩] 9)).heap.size = w.heap.size + 4 := by rw [size_new, size_new, size_new, size_new]
  have HZ0 := Lib.hid z0
  have HZ1 := Lib.hid z1
  have HB0 := Lib.hid b0
  have HS0 := Lib.hid hs0
  have HPA := Lib.hid x6
  have HG := Lib.hid x8
  have HH := Lib.hid hH
  have HFB := Lib.hid hFb
  have hbl := hH.lt
  have htl := World.block_lt_of_cell? _ _ x3
  have X0 := Lib.hid x0
  have X3 := Lib.hid x3
  have X4 := Lib.hid x4
  unfold maxLen at x2
  clear hT hR hTj x0 x3 x4 x5 x6 x7 x8 z0 z1 b0 hs0 hH hFb
  go_enter Tryd.func42, Tryd.ntmps42
  go_upto_region 21 with fail
  generalize (((w.alloc (.cells #[.int .i64 8, .int .i64 i, .string s] 36)).alloc (.cells #[.int .i64 0, .int .i64 0, .string ⟨#[]⟩, .slice none 0 0] 50)).alloc (.cells #[.int .i64 0, .int .i64 i, .string ⟨#[]⟩, .slice none 0 0] 50)).alloc (.cells #[.string ⟨#[]⟩, .string ⟨#[]⟩, .string ⟨#[]⟩, .string ⟨#[]⟩, .string ⟨#[]⟩, .string ⟨#[118, 111, 105, 100]⟩, .string ⟨#[101, 111, 102]⟩, .string ⟨#[117, 110, 115, 101, 116]⟩] 9) = w1 at *
  have c0 := cell_below (HB0.out.mono (Nat.le_refl _)) X0.out
  have c3 := cell_below (HB0.out.mono (Nat.le_refl _)) X3.out
  have c4 := cell_below (HB0.out.mono (Nat.le_refl _)) X4.out
  obtain ⟨⟨y0, y1, y2⟩, -⟩ := look3 HZ0.out
  have hsz1 := HS0.out
  have l1 : hb < w1.heap.size := by omega
  have l2 : tk < w1.heap.size := by have : tk < w.heap.size := htl; omega
  have l3 : w.heap.size < w1.heap.size := by omega
  have ba := (Below.refl w1.heap.size w1).alloc (Nat.le_refl _) (.cells #[.int .i64 0, .slice none 0 0] 43)
  have d0 := cell_below ba c0
  have d3 := cell_below ba c3
  have d4 := cell_below ba c4
  have e0 := cell_below ba y0
  have e1 := cell_below ba y1
  have e2 := cell_below ba y2
  clear ba
  go_region
  have Z13 := Lib.hid (show ((w1.alloc (.cells #[.int .i64 4, .slice pa l.length pc] 43)).drew).heap[w.heap.size + 4]? = some (.cells #[.int .i64 4, .slice pa l.length pc] 43 (0, 0)) from hsz1 ▸ heap_alloc_new w1 _)
  have hsz2 : ((w1.alloc (.cells #[.int .i64 4, .slice pa l.length pc] 43)).drew).heap.size = w1.heap.size + 1 := size_new _ _
  have HB2 := Lib.hid (((Below.refl w1.heap.size w1).alloc (Nat.le_refl _) (.cells #[.int .i64 4, .slice pa l.length pc] 43)).drew)
  clear c0 c3 c4 y0 y1 y2 d0 d3 d4 e0 e1 e2
  generalize (w1.alloc (.cells #[.int .i64 4, .slice pa l.length pc] 43)).drew = W2 at *
  have HB := Lib.hid (HB0.out.trans (HB2.out.mono HB0.out.size))
  have E2 := Lib.hid ((HB2.out.block (w.heap.size + 1) (by omega)).trans HZ1.out)
  obtain ⟨⟨k0, k1⟩, -⟩ := look2 Z13.out
  obtain ⟨⟨q0, q1, q2, q3⟩, f0, f1, f2, f3⟩ := look4 E2.out
  go_wp2
  exact bodyPost_ret (res_dib (t := 9) (u := 10) (p := 8) rfl _ _ (w.heap.size + 1) _ _ _ _ rfl (put4 E2.out _ _ _ _)) rfl ⟨4, 0, ⟨#[112, 114, 111, 99, 101, 100, 117, 114, 101]⟩, none, 0, 0, _, true, rfl, by rw [HRR.out]; exact ⟨rfl, HN.out, [], rfl, new_leaf _ _ _ _ _ ⟨by decide, by decide⟩ ⟨by decide, by decide⟩ (by decide)⟩, put4_below HB.out (Nat.le_succ _) _ _ _ _⟩
set_option maxHeartbeats 4000000 in
theorem rtell_str (i : Int) (s : ByteArray) (hb m n : Nat) (T : List (Int × List PV)) (F : Nat → Prop) (hm : m ≤ 32) (hn : n < 200) (hi : 0 ≤ i) (l : List PV) (hT : T[i.toNat]? = some (2, l)) (hl : l.length ≤ 1000)
    (w : World) (hH : HeapR w hb T F) (hFb : ∀ b, F b → b < w.heap.size) (R : Option (PT × Nat)) (hR : R = some (.mk 3 0 (textB l) [], n + 1)) :
    Calls Tryd.prog 42 #[.pointer (some ⟨hb, 0, none⟩), .agg #[.int .i64 8, .int .i64 i, .string s], .int .i64 (m : Int), .int .i64 (n : Int)] w fun e w' => RTelOk w R e w' := by
  have n1 : ¬ (200 : Int) ≤ (n : Int) := by omega
  have n2 : ¬ (32 : Int) < (m : Int) := by omega
  have HN : Hid (((n : Int) + 1) = ((n + 1 : Nat) : Int)) := Lib.hid (by omega)
  have HRR := Lib.hid hR
  have hj : i.toNat < T.length := (List.getElem?_eq_some_iff.1 hT).1
  have hTj : T[i.toNat] = (2, l) := (List.getElem?_eq_some_iff.1 hT).2
  obtain ⟨tk, cap, g, pv, x0, x1, x2, x3, x4, x5, x6, x7, x8⟩ := hH.thing i.toNat hj
  rw [hTj] at x3 x5 x6 x8
  dsimp only at x3 x5 x6 x8
  obtain ⟨pa, pc, rfl, p1, p2⟩ := x6.slice
  have hL : i < (T.length : Int) := by omega
  obtain ⟨z1, b0⟩ := four_new w (.cells #[.int .i64 8, .int .i64 i, .string s] 36) (.cells #[.int .i64 0, .int .i64 0, .string ⟨#[]⟩, .slice none 0 0] 50) (.cells #[.int .i64 0, .int .i64 i, .string ⟨#[]⟩, .slice none 0 0] 50) (.cells #[.string ⟨#[]⟩, .string ⟨#[]⟩, .string ⟨#[]⟩, .string ⟨#[]⟩, .string ⟨#[]⟩, .string ⟨#[118, 111, 105, 100]⟩, .string ⟨#[101, 111, 102]⟩, .string ⟨#[117, 110, 115, 101, 116]⟩] 9)
  have z0 : ((((w.alloc (.cells #[.int .i64 8, .int .i64 i, .string s] 36)).alloc (.cells #[.int .i64 0, .int .i64 0, .string ⟨#[]⟩, .slice none 0 0] 50)).alloc (.cells #[.int .i64 0, .int .i64 i, .string ⟨#[]⟩, .slice none 0 0] 50)).alloc (.cells #[.string ⟨#[]⟩, .string ⟨#[]⟩, .string ⟨#[]⟩, .string ⟨#[]⟩, .string ⟨#[]⟩, .string ⟨#[118, 111, 105, 100]⟩, .string ⟨#[101, 111, 102]⟩, .string ⟨#[117, 110, 115, 101, 116]⟩] 9)).heap[w.heap.size]? = some (.cells #[.int .i64 8, .int .i64 i, .string s] 36 (0, 0)) := blk_skip' (blk_skip' (blk_skip' (heap_alloc_new w _)))
  have hs0 : ((((w.alloc (.cells #[.int .i64 8, .int .i64 i, .string s] 36)).alloc (.cells #[.int .i64 0, .int .i64 0, .string ⟨#[]⟩, .slice none 0 0] 50)).alloc (.cells #[.int .i64 0, .int .i64 i, .string ⟨#[]⟩, .slice none 0 0] 50)).alloc (.cells #[.string ⟨#[]⟩, .string ⟨#[]⟩, .string ⟨#[]⟩, .string ⟨#[]⟩, .string ⟨#[]⟩, .string ⟨#[118, 111, 105, 100]⟩, .string ⟨#[101, 111, 102]⟩, .string ⟨#[117, 110, 115, 101, 116]⟩] 9)).heap.size = w.heap.size + 4 := by rw [size_new, size_new, size_new, size_new]
  have HZ0 := Lib.hid z0
  have HZ1 := Lib.hid z1
  have HB0 := Lib.hid b0
  have HS0 := Lib.hid hs0
  have HPA := Lib.hid x6
  have HG := Lib.hid x8
  have HH := Lib.hid hH
  have HFB := Lib.hid hFb
  have hbl := hH.lt
  have htl := World.block_lt_of_cell? _ _ x3
  have X0 := Lib.hid x0
  have X3 := Lib.hid x3
  have X4 := Lib.hid x4
  unfold maxLen at x2
  clear hT hR hTj x0 x3 x4 x5 x6 x7 x8 z0 z1 b0 hs0 hH hFb
  go_enter Tryd.func42, Tryd.ntmps42
  go_upto_region 21 with fail
  generalize (((w.alloc (.cells #[.int .i64 8, .int .i64 i, .string s] 36)).alloc (.cells #[.int .i64 0, .int .i64 0, .string ⟨#[]⟩, .slice none 0 0] 50)).alloc (.cells #[.int .i64 0, .int .i64 i, .string ⟨#[]⟩, .slice none 0 0] 50)).alloc (.cells #[.string ⟨#[]⟩, .string ⟨#[]⟩, .string ⟨#[]⟩, .string ⟨#[]⟩, .string ⟨#[]⟩, .string ⟨#[118, 111, 105, 100]⟩, .string ⟨#[101, 111, 102]⟩, .string ⟨#[117, 110, 115, 101, 116]⟩] 9) = w1 at *
  have c0 := cell_below (HB0.out.mono (Nat.le_refl _)) X0.out
  have c3 := cell_below (HB0.out.mono (Nat.le_refl _)) X3.out
  have c4 := cell_below (HB0.out.mono (Nat.le_refl _)) X4.out
  obtain ⟨⟨y0, y1, y2⟩, -⟩ := look3 HZ0.out
  have hsz1 := HS0.out
  have l1 : hb < w1.heap.size := by omega
  have l2 : tk < w1.heap.size := by have : tk < w.heap.size := htl; omega
  have l3 : w.heap.size < w1.heap.size := by omega
  have ba := (Below.refl w1.heap.size w1).alloc (Nat.le_refl _) (.cells #[.int .i64 0, .slice none 0 0] 43)
  have d0 := cell_below ba c0
  have d3 := cell_below ba c3
  have d4 := cell_below ba c4
  have e0 := cell_below ba y0
  have e1 := cell_below ba y1
  have e2 := cell_below ba y2
  clear ba
  go_region
  have Z13 := Lib.hid (show ((w1.alloc (.cells #[.int .i64 2, .slice pa l.length pc] 43)).drew).heap[w.heap.size + 4]? = some (.cells #[.int .i64 2, .slice pa l.length pc] 43 (0, 0)) from hsz1 ▸ heap_alloc_new w1 _)
  have hsz2 : ((w1.alloc (.cells #[.int .i64 2, .slice pa l.length pc] 43)).drew).heap.size = w1.heap.size + 1 := size_new _ _
  have HB2 := Lib.hid (((Below.refl w1.heap.size w1).alloc (Nat.le_refl _) (.cells #[.int .i64 2, .slice pa l.length pc] 43)).drew)
  clear c0 c3 c4 y0 y1 y2 d0 d3 d4 e0 e1 e2
  generalize (w1.alloc (.cells #[.int .i64 2, .slice pa l.length pc] 43)).drew = W2 at *
  have HB := Lib.hid (HB0.out.trans (HB2.out.mono HB0.out.size))
  have E2 := Lib.hid ((HB2.out.block (w.heap.size + 1) (by omega)).trans HZ1.out)
  obtain ⟨⟨k0, k1⟩, -⟩ := look2 Z13.out
  obtain ⟨i0, hi0, hz0, hz1, hz2⟩ := info_parts infoByte
  have HPA2 := Lib.hid (HPA.out.move (w' := W2) (fun h0 => HB.out.block g (HFB.out g (HG.out h0))))
  have hszW : w.heap.size + 5 ≤ W2.heap.size := by omega
  have hL1 : ∀ b, F b → b < W2.heap.size := fun b hb => by have := HFB.out b hb; omega
  replace hL1 := Lib.hid hL1
  clear hsz1 hsz2 l1 l2 l3
  go_upto_region 28 with fail
  have hA3 : Below W2.heap.size W2 (W2.alloc (.cells #[] 5)) := (Below.refl _ W2).alloc (Nat.le_refl _) _
  have hO3 : (W2.alloc (.cells #[] 5)).ownsRow W2.heap.size 5 1 (.slice (some ⟨W2.heap.size, 0, none⟩) 0 0) 0 (bCells (bytesL (l.take 0))) := ⟨rfl, .inr ⟨W2.heap.size, 0, #[], rfl, Nat.le_refl _, heap_alloc_new W2 _, Nat.le_refl _, Nat.zero_le _, rfl, rfl⟩⟩
  have HA3 := Lib.hid hA3
  have HO3 := Lib.hid hO3
  clear hA3 hO3 k0 k1
  generalize W2.alloc (.cells #[] 5) = W3 at *
  generalize Value.slice (some ⟨W2.heap.size, 0, none⟩) 0 0 = p3 at *
  go_wp2
  go_loopw [14, 15] (fun p x wr => ∃ (j : Nat) (pv : Value), pv = p ∧ j ≤ l.length ∧ x = .int .i64 j ∧ wr.ownsRow W2.heap.size 5 1 pv j (bCells (bytesL (l.take j))) ∧ Below W2.heap.size W2 wr) (fun _ x _ => l.length - (intOf x).toNat)
  case atStart => exact ⟨0, _, rfl, Nat.zero_le _, rfl, HO3.out, HA3.out⟩
  case round =>
    obtain ⟨j, pv, rfl, hj2, rfl, hO, hb⟩ := hrel
    have HO := Lib.hid hO
    have HBr := Lib.hid hb
    obtain ⟨⟨k0, k1⟩, -⟩ := look2 ((hb.block (w.heap.size + 4) (by omega)).trans Z13.out)
    clear hO hb
    by_cases hlt : j < l.length
    · have d1 : (j : Int) < (l.length : Int) := by omega
      have hne : l ≠ [] := fun e => by rw [e] at hlt; exact absurd hlt (Nat.not_lt_zero _)
      have hPr := HPA2.out.move (w' := wr) (fun h0 => HBr.out.block g (hL1.out g (HG.out h0)))
      obtain ⟨b, o, c, e, hbs, hbl', hva⟩ := hPr.inP.cells hne
      cases e
      obtain rfl : b = g := hbs
      obtain ⟨u0, u1, u2, uo⟩ := hva.item j hlt
      have HS := Lib.hid (show bCells (bytesL (l.take (j + 1))) = bCells (bytesL (l.take j)) ++ [.int .u8 (l[j].i % 256)] from by
        rw [List.take_succ_eq_append_getElem hlt, bytesL_append, bCells_append]; simp [bytesL, bCells, btB_cell])
      generalize l[j] = u at u0 u1 u2 uo HS
      obtain ⟨uk, ui, us⟩ := u
      have hszr := HBr.out.size
      have hbase : W2.heap.size ≤ (wr.alloc (.cells #[.int .u8 (ui % 256)] 5)).heap.size := by rw [size_new]; omega
      clear hPr hva
      go_wp2_with (at_builtin; refine wpList_append_own _ rfl _ _ 119 rfl W2.heap.size 5 i0 _ 1 1 Tryd.underlying119 hi0 hz0 hz1 hz2 rfl (by decide) _ j _ rfl (HO.out.alloc _) ⟨wr.heap.size, 0, none⟩ 1 1 [.int .u8 (ui % 256)] rfl rfl (World.news_of_block (heap_alloc_new wr _)) (by simp [Value.oneCell']) (by unfold maxLen; omega) (by omega) hbase ?_; intro v' w1 ho hg _)
      exact ⟨⟨j + 1, _, rfl, by omega, by go_num, by rw [HS.out]; exact ho, (HBr.out.alloc hszr _).grown hg hbase (fun b e => (HO.out.lt b e).1)⟩, by simp [intOf]; omega⟩
    · obtain rfl : j = l.length := by omega
      have d1 : ¬ (l.length : Int) < (l.length : Int) := by omega
      have hO := HO.out
      rw [List.take_length] at hO
      have hcv := conv_bytes (l := bytesL l) (by rw [bytesL_len]; exact hO)
      have htx : (textB l).size ≤ maxLen := by rw [textB_size]; unfold maxLen; omega
      have E3 := Lib.hid ((HBr.out.block (w.heap.size + 1) (by omega)).trans E2.out)
      obtain ⟨⟨q0, q1, q2, q3⟩, f0, f1, f2, f3⟩ := look4 E3.out
      have hcv' : (convert 119 9 pv).run Tryd.prog wr = .ok (.string (textB l)) wr := hcv
      have HTX := Lib.hid htx
      have HBE := Lib.hid (HB.out.trans (HBr.out.mono (Nat.le_trans HB.out.size (Nat.le_refl _))))
      clear hcv hO htx
      generalize textB l = tx at *
      go_wp2
      exact bodyPost_ret (res_dib (t := 9) (u := 10) (p := 8) rfl _ _ (w.heap.size + 1) _ _ _ _ rfl (put4 E3.out _ _ _ _)) rfl ⟨3, 0, tx, none, 0, 0, _, true, rfl, by rw [HRR.out]; exact ⟨rfl, HN.out, [], rfl, new_leaf _ _ _ _ _ ⟨by decide, by decide⟩ ⟨by decide, by decide⟩ HTX.out⟩, put4_below HBE.out (Nat.le_succ _) _ _ _ _⟩
end Go.Proofs.YtpejhilfopjckaaDoor.Hp
