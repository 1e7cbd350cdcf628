/-
Texts Q15, Q16, Q17, Q18, one behind the other (a claim bears sixty files). Conditions: as each says.
-/
import Derived.Test.YtpejhilfopjckaaDoorQGd
import Derived.Test.YtpejhilfopjckaaDoorQGe

/-
Package heap's Tell of values that are no things, and of pairs of such. No condition but that the heap lies in memory.
-/
namespace Go.Proofs.YtpejhilfopjckaaDoor.Hp
open Go.ChangeShapes Go.WideShapes Go.ChangeAt Go.RowKit Go.Deep
open Dat (PT ok64 RepV RepS RowX infoDatum NewV NewS makeT make_any MakeOk numT numsT)
set_option maxRecDepth 100000

def symT (l : List UInt8) : PT := .mk 4 0 ⟨l.toArray⟩ []
/-- What a value shows that is no thing. -/
def shownT (v : PV) : PT :=
  if v.k = 0 ∨ v.k = 1 ∨ v.k = 2 then .mk v.k v.i ⟨#[]⟩ [] else if v.k = 3 then .mk 4 0 v.s [] else if v.k = 4 then .mk 5 0 ⟨#[]⟩ []
  else if v.k = 5 then symT [118, 111, 105, 100] else if v.k = 6 then symT [101, 111, 102] else symT [117, 110, 115, 101, 116]
theorem res_d {fn : Func} {p : Tmp} (h : fn.results = #[.cell p 50]) (tmps : Array Value) (w : World) (g : Nat) (a b c d : Value)
    (hp : tmps.getD p undef = .pointer (some ⟨g, 0, none⟩)) (hg : w.heap[g]? = some (.cells #[a, b, c, d] 50 (0, 0))) : (results fn tmps).run Tryd.prog w = .ok (.agg #[a, b, c, d]) w :=
  results_cell_row (P := Tryd.prog) h tmps w g 50 _ (0, 0) _ hp hg Tryd.underlying50 rfl (by kernel_rfl)
theorem res_db {fn : Func} {t p : Tmp} (h : fn.results = #[.cell p 50, .tmp t]) (tmps : Array Value) (w : World) (g : Nat) (a b c d : Value)
    (hp : tmps.getD p undef = .pointer (some ⟨g, 0, none⟩)) (hg : w.heap[g]? = some (.cells #[a, b, c, d] 50 (0, 0))) : (results fn tmps).run Tryd.prog w = .ok (.tuple #[.agg #[a, b, c, d], tmps.getD t undef]) w := by
  have hp' : tmps[p]?.getD undef = .pointer (some ⟨g, 0, none⟩) := by simpa using hp
  have hi : (Tryd.prog.info? 50).map (·.size) = some (#[a, b, c, d] : Array Value).size := by kernel_rfl
  simp [results, h, hp', asAddr, run_loadVar_row w g 50 50 #[a, b, c, d] (0, 0) _ hg Tryd.underlying50 rfl hi]
theorem look4 {W : World} {g : Nat} {t : TypeId} {x0 x1 x2 x3 : Value} (hb : W.heap[g]? = some (.cells #[x0, x1, x2, x3] t (0, 0))) :
    (W.cell? ⟨g, 0, none⟩ = some x0 ∧ W.cell? ⟨g, 1, none⟩ = some x1 ∧ W.cell? ⟨g, 2, none⟩ = some x2 ∧ W.cell? ⟨g, 3, none⟩ = some x3) ∧ (W.frozen? ⟨g, 0, none⟩ = false ∧ W.frozen? ⟨g, 1, none⟩ = false ∧ W.frozen? ⟨g, 2, none⟩ = false ∧ W.frozen? ⟨g, 3, none⟩ = false) := by
  refine ⟨⟨?_, ?_, ?_, ?_⟩, ?_, ?_, ?_, ?_⟩
  all_goals first | (rw [Lib.cell_of_heap hb]; rfl) | (simp [World.frozen?, hb])
theorem put4 {W : World} {g : Nat} {t : TypeId} {x0 x1 x2 x3 : Value} (hb : W.heap[g]? = some (.cells #[x0, x1, x2, x3] t (0, 0))) (y0 y1 y2 y3 : Value) :
    ((((W.setCell ⟨g, 0, none⟩ y0).setCell ⟨g, 1, none⟩ y1).setCell ⟨g, 2, none⟩ y2).setCell ⟨g, 3, none⟩ y3).heap[g]? = some (.cells #[y0, y1, y2, y3] t (0, 0)) :=
  heap_setCell_same _ g 3 _ t y3 (put3' hb y0 y1 y2)
where put3' {W : World} {g : Nat} {t : TypeId} {x0 x1 x2 x3 : Value} (hb : W.heap[g]? = some (.cells #[x0, x1, x2, x3] t (0, 0))) (y0 y1 y2 : Value) :
    (((W.setCell ⟨g, 0, none⟩ y0).setCell ⟨g, 1, none⟩ y1).setCell ⟨g, 2, none⟩ y2).heap[g]? = some (.cells #[y0, y1, y2, x3] t (0, 0)) :=
  heap_setCell_same _ g 2 _ t y2 (heap_setCell_same _ g 1 _ t y1 (heap_setCell_same W g 0 _ t y0 hb))
theorem put4_below {C : Nat} {a W : World} (h : Below C a W) {g : Nat} (hg : C ≤ g) (y0 y1 y2 y3 : Value) : Below C a ((((W.setCell ⟨g, 0, none⟩ y0).setCell ⟨g, 1, none⟩ y1).setCell ⟨g, 2, none⟩ y2).setCell ⟨g, 3, none⟩ y3) :=
  (put3_below h hg y0 y1 y2).setCell (p := ⟨g, 3, none⟩) hg _
theorem put4_other {W : World} {g : Nat} (y0 y1 y2 y3 : Value) {b : Nat} (h : b ≠ g) : ((((W.setCell ⟨g, 0, none⟩ y0).setCell ⟨g, 1, none⟩ y1).setCell ⟨g, 2, none⟩ y2).setCell ⟨g, 3, none⟩ y3).heap[b]? = W.heap[b]? := by
  rw [Below.heap_setCell _ _ _ _ h, put3_other _ _ _ h]
theorem symbol_any (s : ByteArray) (w : World) :
    Calls Tryd.prog 66 #[.string s] w fun e w' => e = .returned (.agg #[.int .i64 4, .int .i64 0, .string s, .slice none 0 0]) ∧ Below w.heap.size w w' := by
  go_enter Tryd.func66, Tryd.ntmps66
  go_wp2
  exact bodyPost_ret (res_d rfl _ _ w.heap.size _ _ _ _ rfl (heap_alloc_new w _)) rfl ⟨rfl, (Below.refl _ _).alloc (Nat.le_refl _) _⟩
set_option maxHeartbeats 1000000 in
theorem shown_any (k i : Int) (s : ByteArray) (h0 : 0 ≤ k) (h7 : k ≤ 7) (w : World) :
    Calls Tryd.prog 62 #[.agg #[.int .i64 k, .int .i64 i, .string s]] w fun e w' => e = .returned ((shownT ⟨k, i, s⟩).val (.slice none 0 0)) ∧ Below w.heap.size w w' := by
  have Z1 := Lib.hid (two_new w (.cells #[.int .i64 k, .int .i64 i, .string s] 36) (.cells #[.int .i64 0, .int .i64 0, .string ⟨#[]⟩, .slice none 0 0] 50))
  have KS := Lib.hid (fun s W => symbol_any s W)
  have h8 : k = 0 ∨ k = 1 ∨ k = 2 ∨ k = 3 ∨ k = 4 ∨ k = 5 ∨ k = 6 ∨ k = 7 := by omega
  rcases h8 with rfl | rfl | rfl | rfl | rfl | rfl | rfl | rfl
  · go_enter Tryd.func62, Tryd.ntmps62
    go_wp2
    exact bodyPost_ret (res_d rfl _ _ (w.heap.size + 1) _ _ _ _ rfl (two_new w _ _).2.1) rfl ⟨rfl, (two_new w _ _).2.2⟩
  · go_enter Tryd.func62, Tryd.ntmps62
    go_wp2
    exact bodyPost_ret (res_d rfl _ _ (w.heap.size + 1) _ _ _ _ rfl (two_new w _ _).2.1) rfl ⟨rfl, (two_new w _ _).2.2⟩
  · go_enter Tryd.func62, Tryd.ntmps62
    go_wp2
    exact bodyPost_ret (res_d rfl _ _ (w.heap.size + 1) _ _ _ _ rfl (two_new w _ _).2.1) rfl ⟨rfl, (two_new w _ _).2.2⟩
  · go_enter Tryd.func62, Tryd.ntmps62
    go_wp2_with fail
    refine (KS.out _ _).mono ?_
    rintro e w2 ⟨rfl, hb2⟩
    have E2 := (hb2.block (w.heap.size + 1) (by rw [size_new, size_new]; omega)).trans Z1.out.2.1
    obtain ⟨⟨y0, y1, y2, y3⟩, f0, f1, f2, f3⟩ := look4 E2
    have HE := put4 E2 (.int .i64 4) (.int .i64 0) (.string s) (.slice none 0 0)
    have HB := put4_below (Z1.out.2.2.trans (hb2.mono Z1.out.2.2.size)) (Nat.le_succ _) (.int .i64 4) (.int .i64 0) (.string s) (.slice none 0 0)
    replace HE := Lib.hid HE
    replace HB := Lib.hid HB
    clear hb2 E2
    go_wp2
    have hE := HE.out
    have hB := HB.out
    clear HE HB
    generalize (((w2.setCell ⟨w.heap.size + 1, 0, none⟩ (.int .i64 4)).setCell ⟨w.heap.size + 1, 1, none⟩ (.int .i64 0)).setCell ⟨w.heap.size + 1, 2, none⟩ (.string s)).setCell ⟨w.heap.size + 1, 3, none⟩ (.slice none 0 0) = W at hE hB ⊢
    exact bodyPost_ret (res_d rfl _ _ (w.heap.size + 1) _ _ _ _ rfl hE) rfl ⟨rfl, hB⟩
  · go_enter Tryd.func62, Tryd.ntmps62
    go_wp2
    exact bodyPost_ret (res_d rfl _ _ (w.heap.size + 1) _ _ _ _ rfl (two_new w _ _).2.1) rfl ⟨rfl, (two_new w _ _).2.2⟩
  · go_enter Tryd.func62, Tryd.ntmps62
    go_wp2_with fail
    refine (KS.out _ _).mono ?_
    rintro e w2 ⟨rfl, hb2⟩
    have E2 := (hb2.block (w.heap.size + 1) (by rw [size_new, size_new]; omega)).trans Z1.out.2.1
    obtain ⟨⟨y0, y1, y2, y3⟩, f0, f1, f2, f3⟩ := look4 E2
    have HE := put4 E2 (.int .i64 4) (.int .i64 0) (.string ⟨#[118, 111, 105, 100]⟩) (.slice none 0 0)
    have HB := put4_below (Z1.out.2.2.trans (hb2.mono Z1.out.2.2.size)) (Nat.le_succ _) (.int .i64 4) (.int .i64 0) (.string ⟨#[118, 111, 105, 100]⟩) (.slice none 0 0)
    replace HE := Lib.hid HE
    replace HB := Lib.hid HB
    clear hb2 E2
    go_wp2
    have hE := HE.out
    have hB := HB.out
    clear HE HB
    generalize (((w2.setCell ⟨w.heap.size + 1, 0, none⟩ (.int .i64 4)).setCell ⟨w.heap.size + 1, 1, none⟩ (.int .i64 0)).setCell ⟨w.heap.size + 1, 2, none⟩ (.string ⟨#[118, 111, 105, 100]⟩)).setCell ⟨w.heap.size + 1, 3, none⟩ (.slice none 0 0) = W at hE hB ⊢
    exact bodyPost_ret (res_d rfl _ _ (w.heap.size + 1) _ _ _ _ rfl hE) rfl ⟨rfl, hB⟩
  · go_enter Tryd.func62, Tryd.ntmps62
    go_wp2_with fail
    refine (KS.out _ _).mono ?_
    rintro e w2 ⟨rfl, hb2⟩
    have E2 := (hb2.block (w.heap.size + 1) (by rw [size_new, size_new]; omega)).trans Z1.out.2.1
    obtain ⟨⟨y0, y1, y2, y3⟩, f0, f1, f2, f3⟩ := look4 E2
    have HE := put4 E2 (.int .i64 4) (.int .i64 0) (.string ⟨#[101, 111, 102]⟩) (.slice none 0 0)
    have HB := put4_below (Z1.out.2.2.trans (hb2.mono Z1.out.2.2.size)) (Nat.le_succ _) (.int .i64 4) (.int .i64 0) (.string ⟨#[101, 111, 102]⟩) (.slice none 0 0)
    replace HE := Lib.hid HE
    replace HB := Lib.hid HB
    clear hb2 E2
    go_wp2
    have hE := HE.out
    have hB := HB.out
    clear HE HB
    generalize (((w2.setCell ⟨w.heap.size + 1, 0, none⟩ (.int .i64 4)).setCell ⟨w.heap.size + 1, 1, none⟩ (.int .i64 0)).setCell ⟨w.heap.size + 1, 2, none⟩ (.string ⟨#[101, 111, 102]⟩)).setCell ⟨w.heap.size + 1, 3, none⟩ (.slice none 0 0) = W at hE hB ⊢
    exact bodyPost_ret (res_d rfl _ _ (w.heap.size + 1) _ _ _ _ rfl hE) rfl ⟨rfl, hB⟩
  · go_enter Tryd.func62, Tryd.ntmps62
    go_wp2_with fail
    refine (KS.out _ _).mono ?_
    rintro e w2 ⟨rfl, hb2⟩
    have E2 := (hb2.block (w.heap.size + 1) (by rw [size_new, size_new]; omega)).trans Z1.out.2.1
    obtain ⟨⟨y0, y1, y2, y3⟩, f0, f1, f2, f3⟩ := look4 E2
    have HE := put4 E2 (.int .i64 4) (.int .i64 0) (.string ⟨#[117, 110, 115, 101, 116]⟩) (.slice none 0 0)
    have HB := put4_below (Z1.out.2.2.trans (hb2.mono Z1.out.2.2.size)) (Nat.le_succ _) (.int .i64 4) (.int .i64 0) (.string ⟨#[117, 110, 115, 101, 116]⟩) (.slice none 0 0)
    replace HE := Lib.hid HE
    replace HB := Lib.hid HB
    clear hb2 E2
    go_wp2
    have hE := HE.out
    have hB := HB.out
    clear HE HB
    generalize (((w2.setCell ⟨w.heap.size + 1, 0, none⟩ (.int .i64 4)).setCell ⟨w.heap.size + 1, 1, none⟩ (.int .i64 0)).setCell ⟨w.heap.size + 1, 2, none⟩ (.string ⟨#[117, 110, 115, 101, 116]⟩)).setCell ⟨w.heap.size + 1, 3, none⟩ (.slice none 0 0) = W at hE hB ⊢
    exact bodyPost_ret (res_d rfl _ _ (w.heap.size + 1) _ _ _ _ rfl hE) rfl ⟨rfl, hB⟩
end Go.Proofs.YtpejhilfopjckaaDoor.Hp

/-
Package heap's teller: a value that is no thing, a pair. No condition but that the heap and the teller lie in memory.
-/
namespace Go.Proofs.YtpejhilfopjckaaDoor.Hp
open Go.ChangeShapes Go.WideShapes Go.ChangeAt Go.RowKit Go.Deep
open Dat (PT ok64 RepV RepS RowX infoDatum NewV NewS makeT make_any MakeOk numT numsT)
set_option maxRecDepth 100000

/-- The teller at tb: what it looks through, and how many it has looked at. -/
def TelM (w : World) (tb : Nat) (sv : Value) (n : Nat) : Prop := w.heap[tb]? = some (.cells #[sv, .int .i64 (n : Int)] 89 (0, 0))
abbrev TS (tb : Nat) : Nat → Prop := (· = tb)
theorem KpF.trans {F : Nat → Prop} {a b c : World} (h : KpF F a b) (k : KpF F b c) : KpF F a c :=
  ⟨h.1.trans k.1, fun x hx hF => (k.2 x (Nat.lt_of_lt_of_le hx h.1.size) hF).trans (h.2 x hx hF)⟩
theorem KpF.drew {F : Nat → Prop} {a b : World} (h : KpF F a b) : KpF F a b.drew := ⟨h.1.drew, h.2⟩
theorem HeapM.kept {w w' : World} {hb tb : Nat} {T : List (Int × List PV)} {F : Nat → Prop} (h : HeapM w hb T F) (hk : KpF (TS tb) w w') (hF : ¬ F tb) : HeapM w' hb T F :=
  h.move (fun b hb hlt => hk.2 b hlt (fun e => hF (e ▸ hb))) fun _ h => h
theorem look2 {W : World} {g : Nat} {t : TypeId} {x0 x1 : Value} (hb : W.heap[g]? = some (.cells #[x0, x1] t (0, 0))) :
    (W.cell? ⟨g, 0, none⟩ = some x0 ∧ W.cell? ⟨g, 1, none⟩ = some x1) ∧ (W.frozen? ⟨g, 0, none⟩ = false ∧ W.frozen? ⟨g, 1, none⟩ = false) := by
  refine ⟨⟨?_, ?_⟩, ?_, ?_⟩
  all_goals first | (rw [Lib.cell_of_heap hb]; rfl) | (simp [World.frozen?, hb])
/-- Behind the two boxes and the count. -/
theorem tel_start {w : World} {tb : Nat} {sv : Value} {n : Nat} (h : TelM w tb sv n) (A B : Obj) (x : Int) (hx : x = ((n + 1 : Nat) : Int)) : TelM (((w.setCell ⟨tb, 1, none⟩ (.int .i64 x)).alloc A).alloc B) tb sv (n + 1) ∧
    (((w.setCell ⟨tb, 1, none⟩ (.int .i64 x)).alloc A).alloc B).heap[w.heap.size]? = some A ∧ (((w.setCell ⟨tb, 1, none⟩ (.int .i64 x)).alloc A).alloc B).heap[w.heap.size + 1]? = some B ∧
    KpF (TS tb) w (((w.setCell ⟨tb, 1, none⟩ (.int .i64 x)).alloc A).alloc B) ∧ (((w.setCell ⟨tb, 1, none⟩ (.int .i64 x)).alloc A).alloc B).heap.size = w.heap.size + 2 := by
  subst hx
  have hlt := lt_of_block h
  obtain ⟨z0, z1, b0⟩ := two_new (w.setCell ⟨tb, 1, none⟩ (.int .i64 ((n + 1 : Nat) : Int))) A B
  have hs : (w.setCell ⟨tb, 1, none⟩ (.int .i64 ((n + 1 : Nat) : Int))).heap.size = w.heap.size := by simp [World.setCell]
  have h1 : (w.setCell ⟨tb, 1, none⟩ (.int .i64 ((n + 1 : Nat) : Int))).heap[tb]? = some (.cells #[sv, .int .i64 ((n + 1 : Nat) : Int)] 89 (0, 0)) := heap_setCell_same _ tb 1 _ _ _ h
  rw [hs] at z0 z1 b0
  refine ⟨(b0.block tb hlt).trans h1, z0, z1, ⟨((Below.refl 0 w).setCell (p := ⟨tb, 1, none⟩) (Nat.zero_le _) _).trans (b0.mono (Nat.zero_le _)), fun b hb hn => ?_⟩, ?_⟩
  · rw [b0.block b hb, Below.heap_setCell _ _ _ _ (by show b ≠ tb; exact hn)]
  · rw [size_new, size_new, hs]
/-- What is behind the telling of a value: a datum in new blocks; so many looked at. -/
def ValOk (w : World) (tb : Nat) (sv : Value) (n : Nat) (d : PT) (e : Ending) (w' : World) : Prop :=
  (∃ x, e = .returned (.tuple #[d.val x, .bool true]) ∧ NewV w' w.heap.size d x) ∧ TelM w' tb sv n ∧ KpF (TS tb) w w'
theorem new_none (w : World) (C : Nat) : NewS w C [] (.slice none 0 0) := ⟨none, 0, rfl, Nat.le_refl _, Nat.zero_le _, fun _ => rfl, .inl rfl⟩
theorem shown_new (w : World) (C : Nat) (v : PV) (_h0 : 0 ≤ v.k) (_h7 : v.k ≤ 7) (ho : okV v) : NewV w C (shownT v) (.slice none 0 0) := by
  unfold shownT symT
  have hz : ok64 0 := ⟨by decide, by decide⟩
  split
  · exact ⟨ho.1, ho.2.1, by decide, new_none _ _⟩
  · split
    · exact ⟨⟨by decide, by decide⟩, hz, ho.2.2, new_none _ _⟩
    · split
      · exact ⟨⟨by decide, by decide⟩, hz, by decide, new_none _ _⟩
      · split
        · exact ⟨⟨by decide, by decide⟩, hz, by decide, new_none _ _⟩
        · split
          · exact ⟨⟨by decide, by decide⟩, hz, by decide, new_none _ _⟩
          · exact ⟨⟨by decide, by decide⟩, hz, by decide, new_none _ _⟩
set_option maxHeartbeats 1000000 in
theorem value_leaf (k i : Int) (s : ByteArray) (h0 : 0 ≤ k) (h7 : k ≤ 7) (ho : okV ⟨k, i, s⟩) (m n : Nat) (hm : m ≤ 32) (hn : n < 200) (tb : Nat) (sv : Value) (w : World) (ht : TelM w tb sv n) :
    Calls Tryd.prog 41 #[.pointer (some ⟨tb, 0, none⟩), .agg #[.int .i64 k, .int .i64 i, .string s], .int .i64 (m : Int)] w fun e w' => ValOk w tb sv (n + 1) (shownT ⟨k, i, s⟩) e w' := by
  obtain ⟨t1, z0, z1, kp, hs1⟩ := tel_start ht (.cells #[.int .i64 k, .int .i64 i, .string s] 36) (.cells #[.int .i64 0, .int .i64 0, .string ⟨#[]⟩, .slice none 0 0] 50) ((n : Int) + 1) (by omega)
  have hlt := lt_of_block ht
  obtain ⟨⟨a0, a1⟩, b0, b1⟩ := look2 (((two_new w (.cells #[.int .i64 k, .int .i64 i, .string s] 36) (.cells #[.int .i64 0, .int .i64 0, .string ⟨#[]⟩, .slice none 0 0] 50)).2.2.block tb hlt).trans ht)
  have HN := Lib.hid (fun W => shown_new W w.heap.size ⟨k, i, s⟩ h0 h7 ho)
  have KS := Lib.hid (fun W => shown_any k i s h0 h7 W)
  have hk8 : (k == 8) = false := by simp; omega
  have hk9 : (k != 8) = true := by simp; omega
  have T1 := Lib.hid t1
  have Z1 := Lib.hid z1
  have KP := Lib.hid kp
  have HS1 := Lib.hid hs1
  obtain ⟨⟨x0, x1, x2⟩, -⟩ := look3 z0
  have n1 : ((n : Int) == 200) = false := by simp; omega
  have n2 : ¬ (32 : Int) < (m : Int) := by omega
  generalize shownT ⟨k, i, s⟩ = d at *
  obtain ⟨dk, di, ds, dl⟩ := d
  clear ht t1 z0 z1 kp hs1 ho h0 h7
  go_enter Tryd.func41, Tryd.ntmps41
  go_wp2_with fail
  generalize ((w.setCell ⟨tb, 1, none⟩ (.int .i64 ((n : Int) + 1))).alloc (.cells #[.int .i64 k, .int .i64 i, .string s] 36)).alloc (.cells #[.int .i64 0, .int .i64 0, .string ⟨#[]⟩, .slice none 0 0] 50) = W1 at *
  refine (KS.out _).mono ?_
  rintro e w2 ⟨he, hb2⟩
  change e = .returned (.agg #[.int .i64 dk, .int .i64 di, .string ds, .slice none 0 0]) at he
  subst he
  have E2 := (hb2.block (w.heap.size + 1) (by rw [HS1.out]; omega)).trans Z1.out
  obtain ⟨⟨y0, y1, y2, y3⟩, f0, f1, f2, f3⟩ := look4 E2
  have HE := Lib.hid (put4 E2 (.int .i64 dk) (.int .i64 di) (.string ds) (.slice none 0 0))
  have HT2 := Lib.hid ((put4_other (W := w2) (.int .i64 dk) (.int .i64 di) (.string ds) (.slice none 0 0) (show tb ≠ w.heap.size + 1 by omega)).trans ((hb2.block tb (by rw [HS1.out]; omega)).trans T1.out))
  have HK2 : Hid (KpF (TS tb) w ((((w2.setCell ⟨w.heap.size + 1, 0, none⟩ (.int .i64 dk)).setCell ⟨w.heap.size + 1, 1, none⟩ (.int .i64 di)).setCell ⟨w.heap.size + 1, 2, none⟩ (.string ds)).setCell ⟨w.heap.size + 1, 3, none⟩ (.slice none 0 0))) := Lib.hid ⟨(KP.out.trans (KpF.of_below hb2)).1.trans (put4_below (Below.refl 0 w2) (Nat.zero_le _) _ _ _ _), fun b hb hne => (put4_other _ _ _ _ (by omega)).trans ((KP.out.trans (KpF.of_below hb2)).2 b hb hne)⟩
  clear hb2 E2
  go_wp2
  have hE := HE.out
  have hT := HT2.out
  have hK := HK2.out
  have hN := HN.out
  clear HE HT2 HK2 HN
  generalize (((w2.setCell ⟨w.heap.size + 1, 0, none⟩ (.int .i64 dk)).setCell ⟨w.heap.size + 1, 1, none⟩ (.int .i64 di)).setCell ⟨w.heap.size + 1, 2, none⟩ (.string ds)).setCell ⟨w.heap.size + 1, 3, none⟩ (.slice none 0 0) = W at hE hT hK ⊢
  exact bodyPost_ret (res_db (t := 7) (p := 6) rfl _ _ (w.heap.size + 1) _ _ _ _ rfl hE) rfl ⟨⟨_, rfl, hN W⟩, hT, hK⟩

/-- The telling of a value, wherever the teller stands. -/
def ValC (hb tb : Nat) (sv : Value) (T : List (Int × List PV)) (F : Nat → Prop) (v : PV) (m : Int) (d : PT) (c : Nat) : Prop :=
  ∀ (n : Nat) (w : World), n + c ≤ 200 → TelM w tb sv n → HeapM w hb T F → w.cell? ⟨hb, 0, none⟩ = some sv →
    Calls Tryd.prog 41 #[.pointer (some ⟨tb, 0, none⟩), .agg #[.int .i64 v.k, .int .i64 v.i, .string v.s], .int .i64 m] w fun e w' => ValOk w tb sv (n + c) d e w'
theorem newV_kept {w w' : World} {tb C : Nat} {d : PT} {x : Value} (h : NewV w C d x) (hk : KpF (TS tb) w w') (hC : tb < C) : NewV w' C d x :=
  h.move (Nat.le_refl _) fun b o v hb hv => (World.cell?_of_block (w := w) (a := ⟨b, o, none⟩) (hk.2 b (World.block_lt_of_cell? _ _ hv) (by show b ≠ tb; omega))).trans hv
set_option maxHeartbeats 1000000 in
theorem pair_any (ak ai : Int) (as_ : ByteArray) (bk bi : Int) (bs : ByteArray) (m : Nat) (hm : m ≤ 32) (d1 d2 : PT) (c1 c2 : Nat) (hb tb : Nat) (sv : Value) (T : List (Int × List PV)) (F : Nat → Prop) (hF : ¬ F tb) (hhb : F hb)
    (KA : ValC hb tb sv T F ⟨ak, ai, as_⟩ ((m : Int) + 1) d1 c1) (KB : ValC hb tb sv T F ⟨bk, bi, bs⟩ (m : Int) d2 c2) (hnum : numsT [d1] + numT d2 ≤ 200000)
    (n : Nat) (w : World) (hn : n + (c1 + c2) ≤ 200) (ht : TelM w tb sv n) (hH : HeapM w hb T F) (hc : w.cell? ⟨hb, 0, none⟩ = some sv) (S : Nat → Prop) (hS : ∀ b, S b → b ≠ tb) (pv : Value) (hP : InP w S [⟨ak, ai, as_⟩, ⟨bk, bi, bs⟩] pv) :
    Calls Tryd.prog 63 #[.pointer (some ⟨tb, 0, none⟩), pv, .int .i64 (m : Int)] w fun e w' => ValOk w tb sv (n + (c1 + c2)) (makeT [d1] d2) e w' := by
  have hhb' : hb ≠ tb := fun e => hF (e ▸ hhb)
  have hSP := hP
  obtain ⟨b, o, c, rfl, hc1, hc2, hbl, ⟨a0, a1, a2⟩, ok, ⟨b0, b1, b2⟩, ok'⟩ := two_args hP
  have hbt : b ≠ tb := by
    obtain ⟨b', o', c', e, hs, _⟩ := hSP.cells (by simp)
    cases e
    exact hS _ hs
  have hlt := lt_of_block ht
  have Z0 := heap_alloc_new w (.cells #[.int .i64 0, .int .i64 0, .string ⟨#[]⟩, .slice none 0 0] 50)
  have B0 := (Below.refl w.heap.size w).alloc (Nat.le_refl _) (.cells #[.int .i64 0, .int .i64 0, .string ⟨#[]⟩, .slice none 0 0] 50)
  have hs0 := size_new w (.cells #[.int .i64 0, .int .i64 0, .string ⟨#[]⟩, .slice none 0 0] 50)
  have mv := new_cells w (.cells #[.int .i64 0, .int .i64 0, .string ⟨#[]⟩, .slice none 0 0] 50) b hbl
  have p0 := (mv _).trans a0
  have p1 := (mv _).trans a1
  have p2 := (mv _).trans a2
  have HKA := Lib.hid (KA n _ (by omega) ((B0.block tb hlt).trans ht) (hH.below B0) ((B0.cell (p := ⟨hb, 0, none⟩) (World.block_lt_of_cell? _ _ hc)).trans hc))
  have HKB := Lib.hid KB
  have HH := Lib.hid hH
  have HC := Lib.hid hc
  have HF := Lib.hid hF
  have HB0 := Lib.hid B0
  have HZ0 := Lib.hid Z0
  have HBT := Lib.hid hbt
  have HHB := Lib.hid hhb'
  have HNUM := Lib.hid hnum
  unfold maxLen at hc2
  clear KA KB hH hP hSP ht Z0 B0 ok ok' mv hF hhb hS hc hbt hhb' hnum
  go_enter Tryd.func63, Tryd.ntmps63
  go_wp2_with fail
  refine HKA.out.mono ?_
  rintro e w2 ⟨⟨x1, he, hx1⟩, t2, k2⟩
  obtain ⟨k1, i1, s1, l1⟩ := d1
  have hx1' := hx1
  obtain ⟨xa, xc, hxe, _⟩ := hx1.2.2.2
  subst hxe
  change e = .returned (.tuple #[.agg #[.int .i64 k1, .int .i64 i1, .string s1, .slice xa l1.length xc], .bool true]) at he
  subst he
  have hs2 : w.heap.size + 1 ≤ w2.heap.size := by have := k2.1.size; omega
  -- behind the first one
  have Z3 := heap_alloc_new w2 (.cells #[.int .i64 k1, .int .i64 i1, .string s1, .slice xa l1.length xc] 50)
  have B3 := (Below.refl w2.heap.size w2).alloc (Nat.le_refl _) (.cells #[.int .i64 k1, .int .i64 i1, .string s1, .slice xa l1.length xc] 50)
  have hs3 := size_new w2 (.cells #[.int .i64 k1, .int .i64 i1, .string s1, .slice xa l1.length xc] 50)
  have K3 := ((KpF.of_below (F := TS tb) HB0.out).trans k2).trans (KpF.of_below B3)
  have T3 : TelM (w2.alloc (.cells #[.int .i64 k1, .int .i64 i1, .string s1, .slice xa l1.length xc] 50)) tb sv (n + c1) := (B3.block tb (by omega)).trans t2
  have cellOf : ∀ (W : World), KpF (TS tb) w W → ∀ (b o : Nat), b < w.heap.size → b ≠ tb → W.cell? ⟨b, o, none⟩ = w.cell? ⟨b, o, none⟩ := fun W hW b o h1 h2 => World.cell?_of_block (w := w) (a := ⟨b, o, none⟩) (hW.2 b h1 h2)
  have q0 := (cellOf _ K3 b (o + 3) hbl HBT.out).trans b0
  have q1 := (cellOf _ K3 b (o + 4) hbl HBT.out).trans b1
  have q2 := (cellOf _ K3 b (o + 5) hbl HBT.out).trans b2
  have HKB3 := Lib.hid (HKB.out (n + c1) _ (by omega) T3 (HH.out.kept K3 HF.out) ((cellOf _ K3 hb 0 (HH.out.lt) HHB.out).trans HC.out))
  have HX1 := Lib.hid (newV_kept (tb := tb) (hx1'.move (C' := w.heap.size) (by omega) (fun _ _ _ _ h => h)) (KpF.of_below B3) hlt)
  have HK3 := Lib.hid K3
  have HZ3 := Lib.hid Z3
  have HZ0' := Lib.hid ((B3.block w.heap.size (by omega)).trans ((k2.2 w.heap.size (by omega) (show w.heap.size ≠ tb by omega)).trans HZ0.out))
  clear hx1 hx1' t2 k2 Z3 B3 T3 K3
  go_wp2_with fail
  generalize w2.alloc (.cells #[.int .i64 k1, .int .i64 i1, .string s1, .slice xa l1.length xc] 50) = w3 at *
  refine HKB3.out.mono ?_
  rintro e w4 ⟨⟨x2, he, hx2⟩, t4, k4⟩
  obtain ⟨k2, i2, s2, l2⟩ := d2
  have hx2' := hx2
  obtain ⟨ya, yc, hye, _⟩ := hx2.2.2.2
  subst hye
  change e = .returned (.tuple #[.agg #[.int .i64 k2, .int .i64 i2, .string s2, .slice ya l2.length yc], .bool true]) at he
  subst he
  have hs4 : w2.heap.size + 1 ≤ w4.heap.size := by have := k4.1.size; omega
  have Z4 : w4.heap[w2.heap.size]? = some (.cells #[.int .i64 k1, .int .i64 i1, .string s1, .slice xa l1.length xc] 50 (0, 0)) := (k4.2 w2.heap.size (by omega) (show w2.heap.size ≠ tb by omega)).trans HZ3.out
  have Z04 := (k4.2 w.heap.size (by omega) (show w.heap.size ≠ tb by omega)).trans HZ0'.out
  obtain ⟨u0, u1, u2⟩ := two_new w4 (.cells #[.int .i64 k2, .int .i64 i2, .string s2, .slice ya l2.length yc] 50) (.cells #[.int .i64 k1, .int .i64 i1, .string s1, .slice xa l1.length xc] 50)
  obtain ⟨⟨g0, g1, g2, g3⟩, -⟩ := look4 Z4
  have mv4 := new_cells w4 (.cells #[.int .i64 k2, .int .i64 i2, .string s2, .slice ya l2.length yc] 50) w2.heap.size (by omega)
  replace g0 := (mv4 _).trans g0
  replace g1 := (mv4 _).trans g1
  replace g2 := (mv4 _).trans g2
  replace g3 := (mv4 _).trans g3
  clear mv4
  have NW1 := newV_kept (tb := tb) (newV_kept HX1.out k4 hlt) (KpF.of_below u2) hlt
  have NW2 := newV_kept (tb := tb) hx2' (KpF.of_below u2) (by omega)
  have hsz : ((w4.alloc (.cells #[.int .i64 k2, .int .i64 i2, .string s2, .slice ya l2.length yc] 50)).alloc (.cells #[.int .i64 k1, .int .i64 i1, .string s1, .slice xa l1.length xc] 50)).heap.size = w4.heap.size + 1 + 1 := by rw [size_new, size_new]
  have HKM := Lib.hid (make_any [.mk k1 i1 s1 l1] k2 i2 s2 l2 _ (.slice ya l2.length yc) _ _ (Dat.rep_one (by rw [hsz]; omega) u1 NW1.rep) NW2.rep (Nat.le_refl _) HNUM.out (makeT [.mk k1 i1 s1 l1] (.mk k2 i2 s2 l2)) rfl)
  generalize hr : makeT [PT.mk k1 i1 s1 l1] (PT.mk k2 i2 s2 l2) = r at HKM
  have HRR := Lib.hid hr
  clear hr
  have K5 := Lib.hid ((HK3.out.trans k4).trans (KpF.of_below u2))
  have T5 := Lib.hid ((u2.block tb (by omega)).trans t4)
  have Z5 := Lib.hid ((u2.block w.heap.size (by omega)).trans Z04)
  have HSZ := Lib.hid hsz
  clear hx2 hx2' t4 k4 Z4 Z04 u0 u1 u2 NW1 NW2 hsz q0 q1 q2 p0 p1 p2 a0 a1 a2 b0 b1 b2
  go_wp2_with fail
  generalize (w4.alloc (.cells #[.int .i64 k2, .int .i64 i2, .string s2, .slice ya l2.length yc] 50)).alloc (.cells #[.int .i64 k1, .int .i64 i1, .string s1, .slice xa l1.length xc] 50) = w5 at *
  refine HKM.out.mono ?_
  rintro e w6 ⟨⟨x', he, _, hnew⟩, hb6⟩
  obtain ⟨rk, ri, rs, rl⟩ := r
  have hnew' := hnew
  obtain ⟨za, zc, hze, _⟩ := hnew.2.2.2
  subst hze
  change e = .returned (.agg #[.int .i64 rk, .int .i64 ri, .string rs, .slice za rl.length zc]) at he
  subst he
  have E6 := (hb6.block w.heap.size (by rw [HSZ.out]; omega)).trans Z5.out
  obtain ⟨⟨y0, y1, y2, y3⟩, f0, f1, f2, f3⟩ := look4 E6
  have HE := Lib.hid (put4 E6 (.int .i64 rk) (.int .i64 ri) (.string rs) (.slice za rl.length zc))
  have HT6 := Lib.hid ((put4_other (W := w6) (.int .i64 rk) (.int .i64 ri) (.string rs) (.slice za rl.length zc) (show tb ≠ w.heap.size by omega)).trans ((hb6.block tb (by rw [HSZ.out]; omega)).trans T5.out))
  have HK6 : Hid (KpF (TS tb) w ((((w6.setCell ⟨w.heap.size, 0, none⟩ (.int .i64 rk)).setCell ⟨w.heap.size, 1, none⟩ (.int .i64 ri)).setCell ⟨w.heap.size, 2, none⟩ (.string rs)).setCell ⟨w.heap.size, 3, none⟩ (.slice za rl.length zc))) := Lib.hid ⟨(K5.out.trans (KpF.of_below hb6)).1.trans (put4_below (Below.refl 0 w6) (Nat.zero_le _) _ _ _ _), fun b hb hne => (put4_other _ _ _ _ (by omega)).trans ((K5.out.trans (KpF.of_below hb6)).2 b hb hne)⟩
  have HN6 : Hid (NewV ((((w6.setCell ⟨w.heap.size, 0, none⟩ (.int .i64 rk)).setCell ⟨w.heap.size, 1, none⟩ (.int .i64 ri)).setCell ⟨w.heap.size, 2, none⟩ (.string rs)).setCell ⟨w.heap.size, 3, none⟩ (.slice za rl.length zc)) w.heap.size (.mk rk ri rs rl) (.slice za rl.length zc)) := Lib.hid (hnew'.move (by rw [HSZ.out]; omega) fun b o v hb hv => (World.cell?_of_block (w := w6) (a := ⟨b, o, none⟩) (put4_other _ _ _ _ (show b ≠ w.heap.size by rw [HSZ.out] at hb; omega))).trans hv)
  clear hb6 E6 hnew hnew'
  go_wp2
  have hE := HE.out
  have hT := HT6.out
  have hK := HK6.out
  have hN := HN6.out
  clear HE HT6 HK6 HN6
  generalize (((w6.setCell ⟨w.heap.size, 0, none⟩ (.int .i64 rk)).setCell ⟨w.heap.size, 1, none⟩ (.int .i64 ri)).setCell ⟨w.heap.size, 2, none⟩ (.string rs)).setCell ⟨w.heap.size, 3, none⟩ (.slice za rl.length zc) = W at hE hT hK hN ⊢
  exact bodyPost_ret (res_db (t := 7) (p := 6) rfl _ _ w.heap.size _ _ _ _ rfl hE) rfl (by rw [HRR.out]; exact ⟨⟨_, rfl, hN⟩, by rw [← Nat.add_assoc]; exact hT, hK⟩)
end Go.Proofs.YtpejhilfopjckaaDoor.Hp

/-
Package heap's teller: a value that is a pair; Tell of what is told so. No condition but that the heap lies in memory.
-/
namespace Go.Proofs.YtpejhilfopjckaaDoor.Hp
open Go.ChangeShapes Go.WideShapes Go.ChangeAt Go.RowKit Go.Deep
open Dat (PT ok64 RepV RepS RowX infoDatum NewV NewS makeT make_any MakeOk numT numsT)
set_option maxRecDepth 100000

set_option maxHeartbeats 2000000 in
theorem value_pair (i : Int) (s : ByteArray) (ak ai : Int) (as_ : ByteArray) (bk bi : Int) (bs : ByteArray) (m : Nat) (hm : m ≤ 32) (d1 d2 : PT) (c1 c2 : Nat) (hb tb : Nat) (sv : Value) (T : List (Int × List PV)) (F : Nat → Prop) (hF : ¬ F tb) (hhb : F hb)
    (hi : 0 ≤ i) (hT : T[i.toNat]? = some (0, [⟨ak, ai, as_⟩, ⟨bk, bi, bs⟩]))
    (KA : ValC hb tb sv T F ⟨ak, ai, as_⟩ ((m : Int) + 1) d1 c1) (KB : ValC hb tb sv T F ⟨bk, bi, bs⟩ (m : Int) d2 c2) (hnum : numsT [d1] + numT d2 ≤ 200000) :
    ValC hb tb sv T F ⟨8, i, s⟩ (m : Int) (makeT [d1] d2) (1 + (c1 + c2)) := by
  intro n w hn ht hH hc
  obtain ⟨t1, z0, z1, kp, hs1⟩ := tel_start ht (.cells #[.int .i64 8, .int .i64 i, .string s] 36) (.cells #[.int .i64 0, .int .i64 0, .string ⟨#[]⟩, .slice none 0 0] 50) ((n : Int) + 1) (by omega)
  have hlt := lt_of_block ht
  obtain ⟨⟨a0, a1⟩, b0, b1⟩ := look2 (((two_new w (.cells #[.int .i64 8, .int .i64 i, .string s] 36) (.cells #[.int .i64 0, .int .i64 0, .string ⟨#[]⟩, .slice none 0 0] 50)).2.2.block tb hlt).trans ht)
  have hj : i.toNat < T.length := (List.getElem?_eq_some_iff.1 hT).1
  have hTj : T[i.toNat] = (0, [⟨ak, ai, as_⟩, ⟨bk, bi, bs⟩]) := (List.getElem?_eq_some_iff.1 hT).2
  have hH1 := hH.kept kp hF
  obtain ⟨tk, cap, g, pv, x0, x1, x2, x3, xl, x4, xm, _, x6, x7, x8⟩ := hH1.thing0 i.toNat hj (by rw [hTj]) (by rw [hTj]; simp)
  rw [hTj] at x3 xl x6 x8
  have hhb' : hb ≠ tb := fun e => hF (e ▸ hhb)
  have hc1 := (World.cell?_of_block (w := w) (a := ⟨hb, 0, none⟩) (kp.2 hb hH.lt (show hb ≠ tb from hhb'))).trans hc
  have hsv : sv = .slice (some ⟨tk, 0, none⟩) T.length cap := Option.some.inj (hc1.symm.trans x0)
  have HPP := Lib.hid x6.inP
  have HFG := Lib.hid (x8 (by simp))
  obtain ⟨pa, pc, rfl, p1, p2⟩ := x6.slice
  subst hsv
  have hL : i < (T.length : Int) := by omega
  have T1 := Lib.hid t1
  have Z1 := Lib.hid z1
  have KP := Lib.hid kp
  have HS1 := Lib.hid hs1
  have HH1 := Lib.hid hH1
  have HC1 := Lib.hid hc1
  have HF := Lib.hid hF
  have HHB := Lib.hid hhb
  have HKA := Lib.hid KA
  have HKB := Lib.hid KB
  have HNUM := Lib.hid hnum
  obtain ⟨⟨w0, w1, w2⟩, -⟩ := look3 z0
  obtain ⟨⟨tt0, tt1⟩, -⟩ := look2 t1
  have n1 : ((n : Int) == 200) = false := by simp; omega
  have n2 : ¬ (32 : Int) < (m : Int) := by omega
  have hn2 : n < 200 := by omega
  have HN := Lib.hid hn
  unfold maxLen at x2
  clear ht t1 z0 z1 kp hs1 hH hc hH1 hc1 hF hhb KA KB hnum x0 x6 x7 x8 hT hTj hhb' hn
  go_enter Tryd.func41, Tryd.ntmps41
  go_wp2_with fail
  generalize ((w.setCell ⟨tb, 1, none⟩ (.int .i64 ((n : Int) + 1))).alloc (.cells #[.int .i64 8, .int .i64 i, .string s] 36)).alloc (.cells #[.int .i64 0, .int .i64 0, .string ⟨#[]⟩, .slice none 0 0] 50) = W1 at *
  have l1 : w.heap.size + 1 < W1.heap.size := by rw [HS1.out]; omega
  have l2 : tk < W1.heap.size := World.block_lt_of_cell? _ _ x3
  have l3 : tb < W1.heap.size := by rw [HS1.out]; omega
  have l4 : w.heap.size < W1.heap.size := by omega
  go_region
  have B2 := (Below.refl W1.heap.size W1).drew
  have hs2 : W1.drew.heap.size = W1.heap.size := rfl
  have HKP := Lib.hid (pair_any ak ai as_ bk bi bs m hm d1 d2 c1 c2 hb tb _ T F HF.out HHB.out HKA.out HKB.out HNUM.out (n + 1) W1.drew (by have := HN.out; omega) ((B2.block tb l3).trans T1.out) (HH1.out.below B2) ((B2.cell (p := ⟨hb, 0, none⟩) HH1.out.lt).trans HC1.out) (· = g) (fun b e e2 => HF.out (e2 ▸ e ▸ HFG.out)) _ (HPP.out.belowP B2))
  have HB2 := Lib.hid B2
  have HS2 := Lib.hid hs2
  have Z2 := Lib.hid ((B2.block (w.heap.size + 1) l1).trans Z1.out)
  clear B2 hs2 HKA HKB
  generalize hr : makeT [d1] d2 = r at HKP
  have HRR := Lib.hid hr
  clear hr
  go_wp2_with fail
  generalize W1.drew = W2 at *
  refine HKP.out.mono ?_
  rintro e w3 ⟨⟨x', he, hnew⟩, t3, k3⟩
  obtain ⟨rk, ri, rs, rl⟩ := r
  have hnew' := hnew
  obtain ⟨za, zc, hze, _⟩ := hnew.2.2.2
  subst hze
  change e = .returned (.tuple #[.agg #[.int .i64 rk, .int .i64 ri, .string rs, .slice za rl.length zc], .bool true]) at he
  subst he
  have E6 := (k3.2 (w.heap.size + 1) (by rw [HS2.out]; omega) (show w.heap.size + 1 ≠ tb by omega)).trans Z2.out
  obtain ⟨⟨y0, y1, y2, y3⟩, f0, f1, f2, f3⟩ := look4 E6
  have HE := Lib.hid (put4 E6 (.int .i64 rk) (.int .i64 ri) (.string rs) (.slice za rl.length zc))
  have HT6 := Lib.hid ((put4_other (W := w3) (.int .i64 rk) (.int .i64 ri) (.string rs) (.slice za rl.length zc) (show tb ≠ w.heap.size + 1 by omega)).trans t3)
  have HK6 : Hid (KpF (TS tb) w ((((w3.setCell ⟨w.heap.size + 1, 0, none⟩ (.int .i64 rk)).setCell ⟨w.heap.size + 1, 1, none⟩ (.int .i64 ri)).setCell ⟨w.heap.size + 1, 2, none⟩ (.string rs)).setCell ⟨w.heap.size + 1, 3, none⟩ (.slice za rl.length zc))) := Lib.hid ⟨((KP.out.trans (KpF.of_below HB2.out)).trans k3).1.trans (put4_below (Below.refl 0 w3) (Nat.zero_le _) _ _ _ _), fun b hb hne => (put4_other _ _ _ _ (by omega)).trans (((KP.out.trans (KpF.of_below HB2.out)).trans k3).2 b hb hne)⟩
  have HN6 : Hid (NewV ((((w3.setCell ⟨w.heap.size + 1, 0, none⟩ (.int .i64 rk)).setCell ⟨w.heap.size + 1, 1, none⟩ (.int .i64 ri)).setCell ⟨w.heap.size + 1, 2, none⟩ (.string rs)).setCell ⟨w.heap.size + 1, 3, none⟩ (.slice za rl.length zc)) w.heap.size (.mk rk ri rs rl) (.slice za rl.length zc)) := Lib.hid (hnew'.move (by rw [HS2.out]; omega) fun b o v hb hv => (World.cell?_of_block (w := w3) (a := ⟨b, o, none⟩) (put4_other _ _ _ _ (show b ≠ w.heap.size + 1 by rw [HS2.out] at hb; omega))).trans hv)
  clear E6 hnew hnew' t3 k3
  go_wp2
  have hE := HE.out
  have hT := HT6.out
  have hK := HK6.out
  have hN := HN6.out
  clear HE HT6 HK6 HN6
  generalize (((w3.setCell ⟨w.heap.size + 1, 0, none⟩ (.int .i64 rk)).setCell ⟨w.heap.size + 1, 1, none⟩ (.int .i64 ri)).setCell ⟨w.heap.size + 1, 2, none⟩ (.string rs)).setCell ⟨w.heap.size + 1, 3, none⟩ (.slice za rl.length zc) = W at hE hT hK hN ⊢
  exact bodyPost_ret (res_db (t := 7) (p := 6) rfl _ _ (w.heap.size + 1) _ _ _ _ rfl hE) rfl (by rw [HRR.out]; exact ⟨⟨_, rfl, hN⟩, by rw [show n + (1 + (c1 + c2)) = n + 1 + (c1 + c2) by omega]; exact hT, hK⟩)
/-- What a value tells that is no thing, or a pair of such, and how many values are looked at. -/
inductive TellR (T : List (Int × List PV)) : Nat → PV → PT → Nat → Prop where
  | leaf (m : Nat) (v : PV) (hm : m ≤ 32) (h0 : 0 ≤ v.k) (h7 : v.k ≤ 7) (ho : okV v) : TellR T m v (shownT v) 1
  | pair (m : Nat) (i : Int) (s : ByteArray) (a b : PV) (d1 d2 : PT) (c1 c2 : Nat) (hm : m ≤ 32) (hi : 0 ≤ i) (hT : T[i.toNat]? = some (0, [a, b])) (ha : TellR T (m + 1) a d1 c1) (hb : TellR T m b d2 c2) : TellR T m ⟨8, i, s⟩ (makeT [d1] d2) (1 + (c1 + c2))
theorem shown_num (v : PV) : numT (shownT v) = 1 := by
  unfold shownT symT
  split
  · rfl
  · split
    · rfl
    · split
      · rfl
      · split
        · rfl
        · split <;> rfl
theorem tell_num {T : List (Int × List PV)} : ∀ {m : Nat} {v : PV} {d : PT} {c : Nat}, TellR T m v d c → numT d ≤ c
  | _, _, _, _, .leaf _ v _ _ _ _ => by rw [shown_num]; exact Nat.le_refl _
  | _, _, _, _, .pair _ _ _ _ _ d1 d2 _ _ _ _ _ ha hb => by
    have h1 := tell_num ha
    have h2 := tell_num hb
    obtain ⟨k, i, s, l⟩ := d2
    rw [numT] at h2
    unfold makeT
    dsimp only
    rw [if_neg (by simp)]
    split
    · rw [numT, Dat.numsT_append]
      simp only [numsT]
      omega
    · rw [numT, Dat.numsT_append]
      simp only [numsT, numT]
      omega
theorem value_any {hb tb : Nat} {sv : Value} {T : List (Int × List PV)} {F : Nat → Prop} (hF : ¬ F tb) (hhb : F hb) : ∀ {m : Nat} {v : PV} {d : PT} {c : Nat}, TellR T m v d c → c ≤ 200 → ValC hb tb sv T F v (m : Int) d c
  | _, _, _, _, .leaf m ⟨k, i, s⟩ hm h0 h7 ho, _ => fun n w hn ht _ _ => value_leaf k i s h0 h7 ho m n hm (by omega) tb sv w ht
  | _, _, _, _, .pair m i s ⟨ak, ai, as_⟩ ⟨bk, bi, bs⟩ d1 d2 c1 c2 hm hi hT ha hb', hc => by
    have h1 := value_any hF hhb (hb := hb) (tb := tb) (sv := sv) ha (by omega)
    have h2 := value_any hF hhb (hb := hb) (tb := tb) (sv := sv) hb' (by omega)
    have n1 := tell_num ha
    have n2 := tell_num hb'
    exact value_pair i s ak ai as_ bk bi bs m hm d1 d2 c1 c2 hb tb sv T F hF hhb hi hT h1 h2 (by simp only [numsT]; omega)
end Go.Proofs.YtpejhilfopjckaaDoor.Hp

/-
Package heap's Tell of what is told so; New, Count. No condition but that the heap lies in memory.
-/
namespace Go.Proofs.YtpejhilfopjckaaDoor.Hp
open Go.ChangeShapes Go.WideShapes Go.ChangeAt Go.RowKit Go.Deep
open Dat (PT ok64 RepV RepS RowX infoDatum NewV NewS makeT make_any MakeOk numT numsT)
set_option maxRecDepth 100000

set_option maxHeartbeats 1000000 in
theorem tell_any (k i : Int) (s : ByteArray) (d : PT) (c : Nat) (hb : Nat) (T : List (Int × List PV)) (F : Nat → Prop) (w : World) (hH : HeapM w hb T F) (hF : ∀ b, F b → b < w.heap.size) (hs : s.size ≤ maxLen) (hv : hasB T.length ⟨k, i, s⟩ = true) (h : TellR T 0 ⟨k, i, s⟩ d c) (hc : c ≤ 200) :
    Calls Tryd.prog 15 #[.pointer (some ⟨hb, 0, none⟩), .agg #[.int .i64 k, .int .i64 i, .string s]] w fun e w' => (∃ x, e = .returned (.tuple #[d.val x, .bool true]) ∧ NewV w' w.heap.size d x) ∧ Below w.heap.size w w' := by
  obtain ⟨Z0, Z1, B0⟩ := two_new w (.cells #[.int .i64 k, .int .i64 i, .string s] 36) (.cells #[.int .i64 0, .int .i64 0, .string ⟨#[]⟩, .slice none 0 0] 50)
  have KH := Lib.hid (hv ▸ has_any k i s hb T.length _ hs (LenM.below hH.len B0))
  have hs0 : ((w.alloc (.cells #[.int .i64 k, .int .i64 i, .string s] 36)).alloc (.cells #[.int .i64 0, .int .i64 0, .string ⟨#[]⟩, .slice none 0 0] 50)).heap.size = w.heap.size + 1 + 1 := by rw [size_new, size_new]
  have HH := Lib.hid hH
  have HF := Lib.hid hF
  have HR := Lib.hid h
  have HS0 := Lib.hid hs0
  have HB0 := Lib.hid B0
  have HZ0 := Lib.hid Z0
  have HZ1 := Lib.hid Z1
  clear hH hF hs hv h hs0 Z0 Z1 B0
  go_enter Tryd.func15, Tryd.ntmps15
  go_wp2_with fail
  generalize (w.alloc (.cells #[.int .i64 k, .int .i64 i, .string s] 36)).alloc (.cells #[.int .i64 0, .int .i64 0, .string ⟨#[]⟩, .slice none 0 0] 50) = w0 at *
  refine KH.out.mono ?_
  rintro e w1 ⟨rfl, hb1⟩
  have B1 := HB0.out.trans (hb1.mono HB0.out.size)
  have hs1 : w.heap.size + 1 + 1 ≤ w1.heap.size := by have := hb1.size; have := HS0.out; omega
  obtain ⟨a, cp, hlc, _⟩ := HH.out.len
  have hl1 := (B1.cell (p := ⟨hb, 0, none⟩) (World.block_lt_of_cell? _ _ hlc)).trans hlc
  obtain ⟨⟨x0, x1, x2⟩, -⟩ := look3 ((hb1.block w.heap.size (by rw [HS0.out]; omega)).trans HZ0.out)
  have Y1 := Lib.hid ((hb1.block (w.heap.size + 1) (by rw [HS0.out]; omega)).trans HZ1.out)
  have HB1 := Lib.hid B1
  have HH1 := Lib.hid (HH.out.below B1)
  have HL1 := Lib.hid hl1
  clear hb1 B1 hlc
  have B2 := (Below.refl w1.heap.size w1).alloc (Nat.le_refl _) (.cells #[.slice a T.length cp, .int .i64 0] 89)
  have hnF : ¬ F w1.heap.size := fun hf => by have := HF.out _ hf; have := HB1.out.size; omega
  obtain ⟨F', hF'⟩ : ∃ F' : Nat → Prop, F' = F := ⟨F, rfl⟩
  have KVC : ValC hb w1.heap.size (.slice a T.length cp) T F ⟨k, i, s⟩ 0 d c := value_any (hb := hb) (tb := w1.heap.size) (sv := .slice a T.length cp) hnF (by obtain ⟨_, _, _, _, _, _, h2, _⟩ := HH.out; exact h2) HR.out hc
  have KV := Lib.hid (KVC 0 (w1.alloc (.cells #[.slice a T.length cp, .int .i64 0] 89)) (by omega) (heap_alloc_new w1 _) (HH1.out.below B2) ((B2.cell (p := ⟨hb, 0, none⟩) HH1.out.lt).trans HL1.out))
  have HB2 := Lib.hid B2
  have hs2 : (w1.alloc (.cells #[.slice a T.length cp, .int .i64 0] 89)).heap.size = w1.heap.size + 1 := size_new _ _
  have HS2 := Lib.hid hs2
  have mv2 := new_cells w1 (.cells #[.slice a T.length cp, .int .i64 0] 89) w.heap.size (by omega)
  replace x0 := (mv2 _).trans x0
  replace x1 := (mv2 _).trans x1
  replace x2 := (mv2 _).trans x2
  clear B2 hnF hF' hs2 KVC mv2
  go_wp2_with fail
  generalize w1.alloc (.cells #[.slice a T.length cp, .int .i64 0] 89) = w2 at *
  refine KV.out.mono ?_
  rintro e w3 ⟨⟨x', he, hnew⟩, t3, k3⟩
  obtain ⟨rk, ri, rs, rl⟩ := d
  have hnew' := hnew
  obtain ⟨za, zc, hze, _⟩ := hnew.2.2.2
  subst hze
  change e = .returned (.tuple #[.agg #[.int .i64 rk, .int .i64 ri, .string rs, .slice za rl.length zc], .bool true]) at he
  subst he
  have B3 : Below w1.heap.size w1 w3 := by
    have h0 := (HB2.out.mono (Nat.zero_le _)).trans k3.1
    exact ⟨h0.os, h0.tape, h0.output, h0.size, fun b hb => (k3.2 b (by rw [HS2.out]; omega) (show b ≠ w1.heap.size by omega)).trans (HB2.out.block b hb)⟩
  have E6 := (B3.block (w.heap.size + 1) (by omega)).trans Y1.out
  obtain ⟨⟨y0, y1, y2, y3⟩, f0, f1, f2, f3⟩ := look4 E6
  have HE := Lib.hid (put4 E6 (.int .i64 rk) (.int .i64 ri) (.string rs) (.slice za rl.length zc))
  have HB6 := Lib.hid (put4_below (HB1.out.trans (B3.mono HB1.out.size)) (Nat.le_succ _) (.int .i64 rk) (.int .i64 ri) (.string rs) (.slice za rl.length zc))
  have HN6 : Hid (NewV ((((w3.setCell ⟨w.heap.size + 1, 0, none⟩ (.int .i64 rk)).setCell ⟨w.heap.size + 1, 1, none⟩ (.int .i64 ri)).setCell ⟨w.heap.size + 1, 2, none⟩ (.string rs)).setCell ⟨w.heap.size + 1, 3, none⟩ (.slice za rl.length zc)) w.heap.size (.mk rk ri rs rl) (.slice za rl.length zc)) := Lib.hid (hnew'.move (by rw [HS2.out]; omega) fun b o v hb hv => (World.cell?_of_block (w := w3) (a := ⟨b, o, none⟩) (put4_other _ _ _ _ (show b ≠ w.heap.size + 1 by rw [HS2.out] at hb; omega))).trans hv)
  clear E6 hnew hnew' t3 k3 B3
  go_wp2
  have hE := HE.out
  have hB := HB6.out
  have hN := HN6.out
  clear HE HB6 HN6
  generalize (((w3.setCell ⟨w.heap.size + 1, 0, none⟩ (.int .i64 rk)).setCell ⟨w.heap.size + 1, 1, none⟩ (.int .i64 ri)).setCell ⟨w.heap.size + 1, 2, none⟩ (.string rs)).setCell ⟨w.heap.size + 1, 3, none⟩ (.slice za rl.length zc) = W at hE hB hN ⊢
  exact bodyPost_ret (res_db (t := 5) (p := 4) rfl _ _ (w.heap.size + 1) _ _ _ _ rfl hE) rfl ⟨⟨_, rfl, hN⟩, hB⟩
theorem new_any (w : World) : Calls Tryd.prog 5 #[] w fun e w' => e = .returned (.pointer (some ⟨w.heap.size, 0, none⟩)) ∧ HeapM w' w.heap.size [] (· = w.heap.size) ∧ Below w.heap.size w w' ∧ w.heap.size < w'.heap.size := by
  go_enter Tryd.func5, Tryd.ntmps5
  go_wp2
  go_ret
  refine ⟨rfl, ⟨.slice none 0 0, [], fun _ => 0, fun _ => .slice none 0 0, fun _ => .map none, heap_alloc_new w _, rfl, World.ownsRow_nil _ _ _ _, (fun b h => by cases h), (fun j h => by cases h)⟩, (Below.refl _ _).alloc (Nat.le_refl _) _, by rw [size_new]; omega⟩
theorem count_any (hb : Nat) (T : List (Int × List PV)) (F : Nat → Prop) (w : World) (hH : HeapM w hb T F) :
    Calls Tryd.prog 12 #[.pointer (some ⟨hb, 0, none⟩)] w fun e w' => e = .returned (.int .i64 (T.length : Int)) ∧ w = w' := by
  obtain ⟨a, c, hc, hm⟩ := hH.len
  unfold maxLen at hm
  clear hH
  go_enter Tryd.func12, Tryd.ntmps12
  go_wp2
  go_ret
  exact ⟨rfl, rfl⟩
end Go.Proofs.YtpejhilfopjckaaDoor.Hp
