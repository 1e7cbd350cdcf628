/-
Package heap's Tell of values that are no things, and of pairs of such. No condition but that the heap lies in memory.
-/
import Derived.Test.YtlolkhnaaelelaaDoorQ8
namespace Go.Proofs.YtlolkhnaaelelaaDoor.Hp
open Go.ChangeShapes Go.WideShapes Go.ChangeAt Go.RowKit Go.Deep
open Dat (PT ok64 RepV RepS RowX infoDatum NewV NewS makeT make_any MakeOk numT numsT)
set_option maxRecDepth 100000

def symT (l : List UInt8) : PT := .mk 4 0 ⟨l.toArray⟩ []
/-- What a value shows that is no thing. -/
def shownT (v : PV) : PT :=
  if v.k = 0 ∨ v.k = 1 ∨ v.k = 2 then .mk v.k v.i ⟨#[]⟩ [] else if v.k = 3 then .mk 4 0 v.s [] else if v.k = 4 then .mk 5 0 ⟨#[]⟩ []
  else if v.k = 5 then symT [118, 111, 105, 100] else if v.k = 6 then symT [101, 111, 102] else symT [117, 110, 115, 101, 116]
theorem res_d {fn : Func} {p : Tmp} (h : fn.results = #[.cell p 50]) (tmps : Array Value) (w : World) (g : Nat) (a b c d : Value)
    (hp : tmps.getD p undef = .pointer (some ⟨g, 0, none⟩)) (hg : w.heap[g]? = some (.cells #[a, b, c, d] 50 (0, 0))) : (results fn tmps).run Tryd.prog w = .ok (.agg #[a, b, c, d]) w :=
  results_cell_row (P := Tryd.prog) h tmps w g 50 _ (0, 0) _ hp hg Tryd.underlying50 rfl (by kernel_rfl)
theorem res_db {fn : Func} {t p : Tmp} (h : fn.results = #[.cell p 50, .tmp t]) (tmps : Array Value) (w : World) (g : Nat) (a b c d : Value)
    (hp : tmps.getD p undef = .pointer (some ⟨g, 0, none⟩)) (hg : w.heap[g]? = some (.cells #[a, b, c, d] 50 (0, 0))) : (results fn tmps).run Tryd.prog w = .ok (.tuple #[.agg #[a, b, c, d], tmps.getD t undef]) w := by
  have hp' : tmps[p]?.getD undef = .pointer (some ⟨g, 0, none⟩) := by simpa using hp
  have hi : (Tryd.prog.info? 50).map (·.size) = some (#[a, b, c, d] : Array Value).size := by kernel_rfl
  simp [results, h, hp', asAddr, run_loadVar_row w g 50 50 #[a, b, c, d] (0, 0) _ hg Tryd.underlying50 rfl hi]
theorem look4 {W : World} {g : Nat} {t : TypeId} {x0 x1 x2 x3 : Value} (hb : W.heap[g]? = some (.cells #[x0, x1, x2, x3] t (0, 0))) :
    (W.cell? ⟨g, 0, none⟩ = some x0 ∧ W.cell? ⟨g, 1, none⟩ = some x1 ∧ W.cell? ⟨g, 2, none⟩ = some x2 ∧ W.cell? ⟨g, 3, none⟩ = some x3) ∧ (W.frozen? ⟨g, 0, none⟩ = false ∧ W.frozen? ⟨g, 1, none⟩ = false ∧ W.frozen? ⟨g, 2, none⟩ = false ∧ W.frozen? ⟨g, 3, none⟩ = false) := by
  refine ⟨⟨?_, ?_, ?_, ?_⟩, ?_, ?_, ?_, ?_⟩
  all_goals first | (rw [Lib.cell_of_heap hb]; rfl) | (simp [World.frozen?, hb])
theorem put4 {W : World} {g : Nat} {t : TypeId} {x0 x1 x2 x3 : Value} (hb : W.heap[g]? = some (.cells #[x0, x1, x2, x3] t (0, 0))) (y0 y1 y2 y3 : Value) :
    ((((W.setCell ⟨g, 0, none⟩ y0).setCell ⟨g, 1, none⟩ y1).setCell ⟨g, 2, none⟩ y2).setCell ⟨g, 3, none⟩ y3).heap[g]? = some (.cells #[y0, y1, y2, y3] t (0, 0)) :=
  heap_setCell_same _ g 3 _ t y3 (put3' hb y0 y1 y2)
where put3' {W : World} {g : Nat} {t : TypeId} {x0 x1 x2 x3 : Value} (hb : W.heap[g]? = some (.cells #[x0, x1, x2, x3] t (0, 0))) (y0 y1 y2 : Value) :
    (((W.setCell ⟨g, 0, none⟩ y0).setCell ⟨g, 1, none⟩ y1).setCell ⟨g, 2, none⟩ y2).heap[g]? = some (.cells #[y0, y1, y2, x3] t (0, 0)) :=
  heap_setCell_same _ g 2 _ t y2 (heap_setCell_same _ g 1 _ t y1 (heap_setCell_same W g 0 _ t y0 hb))
theorem put4_below {C : Nat} {a W : World} (h : Below C a W) {g : Nat} (hg : C ≤ g) (y0 y1 y2 y3 : Value) : Below C a ((((W.setCell ⟨g, 0, none⟩ y0).setCell ⟨g, 1, none⟩ y1).setCell ⟨g, 2, none⟩ y2).setCell ⟨g, 3, none⟩ y3) :=
  (put3_below h hg y0 y1 y2).setCell (p := ⟨g, 3, none⟩) hg _
theorem put4_other {W : World} {g : Nat} (y0 y1 y2 y3 : Value) {b : Nat} (h : b ≠ g) : ((((W.setCell ⟨g, 0, none⟩ y0).setCell ⟨g, 1, none⟩ y1).setCell ⟨g, 2, none⟩ y2).setCell ⟨g, 3, none⟩ y3).heap[b]? = W.heap[b]? := by
  rw [Below.heap_setCell _ _ _ _ h, put3_other _ _ _ h]
theorem symbol_any (s : ByteArray) (w : World) :
    Calls Tryd.prog 67 #[.string s] w fun e w' => e = .returned (.agg #[.int .i64 4, .int .i64 0, .string s, .slice none 0 0]) ∧ Below w.heap.size w w' := by
  go_enter Tryd.func67, Tryd.ntmps67
  go_wp2
  exact bodyPost_ret (res_d rfl _ _ w.heap.size _ _ _ _ rfl (heap_alloc_new w _)) rfl ⟨rfl, (Below.refl _ _).alloc (Nat.le_refl _) _⟩
set_option maxHeartbeats 1000000 in
theorem shown_any (k i : Int) (s : ByteArray) (h0 : 0 ≤ k) (h7 : k ≤ 7) (w : World) :
    Calls Tryd.prog 63 #[.agg #[.int .i64 k, .int .i64 i, .string s]] w fun e w' => e = .returned ((shownT ⟨k, i, s⟩).val (.slice none 0 0)) ∧ Below w.heap.size w w' := by
  have Z1 := Lib.hid (two_new w (.cells #[.int .i64 k, .int .i64 i, .string s] 36) (.cells #[.int .i64 0, .int .i64 0, .string ⟨#[]⟩, .slice none 0 0] 50))
  have KS := Lib.hid (fun s W => symbol_any s W)
  have h8 : k = 0 ∨ k = 1 ∨ k = 2 ∨ k = 3 ∨ k = 4 ∨ k = 5 ∨ k = 6 ∨ k = 7 := by omega
  rcases h8 with rfl | rfl | rfl | rfl | rfl | rfl | rfl | rfl
  · go_enter Tryd.func63, Tryd.ntmps63
    go_wp2
    exact bodyPost_ret (res_d rfl _ _ (w.heap.size + 1) _ _ _ _ rfl (two_new w _ _).2.1) rfl ⟨rfl, (two_new w _ _).2.2⟩
  · go_enter Tryd.func63, Tryd.ntmps63
    go_wp2
    exact bodyPost_ret (res_d rfl _ _ (w.heap.size + 1) _ _ _ _ rfl (two_new w _ _).2.1) rfl ⟨rfl, (two_new w _ _).2.2⟩
  · go_enter Tryd.func63, Tryd.ntmps63
    go_wp2
    exact bodyPost_ret (res_d rfl _ _ (w.heap.size + 1) _ _ _ _ rfl (two_new w _ _).2.1) rfl ⟨rfl, (two_new w _ _).2.2⟩
  · go_enter Tryd.func63, Tryd.ntmps63
    go_wp2_with fail
    refine (KS.out _ _).mono ?_
    rintro e w2 ⟨rfl, hb2⟩
    have E2 := (hb2.block (w.heap.size + 1) (by rw [size_new, size_new]; omega)).trans Z1.out.2.1
    obtain ⟨⟨y0, y1, y2, y3⟩, f0, f1, f2, f3⟩ := look4 E2
    have HE := put4 E2 (.int .i64 4) (.int .i64 0) (.string s) (.slice none 0 0)
    have HB := put4_below (Z1.out.2.2.trans (hb2.mono Z1.out.2.2.size)) (Nat.le_succ _) (.int .i64 4) (.int .i64 0) (.string s) (.slice none 0 0)
    replace HE := Lib.hid HE
    replace HB := Lib.hid HB
    clear hb2 E2
    go_wp2
    have hE := HE.out
    have hB := HB.out
    clear HE HB
    generalize (((w2.setCell ⟨w.heap.size + 1, 0, none⟩ (.int .i64 4)).setCell ⟨w.heap.size + 1, 1, none⟩ (.int .i64 0)).setCell ⟨w.heap.size + 1, 2, none⟩ (.string s)).setCell ⟨w.heap.size + 1, 3, none⟩ (.slice none 0 0) = W at hE hB ⊢
    exact bodyPost_ret (res_d rfl _ _ (w.heap.size + 1) _ _ _ _ rfl hE) rfl ⟨rfl, hB⟩
  · go_enter Tryd.func63, Tryd.ntmps63
    go_wp2
    exact bodyPost_ret (res_d rfl _ _ (w.heap.size + 1) _ _ _ _ rfl (two_new w _ _).2.1) rfl ⟨rfl, (two_new w _ _).2.2⟩
  · go_enter Tryd.func63, Tryd.ntmps63
    go_wp2_with fail
    refine (KS.out _ _).mono ?_
    rintro e w2 ⟨rfl, hb2⟩
    have E2 := (hb2.block (w.heap.size + 1) (by rw [size_new, size_new]; omega)).trans Z1.out.2.1
    obtain ⟨⟨y0, y1, y2, y3⟩, f0, f1, f2, f3⟩ := look4 E2
    have HE := put4 E2 (.int .i64 4) (.int .i64 0) (.string ⟨#[118, 111, 105, 100]⟩) (.slice none 0 0)
    have HB := put4_below (Z1.out.2.2.trans (hb2.mono Z1.out.2.2.size)) (Nat.le_succ _) (.int .i64 4) (.int .i64 0) (.string ⟨#[118, 111, 105, 100]⟩) (.slice none 0 0)
    replace HE := Lib.hid HE
    replace HB := Lib.hid HB
    clear hb2 E2
    go_wp2
    have hE := HE.out
    have hB := HB.out
    clear HE HB
    generalize (((w2.setCell ⟨w.heap.size + 1, 0, none⟩ (.int .i64 4)).setCell ⟨w.heap.size + 1, 1, none⟩ (.int .i64 0)).setCell ⟨w.heap.size + 1, 2, none⟩ (.string ⟨#[118, 111, 105, 100]⟩)).setCell ⟨w.heap.size + 1, 3, none⟩ (.slice none 0 0) = W at hE hB ⊢
    exact bodyPost_ret (res_d rfl _ _ (w.heap.size + 1) _ _ _ _ rfl hE) rfl ⟨rfl, hB⟩
  · go_enter Tryd.func63, Tryd.ntmps63
    go_wp2_with fail
    refine (KS.out _ _).mono ?_
    rintro e w2 ⟨rfl, hb2⟩
    have E2 := (hb2.block (w.heap.size + 1) (by rw [size_new, size_new]; omega)).trans Z1.out.2.1
    obtain ⟨⟨y0, y1, y2, y3⟩, f0, f1, f2, f3⟩ := look4 E2
    have HE := put4 E2 (.int .i64 4) (.int .i64 0) (.string ⟨#[101, 111, 102]⟩) (.slice none 0 0)
    have HB := put4_below (Z1.out.2.2.trans (hb2.mono Z1.out.2.2.size)) (Nat.le_succ _) (.int .i64 4) (.int .i64 0) (.string ⟨#[101, 111, 102]⟩) (.slice none 0 0)
    replace HE := Lib.hid HE
    replace HB := Lib.hid HB
    clear hb2 E2
    go_wp2
    have hE := HE.out
    have hB := HB.out
    clear HE HB
    generalize (((w2.setCell ⟨w.heap.size + 1, 0, none⟩ (.int .i64 4)).setCell ⟨w.heap.size + 1, 1, none⟩ (.int .i64 0)).setCell ⟨w.heap.size + 1, 2, none⟩ (.string ⟨#[101, 111, 102]⟩)).setCell ⟨w.heap.size + 1, 3, none⟩ (.slice none 0 0) = W at hE hB ⊢
    exact bodyPost_ret (res_d rfl _ _ (w.heap.size + 1) _ _ _ _ rfl hE) rfl ⟨rfl, hB⟩
  · go_enter Tryd.func63, Tryd.ntmps63
    go_wp2_with fail
    refine (KS.out _ _).mono ?_
    rintro e w2 ⟨rfl, hb2⟩
    have E2 := (hb2.block (w.heap.size + 1) (by rw [size_new, size_new]; omega)).trans Z1.out.2.1
    obtain ⟨⟨y0, y1, y2, y3⟩, f0, f1, f2, f3⟩ := look4 E2
    have HE := put4 E2 (.int .i64 4) (.int .i64 0) (.string ⟨#[117, 110, 115, 101, 116]⟩) (.slice none 0 0)
    have HB := put4_below (Z1.out.2.2.trans (hb2.mono Z1.out.2.2.size)) (Nat.le_succ _) (.int .i64 4) (.int .i64 0) (.string ⟨#[117, 110, 115, 101, 116]⟩) (.slice none 0 0)
    replace HE := Lib.hid HE
    replace HB := Lib.hid HB
    clear hb2 E2
    go_wp2
    have hE := HE.out
    have hB := HB.out
    clear HE HB
    generalize (((w2.setCell ⟨w.heap.size + 1, 0, none⟩ (.int .i64 4)).setCell ⟨w.heap.size + 1, 1, none⟩ (.int .i64 0)).setCell ⟨w.heap.size + 1, 2, none⟩ (.string ⟨#[117, 110, 115, 101, 116]⟩)).setCell ⟨w.heap.size + 1, 3, none⟩ (.slice none 0 0) = W at hE hB ⊢
    exact bodyPost_ret (res_d rfl _ _ (w.heap.size + 1) _ _ _ _ rfl hE) rfl ⟨rfl, hB⟩
end Go.Proofs.YtlolkhnaaelelaaDoor.Hp
