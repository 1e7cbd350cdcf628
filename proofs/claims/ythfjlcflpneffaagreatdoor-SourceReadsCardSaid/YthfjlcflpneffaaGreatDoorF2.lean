/-
The document's one and may, in memory: what each answers. No condition.
-/
import Derived.Test.YthfjlcflpneffaaGreatDoorF1
namespace Go.Proofs.YthfjlcflpneffaaGreatDoor
open Go.ChangeShapes Go.WideShapes Go.ChangeAt Go.RowKit
open Dat (PT makeT RepS RepV)

def kindsA : Array Value := #[.int .i64 0, .int .i64 0, .int .i64 0, .int .i64 0, .int .i64 0, .int .i64 0, .int .i64 1, .int .i64 2, .int .i64 3, .int .i64 4]
theorem three_worlds (w : World) (A B D : Obj) : (((w.alloc A).alloc B).alloc D).heap[w.heap.size]? = some A ∧ (((w.alloc A).alloc B).alloc D).heap[w.heap.size + 1]? = some B ∧ (((w.alloc A).alloc B).alloc D).heap[w.heap.size + 1 + 1]? = some D ∧ Below w.heap.size w (((w.alloc A).alloc B).alloc D) := by
  have h0 := heap_alloc_new w A
  have h1 := heap_alloc_new (w.alloc A) B
  have h2 := heap_alloc_new ((w.alloc A).alloc B) D
  rw [size_new] at h1
  rw [size_new, size_new] at h2
  exact ⟨Dat.blk_alloc (Dat.blk_alloc h0), Dat.blk_alloc h1, h2, below3 w A B D⟩
set_option maxRecDepth 100000 in
theorem one_mem (k : Int) (hk : 5 ≤ k ∧ k ≤ 9) (s : ByteArray) (i a b : Int) (w : World) :
    Calls Tryz.prog 24 #[.agg #[.int .i64 k, .string s, .int .i64 i, .int .i64 a, .int .i64 b]] w fun e w' => e = .returned (.agg #[.int .i64 (kindT k), .int .i64 i, .string s, .slice none 0 0]) ∧ Below w.heap.size w w' := by
  obtain ⟨h0, h1, h2, hb⟩ := three_worlds w (.cells #[.int .i64 k, .string s, .int .i64 i, .int .i64 a, .int .i64 b] 52) (.cells #[.int .i64 0, .int .i64 0, .string ⟨#[]⟩, .slice none 0 0] 34) (.cells kindsA 3)
  have HB := Lib.hid hb
  have H1 := Lib.hid h1
  have c0 : (((w.alloc (.cells #[.int .i64 k, .string s, .int .i64 i, .int .i64 a, .int .i64 b] 52)).alloc (.cells #[.int .i64 0, .int .i64 0, .string ⟨#[]⟩, .slice none 0 0] 34)).alloc (.cells kindsA 3)).cell? ⟨w.heap.size, 0, none⟩ = some (.int .i64 k) := by rw [Lib.cell_of_heap h0]; rfl
  have c1 : (((w.alloc (.cells #[.int .i64 k, .string s, .int .i64 i, .int .i64 a, .int .i64 b] 52)).alloc (.cells #[.int .i64 0, .int .i64 0, .string ⟨#[]⟩, .slice none 0 0] 34)).alloc (.cells kindsA 3)).cell? ⟨w.heap.size, 1, none⟩ = some (.string s) := by rw [Lib.cell_of_heap h0]; rfl
  have c2 : (((w.alloc (.cells #[.int .i64 k, .string s, .int .i64 i, .int .i64 a, .int .i64 b] 52)).alloc (.cells #[.int .i64 0, .int .i64 0, .string ⟨#[]⟩, .slice none 0 0] 34)).alloc (.cells kindsA 3)).cell? ⟨w.heap.size, 2, none⟩ = some (.int .i64 i) := by rw [Lib.cell_of_heap h0]; rfl
  have hK : kindsA[k.toNat]? = some (.int .i64 (kindT k)) := by
    rcases (show k = 5 ∨ k = 6 ∨ k = 7 ∨ k = 8 ∨ k = 9 by omega) with rfl | rfl | rfl | rfl | rfl <;> rfl
  have c3 : (((w.alloc (.cells #[.int .i64 k, .string s, .int .i64 i, .int .i64 a, .int .i64 b] 52)).alloc (.cells #[.int .i64 0, .int .i64 0, .string ⟨#[]⟩, .slice none 0 0] 34)).alloc (.cells kindsA 3)).cell? ⟨w.heap.size + 1 + 1, k.toNat, none⟩ = some (.int .i64 (kindT k)) := by rw [Lib.cell_of_heap h2]; exact hK
  unfold kindsA at c0 c1 c2 c3 HB H1
  have r1 : 0 ≤ k := by omega
  have r2 : k < 10 := by omega
  clear h0 h1 h2 hb hK hk
  generalize kindT k = kk at c3 ⊢
  go_enter Tryz.func24, Tryz.ntmps24
  go_wp2
  generalize (((w.alloc (.cells #[.int .i64 k, .string s, .int .i64 i, .int .i64 a, .int .i64 b] 52)).alloc (.cells #[.int .i64 0, .int .i64 0, .string ⟨#[]⟩, .slice none 0 0] 34)).alloc (.cells #[.int .i64 0, .int .i64 0, .int .i64 0, .int .i64 0, .int .i64 0, .int .i64 0, .int .i64 1, .int .i64 2, .int .i64 3, .int .i64 4] 3)) = w1 at c0 c1 c2 c3 HB H1 ⊢
  go_still_tail 10, (by kernel_rfl)
  change wpList _ _ _ _ _ w1.drew
  have hd := H1.out
  change w1.drew.heap[w.heap.size + 1]? = _ at hd
  have HB1 := Lib.hid HB.out.drew
  generalize w1.drew = w2 at hd HB1 ⊢
  have HD := Lib.hid hd
  have d0 : w2.cell? ⟨w.heap.size + 1, 0, none⟩ = some (.int .i64 0) := by rw [Lib.cell_of_heap hd]; rfl
  have d1 : w2.cell? ⟨w.heap.size + 1, 1, none⟩ = some (.int .i64 0) := by rw [Lib.cell_of_heap hd]; rfl
  have d2 : w2.cell? ⟨w.heap.size + 1, 2, none⟩ = some (.string ⟨#[]⟩) := by rw [Lib.cell_of_heap hd]; rfl
  have d3 : w2.cell? ⟨w.heap.size + 1, 3, none⟩ = some (.slice none 0 0) := by rw [Lib.cell_of_heap hd]; rfl
  have f0 := Lib.frozen_of_heap hd 0
  have f1 := Lib.frozen_of_heap hd 1
  have f2 := Lib.frozen_of_heap hd 2
  have f3 := Lib.frozen_of_heap hd 3
  clear hd c0 c1 c2 c3
  go_wp2
  have hrow := Dat.row_set4 HD.out (.int .i64 kk) (.int .i64 i) (.string s) (.slice none 0 0)
  have hle : w.heap.size ≤ w.heap.size + 1 := Nat.le_succ _
  have hbe := (((HB1.out.setCell (p := ⟨w.heap.size + 1, 0, none⟩) hle (.int .i64 kk)).setCell (p := ⟨w.heap.size + 1, 1, none⟩) hle (.int .i64 i)).setCell (p := ⟨w.heap.size + 1, 2, none⟩) hle (.string s)).setCell (p := ⟨w.heap.size + 1, 3, none⟩) hle (.slice none 0 0)
  exact bodyPost_ret (results_cell_row (P := Tryz.prog) rfl _ _ (w.heap.size + 1) 34 _ (0, 0) _ rfl hrow Tryz.underlying34 rfl (by kernel_rfl)) rfl ⟨rfl, hbe⟩
theorem may_lit : mayM [] 0 = 0 ∧ mayM [] 1 = 40 ∧ mayM [] 2 = 0 ∧ mayM [] 3 = 0 ∧ mayM [] 4 = 42 := by
  simp [mayM, topM, fullB]
theorem may_big (k : Int) (hk : 5 ≤ k) (st : List Op) : mayM st k = if fullB (topM st) = true then 42 else 0 := by
  unfold mayM
  rw [if_neg (by omega), if_neg (by omega)]
  split
  · rfl
  · rw [if_neg (by omega)]
set_option maxRecDepth 100000 in
theorem may_none (cap : Nat) (g : Nat) (k : Int) (hk : 0 ≤ k ∧ k ≤ 9) (s : ByteArray) (i a b : Int) (w : World) :
    Calls Tryz.prog 22 #[.slice (some ⟨g, 0, none⟩) 0 cap, .agg #[.int .i64 k, .string s, .int .i64 i, .int .i64 a, .int .i64 b]] w fun e w' => e = .returned (.int .i64 (mayM [] k)) ∧ Below w.heap.size w w' := by
  have HB := Lib.hid (fun (x y : Obj) => ((Below.refl w.heap.size w).alloc (Nat.le_refl _) x).alloc (by rw [size_new]; omega) y)
  obtain ⟨m0, m1, m2, m3, m4⟩ := may_lit
  by_cases h5 : 5 ≤ k
  · have hm : mayM [] k = 0 := by rw [may_big k h5]; rfl
    rw [hm]
    have b0 : (k == 0) = false := by simp; omega
    have b1 : (k == 1) = false := by simp; omega
    have b2 : (k == 2) = false := by simp; omega
    have b3 : (k == 3) = false := by simp; omega
    have b4 : (k == 4) = false := by simp; omega
    clear hk h5 hm m0 m1 m2 m3 m4
    go_enter Tryz.func22, Tryz.ntmps22
    go_wp2
    all_goals
      go_ret
      exact ⟨rfl, HB.out _ _⟩
  · rcases (show k = 0 ∨ k = 1 ∨ k = 2 ∨ k = 3 ∨ k = 4 by omega) with rfl | rfl | rfl | rfl | rfl
    all_goals
      clear hk h5
      first | rw [m0] | rw [m1] | rw [m2] | rw [m3] | rw [m4]
      clear m0 m1 m2 m3 m4
      go_enter Tryz.func22, Tryz.ntmps22
      go_wp2
      all_goals
        go_ret
        exact ⟨rfl, HB.out _ _⟩
end Go.Proofs.YthfjlcflpneffaaGreatDoor
