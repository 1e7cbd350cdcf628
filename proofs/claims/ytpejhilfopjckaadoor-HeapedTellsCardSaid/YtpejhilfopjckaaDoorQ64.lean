/-
The document's table of primitives. No condition.
-/
import Derived.Test.YtpejhilfopjckaaDoorQ63
namespace Go.Proofs.YtpejhilfopjckaaDoor.Hp
open Go.ChangeShapes Go.WideShapes Go.ChangeAt Go.RowKit Go.Deep
open Dat (PT ok64 RepV RepS RowX infoDatum)
set_option maxRecDepth 100000

/-- The table: a primitive's name, and what its arguments must be. -/
def rowsP : List (ByteArray × List Int) := [(⟨#[43]⟩, [1, 1]), (⟨#[45]⟩, [1, 1]), (⟨#[42]⟩, [1, 1]), (⟨#[113, 117, 111, 116, 105, 101, 110, 116]⟩, [1, 1]), (⟨#[114, 101, 109, 97, 105, 110, 100, 101, 114]⟩, [1, 1]), (⟨#[60]⟩, [1, 1]), (⟨#[61]⟩, [1, 1]), (⟨#[101, 113, 63]⟩, [-1, -1]), (⟨#[110, 117, 108, 108, 63]⟩, [-1]), (⟨#[115, 121, 109, 98, 111, 108, 63]⟩, [-1]), (⟨#[99, 104, 97, 114, 63]⟩, [-1]), (⟨#[105, 110, 116, 101, 103, 101, 114, 63]⟩, [-1]), (⟨#[98, 111, 111, 108, 101, 97, 110, 63]⟩, [-1]), (⟨#[101, 111, 102, 45, 111, 98, 106, 101, 99, 116, 63]⟩, [-1]), (⟨#[112, 97, 105, 114, 63]⟩, [-1]), (⟨#[118, 101, 99, 116, 111, 114, 63]⟩, [-1]), (⟨#[115, 116, 114, 105, 110, 103, 63]⟩, [-1]), (⟨#[112, 114, 111, 99, 101, 100, 117, 114, 101, 63]⟩, [-1]), (⟨#[99, 111, 110, 115]⟩, [-1, -1]), (⟨#[99, 97, 114]⟩, [10]), (⟨#[99, 100, 114]⟩, [10]), (⟨#[115, 101, 116, 45, 99, 97, 114, 33]⟩, [10, -1]), (⟨#[115, 101, 116, 45, 99, 100, 114, 33]⟩, [10, -1]), (⟨#[109, 97, 107, 101, 45, 118, 101, 99, 116, 111, 114]⟩, [1, -1]), (⟨#[109, 97, 107, 101, 45, 115, 116, 114, 105, 110, 103]⟩, [1, 2]), (⟨#[118, 101, 99, 116, 111, 114, 45, 108, 101, 110, 103, 116, 104]⟩, [11]), (⟨#[115, 116, 114, 105, 110, 103, 45, 108, 101, 110, 103, 116, 104]⟩, [12]), (⟨#[118, 101, 99, 116, 111, 114, 45, 114, 101, 102]⟩, [11, 1]), (⟨#[115, 116, 114, 105, 110, 103, 45, 114, 101, 102]⟩, [12, 1]), (⟨#[118, 101, 99, 116, 111, 114, 45, 115, 101, 116, 33]⟩, [11, 1, -1]), (⟨#[115, 116, 114, 105, 110, 103, 45, 115, 101, 116, 33]⟩, [12, 1, 2]), (⟨#[99, 104, 97, 114, 45, 62, 105, 110, 116, 101, 103, 101, 114]⟩, [2]), (⟨#[105, 110, 116, 101, 103, 101, 114, 45, 62, 99, 104, 97, 114]⟩, [1]), (⟨#[37, 98, 111, 120]⟩, [-1]), (⟨#[37, 117, 110, 98, 111, 120]⟩, [13]), (⟨#[37, 115, 101, 116, 45, 98, 111, 120, 33]⟩, [13, -1]), (⟨#[118, 111, 105, 100]⟩, []), (⟨#[37, 117, 110, 115, 101, 116]⟩, [])]
/-- A row of the table lies at place j of block b. -/
def RowAt (w : World) (b j : Nat) (r : ByteArray × List Int) : Prop :=
  w.cell? ⟨b, j * 2, none⟩ = some (.string r.1) ∧ ∃ a, w.cell? ⟨b, j * 2 + 1, none⟩ = some (.slice a r.2.length r.2.length) ∧ (r.2 = [] ∨ ∃ g, a = some ⟨g, 0, none⟩ ∧ ∀ k (h : k < r.2.length), w.cell? ⟨g, k, none⟩ = some (.int .i64 r.2[k]))
theorem RowAt.below {w w' : World} {b j : Nat} {r : ByteArray × List Int} (h : RowAt w b j r) (hb : Below w.heap.size w w') : RowAt w' b j r := by
  have cl : ∀ {b j : Nat} {x : Value}, w.cell? ⟨b, j, none⟩ = some x → w'.cell? ⟨b, j, none⟩ = some x := fun {b j x} hx => (hb.cell (p := ⟨b, j, none⟩) (World.block_lt_of_cell? _ _ hx)).trans hx
  obtain ⟨h1, a, h2, h3⟩ := h
  exact ⟨cl h1, a, cl h2, h3.imp id fun ⟨g, e, h⟩ => ⟨g, e, fun k hk => cl (h k hk)⟩⟩
/-- The table lies in block b. -/
def TabAt (w : World) (b : Nat) : Prop := ∀ j (h : j < rowsP.length), RowAt w b j rowsP[j]
theorem TabAt.below {w w' : World} {b : Nat} (h : TabAt w b) (hb : Below w.heap.size w w') : TabAt w' b := fun j hj => (h j hj).below hb
theorem allocs_get : ∀ (os : List Obj) (w : World) (i : Nat), i < os.length → (os.foldl World.alloc w).heap[w.heap.size + i]? = os[i]?
  | o :: os, w, 0, _ => by
    have hb : ∀ (os : List Obj) (W : World), Below W.heap.size W (os.foldl World.alloc W) := fun os => by
      induction os with
      | nil => exact fun W => Below.refl _ _
      | cons o os ih => exact fun W => ((Below.refl W.heap.size W).alloc (Nat.le_refl _) o).trans ((ih (W.alloc o)).mono (by rw [size_new]; omega))
    show (os.foldl World.alloc (w.alloc o)).heap[w.heap.size]? = some o
    rw [(hb os (w.alloc o)).block w.heap.size (by rw [size_new]; omega)]
    exact heap_alloc_new w o
  | o :: os, w, i + 1, h => by
    have := allocs_get os (w.alloc o) i (by simpa using h)
    rw [size_new] at this
    rw [show w.heap.size + (i + 1) = w.heap.size + 1 + i by omega]
    simpa using this
theorem allocs_below (os : List Obj) : ∀ W : World, Below W.heap.size W (os.foldl World.alloc W) := by
  induction os with
  | nil => exact fun W => Below.refl _ _
  | cons o os ih => exact fun W => ((Below.refl W.heap.size W).alloc (Nat.le_refl _) o).trans ((ih (W.alloc o)).mono (by rw [size_new]; omega))
theorem row_mk {w : World} {b j gb n : Nat} {cur : Array Value} {s : ByteArray} {l : List Int} {cs : Array Value} (hb : w.heap[b]? = some (.cells cur 74 (0, 0))) (h0 : cur[j * 2]? = some (.string s)) (h1 : cur[j * 2 + 1]? = some (.slice (some ⟨gb, 0, none⟩) n n)) (hn : n = l.length)
    (hg : w.heap[gb]? = some (.cells cs 3 (0, 0))) (hc : cs = (l.map (Value.int .i64)).toArray) : RowAt w b j (s, l) := by
  subst hn hc
  refine ⟨by rw [Lib.cell_of_heap hb]; exact h0, _, by rw [Lib.cell_of_heap hb]; exact h1, .inr ⟨gb, rfl, fun k hk => ?_⟩⟩
  rw [Lib.cell_of_heap hg]
  simp [hk]
theorem row_none {w : World} {b j : Nat} {cur : Array Value} {s : ByteArray} (hb : w.heap[b]? = some (.cells cur 74 (0, 0))) (h0 : cur[j * 2]? = some (.string s)) (h1 : cur[j * 2 + 1]? = some (.slice none 0 0)) : RowAt w b j (s, []) :=
  ⟨by rw [Lib.cell_of_heap hb]; exact h0, none, by rw [Lib.cell_of_heap hb]; exact h1, .inl rfl⟩
/-- What the making of the table lays. -/
def rowObjs (w : World) : List Obj := [.cells #[.int .i64 1, .int .i64 1] 3, .cells #[.int .i64 1, .int .i64 1] 3, .cells #[.int .i64 1, .int .i64 1] 3, .cells #[.int .i64 1, .int .i64 1] 3, .cells #[.int .i64 1, .int .i64 1] 3, .cells #[.int .i64 1, .int .i64 1] 3, .cells #[.int .i64 1, .int .i64 1] 3, .cells #[.int .i64 (-1), .int .i64 (-1)] 3, .cells #[.int .i64 (-1)] 3, .cells #[.int .i64 (-1)] 3, .cells #[.int .i64 (-1)] 3, .cells #[.int .i64 (-1)] 3, .cells #[.int .i64 (-1)] 3, .cells #[.int .i64 (-1)] 3, .cells #[.int .i64 (-1)] 3, .cells #[.int .i64 (-1)] 3, .cells #[.int .i64 (-1)] 3, .cells #[.int .i64 (-1)] 3, .cells #[.int .i64 (-1), .int .i64 (-1)] 3, .cells #[.int .i64 10] 3, .cells #[.int .i64 10] 3, .cells #[.int .i64 10, .int .i64 (-1)] 3, .cells #[.int .i64 10, .int .i64 (-1)] 3, .cells #[.int .i64 1, .int .i64 (-1)] 3, .cells #[.int .i64 1, .int .i64 2] 3, .cells #[.int .i64 11] 3, .cells #[.int .i64 12] 3, .cells #[.int .i64 11, .int .i64 1] 3, .cells #[.int .i64 12, .int .i64 1] 3, .cells #[.int .i64 11, .int .i64 1, .int .i64 (-1)] 3, .cells #[.int .i64 12, .int .i64 1, .int .i64 2] 3, .cells #[.int .i64 2] 3, .cells #[.int .i64 1] 3, .cells #[.int .i64 (-1)] 3, .cells #[.int .i64 13] 3, .cells #[.int .i64 13, .int .i64 (-1)] 3,
  .cells #[.string ⟨#[43]⟩, .slice (some ⟨w.heap.size + 0, 0, none⟩) 2 2, .string ⟨#[45]⟩, .slice (some ⟨w.heap.size + 1, 0, none⟩) 2 2, .string ⟨#[42]⟩, .slice (some ⟨w.heap.size + 2, 0, none⟩) 2 2, .string ⟨#[113, 117, 111, 116, 105, 101, 110, 116]⟩, .slice (some ⟨w.heap.size + 3, 0, none⟩) 2 2, .string ⟨#[114, 101, 109, 97, 105, 110, 100, 101, 114]⟩, .slice (some ⟨w.heap.size + 4, 0, none⟩) 2 2, .string ⟨#[60]⟩, .slice (some ⟨w.heap.size + 5, 0, none⟩) 2 2, .string ⟨#[61]⟩, .slice (some ⟨w.heap.size + 6, 0, none⟩) 2 2, .string ⟨#[101, 113, 63]⟩, .slice (some ⟨w.heap.size + 7, 0, none⟩) 2 2, .string ⟨#[110, 117, 108, 108, 63]⟩, .slice (some ⟨w.heap.size + 8, 0, none⟩) 1 1, .string ⟨#[115, 121, 109, 98, 111, 108, 63]⟩, .slice (some ⟨w.heap.size + 9, 0, none⟩) 1 1, .string ⟨#[99, 104, 97, 114, 63]⟩, .slice (some ⟨w.heap.size + 10, 0, none⟩) 1 1, .string ⟨#[105, 110, 116, 101, 103, 101, 114, 63]⟩, .slice (some ⟨w.heap.size + 11, 0, none⟩) 1 1, .string ⟨#[98, 111, 111, 108, 101, 97, 110, 63]⟩, .slice (some ⟨w.heap.size + 12, 0, none⟩) 1 1, .string ⟨#[101, 111, 102, 45, 111, 98, 106, 101, 99, 116, 63]⟩, .slice (some ⟨w.heap.size + 13, 0, none⟩) 1 1, .string ⟨#[112, 97, 105, 114, 63]⟩, .slice (some ⟨w.heap.size + 14, 0, none⟩) 1 1, .string ⟨#[118, 101, 99, 116, 111, 114, 63]⟩, .slice (some ⟨w.heap.size + 15, 0, none⟩) 1 1, .string ⟨#[115, 116, 114, 105, 110, 103, 63]⟩, .slice (some ⟨w.heap.size + 16, 0, none⟩) 1 1, .string ⟨#[112, 114, 111, 99, 101, 100, 117, 114, 101, 63]⟩, .slice (some ⟨w.heap.size + 17, 0, none⟩) 1 1, .string ⟨#[99, 111, 110, 115]⟩, .slice (some ⟨w.heap.size + 18, 0, none⟩) 2 2, .string ⟨#[99, 97, 114]⟩, .slice (some ⟨w.heap.size + 19, 0, none⟩) 1 1, .string ⟨#[99, 100, 114]⟩, .slice (some ⟨w.heap.size + 20, 0, none⟩) 1 1, .string ⟨#[115, 101, 116, 45, 99, 97, 114, 33]⟩, .slice (some ⟨w.heap.size + 21, 0, none⟩) 2 2, .string ⟨#[115, 101, 116, 45, 99, 100, 114, 33]⟩, .slice (some ⟨w.heap.size + 22, 0, none⟩) 2 2, .string ⟨#[109, 97, 107, 101, 45, 118, 101, 99, 116, 111, 114]⟩, .slice (some ⟨w.heap.size + 23, 0, none⟩) 2 2, .string ⟨#[109, 97, 107, 101, 45, 115, 116, 114, 105, 110, 103]⟩, .slice (some ⟨w.heap.size + 24, 0, none⟩) 2 2, .string ⟨#[118, 101, 99, 116, 111, 114, 45, 108, 101, 110, 103, 116, 104]⟩, .slice (some ⟨w.heap.size + 25, 0, none⟩) 1 1, .string ⟨#[115, 116, 114, 105, 110, 103, 45, 108, 101, 110, 103, 116, 104]⟩, .slice (some ⟨w.heap.size + 26, 0, none⟩) 1 1, .string ⟨#[118, 101, 99, 116, 111, 114, 45, 114, 101, 102]⟩, .slice (some ⟨w.heap.size + 27, 0, none⟩) 2 2, .string ⟨#[115, 116, 114, 105, 110, 103, 45, 114, 101, 102]⟩, .slice (some ⟨w.heap.size + 28, 0, none⟩) 2 2, .string ⟨#[118, 101, 99, 116, 111, 114, 45, 115, 101, 116, 33]⟩, .slice (some ⟨w.heap.size + 29, 0, none⟩) 3 3, .string ⟨#[115, 116, 114, 105, 110, 103, 45, 115, 101, 116, 33]⟩, .slice (some ⟨w.heap.size + 30, 0, none⟩) 3 3, .string ⟨#[99, 104, 97, 114, 45, 62, 105, 110, 116, 101, 103, 101, 114]⟩, .slice (some ⟨w.heap.size + 31, 0, none⟩) 1 1, .string ⟨#[105, 110, 116, 101, 103, 101, 114, 45, 62, 99, 104, 97, 114]⟩, .slice (some ⟨w.heap.size + 32, 0, none⟩) 1 1, .string ⟨#[37, 98, 111, 120]⟩, .slice (some ⟨w.heap.size + 33, 0, none⟩) 1 1, .string ⟨#[37, 117, 110, 98, 111, 120]⟩, .slice (some ⟨w.heap.size + 34, 0, none⟩) 1 1, .string ⟨#[37, 115, 101, 116, 45, 98, 111, 120, 33]⟩, .slice (some ⟨w.heap.size + 35, 0, none⟩) 2 2, .string ⟨#[118, 111, 105, 100]⟩, .slice none 0 0, .string ⟨#[37, 117, 110, 115, 101, 116]⟩, .slice none 0 0] 74]
theorem rows_laid (w : World) : TabAt ((rowObjs w).foldl World.alloc w) (w.heap.size + 36) := by
  have hg : ∀ i, i < 37 → ((rowObjs w).foldl World.alloc w).heap[w.heap.size + i]? = (rowObjs w)[i]? := fun i hi => allocs_get (rowObjs w) w i hi
  have hb := hg 36 (by decide)
  generalize (rowObjs w).foldl World.alloc w = W at *
  intro j hj
  match j, hj with
  | 0, _ => exact row_mk hb rfl rfl rfl (hg 0 (by decide)) rfl
  | 1, _ => exact row_mk hb rfl rfl rfl (hg 1 (by decide)) rfl
  | 2, _ => exact row_mk hb rfl rfl rfl (hg 2 (by decide)) rfl
  | 3, _ => exact row_mk hb rfl rfl rfl (hg 3 (by decide)) rfl
  | 4, _ => exact row_mk hb rfl rfl rfl (hg 4 (by decide)) rfl
  | 5, _ => exact row_mk hb rfl rfl rfl (hg 5 (by decide)) rfl
  | 6, _ => exact row_mk hb rfl rfl rfl (hg 6 (by decide)) rfl
  | 7, _ => exact row_mk hb rfl rfl rfl (hg 7 (by decide)) rfl
  | 8, _ => exact row_mk hb rfl rfl rfl (hg 8 (by decide)) rfl
  | 9, _ => exact row_mk hb rfl rfl rfl (hg 9 (by decide)) rfl
  | 10, _ => exact row_mk hb rfl rfl rfl (hg 10 (by decide)) rfl
  | 11, _ => exact row_mk hb rfl rfl rfl (hg 11 (by decide)) rfl
  | 12, _ => exact row_mk hb rfl rfl rfl (hg 12 (by decide)) rfl
  | 13, _ => exact row_mk hb rfl rfl rfl (hg 13 (by decide)) rfl
  | 14, _ => exact row_mk hb rfl rfl rfl (hg 14 (by decide)) rfl
  | 15, _ => exact row_mk hb rfl rfl rfl (hg 15 (by decide)) rfl
  | 16, _ => exact row_mk hb rfl rfl rfl (hg 16 (by decide)) rfl
  | 17, _ => exact row_mk hb rfl rfl rfl (hg 17 (by decide)) rfl
  | 18, _ => exact row_mk hb rfl rfl rfl (hg 18 (by decide)) rfl
  | 19, _ => exact row_mk hb rfl rfl rfl (hg 19 (by decide)) rfl
  | 20, _ => exact row_mk hb rfl rfl rfl (hg 20 (by decide)) rfl
  | 21, _ => exact row_mk hb rfl rfl rfl (hg 21 (by decide)) rfl
  | 22, _ => exact row_mk hb rfl rfl rfl (hg 22 (by decide)) rfl
  | 23, _ => exact row_mk hb rfl rfl rfl (hg 23 (by decide)) rfl
  | 24, _ => exact row_mk hb rfl rfl rfl (hg 24 (by decide)) rfl
  | 25, _ => exact row_mk hb rfl rfl rfl (hg 25 (by decide)) rfl
  | 26, _ => exact row_mk hb rfl rfl rfl (hg 26 (by decide)) rfl
  | 27, _ => exact row_mk hb rfl rfl rfl (hg 27 (by decide)) rfl
  | 28, _ => exact row_mk hb rfl rfl rfl (hg 28 (by decide)) rfl
  | 29, _ => exact row_mk hb rfl rfl rfl (hg 29 (by decide)) rfl
  | 30, _ => exact row_mk hb rfl rfl rfl (hg 30 (by decide)) rfl
  | 31, _ => exact row_mk hb rfl rfl rfl (hg 31 (by decide)) rfl
  | 32, _ => exact row_mk hb rfl rfl rfl (hg 32 (by decide)) rfl
  | 33, _ => exact row_mk hb rfl rfl rfl (hg 33 (by decide)) rfl
  | 34, _ => exact row_mk hb rfl rfl rfl (hg 34 (by decide)) rfl
  | 35, _ => exact row_mk hb rfl rfl rfl (hg 35 (by decide)) rfl
  | 36, _ => exact row_none hb rfl rfl
  | 37, _ => exact row_none hb rfl rfl
  | j + 38, h => exact absurd h (by simp [rowsP])
set_option maxHeartbeats 4000000 in
theorem rows_any (w : World) : Calls Tryd.prog 30 #[] w fun e w' => (∃ b, e = .returned (.slice (some ⟨b, 0, none⟩) 38 38) ∧ TabAt w' b) ∧ Below w.heap.size w w' := by
  have H1 := Lib.hid (rows_laid w)
  have H2 := Lib.hid (allocs_below (rowObjs w) w)
  go_enter Tryd.func30, Tryd.ntmps30
  go_wp2
  exact bodyPost_ret (results_tmp rfl _ _ _) rfl ⟨⟨w.heap.size + 36, rfl, H1.out⟩, H2.out⟩
end Go.Proofs.YtpejhilfopjckaaDoor.Hp
