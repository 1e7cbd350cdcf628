/-
Package heap's isThing, is, part: what one asks of the things in memory. No condition but that the heap lies there, and that the value is one of its own.
-/
import Derived.Test.YtlolkhnaaelelaaDoorQ2
namespace Go.Proofs.YtlolkhnaaelelaaDoor.Hp
open Go.ChangeShapes Go.WideShapes Go.ChangeAt Go.RowKit Go.Deep
open Dat (PT ok64 RepV RepS RowX infoDatum)
set_option maxRecDepth 100000

/-- Is the value a thing of this kind? -/
def thB (T : List (Int × List PV)) (v : PV) (kind : Int) : Bool := decide (v.k = 8 ∧ T[v.i.toNat]?.map (·.1) = some kind)
/-- A thing's number is in range. -/
def InT (T : List (Int × List PV)) (v : PV) : Prop := v.k = 8 → 0 ≤ v.i ∧ v.i < T.length
set_option maxHeartbeats 1000000 in
theorem isThing_any (k i : Int) (s : ByteArray) (kind : Int) (hb : Nat) (T : List (Int × List PV)) (F : Nat → Prop) (w : World) (h : HeapM w hb T F) (hi : InT T ⟨k, i, s⟩) :
    Calls Tryd.prog 49 #[.pointer (some ⟨hb, 0, none⟩), .agg #[.int .i64 k, .int .i64 i, .string s], .int .i64 kind] w fun e w' => e = .returned (.bool (thB T ⟨k, i, s⟩ kind)) ∧ Below w.heap.size w w' := by
  have Z := heap_alloc_new w (.cells #[.int .i64 k, .int .i64 i, .string s] 36)
  have B0 := Lib.hid ((Below.refl w.heap.size w).alloc (Nat.le_refl _) (.cells #[.int .i64 k, .int .i64 i, .string s] 36))
  by_cases h8 : k = 8
  · obtain ⟨h0, hlt⟩ := hi h8
    dsimp only at hlt h0
    have hlt : i.toNat < T.length := by omega
    obtain ⟨tb, cap, g, pv, _, c0, h1, h2, c1, -, -, -, -, -, -, -⟩ := h.thing i.toNat hlt
    replace c0 := (B0.out.cell (p := ⟨hb, 0, none⟩) (World.block_lt_of_cell? _ _ c0)).trans c0
    replace c1 := (B0.out.cell (p := ⟨tb, i.toNat * 4, none⟩) (World.block_lt_of_cell? _ _ c1)).trans c1
    have HR : Hid (thB T ⟨k, i, s⟩ kind = decide (T[i.toNat].1 = kind)) := Lib.hid (by simp [thB, h8, hlt])
    generalize thB T ⟨k, i, s⟩ kind = r at HR
    generalize T[i.toNat].1 = tk at c1 HR
    unfold maxLen at h2
    have hL : i < (T.length : Int) := by omega
    subst h8
    clear h hi
    go_enter Tryd.func49, Tryd.ntmps49
    go_wp2
    generalize w.alloc (.cells #[.int .i64 8, .int .i64 i, .string s] 36) = w0 at *
    have z0 : w0.cell? ⟨w.heap.size, 0, none⟩ = some (.int .i64 8) := by rw [Lib.cell_of_heap Z]; rfl
    have z1 : w0.cell? ⟨w.heap.size, 1, none⟩ = some (.int .i64 i) := by rw [Lib.cell_of_heap Z]; rfl
    clear Z
    go_quiet (fail)
    go_wp2
    go_ret
    exact ⟨ret_bool (by rw [HR.out]; rfl), Dat.below_drewN B0.out _⟩
  · have h8' : (k == 8) = false := by simpa using h8
    have HR : Hid (thB T ⟨k, i, s⟩ kind = false) := Lib.hid (by simp [thB, h8])
    clear h hi
    go_enter Tryd.func49, Tryd.ntmps49
    go_wp2
    generalize w.alloc (.cells #[.int .i64 k, .int .i64 i, .string s] 36) = w0 at B0 Z ⊢
    have z0 : w0.cell? ⟨w.heap.size, 0, none⟩ = some (.int .i64 k) := by rw [Lib.cell_of_heap Z]; rfl
    clear Z h8
    go_region
    go_wp2
    go_ret
    exact ⟨ret_bool (by rw [HR.out]), (by first | exact B0.out | exact Dat.below_drewN B0.out _ | exact B0.out.drew)⟩

/-- Is the value what is wanted? -/
def isB (T : List (Int × List PV)) (v : PV) (q : Int) : Bool :=
  if q = 1 then v.k == 0 else if q = 2 then v.k == 1 else if q = 3 then v.k == 2 else if q = 4 then v.k == 3 else if q = 5 then v.k == 4 else if q = 6 then v.k == 6
  else if q = 7 then thB T v 0 else if q = 8 then thB T v 1 else if q = 9 then thB T v 2 else if q = 10 then thB T v 3 else if q = 11 then thB T v 4 else true
theorem want12 (q : Int) (h0 : 0 ≤ q) (h1 : q ≤ 11) : q = 0 ∨ q = 1 ∨ q = 2 ∨ q = 3 ∨ q = 4 ∨ q = 5 ∨ q = 6 ∨ q = 7 ∨ q = 8 ∨ q = 9 ∨ q = 10 ∨ q = 11 := by omega
set_option maxHeartbeats 2000000 in
theorem is_any (k i : Int) (s : ByteArray) (q : Int) (h0 : 0 ≤ q) (h1 : q ≤ 11) (hb : Nat) (T : List (Int × List PV)) (F : Nat → Prop) (w : World) (h : HeapM w hb T F) (hi : InT T ⟨k, i, s⟩) :
    Calls Tryd.prog 29 #[.pointer (some ⟨hb, 0, none⟩), .agg #[.int .i64 k, .int .i64 i, .string s], .int .i64 q] w fun e w' => e = .returned (.bool (isB T ⟨k, i, s⟩ q)) ∧ Below w.heap.size w w' := by
  have B0 := Lib.hid ((Below.refl w.heap.size w).alloc (Nat.le_refl _) (.cells #[.int .i64 k, .int .i64 i, .string s] 36))
  have KT := Lib.hid (fun kd => isThing_any k i s kd hb T F _ (h.below B0.out) hi)
  clear h hi
  rcases want12 q h0 h1 with rfl | rfl | rfl | rfl | rfl | rfl | rfl | rfl | rfl | rfl | rfl | rfl
  all_goals
    go_enter Tryd.func29, Tryd.ntmps29
    go_wp2_with (go_at_call 49; ((with_reducible refine (KT.out _).mono ?_); rintro e w1 ⟨rfl, hb1⟩))
    go_ret
    first
      | exact ⟨rfl, B0.out⟩
      | exact ⟨rfl, B0.out.trans (hb1.mono B0.out.size)⟩

/-- The part of a thing. -/
def partT (T : List (Int × List PV)) (v : PV) (at_ : Int) : PV × Int :=
  match T[v.i.toNat]? with
  | some t => if 0 ≤ at_ then (match t.2[at_.toNat]? with | some u => (u, 0) | none => (⟨0, 0, ⟨#[]⟩⟩, 83)) else (⟨0, 0, ⟨#[]⟩⟩, 83)
  | none => (⟨0, 0, ⟨#[]⟩⟩, 83)
end Go.Proofs.YtlolkhnaaelelaaDoor.Hp
