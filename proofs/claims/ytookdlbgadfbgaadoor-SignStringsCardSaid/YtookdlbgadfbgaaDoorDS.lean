/-
Package data's Text at a string: its parts. The string that a Builder inside a struct has written.
-/
import Derived.Test.YtookdlbgadfbgaaDoorD15
namespace Go.Proofs.YtookdlbgadfbgaaDoor.Dat
open Go.ChangeShapes Go.WideShapes Go.ChangeAt Go.RowKit
set_option maxRecDepth 100000

theorem datum_plain (bare : Bool) (k i : Int) (s : ByteArray) (a : Option Addr) (n c : Nat) (tx : List UInt8) (hk : k = 0 ∧ tx = (if i = 0 then [35, 102] else [35, 116]) ∨ k = 3 ∧ tx = quoteS bare s.data.toList) (w : World) (tb : Nat) (acc : List UInt8) (hs : s.size ≤ maxLen) (hT : IsTeller tb bare acc w) (hlen : acc.length + 32 + 4 * s.size ≤ 140737488355328) :
    Calls Tryd.prog 29 #[.pointer (some ⟨tb, 0, none⟩), .agg #[.int .i64 k, .int .i64 i, .string s, .slice a n c]] w (Wrote tb bare (acc ++ tx) w) := by
  have hlt := hT.cells.2
  have HT := Lib.hid (hT.moved ((Below.refl w.heap.size w).alloc (Nat.le_refl _) (.cells #[.int .i64 k, .int .i64 i, .string s, .slice a n c] 33)))
  rcases hk with ⟨rfl, htx⟩ | ⟨rfl, htx⟩
  · have HX := Lib.hid htx
    clear htx hT
    go_enter Tryd.func29, Tryd.ntmps29
    go_wp2_with fail
    refine (truth_any tb bare acc i _ HT.out (by omega)).mono ?_
    rintro e w1 ⟨rfl, h1, hb1⟩
    go_wp2
    go_end0
    refine ⟨rfl, ?_, ((Below.refl tb w).alloc (by omega) _).trans hb1⟩
    rw [HX.out]; exact h1
  · have HX := Lib.hid htx
    clear htx hT
    go_enter Tryd.func29, Tryd.ntmps29
    go_wp2_with fail
    refine (quoted_any tb bare acc s _ HT.out hs (by omega)).mono ?_
    rintro e w1 ⟨rfl, h1, hb1⟩
    go_wp2
    go_end0
    refine ⟨rfl, ?_, ((Below.refl tb w).alloc (by omega) _).trans hb1⟩
    rw [HX.out]; exact h1

/-! ### the string that has been written -/
theorem unsafeString_none (W : World) (q : Option Addr) : (Builtin.unsafeString_ #[76, 3] 9 #[.pointer q, .int .i64 0]).run Tryd.prog W = .ok (.string .empty) W :=
  Lib.run_unsafeString_none W _ _ _ q

set_option maxHeartbeats 1000000 in
set_option maxRecDepth 100000 in
theorem string_nil (tb : Nat) (bare : Bool) (p : Value) (w : World) (hbk : w.heap[tb]? = some (.cells #[p, .slice none 0 0, .bool bare] 53 (0, 0))) :
    Calls Tryd.prog 30 #[.pointer (some ⟨tb, 0, none⟩)] w fun e w' => e = .returned (.string ⟨#[]⟩) ∧ Below tb w w' := by
  have hUS := unsafeString_none
  have c1 : w.drew.cell? ⟨tb, 1, none⟩ = some (.slice none 0 0) := by
    have : w.drew.heap[tb]? = some (.cells #[p, .slice none 0 0, .bool bare] 53 (0, 0)) := hbk
    rw [Lib.cell_of_heap this]; rfl
  have hSD : (Builtin.unsafeSliceData_ #[49] 76 #[.slice none 0 0]).run Tryd.prog w.drew = .ok (.pointer none) w.drew := rfl
  go_enter Tryd.func30, Tryd.ntmps30
  go_wp2
  go_region
  all_goals (go_wp2; go_ret; exact ⟨rfl, Below.drew (Below.refl tb w)⟩)

set_option maxHeartbeats 1000000 in
set_option maxRecDepth 100000 in
theorem string_noroom (tb g : Nat) (bare : Bool) (p : Value) (cur : Array Value) (w : World) (hbk : w.heap[tb]? = some (.cells #[p, .slice (some ⟨g, 0, none⟩) 0 0, .bool bare] 53 (0, 0))) (hg : w.heap[g]? = some (.cells cur 5 (0, 0))) :
    Calls Tryd.prog 30 #[.pointer (some ⟨tb, 0, none⟩)] w fun e w' => e = .returned (.string ⟨#[]⟩) ∧ Below tb w w' := by
  have hUS := unsafeString_none
  have hlt := lt_of_block hbk
  have c1 : w.drew.cell? ⟨tb, 1, none⟩ = some (.slice (some ⟨g, 0, none⟩) 0 0) := by
    have : w.drew.heap[tb]? = some (.cells #[p, .slice (some ⟨g, 0, none⟩) 0 0, .bool bare] 53 (0, 0)) := hbk
    rw [Lib.cell_of_heap this]; rfl
  have hSD : (Builtin.unsafeSliceData_ #[49] 76 #[.slice (some ⟨g, 0, none⟩) 0 0]).run Tryd.prog w.drew = .ok (.pointer (some ⟨w.drew.heap.size, 0, none⟩)) (w.drew.alloc (.view ⟨g, 0, none⟩ 5)) :=
    Lib.run_unsafeSliceData_zero w.drew _ _ 5 Tryd.underlying76 ⟨g, 0, none⟩ 0 (5, cur.size) (by have hg' : w.drew.heap[g]? = some (.cells cur 5 (0, 0)) := hg; simp [World.shape?, hg'])
  have c2 : (w.drew.alloc (.view ⟨g, 0, none⟩ 5)).cell? ⟨tb, 1, none⟩ = some (.slice (some ⟨g, 0, none⟩) 0 0) := by
    have : (w.drew.alloc (.view ⟨g, 0, none⟩ 5)).heap[tb]? = _ := (Lib.alloc_old w.drew _ tb hlt).trans hbk
    rw [Lib.cell_of_heap this]; rfl
  have c3 : (w.alloc (.view ⟨g, 0, none⟩ 5)).drew.cell? ⟨tb, 1, none⟩ = some (.slice (some ⟨g, 0, none⟩) 0 0) := c2
  have c0 : w.cell? ⟨tb, 1, none⟩ = some (.slice (some ⟨g, 0, none⟩) 0 0) := c1
  go_enter Tryd.func30, Tryd.ntmps30
  go_wp2
  go_region
  all_goals (go_wp2; go_ret; exact ⟨rfl, (Below.drew (Below.refl tb w)).alloc (by show tb ≤ w.heap.size; omega) _⟩)

set_option maxHeartbeats 1000000 in
set_option maxRecDepth 100000 in
theorem string_room (tb g cap : Nat) (bare : Bool) (p : Value) (w : World) (hc0 : cap ≠ 0) (hbk : w.heap[tb]? = some (.cells #[p, .slice (some ⟨g, 0, none⟩) 0 cap, .bool bare] 53 (0, 0))) :
    Calls Tryd.prog 30 #[.pointer (some ⟨tb, 0, none⟩)] w fun e w' => e = .returned (.string ⟨#[]⟩) ∧ Below tb w w' := by
  have hUS := unsafeString_none
  have c1 : w.drew.cell? ⟨tb, 1, none⟩ = some (.slice (some ⟨g, 0, none⟩) 0 cap) := by
    have : w.drew.heap[tb]? = some (.cells #[p, .slice (some ⟨g, 0, none⟩) 0 cap, .bool bare] 53 (0, 0)) := hbk
    rw [Lib.cell_of_heap this]; rfl
  have hSD : (Builtin.unsafeSliceData_ #[49] 76 #[.slice (some ⟨g, 0, none⟩) 0 cap]).run Tryd.prog w.drew = .ok (.pointer (some ⟨g, 0, none⟩)) w.drew :=
    Lib.run_unsafeSliceData_row _ _ _ _ _ _ hc0
  clear hc0
  go_enter Tryd.func30, Tryd.ntmps30
  go_wp2
  go_region
  all_goals (go_wp2; go_ret; exact ⟨rfl, Below.drew (Below.refl tb w)⟩)

theorem string_any (tb : Nat) (bare : Bool) (l : List UInt8) (w : World) (h : IsTeller tb bare l w) :
    Calls Tryd.prog 30 #[.pointer (some ⟨tb, 0, none⟩)] w fun e w' => e = .returned (.string ⟨l.toArray⟩) ∧ Below tb w w' := by
  by_cases h0 : l = []
  · subst h0
    obtain ⟨p, v, hbk, hown, hne⟩ := h.has
    rcases hown.2 with ⟨rfl, _⟩ | ⟨g, cap, cur, rfl, hbg, hg, _⟩
    · exact string_nil tb bare p w hbk
    · by_cases hc : cap = 0
      · subst hc
        exact string_noroom tb g bare p cur w hbk hg
      · exact string_room tb g cap bare p w hc hbk
  · exact string_some tb bare l w h h0
end Go.Proofs.YtookdlbgadfbgaaDoor.Dat
