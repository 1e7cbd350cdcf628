/-
The document's hash: what it returns at a place. For strings of at most 4096 bytes.
-/
import Derived.Test.YtiamojpeedllbaaGreatDoorU1
namespace Go.Proofs.YtiamojpeedllbaaGreatDoor
open Go.ChangeShapes Go.WideShapes Go.ChangeAt Go.RowKit

/-- The world W has come of w, and two tokens in the first new blocks are as told. -/
def Res2 (w : World) (y z : Array Value) (W : World) : Prop := Below w.heap.size w W ∧ W.heap[w.heap.size]? = some (.cells y 33 (0, 0)) ∧ W.heap[w.heap.size + 1]? = some (.cells z 33 (0, 0))
theorem Res2.first (w : World) (y z : Array Value) : Res2 w y z ((w.alloc (.cells y 33)).alloc (.cells z 33)) := by
  refine ⟨((Below.refl _ _).alloc (Nat.le_refl _) _).alloc (by simp) _, ?_, ?_⟩
  · exact (Below.heap_alloc (w.alloc (.cells y 33)) (.cells z 33) w.heap.size (by simp)).trans (heap_alloc_new w _)
  · have := heap_alloc_new (w.alloc (.cells y 33)) (.cells z 33)
    rwa [show (w.alloc (.cells y 33)).heap.size = w.heap.size + 1 by simp] at this
theorem Res2.res1 {w W : World} {y z : Array Value} (h : Res2 w y z W) : Res1 w y W := ⟨h.1, h.2.1⟩

set_option maxRecDepth 100000 in
theorem rhash_open (s : ByteArray) (k : Nat) (w : World) (hs : s.size ≤ 4096) (hk : k + 1 < s.size) (h : ((s[k + 1].toNat : Int) == 40) = true) :
    Calls Tryz.prog 84 #[.string s, .int .i64 (k : Int)] w fun e w' => e = .returned (TokV (⟨2, [], 0⟩, 2, 0)) ∧ Below w.heap.size w w' := by
  have hk' : (k : Int) + 1 < (s.size : Int) := by omega
  go_enter Tryz.func84, Tryz.ntmps84
  go_wp2
  have R2 := Res2.first w #[.int .i64 2, .string ⟨#[]⟩, .int .i64 0, .int .i64 0, .int .i64 0] zero5
  exact bodyPost_ret (results_row_tmp2 (P := Tryz.prog) rfl _ _ w.heap.size 33 _ (0, 0) _ rfl R2.2.1 Tryz.underlying33 rfl size35) rfl ⟨rfl, R2.1⟩

theorem wordL_one {c : UInt8} {r : List UInt8} (h : (wordL (c :: r)).length = 1) : wordL (c :: r) = [c] := by
  unfold wordL at h ⊢
  rw [List.takeWhile_cons] at h ⊢
  split at h
  · rename_i hc
    rw [if_pos hc]
    simp only [List.length_cons, Nat.add_eq_right, List.length_eq_zero_iff] at h
    rw [h]
  · simp at h
theorem wordL_head {c d : UInt8} {r : List UInt8} (h : wordL (c :: r) = [d]) : c = d := by
  unfold wordL at h
  rw [List.takeWhile_cons] at h
  split at h
  · simp at h; exact h.1
  · cases h

set_option maxRecDepth 100000 in
set_option maxHeartbeats 1000000 in
theorem rhash_bare (s : ByteArray) (k : Nat) (w : World) (hs : s.size ≤ 4096) (hk : k + 1 = s.size) :
    Calls Tryz.prog 84 #[.string s, .int .i64 (k : Int)] w fun e w' => e = .returned (TokV (noTk, 0, 31)) ∧ Below w.heap.size w w' := by
  have C : ∀ W, Calls Tryz.prog 86 #[.string s, .int .i64 ((k : Int) + 1)] W fun e w' => e = .returned (.int .i64 0) ∧ W = w' := fun W => by
    have := rword_any s (k + 1) W (by unfold maxLen; omega) (by omega)
    rw [List.drop_eq_nil_of_le (by rw [len_data]; omega)] at this
    exact this
  have H := Lib.hid C
  have hk' : (s.size : Int) = (k : Int) + 1 := by omega
  have hk2 : (s.size : Int) ≤ (k : Int) + 1 := by omega
  have hk3 : (s.size : Int) ≤ (k : Int) + 2 := by omega
  have hks : (k : Int) ≤ 4096 := by omega
  clear C hk hk' hs
  generalize hz : (s.size : Int) = z at hk2 hk3
  go_enter Tryz.func84, Tryz.ntmps84
  go_wp2_with (go_at_call 86; ((with_reducible refine (H.out _).mono ?_); rintro e w' ⟨rfl, rfl⟩))
  have R2 := Res2.first w zero5 zero5
  exact bodyPost_ret (results_row_tmp2 (P := Tryz.prog) rfl _ _ w.heap.size 33 _ (0, 0) _ rfl R2.2.1 Tryz.underlying33 rfl size35) rfl ⟨rfl, R2.1⟩

set_option maxRecDepth 100000 in
set_option maxHeartbeats 1000000 in
theorem rhash_word (s : ByteArray) (k : Nat) (w : World) (hs : s.size ≤ 4096) (hk : k + 1 < s.size) (h40 : ((s[k + 1].toNat : Int) == 40) = false) (h92 : ((s[k + 1].toNat : Int) == 92) = false ∨ s.size ≤ k + 2) :
    Calls Tryz.prog 84 #[.string s, .int .i64 (k : Int)] w fun e w' => e = .returned (TokV (hashT (s.data.toList.drop (k + 1)))) ∧ Below w.heap.size w w' := by
  have hr : s.data.toList.drop (k + 1) = s[k + 1] :: s.data.toList.drop (k + 2) := List.drop_eq_getElem_cons (by rw [len_data]; exact hk)
  have hT : hashT (s.data.toList.drop (k + 1)) = if wordL (s.data.toList.drop (k + 1)) = [116] then (⟨5, [], 1⟩, 2, 0) else if wordL (s.data.toList.drop (k + 1)) = [102] then (⟨5, [], 0⟩, 2, 0) else (noTk, 0, 31) := by
    refine hashT_else (fun q e => ?_) (fun c q e => ?_)
    · rw [hr] at e
      injection e with e1 e2
      rw [e1] at h40; exact absurd h40 (by decide)
    · rw [hr] at e
      injection e with e1 e2
      rcases h92 with h | h
      · rw [e1] at h; exact absurd h (by decide)
      · rw [List.drop_eq_nil_of_le (by rw [len_data]; omega)] at e2; cases e2
  have C : ∀ W, Calls Tryz.prog 86 #[.string s, .int .i64 ((k : Int) + 1)] W fun e w' => e = .returned (.int .i64 ((wordL (s.data.toList.drop (k + 1))).length : Int)) ∧ W = w' := fun W => rword_any s (k + 1) W (by unfold maxLen; omega) (by omega)
  rw [hT]
  rw [hr] at C ⊢
  clear hT hr
  have hh : ∀ d, wordL (s[k + 1] :: s.data.toList.drop (k + 2)) = [d] ↔ (wordL (s[k + 1] :: s.data.toList.drop (k + 2))).length = 1 ∧ s[k + 1] = d := fun d =>
    ⟨fun h => ⟨by rw [h]; rfl, wordL_head h⟩, fun h => by rw [wordL_one h.1, h.2]⟩
  simp only [hh]
  clear hh
  generalize (wordL (s[k + 1] :: s.data.toList.drop (k + 2))).length = N at C ⊢
  have H := Lib.hid C
  have hk' : (k : Int) + 1 < (s.size : Int) := by omega
  have t8 : ∀ d : UInt8, (s[k + 1] = d) ↔ ((s[k + 1].toNat : Int) == (d.toNat : Int)) = true := fun d => by
    rw [beq_iff_eq]
    exact ⟨fun h => by rw [h], fun h => UInt8.toNat_inj.1 (by omega)⟩
  have h92' : ((s[k + 1].toNat : Int) == 92) = false ∨ (s.size : Int) ≤ (k : Int) + 2 := h92.imp id (by omega)
  have hsp : ((k : Int) + 2 < (s.size : Int) ∧ ((s[k + 1].toNat : Int) == 92) = false) ∨ (s.size : Int) ≤ (k : Int) + 2 := by
    by_cases h : (s.size : Int) ≤ (k : Int) + 2
    · exact .inr h
    · exact .inl ⟨by omega, h92'.resolve_right h⟩
  have e116 := t8 116
  have e102 := t8 102
  clear t8 h92 h92' C
  by_cases hN : N = 1
  · subst hN
    by_cases hx : ((s[k + 1].toNat : Int) == 116) = true
    · rw [if_pos ⟨rfl, e116.2 hx⟩]
      clear e116 e102
      rcases hsp with ⟨p1, p2⟩ | p1
      all_goals
        go_enter Tryz.func84, Tryz.ntmps84
        go_wp2_with (go_at_call 86; ((with_reducible refine (H.out _).mono ?_); rintro e w' ⟨rfl, rfl⟩))
        have R2 := Res2.first w #[.int .i64 5, .string ⟨#[]⟩, .int .i64 1, .int .i64 0, .int .i64 0] zero5
        exact bodyPost_ret (results_row_tmp2 (P := Tryz.prog) rfl _ _ w.heap.size 33 _ (0, 0) _ rfl R2.2.1 Tryz.underlying33 rfl size35) rfl ⟨rfl, R2.1⟩
    · rw [if_neg (fun h => hx (e116.1 h.2))]
      have hx' : ((s[k + 1].toNat : Int) == 116) = false := by simpa using hx
      by_cases hy : ((s[k + 1].toNat : Int) == 102) = true
      · rw [if_pos ⟨rfl, e102.2 hy⟩]
        clear e116 e102 hx
        rcases hsp with ⟨p1, p2⟩ | p1
        all_goals
          go_enter Tryz.func84, Tryz.ntmps84
          go_wp2_with (go_at_call 86; ((with_reducible refine (H.out _).mono ?_); rintro e w' ⟨rfl, rfl⟩))
          have R2 := Res2.first w #[.int .i64 5, .string ⟨#[]⟩, .int .i64 0, .int .i64 0, .int .i64 0] zero5
          exact bodyPost_ret (results_row_tmp2 (P := Tryz.prog) rfl _ _ w.heap.size 33 _ (0, 0) _ rfl R2.2.1 Tryz.underlying33 rfl size35) rfl ⟨rfl, R2.1⟩
      · rw [if_neg (fun h => hy (e102.1 h.2))]
        have hy' : ((s[k + 1].toNat : Int) == 102) = false := by simpa using hy
        clear e116 e102 hx hy
        rcases hsp with ⟨p1, p2⟩ | p1
        all_goals
          go_enter Tryz.func84, Tryz.ntmps84
          go_wp2_with (go_at_call 86; ((with_reducible refine (H.out _).mono ?_); rintro e w' ⟨rfl, rfl⟩))
          have R2 := Res2.first w zero5 zero5
          exact bodyPost_ret (results_row_tmp2 (P := Tryz.prog) rfl _ _ w.heap.size 33 _ (0, 0) _ rfl R2.2.1 Tryz.underlying33 rfl size35) rfl ⟨rfl, R2.1⟩
  · rw [if_neg (fun h => hN h.1), if_neg (fun h => hN h.1)]
    have hN' : ¬ (N : Int) = 1 := by omega
    have hN2 : ((N : Int) == 1) = false := by rw [beq_eq_false_iff_ne]; exact hN'
    clear e116 e102
    rcases hsp with ⟨p1, p2⟩ | p1
    all_goals
      go_enter Tryz.func84, Tryz.ntmps84
      go_wp2_with (go_at_call 86; ((with_reducible refine (H.out _).mono ?_); rintro e w' ⟨rfl, rfl⟩))
      have R2 := Res2.first w zero5 zero5
      exact bodyPost_ret (results_row_tmp2 (P := Tryz.prog) rfl _ _ w.heap.size 33 _ (0, 0) _ rfl R2.2.1 Tryz.underlying33 rfl size35) rfl ⟨rfl, R2.1⟩
end Go.Proofs.YtiamojpeedllbaaGreatDoor
