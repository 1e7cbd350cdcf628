/-
The document's one and Tokens: what they return, for every string.
-/
import Derived.Test.YtiamojpeedllbaaGreatDoorU3b
namespace Go.Proofs.YtiamojpeedllbaaGreatDoor
open Go.ChangeShapes Go.WideShapes Go.ChangeAt Go.RowKit

/-- What one answers at a place, by the byte that stands there. -/
def RoneOk (s : ByteArray) (k : Nat) (w : World) : Prop := Calls Tryz.prog 58 #[.string s, .int .i64 (k : Int)] w fun e w' => e = .returned (TokV (oneT (s.data.toList.drop k))) ∧ Below w.heap.size w w'

theorem tok_end {w W : World} (R : Res1 w zero5 W) (t : Tk) : Res1 w #[.int .i64 t.kind, .string ⟨t.text.toArray⟩, .int .i64 t.int, .int .i64 0, .int .i64 0] (((((W.setCell ⟨w.heap.size, 0, none⟩ (.int .i64 t.kind)).setCell ⟨w.heap.size, 1, none⟩ (.string ⟨t.text.toArray⟩)).setCell ⟨w.heap.size, 2, none⟩ (.int .i64 t.int)).setCell ⟨w.heap.size, 3, none⟩ (.int .i64 0)).setCell ⟨w.heap.size, 4, none⟩ (.int .i64 0)) := R.put _ _ _ _ _

set_option maxRecDepth 100000 in
set_option maxHeartbeats 1000000 in
theorem rone_sign (s : ByteArray) (k : Nat) (w : World) (_hs : s.size ≤ 4096) (h0 : k < s.size) (K : Int) (hk : ((s[k].toNat : Int) == 40) = true ∧ K = 0 ∨ ((s[k].toNat : Int) == 40) = false ∧ (((s[k].toNat : Int) == 41) = true ∧ K = 1 ∨ ((s[k].toNat : Int) == 41) = false ∧ ((s[k].toNat : Int) == 39) = true ∧ K = 3)) :
    Calls Tryz.prog 58 #[.string s, .int .i64 (k : Int)] w fun e w' => e = .returned (TokV (⟨K, [], 0⟩, 1, 0)) ∧ Below w.heap.size w w' := by
  have h0i : (k : Int) < (s.size : Int) := by omega
  rcases hk with ⟨h1, rfl⟩ | ⟨h1, ⟨h2, rfl⟩ | ⟨h2, h3, rfl⟩⟩
  · go_enter Tryz.func58, Tryz.ntmps58
    go_wp2
    have R2 := Res1.first w #[.int .i64 0, .string ⟨#[]⟩, .int .i64 0, .int .i64 0, .int .i64 0]
    exact bodyPost_ret (results_row_tmp2 (P := Tryz.prog) rfl _ _ w.heap.size 33 _ (0, 0) _ rfl R2.2 Tryz.underlying33 rfl size35) rfl ⟨rfl, R2.1⟩
  · go_enter Tryz.func58, Tryz.ntmps58
    go_wp2
    have R2 := Res1.first w #[.int .i64 1, .string ⟨#[]⟩, .int .i64 0, .int .i64 0, .int .i64 0]
    exact bodyPost_ret (results_row_tmp2 (P := Tryz.prog) rfl _ _ w.heap.size 33 _ (0, 0) _ rfl R2.2 Tryz.underlying33 rfl size35) rfl ⟨rfl, R2.1⟩
  · go_enter Tryz.func58, Tryz.ntmps58
    go_wp2
    have R2 := Res1.first w #[.int .i64 3, .string ⟨#[]⟩, .int .i64 0, .int .i64 0, .int .i64 0]
    exact bodyPost_ret (results_row_tmp2 (P := Tryz.prog) rfl _ _ w.heap.size 33 _ (0, 0) _ rfl R2.2 Tryz.underlying33 rfl size35) rfl ⟨rfl, R2.1⟩

set_option maxRecDepth 100000 in
set_option maxHeartbeats 1000000 in
theorem rone_hash (s : ByteArray) (k : Nat) (w : World) (_hs : s.size ≤ 4096) (h0 : k < s.size) (b1 : ((s[k].toNat : Int) == 40) = false) (b2 : ((s[k].toNat : Int) == 41) = false) (b3 : ((s[k].toNat : Int) == 39) = false) (q : Tk × Nat × Int)
    (hb : ((s[k].toNat : Int) == 35) = true ∧ (∀ W, Calls Tryz.prog 84 #[.string s, .int .i64 (k : Int)] W fun e w' => e = .returned (TokV q) ∧ Below W.heap.size W w') ∨
      ((s[k].toNat : Int) == 35) = false ∧ ((s[k].toNat : Int) == 34) = true ∧ (∀ W, Calls Tryz.prog 85 #[.string s, .int .i64 (k : Int)] W fun e w' => e = .returned (TokV q) ∧ Below W.heap.size W w')) :
    Calls Tryz.prog 58 #[.string s, .int .i64 (k : Int)] w fun e w' => e = .returned (TokV q) ∧ Below w.heap.size w w' := by
  have R0 := Lib.hid (Res1.first w zero5)
  have h0i : (k : Int) < (s.size : Int) := by omega
  obtain ⟨t, n, er⟩ := q
  unfold TokV Tk.val at hb ⊢
  simp only at hb ⊢
  rcases hb with ⟨b4, C⟩ | ⟨b4, b5, C⟩
  all_goals
    have H := Lib.hid C
    clear C
    go_enter Tryz.func58, Tryz.ntmps58
    go_wp2_with fail
    refine (H.out _).mono ?_
    rintro e w2 ⟨rfl, hb⟩
    have R2 := Lib.hid (R0.out.next hb)
    obtain ⟨c0, c1, c2, c3, c4⟩ := R2.out.cells
    obtain ⟨f0, f1, f2, f3, f4⟩ := R2.out.froz
    clear hb
    go_wp2
    have R3 := R2.out.put (.int .i64 t.kind) (.string ⟨t.text.toArray⟩) (.int .i64 t.int) (.int .i64 0) (.int .i64 0)
    exact bodyPost_ret (results_row_tmp2 (P := Tryz.prog) rfl _ _ w.heap.size 33 _ (0, 0) _ rfl R3.2 Tryz.underlying33 rfl size35) rfl ⟨rfl, R3.1⟩

set_option maxRecDepth 100000 in
set_option maxHeartbeats 1000000 in
theorem rone_word (s : ByteArray) (k : Nat) (w : World) (hs : s.size ≤ 4096) (h0 : k < s.size) (b1 : ((s[k].toNat : Int) == 40) = false) (b2 : ((s[k].toNat : Int) == 41) = false) (b3 : ((s[k].toNat : Int) == 39) = false)
    (b4 : ((s[k].toNat : Int) == 35) = false) (b5 : ((s[k].toNat : Int) == 34) = false) :
    Calls Tryz.prog 58 #[.string s, .int .i64 (k : Int)] w fun e w' => e = .returned (TokV (oneT (s.data.toList.drop k))) ∧ Below w.heap.size w w' := by
  have R0 := Lib.hid (Res1.first w zero5)
  have hl := len_data s
  have h0i : (k : Int) < (s.size : Int) := by omega
  have hcons : s.data.toList.drop k = s[k] :: s.data.toList.drop (k + 1) := List.drop_eq_getElem_cons (by rw [hl]; exact h0)
  have hone : oneT (s.data.toList.drop k) = if wordL (s.data.toList.drop k) = [] then (noTk, 0, 30) else ((wordT (wordL (s.data.toList.drop k))).1, (wordL (s.data.toList.drop k)).length, (wordT (wordL (s.data.toList.drop k))).2) := by
    have := one_word (c := s[k]) (s.data.toList.drop (k + 1)) (byte_not (m := 40) rfl b1) (byte_not (m := 41) rfl b2) (byte_not (m := 39) rfl b3) (byte_not (m := 35) rfl b4) (byte_not (m := 34) rfl b5)
    rwa [← hcons] at this
  have C26 : ∀ W, Calls Tryz.prog 86 #[.string s, .int .i64 (k : Int)] W fun e w' => e = .returned (.int .i64 ((wordL (s.data.toList.drop k)).length : Int)) ∧ W = w' := fun W => rword_any s k W (by unfold maxLen; omega) (by omega)
  have hwl := wordL_le (s.data.toList.drop k)
  rw [List.length_drop, hl] at hwl
  rw [hone]
  by_cases hw : wordL (s.data.toList.drop k) = []
  · rw [if_pos hw]
    rw [hw] at C26
    have H26 := Lib.hid C26
    clear C26 hone hw hwl hl hcons
    go_enter Tryz.func58, Tryz.ntmps58
    go_wp2_with (go_at_call 86; ((with_reducible refine (H26.out _).mono ?_); rintro e w' ⟨rfl, rfl⟩))
    have R2 := Res1.first w zero5
    exact bodyPost_ret (results_row_tmp2 (P := Tryz.prog) rfl _ _ w.heap.size 33 _ (0, 0) _ rfl R2.2 Tryz.underlying33 rfl size35) rfl ⟨rfl, R2.1⟩
  · rw [if_neg hw]
    have hpos := List.length_pos_iff.2 hw
    obtain ⟨n, hn⟩ : ∃ n, n = (wordL (s.data.toList.drop k)).length := ⟨_, rfl⟩
    rw [← hn] at C26 hwl hpos ⊢
    have hx : (s.extract k (k + n)).data.toList = wordL (s.data.toList.drop k) := by
      rw [extract_list, Nat.add_sub_cancel_left, hn, wordL_take]
    have C27 : ∀ W, Calls Tryz.prog 87 #[.string (s.extract k (k + n))] W fun e w' => WordOk (wordL (s.data.toList.drop k)) e ∧ Below W.heap.size W w' := fun W => by
      have := rwordT_any (s.extract k (k + n)) W (by simp; omega)
      rwa [hx] at this
    unfold WordOk Tk.val at C27
    unfold TokV Tk.val
    simp only
    generalize wordT (wordL (s.data.toList.drop k)) = q at C27 ⊢
    obtain ⟨t, er⟩ := q
    simp only at C27 ⊢
    have hn1 : (0 : Int) < (n : Int) := by omega
    have hn0 : ((n : Int) == 0) = false := by rw [beq_eq_false_iff_ne]; omega
    have hn2 : (k : Int) + (n : Int) ≤ (s.size : Int) := by omega
    have H26 := Lib.hid C26
    have H27 := Lib.hid C27
    clear C26 C27 hone hw hwl hl hx hn hcons
    go_enter Tryz.func58, Tryz.ntmps58
    go_wp2_with (go_at_call 86; ((with_reducible refine (H26.out _).mono ?_); rintro e w' ⟨rfl, rfl⟩))
    refine (H27.out _).mono ?_
    rintro e w3 ⟨rfl, hb⟩
    have R3 := Lib.hid (R0.out.next hb)
    have hlt := R3.out.lt
    obtain ⟨c0, c1, c2, c3, c4⟩ := R3.out.cells
    obtain ⟨f0, f1, f2, f3, f4⟩ := R3.out.froz
    clear hb
    go_wp2
    have R5 := (R3.out.put (.int .i64 t.kind) (.string ⟨t.text.toArray⟩) (.int .i64 t.int) (.int .i64 0) (.int .i64 0)).next ((Below.refl _ _).alloc (Nat.le_refl _) (.cells #[.int .i64 t.kind, .string ⟨t.text.toArray⟩, .int .i64 t.int, .int .i64 0, .int .i64 0] 33))
    exact bodyPost_ret (results_row_tmp2 (P := Tryz.prog) rfl _ _ w.heap.size 33 _ (0, 0) _ rfl R5.2 Tryz.underlying33 rfl size35) rfl ⟨rfl, R5.1⟩

theorem rone_any (s : ByteArray) (k : Nat) (w : World) (hs : s.size ≤ 4096) (h0 : k < s.size) : RoneOk s k w := by
  unfold RoneOk
  have hcons : s.data.toList.drop k = s[k] :: s.data.toList.drop (k + 1) := List.drop_eq_getElem_cons (by rw [len_data]; exact h0)
  by_cases h1 : ((s[k].toNat : Int) == 40) = true
  · have e : oneT (s.data.toList.drop k) = (⟨0, [], 0⟩, 1, 0) := by rw [hcons, byte_is (m := 40) rfl h1, oneT_cons, if_pos rfl]
    rw [e]; exact rone_sign s k w hs h0 0 (.inl ⟨h1, rfl⟩)
  have b1 : ((s[k].toNat : Int) == 40) = false := by simpa using h1
  by_cases h2 : ((s[k].toNat : Int) == 41) = true
  · have e : oneT (s.data.toList.drop k) = (⟨1, [], 0⟩, 1, 0) := by rw [hcons, byte_is (m := 41) rfl h2, oneT_cons, if_neg (by decide), if_pos rfl]
    rw [e]; exact rone_sign s k w hs h0 1 (.inr ⟨b1, .inl ⟨h2, rfl⟩⟩)
  have b2 : ((s[k].toNat : Int) == 41) = false := by simpa using h2
  by_cases h3 : ((s[k].toNat : Int) == 39) = true
  · have e : oneT (s.data.toList.drop k) = (⟨3, [], 0⟩, 1, 0) := by rw [hcons, byte_is (m := 39) rfl h3, oneT_cons, if_neg (by decide), if_neg (by decide), if_pos rfl]
    rw [e]; exact rone_sign s k w hs h0 3 (.inr ⟨b1, .inr ⟨b2, h3, rfl⟩⟩)
  have b3 : ((s[k].toNat : Int) == 39) = false := by simpa using h3
  by_cases h4 : ((s[k].toNat : Int) == 35) = true
  · have e : oneT (s.data.toList.drop k) = hashT (s.data.toList.drop (k + 1)) := by
      rw [hcons, byte_is (m := 35) rfl h4, one_hash]
    rw [e]
    exact rone_hash s k w hs h0 b1 b2 b3 _ (.inl ⟨h4, fun W => rhash_any s k W hs h0⟩)
  have b4 : ((s[k].toNat : Int) == 35) = false := by simpa using h4
  by_cases h5 : ((s[k].toNat : Int) == 34) = true
  · have e : oneT (s.data.toList.drop k) = textV [] 1 (txt (s.data.toList.drop (k + 1))) := by
      rw [hcons, byte_is (m := 34) rfl h5, one_text]
    rw [e]
    exact rone_hash s k w hs h0 b1 b2 b3 _ (.inr ⟨b4, h5, fun W => rstr_any s k W hs h0⟩)
  exact rone_word s k w hs h0 b1 b2 b3 b4 (by simpa using h5)
end Go.Proofs.YtiamojpeedllbaaGreatDoor
