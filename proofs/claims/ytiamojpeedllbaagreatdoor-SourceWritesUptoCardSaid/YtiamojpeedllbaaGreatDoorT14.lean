/-
Contract of package lex's first: the token that a string begins with, for every string that has a byte; where the two errors of strconv are as the program lays them.
-/
import Derived.Test.YtiamojpeedllbaaGreatDoorT13
namespace Go.Proofs.YtiamojpeedllbaaGreatDoor
open Go.ChangeShapes Go.WideShapes Go.ChangeAt Go.RowKit

theorem oneT_cons (c : UInt8) (r : List UInt8) : oneT (c :: r) = if c = 40 then (⟨0, [], 0⟩, 1, 0) else if c = 41 then (⟨1, [], 0⟩, 1, 0) else if c = 39 then (⟨3, [], 0⟩, 1, 0) else if c = 35 then hashT r
    else if c = 34 then (match txt r with | some (t, k) => (⟨8, t, 0⟩, 1 + k, 0) | none => (noTk, 0, 32))
    else if wordL (c :: r) = [] then (noTk, 0, 30) else ((wordT (wordL (c :: r))).1, (wordL (c :: r)).length, (wordT (wordL (c :: r))).2) := by
  rw [oneT]
  cases txt r <;> rfl
theorem one_text (r : List UInt8) : oneT (34 :: r) = textV [] 1 (txt r) := by
  rw [oneT_cons, if_neg (by decide), if_neg (by decide), if_neg (by decide), if_neg (by decide), if_pos rfl]
  cases txt r with
  | none => rfl
  | some q => rfl
theorem one_hash (r : List UInt8) : oneT (35 :: r) = hashT r := by
  rw [oneT_cons, if_neg (by decide), if_neg (by decide), if_neg (by decide), if_pos rfl]
theorem one_word {c : UInt8} (r : List UInt8) (h1 : c ≠ 40) (h2 : c ≠ 41) (h3 : c ≠ 39) (h4 : c ≠ 35) (h5 : c ≠ 34) : oneT (c :: r) = if wordL (c :: r) = [] then (noTk, 0, 30) else ((wordT (wordL (c :: r))).1, (wordL (c :: r)).length, (wordT (wordL (c :: r))).2) := by
  rw [oneT_cons, if_neg h1, if_neg h2, if_neg h3, if_neg h4, if_neg h5]

set_option maxRecDepth 100000 in
theorem first_sign (s : ByteArray) (w : World) (h0 : 0 < s.size) (K : Int) (hk : ((s[0].toNat : Int) == 40) = true ∧ K = 0 ∨ ((s[0].toNat : Int) == 40) = false ∧ (((s[0].toNat : Int) == 41) = true ∧ K = 1 ∨ ((s[0].toNat : Int) == 41) = false ∧ ((s[0].toNat : Int) == 39) = true ∧ K = 3)) :
    Calls Tryz.prog 27 #[.string s] w fun e w' => e = .returned (TokV (⟨K, [], 0⟩, 1, 0)) ∧ Below w.heap.size w w' := by
  rcases hk with ⟨h1, rfl⟩ | ⟨h1, ⟨h2, rfl⟩ | ⟨h2, h3, rfl⟩⟩
  · go_enter Tryz.func27, Tryz.ntmps27
    go_wp2
    have R2 := Res1.first w #[.int .i64 0, .string ⟨#[]⟩, .int .i64 0, .int .i64 0, .int .i64 0]
    exact bodyPost_ret (results_row_tmp2 (P := Tryz.prog) rfl _ _ w.heap.size 33 _ (0, 0) _ rfl R2.2 Tryz.underlying33 rfl size35) rfl ⟨rfl, R2.1⟩
  · go_enter Tryz.func27, Tryz.ntmps27
    go_wp2
    have R2 := Res1.first w #[.int .i64 1, .string ⟨#[]⟩, .int .i64 0, .int .i64 0, .int .i64 0]
    exact bodyPost_ret (results_row_tmp2 (P := Tryz.prog) rfl _ _ w.heap.size 33 _ (0, 0) _ rfl R2.2 Tryz.underlying33 rfl size35) rfl ⟨rfl, R2.1⟩
  · go_enter Tryz.func27, Tryz.ntmps27
    go_wp2
    have R2 := Res1.first w #[.int .i64 3, .string ⟨#[]⟩, .int .i64 0, .int .i64 0, .int .i64 0]
    exact bodyPost_ret (results_row_tmp2 (P := Tryz.prog) rfl _ _ w.heap.size 33 _ (0, 0) _ rfl R2.2 Tryz.underlying33 rfl size35) rfl ⟨rfl, R2.1⟩

set_option maxRecDepth 100000 in
theorem first_hash (s : ByteArray) (w : World) (h0 : 0 < s.size) (b1 : ((s[0].toNat : Int) == 40) = false) (b2 : ((s[0].toNat : Int) == 41) = false) (b3 : ((s[0].toNat : Int) == 39) = false) (q : Tk × Nat × Int)
    (hb : ((s[0].toNat : Int) == 35) = true ∧ (∀ W, Below w.heap.size w W → Calls Tryz.prog 51 #[.string s] W fun e w' => e = .returned (TokV q) ∧ Below W.heap.size W w') ∨
      ((s[0].toNat : Int) == 35) = false ∧ ((s[0].toNat : Int) == 34) = true ∧ (∀ W, Below w.heap.size w W → Calls Tryz.prog 52 #[.string s] W fun e w' => e = .returned (TokV q) ∧ Below W.heap.size W w')) :
    Calls Tryz.prog 27 #[.string s] w fun e w' => e = .returned (TokV q) ∧ Below w.heap.size w w' := by
  have R0 := Lib.hid (Res1.first w zero5)
  obtain ⟨t, n, er⟩ := q
  unfold TokV Tk.val at hb ⊢
  simp only at hb ⊢
  rcases hb with ⟨b4, C⟩ | ⟨b4, b5, C⟩
  · have H := Lib.hid C
    clear C
    go_enter Tryz.func27, Tryz.ntmps27
    go_wp2_with fail
    refine (H.out _ R0.out.1).mono ?_
    rintro e w2 ⟨rfl, hb⟩
    have R2 := Lib.hid (R0.out.next hb)
    obtain ⟨c0, c1, c2, c3, c4⟩ := R2.out.cells
    obtain ⟨f0, f1, f2, f3, f4⟩ := R2.out.froz
    go_wp2
    have R3 := R2.out.put (.int .i64 t.kind) (.string ⟨t.text.toArray⟩) (.int .i64 t.int) (.int .i64 0) (.int .i64 0)
    exact bodyPost_ret (results_row_tmp2 (P := Tryz.prog) rfl _ _ w.heap.size 33 _ (0, 0) _ rfl R3.2 Tryz.underlying33 rfl size35) rfl ⟨rfl, R3.1⟩
  · have H := Lib.hid C
    clear C
    go_enter Tryz.func27, Tryz.ntmps27
    go_wp2_with fail
    refine (H.out _ R0.out.1).mono ?_
    rintro e w2 ⟨rfl, hb⟩
    have R2 := Lib.hid (R0.out.next hb)
    obtain ⟨c0, c1, c2, c3, c4⟩ := R2.out.cells
    obtain ⟨f0, f1, f2, f3, f4⟩ := R2.out.froz
    go_wp2
    have R3 := R2.out.put (.int .i64 t.kind) (.string ⟨t.text.toArray⟩) (.int .i64 t.int) (.int .i64 0) (.int .i64 0)
    exact bodyPost_ret (results_row_tmp2 (P := Tryz.prog) rfl _ _ w.heap.size 33 _ (0, 0) _ rfl R3.2 Tryz.underlying33 rfl size35) rfl ⟨rfl, R3.1⟩

set_option maxRecDepth 100000 in
theorem first_word (s : ByteArray) (w : World) (hs : s.size ≤ 4096) (h0 : 0 < s.size) (b1 : ((s[0].toNat : Int) == 40) = false) (b2 : ((s[0].toNat : Int) == 41) = false) (b3 : ((s[0].toNat : Int) == 39) = false)
    (b4 : ((s[0].toNat : Int) == 35) = false) (b5 : ((s[0].toNat : Int) == 34) = false) (hE : ErrsOk w) :
    Calls Tryz.prog 27 #[.string s] w fun e w' => e = .returned (TokV (oneT s.data.toList)) ∧ Below w.heap.size w w' := by
  have R0 := Lib.hid (Res1.first w zero5)
  have HE := Lib.hid (fun W (h : Below w.heap.size w W) => hE.below h hE.two)
  have hl := len_data s
  have hone : oneT s.data.toList = if wordL s.data.toList = [] then (noTk, 0, 30) else ((wordT (wordL s.data.toList)).1, (wordL s.data.toList).length, (wordT (wordL s.data.toList)).2) := by
    have hd := data_cons h0
    have := one_word (s.data.toList.drop 1) (byte_not (m := 40) rfl b1) (byte_not (m := 41) rfl b2) (byte_not (m := 39) rfl b3) (byte_not (m := 35) rfl b4) (byte_not (m := 34) rfl b5)
    rwa [← hd] at this
  have C22 := wordSize_any s (w.alloc (.cells zero5 33)) (by unfold maxLen; omega)
  have hwl := wordL_le s.data.toList
  rw [hone]
  by_cases hw : wordL s.data.toList = []
  · rw [if_pos hw]
    rw [hw] at C22
    have H22 := Lib.hid C22
    clear C22 hone hw hwl hl hE
    go_enter Tryz.func27, Tryz.ntmps27
    go_wp2_with fail
    refine H22.out.mono ?_
    rintro e w2 ⟨rfl, hb⟩
    have R2 := Lib.hid (R0.out.next hb)
    obtain ⟨c0, c1, c2, c3, c4⟩ := R2.out.cells
    obtain ⟨f0, f1, f2, f3, f4⟩ := R2.out.froz
    go_wp2
    have R3 := R2.out.put (.int .i64 0) (.string ⟨#[]⟩) (.int .i64 0) (.int .i64 0) (.int .i64 0)
    exact bodyPost_ret (results_row_tmp2 (P := Tryz.prog) rfl _ _ w.heap.size 33 _ (0, 0) _ rfl R3.2 Tryz.underlying33 rfl size35) rfl ⟨rfl, R3.1⟩
  · rw [if_neg hw]
    have hpos := List.length_pos_iff.2 hw
    obtain ⟨n, hn⟩ : ∃ n, n = (wordL s.data.toList).length := ⟨_, rfl⟩
    rw [← hn] at C22 hwl hpos ⊢
    have hx : (s.extract 0 n).data.toList = wordL s.data.toList := by
      rw [extract_list, List.drop_zero, Nat.sub_zero, hn, wordL_take]
    have C23 : ∀ W, ErrsOk W → Calls Tryz.prog 54 #[.string (s.extract 0 n)] W fun e w' => WordOk (wordL s.data.toList) e ∧ Below W.heap.size W w' := fun W h => by
      have := ofWord_any (s.extract 0 n) W (by simp; omega) (by simp; omega) h
      rwa [hx] at this
    unfold WordOk Tk.val at C23
    unfold TokV Tk.val
    simp only
    generalize wordT (wordL s.data.toList) = q at C23 ⊢
    obtain ⟨t, er⟩ := q
    simp only at C23 ⊢
    have hn1 : (0 : Int) < (n : Int) := by omega
    have hn2 : (n : Int) ≤ (s.size : Int) := by omega
    have H22 := Lib.hid C22
    have H23 := Lib.hid C23
    clear C22 C23 hone hw hwl hl hE hx hn
    go_enter Tryz.func27, Tryz.ntmps27
    go_wp2_with fail
    refine H22.out.mono ?_
    rintro e w2 ⟨rfl, hb⟩
    have R2 := Lib.hid (R0.out.next hb)
    clear hb
    go_wp2_with fail
    refine (H23.out w2 (HE.out _ R2.out.1)).mono ?_
    rintro e w3 ⟨rfl, hb⟩
    have R3 := Lib.hid (R2.out.next hb)
    have hlt := R3.out.lt
    obtain ⟨c0, c1, c2, c3, c4⟩ := R3.out.cells
    obtain ⟨f0, f1, f2, f3, f4⟩ := R3.out.froz
    clear hb
    go_wp2
    have R5 := (R3.out.put (.int .i64 t.kind) (.string ⟨t.text.toArray⟩) (.int .i64 t.int) (.int .i64 0) (.int .i64 0)).next ((Below.refl _ _).alloc (Nat.le_refl _) (.cells #[.int .i64 t.kind, .string ⟨t.text.toArray⟩, .int .i64 t.int, .int .i64 0, .int .i64 0] 33))
    exact bodyPost_ret (results_row_tmp2 (P := Tryz.prog) rfl _ _ w.heap.size 33 _ (0, 0) _ rfl R5.2 Tryz.underlying33 rfl size35) rfl ⟨rfl, R5.1⟩

theorem first_any (s : ByteArray) (w : World) (hs : s.size ≤ 4096) (h0 : 0 < s.size) (hE : ErrsOk w) :
    Calls Tryz.prog 27 #[.string s] w fun e w' => e = .returned (TokV (oneT s.data.toList)) ∧ Below w.heap.size w w' := by
  have hd := data_cons h0
  have hE' : ∀ W, Below w.heap.size w W → ErrsOk W := fun W h => hE.below h hE.two
  by_cases h1 : ((s[0].toNat : Int) == 40) = true
  · have e : oneT s.data.toList = (⟨0, [], 0⟩, 1, 0) := by rw [hd, byte_is (m := 40) rfl h1, oneT_cons, if_pos rfl]
    rw [e]; exact first_sign s w h0 0 (.inl ⟨h1, rfl⟩)
  have b1 : ((s[0].toNat : Int) == 40) = false := by simpa using h1
  by_cases h2 : ((s[0].toNat : Int) == 41) = true
  · have e : oneT s.data.toList = (⟨1, [], 0⟩, 1, 0) := by rw [hd, byte_is (m := 41) rfl h2, oneT_cons, if_neg (by decide), if_pos rfl]
    rw [e]; exact first_sign s w h0 1 (.inr ⟨b1, .inl ⟨h2, rfl⟩⟩)
  have b2 : ((s[0].toNat : Int) == 41) = false := by simpa using h2
  by_cases h3 : ((s[0].toNat : Int) == 39) = true
  · have e : oneT s.data.toList = (⟨3, [], 0⟩, 1, 0) := by rw [hd, byte_is (m := 39) rfl h3, oneT_cons, if_neg (by decide), if_neg (by decide), if_pos rfl]
    rw [e]; exact first_sign s w h0 3 (.inr ⟨b1, .inr ⟨b2, h3, rfl⟩⟩)
  have b3 : ((s[0].toNat : Int) == 39) = false := by simpa using h3
  by_cases h4 : ((s[0].toNat : Int) == 35) = true
  · have e : oneT s.data.toList = hashT (s.data.toList.drop 1) := by
      conv => lhs; rw [hd, byte_is (m := 35) rfl h4, one_hash]
    rw [e]
    refine first_hash s w h0 b1 b2 b3 _ (.inl ⟨h4, fun W hb => ofHash_any s _ W hs ?_ (hE' W hb)⟩)
    unfold isHash
    conv => lhs; rw [hd, byte_is (m := 35) rfl h4]
  have b4 : ((s[0].toNat : Int) == 35) = false := by simpa using h4
  by_cases h5 : ((s[0].toNat : Int) == 34) = true
  · have e : oneT s.data.toList = textV [] 1 (txt (s.data.toList.drop 1)) := by
      conv => lhs; rw [hd, byte_is (m := 34) rfl h5, one_text]
    rw [e]
    exact first_hash s w h0 b1 b2 b3 _ (.inr ⟨b4, h5, fun W hb => ofString_any s W hs h0 (hE' W hb)⟩)
  exact first_word s w hs h0 b1 b2 b3 b4 (by simpa using h5) hE
end Go.Proofs.YtiamojpeedllbaaGreatDoor
