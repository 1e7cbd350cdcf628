/-
Contract of package lex's ofHash: what it returns, for every string that begins with a #; where the two errors of strconv are as the program lays them.
-/
import Derived.Test.YtiamojpeedllbaaGreatDoorT10
namespace Go.Proofs.YtiamojpeedllbaaGreatDoor
open Go.ChangeShapes Go.WideShapes Go.ChangeAt Go.RowKit

theorem prefix_two (r : List UInt8) (c : UInt8) : Lib.hasPrefix (35 :: r) [35, c] = (r.head? == some c) := by
  unfold Lib.hasPrefix
  cases r with
  | nil => rfl
  | cons a q => simp [List.isPrefixOf]; exact BEq.comm
def isHash (s : ByteArray) (r : List UInt8) : Prop := s.data.toList = 35 :: r

set_option maxRecDepth 100000 in
theorem ofHash_open (s : ByteArray) (r : List UInt8) (w : World) (h : isHash s r) (hq : r.head? = some 40) :
    Calls Tryz.prog 51 #[.string s] w fun e w' => e = .returned (TokV (⟨2, [], 0⟩, 2, 0)) ∧ Below w.heap.size w w' := by
  have C : ∀ W, Calls Tryz.prog 74 #[.string s, .string ⟨#[35, 40]⟩] W fun e w' => e = .returned (.bool true) ∧ w' = W := fun W => by
    have := Tryz.strings_HasPrefix s ⟨#[35, 40]⟩ W
    rw [h, prefix_two, hq] at this
    exact this
  have H := Lib.hid C
  clear C hq h
  go_enter Tryz.func51, Tryz.ntmps51
  go_wp2_with (go_at_call 74; ((with_reducible refine (H.out _).mono ?_); rintro e w' ⟨rfl, rfl⟩))
  have R2 := Res1.first w #[.int .i64 2, .string ⟨#[]⟩, .int .i64 0, .int .i64 0, .int .i64 0]
  exact bodyPost_ret (results_row_tmp2 (P := Tryz.prog) rfl _ _ w.heap.size 33 _ (0, 0) _ rfl R2.2 Tryz.underlying33 rfl size35) rfl ⟨rfl, R2.1⟩

set_option maxRecDepth 100000 in
theorem ofHash_char (s : ByteArray) (r : List UInt8) (w : World) (hs : s.size ≤ 4096) (h : isHash s r) (hq : r.head? = some 92) (hE : ErrsOk w) :
    Calls Tryz.prog 51 #[.string s] w fun e w' => e = .returned (TokV (hashT r)) ∧ Below w.heap.size w w' := by
  have hd1 : s.data.toList.drop 1 = r := by rw [h]; rfl
  have h2 : 2 ≤ s.size := by
    rw [← len_data, h]
    match r, hq with
    | _ :: _, _ => simp
  have hc : s.data.toList.drop 1 = 92 :: s.data.toList.drop 2 := by
    rw [h]
    match r, hq with
    | a :: q, hq => simp at hq; subst hq; rfl
  have R0 := Lib.hid (Res1.first w zero5)
  have C1 : ∀ W, Calls Tryz.prog 74 #[.string s, .string ⟨#[35, 40]⟩] W fun e w' => e = .returned (.bool false) ∧ w' = W := fun W => by
    have := Tryz.strings_HasPrefix s ⟨#[35, 40]⟩ W
    rw [h, prefix_two, hq] at this
    exact this
  have C2 : ∀ W, Calls Tryz.prog 74 #[.string s, .string ⟨#[35, 92]⟩] W fun e w' => e = .returned (.bool true) ∧ w' = W := fun W => by
    have := Tryz.strings_HasPrefix s ⟨#[35, 92]⟩ W
    rw [h, prefix_two, hq] at this
    exact this
  have C3 := ofChar_any s (w.alloc (.cells zero5 33)) hs h2 hc (hE.below R0.out.1 hE.two)
  rw [hd1] at C3
  unfold TokV Tk.val at C3 ⊢
  generalize hashT r = q at C3 ⊢
  obtain ⟨t, n, er⟩ := q
  simp only at C3 ⊢
  have H1 := Lib.hid C1
  have H2 := Lib.hid C2
  have H3 := Lib.hid C3
  clear C1 C2 C3 hc h2 hd1 hq h hE
  go_enter Tryz.func51, Tryz.ntmps51
  go_wp2_with (first
    | (go_at_call 74; ((with_reducible refine (H1.out _).mono ?_); rintro e w' ⟨rfl, rfl⟩))
    | (go_at_call 74; ((with_reducible refine (H2.out _).mono ?_); rintro e w' ⟨rfl, rfl⟩)))
  refine H3.out.mono ?_
  rintro e w2 ⟨rfl, hb⟩
  have R2 := Lib.hid (R0.out.next hb)
  obtain ⟨c0, c1, c2, c3, c4⟩ := R2.out.cells
  obtain ⟨f0, f1, f2, f3, f4⟩ := R2.out.froz
  go_wp2
  have R3 := R2.out.put (.int .i64 t.kind) (.string ⟨t.text.toArray⟩) (.int .i64 t.int) (.int .i64 0) (.int .i64 0)
  exact bodyPost_ret (results_row_tmp2 (P := Tryz.prog) rfl _ _ w.heap.size 33 _ (0, 0) _ rfl R3.2 Tryz.underlying33 rfl size35) rfl ⟨rfl, R3.1⟩

set_option maxRecDepth 100000 in
theorem ofHash_word (s : ByteArray) (r : List UInt8) (w : World) (hs : s.size ≤ 4096) (h : isHash s r) (h40 : (r.head? == some 40) = false) (h92 : (r.head? == some 92) = false) :
    Calls Tryz.prog 51 #[.string s] w fun e w' => e = .returned (TokV (hashT r)) ∧ Below w.heap.size w w' := by
  have hd1 : s.data.toList.drop 1 = r := by rw [h]; rfl
  have hl := len_data s
  have hlr : r.length + 1 = s.size := by rw [← hl, h]; simp
  have R0 := Lib.hid (Res1.first w zero5)
  have C1 : ∀ W, Calls Tryz.prog 74 #[.string s, .string ⟨#[35, 40]⟩] W fun e w' => e = .returned (.bool false) ∧ w' = W := fun W => by
    have := Tryz.strings_HasPrefix s ⟨#[35, 40]⟩ W
    rw [h, prefix_two, h40] at this
    exact this
  have C2 : ∀ W, Calls Tryz.prog 74 #[.string s, .string ⟨#[35, 92]⟩] W fun e w' => e = .returned (.bool false) ∧ w' = W := fun W => by
    have := Tryz.strings_HasPrefix s ⟨#[35, 92]⟩ W
    rw [h, prefix_two, h92] at this
    exact this
  have hT : hashT r = if wordL r = [116] then (⟨5, [], 1⟩, 2, 0) else if wordL r = [102] then (⟨5, [], 0⟩, 2, 0) else (noTk, 0, 31) := by
    refine hashT_else (fun q e => ?_) (fun c q e => ?_)
    · rw [e] at h40; simp at h40
    · rw [e] at h92; simp at h92
  have C22 : ∀ W, Calls Tryz.prog 53 #[.string (s.extract 1 s.size)] W fun e w' => e = .returned (.int .i64 ((wordL r).length : Int)) ∧ Below W.heap.size W w' := fun W => by
    have := wordSize_any (s.extract 1 s.size) W (by unfold maxLen; simp; omega)
    rwa [extract_list, List.take_of_length_le (by rw [List.length_drop]; omega), hd1] at this
  have hwl := wordL_le r
  have hx : (s.extract 0 (1 + (wordL r).length)).data.toList = 35 :: wordL r := by
    rw [extract_list, h, List.drop_zero, Nat.sub_zero, Nat.add_comm, List.take_succ_cons, wordL_take]
  have hsz : (1 : Int) ≤ (s.size : Int) := by omega
  have H1 := Lib.hid C1
  have H2 := Lib.hid C2
  rw [hT]
  by_cases ha : wordL r = [116]
  · rw [if_pos ha]
    rw [ha] at C22 hx hwl
    simp only [List.length_cons, List.length_nil, Nat.zero_add, Nat.reduceAdd] at C22 hx hwl
    have e1 : (s.extract 0 2).toList = [35, 116] := by rw [ByteArray.toList_eq]; exact hx
    have e2 : ((s.extract 0 2).toList == [35, 116]) = true := by rw [e1]; rfl
    have hs2 : (2 : Int) ≤ (s.size : Int) := by omega
    have H22 := Lib.hid C22
    clear C1 C2 C22 hT hx ha hwl hlr hl hd1 h40 h92 h
    go_enter Tryz.func51, Tryz.ntmps51
    go_wp2_with (first
      | (go_at_call 74; ((with_reducible refine (H1.out _).mono ?_); rintro e w' ⟨rfl, rfl⟩))
      | (go_at_call 74; ((with_reducible refine (H2.out _).mono ?_); rintro e w' ⟨rfl, rfl⟩)))
    refine (H22.out _).mono ?_
    rintro e w2 ⟨rfl, hb⟩
    have R2 := Lib.hid (R0.out.next hb)
    obtain ⟨c0, c1, c2, c3, c4⟩ := R2.out.cells
    obtain ⟨f0, f1, f2, f3, f4⟩ := R2.out.froz
    go_wp2
    have R3 := R2.out.put (.int .i64 5) (.string ⟨#[]⟩) (.int .i64 1) (.int .i64 0) (.int .i64 0)
    exact bodyPost_ret (results_row_tmp2 (P := Tryz.prog) rfl _ _ w.heap.size 33 _ (0, 0) _ rfl R3.2 Tryz.underlying33 rfl size35) rfl ⟨rfl, R3.1⟩
  · rw [if_neg ha]
    by_cases hb0 : wordL r = [102]
    · rw [if_pos hb0]
      rw [hb0] at C22 hx hwl
      simp only [List.length_cons, List.length_nil, Nat.zero_add, Nat.reduceAdd] at C22 hx hwl
      have e1 : (s.extract 0 2).toList = [35, 102] := by rw [ByteArray.toList_eq]; exact hx
      have e2 : ((s.extract 0 2).toList == [35, 102]) = true := by rw [e1]; rfl
      have e3 : ¬ (s.extract 0 2).toList = [35, 116] := by rw [e1]; decide
      have e4 : ((s.extract 0 2).toList == [35, 116]) = false := by rw [e1]; rfl
      have hs2 : (2 : Int) ≤ (s.size : Int) := by omega
      have H22 := Lib.hid C22
      have E1 := Lib.hid e1
      clear C1 C2 C22 hT hx ha hb0 hwl hlr hl hd1 h40 h92 h e1
      go_enter Tryz.func51, Tryz.ntmps51
      go_wp2_with (first
        | (go_at_call 74; ((with_reducible refine (H1.out _).mono ?_); rintro e w' ⟨rfl, rfl⟩))
        | (go_at_call 74; ((with_reducible refine (H2.out _).mono ?_); rintro e w' ⟨rfl, rfl⟩)))
      refine (H22.out _).mono ?_
      rintro e w2 ⟨rfl, hb⟩
      have R2 := Lib.hid (R0.out.next hb)
      obtain ⟨c0, c1, c2, c3, c4⟩ := R2.out.cells
      obtain ⟨f0, f1, f2, f3, f4⟩ := R2.out.froz
      have e1 := E1.out
      clear E1
      go_wp2
      have R3 := R2.out.put (.int .i64 5) (.string ⟨#[]⟩) (.int .i64 0) (.int .i64 0) (.int .i64 0)
      exact bodyPost_ret (results_row_tmp2 (P := Tryz.prog) rfl _ _ w.heap.size 33 _ (0, 0) _ rfl R3.2 Tryz.underlying33 rfl size35) rfl ⟨rfl, R3.1⟩
    · rw [if_neg hb0]
      obtain ⟨n, hn⟩ : ∃ n, n = (wordL r).length := ⟨_, rfl⟩
      rw [← hn] at C22 hwl hx
      have e1 : ¬ (s.extract 0 (1 + n)).toList = [35, 116] := by rw [ByteArray.toList_eq, hx]; intro e; simp at e; exact ha e
      have e2 : ((s.extract 0 (1 + n)).toList == [35, 116]) = false := by simpa using e1
      have e3 : ¬ (s.extract 0 (1 + n)).toList = [35, 102] := by rw [ByteArray.toList_eq, hx]; intro e; simp at e; exact hb0 e
      have e4 : ((s.extract 0 (1 + n)).toList == [35, 102]) = false := by simpa using e3
      have hs2 : 1 + (n : Int) ≤ (s.size : Int) := by omega
      have H22 := Lib.hid C22
      clear C1 C2 C22 hT hx ha hb0 hwl hlr hl hd1 h40 h92 h hn
      go_enter Tryz.func51, Tryz.ntmps51
      go_wp2_with (first
        | (go_at_call 74; ((with_reducible refine (H1.out _).mono ?_); rintro e w' ⟨rfl, rfl⟩))
        | (go_at_call 74; ((with_reducible refine (H2.out _).mono ?_); rintro e w' ⟨rfl, rfl⟩)))
      refine (H22.out _).mono ?_
      rintro e w2 ⟨rfl, hb⟩
      have R2 := Lib.hid (R0.out.next hb)
      obtain ⟨c0, c1, c2, c3, c4⟩ := R2.out.cells
      obtain ⟨f0, f1, f2, f3, f4⟩ := R2.out.froz
      go_wp2
      have R3 := R2.out.put (.int .i64 0) (.string ⟨#[]⟩) (.int .i64 0) (.int .i64 0) (.int .i64 0)
      exact bodyPost_ret (results_row_tmp2 (P := Tryz.prog) rfl _ _ w.heap.size 33 _ (0, 0) _ rfl R3.2 Tryz.underlying33 rfl size35) rfl ⟨rfl, R3.1⟩

theorem ofHash_any (s : ByteArray) (r : List UInt8) (w : World) (hs : s.size ≤ 4096) (h : isHash s r) (hE : ErrsOk w) :
    Calls Tryz.prog 51 #[.string s] w fun e w' => e = .returned (TokV (hashT r)) ∧ Below w.heap.size w w' := by
  by_cases h40 : r.head? = some 40
  · have e : hashT r = (⟨2, [], 0⟩, 2, 0) := by
      match r, h40 with
      | a :: q, h40 => simp at h40; subst h40; rw [hashT]
    rw [e]
    exact ofHash_open s r w h h40
  · by_cases h92 : r.head? = some 92
    · exact ofHash_char s r w hs h h92 hE
    · exact ofHash_word s r w hs h (by simpa using h40) (by simpa using h92)
end Go.Proofs.YtiamojpeedllbaaGreatDoor
