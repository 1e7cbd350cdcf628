/-
Contracts of package lex's ofChar, ofHash: what each returns, for every string; where the two errors of strconv are as the program lays them.
-/
import Derived.Test.YtiamojpeedllbaaGreatDoorT9
namespace Go.Proofs.YtiamojpeedllbaaGreatDoor
open Go.ChangeShapes Go.WideShapes Go.ChangeAt Go.RowKit

def TokV (q : Tk × Nat × Int) : Value := .tuple #[q.1.val 0 0, .int .i64 (q.2.1 : Int), .int .i64 q.2.2]

theorem extract_list (s : ByteArray) (a b : Nat) : (s.extract a b).data.toList = (s.data.toList.drop a).take (b - a) := Lib.extract_data s a b

set_option maxRecDepth 100000 in
set_option maxHeartbeats 1000000 in
theorem ofChar_any (s : ByteArray) (w : World) (hs : s.size ≤ 4096) (h2 : 2 ≤ s.size) (hc : s.data.toList.drop 1 = 92 :: s.data.toList.drop 2) (hE : ErrsOk w) :
    Calls Tryz.prog 75 #[.string s] w fun e w' => e = .returned (TokV (hashT (s.data.toList.drop 1))) ∧ Below w.heap.size w w' := by
  have hl := len_data s
  have HE := Lib.hid (fun W (h : Below w.heap.size w W) => hE.below h hE.two)
  have R0 := Lib.hid (Res1.first w zero5)
  clear hE
  rw [hc]
  by_cases h : s.size = 2
  · have hd : s.data.toList.drop 2 = [] := List.drop_of_length_le (by omega)
    have e : hashT (92 :: s.data.toList.drop 2) = (noTk, 0, 31) := by
      rw [hd, hashT_else (by simp) (by simp), if_neg (by decide), if_neg (by decide)]
    rw [e]
    have h' : ((s.size : Int) == 2) = true := by rw [h]; rfl
    clear e hd hc hl h
    go_enter Tryz.func75, Tryz.ntmps75
    go_wp2
    exact bodyPost_ret (results_row_tmp2 (P := Tryz.prog) rfl _ _ w.heap.size 33 _ (0, 0) _ rfl R0.out.2 Tryz.underlying33 rfl size35) rfl ⟨rfl, R0.out.1⟩
  · have h' : ((s.size : Int) == 2) = false := by simp; omega
    have h2' : (2 : Int) ≤ (s.size : Int) := by omega
    have C22 : ∀ W, Calls Tryz.prog 53 #[.string (s.extract 2 s.size)] W fun e w' => e = .returned (.int .i64 ((wordL (s.data.toList.drop 2)).length : Int)) ∧ Below W.heap.size W w' := fun W => by
      have := wordSize_any (s.extract 2 s.size) W (by unfold maxLen; simp; omega)
      rwa [extract_list, List.take_of_length_le (by rw [List.length_drop]; omega)] at this
    have hne : s.data.toList.drop 2 ≠ [] := by
      intro e
      have := congrArg List.length e
      rw [List.length_drop] at this
      simp at this; omega
    have hw := wordL_le (s.data.toList.drop 2)
    rw [List.length_drop, hl] at hw
    obtain ⟨n, hn⟩ : ∃ n, n = (wordL (s.data.toList.drop 2)).length := ⟨_, rfl⟩
    obtain ⟨m, hm⟩ : ∃ m, m = max 1 n := ⟨_, rfl⟩
    rw [← hn] at C22 hw
    have hm1 : 1 ≤ m := by omega
    have hm2 : m ≤ s.size - 2 := by omega
    have he : hashT (92 :: s.data.toList.drop 2) = (match charV ((s.data.toList.drop 2).take m) with | some x => ((⟨7, [], x⟩ : Tk), 2 + m, (0 : Int)) | none => (noTk, 0, 31)) := by
      cases hd : s.data.toList.drop 2 with
      | nil => exact absurd hd hne
      | cons a b =>
        rw [hashT_char, ← hd, ← hn, ← hm]
        cases charV ((s.data.toList.drop 2).take m) <;> rfl
    have hx : (s.extract 2 (2 + m)).data.toList = (s.data.toList.drop 2).take m := by rw [extract_list, Nat.add_sub_cancel_left]
    have hxs : (s.extract 2 (2 + m)).size = m := by simp; omega
    have C52 : ∀ W, ErrsOk W → Calls Tryz.prog 99 #[.string (s.extract 2 (2 + m))] W fun e w' => e = .returned (optV (charV ((s.data.toList.drop 2).take m))) ∧ Below W.heap.size W w' := fun W h => by
      have := charByte_any (s.extract 2 (2 + m)) W (by omega) (by omega) h
      rwa [hx] at this
    rw [he]
    have H22 := Lib.hid C22
    have hto : (2 + max 1 (n : Int)).toNat = 2 + m := by omega
    have HCA : Hid (((2 + m : Nat) : Int) = 2 + max 1 (n : Int)) := Lib.hid (by omega)
    have hb1 : 2 ≤ 2 + max 1 (n : Int) := by omega
    have hb2 : 2 + max 1 (n : Int) ≤ (s.size : Int) := by omega
    rw [← hto] at C52
    clear C22 he hx hxs hne hc hl hn hto
    cases ho : charV ((s.data.toList.drop 2).take m) with
    | none =>
      rw [ho] at C52
      have H52 := Lib.hid C52
      clear C52 ho
      go_enter Tryz.func75, Tryz.ntmps75
      go_wp2_with fail
      refine (H22.out _).mono ?_
      rintro e w1 ⟨rfl, hb⟩
      have R1 := Lib.hid (R0.out.next hb)
      clear hb
      go_wp2_with fail
      refine (H52.out w1 (HE.out _ R1.out.1)).mono ?_
      rintro e w2 ⟨he, hb⟩
      rw [optV] at he
      subst he
      have R2 := Lib.hid (R1.out.next hb)
      obtain ⟨c0, c1, c2, c3, c4⟩ := R2.out.cells
      obtain ⟨f0, f1, f2, f3, f4⟩ := R2.out.froz
      go_wp2
      have R3 := R2.out.put (.int .i64 0) (.string ⟨#[]⟩) (.int .i64 0) (.int .i64 0) (.int .i64 0)
      exact bodyPost_ret (results_row_tmp2 (P := Tryz.prog) rfl _ _ w.heap.size 33 _ (0, 0) _ rfl R3.2 Tryz.underlying33 rfl size35) rfl ⟨rfl, R3.1⟩
    | some x =>
      rw [ho] at C52
      have H52 := Lib.hid C52
      clear C52 ho
      go_enter Tryz.func75, Tryz.ntmps75
      go_wp2_with fail
      refine (H22.out _).mono ?_
      rintro e w1 ⟨rfl, hb⟩
      have R1 := Lib.hid (R0.out.next hb)
      clear hb
      go_wp2_with fail
      refine (H52.out w1 (HE.out _ R1.out.1)).mono ?_
      rintro e w2 ⟨he, hb⟩
      rw [optV] at he
      subst he
      have R2 := Lib.hid (R1.out.next hb)
      obtain ⟨c0, c1, c2, c3, c4⟩ := R2.out.cells
      obtain ⟨f0, f1, f2, f3, f4⟩ := R2.out.froz
      go_wp2
      have R3 := R2.out.put (.int .i64 7) (.string ⟨#[]⟩) (.int .i64 x) (.int .i64 0) (.int .i64 0)
      exact bodyPost_ret (results_row_tmp2 (P := Tryz.prog) rfl _ _ w.heap.size 33 _ (0, 0) _ rfl R3.2 Tryz.underlying33 rfl size35) rfl ⟨by unfold TokV; simp only; rw [HCA.out]; rfl, R3.1⟩
end Go.Proofs.YtiamojpeedllbaaGreatDoor
