/-
Texts T9b, T10, T11, T12, T13, T14, T15, T16, one behind the other (a claim bears sixty files). Conditions: as each says.
-/
import Derived.Test.YthfjlcflpneffaaGreatDoorWT
import Derived.Lib.Builder
import Derived.Lib.FrozenHead
import Derived.Lib.UnsafeStr
import Derived.Laws.Externs
import Derived.RegionTactic
import Derived.Laws.OwnMore
import Derived.Laws.AppendOwnNone
import Derived.Deep.QuietTactic
import Derived.BigQuiet

/-
Contracts of package lex's stringByte: what it returns, for every string; where the two errors of strconv are as the program lays them.
-/
namespace Go.Proofs.YthfjlcflpneffaaGreatDoor
open Go.ChangeShapes Go.WideShapes Go.ChangeAt Go.RowKit

/-- What stringByte answers. -/
def escR : Option (UInt8 × Nat) → Value
  | some (b, n) => .tuple #[.int .u8 (b.toNat : Int), .int .i64 (n : Int)]
  | none => .tuple #[.int .u8 0, .int .i64 0]
set_option maxRecDepth 100000 in
set_option maxHeartbeats 1000000 in
theorem stringByte_any (s : ByteArray) (w : World) (hs : s.size ≤ 4096) (h0 : 0 < s.size) (hE : ErrsOk w) :
    Calls Tryz.prog 71 #[.string s] w fun e w' => e = .returned (escR (escV s.data.toList)) ∧ Below w.heap.size w w' := by
  by_cases hb : ((s[0].toNat : Int) == 92) = true
  · have hc := byte_is (m := 92) rfl hb
    have hbn : ((s[0].toNat : Int) != 92) = false := by rw [hc]; rfl
    by_cases h1 : s.size = 1
    · have e : escV s.data.toList = none := by rw [list_one h1 h0, escV.eq_def]; simp [hc]
      rw [e]
      have h1' : ((s.size : Int) == 1) = true := by rw [h1]; rfl
      clear e h1 hc
      go_enter Tryz.func71, Tryz.ntmps71
      go_wp2
      go_ret2
      exact ⟨rfl, Below.refl _ _⟩
    · have h1' : ((s.size : Int) == 1) = false := by simp; omega
      have hlt : 1 < s.size := by omega
      have hd := data_cons2 hlt
      have hi : (1 : Int) < (s.size : Int) := by omega
      by_cases q1 : ((s[1].toNat : Int) == 34) = true
      · have hq := byte_is (m := 34) rfl q1
        have e : escV s.data.toList = some (s[1], 2) := by rw [hd, escV.eq_def]; simp [hc, hq]
        rw [e]
        clear e h1 hc hd hq
        go_enter Tryz.func71, Tryz.ntmps71
        go_wp2
        go_ret2
        exact ⟨rfl, Below.refl _ _⟩
      have q1' : ((s[1].toNat : Int) == 34) = false := by simpa using q1
      have n1 := byte_not (m := 34) rfl q1'
      by_cases q2 : ((s[1].toNat : Int) == 92) = true
      · have hq := byte_is (m := 92) rfl q2
        have e : escV s.data.toList = some (s[1], 2) := by rw [hd, escV.eq_def]; simp [hc, hq]
        rw [e]
        clear e h1 hc hd hq q1 n1
        go_enter Tryz.func71, Tryz.ntmps71
        go_wp2
        go_ret2
        exact ⟨rfl, Below.refl _ _⟩
      have q2' : ((s[1].toNat : Int) == 92) = false := by simpa using q2
      have n2 := byte_not (m := 92) rfl q2'
      by_cases q3 : ((s[1].toNat : Int) == 110) = true
      · have hq := byte_is (m := 110) rfl q3
        have e : escV s.data.toList = some (10, 2) := by rw [hd, escV.eq_def]; simp [hc, hq]
        rw [e]
        clear e h1 hc hd hq q1 n1 q2 n2
        go_enter Tryz.func71, Tryz.ntmps71
        go_wp2
        go_ret2
        exact ⟨rfl, Below.refl _ _⟩
      have q3' : ((s[1].toNat : Int) == 110) = false := by simpa using q3
      have n3 := byte_not (m := 110) rfl q3'
      by_cases q4 : ((s[1].toNat : Int) == 120) = true
      · have hq := byte_is (m := 120) rfl q4
        have e : escV s.data.toList = (match twoV (s.data.toList.drop 2) with | some x => some (UInt8.ofNat x, 4) | none => none) := by
          conv => lhs; rw [hd]
          rw [escV.eq_def]; simp [hc, hq]
          cases twoV (List.drop 2 s.data.toList) <;> rfl
        obtain ⟨k, hk⟩ : ∃ k, k = min 4 s.size := ⟨_, rfl⟩
        have hk1 : k ≤ s.size := by omega
        have hk2 : 2 ≤ k := by omega
        have hto : (min 4 (s.size : Int)).toNat = k := by omega
        have hb1 : 2 ≤ min 4 (s.size : Int) := by omega
        have hb2 : min 4 (s.size : Int) ≤ (s.size : Int) := by omega
        have hx : hexO (s.extract 2 k).data.toList = twoV (s.data.toList.drop 2) := by
          have he : (s.extract 2 k).data.toList = (s.data.toList.drop 2).take (k - 2) := by rw [Lib.extract_data]
          have hl : s.data.toList.length = s.size := len_data s
          rw [he, hexO, List.length_take, List.length_drop, hl]
          by_cases h4 : 4 ≤ s.size
          · rw [if_pos (by omega), show k - 2 = 2 by omega]
            have hlen : 2 ≤ (s.data.toList.drop 2).length := by rw [List.length_drop, hl]; omega
            match s.data.toList.drop 2, hlen with
            | a :: b :: r, _ => simp [twoV]
          · rw [if_neg (by omega)]
            have hlen : (s.data.toList.drop 2).length < 2 := by rw [List.length_drop, hl]; omega
            match s.data.toList.drop 2, hlen with
            | [], _ => rfl
            | [_], _ => rfl
        have C := hexByte_any (s.extract 2 k) w hE
        rw [hx, ← hto] at C
        rw [e]
        cases ho : twoV (s.data.toList.drop 2) with
        | none =>
          rw [ho] at C
          have H := Lib.hid C
          clear e h1 hc hd hq q1 n1 q2 n2 q3 n3 hx ho C hk hto
          go_enter Tryz.func71, Tryz.ntmps71
          go_wp2_with fail
          refine H.out.mono ?_
          rintro e w1 ⟨he, hb⟩
          rw [optV] at he
          subst he
          go_wp2
          go_ret2
          exact ⟨rfl, hb⟩
        | some x =>
          rw [ho] at C
          have hlt2 := twoV_lt ho
          have H := Lib.hid C
          have hxx : ((UInt8.ofNat x).toNat : Int) = (x : Int) := by simp; omega
          have HX := Lib.hid hxx
          clear e h1 hc hd hq q1 n1 q2 n2 q3 n3 hx ho C hk hxx hto
          go_enter Tryz.func71, Tryz.ntmps71
          go_wp2_with fail
          refine H.out.mono ?_
          rintro e w1 ⟨he, hb⟩
          rw [optV] at he
          subst he
          go_wp2
          go_ret2
          exact ⟨by rw [escR, HX.out]; rfl, hb⟩
      · have q4' : ((s[1].toNat : Int) == 120) = false := by simpa using q4
        have n4 := byte_not (m := 120) rfl q4'
        have e : escV s.data.toList = none := by rw [hd, escV.eq_def]; simp [hc, n1, n2, n3, n4]
        rw [e]
        clear e h1 hc hd q1 n1 q2 n2 q3 n3 q4 n4
        go_enter Tryz.func71, Tryz.ntmps71
        go_wp2
        go_ret2
        exact ⟨rfl, Below.refl _ _⟩
  · have hb' : ((s[0].toNat : Int) == 92) = false := by simpa using hb
    have hbn : ((s[0].toNat : Int) != 92) = true := by simpa using hb
    have hc := byte_not (m := 92) rfl hb'
    have e : escV s.data.toList = some (s[0], 1) := by rw [data_cons h0, escV.eq_def]; simp [hc]
    rw [e]
    clear e hc hb
    go_enter Tryz.func71, Tryz.ntmps71
    go_wp2
    go_ret2
    exact ⟨rfl, Below.refl _ _⟩
end Go.Proofs.YthfjlcflpneffaaGreatDoor

/-
Contracts of package lex's ofChar, ofHash: what each returns, for every string; where the two errors of strconv are as the program lays them.
-/
namespace Go.Proofs.YthfjlcflpneffaaGreatDoor
open Go.ChangeShapes Go.WideShapes Go.ChangeAt Go.RowKit

def TokV (q : Tk × Nat × Int) : Value := .tuple #[q.1.val 0 0, .int .i64 (q.2.1 : Int), .int .i64 q.2.2]

theorem extract_list (s : ByteArray) (a b : Nat) : (s.extract a b).data.toList = (s.data.toList.drop a).take (b - a) := Lib.extract_data s a b

set_option maxRecDepth 100000 in
set_option maxHeartbeats 1000000 in
theorem ofChar_any (s : ByteArray) (w : World) (hs : s.size ≤ 4096) (h2 : 2 ≤ s.size) (hc : s.data.toList.drop 1 = 92 :: s.data.toList.drop 2) (hE : ErrsOk w) :
    Calls Tryz.prog 70 #[.string s] w fun e w' => e = .returned (TokV (hashT (s.data.toList.drop 1))) ∧ Below w.heap.size w w' := by
  have hl := len_data s
  have HE := Lib.hid (fun W (h : Below w.heap.size w W) => hE.below h hE.two)
  have R0 := Lib.hid (Res1.first w zero5)
  clear hE
  rw [hc]
  by_cases h : s.size = 2
  · have hd : s.data.toList.drop 2 = [] := List.drop_of_length_le (by omega)
    have e : hashT (92 :: s.data.toList.drop 2) = (noTk, 0, 31) := by
      rw [hd, hashT_else (by simp) (by simp), if_neg (by decide), if_neg (by decide)]
    rw [e]
    have h' : ((s.size : Int) == 2) = true := by rw [h]; rfl
    clear e hd hc hl h
    go_enter Tryz.func70, Tryz.ntmps70
    go_wp2
    exact bodyPost_ret (results_row_tmp2 (P := Tryz.prog) rfl _ _ w.heap.size 52 _ (0, 0) _ rfl R0.out.2 Tryz.underlying52 rfl size35) rfl ⟨rfl, R0.out.1⟩
  · have h' : ((s.size : Int) == 2) = false := by simp; omega
    have h2' : (2 : Int) ≤ (s.size : Int) := by omega
    have C22 : ∀ W, Calls Tryz.prog 51 #[.string (s.extract 2 s.size)] W fun e w' => e = .returned (.int .i64 ((wordL (s.data.toList.drop 2)).length : Int)) ∧ Below W.heap.size W w' := fun W => by
      have := wordSize_any (s.extract 2 s.size) W (by unfold maxLen; simp; omega)
      rwa [extract_list, List.take_of_length_le (by rw [List.length_drop]; omega)] at this
    have hne : s.data.toList.drop 2 ≠ [] := by
      intro e
      have := congrArg List.length e
      rw [List.length_drop] at this
      simp at this; omega
    have hw := wordL_le (s.data.toList.drop 2)
    rw [List.length_drop, hl] at hw
    obtain ⟨n, hn⟩ : ∃ n, n = (wordL (s.data.toList.drop 2)).length := ⟨_, rfl⟩
    obtain ⟨m, hm⟩ : ∃ m, m = max 1 n := ⟨_, rfl⟩
    rw [← hn] at C22 hw
    have hm1 : 1 ≤ m := by omega
    have hm2 : m ≤ s.size - 2 := by omega
    have he : hashT (92 :: s.data.toList.drop 2) = (match charV ((s.data.toList.drop 2).take m) with | some x => ((⟨7, [], x⟩ : Tk), 2 + m, (0 : Int)) | none => (noTk, 0, 31)) := by
      cases hd : s.data.toList.drop 2 with
      | nil => exact absurd hd hne
      | cons a b =>
        rw [hashT_char, ← hd, ← hn, ← hm]
        cases charV ((s.data.toList.drop 2).take m) <;> rfl
    have hx : (s.extract 2 (2 + m)).data.toList = (s.data.toList.drop 2).take m := by rw [extract_list, Nat.add_sub_cancel_left]
    have hxs : (s.extract 2 (2 + m)).size = m := by simp; omega
    have C52 : ∀ W, ErrsOk W → Calls Tryz.prog 89 #[.string (s.extract 2 (2 + m))] W fun e w' => e = .returned (optV (charV ((s.data.toList.drop 2).take m))) ∧ Below W.heap.size W w' := fun W h => by
      have := charByte_any (s.extract 2 (2 + m)) W (by omega) (by omega) h
      rwa [hx] at this
    rw [he]
    have H22 := Lib.hid C22
    have hto : (2 + max 1 (n : Int)).toNat = 2 + m := by omega
    have HCA : Hid (((2 + m : Nat) : Int) = 2 + max 1 (n : Int)) := Lib.hid (by omega)
    have hb1 : 2 ≤ 2 + max 1 (n : Int) := by omega
    have hb2 : 2 + max 1 (n : Int) ≤ (s.size : Int) := by omega
    rw [← hto] at C52
    clear C22 he hx hxs hne hc hl hn hto
    cases ho : charV ((s.data.toList.drop 2).take m) with
    | none =>
      rw [ho] at C52
      have H52 := Lib.hid C52
      clear C52 ho
      go_enter Tryz.func70, Tryz.ntmps70
      go_wp2_with fail
      refine (H22.out _).mono ?_
      rintro e w1 ⟨rfl, hb⟩
      have R1 := Lib.hid (R0.out.next hb)
      clear hb
      go_wp2_with fail
      refine (H52.out w1 (HE.out _ R1.out.1)).mono ?_
      rintro e w2 ⟨he, hb⟩
      rw [optV] at he
      subst he
      have R2 := Lib.hid (R1.out.next hb)
      obtain ⟨c0, c1, c2, c3, c4⟩ := R2.out.cells
      obtain ⟨f0, f1, f2, f3, f4⟩ := R2.out.froz
      go_wp2
      have R3 := R2.out.put (.int .i64 0) (.string ⟨#[]⟩) (.int .i64 0) (.int .i64 0) (.int .i64 0)
      exact bodyPost_ret (results_row_tmp2 (P := Tryz.prog) rfl _ _ w.heap.size 52 _ (0, 0) _ rfl R3.2 Tryz.underlying52 rfl size35) rfl ⟨rfl, R3.1⟩
    | some x =>
      rw [ho] at C52
      have H52 := Lib.hid C52
      clear C52 ho
      go_enter Tryz.func70, Tryz.ntmps70
      go_wp2_with fail
      refine (H22.out _).mono ?_
      rintro e w1 ⟨rfl, hb⟩
      have R1 := Lib.hid (R0.out.next hb)
      clear hb
      go_wp2_with fail
      refine (H52.out w1 (HE.out _ R1.out.1)).mono ?_
      rintro e w2 ⟨he, hb⟩
      rw [optV] at he
      subst he
      have R2 := Lib.hid (R1.out.next hb)
      obtain ⟨c0, c1, c2, c3, c4⟩ := R2.out.cells
      obtain ⟨f0, f1, f2, f3, f4⟩ := R2.out.froz
      go_wp2
      have R3 := R2.out.put (.int .i64 7) (.string ⟨#[]⟩) (.int .i64 x) (.int .i64 0) (.int .i64 0)
      exact bodyPost_ret (results_row_tmp2 (P := Tryz.prog) rfl _ _ w.heap.size 52 _ (0, 0) _ rfl R3.2 Tryz.underlying52 rfl size35) rfl ⟨by unfold TokV; simp only; rw [HCA.out]; rfl, R3.1⟩
end Go.Proofs.YthfjlcflpneffaaGreatDoor

/-
Contract of package lex's ofHash: what it returns, for every string that begins with a #; where the two errors of strconv are as the program lays them.
-/
namespace Go.Proofs.YthfjlcflpneffaaGreatDoor
open Go.ChangeShapes Go.WideShapes Go.ChangeAt Go.RowKit

theorem prefix_two (r : List UInt8) (c : UInt8) : Lib.hasPrefix (35 :: r) [35, c] = (r.head? == some c) := by
  unfold Lib.hasPrefix
  cases r with
  | nil => rfl
  | cons a q => simp [List.isPrefixOf]; exact BEq.comm
def isHash (s : ByteArray) (r : List UInt8) : Prop := s.data.toList = 35 :: r

set_option maxRecDepth 100000 in
theorem ofHash_open (s : ByteArray) (r : List UInt8) (w : World) (h : isHash s r) (hq : r.head? = some 40) :
    Calls Tryz.prog 49 #[.string s] w fun e w' => e = .returned (TokV (⟨2, [], 0⟩, 2, 0)) ∧ Below w.heap.size w w' := by
  have C : ∀ W, Calls Tryz.prog 69 #[.string s, .string ⟨#[35, 40]⟩] W fun e w' => e = .returned (.bool true) ∧ w' = W := fun W => by
    have := Tryz.strings_HasPrefix s ⟨#[35, 40]⟩ W
    rw [h, prefix_two, hq] at this
    exact this
  have H := Lib.hid C
  clear C hq h
  go_enter Tryz.func49, Tryz.ntmps49
  go_wp2_with (go_at_call 69; ((with_reducible refine (H.out _).mono ?_); rintro e w' ⟨rfl, rfl⟩))
  have R2 := Res1.first w #[.int .i64 2, .string ⟨#[]⟩, .int .i64 0, .int .i64 0, .int .i64 0]
  exact bodyPost_ret (results_row_tmp2 (P := Tryz.prog) rfl _ _ w.heap.size 52 _ (0, 0) _ rfl R2.2 Tryz.underlying52 rfl size35) rfl ⟨rfl, R2.1⟩

set_option maxRecDepth 100000 in
theorem ofHash_char (s : ByteArray) (r : List UInt8) (w : World) (hs : s.size ≤ 4096) (h : isHash s r) (hq : r.head? = some 92) (hE : ErrsOk w) :
    Calls Tryz.prog 49 #[.string s] w fun e w' => e = .returned (TokV (hashT r)) ∧ Below w.heap.size w w' := by
  have hd1 : s.data.toList.drop 1 = r := by rw [h]; rfl
  have h2 : 2 ≤ s.size := by
    rw [← len_data, h]
    match r, hq with
    | _ :: _, _ => simp
  have hc : s.data.toList.drop 1 = 92 :: s.data.toList.drop 2 := by
    rw [h]
    match r, hq with
    | a :: q, hq => simp at hq; subst hq; rfl
  have R0 := Lib.hid (Res1.first w zero5)
  have C1 : ∀ W, Calls Tryz.prog 69 #[.string s, .string ⟨#[35, 40]⟩] W fun e w' => e = .returned (.bool false) ∧ w' = W := fun W => by
    have := Tryz.strings_HasPrefix s ⟨#[35, 40]⟩ W
    rw [h, prefix_two, hq] at this
    exact this
  have C2 : ∀ W, Calls Tryz.prog 69 #[.string s, .string ⟨#[35, 92]⟩] W fun e w' => e = .returned (.bool true) ∧ w' = W := fun W => by
    have := Tryz.strings_HasPrefix s ⟨#[35, 92]⟩ W
    rw [h, prefix_two, hq] at this
    exact this
  have C3 := ofChar_any s (w.alloc (.cells zero5 52)) hs h2 hc (hE.below R0.out.1 hE.two)
  rw [hd1] at C3
  unfold TokV Tk.val at C3 ⊢
  generalize hashT r = q at C3 ⊢
  obtain ⟨t, n, er⟩ := q
  simp only at C3 ⊢
  have H1 := Lib.hid C1
  have H2 := Lib.hid C2
  have H3 := Lib.hid C3
  clear C1 C2 C3 hc h2 hd1 hq h hE
  go_enter Tryz.func49, Tryz.ntmps49
  go_wp2_with (first
    | (go_at_call 69; ((with_reducible refine (H1.out _).mono ?_); rintro e w' ⟨rfl, rfl⟩))
    | (go_at_call 69; ((with_reducible refine (H2.out _).mono ?_); rintro e w' ⟨rfl, rfl⟩)))
  refine H3.out.mono ?_
  rintro e w2 ⟨rfl, hb⟩
  have R2 := Lib.hid (R0.out.next hb)
  obtain ⟨c0, c1, c2, c3, c4⟩ := R2.out.cells
  obtain ⟨f0, f1, f2, f3, f4⟩ := R2.out.froz
  go_wp2
  have R3 := R2.out.put (.int .i64 t.kind) (.string ⟨t.text.toArray⟩) (.int .i64 t.int) (.int .i64 0) (.int .i64 0)
  exact bodyPost_ret (results_row_tmp2 (P := Tryz.prog) rfl _ _ w.heap.size 52 _ (0, 0) _ rfl R3.2 Tryz.underlying52 rfl size35) rfl ⟨rfl, R3.1⟩

set_option maxRecDepth 100000 in
theorem ofHash_word (s : ByteArray) (r : List UInt8) (w : World) (hs : s.size ≤ 4096) (h : isHash s r) (h40 : (r.head? == some 40) = false) (h92 : (r.head? == some 92) = false) :
    Calls Tryz.prog 49 #[.string s] w fun e w' => e = .returned (TokV (hashT r)) ∧ Below w.heap.size w w' := by
  have hd1 : s.data.toList.drop 1 = r := by rw [h]; rfl
  have hl := len_data s
  have hlr : r.length + 1 = s.size := by rw [← hl, h]; simp
  have R0 := Lib.hid (Res1.first w zero5)
  have C1 : ∀ W, Calls Tryz.prog 69 #[.string s, .string ⟨#[35, 40]⟩] W fun e w' => e = .returned (.bool false) ∧ w' = W := fun W => by
    have := Tryz.strings_HasPrefix s ⟨#[35, 40]⟩ W
    rw [h, prefix_two, h40] at this
    exact this
  have C2 : ∀ W, Calls Tryz.prog 69 #[.string s, .string ⟨#[35, 92]⟩] W fun e w' => e = .returned (.bool false) ∧ w' = W := fun W => by
    have := Tryz.strings_HasPrefix s ⟨#[35, 92]⟩ W
    rw [h, prefix_two, h92] at this
    exact this
  have hT : hashT r = if wordL r = [116] then (⟨5, [], 1⟩, 2, 0) else if wordL r = [102] then (⟨5, [], 0⟩, 2, 0) else (noTk, 0, 31) := by
    refine hashT_else (fun q e => ?_) (fun c q e => ?_)
    · rw [e] at h40; simp at h40
    · rw [e] at h92; simp at h92
  have C22 : ∀ W, Calls Tryz.prog 51 #[.string (s.extract 1 s.size)] W fun e w' => e = .returned (.int .i64 ((wordL r).length : Int)) ∧ Below W.heap.size W w' := fun W => by
    have := wordSize_any (s.extract 1 s.size) W (by unfold maxLen; simp; omega)
    rwa [extract_list, List.take_of_length_le (by rw [List.length_drop]; omega), hd1] at this
  have hwl := wordL_le r
  have hx : (s.extract 0 (1 + (wordL r).length)).data.toList = 35 :: wordL r := by
    rw [extract_list, h, List.drop_zero, Nat.sub_zero, Nat.add_comm, List.take_succ_cons, wordL_take]
  have hsz : (1 : Int) ≤ (s.size : Int) := by omega
  have H1 := Lib.hid C1
  have H2 := Lib.hid C2
  rw [hT]
  by_cases ha : wordL r = [116]
  · rw [if_pos ha]
    rw [ha] at C22 hx hwl
    simp only [List.length_cons, List.length_nil, Nat.zero_add, Nat.reduceAdd] at C22 hx hwl
    have e1 : (s.extract 0 2).toList = [35, 116] := by rw [ByteArray.toList_eq]; exact hx
    have e2 : ((s.extract 0 2).toList == [35, 116]) = true := by rw [e1]; rfl
    have hs2 : (2 : Int) ≤ (s.size : Int) := by omega
    have H22 := Lib.hid C22
    clear C1 C2 C22 hT hx ha hwl hlr hl hd1 h40 h92 h
    go_enter Tryz.func49, Tryz.ntmps49
    go_wp2_with (first
      | (go_at_call 69; ((with_reducible refine (H1.out _).mono ?_); rintro e w' ⟨rfl, rfl⟩))
      | (go_at_call 69; ((with_reducible refine (H2.out _).mono ?_); rintro e w' ⟨rfl, rfl⟩)))
    refine (H22.out _).mono ?_
    rintro e w2 ⟨rfl, hb⟩
    have R2 := Lib.hid (R0.out.next hb)
    obtain ⟨c0, c1, c2, c3, c4⟩ := R2.out.cells
    obtain ⟨f0, f1, f2, f3, f4⟩ := R2.out.froz
    go_wp2
    have R3 := R2.out.put (.int .i64 5) (.string ⟨#[]⟩) (.int .i64 1) (.int .i64 0) (.int .i64 0)
    exact bodyPost_ret (results_row_tmp2 (P := Tryz.prog) rfl _ _ w.heap.size 52 _ (0, 0) _ rfl R3.2 Tryz.underlying52 rfl size35) rfl ⟨rfl, R3.1⟩
  · rw [if_neg ha]
    by_cases hb0 : wordL r = [102]
    · rw [if_pos hb0]
      rw [hb0] at C22 hx hwl
      simp only [List.length_cons, List.length_nil, Nat.zero_add, Nat.reduceAdd] at C22 hx hwl
      have e1 : (s.extract 0 2).toList = [35, 102] := by rw [ByteArray.toList_eq]; exact hx
      have e2 : ((s.extract 0 2).toList == [35, 102]) = true := by rw [e1]; rfl
      have e3 : ¬ (s.extract 0 2).toList = [35, 116] := by rw [e1]; decide
      have e4 : ((s.extract 0 2).toList == [35, 116]) = false := by rw [e1]; rfl
      have hs2 : (2 : Int) ≤ (s.size : Int) := by omega
      have H22 := Lib.hid C22
      have E1 := Lib.hid e1
      clear C1 C2 C22 hT hx ha hb0 hwl hlr hl hd1 h40 h92 h e1
      go_enter Tryz.func49, Tryz.ntmps49
      go_wp2_with (first
        | (go_at_call 69; ((with_reducible refine (H1.out _).mono ?_); rintro e w' ⟨rfl, rfl⟩))
        | (go_at_call 69; ((with_reducible refine (H2.out _).mono ?_); rintro e w' ⟨rfl, rfl⟩)))
      refine (H22.out _).mono ?_
      rintro e w2 ⟨rfl, hb⟩
      have R2 := Lib.hid (R0.out.next hb)
      obtain ⟨c0, c1, c2, c3, c4⟩ := R2.out.cells
      obtain ⟨f0, f1, f2, f3, f4⟩ := R2.out.froz
      have e1 := E1.out
      clear E1
      go_wp2
      have R3 := R2.out.put (.int .i64 5) (.string ⟨#[]⟩) (.int .i64 0) (.int .i64 0) (.int .i64 0)
      exact bodyPost_ret (results_row_tmp2 (P := Tryz.prog) rfl _ _ w.heap.size 52 _ (0, 0) _ rfl R3.2 Tryz.underlying52 rfl size35) rfl ⟨rfl, R3.1⟩
    · rw [if_neg hb0]
      obtain ⟨n, hn⟩ : ∃ n, n = (wordL r).length := ⟨_, rfl⟩
      rw [← hn] at C22 hwl hx
      have e1 : ¬ (s.extract 0 (1 + n)).toList = [35, 116] := by rw [ByteArray.toList_eq, hx]; intro e; simp at e; exact ha e
      have e2 : ((s.extract 0 (1 + n)).toList == [35, 116]) = false := by simpa using e1
      have e3 : ¬ (s.extract 0 (1 + n)).toList = [35, 102] := by rw [ByteArray.toList_eq, hx]; intro e; simp at e; exact hb0 e
      have e4 : ((s.extract 0 (1 + n)).toList == [35, 102]) = false := by simpa using e3
      have hs2 : 1 + (n : Int) ≤ (s.size : Int) := by omega
      have H22 := Lib.hid C22
      clear C1 C2 C22 hT hx ha hb0 hwl hlr hl hd1 h40 h92 h hn
      go_enter Tryz.func49, Tryz.ntmps49
      go_wp2_with (first
        | (go_at_call 69; ((with_reducible refine (H1.out _).mono ?_); rintro e w' ⟨rfl, rfl⟩))
        | (go_at_call 69; ((with_reducible refine (H2.out _).mono ?_); rintro e w' ⟨rfl, rfl⟩)))
      refine (H22.out _).mono ?_
      rintro e w2 ⟨rfl, hb⟩
      have R2 := Lib.hid (R0.out.next hb)
      obtain ⟨c0, c1, c2, c3, c4⟩ := R2.out.cells
      obtain ⟨f0, f1, f2, f3, f4⟩ := R2.out.froz
      go_wp2
      have R3 := R2.out.put (.int .i64 0) (.string ⟨#[]⟩) (.int .i64 0) (.int .i64 0) (.int .i64 0)
      exact bodyPost_ret (results_row_tmp2 (P := Tryz.prog) rfl _ _ w.heap.size 52 _ (0, 0) _ rfl R3.2 Tryz.underlying52 rfl size35) rfl ⟨rfl, R3.1⟩

theorem ofHash_any (s : ByteArray) (r : List UInt8) (w : World) (hs : s.size ≤ 4096) (h : isHash s r) (hE : ErrsOk w) :
    Calls Tryz.prog 49 #[.string s] w fun e w' => e = .returned (TokV (hashT r)) ∧ Below w.heap.size w w' := by
  by_cases h40 : r.head? = some 40
  · have e : hashT r = (⟨2, [], 0⟩, 2, 0) := by
      match r, h40 with
      | a :: q, h40 => simp at h40; subst h40; rw [hashT]
    rw [e]
    exact ofHash_open s r w h h40
  · by_cases h92 : r.head? = some 92
    · exact ofHash_char s r w hs h h92 hE
    · exact ofHash_word s r w hs h (by simpa using h40) (by simpa using h92)
end Go.Proofs.YthfjlcflpneffaaGreatDoor

/-
Contracts of strings.Builder's WriteByte and of package lex's ofString: what each returns, for every string that begins with a double quote; where the two errors of strconv are as the program lays them.
-/
namespace Go.Proofs.YthfjlcflpneffaaGreatDoor
open Go.ChangeShapes Go.WideShapes Go.ChangeAt Go.RowKit

theorem infoByte : (Tryz.prog.info? 5).map (fun i => (i.zero, i.size, i.bytes)) = some (some (.int .u8 0), 1, 1) := by kernel_rfl
theorem sizeBuilder : (Tryz.prog.info? 62).map (·.size) = some 2 := by kernel_rfl
theorem liesBuilder : liesAt Tryz.prog Tryz.prog.depth 62 (2 / Tryz.prog.cellsOf 62) 0 62 1 = true := by kernel_rfl

abbrev Bd (b : Nat) (l : List UInt8) (w : World) : Prop := Lib.IsBuilder 62 5 b b (Lib.byteCells l) w
theorem Bd.moved {b : Nat} {l : List UInt8} {w w' : World} (h : Bd b l w) (hb : Below w.heap.size w w') : Bd b l w' := by
  have one : ∀ p, Lib.BuilderAt 62 5 b b p (Lib.byteCells l) w → Lib.BuilderAt 62 5 b b p (Lib.byteCells l) w' := by
    rintro p ⟨hB, v, hbk, hown, hne⟩
    refine ⟨hB, v, (hb.block b (lt_of_block hbk)).trans hbk, ?_, hne⟩
    exact hown.kept (row := none) ⟨hb.os, hb.tape, hb.output, hb.size, fun k hk _ => hb.block k hk⟩ (by cases hv : v.ownBlock <;> simp)
  exact h.elim (fun h => .inl (one _ h)) (fun h => .inr (one _ h))
theorem Bd.lt {b : Nat} {l : List UInt8} {w : World} (h : Bd b l w) : b < w.heap.size := h.elim (fun h => h.lt) (fun h => h.lt)

set_option maxRecDepth 100000 in
theorem copyCheck_used (b : Nat) (w : World) (h0 : w.cell? ⟨b, 0, none⟩ = some (.pointer (some ⟨b, 0, none⟩))) :
    Calls Tryz.prog 43 #[.pointer (some ⟨b, 0, none⟩)] w fun e w' => e = .returned (.tuple #[]) ∧ w = w' := by
  obtain ⟨j, hj, _⟩ := Option.map_eq_some_iff.1 sizeBuilder
  go_enter Tryz.func43, Tryz.ntmps43
  go_wp2
  rw [Lib.run_neq_ptr_same w _ Tryz.underlying60 hj]
  go_wp2
  go_end0
  exact ⟨rfl, rfl⟩

set_option maxRecDepth 100000 in
theorem copyCheck_fresh (b : Nat) (w : World) (h0 : w.cell? ⟨b, 0, none⟩ = some (.pointer none)) (hsh : w.shape? b = some (62, 2)) (hfz : w.frozen? ⟨b, 0, none⟩ = false) :
    Calls Tryz.prog 43 #[.pointer (some ⟨b, 0, none⟩)] w fun e w' => e = .returned (.tuple #[]) ∧ w' = w.setCell ⟨b, 0, none⟩ (.pointer (some ⟨b, 0, none⟩)) := by
  obtain ⟨j, hj, hjs⟩ := Option.map_eq_some_iff.1 sizeBuilder
  go_enter Tryz.func43, Tryz.ntmps43
  go_wp2
  rw [Lib.run_to_unsafe w ⟨b, 0, none⟩ Tryz.underlying60 Tryz.underlying99 hj (by rw [hjs]; decide) hsh (Nat.zero_lt_succ 1)]
  simp only [Result.andThen]
  rw [Oper.upon_value]
  go_wp2
  rw [run_callFunc_extern Tryz.func60 (by kernel_rfl) (by kernel_rfl) (by kernel_rfl) (e := Extern.AbiNoEscape.same) (by kernel_rfl)]
  rw [Lib.run_noEscape]
  simp only [Result.andThen]
  rw [Oper.upon_value]
  go_wp2
  rw [Lib.run_from_unsafe w ⟨b, 0, none⟩ Tryz.underlying99 Tryz.underlying60 hj hsh liesBuilder]
  simp only [Result.andThen]
  rw [Oper.upon_value]
  go_wp2
  go_end0
  exact ⟨rfl, rfl⟩

theorem copyCheck_any (b : Nat) (l : List UInt8) (w : World) (h : Bd b l w) :
    Calls Tryz.prog 43 #[.pointer (some ⟨b, 0, none⟩)] w fun e w' => e = .returned (.tuple #[]) ∧ Lib.BuilderAt 62 5 b b (.pointer (some ⟨b, 0, none⟩)) (Lib.byteCells l) w' ∧ Below b w w' := by
  rcases h with h | h
  · refine (copyCheck_fresh b w h.cell0 h.shape h.frozen0).mono ?_
    rintro e w' ⟨rfl, rfl⟩
    exact ⟨rfl, h.used _, (Below.refl b w).setCell (p := ⟨b, 0, none⟩) (Nat.le_refl _) _⟩
  · refine (copyCheck_used b w h.cell0).mono ?_
    rintro e w' ⟨rfl, rfl⟩
    exact ⟨rfl, h, Below.refl b _⟩

set_option maxHeartbeats 1000000 in
set_option maxRecDepth 100000 in
theorem writeByte_any (b : Nat) (l : List UInt8) (c : UInt8) (w : World) (h : Bd b l w) (hlen : l.length + 1 ≤ 140737488355328) :
    Calls Tryz.prog 28 #[.pointer (some ⟨b, 0, none⟩), .int .u8 (c.toNat : Int)] w fun e w' => e = .returned .nilIface ∧ Bd b (l ++ [c]) w' ∧ Below b w w' := by
  obtain ⟨i0, hi, hz0, hz1, hz2⟩ := info_parts infoByte
  have htbw := h.lt
  have hbl : (Lib.byteCells l).length = l.length := by simp [Lib.byteCells]
  go_enter Tryz.func28, Tryz.ntmps28
  go_wp2_with (go_at_call 43; refine (copyCheck_any b l _ h).mono ?_)
  rintro e w1 ⟨rfl, ⟨_, v, hbk, hown, hne⟩, hb1⟩
  rw [hbl] at hown
  have c0 : w1.cell? ⟨b, 0, none⟩ = some (.pointer (some ⟨b, 0, none⟩)) := by rw [Lib.cell_of_heap hbk]; rfl
  have c1 : w1.cell? ⟨b, 1, none⟩ = some v := by rw [Lib.cell_of_heap hbk]; rfl
  have hlt : b < w1.heap.size := lt_of_block hbk
  go_wp2_with (at_builtin; refine wpList_append_own _ rfl _ _ 39 rfl b 5 i0 (.int .u8 0) 1 1 Tryz.underlying39 hi hz0 hz1 hz2 rfl (by decide) _ _ _ rfl (hown.alloc _) ⟨w1.heap.size, 0, none⟩ 1 1 [.int .u8 c.toNat] rfl rfl ?c1 ?c2 ?c3 ?c4 ?c5 ?_)
  case c1 =>
    intro j u hj
    match j, hj with
    | 0, hj => simp at hj; subst hj; simp [Addr.add]
  case c2 => intro u hu; simp at hu; subst hu; rfl
  case c3 => unfold maxLen; omega
  case c4 => omega
  case c5 => simp; omega
  intro v' w2 hown' hgrow _
  have hb2 : w2.heap[b]? = some (.cells #[.pointer (some ⟨b, 0, none⟩), v] 62 (0, 0)) := by
    rw [hgrow.block b (by simp; omega) (fun e => hne e.symm), Lib.alloc_old w1 _ b hlt]
    exact hbk
  have d0 : w2.cell? ⟨b, 0, none⟩ = some (.pointer (some ⟨b, 0, none⟩)) := by rw [Lib.cell_of_heap hb2]; rfl
  have d1 : w2.cell? ⟨b, 1, none⟩ = some v := by rw [Lib.cell_of_heap hb2]; rfl
  have f1 : w2.frozen? ⟨b, 1, none⟩ = false := Lib.frozen_of_heap hb2 1
  obtain ⟨g, cap, rfl⟩ : ∃ g cap, v' = .slice (some ⟨g, 0, none⟩) (l.length + 1) cap := by
    rcases hown'.2 with ⟨_, h0⟩ | ⟨g, cap, cur, hv, _⟩
    · omega
    · exact ⟨g, cap, hv⟩
  go_wp2
  go_ret
  refine ⟨rfl, .inr (Lib.BuilderAt.put (Nat.le_refl _) hb2 ?_ (by decide)), ?_⟩
  · simpa [Lib.byteCells_append, Lib.byteCells] using hown'
  · exact ((hb1.alloc (by omega) _).grown hgrow (by simp; omega) (fun k hk => (hown.lt k hk).1)).setCell (p := ⟨b, 1, none⟩) (Nat.le_refl _) _

/-- What is left of a string, with what has been read of it. -/
theorem txt_step {l : List UInt8} (h0 : l ≠ []) (hq : l.head? ≠ some 34) {b : UInt8} {n : Nat} (he : escV l = some (b, n)) : txt l = (match txt (l.drop n) with | none => none | some (t, k) => some (b :: t, n + k)) := by
  match l with
  | c :: r =>
    rw [txt_cons, if_neg (by intro e; exact hq (by rw [e]; rfl)), he]
    rfl
theorem txt_fell {l : List UInt8} (hq : l.head? ≠ some 34) (he : escV l = none) : txt l = none := by
  match l with
  | [] => rw [txt]
  | c :: r => rw [txt_cons, if_neg (by intro e; exact hq (by rw [e]; rfl)), he]
theorem txt_end {l : List UInt8} (hq : l.head? = some 34) : txt l = some ([], 1) := by
  match l, hq with
  | c :: r, hq => simp at hq; subst hq; rw [txt_cons, if_pos rfl]
/-- What comes of what has been read, and of what is left. -/
def textV (acc : List UInt8) (at_ : Nat) (o : Option (List UInt8 × Nat)) : Tk × Nat × Int := match o with
  | some (t, k) => (⟨8, acc ++ t, 0⟩, at_ + k, 0)
  | none => (noTk, 0, 32)
theorem textV_step (acc : List UInt8) (at_ : Nat) {l : List UInt8} (h0 : l ≠ []) (hq : l.head? ≠ some 34) {b : UInt8} {n : Nat} (he : escV l = some (b, n)) : textV acc at_ (txt l) = textV (acc ++ [b]) (at_ + n) (txt (l.drop n)) := by
  rw [txt_step h0 hq he]
  cases txt (l.drop n) with
  | none => rfl
  | some q => obtain ⟨t, k⟩ := q; simp [textV, Nat.add_assoc]
end Go.Proofs.YthfjlcflpneffaaGreatDoor

/-
Contract of package lex's ofString: what it returns, for every string that begins with a double quote; where the two errors of strconv are as the program lays them.
-/
namespace Go.Proofs.YthfjlcflpneffaaGreatDoor
open Go.ChangeShapes Go.WideShapes Go.ChangeAt Go.RowKit

theorem Res1.nextB {w W W' : World} {y : Array Value} (h : Res1 w y W) {B : Nat} (hb : Below B W W') (hB : w.heap.size < B) : Res1 w y W' :=
  ⟨h.1.trans (hb.mono (by omega)), (hb.block _ hB).trans h.2⟩

set_option maxRecDepth 100000 in
set_option maxHeartbeats 2000000 in
theorem ofString_any (s : ByteArray) (w : World) (hs : s.size ≤ 4096) (h0 : 0 < s.size) (hE : ErrsOk w) :
    Calls Tryz.prog 50 #[.string s] w fun e w' => e = .returned (TokV (textV [] 1 (txt (s.data.toList.drop 1)))) ∧ Below w.heap.size w w' := by
  have HL := Lib.hid (len_data s)
  have HE := Lib.hid (fun W (h : Below w.heap.size w W) => hE.below h hE.two)
  have R0 := Lib.hid (Res1.first w zero5)
  have hz : (w.alloc (.cells zero5 52)).heap.size = w.heap.size + 1 := by simp
  have B0 : Hid (Bd (w.heap.size + 1) [] ((w.alloc (.cells zero5 52)).alloc (.cells #[.pointer none, .slice none 0 0] 62))) := Lib.hid (by
    have := Lib.fresh_isBuilder 62 5 (w.alloc (.cells zero5 52))
    rw [hz] at this
    exact this)
  have R1 : Hid (Res1 w zero5 ((w.alloc (.cells zero5 52)).alloc (.cells #[.pointer none, .slice none 0 0] 62))) := Lib.hid (R0.out.next ((Below.refl _ _).alloc (Nat.le_refl _) _))
  clear hE hz
  obtain ⟨T, hT⟩ : ∃ T, T = textV [] 1 (txt (s.data.toList.drop 1)) := ⟨_, rfl⟩
  rw [← hT]
  have HT := Lib.hid hT
  clear hT
  go_enter Tryz.func50, Tryz.ntmps50
  go_wp2
  go_loopw [6] (fun i wr => ∃ (k : Nat) (acc : List UInt8), 1 ≤ k ∧ k ≤ s.size ∧ i = .int .i64 k ∧ acc.length ≤ k ∧ Bd (w.heap.size + 1) acc wr ∧ Res1 w zero5 wr ∧ T = textV acc k (txt (s.data.toList.drop k))) (fun i _ => s.size - (intOf i).toNat)
  case atStart => exact ⟨1, [], Nat.le_refl _, by omega, rfl, by simp, B0.out, R1.out, HT.out⟩
  case round =>
    obtain ⟨k, acc, hk1, hk, rfl, hacc, hbd, hr1, htx⟩ := hrel
    have HB := Lib.hid hbd
    have HR := Lib.hid hr1
    have HX := Lib.hid htx
    clear hbd hr1 htx
    by_cases hlt : k < s.size
    · have hd : s.data.toList.drop k = s[k] :: s.data.toList.drop (k + 1) := List.drop_eq_getElem_cons (by rw [HL.out]; exact hlt)
      have HD := Lib.hid hd
      clear hd
      by_cases hq : ((s[k].toNat : Int) == 34) = true
      · have HF : Hid (T = (⟨8, acc, 0⟩, k + 1, 0)) := Lib.hid (by
          rw [HX.out, txt_end (by rw [HD.out, byte_is (m := 34) rfl hq]; rfl)]
          simp [textV])
        have hlb := HB.out.lt
        go_wp2_with fail
        refine (Tryz.Builder_String_any_k (w.heap.size + 1) (w.heap.size + 1) acc wr (Lib.IsBuilderF.of HB.out) (by omega)).mono ?_
        rintro e w1 ⟨rfl, _, hb1, _⟩
        have R2 := Lib.hid (HR.out.nextB hb1 (by omega))
        obtain ⟨c0, c1, c2, c3, c4⟩ := R2.out.cells
        obtain ⟨f0, f1, f2, f3, f4⟩ := R2.out.froz
        clear hb1
        go_wp2
        have R3 := R2.out.put (.int .i64 8) (.string ⟨acc.toArray⟩) (.int .i64 0) (.int .i64 0) (.int .i64 0)
        exact bodyPost_ret (results_row_tmp2 (P := Tryz.prog) rfl _ _ w.heap.size 52 _ (0, 0) _ rfl R3.2 Tryz.underlying52 rfl size35) rfl ⟨by rw [HF.out]; rfl, R3.1⟩
      · have hq' : ((s[k].toNat : Int) == 34) = false := by simpa using hq
        have hhd : (s.data.toList.drop k).head? ≠ some 34 := by
          rw [HD.out]
          intro e
          exact byte_not (m := 34) rfl hq' (by simpa using e)
        have hne : s.data.toList.drop k ≠ [] := by rw [HD.out]; simp
        have hki : (k : Int) ≤ (s.size : Int) := by omega
        have hx : (s.extract k s.size).data.toList = s.data.toList.drop k := by rw [extract_list, List.take_of_length_le (by rw [List.length_drop, HL.out]; omega)]
        have C := stringByte_any (s.extract k s.size) wr (by simp; omega) (by simp; omega) (HE.out wr HR.out.1)
        rw [hx] at C
        cases he : escV (s.data.toList.drop k) with
        | none =>
          rw [he] at C
          have HF : Hid (T = (noTk, 0, 32)) := Lib.hid (by rw [HX.out, txt_fell hhd he]; rfl)
          have H := Lib.hid C
          clear C he hx hne hhd hq
          go_wp2_with fail
          refine H.out.mono ?_
          rintro e w1 ⟨he, hb1⟩
          rw [escR] at he
          subst he
          have R2 := Lib.hid (HR.out.next hb1)
          obtain ⟨c0, c1, c2, c3, c4⟩ := R2.out.cells
          obtain ⟨f0, f1, f2, f3, f4⟩ := R2.out.froz
          clear hb1
          go_wp2
          have R3 := R2.out.put (.int .i64 0) (.string ⟨#[]⟩) (.int .i64 0) (.int .i64 0) (.int .i64 0)
          exact bodyPost_ret (results_row_tmp2 (P := Tryz.prog) rfl _ _ w.heap.size 52 _ (0, 0) _ rfl R3.2 Tryz.underlying52 rfl size35) rfl ⟨by rw [HF.out]; rfl, R3.1⟩
        | some q =>
          obtain ⟨b, n⟩ := q
          rw [he] at C
          obtain ⟨p1, p2⟩ := escV_pos he
          rw [List.length_drop, HL.out] at p2
          have HF : Hid (T = textV (acc ++ [b]) (k + n) (txt (s.data.toList.drop (k + n)))) := Lib.hid (by
            rw [HX.out, textV_step acc k hne hhd he, List.drop_drop])
          have H := Lib.hid C
          have hn0 : ((n : Int) == 0) = false := by simp; omega
          clear C he hx hne hhd hq
          go_wp2_with fail
          refine H.out.mono ?_
          rintro e w1 ⟨he, hb1⟩
          rw [escR] at he
          subst he
          have R2 := Lib.hid (HR.out.next hb1)
          have B2 := Lib.hid (Bd.moved HB.out hb1)
          clear hb1
          go_wp2_with fail
          refine (writeByte_any (w.heap.size + 1) acc b w1 B2.out (by omega)).mono ?_
          rintro e w2 ⟨rfl, hbd2, hb2⟩
          have R3 := Lib.hid (R2.out.nextB hb2 (by omega))
          have B3 := Lib.hid hbd2
          clear hbd2 hb2
          go_wp2
          go_roundw
          case rel => exact ⟨k + n, acc ++ [b], by omega, by omega, by go_num, by simp; omega, B3.out, R3.out, HF.out⟩
          case measure => simp [intOf]; omega
    · obtain rfl : k = s.size := by omega
      have HF : Hid (T = (noTk, 0, 32)) := Lib.hid (by
        rw [HX.out, List.drop_of_length_le (by rw [HL.out]; exact Nat.le_refl _), txt]; rfl)
      obtain ⟨c0, c1, c2, c3, c4⟩ := HR.out.cells
      obtain ⟨f0, f1, f2, f3, f4⟩ := HR.out.froz
      go_wp2
      have R3 := HR.out.put (.int .i64 0) (.string ⟨#[]⟩) (.int .i64 0) (.int .i64 0) (.int .i64 0)
      exact bodyPost_ret (results_row_tmp2 (P := Tryz.prog) rfl _ _ w.heap.size 52 _ (0, 0) _ rfl R3.2 Tryz.underlying52 rfl size35) rfl ⟨by rw [HF.out]; rfl, R3.1⟩
end Go.Proofs.YthfjlcflpneffaaGreatDoor

/-
Contract of package lex's first: the token that a string begins with, for every string that has a byte; where the two errors of strconv are as the program lays them.
-/
namespace Go.Proofs.YthfjlcflpneffaaGreatDoor
open Go.ChangeShapes Go.WideShapes Go.ChangeAt Go.RowKit

theorem oneT_cons (c : UInt8) (r : List UInt8) : oneT (c :: r) = if c = 40 then (⟨0, [], 0⟩, 1, 0) else if c = 41 then (⟨1, [], 0⟩, 1, 0) else if c = 39 then (⟨3, [], 0⟩, 1, 0) else if c = 35 then hashT r
    else if c = 34 then (match txt r with | some (t, k) => (⟨8, t, 0⟩, 1 + k, 0) | none => (noTk, 0, 32))
    else if wordL (c :: r) = [] then (noTk, 0, 30) else ((wordT (wordL (c :: r))).1, (wordL (c :: r)).length, (wordT (wordL (c :: r))).2) := by
  rw [oneT]
  cases txt r <;> rfl
theorem one_text (r : List UInt8) : oneT (34 :: r) = textV [] 1 (txt r) := by
  rw [oneT_cons, if_neg (by decide), if_neg (by decide), if_neg (by decide), if_neg (by decide), if_pos rfl]
  cases txt r with
  | none => rfl
  | some q => rfl
theorem one_hash (r : List UInt8) : oneT (35 :: r) = hashT r := by
  rw [oneT_cons, if_neg (by decide), if_neg (by decide), if_neg (by decide), if_pos rfl]
theorem one_word {c : UInt8} (r : List UInt8) (h1 : c ≠ 40) (h2 : c ≠ 41) (h3 : c ≠ 39) (h4 : c ≠ 35) (h5 : c ≠ 34) : oneT (c :: r) = if wordL (c :: r) = [] then (noTk, 0, 30) else ((wordT (wordL (c :: r))).1, (wordL (c :: r)).length, (wordT (wordL (c :: r))).2) := by
  rw [oneT_cons, if_neg h1, if_neg h2, if_neg h3, if_neg h4, if_neg h5]

set_option maxRecDepth 100000 in
theorem first_sign (s : ByteArray) (w : World) (h0 : 0 < s.size) (K : Int) (hk : ((s[0].toNat : Int) == 40) = true ∧ K = 0 ∨ ((s[0].toNat : Int) == 40) = false ∧ (((s[0].toNat : Int) == 41) = true ∧ K = 1 ∨ ((s[0].toNat : Int) == 41) = false ∧ ((s[0].toNat : Int) == 39) = true ∧ K = 3)) :
    Calls Tryz.prog 38 #[.string s] w fun e w' => e = .returned (TokV (⟨K, [], 0⟩, 1, 0)) ∧ Below w.heap.size w w' := by
  rcases hk with ⟨h1, rfl⟩ | ⟨h1, ⟨h2, rfl⟩ | ⟨h2, h3, rfl⟩⟩
  · go_enter Tryz.func38, Tryz.ntmps38
    go_wp2
    have R2 := Res1.first w #[.int .i64 0, .string ⟨#[]⟩, .int .i64 0, .int .i64 0, .int .i64 0]
    exact bodyPost_ret (results_row_tmp2 (P := Tryz.prog) rfl _ _ w.heap.size 52 _ (0, 0) _ rfl R2.2 Tryz.underlying52 rfl size35) rfl ⟨rfl, R2.1⟩
  · go_enter Tryz.func38, Tryz.ntmps38
    go_wp2
    have R2 := Res1.first w #[.int .i64 1, .string ⟨#[]⟩, .int .i64 0, .int .i64 0, .int .i64 0]
    exact bodyPost_ret (results_row_tmp2 (P := Tryz.prog) rfl _ _ w.heap.size 52 _ (0, 0) _ rfl R2.2 Tryz.underlying52 rfl size35) rfl ⟨rfl, R2.1⟩
  · go_enter Tryz.func38, Tryz.ntmps38
    go_wp2
    have R2 := Res1.first w #[.int .i64 3, .string ⟨#[]⟩, .int .i64 0, .int .i64 0, .int .i64 0]
    exact bodyPost_ret (results_row_tmp2 (P := Tryz.prog) rfl _ _ w.heap.size 52 _ (0, 0) _ rfl R2.2 Tryz.underlying52 rfl size35) rfl ⟨rfl, R2.1⟩

set_option maxRecDepth 100000 in
theorem first_hash (s : ByteArray) (w : World) (h0 : 0 < s.size) (b1 : ((s[0].toNat : Int) == 40) = false) (b2 : ((s[0].toNat : Int) == 41) = false) (b3 : ((s[0].toNat : Int) == 39) = false) (q : Tk × Nat × Int)
    (hb : ((s[0].toNat : Int) == 35) = true ∧ (∀ W, Below w.heap.size w W → Calls Tryz.prog 49 #[.string s] W fun e w' => e = .returned (TokV q) ∧ Below W.heap.size W w') ∨
      ((s[0].toNat : Int) == 35) = false ∧ ((s[0].toNat : Int) == 34) = true ∧ (∀ W, Below w.heap.size w W → Calls Tryz.prog 50 #[.string s] W fun e w' => e = .returned (TokV q) ∧ Below W.heap.size W w')) :
    Calls Tryz.prog 38 #[.string s] w fun e w' => e = .returned (TokV q) ∧ Below w.heap.size w w' := by
  have R0 := Lib.hid (Res1.first w zero5)
  obtain ⟨t, n, er⟩ := q
  unfold TokV Tk.val at hb ⊢
  simp only at hb ⊢
  rcases hb with ⟨b4, C⟩ | ⟨b4, b5, C⟩
  · have H := Lib.hid C
    clear C
    go_enter Tryz.func38, Tryz.ntmps38
    go_wp2_with fail
    refine (H.out _ R0.out.1).mono ?_
    rintro e w2 ⟨rfl, hb⟩
    have R2 := Lib.hid (R0.out.next hb)
    obtain ⟨c0, c1, c2, c3, c4⟩ := R2.out.cells
    obtain ⟨f0, f1, f2, f3, f4⟩ := R2.out.froz
    go_wp2
    have R3 := R2.out.put (.int .i64 t.kind) (.string ⟨t.text.toArray⟩) (.int .i64 t.int) (.int .i64 0) (.int .i64 0)
    exact bodyPost_ret (results_row_tmp2 (P := Tryz.prog) rfl _ _ w.heap.size 52 _ (0, 0) _ rfl R3.2 Tryz.underlying52 rfl size35) rfl ⟨rfl, R3.1⟩
  · have H := Lib.hid C
    clear C
    go_enter Tryz.func38, Tryz.ntmps38
    go_wp2_with fail
    refine (H.out _ R0.out.1).mono ?_
    rintro e w2 ⟨rfl, hb⟩
    have R2 := Lib.hid (R0.out.next hb)
    obtain ⟨c0, c1, c2, c3, c4⟩ := R2.out.cells
    obtain ⟨f0, f1, f2, f3, f4⟩ := R2.out.froz
    go_wp2
    have R3 := R2.out.put (.int .i64 t.kind) (.string ⟨t.text.toArray⟩) (.int .i64 t.int) (.int .i64 0) (.int .i64 0)
    exact bodyPost_ret (results_row_tmp2 (P := Tryz.prog) rfl _ _ w.heap.size 52 _ (0, 0) _ rfl R3.2 Tryz.underlying52 rfl size35) rfl ⟨rfl, R3.1⟩

set_option maxRecDepth 100000 in
theorem first_word (s : ByteArray) (w : World) (hs : s.size ≤ 4096) (h0 : 0 < s.size) (b1 : ((s[0].toNat : Int) == 40) = false) (b2 : ((s[0].toNat : Int) == 41) = false) (b3 : ((s[0].toNat : Int) == 39) = false)
    (b4 : ((s[0].toNat : Int) == 35) = false) (b5 : ((s[0].toNat : Int) == 34) = false) (hE : ErrsOk w) :
    Calls Tryz.prog 38 #[.string s] w fun e w' => e = .returned (TokV (oneT s.data.toList)) ∧ Below w.heap.size w w' := by
  have R0 := Lib.hid (Res1.first w zero5)
  have HE := Lib.hid (fun W (h : Below w.heap.size w W) => hE.below h hE.two)
  have hl := len_data s
  have hone : oneT s.data.toList = if wordL s.data.toList = [] then (noTk, 0, 30) else ((wordT (wordL s.data.toList)).1, (wordL s.data.toList).length, (wordT (wordL s.data.toList)).2) := by
    have hd := data_cons h0
    have := one_word (s.data.toList.drop 1) (byte_not (m := 40) rfl b1) (byte_not (m := 41) rfl b2) (byte_not (m := 39) rfl b3) (byte_not (m := 35) rfl b4) (byte_not (m := 34) rfl b5)
    rwa [← hd] at this
  have C22 := wordSize_any s (w.alloc (.cells zero5 52)) (by unfold maxLen; omega)
  have hwl := wordL_le s.data.toList
  rw [hone]
  by_cases hw : wordL s.data.toList = []
  · rw [if_pos hw]
    rw [hw] at C22
    have H22 := Lib.hid C22
    clear C22 hone hw hwl hl hE
    go_enter Tryz.func38, Tryz.ntmps38
    go_wp2_with fail
    refine H22.out.mono ?_
    rintro e w2 ⟨rfl, hb⟩
    have R2 := Lib.hid (R0.out.next hb)
    obtain ⟨c0, c1, c2, c3, c4⟩ := R2.out.cells
    obtain ⟨f0, f1, f2, f3, f4⟩ := R2.out.froz
    go_wp2
    have R3 := R2.out.put (.int .i64 0) (.string ⟨#[]⟩) (.int .i64 0) (.int .i64 0) (.int .i64 0)
    exact bodyPost_ret (results_row_tmp2 (P := Tryz.prog) rfl _ _ w.heap.size 52 _ (0, 0) _ rfl R3.2 Tryz.underlying52 rfl size35) rfl ⟨rfl, R3.1⟩
  · rw [if_neg hw]
    have hpos := List.length_pos_iff.2 hw
    obtain ⟨n, hn⟩ : ∃ n, n = (wordL s.data.toList).length := ⟨_, rfl⟩
    rw [← hn] at C22 hwl hpos ⊢
    have hx : (s.extract 0 n).data.toList = wordL s.data.toList := by
      rw [extract_list, List.drop_zero, Nat.sub_zero, hn, wordL_take]
    have C23 : ∀ W, ErrsOk W → Calls Tryz.prog 52 #[.string (s.extract 0 n)] W fun e w' => WordOk (wordL s.data.toList) e ∧ Below W.heap.size W w' := fun W h => by
      have := ofWord_any (s.extract 0 n) W (by simp; omega) (by simp; omega) h
      rwa [hx] at this
    unfold WordOk Tk.val at C23
    unfold TokV Tk.val
    simp only
    generalize wordT (wordL s.data.toList) = q at C23 ⊢
    obtain ⟨t, er⟩ := q
    simp only at C23 ⊢
    have hn1 : (0 : Int) < (n : Int) := by omega
    have hn2 : (n : Int) ≤ (s.size : Int) := by omega
    have H22 := Lib.hid C22
    have H23 := Lib.hid C23
    clear C22 C23 hone hw hwl hl hE hx hn
    go_enter Tryz.func38, Tryz.ntmps38
    go_wp2_with fail
    refine H22.out.mono ?_
    rintro e w2 ⟨rfl, hb⟩
    have R2 := Lib.hid (R0.out.next hb)
    clear hb
    go_wp2_with fail
    refine (H23.out w2 (HE.out _ R2.out.1)).mono ?_
    rintro e w3 ⟨rfl, hb⟩
    have R3 := Lib.hid (R2.out.next hb)
    have hlt := R3.out.lt
    obtain ⟨c0, c1, c2, c3, c4⟩ := R3.out.cells
    obtain ⟨f0, f1, f2, f3, f4⟩ := R3.out.froz
    clear hb
    go_wp2
    have R5 := (R3.out.put (.int .i64 t.kind) (.string ⟨t.text.toArray⟩) (.int .i64 t.int) (.int .i64 0) (.int .i64 0)).next ((Below.refl _ _).alloc (Nat.le_refl _) (.cells #[.int .i64 t.kind, .string ⟨t.text.toArray⟩, .int .i64 t.int, .int .i64 0, .int .i64 0] 52))
    exact bodyPost_ret (results_row_tmp2 (P := Tryz.prog) rfl _ _ w.heap.size 52 _ (0, 0) _ rfl R5.2 Tryz.underlying52 rfl size35) rfl ⟨rfl, R5.1⟩

theorem first_any (s : ByteArray) (w : World) (hs : s.size ≤ 4096) (h0 : 0 < s.size) (hE : ErrsOk w) :
    Calls Tryz.prog 38 #[.string s] w fun e w' => e = .returned (TokV (oneT s.data.toList)) ∧ Below w.heap.size w w' := by
  have hd := data_cons h0
  have hE' : ∀ W, Below w.heap.size w W → ErrsOk W := fun W h => hE.below h hE.two
  by_cases h1 : ((s[0].toNat : Int) == 40) = true
  · have e : oneT s.data.toList = (⟨0, [], 0⟩, 1, 0) := by rw [hd, byte_is (m := 40) rfl h1, oneT_cons, if_pos rfl]
    rw [e]; exact first_sign s w h0 0 (.inl ⟨h1, rfl⟩)
  have b1 : ((s[0].toNat : Int) == 40) = false := by simpa using h1
  by_cases h2 : ((s[0].toNat : Int) == 41) = true
  · have e : oneT s.data.toList = (⟨1, [], 0⟩, 1, 0) := by rw [hd, byte_is (m := 41) rfl h2, oneT_cons, if_neg (by decide), if_pos rfl]
    rw [e]; exact first_sign s w h0 1 (.inr ⟨b1, .inl ⟨h2, rfl⟩⟩)
  have b2 : ((s[0].toNat : Int) == 41) = false := by simpa using h2
  by_cases h3 : ((s[0].toNat : Int) == 39) = true
  · have e : oneT s.data.toList = (⟨3, [], 0⟩, 1, 0) := by rw [hd, byte_is (m := 39) rfl h3, oneT_cons, if_neg (by decide), if_neg (by decide), if_pos rfl]
    rw [e]; exact first_sign s w h0 3 (.inr ⟨b1, .inr ⟨b2, h3, rfl⟩⟩)
  have b3 : ((s[0].toNat : Int) == 39) = false := by simpa using h3
  by_cases h4 : ((s[0].toNat : Int) == 35) = true
  · have e : oneT s.data.toList = hashT (s.data.toList.drop 1) := by
      conv => lhs; rw [hd, byte_is (m := 35) rfl h4, one_hash]
    rw [e]
    refine first_hash s w h0 b1 b2 b3 _ (.inl ⟨h4, fun W hb => ofHash_any s _ W hs ?_ (hE' W hb)⟩)
    unfold isHash
    conv => lhs; rw [hd, byte_is (m := 35) rfl h4]
  have b4 : ((s[0].toNat : Int) == 35) = false := by simpa using h4
  by_cases h5 : ((s[0].toNat : Int) == 34) = true
  · have e : oneT s.data.toList = textV [] 1 (txt (s.data.toList.drop 1)) := by
      conv => lhs; rw [hd, byte_is (m := 34) rfl h5, one_text]
    rw [e]
    exact first_hash s w h0 b1 b2 b3 _ (.inr ⟨b4, h5, fun W hb => ofString_any s W hs h0 (hE' W hb)⟩)
  exact first_word s w hs h0 b1 b2 b3 b4 (by simpa using h5) hE
end Go.Proofs.YthfjlcflpneffaaGreatDoor

/-
Rows of tokens in memory, and the contract of package lex's Tokens, for every string; where the two errors of strconv are as the program lays them.
-/
namespace Go.Proofs.YthfjlcflpneffaaGreatDoor
open Go.ChangeShapes Go.WideShapes Go.ChangeAt Go.RowKit

theorem infoTok : (Tryz.prog.info? 52).map (fun i => (i.zero, i.size, i.bytes)) = some (some (.agg #[.int .i64 0, .string ⟨#[]⟩, .int .i64 0, .int .i64 0, .int .i64 0]), 5, 48) := by kernel_rfl

def TkP.cells (q : TkP) : List Value := [.int .i64 q.t.kind, .string ⟨q.t.text.toArray⟩, .int .i64 q.t.int, .int .i64 (q.a : Int), .int .i64 (q.b : Int)]
def cellsOf (ts : List TkP) : List Value := ts.flatMap TkP.cells
theorem cellsOf_len (ts : List TkP) : (cellsOf ts).length = ts.length * 5 := by
  induction ts with
  | nil => rfl
  | cons q ts ih => simp [cellsOf, TkP.cells] at ih ⊢; omega
theorem cellsOf_app (a b : List TkP) : cellsOf (a ++ b) = cellsOf a ++ cellsOf b := by simp [cellsOf]
theorem cellsOf_one (q : TkP) : cellsOf [q] = q.cells := by simp [cellsOf]
theorem cellsOf_cell (ts : List TkP) : ∀ u ∈ cellsOf ts, u.oneCell' = true := by
  intro u hu
  simp only [cellsOf, List.mem_flatMap] at hu
  obtain ⟨q, _, hu⟩ := hu
  simp only [TkP.cells, List.mem_cons, List.not_mem_nil, or_false] at hu
  rcases hu with rfl | rfl | rfl | rfl | rfl <;> rfl

/-- A row of tokens that the call has made itself. -/
def TokOwn (w : World) (base : Nat) (ts : List TkP) (v : Value) : Prop := w.ownsRow base 52 5 v ts.length (cellsOf ts)
theorem tokOwn_nil (w : World) (base : Nat) : TokOwn w base [] (.slice none 0 0) := World.ownsRow_nil _ _ _ _
theorem TokOwn.moved {w w' : World} {base : Nat} {ts : List TkP} {v : Value} (h : TokOwn w base ts v) (hb : Below w.heap.size w w') : TokOwn w' base ts v := by
  refine World.ownsRow.kept (row := none) h ⟨hb.os, hb.tape, hb.output, hb.size, fun k hk _ => hb.block k hk⟩ ?_
  cases hv : v.ownBlock <;> simp
theorem TokOwn.shape {w : World} {base : Nat} {ts : List TkP} {v : Value} (h : TokOwn w base ts v) : ∃ a c, v = .slice a ts.length c := by
  rcases h.2 with ⟨rfl, h0⟩ | ⟨g, cap, cur, rfl, _⟩
  · exact ⟨none, 0, by rw [h0]⟩
  · exact ⟨some ⟨g, 0, none⟩, cap, rfl⟩

/-- What Tokens answers. -/
def ToksOk (q : List TkP × Nat × Int) (base : Nat) (e : Ending) (w' : World) : Prop := ∃ v, e = .returned (.tuple #[v, .int .i64 (q.2.1 : Int), .int .i64 q.2.2]) ∧ TokOwn w' base q.1 v

/-- The fields of a struct in a block of its own, set one by one. -/
theorem tok_set2 {w : World} {g : Nat} {x0 x1 x2 x3 x4 : Value} (hb : w.heap[g]? = some (.cells #[x0, x1, x2, x3, x4] 52 (0, 0))) (y3 y4 : Value) :
    ((w.setCell ⟨g, 3, none⟩ y3).setCell ⟨g, 4, none⟩ y4).heap[g]? = some (.cells #[x0, x1, x2, y3, y4] 52 (0, 0)) :=
  heap_setCell_same _ g 4 _ 52 y4 (heap_setCell_same w g 3 _ 52 y3 hb)

theorem drop_tail {l y g : List UInt8} (h : l = y ++ g) : l.drop (l.length - g.length) = g := by
  subst h
  simp
theorem gap_drop (l : List UInt8) (j : Nat) : l.drop (l.length - (gapS false (l.drop j)).length) = gapS false (l.drop j) := by
  obtain ⟨x, hx⟩ := gapS_suffix false (l.drop j)
  exact drop_tail (y := l.take j ++ x) (by rw [List.append_assoc, ← hx, List.take_append_drop])
/-- What is read of the rest, behind what has been read. -/
def Going (l : List UInt8) (R : List TkP × Nat × Int) (ts : List TkP) (k : Nat) : Prop :=
  R = (ts ++ (runT l.length ts.length (l.drop k)).1, (runT l.length ts.length (l.drop k)).2)
theorem Going.start (l : List UInt8) : Going l (runT l.length 0 (gapS false l)) [] (l.length - (gapS false (l.drop 0)).length) := by
  unfold Going
  rw [gap_drop, List.drop_zero]
  simp
theorem Going.many {l : List UInt8} {R : List TkP × Nat × Int} {ts : List TkP} {k : Nat} (h : Going l R ts k) (hk : k < l.length) (hc : ts.length = 2048) : R.2 = (k, 34) := by
  unfold Going at h
  rw [h, hc]
  cases hd : l.drop k with
  | nil => have := congrArg List.length hd; rw [List.length_drop] at this; simp at this; omega
  | cons c r =>
    rw [runT_many]
    have := congrArg List.length hd
    rw [List.length_drop, List.length_cons] at this
    simp only
    congr 1; omega
theorem Going.bad {l : List UInt8} {R : List TkP × Nat × Int} {ts : List TkP} {k : Nat} (h : Going l R ts k) (hk : k < l.length) (hc : ts.length ≠ 2048) (he : (oneT (l.drop k)).2.2 ≠ 0) : R.2 = (k, (oneT (l.drop k)).2.2) := by
  unfold Going at h
  rw [h]
  cases hd : l.drop k with
  | nil => have := congrArg List.length hd; rw [List.length_drop] at this; simp at this; omega
  | cons c r =>
    rw [hd] at he
    rw [runT_bad _ _ c r hc he]
    have := congrArg List.length hd
    rw [List.length_drop, List.length_cons] at this
    simp only
    congr 1; omega
theorem Going.next {l : List UInt8} {R : List TkP × Nat × Int} {ts : List TkP} {k : Nat} (h : Going l R ts k) (hk : k < l.length) (hc : ts.length ≠ 2048) (he : (oneT (l.drop k)).2.2 = 0) :
    Going l R (ts ++ [⟨(oneT (l.drop k)).1, k, k + (oneT (l.drop k)).2.1⟩]) (l.length - (gapS false (l.drop (k + (oneT (l.drop k)).2.1))).length) := by
  unfold Going at h ⊢
  have hne : l.drop k ≠ [] := by
    intro e
    have := congrArg List.length e
    rw [List.length_drop] at this; simp at this; omega
  have e0 : l.length - (l.drop k).length = k := by rw [List.length_drop]; omega
  rw [h, runT_rest _ _ _ hne hc he, gap_drop, e0]
  have : restT (l.drop k) = gapS false (l.drop (k + (oneT (l.drop k)).2.1)) := by unfold restT; rw [List.drop_drop]
  rw [this, List.length_append]
  simp
theorem Going.done {l : List UInt8} {R : List TkP × Nat × Int} {ts : List TkP} (h : Going l R ts l.length) : R = (ts, 0, 0) := by
  unfold Going at h
  rw [h, List.drop_length, runT]
  simp
theorem toks_of {l : List UInt8} (hl : l.length ≤ 4096) : toksT l = if (runT l.length 0 (gapS false l)).2.2 = 0 then ((runT l.length 0 (gapS false l)).1, 0, 0) else ([], (runT l.length 0 (gapS false l)).2) := by
  unfold toksT; rw [if_neg (by omega)]

set_option maxRecDepth 100000 in
theorem tokens_long (s : ByteArray) (w : World) (h : 4096 < s.size) (hs : s.size ≤ maxLen) :
    Calls Tryz.prog 18 #[.string s] w fun e w' => ToksOk (toksT s.data.toList) w.heap.size e w' ∧ Below w.heap.size w w' := by
  have ht : toksT s.data.toList = ([], 0, 35) := by unfold toksT; rw [if_pos (by rw [len_data]; exact h)]
  rw [ht]
  unfold maxLen at hs
  have h' : (4096 : Int) < (s.size : Int) := by omega
  clear ht
  go_enter Tryz.func18, Tryz.ntmps18
  go_wp2
  go_ret3
  exact ⟨⟨_, rfl, tokOwn_nil _ _⟩, Below.refl _ _⟩

set_option maxRecDepth 100000 in
set_option maxHeartbeats 2000000 in
theorem tokens_go (s : ByteArray) (w : World) (hs : s.size ≤ 4096) (hE : ErrsOk w) :
    Calls Tryz.prog 18 #[.string s] w fun e w' => ToksOk (toksT s.data.toList) w.heap.size e w' ∧ Below w.heap.size w w' := by
  obtain ⟨i0, hi, hz0, hz1, hz2⟩ := info_parts infoTok
  have HL := Lib.hid (len_data s)
  have HE := Lib.hid (fun W (h : Below w.heap.size w W) => hE.below h hE.two)
  have HG := Lib.hid (fun k W (h : k ≤ s.size) => goOver_any s k W (by unfold maxLen; omega) h)
  obtain ⟨R, hR⟩ : ∃ R, R = runT s.data.toList.length 0 (gapS false s.data.toList) := ⟨_, rfl⟩
  obtain ⟨T, hT⟩ : ∃ T, T = toksT s.data.toList := ⟨_, rfl⟩
  have HT : Hid (T = if R.2.2 = 0 then (R.1, 0, 0) else ([], R.2)) := Lib.hid (by rw [hT, hR]; exact toks_of (by rw [HL.out]; exact hs))
  have G0 : Hid (Going s.data.toList R [] (s.size - (gapS false (s.data.toList.drop 0)).length)) := Lib.hid (by rw [hR, ← HL.out]; exact Going.start _)
  rw [← hT]
  have HG0 : Hid (∀ W, Calls Tryz.prog 37 #[.string s, .int .i64 0] W fun e w' => e = .returned (.int .i64 ((s.size - (gapS false (s.data.toList.drop 0)).length : Nat) : Int)) ∧ W = w') := Lib.hid (fun W => HG.out 0 W (Nat.zero_le _))
  have hk0 : s.size - (gapS false (s.data.toList.drop 0)).length ≤ s.size := Nat.sub_le _ _
  clear hT hR hE
  go_enter Tryz.func18, Tryz.ntmps18
  go_wp2_with (go_at_call 37; ((with_reducible refine (HG0.out _).mono ?_); rintro e w' ⟨rfl, rfl⟩))
  go_loopw [5, 6] (fun v i wr => ∃ (k : Nat) (ts : List TkP), k ≤ s.size ∧ i = .int .i64 k ∧ ts.length ≤ 2048 ∧ TokOwn wr w.heap.size ts v ∧ Below w.heap.size w wr ∧ Going s.data.toList R ts k) (fun _ i _ => s.size - (intOf i).toNat)
  case atStart => exact ⟨_, [], hk0, rfl, by simp, tokOwn_nil _ _, Below.refl _ _, G0.out⟩
  case round =>
    obtain ⟨k, ts, hk, rfl, hts, hown, hbr, hgo⟩ := hrel
    have HO := Lib.hid hown
    have HB := Lib.hid hbr
    have HGO := Lib.hid hgo
    obtain ⟨a, c, rfl⟩ := hown.shape
    clear hown hbr hgo
    by_cases hlt : k < s.size
    · have hll : k < s.data.toList.length := by rw [HL.out]; exact hlt
      by_cases hm : ts.length = 2048
      · have HF : Hid (T = ([], k, 34)) := Lib.hid (by
          have := HGO.out.many hll hm
          rw [HT.out, this]; rfl)
        have hm' : ((ts.length : Int) == 2048) = true := by rw [hm]; rfl
        clear hm hll
        go_wp2
        go_ret3
        exact ⟨⟨_, by rw [HF.out]; rfl, by rw [HF.out]; exact tokOwn_nil _ _⟩, HB.out⟩
      · have hm' : ((ts.length : Int) == 2048) = false := by simp; omega
        have hki : (k : Int) ≤ (s.size : Int) := by omega
        have hx : (s.extract k s.size).data.toList = s.data.toList.drop k := by rw [extract_list, List.take_of_length_le (by rw [List.length_drop, HL.out]; omega)]
        have C := first_any (s.extract k s.size) wr (by simp; omega) (by simp; omega) (HE.out wr HB.out)
        rw [hx] at C
        by_cases he : (oneT (s.data.toList.drop k)).2.2 = 0
        · have hn := oneT_len he
          rw [List.length_drop, HL.out] at hn
          have hgn := HGO.out.next hll hm he
          rw [HL.out] at hgn
          have GN := Lib.hid hgn
          unfold TokV Tk.val at C
          rw [he] at C
          have hle := gapS_le false (s.data.toList.drop (k + (oneT (s.data.toList.drop k)).2.1))
          rw [List.length_drop, HL.out] at hle
          clear hgn
          generalize oneT (s.data.toList.drop k) = q at C GN hn hle
          obtain ⟨t, n, er⟩ := q
          simp only at C GN hn hle
          have H := Lib.hid C
          have HLT : Hid (k + n ≤ s.size) := Lib.hid (by omega)
          have hn1 : 1 ≤ n := hn.1
          have hkn : k + n ≤ s.size := by omega
          have HGN : Hid (∀ W, Calls Tryz.prog 37 #[.string s, .int .i64 ((k : Int) + (n : Int))] W fun e w' => e = .returned (.int .i64 ((s.size - (gapS false (s.data.toList.drop (k + n))).length : Nat) : Int)) ∧ W = w') := Lib.hid (fun W => HG.out (k + n) W hkn)
          obtain ⟨K, hK⟩ : ∃ K, K = s.size - (gapS false (s.data.toList.drop (k + n))).length := ⟨_, rfl⟩
          have hK1 : k + n ≤ K := by omega
          have hK2 : K ≤ s.size := by omega
          rw [← hK] at HGN GN
          clear C hx he hn hll hle hK
          go_wp2_with fail
          refine H.out.mono ?_
          rintro e w1 ⟨rfl, hb1⟩
          have O1 := Lib.hid (HO.out.moved hb1)
          have B1 := Lib.hid (HB.out.trans (hb1.mono HB.out.size))
          have hsz1 : w.heap.size ≤ w1.heap.size := B1.out.size
          have HAB : Hid (Below w1.heap.size w1 ((w1.alloc (.cells #[.int .i64 t.kind, .string ⟨t.text.toArray⟩, .int .i64 t.int, .int .i64 (k : Int), .int .i64 ((k : Int) + (n : Int))] 52)).alloc (.cells #[.int .i64 t.kind, .string ⟨t.text.toArray⟩, .int .i64 t.int, .int .i64 (k : Int), .int .i64 ((k : Int) + (n : Int))] 52))) := Lib.hid (((Below.refl _ _).alloc (Nat.le_refl _) _).alloc (by simp) _)
          have OW : Hid (((w1.alloc (.cells #[.int .i64 t.kind, .string ⟨t.text.toArray⟩, .int .i64 t.int, .int .i64 (k : Int), .int .i64 ((k : Int) + (n : Int))] 52)).alloc (.cells #[.int .i64 t.kind, .string ⟨t.text.toArray⟩, .int .i64 t.int, .int .i64 (k : Int), .int .i64 ((k : Int) + (n : Int))] 52)).ownsRow w.heap.size 52 5 (.slice a ts.length c) ts.length (cellsOf ts)) := Lib.hid (O1.out.moved HAB.out)
          have HNE : Hid (∀ g, (Value.slice a ts.length c).ownBlock = some g → w.heap.size ≤ g ∧ g < w1.heap.size) := Lib.hid (fun g hg => World.ownsRow.lt (w := w1) O1.out g hg)
          clear hb1
          go_wp2_with (at_builtin; refine wpList_append_own _ rfl _ _ 42 rfl w.heap.size 52 i0 _ 5 48 Tryz.underlying42 hi hz0 hz1 hz2 rfl (by decide) _ _ _ rfl OW.out ⟨w1.heap.size + 1, 0, none⟩ 1 1 [.int .i64 t.kind, .string ⟨t.text.toArray⟩, .int .i64 t.int, .int .i64 (k : Int), .int .i64 ((k : Int) + (n : Int))] rfl rfl ?c1 ?c2 ?c3 ?c4 ?c5 ?_)
          case c1 =>
            intro j u hj
            have hnew : ((w1.alloc (.cells #[.int .i64 t.kind, .string ⟨t.text.toArray⟩, .int .i64 t.int, .int .i64 (k : Int), .int .i64 ((k : Int) + (n : Int))] 52)).alloc (.cells #[.int .i64 t.kind, .string ⟨t.text.toArray⟩, .int .i64 t.int, .int .i64 (k : Int), .int .i64 ((k : Int) + (n : Int))] 52)).heap[w1.heap.size + 1]? = some (.cells #[.int .i64 t.kind, .string ⟨t.text.toArray⟩, .int .i64 t.int, .int .i64 (k : Int), .int .i64 ((k : Int) + (n : Int))] 52 (0, 0)) := by
              have := heap_alloc_new (w1.alloc (.cells #[.int .i64 t.kind, .string ⟨t.text.toArray⟩, .int .i64 t.int, .int .i64 (k : Int), .int .i64 ((k : Int) + (n : Int))] 52)) (.cells #[.int .i64 t.kind, .string ⟨t.text.toArray⟩, .int .i64 t.int, .int .i64 (k : Int), .int .i64 ((k : Int) + (n : Int))] 52)
              simpa using this
            rw [add_plain, Nat.zero_add, Lib.cell_of_heap hnew]
            simpa using hj
          case c2 =>
            intro u hu
            simp only [List.mem_cons, List.not_mem_nil, or_false] at hu
            rcases hu with rfl | rfl | rfl | rfl | rfl <;> rfl
          case c3 => unfold maxLen; omega
          case c4 => omega
          case c5 => simp; omega
          intro v' w2 hown' hgrow _
          have hb2 : w2.heap[w1.heap.size]? = some (.cells #[.int .i64 t.kind, .string ⟨t.text.toArray⟩, .int .i64 t.int, .int .i64 (k : Int), .int .i64 ((k : Int) + (n : Int))] 52 (0, 0)) := by
            rw [hgrow.block w1.heap.size (by simp; omega) (fun e => by have := (HNE.out _ e.symm).2; omega), Lib.alloc_old _ _ _ (by simp)]
            exact heap_alloc_new w1 _
          have d4 : w2.cell? ⟨w1.heap.size, 4, none⟩ = some (.int .i64 ((k : Int) + (n : Int))) := by rw [Lib.cell_of_heap hb2]; rfl
          have O2 : Hid (TokOwn w2 w.heap.size (ts ++ [⟨t, k, k + n⟩]) v') := Lib.hid (by
            unfold TokOwn
            rw [cellsOf_app, cellsOf_one, List.length_append]
            exact hown')
          have B2 : Hid (Below w.heap.size w w2) := Lib.hid ((B1.out.trans (HAB.out.mono B1.out.size)).grown hgrow (by simp; omega) (fun g hg => (HNE.out g hg).1))
          clear hown' hgrow hb2
          go_wp2_with (go_at_call 37; ((with_reducible refine (HGN.out _).mono ?_); rintro e w' ⟨rfl, rfl⟩))
          go_roundw
          case rel => exact ⟨K, ts ++ [⟨t, k, k + n⟩], hK2, rfl, by simp; omega, O2.out, B2.out, GN.out⟩
          case measure => simp [intOf]; omega
        · have HF : Hid (T = ([], k, (oneT (s.data.toList.drop k)).2.2)) := Lib.hid (by
            have := HGO.out.bad hll hm he
            rw [HT.out, this, if_neg he])
          unfold TokV Tk.val at C
          generalize oneT (s.data.toList.drop k) = q at C HF he
          obtain ⟨t, n, er⟩ := q
          simp only at C HF he
          have H := Lib.hid C
          have he' : (er != 0) = true := by simpa using he
          clear C hx he hll
          go_wp2_with fail
          refine H.out.mono ?_
          rintro e w1 ⟨rfl, hb1⟩
          have B1 := Lib.hid (HB.out.trans (hb1.mono HB.out.size))
          have hsz1 : w.heap.size ≤ w1.heap.size := B1.out.size
          clear hb1
          go_wp2
          go_ret3
          exact ⟨⟨_, by rw [HF.out]; rfl, by rw [HF.out]; exact tokOwn_nil _ _⟩, B1.out.alloc hsz1 _⟩
    · obtain rfl : k = s.size := by omega
      have HF : Hid (T = (ts, 0, 0)) := Lib.hid (by
        have := HGO.out
        rw [← HL.out] at this
        have := this.done
        rw [HT.out, this]; rfl)
      go_wp2
      go_ret3
      exact ⟨⟨_, by rw [HF.out]; rfl, by rw [HF.out]; exact HO.out⟩, HB.out⟩

theorem tokens_any (s : ByteArray) (w : World) (hs : s.size ≤ maxLen) (hE : ErrsOk w) :
    Calls Tryz.prog 18 #[.string s] w fun e w' => ToksOk (toksT s.data.toList) w.heap.size e w' ∧ Below w.heap.size w w' := by
  by_cases h : 4096 < s.size
  · exact tokens_long s w h hs
  · exact tokens_go s w (by omega) hE
end Go.Proofs.YthfjlcflpneffaaGreatDoor

/-
Contracts of the document's Same at rows of tokens that are the same. No condition.
-/
namespace Go.Proofs.YthfjlcflpneffaaGreatDoor
open Go.ChangeShapes Go.WideShapes Go.ChangeAt Go.RowKit

theorem below_drewN {B : Nat} {a w : World} (h : Below B a w) (n : Nat) : Below B a (w.drewN n) := ⟨h.os, h.tape, h.output, h.size, h.block⟩
/-- A slice's value leads to the tokens. -/
def TokAt (w : World) (ts : List TkP) (v : Value) : Prop :=
  ∃ a c, v = .slice a ts.length c ∧ ts.length ≤ c ∧ c ≤ maxLen ∧ (ts = [] ∨ ∃ g o, a = some ⟨g, o, none⟩ ∧ g < w.heap.size ∧ ∀ (j : Nat) x, (cellsOf ts)[j]? = some x → w.cell? ⟨g, o + j, none⟩ = some x)
theorem TokOwn.at {w : World} {base : Nat} {ts : List TkP} {v : Value} (h : TokOwn w base ts v) : TokAt w ts v := by
  have hc := fun g hv => World.ownsRow.cells (w := w) h (g := g) hv
  rcases h.2 with ⟨rfl, h0⟩ | ⟨g, cap, cur, rfl, hb, hg, hn, hcm, hcs, ht⟩
  · obtain rfl := List.eq_nil_of_length_eq_zero h0
    exact ⟨none, 0, rfl, Nat.le_refl _, Nat.zero_le _, .inl rfl⟩
  · refine ⟨some ⟨g, 0, none⟩, cap, rfl, hn, hcm, .inr ⟨g, 0, rfl, lt_of_block hg, fun j x hj => ?_⟩⟩
    have := hc g rfl j x hj
    simpa [add_plain] using this
theorem TokAt.below {w w' : World} {ts : List TkP} {v : Value} (h : TokAt w ts v) {B : Nat} (hb : Below B w w') (hB : w.heap.size ≤ B) : TokAt w' ts v := by
  obtain ⟨a, c, e, h1, h2, h3⟩ := h
  refine ⟨a, c, e, h1, h2, h3.imp id ?_⟩
  rintro ⟨g, o, ha, hlt, hc⟩
  refine ⟨g, o, ha, by have := hb.size; omega, fun j x hj => ?_⟩
  rw [hb.cell (p := ⟨g, o + j, none⟩) (by show g < _; omega)]
  exact hc j x hj
theorem cellsOf_get (ts : List TkP) (j : Nat) (h : j < ts.length) (f : Nat) (hf : f < 5) : (cellsOf ts)[j * 5 + f]? = ts[j].cells[f]? := by
  induction ts generalizing j with
  | nil => simp at h
  | cons q ts ih =>
    have hq : q.cells.length = 5 := rfl
    have e : cellsOf (q :: ts) = q.cells ++ cellsOf ts := by simp [cellsOf]
    rw [e]
    match j with
    | 0 => rw [List.getElem?_append_left (by omega)]; simp
    | j + 1 =>
      rw [List.getElem?_append_right (by omega), hq, show (j + 1) * 5 + f - 5 = j * 5 + f by omega, ih j (by simpa using h)]
      simp
theorem cells_item {w : World} {ts : List TkP} {g o : Nat} (hc : ∀ (j : Nat) x, (cellsOf ts)[j]? = some x → w.cell? ⟨g, o + j, none⟩ = some x) (j : Nat) (h : j < ts.length) :
    w.cell? ⟨g, o + j * 5, none⟩ = some (.int .i64 ts[j].t.kind) ∧ w.cell? ⟨g, o + j * 5 + 1, none⟩ = some (.string ⟨ts[j].t.text.toArray⟩) ∧ w.cell? ⟨g, o + j * 5 + 2, none⟩ = some (.int .i64 ts[j].t.int) ∧
      w.cell? ⟨g, o + j * 5 + 3, none⟩ = some (.int .i64 (ts[j].a : Int)) ∧ w.cell? ⟨g, o + j * 5 + 4, none⟩ = some (.int .i64 (ts[j].b : Int)) := by
  have one := fun f (hf : f < 5) x (hx : ts[j].cells[f]? = some x) => hc (j * 5 + f) x (by rw [cellsOf_get ts j h f hf]; exact hx)
  exact ⟨one 0 (by omega) _ rfl, one 1 (by omega) _ rfl, one 2 (by omega) _ rfl, one 3 (by omega) _ rfl, one 4 (by omega) _ rfl⟩

theorem run_step {N cnt : Nat} {l l' : List UInt8} {t : Tk} {n : Nat} {q : List TkP × Nat × Int} (hc : cnt ≠ 2048) (h0 : l ≠ []) (ho : oneT l = (t, n, 0)) (hr : gapS false (l.drop n) = l') (hn : runT N (cnt + 1) l' = q) :
    runT N cnt l = (⟨t, N - l.length, N - l.length + n⟩ :: q.1, q.2) := by
  have h := runT_rest N cnt l h0 hc (by rw [ho])
  unfold restT at h
  rw [h, ho]
  simp only
  rw [hr, hn]
/-- The fixed calls' sources. -/
theorem fix1 : toksT [40, 97, 32, 35, 116, 41, 32, 59, 32, 120] = ([⟨⟨0, [], 0⟩, 0, 1⟩, ⟨⟨9, [97], 0⟩, 1, 2⟩, ⟨⟨5, [], 1⟩, 3, 5⟩, ⟨⟨1, [], 0⟩, 5, 6⟩], 0, 0) := by
  have h1 : oneT [40, 97, 32, 35, 116, 41, 32, 59, 32, 120] = (⟨0, [], 0⟩, 1, 0) := by rw [oneT_cons, if_pos rfl]
  have h2 : oneT [97, 32, 35, 116, 41, 32, 59, 32, 120] = (⟨9, [97], 0⟩, 1, 0) := by
    rw [one_word _ (by decide) (by decide) (by decide) (by decide) (by decide), show wordL [97, 32, 35, 116, 41, 32, 59, 32, 120] = [97] by decide +kernel, if_neg (by simp), wordT, if_neg (by decide), if_neg (by decide +kernel), if_neg (by decide)]
    rfl
  have h3 : oneT [35, 116, 41, 32, 59, 32, 120] = (⟨5, [], 1⟩, 2, 0) := by
    rw [one_hash, hashT_else (by simp) (by simp), show wordL [116, 41, 32, 59, 32, 120] = [116] by decide +kernel, if_pos rfl]
  have h4 : oneT [41, 32, 59, 32, 120] = (⟨1, [], 0⟩, 1, 0) := by rw [oneT_cons, if_neg (by decide), if_pos rfl]
  have g1 : gapS false (List.drop 1 [40, 97, 32, 35, 116, 41, 32, 59, 32, 120]) = [97, 32, 35, 116, 41, 32, 59, 32, 120] := by decide +kernel
  have g2 : gapS false (List.drop 1 [97, 32, 35, 116, 41, 32, 59, 32, 120]) = [35, 116, 41, 32, 59, 32, 120] := by decide +kernel
  have g3 : gapS false (List.drop 2 [35, 116, 41, 32, 59, 32, 120]) = [41, 32, 59, 32, 120] := by decide +kernel
  have g4 : gapS false (List.drop 1 [41, 32, 59, 32, 120]) = [] := by decide +kernel
  have r4 := run_step (N := 10) (cnt := 3) (by decide) (by simp) h4 g4 rfl
  have r3 := run_step (N := 10) (cnt := 2) (by decide) (by simp) h3 g3 r4
  have r2 := run_step (N := 10) (cnt := 1) (by decide) (by simp) h2 g2 r3
  have r := run_step (N := 10) (cnt := 0) (by decide) (by simp) h1 g1 r2
  have hg : gapS false [40, 97, 32, 35, 116, 41, 32, 59, 32, 120] = [40, 97, 32, 35, 116, 41, 32, 59, 32, 120] := by decide +kernel
  rw [toks_of (by decide), hg]
  simp only [List.length_cons, List.length_nil, Nat.zero_add, Nat.reduceAdd]
  rw [r]
  simp [runT]
theorem fix2 : toksT [32, 35, 116, 116] = ([], 1, 31) := by
  have h3 : (oneT [35, 116, 116]).2.2 = 31 := by
    rw [one_hash, hashT_else (by simp) (by simp), show wordL [116, 116] = [116, 116] by decide +kernel, if_neg (by decide), if_neg (by decide)]
  have hg : gapS false [32, 35, 116, 116] = [35, 116, 116] := by decide +kernel
  rw [toks_of (by decide), hg, runT_bad _ _ _ _ (by decide) (by rw [h3]; decide), h3]
  simp
end Go.Proofs.YthfjlcflpneffaaGreatDoor
