/-
Contracts of package lex's stringByte: what it returns, for every string; where the two errors of strconv are as the program lays them.
-/
import Derived.Test.YtiamojpeedllbaaGreatDoorT9
namespace Go.Proofs.YtiamojpeedllbaaGreatDoor
open Go.ChangeShapes Go.WideShapes Go.ChangeAt Go.RowKit

/-- What stringByte answers. -/
def escR : Option (UInt8 × Nat) → Value
  | some (b, n) => .tuple #[.int .u8 (b.toNat : Int), .int .i64 (n : Int)]
  | none => .tuple #[.int .u8 0, .int .i64 0]
set_option maxRecDepth 100000 in
set_option maxHeartbeats 1000000 in
theorem stringByte_any (s : ByteArray) (w : World) (hs : s.size ≤ 4096) (h0 : 0 < s.size) (hE : ErrsOk w) :
    Calls Tryz.prog 76 #[.string s] w fun e w' => e = .returned (escR (escV s.data.toList)) ∧ Below w.heap.size w w' := by
  by_cases hb : ((s[0].toNat : Int) == 92) = true
  · have hc := byte_is (m := 92) rfl hb
    have hbn : ((s[0].toNat : Int) != 92) = false := by rw [hc]; rfl
    by_cases h1 : s.size = 1
    · have e : escV s.data.toList = none := by rw [list_one h1 h0, escV.eq_def]; simp [hc]
      rw [e]
      have h1' : ((s.size : Int) == 1) = true := by rw [h1]; rfl
      clear e h1 hc
      go_enter Tryz.func76, Tryz.ntmps76
      go_wp2
      go_ret2
      exact ⟨rfl, Below.refl _ _⟩
    · have h1' : ((s.size : Int) == 1) = false := by simp; omega
      have hlt : 1 < s.size := by omega
      have hd := data_cons2 hlt
      have hi : (1 : Int) < (s.size : Int) := by omega
      by_cases q1 : ((s[1].toNat : Int) == 34) = true
      · have hq := byte_is (m := 34) rfl q1
        have e : escV s.data.toList = some (s[1], 2) := by rw [hd, escV.eq_def]; simp [hc, hq]
        rw [e]
        clear e h1 hc hd hq
        go_enter Tryz.func76, Tryz.ntmps76
        go_wp2
        go_ret2
        exact ⟨rfl, Below.refl _ _⟩
      have q1' : ((s[1].toNat : Int) == 34) = false := by simpa using q1
      have n1 := byte_not (m := 34) rfl q1'
      by_cases q2 : ((s[1].toNat : Int) == 92) = true
      · have hq := byte_is (m := 92) rfl q2
        have e : escV s.data.toList = some (s[1], 2) := by rw [hd, escV.eq_def]; simp [hc, hq]
        rw [e]
        clear e h1 hc hd hq q1 n1
        go_enter Tryz.func76, Tryz.ntmps76
        go_wp2
        go_ret2
        exact ⟨rfl, Below.refl _ _⟩
      have q2' : ((s[1].toNat : Int) == 92) = false := by simpa using q2
      have n2 := byte_not (m := 92) rfl q2'
      by_cases q3 : ((s[1].toNat : Int) == 110) = true
      · have hq := byte_is (m := 110) rfl q3
        have e : escV s.data.toList = some (10, 2) := by rw [hd, escV.eq_def]; simp [hc, hq]
        rw [e]
        clear e h1 hc hd hq q1 n1 q2 n2
        go_enter Tryz.func76, Tryz.ntmps76
        go_wp2
        go_ret2
        exact ⟨rfl, Below.refl _ _⟩
      have q3' : ((s[1].toNat : Int) == 110) = false := by simpa using q3
      have n3 := byte_not (m := 110) rfl q3'
      by_cases q4 : ((s[1].toNat : Int) == 120) = true
      · have hq := byte_is (m := 120) rfl q4
        have e : escV s.data.toList = (match twoV (s.data.toList.drop 2) with | some x => some (UInt8.ofNat x, 4) | none => none) := by
          conv => lhs; rw [hd]
          rw [escV.eq_def]; simp [hc, hq]
          cases twoV (List.drop 2 s.data.toList) <;> rfl
        obtain ⟨k, hk⟩ : ∃ k, k = min 4 s.size := ⟨_, rfl⟩
        have hk1 : k ≤ s.size := by omega
        have hk2 : 2 ≤ k := by omega
        have hto : (min 4 (s.size : Int)).toNat = k := by omega
        have hb1 : 2 ≤ min 4 (s.size : Int) := by omega
        have hb2 : min 4 (s.size : Int) ≤ (s.size : Int) := by omega
        have hx : hexO (s.extract 2 k).data.toList = twoV (s.data.toList.drop 2) := by
          have he : (s.extract 2 k).data.toList = (s.data.toList.drop 2).take (k - 2) := by rw [Lib.extract_data]
          have hl : s.data.toList.length = s.size := len_data s
          rw [he, hexO, List.length_take, List.length_drop, hl]
          by_cases h4 : 4 ≤ s.size
          · rw [if_pos (by omega), show k - 2 = 2 by omega]
            have hlen : 2 ≤ (s.data.toList.drop 2).length := by rw [List.length_drop, hl]; omega
            match s.data.toList.drop 2, hlen with
            | a :: b :: r, _ => simp [twoV]
          · rw [if_neg (by omega)]
            have hlen : (s.data.toList.drop 2).length < 2 := by rw [List.length_drop, hl]; omega
            match s.data.toList.drop 2, hlen with
            | [], _ => rfl
            | [_], _ => rfl
        have C := hexByte_any (s.extract 2 k) w hE
        rw [hx, ← hto] at C
        rw [e]
        cases ho : twoV (s.data.toList.drop 2) with
        | none =>
          rw [ho] at C
          have H := Lib.hid C
          clear e h1 hc hd hq q1 n1 q2 n2 q3 n3 hx ho C hk hto
          go_enter Tryz.func76, Tryz.ntmps76
          go_wp2_with fail
          refine H.out.mono ?_
          rintro e w1 ⟨he, hb⟩
          rw [optV] at he
          subst he
          go_wp2
          go_ret2
          exact ⟨rfl, hb⟩
        | some x =>
          rw [ho] at C
          have hlt2 := twoV_lt ho
          have H := Lib.hid C
          have hxx : ((UInt8.ofNat x).toNat : Int) = (x : Int) := by simp; omega
          have HX := Lib.hid hxx
          clear e h1 hc hd hq q1 n1 q2 n2 q3 n3 hx ho C hk hxx hto
          go_enter Tryz.func76, Tryz.ntmps76
          go_wp2_with fail
          refine H.out.mono ?_
          rintro e w1 ⟨he, hb⟩
          rw [optV] at he
          subst he
          go_wp2
          go_ret2
          exact ⟨by rw [escR, HX.out]; rfl, hb⟩
      · have q4' : ((s[1].toNat : Int) == 120) = false := by simpa using q4
        have n4 := byte_not (m := 120) rfl q4'
        have e : escV s.data.toList = none := by rw [hd, escV.eq_def]; simp [hc, n1, n2, n3, n4]
        rw [e]
        clear e h1 hc hd q1 n1 q2 n2 q3 n3 q4 n4
        go_enter Tryz.func76, Tryz.ntmps76
        go_wp2
        go_ret2
        exact ⟨rfl, Below.refl _ _⟩
  · have hb' : ((s[0].toNat : Int) == 92) = false := by simpa using hb
    have hbn : ((s[0].toNat : Int) != 92) = true := by simpa using hb
    have hc := byte_not (m := 92) rfl hb'
    have e : escV s.data.toList = some (s[0], 1) := by rw [data_cons h0, escV.eq_def]; simp [hc]
    rw [e]
    clear e hc hb
    go_enter Tryz.func76, Tryz.ntmps76
    go_wp2
    go_ret2
    exact ⟨rfl, Below.refl _ _⟩
end Go.Proofs.YtiamojpeedllbaaGreatDoor
