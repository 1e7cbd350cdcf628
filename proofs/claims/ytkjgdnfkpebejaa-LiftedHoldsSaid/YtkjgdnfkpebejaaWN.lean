/-
Texts T1, T2, one behind the other (a claim bears sixty files). Conditions: as each says.
-/
import Derived.Test.YtkjgdnfkpebejaaProg
import Derived.WalkKit
import Derived.WalkSpells
import Derived.WalkLawsBesides
import Derived.ProofKit
import Derived.OpenShut
import Derived.Carry
import Derived.Lib.Hide
import Derived.Deep.Slices
import Derived.Below
import Derived.LoopTactic
import Derived.Shelf.Small.Strs

/-
Bytes: what tells a digit, a name byte, of package data and of the document: what each returns, for every byte. No condition.
-/
namespace Go.Proofs.Ytkjgdnfkpebejaa
open Go.ChangeShapes Go.WideShapes Go.ChangeAt Go.RowKit

/-! ### strings.IndexByte, off the shelf -/
def lays137_ren : Go.Shelf.Ren := ⟨fun | 137 => 104 | 217 => 115 | 266 => 121 | n => n, fun | 9 => 9 | 5 => 5 | 3 => 3 | n => n, fun | n => n⟩
theorem lays137 : Go.Proofs.Lays.n137 Try.prog lays137_ren := {
  mixed := by kernel_rfl
  f137 := Try.func104.trans (congrArg some (by kernel_rfl))
  f217 := Try.func115.trans (congrArg some (by kernel_rfl))
  f266 := Try.func121.trans (congrArg some (by kernel_rfl))
  t3 := Try.underlying3
  a3 := Try.isAgg3
  z3 := Try.sizeOf3
  v3 := Try.zeroValue3
  t5 := Try.underlying5
  a5 := Try.isAgg5
  z5 := Try.sizeOf5
  v5 := Try.zeroValue5
  t9 := Try.underlying9
  a9 := Try.isAgg9
  z9 := Try.sizeOf9
  v9 := Try.zeroValue9 }
theorem strings_IndexByte (s : ByteArray) (c : Int) (w : World) :
    Calls Try.prog 104 #[.string s, .int .u8 c] w fun e w' => e = .returned (.int .i64 (Lib.indexByte s.data.toList c.toNat.toUInt8)) ∧ w' = w := Any.strings_IndexByte lays137 s c w

theorem ret_bool {a b : Bool} (h : a = b) : Ending.returned (.bool a) = .returned (.bool b) := by rw [h]

def digB (c : Int) : Bool := decide (48 ≤ c) && decide (c ≤ 57)
def marks : List UInt8 := [33, 36, 37, 38, 42, 47, 58, 60, 61, 62, 63, 94, 95, 126, 43, 45, 46, 64]
def markB (c : Int) : Bool := marks.any fun m => (m.toNat : Int) == c
def nbyB (c : Int) : Bool := digB c || (decide (97 ≤ c) && decide (c ≤ 122)) || (decide (65 ≤ c) && decide (c ≤ 90)) || markB c

theorem isDigit_any (c : Int) (w : World) : Calls Try.prog 103 #[.int .u8 c] w fun e w' => e = .returned (.bool (digB c)) ∧ w = w' := by
  go_enter Try.func103, Try.ntmps103
  by_cases h : 48 ≤ c
  · go_wp2
    go_ret
    exact ⟨ret_bool (by simp [digB, h]), rfl⟩
  · go_wp2
    go_ret
    exact ⟨ret_bool (by simp [digB]; omega), rfl⟩
theorem rdigit_any (c : Int) (w : World) : Calls Try.prog 112 #[.int .u8 c] w fun e w' => e = .returned (.bool (digB c)) ∧ w = w' := by
  go_enter Try.func112, Try.ntmps112
  by_cases h : 48 ≤ c
  · go_wp2
    go_ret
    exact ⟨ret_bool (by simp [digB, h]), rfl⟩
  · go_wp2
    go_ret
    exact ⟨ret_bool (by simp [digB]; omega), rfl⟩

theorem byte_cases {p : Int → Prop} (h : ∀ b : UInt8, p (b.toNat : Int)) (c : Int) (h0 : 0 ≤ c) (h1 : c ≤ 255) : p c := by
  have := h (UInt8.ofNat c.toNat)
  rwa [show ((UInt8.ofNat c.toNat).toNat : Int) = c by simp; omega] at this

theorem index_marks (c : Int) (h0 : 0 ≤ c) (h1 : c ≤ 255) : (decide (0 ≤ Lib.indexByte [33, 36, 37, 38, 42, 47, 58, 60, 61, 62, 63, 94, 95, 126, 43, 45, 46, 64] (UInt8.ofNat c.toNat))) = markB c := by
  refine byte_cases (p := fun c => (decide (0 ≤ Lib.indexByte [33, 36, 37, 38, 42, 47, 58, 60, 61, 62, 63, 94, 95, 126, 43, 45, 46, 64] (UInt8.ofNat c.toNat))) = markB c) ?_ c h0 h1
  have : ∀ n : Fin 256, decide (0 ≤ Lib.indexByte [33, 36, 37, 38, 42, 47, 58, 60, 61, 62, 63, 94, 95, 126, 43, 45, 46, 64] (n.val.toUInt8)) = markB n.val := by decide +kernel
  intro b
  have h := this ⟨b.toNat, b.toNat_lt⟩
  simpa using h

theorem isNameByte_any (c : Int) (w : World) (h0 : 0 ≤ c) (h1 : c ≤ 255) : Calls Try.prog 85 #[.int .u8 c] w fun e w' => e = .returned (.bool (nbyB c)) ∧ w = w' := by
  have hm := index_marks c h0 h1
  by_cases hd : digB c = true
  · have C := isDigit_any c
    rw [hd] at C
    have H := Lib.hid C
    clear C
    go_enter Try.func85, Try.ntmps85
    go_wp2_with (go_at_call 103; ((with_reducible refine (H.out _).mono ?_); rintro e w' ⟨rfl, rfl⟩))
    go_ret
    exact ⟨ret_bool (by simp [nbyB, hd]), rfl⟩
  · have hd' : digB c = false := by simpa using hd
    have C := isDigit_any c
    rw [hd'] at C
    have H := Lib.hid C
    clear C
    have H2 := Lib.hid hm
    clear hm
    have Hd := Lib.hid hd'
    clear hd hd'
    by_cases l1 : 97 ≤ c <;> by_cases l2 : c ≤ 122 <;> by_cases u1 : 65 ≤ c <;> by_cases u2 : c ≤ 90 <;> try omega
    all_goals
      go_enter Try.func85, Try.ntmps85
      go_wp2_with (first | (go_at_call 103; ((with_reducible refine (H.out _).mono ?_); rintro e w' ⟨rfl, rfl⟩)) | (go_at_call 104; ((with_reducible refine (strings_IndexByte _ _ _).mono ?_); rintro e w' ⟨rfl, rfl⟩)))
      go_ret
      refine ⟨ret_bool ?_, rfl⟩
      have e := H2.out
      simp only [nbyB, Hd.out, Bool.false_or]
      try rw [e]
      generalize markB c = m
      cases m <;> rw [Bool.eq_iff_iff] <;> simp <;> omega


theorem any_take_succ {α : Type} (l : List α) (p : α → Bool) (k : Nat) (h : k < l.length) : (l.take (k + 1)).any p = ((l.take k).any p || p l[k]) := by
  rw [List.take_succ_eq_append_getElem h, List.any_append]; simp
theorem all_take_succ {α : Type} (l : List α) (p : α → Bool) (k : Nat) (h : k < l.length) : (l.take (k + 1)).all p = ((l.take k).all p && p l[k]) := by
  rw [List.take_succ_eq_append_getElem h, List.all_append]; simp
theorem marks_len : marks.length = 18 := rfl

theorem rbyte_no (c : Int) (w : World) (hdig : digB c = false) (hl : c < 97 ∨ 122 < c) (hu : c < 65 ∨ 90 < c) : Calls Try.prog 100 #[.int .u8 c] w fun e w' => e = .returned (.bool (markB c)) ∧ w = w' := by
  have C := rdigit_any c
  rw [hdig] at C
  have H := Lib.hid C
  clear C
  by_cases l1 : 97 ≤ c <;> by_cases l2 : c ≤ 122 <;> by_cases u1 : 65 ≤ c <;> by_cases u2 : c ≤ 90 <;> try omega
  all_goals
    go_enter Try.func100, Try.ntmps100
    go_wp2_with (go_at_call 112; ((with_reducible refine (H.out _).mono ?_); rintro e w' ⟨rfl, rfl⟩))
    go_loop [4] (fun i => ∃ k : Nat, k ≤ 18 ∧ i = .int .i64 k ∧ (marks.take k).any (fun m => (m.toNat : Int) == c) = false) (fun i => 18 - (intOf i).toNat)
    case atStart => exact ⟨0, Nat.zero_le _, rfl, rfl⟩
    case round =>
      obtain ⟨k, hk, rfl, hn⟩ := hrel
      by_cases hlt : k < 18
      · have ht := any_take_succ marks (fun m => (m.toNat : Int) == c) k hlt
        rw [hn, Bool.false_or] at ht
        have HT := Lib.hid ht
        clear ht
        have HN := Lib.hid hn
        clear hn
        by_cases hc : ((({ data := #[33, 36, 37, 38, 42, 47, 58, 60, 61, 62, 63, 94, 95, 126, 43, 45, 46, 64] } : ByteArray)[k]).toNat : Int) == c
        · go_wp2
          go_ret
          exact ⟨ret_bool (List.any_eq_true.2 ⟨marks[k], List.getElem_mem _, hc⟩).symm, rfl⟩
        · have hc' : (((({ data := #[33, 36, 37, 38, 42, 47, 58, 60, 61, 62, 63, 94, 95, 126, 43, 45, 46, 64] } : ByteArray)[k]).toNat : Int) == c) = false := by simpa using hc
          go_wp2
          go_round
          case rel => exact ⟨k + 1, by omega, by go_num, HT.out.trans hc'⟩
          case measure => simp [intOf]; omega
      · obtain rfl : k = 18 := by omega
        have HN := Lib.hid hn
        clear hn
        go_wp2
        go_ret
        exact ⟨ret_bool HN.out.symm, rfl⟩

/-- Two ways: digits and letters are told at once. -/
theorem rbyte_yes (c : Int) (w : World) (hy : digB c = true ∨ 97 ≤ c ∧ c ≤ 122 ∨ 65 ≤ c ∧ c ≤ 90) : Calls Try.prog 100 #[.int .u8 c] w fun e w' => e = .returned (.bool true) ∧ w = w' := by
  by_cases hd : digB c = true
  · have C := rdigit_any c
    rw [hd] at C
    have H := Lib.hid C
    clear C hd hy
    go_enter Try.func100, Try.ntmps100
    go_wp2_with (go_at_call 112; ((with_reducible refine (H.out _).mono ?_); rintro e w' ⟨rfl, rfl⟩))
    go_ret
    exact ⟨rfl, rfl⟩
  · have hy' : 97 ≤ c ∧ c ≤ 122 ∨ 65 ≤ c ∧ c ≤ 90 := hy.resolve_left hd
    have hd' : digB c = false := by simpa using hd
    have C := rdigit_any c
    rw [hd'] at C
    have H := Lib.hid C
    clear C hd hy hd'
    rcases hy' with ⟨l1, l2⟩ | ⟨u1, u2⟩
    · go_enter Try.func100, Try.ntmps100
      go_wp2_with (go_at_call 112; ((with_reducible refine (H.out _).mono ?_); rintro e w' ⟨rfl, rfl⟩))
      go_ret
      exact ⟨rfl, rfl⟩
    · have l1 : ¬ 97 ≤ c := by omega
      go_enter Try.func100, Try.ntmps100
      go_wp2_with (go_at_call 112; ((with_reducible refine (H.out _).mono ?_); rintro e w' ⟨rfl, rfl⟩))
      go_ret
      exact ⟨rfl, rfl⟩

theorem rbyte_any (c : Int) (w : World) : Calls Try.prog 100 #[.int .u8 c] w fun e w' => e = .returned (.bool (nbyB c)) ∧ w = w' := by
  by_cases hy : digB c = true ∨ 97 ≤ c ∧ c ≤ 122 ∨ 65 ≤ c ∧ c ≤ 90
  · refine (rbyte_yes c w hy).mono fun e w' ⟨he, hw⟩ => ⟨he.trans (ret_bool ?_), hw⟩
    rcases hy with h | h | h <;> simp [nbyB, h]
  · have hd : digB c = false := by simpa using fun h => hy (.inl h)
    refine (rbyte_no c w hd (by omega) (by omega)).mono fun e w' ⟨he, hw⟩ => ⟨he.trans (ret_bool ?_), hw⟩
    have a : ¬ (97 ≤ c ∧ c ≤ 122) := by omega
    have b : ¬ (65 ≤ c ∧ c ≤ 90) := by omega
    have a' : (decide (97 ≤ c) && decide (c ≤ 122)) = false := by simpa using a
    have b' : (decide (65 ≤ c) && decide (c ≤ 90)) = false := by simpa using b
    simp [nbyB, hd, a', b']
end Go.Proofs.Ytkjgdnfkpebejaa

/-
Numerals and names: package data's isNumeral and Name, the document's Number: what each returns, for every string. No condition.
-/
namespace Go.Proofs.Ytkjgdnfkpebejaa
open Go.ChangeShapes Go.WideShapes Go.ChangeAt Go.RowKit

def dig8 (c : UInt8) : Bool := digB c.toNat
def digsB (l : List UInt8) : Bool := l.all dig8
def numB (l : List UInt8) : Bool := match l with
  | [] => false
  | c :: r => if c = 43 ∨ c = 45 then !r.isEmpty && r.all dig8 else l.all dig8

theorem ne_of_size {s : ByteArray} (h : 0 < s.size) : ¬ s.toList = [] ∧ s.toList.isEmpty = false := by
  rw [ByteArray.toList_eq]
  have : ¬ s.data.toList = [] := by
    intro e
    have := congrArg List.length e
    simp at this
    simp [ByteArray.size, this] at h
  exact ⟨this, by simpa using this⟩
theorem numB_sign (l : List UInt8) (h : 0 < l.length) (hc : l[0] = 43 ∨ l[0] = 45) : numB l = (!(l.drop 1).isEmpty && digsB (l.drop 1)) := by
  match l, h with
  | c :: r, _ => simp only [List.getElem_cons_zero] at hc; simp [numB, digsB, hc]
theorem numB_plain (l : List UInt8) (h : 0 < l.length) (hc : ¬ (l[0] = 43 ∨ l[0] = 45)) : numB l = digsB l := by
  match l, h with
  | c :: r, _ => simp only [List.getElem_cons_zero] at hc; rw [numB, if_neg hc]; rfl
theorem all_of_not {l : List UInt8} {p : UInt8 → Bool} (k : Nat) (h : k < l.length) (hf : p l[k] = false) : l.all p = false := by
  rw [List.all_eq_false]
  exact ⟨l[k], List.getElem_mem _, by simp [hf]⟩

theorem isNumeral_plain (s : ByteArray) (w : World) (hs : s.size ≤ maxLen) (h0 : 0 < s.size) (h1 : ((s[0].toNat : Int) == 43) = false) (h2 : ((s[0].toNat : Int) == 45) = false) :
    Calls Try.prog 84 #[.string s] w fun e w' => e = .returned (.bool (digsB s.data.toList)) ∧ w = w' := by
  unfold maxLen at hs
  obtain ⟨n1, n2⟩ := ne_of_size h0
  have hl : s.data.toList.length = s.size := by rw [Array.length_toList]; rfl
  have HL := Lib.hid hl
  clear hl
  go_enter Try.func84, Try.ntmps84
  go_wp2
  go_loop [20] (fun i => ∃ k : Nat, k ≤ s.size ∧ i = .int .i64 k ∧ (s.data.toList.take k).all dig8 = true) (fun i => s.size - (intOf i).toNat)
  case atStart => exact ⟨0, Nat.zero_le _, rfl, rfl⟩
  case round =>
    obtain ⟨k, hk, rfl, hn⟩ := hrel
    by_cases hlt : k < s.size
    · have ht := all_take_succ s.data.toList dig8 k (by rw [HL.out]; exact hlt)
      rw [hn, Bool.true_and] at ht
      have HT := Lib.hid ht
      have HN := Lib.hid hn
      clear hn ht
      by_cases hc : digB s[k].toNat = true
      · have C := isDigit_any s[k].toNat
        rw [hc] at C
        have H := Lib.hid C
        have HC := Lib.hid hc
        clear C hc
        go_wp2_with (go_at_call 103; ((with_reducible refine (H.out _).mono ?_); rintro e w' ⟨rfl, rfl⟩))
        go_round
        case rel => exact ⟨k + 1, by omega, by go_num, HT.out.trans HC.out⟩
        case measure => simp [intOf]; omega
      · have hc' : digB s[k].toNat = false := by simpa using hc
        have C := isDigit_any s[k].toNat
        rw [hc'] at C
        have H := Lib.hid C
        have HC := Lib.hid hc'
        clear C hc hc'
        go_wp2_with (go_at_call 103; ((with_reducible refine (H.out _).mono ?_); rintro e w' ⟨rfl, rfl⟩))
        go_ret
        exact ⟨ret_bool (all_of_not k (by rw [HL.out]; exact hlt) HC.out).symm, rfl⟩
    · obtain rfl : k = s.size := by omega
      have HN := Lib.hid hn
      clear hn
      go_wp2
      go_ret
      refine ⟨ret_bool ?_, rfl⟩
      have := HN.out
      rw [List.take_of_length_le (by rw [HL.out]; omega)] at this
      exact this.symm

theorem isNumeral_sign (s : ByteArray) (r : Bool) (hr : r = (!(s.data.toList.drop 1).isEmpty && digsB (s.data.toList.drop 1))) (w : World) (hs : s.size ≤ maxLen) (h0 : 0 < s.size) (h1 : ((s[0].toNat : Int) == 43) = true ∨ ((s[0].toNat : Int) == 43) = false ∧ ((s[0].toNat : Int) == 45) = true) :
    Calls Try.prog 84 #[.string s] w fun e w' => e = .returned (.bool r) ∧ w = w' := by
  have HR := Lib.hid hr
  clear hr
  unfold maxLen at hs
  obtain ⟨n1, n2⟩ := ne_of_size h0
  have he : (s.extract 1 s.size).data.toList = s.data.toList.drop 1 := by rw [Lib.extract_data, List.take_of_length_le]; simp
  have hz : (s.extract 1 s.size).size = s.size - 1 := by simp
  have hl : (s.extract 1 s.size).data.toList.length = s.size - 1 := by rw [Array.length_toList]; exact hz
  have HE := Lib.hid he
  have HZ := Lib.hid hz
  have HL := Lib.hid hl
  clear he hz hl
  rcases h1 with h1 | ⟨h1, h2⟩
  all_goals
    go_enter Try.func84, Try.ntmps84
    go_wp2
    go_loop [20] (fun i => ∃ k : Nat, k ≤ s.size - 1 ∧ i = .int .i64 k ∧ ((s.extract 1 s.size).data.toList.take k).all dig8 = true) (fun i => s.size - (intOf i).toNat)
    case atStart => exact ⟨0, Nat.zero_le _, rfl, rfl⟩
    case round =>
      obtain ⟨k, hk, rfl, hn⟩ := hrel
      by_cases hlt : k < s.size - 1
      · have ht := all_take_succ (s.extract 1 s.size).data.toList dig8 k (by rw [HL.out]; exact hlt)
        rw [hn, Bool.true_and] at ht
        have HT := Lib.hid ht
        have HN := Lib.hid hn
        clear hn ht
        by_cases hc : digB ((s.extract 1 s.size)[k]'(by rw [HZ.out]; exact hlt)).toNat = true
        · have C := isDigit_any ((s.extract 1 s.size)[k]'(by rw [HZ.out]; exact hlt)).toNat
          rw [hc] at C
          have H := Lib.hid C
          have HC := Lib.hid hc
          clear C hc
          go_wp2_with (go_at_call 103; ((with_reducible refine (H.out _).mono ?_); rintro e w' ⟨rfl, rfl⟩))
          go_round
          case rel => exact ⟨k + 1, by omega, by go_num, HT.out.trans HC.out⟩
          case measure => simp [intOf]; omega
        · have hc' : digB ((s.extract 1 s.size)[k]'(by rw [HZ.out]; exact hlt)).toNat = false := by simpa using hc
          have C := isDigit_any ((s.extract 1 s.size)[k]'(by rw [HZ.out]; exact hlt)).toNat
          rw [hc'] at C
          have H := Lib.hid C
          have HC := Lib.hid hc'
          clear C hc hc'
          go_wp2_with (go_at_call 103; ((with_reducible refine (H.out _).mono ?_); rintro e w' ⟨rfl, rfl⟩))
          go_ret
          refine ⟨ret_bool ?_, rfl⟩
          rw [HR.out, ← HE.out, digsB, all_of_not k (by rw [HL.out]; exact hlt) HC.out, Bool.and_false]
      · obtain rfl : k = s.size - 1 := by omega
        have HN := Lib.hid hn
        clear hn
        have hall : digsB (s.data.toList.drop 1) = true := by
          have := HN.out
          rwa [List.take_of_length_le (by rw [HL.out]; omega), HE.out] at this
        have HA := Lib.hid hall
        clear hall
        by_cases hz1 : s.size = 1
        · have hzz : (s.extract 1 s.size).toList = [] := by
            rw [ByteArray.toList_eq]
            exact List.length_eq_zero_iff.1 (by rw [HL.out]; omega)
          have hq : (s.data.toList.drop 1).isEmpty = true := by
            rw [← HE.out, ← ByteArray.toList_eq, hzz]; rfl
          have HQ := Lib.hid hq
          clear hq
          go_wp2
          go_ret
          refine ⟨ret_bool ?_, rfl⟩
          rw [HR.out, HQ.out]; rfl
        · obtain ⟨m1, m2⟩ := ne_of_size (s := s.extract 1 s.size) (by rw [HZ.out]; omega)
          have hq : (s.data.toList.drop 1).isEmpty = false := by
            rw [← HE.out, ← ByteArray.toList_eq]; exact m2
          have HQ := Lib.hid hq
          clear hq
          go_wp2
          go_ret
          refine ⟨ret_bool ?_, rfl⟩
          rw [HR.out, HQ.out, HA.out]; rfl

theorem isNumeral_any (s : ByteArray) (w : World) (hs : s.size ≤ maxLen) :
    Calls Try.prog 84 #[.string s] w fun e w' => e = .returned (.bool (numB s.data.toList)) ∧ w = w' := by
  by_cases h0 : s.size = 0
  · obtain ⟨⟨l⟩⟩ := s
    obtain rfl : l = [] := List.length_eq_zero_iff.1 h0
    clear hs h0
    go_enter Try.func84, Try.ntmps84
    go_wp2
    refine wp_loop_rounds 1 ?_
    rw [rounds_succ]
    go_wp2
    go_ret
    exact ⟨rfl, rfl⟩
  · have hp : 0 < s.size := by omega
    have hl : s.data.toList.length = s.size := by rw [Array.length_toList]; rfl
    have h0' : 0 < s.data.toList.length := by omega
    have hq : s.data.toList[0] = s[0] := rfl
    by_cases h1 : ((s[0].toNat : Int) == 43) = true
    · refine (isNumeral_sign s _ rfl w hs hp (.inl h1)).mono fun e w' ⟨he, hw⟩ => ⟨he.trans (ret_bool ?_), hw⟩
      refine (numB_sign _ h0' ?_).symm
      left
      rw [hq]
      exact UInt8.toNat_inj.1 (by have := beq_iff_eq.1 h1; have e : (43 : UInt8).toNat = 43 := rfl; omega)
    · by_cases h2 : ((s[0].toNat : Int) == 45) = true
      · refine (isNumeral_sign s _ rfl w hs hp (.inr ⟨by simpa using h1, h2⟩)).mono fun e w' ⟨he, hw⟩ => ⟨he.trans (ret_bool ?_), hw⟩
        refine (numB_sign _ h0' ?_).symm
        right
        rw [hq]
        exact UInt8.toNat_inj.1 (by have := beq_iff_eq.1 h2; have e : (45 : UInt8).toNat = 45 := rfl; omega)
      · refine (isNumeral_plain s w hs hp (by simpa using h1) (by simpa using h2)).mono fun e w' ⟨he, hw⟩ => ⟨he.trans (ret_bool ?_), hw⟩
        refine (numB_plain _ h0' ?_).symm
        rw [hq]
        rintro (h | h)
        · exact h1 (by rw [h]; rfl)
        · exact h2 (by rw [h]; rfl)

theorem number_plain (s : ByteArray) (w : World) (hs : s.size ≤ maxLen) (h0 : 0 < s.size) (h1 : ((s[0].toNat : Int) == 43) = false) (h2 : ((s[0].toNat : Int) == 45) = false) :
    Calls Try.prog 99 #[.string s] w fun e w' => e = .returned (.bool (digsB s.data.toList)) ∧ w = w' := by
  unfold maxLen at hs
  have hl : s.data.toList.length = s.size := by rw [Array.length_toList]; rfl
  have HL := Lib.hid hl
  clear hl
  go_enter Try.func99, Try.ntmps99
  go_wp2
  go_loop [4] (fun i => ∃ k : Nat, k ≤ s.size ∧ i = .int .i64 k ∧ (s.data.toList.take k).all dig8 = true) (fun i => s.size - (intOf i).toNat)
  case atStart => exact ⟨0, Nat.zero_le _, rfl, rfl⟩
  case round =>
    obtain ⟨k, hk, rfl, hn⟩ := hrel
    by_cases hlt : k < s.size
    · have ht := all_take_succ s.data.toList dig8 k (by rw [HL.out]; exact hlt)
      rw [hn, Bool.true_and] at ht
      have HT := Lib.hid ht
      have HN := Lib.hid hn
      clear hn ht
      by_cases hc : digB s[k].toNat = true
      · have C := rdigit_any s[k].toNat
        rw [hc] at C
        have H := Lib.hid C
        have HC := Lib.hid hc
        clear C hc
        go_wp2_with (go_at_call 112; ((with_reducible refine (H.out _).mono ?_); rintro e w' ⟨rfl, rfl⟩))
        go_round
        case rel => exact ⟨k + 1, by omega, by go_num, HT.out.trans HC.out⟩
        case measure => simp [intOf]; omega
      · have hc' : digB s[k].toNat = false := by simpa using hc
        have C := rdigit_any s[k].toNat
        rw [hc'] at C
        have H := Lib.hid C
        have HC := Lib.hid hc'
        clear C hc hc'
        go_wp2_with (go_at_call 112; ((with_reducible refine (H.out _).mono ?_); rintro e w' ⟨rfl, rfl⟩))
        go_ret
        exact ⟨ret_bool (all_of_not k (by rw [HL.out]; exact hlt) HC.out).symm, rfl⟩
    · obtain rfl : k = s.size := by omega
      have HN := Lib.hid hn
      clear hn
      go_wp2
      go_ret
      refine ⟨ret_bool ?_, rfl⟩
      have := HN.out
      rw [List.take_of_length_le (by rw [HL.out]; omega)] at this
      exact this.symm

theorem number_sign (s : ByteArray) (r : Bool) (hr : r = (!(s.data.toList.drop 1).isEmpty && digsB (s.data.toList.drop 1))) (w : World) (hs : s.size ≤ maxLen) (h0 : 0 < s.size) (h1 : ((s[0].toNat : Int) == 43) = true ∨ ((s[0].toNat : Int) == 43) = false ∧ ((s[0].toNat : Int) == 45) = true) :
    Calls Try.prog 99 #[.string s] w fun e w' => e = .returned (.bool r) ∧ w = w' := by
  have HR := Lib.hid hr
  clear hr
  unfold maxLen at hs
  have hl : s.data.toList.length = s.size := by rw [Array.length_toList]; rfl
  have HL := Lib.hid hl
  clear hl
  rcases h1 with h1 | ⟨h1, h2⟩
  all_goals
    go_enter Try.func99, Try.ntmps99
    go_wp2
    go_loop [4] (fun i => ∃ k : Nat, k + 1 ≤ s.size ∧ i = .int .i64 (k + 1 : Nat) ∧ ((s.data.toList.drop 1).take k).all dig8 = true) (fun i => s.size - (intOf i).toNat)
    case atStart => exact ⟨0, by omega, rfl, rfl⟩
    case round =>
      obtain ⟨k, hk, rfl, hn⟩ := hrel
      by_cases hlt : k + 1 < s.size
      · have ht := all_take_succ (s.data.toList.drop 1) dig8 k (by rw [List.length_drop, HL.out]; omega)
        rw [hn, Bool.true_and, List.getElem_drop] at ht
        have hz : s.data.toList[1 + k]'(by rw [HL.out]; omega) = s[k + 1] := by
          show s.data.toList[1 + k]'_ = s.data.toList[k + 1]'(by rw [HL.out]; omega)
          congr 1; omega
        rw [hz] at ht
        have HT := Lib.hid ht
        have HN := Lib.hid hn
        clear hn ht hz
        by_cases hc : digB s[k + 1].toNat = true
        · have C := rdigit_any s[k + 1].toNat
          rw [hc] at C
          have H := Lib.hid C
          have HC := Lib.hid hc
          clear C hc
          go_wp2_with (go_at_call 112; ((with_reducible refine (H.out _).mono ?_); rintro e w' ⟨rfl, rfl⟩))
          go_round
          case rel => exact ⟨k + 1, by omega, by go_num, HT.out.trans HC.out⟩
          case measure => simp [intOf]; omega
        · have hc' : digB s[k + 1].toNat = false := by simpa using hc
          have C := rdigit_any s[k + 1].toNat
          rw [hc'] at C
          have H := Lib.hid C
          have HC := Lib.hid hc'
          clear C hc hc'
          go_wp2_with (go_at_call 112; ((with_reducible refine (H.out _).mono ?_); rintro e w' ⟨rfl, rfl⟩))
          go_ret
          refine ⟨ret_bool ?_, rfl⟩
          rw [HR.out, digsB, all_of_not (l := s.data.toList.drop 1) k (by rw [List.length_drop, HL.out]; omega), Bool.and_false]
          rw [List.getElem_drop]
          have hz : s.data.toList[1 + k]'(by rw [HL.out]; omega) = s[k + 1] := by
            show s.data.toList[1 + k]'_ = s.data.toList[k + 1]'(by rw [HL.out]; omega)
            congr 1; omega
          rw [hz]
          exact HC.out
      · obtain rfl : k = s.size - 1 := by omega
        have HN := Lib.hid hn
        clear hn
        have hall : digsB (s.data.toList.drop 1) = true := by
          have := HN.out
          rwa [List.take_of_length_le (by rw [List.length_drop, HL.out]; omega)] at this
        have HA := Lib.hid hall
        clear hall
        by_cases hz1 : s.size = 1
        · have hq : (s.data.toList.drop 1).isEmpty = true := by
            rw [List.isEmpty_iff]
            exact List.length_eq_zero_iff.1 (by rw [List.length_drop, HL.out]; omega)
          have HQ := Lib.hid hq
          have HZ1 := Lib.hid hz1
          clear hq hz1
          have hd : decide ((1 : Int) < (s.size : Int)) = false := by have := HZ1.out; simp; omega
          go_wp2
          go_ret
          refine ⟨ret_bool ?_, rfl⟩
          rw [HR.out, HQ.out]
          have := HZ1.out
          simp
        · have hq : (s.data.toList.drop 1).isEmpty = false := by
            rw [← Bool.not_eq_true, List.isEmpty_iff]
            intro e
            have := congrArg List.length e
            rw [List.length_drop, HL.out] at this
            simp at this
            omega
          have HQ := Lib.hid hq
          clear hq
          have hd : (1 : Int) < (s.size : Int) := by omega
          go_wp2
          go_ret
          refine ⟨ret_bool ?_, rfl⟩
          rw [HR.out, HQ.out, HA.out]
          simp
          try omega

theorem number_any (s : ByteArray) (w : World) (hs : s.size ≤ maxLen) :
    Calls Try.prog 99 #[.string s] w fun e w' => e = .returned (.bool (numB s.data.toList)) ∧ w = w' := by
  by_cases h0 : s.size = 0
  · obtain ⟨⟨l⟩⟩ := s
    obtain rfl : l = [] := List.length_eq_zero_iff.1 h0
    clear hs h0
    go_enter Try.func99, Try.ntmps99
    go_wp2
    refine wp_loop_rounds 1 ?_
    rw [rounds_succ]
    go_wp2
    go_ret
    exact ⟨rfl, rfl⟩
  · have hp : 0 < s.size := by omega
    have hl : s.data.toList.length = s.size := by rw [Array.length_toList]; rfl
    have h0' : 0 < s.data.toList.length := by omega
    have hq : s.data.toList[0] = s[0] := rfl
    by_cases h1 : ((s[0].toNat : Int) == 43) = true
    · refine (number_sign s _ rfl w hs hp (.inl h1)).mono fun e w' ⟨he, hw⟩ => ⟨he.trans (ret_bool ?_), hw⟩
      refine (numB_sign _ h0' ?_).symm
      left
      rw [hq]
      exact UInt8.toNat_inj.1 (by have := beq_iff_eq.1 h1; have e : (43 : UInt8).toNat = 43 := rfl; omega)
    · by_cases h2 : ((s[0].toNat : Int) == 45) = true
      · refine (number_sign s _ rfl w hs hp (.inr ⟨by simpa using h1, h2⟩)).mono fun e w' ⟨he, hw⟩ => ⟨he.trans (ret_bool ?_), hw⟩
        refine (numB_sign _ h0' ?_).symm
        right
        rw [hq]
        exact UInt8.toNat_inj.1 (by have := beq_iff_eq.1 h2; have e : (45 : UInt8).toNat = 45 := rfl; omega)
      · refine (number_plain s w hs hp (by simpa using h1) (by simpa using h2)).mono fun e w' ⟨he, hw⟩ => ⟨he.trans (ret_bool ?_), hw⟩
        refine (numB_plain _ h0' ?_).symm
        rw [hq]
        rintro (h | h)
        · exact h1 (by rw [h]; rfl)
        · exact h2 (by rw [h]; rfl)

def nby8 (c : UInt8) : Bool := nbyB c.toNat
def bytesB (l : List UInt8) : Bool := l.all nby8
def nameB (l : List UInt8) : Bool := !l.isEmpty && decide (l.length ≤ 64) && !(l == [46]) && !numB l && bytesB l

theorem len_data (s : ByteArray) : s.data.toList.length = s.size := by rw [Array.length_toList]; rfl

/-- Which texts go over to the loop. -/
theorem name_loop (s : ByteArray) (w : World) (hs : s.size ≤ maxLen) (h0 : 0 < s.size) (h1 : s.size ≤ 64) (h2 : ¬ s.data.toList = [46]) (h3 : numB s.data.toList = false) :
    Calls Try.prog 72 #[.string s] w fun e w' => e = .returned (.bool (bytesB s.data.toList)) ∧ w = w' := by
  have C := fun W => isNumeral_any s W hs
  rw [h3] at C
  have HN3 := Lib.hid C
  clear C h3
  unfold maxLen at hs
  obtain ⟨n1, n2⟩ := ne_of_size h0
  rw [← ByteArray.toList_eq] at h2
  have HL := Lib.hid (len_data s)
  have h1' : (s.size : Int) ≤ 64 := by omega
  have e1 : decide (64 < (s.size : Int)) = false := by simpa using h1'
  have e2 : (s.toList == [46]) = false := by simpa using h2
  go_enter Try.func72, Try.ntmps72
  go_wp2_with (go_at_call 84; ((with_reducible refine (HN3.out _).mono ?_); rintro e w' ⟨rfl, rfl⟩))
  go_loop [21] (fun i => ∃ k : Nat, k ≤ s.size ∧ i = .int .i64 k ∧ (s.data.toList.take k).all nby8 = true) (fun i => s.size - (intOf i).toNat)
  case atStart => exact ⟨0, Nat.zero_le _, rfl, rfl⟩
  case round =>
    obtain ⟨k, hk, rfl, hn⟩ := hrel
    by_cases hlt : k < s.size
    · have ht := all_take_succ s.data.toList nby8 k (by rw [HL.out]; exact hlt)
      rw [hn, Bool.true_and] at ht
      have HT := Lib.hid ht
      have HN := Lib.hid hn
      clear hn ht
      have hb : s[k].toNat ≤ 255 := by have := s[k].toNat_lt; omega
      by_cases hc : nbyB s[k].toNat = true
      · have C := fun W => isNameByte_any s[k].toNat W (by omega) (by omega)
        rw [hc] at C
        have H := Lib.hid C
        have HC := Lib.hid hc
        clear C hc hb
        go_wp2_with (go_at_call 85; ((with_reducible refine (H.out _).mono ?_); rintro e w' ⟨rfl, rfl⟩))
        go_round
        case rel => exact ⟨k + 1, by omega, by go_num, HT.out.trans HC.out⟩
        case measure => simp [intOf]; omega
      · have hc' : nbyB s[k].toNat = false := by simpa using hc
        have C := fun W => isNameByte_any s[k].toNat W (by omega) (by omega)
        rw [hc'] at C
        have H := Lib.hid C
        have HC := Lib.hid hc'
        clear C hc hc' hb
        go_wp2_with (go_at_call 85; ((with_reducible refine (H.out _).mono ?_); rintro e w' ⟨rfl, rfl⟩))
        go_ret
        exact ⟨ret_bool (all_of_not k (by rw [HL.out]; exact hlt) HC.out).symm, rfl⟩
    · obtain rfl : k = s.size := by omega
      have HN := Lib.hid hn
      clear hn
      go_wp2
      go_ret
      refine ⟨ret_bool ?_, rfl⟩
      have := HN.out
      rw [List.take_of_length_le (by rw [HL.out]; omega)] at this
      exact this.symm

theorem name_not (s : ByteArray) (w : World) (hs : s.size ≤ maxLen) (h : s.size = 0 ∨ 64 < s.size ∨ 0 < s.size ∧ s.size ≤ 64 ∧ (s.data.toList = [46] ∨ ¬ s.data.toList = [46] ∧ numB s.data.toList = true)) :
    Calls Try.prog 72 #[.string s] w fun e w' => e = .returned (.bool false) ∧ w = w' := by
  rcases h with h | h | ⟨h0, h1, h2 | ⟨h2, h3⟩⟩
  · obtain ⟨⟨l⟩⟩ := s
    obtain rfl : l = [] := List.length_eq_zero_iff.1 h
    clear hs h
    go_enter Try.func72, Try.ntmps72
    go_wp2
    go_ret
    exact ⟨rfl, rfl⟩
  · unfold maxLen at hs
    obtain ⟨n1, n2⟩ := ne_of_size (s := s) (by omega)
    have h1' : (64 : Int) < (s.size : Int) := by omega
    go_enter Try.func72, Try.ntmps72
    go_wp2
    go_ret
    exact ⟨rfl, rfl⟩
  · unfold maxLen at hs
    obtain ⟨n1, n2⟩ := ne_of_size h0
    rw [← ByteArray.toList_eq] at h2
    have h1' : (s.size : Int) ≤ 64 := by omega
    go_enter Try.func72, Try.ntmps72
    go_wp2
    go_ret
    exact ⟨rfl, rfl⟩
  · have C := fun W => isNumeral_any s W hs
    rw [h3] at C
    have HN3 := Lib.hid C
    clear C h3
    unfold maxLen at hs
    obtain ⟨n1, n2⟩ := ne_of_size h0
    rw [← ByteArray.toList_eq] at h2
    have h1' : (s.size : Int) ≤ 64 := by omega
    go_enter Try.func72, Try.ntmps72
    go_wp2_with (go_at_call 84; ((with_reducible refine (HN3.out _).mono ?_); rintro e w' ⟨rfl, rfl⟩))
    go_ret
    exact ⟨rfl, rfl⟩

theorem nameB_not (s : ByteArray) (h : s.size = 0 ∨ 64 < s.size ∨ 0 < s.size ∧ s.size ≤ 64 ∧ (s.data.toList = [46] ∨ ¬ s.data.toList = [46] ∧ numB s.data.toList = true)) : nameB s.data.toList = false := by
  have hl := len_data s
  unfold nameB
  rcases h with h | h | ⟨h0, h1, h2 | ⟨h2, h3⟩⟩
  · have : s.data.toList = [] := List.length_eq_zero_iff.1 (by omega)
    simp only [this]; rfl
  · have : decide (s.data.toList.length ≤ 64) = false := by rw [hl]; simpa using h
    simp only [this, Bool.and_false, Bool.false_and]
  · simp only [h2]; rfl
  · simp only [h3, Bool.not_true, Bool.and_false, Bool.false_and]
theorem nameB_loop (s : ByteArray) (h0 : 0 < s.size) (h1 : s.size ≤ 64) (h2 : ¬ s.data.toList = [46]) (h3 : numB s.data.toList = false) : nameB s.data.toList = bytesB s.data.toList := by
  have hl := len_data s
  have a : s.data.toList.isEmpty = false := by rw [← ByteArray.toList_eq]; exact (ne_of_size h0).2
  have b : decide (s.data.toList.length ≤ 64) = true := by rw [hl]; simpa using h1
  have c : (s.data.toList == [46]) = false := by simpa using h2
  unfold nameB
  rw [a, b, c, h3]
  rfl
theorem name_ways (s : ByteArray) : (s.size = 0 ∨ 64 < s.size ∨ 0 < s.size ∧ s.size ≤ 64 ∧ (s.data.toList = [46] ∨ ¬ s.data.toList = [46] ∧ numB s.data.toList = true)) ∨ (0 < s.size ∧ s.size ≤ 64 ∧ ¬ s.data.toList = [46] ∧ numB s.data.toList = false) := by
  by_cases a : s.size = 0
  · exact .inl (.inl a)
  by_cases b : 64 < s.size
  · exact .inl (.inr (.inl b))
  by_cases c : s.data.toList = [46]
  · exact .inl (.inr (.inr ⟨by omega, by omega, .inl c⟩))
  by_cases d : numB s.data.toList = true
  · exact .inl (.inr (.inr ⟨by omega, by omega, .inr ⟨c, d⟩⟩))
  · exact .inr ⟨by omega, by omega, c, by simpa using d⟩

theorem name_any (s : ByteArray) (w : World) (hs : s.size ≤ maxLen) :
    Calls Try.prog 72 #[.string s] w fun e w' => e = .returned (.bool (nameB s.data.toList)) ∧ w = w' := by
  rcases name_ways s with h | ⟨h0, h1, h2, h3⟩
  · rw [nameB_not s h]; exact name_not s w hs h
  · rw [nameB_loop s h0 h1 h2 h3]; exact name_loop s w hs h0 h1 h2 h3

end Go.Proofs.Ytkjgdnfkpebejaa
