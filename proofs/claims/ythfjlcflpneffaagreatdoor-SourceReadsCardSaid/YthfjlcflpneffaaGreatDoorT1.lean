/-
Bytes: what tells a digit, a name byte, of package data and of the document: what each returns, for every byte. No condition.
-/
import Derived.Test.YthfjlcflpneffaaGreatDoorProg
import Derived.WalkKit
import Derived.WalkSpells
import Derived.WalkLawsBesides
import Derived.ProofKit
import Derived.OpenShut
import Derived.Carry
import Derived.Lib.Hide
import Derived.Deep.Slices
import Derived.Below
import Derived.LoopTactic
import Derived.Shelf.Small.Strs
namespace Go.Proofs.YthfjlcflpneffaaGreatDoor
open Go.ChangeShapes Go.WideShapes Go.ChangeAt Go.RowKit

/-! ### strings.IndexByte, off the shelf -/
def lays137_ren : Go.Shelf.Ren := ⟨fun | 137 => 99 | 217 => 111 | 266 => 126 | n => n, fun | 9 => 9 | 5 => 5 | 3 => 3 | n => n, fun | n => n⟩
theorem lays137 : Go.Proofs.Lays.n137 Tryz.prog lays137_ren := {
  mixed := by kernel_rfl
  f137 := Tryz.func99.trans (congrArg some (by kernel_rfl))
  f217 := Tryz.func111.trans (congrArg some (by kernel_rfl))
  f266 := Tryz.func126.trans (congrArg some (by kernel_rfl))
  t3 := Tryz.underlying3
  a3 := Tryz.isAgg3
  z3 := Tryz.sizeOf3
  v3 := Tryz.zeroValue3
  t5 := Tryz.underlying5
  a5 := Tryz.isAgg5
  z5 := Tryz.sizeOf5
  v5 := Tryz.zeroValue5
  t9 := Tryz.underlying9
  a9 := Tryz.isAgg9
  z9 := Tryz.sizeOf9
  v9 := Tryz.zeroValue9 }
theorem strings_IndexByte (s : ByteArray) (c : Int) (w : World) :
    Calls Tryz.prog 99 #[.string s, .int .u8 c] w fun e w' => e = .returned (.int .i64 (Lib.indexByte s.data.toList c.toNat.toUInt8)) ∧ w' = w := Any.strings_IndexByte lays137 s c w

theorem ret_bool {a b : Bool} (h : a = b) : Ending.returned (.bool a) = .returned (.bool b) := by rw [h]

def digB (c : Int) : Bool := decide (48 ≤ c) && decide (c ≤ 57)
def marks : List UInt8 := [33, 36, 37, 38, 42, 47, 58, 60, 61, 62, 63, 94, 95, 126, 43, 45, 46, 64]
def markB (c : Int) : Bool := marks.any fun m => (m.toNat : Int) == c
def nbyB (c : Int) : Bool := digB c || (decide (97 ≤ c) && decide (c ≤ 122)) || (decide (65 ≤ c) && decide (c ≤ 90)) || markB c

theorem isDigit_any (c : Int) (w : World) : Calls Tryz.prog 98 #[.int .u8 c] w fun e w' => e = .returned (.bool (digB c)) ∧ w = w' := by
  go_enter Tryz.func98, Tryz.ntmps98
  by_cases h : 48 ≤ c
  · go_wp2
    go_ret
    exact ⟨ret_bool (by simp [digB, h]), rfl⟩
  · go_wp2
    go_ret
    exact ⟨ret_bool (by simp [digB]; omega), rfl⟩
theorem rdigit_any (c : Int) (w : World) : Calls Tryz.prog 97 #[.int .u8 c] w fun e w' => e = .returned (.bool (digB c)) ∧ w = w' := by
  go_enter Tryz.func97, Tryz.ntmps97
  by_cases h : 48 ≤ c
  · go_wp2
    go_ret
    exact ⟨ret_bool (by simp [digB, h]), rfl⟩
  · go_wp2
    go_ret
    exact ⟨ret_bool (by simp [digB]; omega), rfl⟩

theorem byte_cases {p : Int → Prop} (h : ∀ b : UInt8, p (b.toNat : Int)) (c : Int) (h0 : 0 ≤ c) (h1 : c ≤ 255) : p c := by
  have := h (UInt8.ofNat c.toNat)
  rwa [show ((UInt8.ofNat c.toNat).toNat : Int) = c by simp; omega] at this

theorem index_marks (c : Int) (h0 : 0 ≤ c) (h1 : c ≤ 255) : (decide (0 ≤ Lib.indexByte [33, 36, 37, 38, 42, 47, 58, 60, 61, 62, 63, 94, 95, 126, 43, 45, 46, 64] (UInt8.ofNat c.toNat))) = markB c := by
  refine byte_cases (p := fun c => (decide (0 ≤ Lib.indexByte [33, 36, 37, 38, 42, 47, 58, 60, 61, 62, 63, 94, 95, 126, 43, 45, 46, 64] (UInt8.ofNat c.toNat))) = markB c) ?_ c h0 h1
  have : ∀ n : Fin 256, decide (0 ≤ Lib.indexByte [33, 36, 37, 38, 42, 47, 58, 60, 61, 62, 63, 94, 95, 126, 43, 45, 46, 64] (n.val.toUInt8)) = markB n.val := by decide +kernel
  intro b
  have h := this ⟨b.toNat, b.toNat_lt⟩
  simpa using h

theorem isNameByte_any (c : Int) (w : World) (h0 : 0 ≤ c) (h1 : c ≤ 255) : Calls Tryz.prog 83 #[.int .u8 c] w fun e w' => e = .returned (.bool (nbyB c)) ∧ w = w' := by
  have hm := index_marks c h0 h1
  by_cases hd : digB c = true
  · have C := isDigit_any c
    rw [hd] at C
    have H := Lib.hid C
    clear C
    go_enter Tryz.func83, Tryz.ntmps83
    go_wp2_with (go_at_call 98; ((with_reducible refine (H.out _).mono ?_); rintro e w' ⟨rfl, rfl⟩))
    go_ret
    exact ⟨ret_bool (by simp [nbyB, hd]), rfl⟩
  · have hd' : digB c = false := by simpa using hd
    have C := isDigit_any c
    rw [hd'] at C
    have H := Lib.hid C
    clear C
    have H2 := Lib.hid hm
    clear hm
    have Hd := Lib.hid hd'
    clear hd hd'
    by_cases l1 : 97 ≤ c <;> by_cases l2 : c ≤ 122 <;> by_cases u1 : 65 ≤ c <;> by_cases u2 : c ≤ 90 <;> try omega
    all_goals
      go_enter Tryz.func83, Tryz.ntmps83
      go_wp2_with (first | (go_at_call 98; ((with_reducible refine (H.out _).mono ?_); rintro e w' ⟨rfl, rfl⟩)) | (go_at_call 99; ((with_reducible refine (strings_IndexByte _ _ _).mono ?_); rintro e w' ⟨rfl, rfl⟩)))
      go_ret
      refine ⟨ret_bool ?_, rfl⟩
      have e := H2.out
      simp only [nbyB, Hd.out, Bool.false_or]
      try rw [e]
      generalize markB c = m
      cases m <;> rw [Bool.eq_iff_iff] <;> simp <;> omega


theorem any_take_succ {α : Type} (l : List α) (p : α → Bool) (k : Nat) (h : k < l.length) : (l.take (k + 1)).any p = ((l.take k).any p || p l[k]) := by
  rw [List.take_succ_eq_append_getElem h, List.any_append]; simp
theorem all_take_succ {α : Type} (l : List α) (p : α → Bool) (k : Nat) (h : k < l.length) : (l.take (k + 1)).all p = ((l.take k).all p && p l[k]) := by
  rw [List.take_succ_eq_append_getElem h, List.all_append]; simp
theorem marks_len : marks.length = 18 := rfl

theorem rbyte_no (c : Int) (w : World) (hdig : digB c = false) (hl : c < 97 ∨ 122 < c) (hu : c < 65 ∨ 90 < c) : Calls Tryz.prog 79 #[.int .u8 c] w fun e w' => e = .returned (.bool (markB c)) ∧ w = w' := by
  have C := rdigit_any c
  rw [hdig] at C
  have H := Lib.hid C
  clear C
  by_cases l1 : 97 ≤ c <;> by_cases l2 : c ≤ 122 <;> by_cases u1 : 65 ≤ c <;> by_cases u2 : c ≤ 90 <;> try omega
  all_goals
    go_enter Tryz.func79, Tryz.ntmps79
    go_wp2_with (go_at_call 97; ((with_reducible refine (H.out _).mono ?_); rintro e w' ⟨rfl, rfl⟩))
    go_loop [4] (fun i => ∃ k : Nat, k ≤ 18 ∧ i = .int .i64 k ∧ (marks.take k).any (fun m => (m.toNat : Int) == c) = false) (fun i => 18 - (intOf i).toNat)
    case atStart => exact ⟨0, Nat.zero_le _, rfl, rfl⟩
    case round =>
      obtain ⟨k, hk, rfl, hn⟩ := hrel
      by_cases hlt : k < 18
      · have ht := any_take_succ marks (fun m => (m.toNat : Int) == c) k hlt
        rw [hn, Bool.false_or] at ht
        have HT := Lib.hid ht
        clear ht
        have HN := Lib.hid hn
        clear hn
        by_cases hc : ((({ data := #[33, 36, 37, 38, 42, 47, 58, 60, 61, 62, 63, 94, 95, 126, 43, 45, 46, 64] } : ByteArray)[k]).toNat : Int) == c
        · go_wp2
          go_ret
          exact ⟨ret_bool (List.any_eq_true.2 ⟨marks[k], List.getElem_mem _, hc⟩).symm, rfl⟩
        · have hc' : (((({ data := #[33, 36, 37, 38, 42, 47, 58, 60, 61, 62, 63, 94, 95, 126, 43, 45, 46, 64] } : ByteArray)[k]).toNat : Int) == c) = false := by simpa using hc
          go_wp2
          go_round
          case rel => exact ⟨k + 1, by omega, by go_num, HT.out.trans hc'⟩
          case measure => simp [intOf]; omega
      · obtain rfl : k = 18 := by omega
        have HN := Lib.hid hn
        clear hn
        go_wp2
        go_ret
        exact ⟨ret_bool HN.out.symm, rfl⟩

/-- Two ways: digits and letters are told at once. -/
theorem rbyte_yes (c : Int) (w : World) (hy : digB c = true ∨ 97 ≤ c ∧ c ≤ 122 ∨ 65 ≤ c ∧ c ≤ 90) : Calls Tryz.prog 79 #[.int .u8 c] w fun e w' => e = .returned (.bool true) ∧ w = w' := by
  by_cases hd : digB c = true
  · have C := rdigit_any c
    rw [hd] at C
    have H := Lib.hid C
    clear C hd hy
    go_enter Tryz.func79, Tryz.ntmps79
    go_wp2_with (go_at_call 97; ((with_reducible refine (H.out _).mono ?_); rintro e w' ⟨rfl, rfl⟩))
    go_ret
    exact ⟨rfl, rfl⟩
  · have hy' : 97 ≤ c ∧ c ≤ 122 ∨ 65 ≤ c ∧ c ≤ 90 := hy.resolve_left hd
    have hd' : digB c = false := by simpa using hd
    have C := rdigit_any c
    rw [hd'] at C
    have H := Lib.hid C
    clear C hd hy hd'
    rcases hy' with ⟨l1, l2⟩ | ⟨u1, u2⟩
    · go_enter Tryz.func79, Tryz.ntmps79
      go_wp2_with (go_at_call 97; ((with_reducible refine (H.out _).mono ?_); rintro e w' ⟨rfl, rfl⟩))
      go_ret
      exact ⟨rfl, rfl⟩
    · have l1 : ¬ 97 ≤ c := by omega
      go_enter Tryz.func79, Tryz.ntmps79
      go_wp2_with (go_at_call 97; ((with_reducible refine (H.out _).mono ?_); rintro e w' ⟨rfl, rfl⟩))
      go_ret
      exact ⟨rfl, rfl⟩

theorem rbyte_any (c : Int) (w : World) : Calls Tryz.prog 79 #[.int .u8 c] w fun e w' => e = .returned (.bool (nbyB c)) ∧ w = w' := by
  by_cases hy : digB c = true ∨ 97 ≤ c ∧ c ≤ 122 ∨ 65 ≤ c ∧ c ≤ 90
  · refine (rbyte_yes c w hy).mono fun e w' ⟨he, hw⟩ => ⟨he.trans (ret_bool ?_), hw⟩
    rcases hy with h | h | h <;> simp [nbyB, h]
  · have hd : digB c = false := by simpa using fun h => hy (.inl h)
    refine (rbyte_no c w hd (by omega) (by omega)).mono fun e w' ⟨he, hw⟩ => ⟨he.trans (ret_bool ?_), hw⟩
    have a : ¬ (97 ≤ c ∧ c ≤ 122) := by omega
    have b : ¬ (65 ≤ c ∧ c ≤ 90) := by omega
    have a' : (decide (97 ≤ c) && decide (c ≤ 122)) = false := by simpa using a
    have b' : (decide (65 ≤ c) && decide (c ≤ 90)) = false := by simpa using b
    simp [nbyB, hd, a', b']
end Go.Proofs.YthfjlcflpneffaaGreatDoor
