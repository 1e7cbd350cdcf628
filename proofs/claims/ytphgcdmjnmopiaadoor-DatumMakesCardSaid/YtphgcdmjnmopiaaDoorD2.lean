/-
Contracts of what tells names: bytes, numerals, names, of package data and of the document's answers: what each returns, for every byte and every string. No condition.
-/
import Derived.Test.YtphgcdmjnmopiaaDoorD1
import Derived.Test.YtphgcdmjnmopiaaDoorShelf
import Derived.LoopTactic
namespace Go.Proofs.YtphgcdmjnmopiaaDoor
open Go.ChangeShapes Go.WideShapes Go.ChangeAt Go.RowKit

theorem ret_bool {a b : Bool} (h : a = b) : Ending.returned (.bool a) = .returned (.bool b) := by rw [h]

def digB (c : Int) : Bool := decide (48 ≤ c) && decide (c ≤ 57)
def marks : List UInt8 := [33, 36, 37, 38, 42, 47, 58, 60, 61, 62, 63, 94, 95, 126, 43, 45, 46, 64]
def markB (c : Int) : Bool := marks.any fun m => (m.toNat : Int) == c
def nbyB (c : Int) : Bool := digB c || (decide (97 ≤ c) && decide (c ≤ 122)) || (decide (65 ≤ c) && decide (c ≤ 90)) || markB c

theorem isDigit_any (c : Int) (w : World) : Calls Tryd.prog 45 #[.int .u8 c] w fun e w' => e = .returned (.bool (digB c)) ∧ w = w' := by
  go_enter Tryd.func45, Tryd.ntmps45
  by_cases h : 48 ≤ c
  · go_wp2
    go_ret
    exact ⟨ret_bool (by simp [digB, h]), rfl⟩
  · go_wp2
    go_ret
    exact ⟨ret_bool (by simp [digB]; omega), rfl⟩
theorem rdigit_any (c : Int) (w : World) : Calls Tryd.prog 47 #[.int .u8 c] w fun e w' => e = .returned (.bool (digB c)) ∧ w = w' := by
  go_enter Tryd.func47, Tryd.ntmps47
  by_cases h : 48 ≤ c
  · go_wp2
    go_ret
    exact ⟨ret_bool (by simp [digB, h]), rfl⟩
  · go_wp2
    go_ret
    exact ⟨ret_bool (by simp [digB]; omega), rfl⟩

theorem byte_cases {p : Int → Prop} (h : ∀ b : UInt8, p (b.toNat : Int)) (c : Int) (h0 : 0 ≤ c) (h1 : c ≤ 255) : p c := by
  have := h (UInt8.ofNat c.toNat)
  rwa [show ((UInt8.ofNat c.toNat).toNat : Int) = c by simp; omega] at this

theorem index_marks (c : Int) (h0 : 0 ≤ c) (h1 : c ≤ 255) : (decide (0 ≤ Lib.indexByte [33, 36, 37, 38, 42, 47, 58, 60, 61, 62, 63, 94, 95, 126, 43, 45, 46, 64] (UInt8.ofNat c.toNat))) = markB c := by
  refine byte_cases (p := fun c => (decide (0 ≤ Lib.indexByte [33, 36, 37, 38, 42, 47, 58, 60, 61, 62, 63, 94, 95, 126, 43, 45, 46, 64] (UInt8.ofNat c.toNat))) = markB c) ?_ c h0 h1
  have : ∀ n : Fin 256, decide (0 ≤ Lib.indexByte [33, 36, 37, 38, 42, 47, 58, 60, 61, 62, 63, 94, 95, 126, 43, 45, 46, 64] (n.val.toUInt8)) = markB n.val := by decide +kernel
  intro b
  have h := this ⟨b.toNat, b.toNat_lt⟩
  simpa using h

theorem isNameByte_any (c : Int) (w : World) (h0 : 0 ≤ c) (h1 : c ≤ 255) : Calls Tryd.prog 28 #[.int .u8 c] w fun e w' => e = .returned (.bool (nbyB c)) ∧ w = w' := by
  have hm := index_marks c h0 h1
  by_cases hd : digB c = true
  · have C := isDigit_any c
    rw [hd] at C
    have H := Lib.hid C
    clear C
    go_enter Tryd.func28, Tryd.ntmps28
    go_wp2_with (go_at_call 45; ((with_reducible refine (H.out _).mono ?_); rintro e w' ⟨rfl, rfl⟩))
    go_ret
    exact ⟨ret_bool (by simp [nbyB, hd]), rfl⟩
  · have hd' : digB c = false := by simpa using hd
    have C := isDigit_any c
    rw [hd'] at C
    have H := Lib.hid C
    clear C
    have H2 := Lib.hid hm
    clear hm
    have Hd := Lib.hid hd'
    clear hd hd'
    by_cases l1 : 97 ≤ c <;> by_cases l2 : c ≤ 122 <;> by_cases u1 : 65 ≤ c <;> by_cases u2 : c ≤ 90 <;> try omega
    all_goals
      go_enter Tryd.func28, Tryd.ntmps28
      go_wp2_with (first | (go_at_call 45; ((with_reducible refine (H.out _).mono ?_); rintro e w' ⟨rfl, rfl⟩)) | (go_at_call 46; ((with_reducible refine (Tryd.strings_IndexByte _ _ _).mono ?_); rintro e w' ⟨rfl, rfl⟩)))
      go_ret
      refine ⟨ret_bool ?_, rfl⟩
      have e := H2.out
      simp only [nbyB, Hd.out, Bool.false_or]
      try rw [e]
      generalize markB c = m
      cases m <;> rw [Bool.eq_iff_iff] <;> simp <;> omega

end Go.Proofs.YtphgcdmjnmopiaaDoor
