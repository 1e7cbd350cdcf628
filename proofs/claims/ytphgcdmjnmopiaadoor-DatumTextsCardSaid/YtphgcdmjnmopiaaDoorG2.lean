/-
The document's texts of numbers: Digits: what it answers, for every number of its kind.
-/
import Derived.Test.YtphgcdmjnmopiaaDoorG1
namespace Go.Proofs.YtphgcdmjnmopiaaDoor
open Go.ChangeShapes Go.WideShapes Go.ChangeAt Go.RowKit

def dgt (m : Nat) : UInt8 := UInt8.ofNat (48 + m % 10)
theorem dec_last (m : Nat) (h : m / 10 = 0) : Lib.decDigits m = [dgt m] := by
  rw [Lib.decDigits, dif_pos (by omega), dgt, Nat.mod_eq_of_lt (by omega)]
theorem dec_more (m : Nat) (h : m / 10 ≠ 0) : Lib.decDigits m = Lib.decDigits (m / 10) ++ [dgt m] := by
  rw [Lib.decDigits, dif_neg (by omega)]; rfl

theorem byte_string2 (d : Int) (c : UInt8) (hd : d = (c.toNat : Int)) (W : World) : (convert 49 9 (.slice (some ⟨W.heap.size, 0, none⟩) 1 1)).run Tryd.prog (W.alloc (.cells #[.int .u8 d] 5)) = .ok (.string ⟨#[c]⟩) (W.alloc (.cells #[.int .u8 d] 5)) := by
  subst hd
  exact byte_string c W
theorem digit_byte (m : Nat) : (48 : Int) + (m : Int) % 10 = ((dgt m).toNat : Int) := by
  unfold dgt
  simp
  omega

set_option maxRecDepth 100000 in
theorem digits_pos (N : Nat) (h : N ≤ 9223372036854775807) (w : World) : Calls Tryd.prog 32 #[.int .i64 (N : Int)] w fun e w' => e = .returned (.string ⟨(Lib.decDigits N).toArray⟩) ∧ Below w.heap.size w w' := by
  have hn : ¬ (N : Int) < 0 := by omega
  go_enter Tryd.func32, Tryd.ntmps32
  go_wp2
  go_loopw [0, 3, 5] (fun nx sx dx wr => ∃ (m : Nat) (acc : ByteArray), m ≤ 9223372036854775807 ∧ nx = .int .i64 (m : Int) ∧ sx = .string acc ∧ Lib.decDigits N = Lib.decDigits m ++ acc.data.toList ∧ Below w.heap.size w wr) (fun nx _ _ _ => (intOf nx).toNat)
  case atStart => exact ⟨N, ⟨#[]⟩, h, rfl, rfl, by simp, Below.refl _ _⟩
  case round =>
    obtain ⟨m, acc, hm, rfl, rfl, hd, hbr⟩ := hrel
    have HD := Lib.hid hd
    have hm1 : (m : Int) ≤ 9223372036854775807 := by omega
    clear hd
    have kc := byte_string2 _ _ (digit_byte m)
    have hsz : acc.size ≤ 100 := by
      have h1 := decDigits_len N 19 (by omega)
      have h2 := congrArg List.length HD.out
      rw [List.length_append, len_data] at h2
      omega
    by_cases hz : m / 10 = 0
    · have hz1 : ((m : Int) / 10 == 0) = true := by simp; omega
      have hfin : Lib.decDigits N = ((ByteArray.mk #[dgt m]) ++ acc).data.toList := by
        rw [HD.out, dec_last m hz]
        simp only [ByteArray.data_append, Array.toList_append]
      have HFI := Lib.hid hfin
      clear hfin hz
      go_wp2
      go_ret
      refine ⟨ret_str ?_, hbr.alloc (by have := hbr.size; omega) _⟩
      exact HFI.out.symm
    · have hz1 : ((m : Int) / 10 == 0) = false := by simp; omega
      have hnx : Lib.decDigits N = Lib.decDigits (m / 10) ++ ((ByteArray.mk #[dgt m]) ++ acc).data.toList := by
        rw [HD.out, dec_more m hz]
        simp only [ByteArray.data_append, Array.toList_append, List.append_assoc]
      have HNX := Lib.hid hnx
      have hm10 : 10 ≤ m := by omega
      clear hnx hz
      go_wp2
      go_roundw
      case rel => exact ⟨m / 10, _, by omega, rfl, rfl, HNX.out, hbr.alloc (by have := hbr.size; omega) _⟩
      case measure => simp [intOf]; omega

set_option maxRecDepth 100000 in
theorem digits_neg (N : Nat) (h0 : 0 < N) (h : N ≤ 9223372036854775808) (w : World) : Calls Tryd.prog 32 #[.int .i64 (-(N : Int))] w fun e w' => e = .returned (.string ⟨(45 :: Lib.decDigits N).toArray⟩) ∧ Below w.heap.size w w' := by
  have hn : -(N : Int) < 0 := by omega
  go_enter Tryd.func32, Tryd.ntmps32
  go_wp2
  go_loopw [0, 3, 5] (fun nx sx dx wr => ∃ (m : Nat) (acc : ByteArray), 0 < m ∧ m ≤ 9223372036854775808 ∧ nx = .int .i64 (-(m : Int)) ∧ sx = .string acc ∧ Lib.decDigits N = Lib.decDigits m ++ acc.data.toList ∧ Below w.heap.size w wr) (fun nx _ _ _ => (-(intOf nx)).toNat)
  case atStart => exact ⟨N, ⟨#[]⟩, h0, h, rfl, rfl, by simp, Below.refl _ _⟩
  case round =>
    obtain ⟨m, acc, hm0, hm, rfl, rfl, hd, hbr⟩ := hrel
    have HD := Lib.hid hd
    clear hd
    have hsz : acc.size ≤ 100 := by
      have h1 := decDigits_len N 19 (by omega)
      have h2 := congrArg List.length HD.out
      rw [List.length_append, len_data] at h2
      omega
    by_cases hp : (0 : Int) < (m : Int) % 10
    · have kc := byte_string2 _ _ (digit_byte m)
      by_cases hz : m / 10 = 0
      · have hz1 : ((m : Int) / 10 == 0) = true := by simp; omega
        have hz2 : (-((m : Int) / 10) == 0) = true := by simp; omega
        have hfin : Lib.decDigits N = ((ByteArray.mk #[dgt m]) ++ acc).data.toList := by
          rw [HD.out, dec_last m hz]
          simp only [ByteArray.data_append, Array.toList_append]
        have HFI := Lib.hid hfin
        clear hfin hz
        go_wp2
        go_ret
        refine ⟨ret_str ?_, hbr.alloc (by have := hbr.size; omega) _⟩
        simp only [ByteArray.data_append, Array.toList_append] at *
        rw [HFI.out]
        simp
      · have hz1 : ((m : Int) / 10 == 0) = false := by simp; omega
        have hz2 : (-((m : Int) / 10) == 0) = false := by simp; omega
        have hnx : Lib.decDigits N = Lib.decDigits (m / 10) ++ ((ByteArray.mk #[dgt m]) ++ acc).data.toList := by
          rw [HD.out, dec_more m hz]
          simp only [ByteArray.data_append, Array.toList_append, List.append_assoc]
        have HNX := Lib.hid hnx
        have hm10 : 10 ≤ m := by omega
        clear hnx hz
        go_wp2
        go_roundw
        case rel => exact ⟨m / 10, _, by omega, by omega, rfl, rfl, HNX.out, hbr.alloc (by have := hbr.size; omega) _⟩
        case measure => simp [intOf]; omega
    · have kc := byte_string2 (48 + -((m : Int) % 10)) (dgt m) (by rw [← digit_byte m]; omega)
      by_cases hz : m / 10 = 0
      · have hz1 : ((m : Int) / 10 == 0) = true := by simp; omega
        have hz2 : (-((m : Int) / 10) == 0) = true := by simp; omega
        have hfin : Lib.decDigits N = ((ByteArray.mk #[dgt m]) ++ acc).data.toList := by
          rw [HD.out, dec_last m hz]
          simp only [ByteArray.data_append, Array.toList_append]
        have HFI := Lib.hid hfin
        clear hfin hz
        go_wp2
        go_ret
        refine ⟨ret_str ?_, hbr.alloc (by have := hbr.size; omega) _⟩
        simp only [ByteArray.data_append, Array.toList_append] at *
        rw [HFI.out]
        simp
      · have hz1 : ((m : Int) / 10 == 0) = false := by simp; omega
        have hz2 : (-((m : Int) / 10) == 0) = false := by simp; omega
        have hnx : Lib.decDigits N = Lib.decDigits (m / 10) ++ ((ByteArray.mk #[dgt m]) ++ acc).data.toList := by
          rw [HD.out, dec_more m hz]
          simp only [ByteArray.data_append, Array.toList_append, List.append_assoc]
        have HNX := Lib.hid hnx
        have hm10 : 10 ≤ m := by omega
        clear hnx hz
        go_wp2
        go_roundw
        case rel => exact ⟨m / 10, _, by omega, by omega, rfl, rfl, HNX.out, hbr.alloc (by have := hbr.size; omega) _⟩
        case measure => simp [intOf]; omega

theorem digits_any (n : Int) (h : ok64 n) (w : World) : Calls Tryd.prog 32 #[.int .i64 n] w fun e w' => e = .returned (.string ⟨(Lib.itoa n).toArray⟩) ∧ Below w.heap.size w w' := by
  unfold ok64 at h
  unfold Lib.itoa
  by_cases hn : n < 0
  · rw [if_pos hn]
    obtain ⟨N, rfl⟩ : ∃ N : Nat, n = -(N : Int) := ⟨n.natAbs, by omega⟩
    have := digits_neg N (by omega) (by omega) w
    rwa [show (-(N : Int)).natAbs = N by omega]
  · rw [if_neg hn]
    obtain ⟨N, rfl⟩ : ∃ N : Nat, n = (N : Int) := ⟨n.toNat, by omega⟩
    exact digits_pos N (by omega) w
end Go.Proofs.YtphgcdmjnmopiaaDoor
