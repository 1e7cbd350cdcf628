/-
Texts G1, G2, G3, G4, G5, D6b, D9, D12 of the reader, one behind the other (a claim bears sixty files). Conditions: as each says.
-/
import Derived.Test.YtiamojpeedllbaaGreatDoorD20a
import Derived.RegionTactic
import Derived.Test.YtiamojpeedllbaaGreatDoorT2
import Derived.Test.YtiamojpeedllbaaGreatDoorT4
import Derived.Test.YtiamojpeedllbaaGreatDoorD8
import Derived.Test.YtiamojpeedllbaaGreatDoorD11

/-
The document's texts of bytes: Two, char, Digits: what each answers. A byte; a number in its kind.
-/
namespace Go.Proofs.YtiamojpeedllbaaGreatDoor.Dat
open Go.ChangeShapes Go.WideShapes Go.ChangeAt Go.RowKit
set_option maxRecDepth 100000

theorem ret_str {a b : ByteArray} (h : a.data.toList = b.data.toList) : Ending.returned (.string a) = .returned (.string b) := by rw [Go.WideShapes.bytes_inj h]

def twoT (c : UInt8) : List UInt8 := [hexd (c.toNat / 16), hexd (c.toNat % 16)]

theorem hex_slice (n : Nat) (h : n < 16) : (({ data := #[48, 49, 50, 51, 52, 53, 54, 55, 56, 57, 97, 98, 99, 100, 101, 102] } : ByteArray).extract n (n + 1)).data.toList = [hexd n] := by
  have : ∀ m : Fin 16, (({ data := #[48, 49, 50, 51, 52, 53, 54, 55, 56, 57, 97, 98, 99, 100, 101, 102] } : ByteArray).extract m.val (m.val + 1)).data.toList = [hexd m.val] := by decide +kernel
  exact this ⟨n, h⟩

theorem two_any (c : UInt8) (w : World) : Calls Tryz.prog 93 #[.int .u8 (c.toNat : Int)] w fun e w' => e = .returned (.string ⟨(twoT c).toArray⟩) ∧ Below w.heap.size w w' := by
  have hc := c.toNat_lt
  have q0 : (0 : Int) ≤ (c.toNat : Int) / 16 := by omega
  have q1 : (c.toNat : Int) / 16 < 16 := by omega
  have r0 : (0 : Int) ≤ (c.toNat : Int) % 16 := by omega
  have r1 : (c.toNat : Int) % 16 < 16 := by omega
  go_enter Tryz.func93, Tryz.ntmps93
  go_wp2
  go_quiet (fail)
  go_wp2
  go_ret
  refine ⟨ret_str ?_, below_drewN (Below.refl _ _) _⟩
  simp only [ByteArray.data_append, Array.toList_append]
  rw [hex_slice _ (by omega), hex_slice _ (by omega)]
  rfl

/-- A byte as a string. -/
theorem byte_string (c : UInt8) (W : World) : (convert 35 9 (.slice (some ⟨W.heap.size, 0, none⟩) 1 1)).run Tryz.prog (W.alloc (.cells #[.int .u8 (c.toNat : Int)] 5)) = .ok (.string ⟨#[c]⟩) (W.alloc (.cells #[.int .u8 (c.toNat : Int)] 5)) := by
  have := run_convert_bytes_back (P := Tryz.prog) (W.alloc (.cells #[.int .u8 (c.toNat : Int)] 5)) 35 9 5 ⟨W.heap.size, 0, none⟩ 1 [c] Tryz.underlying35 Tryz.underlying5 Tryz.underlying9 (fun j hj => by
    have : j = 0 := by simpa using hj
    subst this
    rw [show (Addr.add ⟨W.heap.size, 0, none⟩ 0) = ⟨W.heap.size, 0, none⟩ from rfl, Lib.cell_of_heap (heap_alloc_new W _)]
    rfl)
  exact this

set_option maxRecDepth 100000 in
/-- A character's text. -/
theorem rchar_any (c : UInt8) (w : World) : Calls Tryz.prog 65 #[.int .u8 (c.toNat : Int)] w fun e w' => e = .returned (.string ⟨(charT c).toArray⟩) ∧ Below w.heap.size w w' := by
  by_cases h32 : c.toNat = 32
  · have e : (c.toNat : Int) = 32 := by omega
    have E := Lib.hid h32
    rw [e]
    clear h32 e
    go_enter Tryz.func65, Tryz.ntmps65
    go_wp2
    go_ret
    exact ⟨ret_str (by simp [charT, E.out, spaceT]), Below.refl _ _⟩
  by_cases h10 : c.toNat = 10
  · have e : (c.toNat : Int) = 10 := by omega
    have E := Lib.hid h10
    rw [e]
    clear h10 e h32
    go_enter Tryz.func65, Tryz.ntmps65
    go_wp2
    go_ret
    exact ⟨ret_str (by simp [charT, E.out, newlineT]), Below.refl _ _⟩
  have b32 : ((c.toNat : Int) == 32) = false := by simp; omega
  have b10 : ((c.toNat : Int) == 10) = false := by simp; omega
  by_cases hp : 32 < c.toNat ∧ c.toNat ≤ 126
  · obtain ⟨p1, p2⟩ := hp
    have p1' : (32 : Int) < c.toNat := by omega
    have p2' : (c.toNat : Int) < 127 := by omega
    have HT := Lib.hid (show charT c = [35, 92] ++ [c] by simp [charT, h32, h10, p1, p2])
    clear h32 h10
    have kc := byte_string c
    go_enter Tryz.func65, Tryz.ntmps65
    go_wp2
    go_ret
    refine ⟨ret_str ?_, (Below.refl _ _).alloc (Nat.le_refl _) _⟩
    rw [HT.out]
    simp only [ByteArray.data_append, Array.toList_append]
  · have HT := Lib.hid (show charT c = [35, 92] ++ hexT c by
      have : ¬ (32 < c.toNat ∧ c.toNat ≤ 126) := hp
      simp [charT, h32, h10]
      omega)
    have hl : (twoT c).length ≤ 2 := Nat.le_refl _
    clear h32 h10
    by_cases p1 : 32 < c.toNat
    · have p1' : (32 : Int) < c.toNat := by omega
      have p2' : ¬ (c.toNat : Int) < 127 := by omega
      clear hp
      go_enter Tryz.func65, Tryz.ntmps65
      go_wp2_with fail
      refine (two_any c _).mono ?_
      rintro e w1 ⟨rfl, hb1⟩
      go_wp2
      go_ret
      refine ⟨ret_str ?_, hb1⟩
      rw [HT.out]
      simp only [ByteArray.data_append, Array.toList_append]
      rfl
    · have p1' : ¬ (32 : Int) < c.toNat := by omega
      clear hp
      go_enter Tryz.func65, Tryz.ntmps65
      go_wp2_with fail
      refine (two_any c _).mono ?_
      rintro e w1 ⟨rfl, hb1⟩
      go_wp2
      go_ret
      refine ⟨ret_str ?_, hb1⟩
      rw [HT.out]
      simp only [ByteArray.data_append, Array.toList_append]
      rfl
end Go.Proofs.YtiamojpeedllbaaGreatDoor.Dat

/-
The document's texts of numbers: Digits: what it answers, for every number of its kind.
-/
namespace Go.Proofs.YtiamojpeedllbaaGreatDoor.Dat
open Go.ChangeShapes Go.WideShapes Go.ChangeAt Go.RowKit
set_option maxRecDepth 100000

def dgt (m : Nat) : UInt8 := UInt8.ofNat (48 + m % 10)
theorem dec_last (m : Nat) (h : m / 10 = 0) : Lib.decDigits m = [dgt m] := by
  rw [Lib.decDigits, dif_pos (by omega), dgt, Nat.mod_eq_of_lt (by omega)]
theorem dec_more (m : Nat) (h : m / 10 ≠ 0) : Lib.decDigits m = Lib.decDigits (m / 10) ++ [dgt m] := by
  rw [Lib.decDigits, dif_neg (by omega)]; rfl

theorem byte_string2 (d : Int) (c : UInt8) (hd : d = (c.toNat : Int)) (W : World) : (convert 35 9 (.slice (some ⟨W.heap.size, 0, none⟩) 1 1)).run Tryz.prog (W.alloc (.cells #[.int .u8 d] 5)) = .ok (.string ⟨#[c]⟩) (W.alloc (.cells #[.int .u8 d] 5)) := by
  subst hd
  exact byte_string c W
theorem digit_byte (m : Nat) : (48 : Int) + (m : Int) % 10 = ((dgt m).toNat : Int) := by
  unfold dgt
  simp
  omega

set_option maxRecDepth 100000 in
theorem digits_pos (N : Nat) (h : N ≤ 9223372036854775807) (w : World) : Calls Tryz.prog 64 #[.int .i64 (N : Int)] w fun e w' => e = .returned (.string ⟨(Lib.decDigits N).toArray⟩) ∧ Below w.heap.size w w' := by
  have hn : ¬ (N : Int) < 0 := by omega
  go_enter Tryz.func64, Tryz.ntmps64
  go_wp2
  go_loopw [0, 3, 5] (fun nx sx dx wr => ∃ (m : Nat) (acc : ByteArray), m ≤ 9223372036854775807 ∧ nx = .int .i64 (m : Int) ∧ sx = .string acc ∧ Lib.decDigits N = Lib.decDigits m ++ acc.data.toList ∧ Below w.heap.size w wr) (fun nx _ _ _ => (intOf nx).toNat)
  case atStart => exact ⟨N, ⟨#[]⟩, h, rfl, rfl, by simp, Below.refl _ _⟩
  case round =>
    obtain ⟨m, acc, hm, rfl, rfl, hd, hbr⟩ := hrel
    have HD := Lib.hid hd
    have hm1 : (m : Int) ≤ 9223372036854775807 := by omega
    clear hd
    have kc := byte_string2 _ _ (digit_byte m)
    have hsz : acc.size ≤ 100 := by
      have h1 := decDigits_len N 19 (by omega)
      have h2 := congrArg List.length HD.out
      rw [List.length_append, len_data] at h2
      omega
    by_cases hz : m / 10 = 0
    · have hz1 : ((m : Int) / 10 == 0) = true := by simp; omega
      have hfin : Lib.decDigits N = ((ByteArray.mk #[dgt m]) ++ acc).data.toList := by
        rw [HD.out, dec_last m hz]
        simp only [ByteArray.data_append, Array.toList_append]
      have HFI := Lib.hid hfin
      clear hfin hz
      go_wp2
      go_ret
      refine ⟨ret_str ?_, hbr.alloc (by have := hbr.size; omega) _⟩
      exact HFI.out.symm
    · have hz1 : ((m : Int) / 10 == 0) = false := by simp; omega
      have hnx : Lib.decDigits N = Lib.decDigits (m / 10) ++ ((ByteArray.mk #[dgt m]) ++ acc).data.toList := by
        rw [HD.out, dec_more m hz]
        simp only [ByteArray.data_append, Array.toList_append, List.append_assoc]
      have HNX := Lib.hid hnx
      have hm10 : 10 ≤ m := by omega
      clear hnx hz
      go_wp2
      go_roundw
      case rel => exact ⟨m / 10, _, by omega, rfl, rfl, HNX.out, hbr.alloc (by have := hbr.size; omega) _⟩
      case measure => simp [intOf]; omega

set_option maxRecDepth 100000 in
theorem digits_neg (N : Nat) (h0 : 0 < N) (h : N ≤ 9223372036854775808) (w : World) : Calls Tryz.prog 64 #[.int .i64 (-(N : Int))] w fun e w' => e = .returned (.string ⟨(45 :: Lib.decDigits N).toArray⟩) ∧ Below w.heap.size w w' := by
  have hn : -(N : Int) < 0 := by omega
  go_enter Tryz.func64, Tryz.ntmps64
  go_wp2
  go_loopw [0, 3, 5] (fun nx sx dx wr => ∃ (m : Nat) (acc : ByteArray), 0 < m ∧ m ≤ 9223372036854775808 ∧ nx = .int .i64 (-(m : Int)) ∧ sx = .string acc ∧ Lib.decDigits N = Lib.decDigits m ++ acc.data.toList ∧ Below w.heap.size w wr) (fun nx _ _ _ => (-(intOf nx)).toNat)
  case atStart => exact ⟨N, ⟨#[]⟩, h0, h, rfl, rfl, by simp, Below.refl _ _⟩
  case round =>
    obtain ⟨m, acc, hm0, hm, rfl, rfl, hd, hbr⟩ := hrel
    have HD := Lib.hid hd
    clear hd
    have hsz : acc.size ≤ 100 := by
      have h1 := decDigits_len N 19 (by omega)
      have h2 := congrArg List.length HD.out
      rw [List.length_append, len_data] at h2
      omega
    by_cases hp : (0 : Int) < (m : Int) % 10
    · have kc := byte_string2 _ _ (digit_byte m)
      by_cases hz : m / 10 = 0
      · have hz1 : ((m : Int) / 10 == 0) = true := by simp; omega
        have hz2 : (-((m : Int) / 10) == 0) = true := by simp; omega
        have hfin : Lib.decDigits N = ((ByteArray.mk #[dgt m]) ++ acc).data.toList := by
          rw [HD.out, dec_last m hz]
          simp only [ByteArray.data_append, Array.toList_append]
        have HFI := Lib.hid hfin
        clear hfin hz
        go_wp2
        go_ret
        refine ⟨ret_str ?_, hbr.alloc (by have := hbr.size; omega) _⟩
        simp only [ByteArray.data_append, Array.toList_append] at *
        rw [HFI.out]
        simp
      · have hz1 : ((m : Int) / 10 == 0) = false := by simp; omega
        have hz2 : (-((m : Int) / 10) == 0) = false := by simp; omega
        have hnx : Lib.decDigits N = Lib.decDigits (m / 10) ++ ((ByteArray.mk #[dgt m]) ++ acc).data.toList := by
          rw [HD.out, dec_more m hz]
          simp only [ByteArray.data_append, Array.toList_append, List.append_assoc]
        have HNX := Lib.hid hnx
        have hm10 : 10 ≤ m := by omega
        clear hnx hz
        go_wp2
        go_roundw
        case rel => exact ⟨m / 10, _, by omega, by omega, rfl, rfl, HNX.out, hbr.alloc (by have := hbr.size; omega) _⟩
        case measure => simp [intOf]; omega
    · have kc := byte_string2 (48 + -((m : Int) % 10)) (dgt m) (by rw [← digit_byte m]; omega)
      by_cases hz : m / 10 = 0
      · have hz1 : ((m : Int) / 10 == 0) = true := by simp; omega
        have hz2 : (-((m : Int) / 10) == 0) = true := by simp; omega
        have hfin : Lib.decDigits N = ((ByteArray.mk #[dgt m]) ++ acc).data.toList := by
          rw [HD.out, dec_last m hz]
          simp only [ByteArray.data_append, Array.toList_append]
        have HFI := Lib.hid hfin
        clear hfin hz
        go_wp2
        go_ret
        refine ⟨ret_str ?_, hbr.alloc (by have := hbr.size; omega) _⟩
        simp only [ByteArray.data_append, Array.toList_append] at *
        rw [HFI.out]
        simp
      · have hz1 : ((m : Int) / 10 == 0) = false := by simp; omega
        have hz2 : (-((m : Int) / 10) == 0) = false := by simp; omega
        have hnx : Lib.decDigits N = Lib.decDigits (m / 10) ++ ((ByteArray.mk #[dgt m]) ++ acc).data.toList := by
          rw [HD.out, dec_more m hz]
          simp only [ByteArray.data_append, Array.toList_append, List.append_assoc]
        have HNX := Lib.hid hnx
        have hm10 : 10 ≤ m := by omega
        clear hnx hz
        go_wp2
        go_roundw
        case rel => exact ⟨m / 10, _, by omega, by omega, rfl, rfl, HNX.out, hbr.alloc (by have := hbr.size; omega) _⟩
        case measure => simp [intOf]; omega

theorem digits_any (n : Int) (h : ok64 n) (w : World) : Calls Tryz.prog 64 #[.int .i64 n] w fun e w' => e = .returned (.string ⟨(Lib.itoa n).toArray⟩) ∧ Below w.heap.size w w' := by
  unfold ok64 at h
  unfold Lib.itoa
  by_cases hn : n < 0
  · rw [if_pos hn]
    obtain ⟨N, rfl⟩ : ∃ N : Nat, n = -(N : Int) := ⟨n.natAbs, by omega⟩
    have := digits_neg N (by omega) (by omega) w
    rwa [show (-(N : Int)).natAbs = N by omega]
  · rw [if_neg hn]
    obtain ⟨N, rfl⟩ : ∃ N : Nat, n = (N : Int) := ⟨n.toNat, by omega⟩
    exact digits_pos N (by omega) w
end Go.Proofs.YtiamojpeedllbaaGreatDoor.Dat

/-
The document's text of a string: Quoted: what it answers. A string of at most 1000000 bytes.
-/
namespace Go.Proofs.YtiamojpeedllbaaGreatDoor.Dat
open Go.ChangeShapes Go.WideShapes Go.ChangeAt Go.RowKit
set_option maxRecDepth 100000

theorem one_slice (s : ByteArray) (k : Nat) (h : k < s.size) : (s.extract k (k + 1)).data.toList = [s[k]] := by
  have hl := len_data s
  rw [Lib.extract_data, show k + 1 - k = 1 by omega]
  rw [List.drop_eq_getElem_cons (by omega)]
  rfl

set_option maxHeartbeats 1000000 in
set_option maxRecDepth 100000 in
theorem rquoted_any (s : ByteArray) (hs : s.size ≤ 1000000) (w : World) : Calls Tryz.prog 66 #[.string s] w fun e w' => e = .returned (.string ⟨(quoteT s.data.toList).toArray⟩) ∧ Below w.heap.size w w' := by
  have HL := Lib.hid (len_data s)
  go_enter Tryz.func66, Tryz.ntmps66
  go_wp2
  go_loopw [3, 4, 5] (fun x ix cx wr => ∃ (k : Nat) (out : ByteArray), k ≤ s.size ∧ ix = .int .i64 k ∧ x = .string out ∧ out.data.toList = [34] ++ qbytesT (s.data.toList.take k) ∧ Below w.heap.size w wr) (fun _ ix _ _ => s.size - (intOf ix).toNat)
  case atStart => exact ⟨0, _, Nat.zero_le _, rfl, rfl, rfl, Below.refl _ _⟩
  case round =>
    obtain ⟨k, out, hk, rfl, rfl, ho, hbr⟩ := hrel
    have HO := Lib.hid ho
    have hsz : out.size ≤ 4000100 := by
      have h1 := qbytesT_len (s.data.toList.take k)
      have h2 := congrArg List.length ho
      rw [len_data] at h2
      simp only [List.length_append, List.length_cons, List.length_nil, List.length_take] at h1 h2
      omega
    clear ho
    by_cases hlt : k < s.size
    · have HS := Lib.hid (one_slice s k hlt)
      have HT := Lib.hid (qbytesT_take s.data.toList k (by rw [HL.out]; exact hlt))
      have hlt2 : k + 1 ≤ s.size := hlt
      have hfin : ∀ x : ByteArray, x.data.toList = qbyteT s[k] → (out ++ x).data.toList = [34] ++ qbytesT (s.data.toList.take (k + 1)) := by
        intro x hx
        rw [HT.out]
        simp only [ByteArray.data_append, Array.toList_append]
        rw [HO.out, hx, List.append_assoc]
        rfl
      have HF := Lib.hid hfin
      clear hfin
      have hsx : (s.extract k (k + 1)).size ≤ 1 := by rw [← len_data, HS.out]; simp
      by_cases hq : s[k].toNat = 34 ∨ s[k].toNat = 92
      · have ht : qbyteT s[k] = [92] ++ [s[k]] := by rw [qbyteT, if_pos hq]; rfl
        have HQ := Lib.hid ht
        clear ht
        rcases hq with hq | hq
        · have b34 : ((s[k].toNat : Int) == 34) = true := by simp; omega
          clear hq
          go_wp2
          go_roundw
          case rel => exact ⟨k + 1, _, by omega, by go_num, rfl, HF.out _ (by rw [HQ.out]; simp only [ByteArray.data_append, Array.toList_append]; rw [HS.out]), hbr⟩
          case measure => simp [intOf]; omega
        · have b34 : ((s[k].toNat : Int) == 34) = false := by simp; omega
          have b92 : ((s[k].toNat : Int) == 92) = true := by simp; omega
          clear hq
          go_wp2
          go_roundw
          case rel => exact ⟨k + 1, _, by omega, by go_num, rfl, HF.out _ (by rw [HQ.out]; simp only [ByteArray.data_append, Array.toList_append]; rw [HS.out]), hbr⟩
          case measure => simp [intOf]; omega
      · have b34 : ((s[k].toNat : Int) == 34) = false := by simp; omega
        have b92 : ((s[k].toNat : Int) == 92) = false := by simp; omega
        by_cases h10 : s[k].toNat = 10
        · have b10 : ((s[k].toNat : Int) == 10) = true := by simp; omega
          have HQ := Lib.hid (show qbyteT s[k] = [92, 110] by rw [qbyteT, if_neg hq, if_pos h10])
          clear h10 hq
          go_wp2
          go_roundw
          case rel => exact ⟨k + 1, _, by omega, by go_num, rfl, HF.out _ (by rw [HQ.out]), hbr⟩
          case measure => simp [intOf]; omega
        · have b10 : ((s[k].toNat : Int) == 10) = false := by simp; omega
          by_cases hp : 32 ≤ s[k].toNat ∧ s[k].toNat ≤ 126
          · have HQ := Lib.hid (show qbyteT s[k] = [s[k]] by rw [qbyteT, if_neg hq, if_neg h10, if_pos hp])
            obtain ⟨p1, p2⟩ := hp
            have p1' : ¬ (s[k].toNat : Int) < 32 := by omega
            have p2' : ¬ (126 : Int) < (s[k].toNat : Int) := by omega
            clear h10 hq
            go_wp2
            go_roundw
            case rel => exact ⟨k + 1, _, by omega, by go_num, rfl, HF.out _ (by rw [HQ.out]; exact HS.out), hbr⟩
            case measure => simp [intOf]; omega
          · have HQ := Lib.hid (show qbyteT s[k] = [92] ++ hexT s[k] by rw [qbyteT, if_neg hq, if_neg h10, if_neg hp]; rfl)
            have hl2 : (twoT s[k]).length ≤ 2 := Nat.le_refl _
            clear h10 hq
            by_cases p1 : 32 ≤ s[k].toNat
            · have p1' : ¬ (s[k].toNat : Int) < 32 := by omega
              have p2' : (126 : Int) < (s[k].toNat : Int) := by omega
              clear hp
              go_wp2_with fail
              refine (two_any s[k] _).mono ?_
              rintro e w2 ⟨rfl, hb2⟩
              have hbr2 : Below w.heap.size w w2 := hbr.trans (hb2.mono hbr.size)
              clear hb2
              go_wp2
              go_roundw
              case rel => exact ⟨k + 1, _, by omega, by go_num, rfl, HF.out _ (by rw [HQ.out]; simp only [ByteArray.data_append, Array.toList_append]; rfl), hbr2⟩
              case measure => simp [intOf]; omega
            · have p1' : (s[k].toNat : Int) < 32 := by omega
              clear hp
              go_wp2_with fail
              refine (two_any s[k] _).mono ?_
              rintro e w2 ⟨rfl, hb2⟩
              have hbr2 : Below w.heap.size w w2 := hbr.trans (hb2.mono hbr.size)
              clear hb2
              go_wp2
              go_roundw
              case rel => exact ⟨k + 1, _, by omega, by go_num, rfl, HF.out _ (by rw [HQ.out]; simp only [ByteArray.data_append, Array.toList_append]; rfl), hbr2⟩
              case measure => simp [intOf]; omega
    · obtain rfl : k = s.size := by omega
      have hfin : (out ++ ByteArray.mk #[34]).data.toList = quoteT s.data.toList := by
        simp only [ByteArray.data_append, Array.toList_append]
        rw [HO.out, List.take_of_length_le (by rw [HL.out]; omega), quoteT, List.append_assoc]
      have HFI := Lib.hid hfin
      clear hfin
      go_wp2
      go_ret
      exact ⟨ret_str HFI.out, hbr⟩
end Go.Proofs.YtiamojpeedllbaaGreatDoor.Dat

/-
The document's text and show of a datum: what Text answers, for every datum all of whose own fields may be. A text of at most 100000000 bytes.
-/
namespace Go.Proofs.YtiamojpeedllbaaGreatDoor.Dat
open Go.ChangeShapes Go.WideShapes Go.ChangeAt Go.RowKit
set_option maxRecDepth 100000

def RTextOk (bare : Bool) (t : PT) : Prop := ∀ (w : World) (B : Nat) (v : Value), RepV w B t v → B ≤ w.heap.size → FormOk t → roomT t ≤ 100000000 →
  Calls Tryz.prog 43 #[t.val v, .bool bare] w fun e w' => e = .returned (.string ⟨(textT bare t).toArray⟩) ∧ Below w.heap.size w w'

theorem rtext_bool (bare : Bool) (i : Int) (s : ByteArray) (v : Value) (w : World) (tx : List UInt8) (htx : tx = if i = 0 then [35, 102] else [35, 116]) :
    Calls Tryz.prog 43 #[.agg #[.int .i64 0, .int .i64 i, .string s, v], .bool bare] w fun e w' => e = .returned (.string ⟨tx.toArray⟩) ∧ Below w.heap.size w w' := by
  have HX := Lib.hid htx
  clear htx
  by_cases hi : i = 0
  · subst hi
    go_enter Tryz.func43, Tryz.ntmps43
    go_wp2
    go_ret
    exact ⟨ret_str (by rw [HX.out]; rfl), (Below.refl _ _).alloc (Nat.le_refl _) _⟩
  · have hb : (i == 0) = false := by simpa using hi
    have HX2 := Lib.hid (show tx = [35, 116] by rw [HX.out, if_neg hi])
    clear hi
    go_enter Tryz.func43, Tryz.ntmps43
    go_wp2
    go_ret
    exact ⟨ret_str (by rw [HX2.out]), (Below.refl _ _).alloc (Nat.le_refl _) _⟩

theorem rtext_int (bare : Bool) (i : Int) (hi : ok64 i) (s : ByteArray) (v : Value) (w : World) :
    Calls Tryz.prog 43 #[.agg #[.int .i64 1, .int .i64 i, .string s, v], .bool bare] w fun e w' => e = .returned (.string ⟨(Lib.itoa i).toArray⟩) ∧ Below w.heap.size w w' := by
  have C := Lib.hid (fun W => digits_any i hi W)
  clear hi
  go_enter Tryz.func43, Tryz.ntmps43
  go_wp2_with fail
  refine (C.out _).mono ?_
  rintro e w1 ⟨rfl, hb1⟩
  go_wp2
  go_ret
  exact ⟨rfl, ((Below.refl w.heap.size w).alloc (Nat.le_refl _) _).trans (hb1.mono (by simp))⟩

set_option maxRecDepth 100000 in
theorem rtext_char (bare : Bool) (c : UInt8) (s : ByteArray) (v : Value) (w : World) :
    Calls Tryz.prog 43 #[.agg #[.int .i64 2, .int .i64 (c.toNat : Int), .string s, v], .bool bare] w fun e w' => e = .returned (.string ⟨(charS bare c).toArray⟩) ∧ Below w.heap.size w w' := by
  have hch := c.toNat_lt
  have hch0 : (0 : Int) ≤ c.toNat := by omega
  have hch1 : (c.toNat : Int) ≤ 255 := by omega
  cases bare
  · go_enter Tryz.func43, Tryz.ntmps43
    go_wp2_with fail
    refine (rchar_any c _).mono ?_
    rintro e w1 ⟨rfl, hb1⟩
    go_wp2
    go_ret
    exact ⟨rfl, ((Below.refl w.heap.size w).alloc (Nat.le_refl _) _).trans (hb1.mono (by simp))⟩
  · have kc := byte_string c (w.alloc (.cells #[.int .i64 2, .int .i64 (c.toNat : Int), .string s, v] 28))
    rw [show (w.alloc (.cells #[.int .i64 2, .int .i64 (c.toNat : Int), .string s, v] 28)).heap.size = w.heap.size + 1 by simp] at kc
    go_enter Tryz.func43, Tryz.ntmps43
    go_wp2
    go_ret
    exact ⟨rfl, ((Below.refl w.heap.size w).alloc (Nat.le_refl _) _).alloc (by simp) _⟩

theorem rtext_string (bare : Bool) (i : Int) (s : ByteArray) (hs : s.size ≤ 1000000) (v : Value) (w : World) :
    Calls Tryz.prog 43 #[.agg #[.int .i64 3, .int .i64 i, .string s, v], .bool bare] w fun e w' => e = .returned (.string ⟨(quoteS bare s.data.toList).toArray⟩) ∧ Below w.heap.size w w' := by
  cases bare
  · have C := Lib.hid (fun W => rquoted_any s hs W)
    go_enter Tryz.func43, Tryz.ntmps43
    go_wp2_with fail
    refine (C.out _).mono ?_
    rintro e w1 ⟨rfl, hb1⟩
    go_wp2
    go_ret
    exact ⟨rfl, ((Below.refl w.heap.size w).alloc (Nat.le_refl _) _).trans (hb1.mono (by simp))⟩
  · go_enter Tryz.func43, Tryz.ntmps43
    go_wp2
    go_ret
    exact ⟨rfl, (Below.refl _ _).alloc (Nat.le_refl _) _⟩

theorem rtext_symbol (bare : Bool) (i : Int) (s : ByteArray) (v : Value) (w : World) :
    Calls Tryz.prog 43 #[.agg #[.int .i64 4, .int .i64 i, .string s, v], .bool bare] w fun e w' => e = .returned (.string ⟨s.data.toList.toArray⟩) ∧ Below w.heap.size w w' := by
  go_enter Tryz.func43, Tryz.ntmps43
  go_wp2
  go_ret
  exact ⟨rfl, (Below.refl _ _).alloc (Nat.le_refl _) _⟩

theorem rtext_none (bare : Bool) (k i : Int) (hk : k = 5 ∨ k = 7) (s : ByteArray) (a : Option Addr) (c : Nat) (w : World) (tx : List UInt8) (htx : tx = (if k = 5 then [] else [35]) ++ [40, 41]) :
    Calls Tryz.prog 43 #[.agg #[.int .i64 k, .int .i64 i, .string s, .slice a 0 c], .bool bare] w fun e w' => e = .returned (.string ⟨tx.toArray⟩) ∧ Below w.heap.size w w' := by
  have HX := Lib.hid htx
  clear htx
  rcases hk with rfl | rfl
  all_goals
    go_enter Tryz.func43, Tryz.ntmps43
    go_wp2
    refine wp_loop_rounds 1 ?_
    rw [rounds_succ]
    go_wp2
    go_ret
    exact ⟨ret_str (by rw [HX.out]; rfl), (Below.refl _ _).alloc (Nat.le_refl _) _⟩

theorem roomsT_le : ∀ (l : List PT) (j : Nat), roomsT (l.take j) ≤ roomsT l
  | [], j => by simp [roomsT]
  | t :: l, 0 => by simp [roomsT]
  | t :: l, j + 1 => by
    have := roomsT_le l j
    simp only [List.take_succ_cons, roomsT]
    omega

/-- One round: the pieces that come. -/
theorem grow_text {out a b : ByteArray} {x y z : List UInt8} (ho : out.data.toList = x) (ha : a.data.toList = y) (hb : b.data.toList = z) : (out ++ a ++ b).data.toList = x ++ (y ++ z) := by
  simp only [ByteArray.data_append, Array.toList_append]
  rw [ho, ha, hb, List.append_assoc]

set_option maxHeartbeats 1000000 in
theorem rtext_items (bare : Bool) (k i : Int) (hk : k = 5 ∨ k = 7) (s : ByteArray) (l : List PT) (ih : ∀ t ∈ l, RTextOk bare t) (b o c : Nat) (w : World) (B : Nat) (hB : B ≤ w.heap.size) (hl : l.length ≤ c) (hm : c ≤ maxLen) (hb : b < B) (hr : RepAt w B l b o) (hf : FormsOk l) (hroom : roomsT l ≤ 100000000)
    (tx : List UInt8) (htx : tx = (if k = 5 then [40] else [35, 40]) ++ (joinT (textsT bare l) ++ [41])) :
    Calls Tryz.prog 43 #[.agg #[.int .i64 k, .int .i64 i, .string s, .slice (some ⟨b, o, none⟩) l.length c], .bool bare] w fun e w' => e = .returned (.string ⟨tx.toArray⟩) ∧ Below w.heap.size w w' := by
  have HX := Lib.hid htx
  have IH := Lib.hid ih
  have HR := Lib.hid hr
  have HF := Lib.hid hf
  unfold maxLen at hm
  have X0 := Lib.hid (new_cell w #[.int .i64 k, .int .i64 i, .string s, .slice (some ⟨b, o, none⟩) l.length c] 28 0 _ rfl)
  have X3 := Lib.hid (new_cell w #[.int .i64 k, .int .i64 i, .string s, .slice (some ⟨b, o, none⟩) l.length c] 28 3 _ rfl)
  have hb0 := fun o1 : Obj => ((Below.refl w.heap.size w).alloc (Nat.le_refl _) o1)
  clear htx ih hr hf
  rcases hk with rfl | rfl
  · go_enter Tryz.func43, Tryz.ntmps43
    go_wp2
    go_loopw [5, 6] (fun x ix wr => ∃ (j : Nat) (out : ByteArray), j ≤ l.length ∧ ix = .int .i64 j ∧ x = .string out ∧ out.data.toList = [40] ++ joinT ((textsT bare l).take j) ∧ wr.cell? ⟨w.heap.size, 0, none⟩ = some (.int .i64 5) ∧ wr.cell? ⟨w.heap.size, 3, none⟩ = some (.slice (some ⟨b, o, none⟩) l.length c) ∧ Below w.heap.size w wr) (fun _ ix _ => l.length - (intOf ix).toNat)
    case atStart => exact ⟨0, _, Nat.zero_le _, rfl, rfl, rfl, X0.out, X3.out, hb0 _⟩
    case round =>
      obtain ⟨j, out, hj, rfl, rfl, ho, hx0, hx3, hbr⟩ := hrel
      have HO := Lib.hid ho
      have hsx : w.heap.size < wr.heap.size := World.block_lt_of_cell? _ _ hx3
      have hsz : out.size ≤ 100000100 := by
        have h1 := row_room bare l j HF.out
        have h2 := congrArg List.length ho
        have h3 : roomsT (l.take j) ≤ roomsT l := roomsT_le l j
        rw [len_data] at h2
        simp only [List.length_append, List.length_cons, List.length_nil] at h2
        omega
      clear ho
      by_cases hlt : j < l.length
      · obtain ⟨k1, i1, s1, n1, v1, hj1, ok1, ok2, hs1, d0, d1, d2, d3, hv1⟩ := repAt_item (RepAt.below HR.out hbr hB hb) hlt
        have hget := roomsT_get l j hlt
        have htx := textsT_get bare l j hlt
        have hF1 := formsOk_get HF.out l[j] (List.getElem_mem _)
        have hL := IH.out l[j] (List.getElem_mem _)
        rw [hj1] at htx hF1 hL hget
        have hlen := textT_len bare _ hF1
        have hbs1 : b < wr.heap.size := World.block_lt_of_cell? _ _ d0
        have HV1 := Lib.hid hv1
        obtain ⟨a1, c1', rfl, _⟩ := hv1
        have HC := Lib.hid (hL wr B (.slice a1 n1.length c1') ⟨ok1, ok2, hs1, HV1.out⟩ (by omega) hF1 (by omega))
        have htl : (textT bare (.mk k1 i1 s1 n1)).length ≤ 100000000 := by omega
        have HTX := Lib.hid htx
        clear htx hF1 hL hj1 hget hlen
        by_cases hj0 : j = 0
        · have hj0' : ¬ (0 : Int) < (j : Int) := by omega
          have HJ := Lib.hid hj0
          clear hj0
          go_wp2_with fail
          refine HC.out.mono ?_
          rintro e w2 ⟨rfl, hb2⟩
          have hbr2 : Below w.heap.size w w2 := hbr.trans (hb2.mono hbr.size)
          have y0 := (hb2.cell (p := ⟨w.heap.size, 0, none⟩) hsx).trans hx0
          have y3 := (hb2.cell (p := ⟨w.heap.size, 3, none⟩) hsx).trans hx3
          clear hb2
          go_wp2
          go_roundw
          case rel =>
            refine ⟨j + 1, _, by omega, by go_num, rfl, ?_, y0, y3, hbr2⟩
            have e0 := HO.out
            have hz := HJ.out
            subst hz
            simp only [ByteArray.data_append, Array.toList_append]
            rw [e0, joinT_take0 _ (by rw [textsT_len]; omega), HTX.out]
            simp [joinT]
          case measure => simp [intOf]; omega
        · have hj0' : (0 : Int) < (j : Int) := by omega
          go_wp2_with fail
          refine HC.out.mono ?_
          rintro e w2 ⟨rfl, hb2⟩
          have hbr2 : Below w.heap.size w w2 := hbr.trans (hb2.mono hbr.size)
          have y0 := (hb2.cell (p := ⟨w.heap.size, 0, none⟩) hsx).trans hx0
          have y3 := (hb2.cell (p := ⟨w.heap.size, 3, none⟩) hsx).trans hx3
          clear hb2
          go_wp2
          go_roundw
          case rel =>
            refine ⟨j + 1, _, by omega, by go_num, rfl, ?_, y0, y3, hbr2⟩
            have e0 := HO.out
            simp only [ByteArray.data_append, Array.toList_append]
            rw [e0, joinT_take _ j (by omega) (by rw [textsT_len]; omega), HTX.out]
            simp
          case measure => simp [intOf]; omega
      · obtain rfl : j = l.length := by omega
        have hfin : (out ++ ByteArray.mk #[41]).data.toList = tx := by
          simp only [ByteArray.data_append, Array.toList_append]
          rw [HO.out, List.take_of_length_le (by rw [textsT_len]; omega), HX.out]
          simp
        have HFI := Lib.hid hfin
        clear hfin
        go_wp2
        go_ret
        exact ⟨ret_str HFI.out, hbr⟩
  · go_enter Tryz.func43, Tryz.ntmps43
    go_wp2
    go_loopw [5, 6] (fun x ix wr => ∃ (j : Nat) (out : ByteArray), j ≤ l.length ∧ ix = .int .i64 j ∧ x = .string out ∧ out.data.toList = [35, 40] ++ joinT ((textsT bare l).take j) ∧ wr.cell? ⟨w.heap.size, 0, none⟩ = some (.int .i64 7) ∧ wr.cell? ⟨w.heap.size, 3, none⟩ = some (.slice (some ⟨b, o, none⟩) l.length c) ∧ Below w.heap.size w wr) (fun _ ix _ => l.length - (intOf ix).toNat)
    case atStart => exact ⟨0, _, Nat.zero_le _, rfl, rfl, rfl, X0.out, X3.out, hb0 _⟩
    case round =>
      obtain ⟨j, out, hj, rfl, rfl, ho, hx0, hx3, hbr⟩ := hrel
      have HO := Lib.hid ho
      have hsx : w.heap.size < wr.heap.size := World.block_lt_of_cell? _ _ hx3
      have hsz : out.size ≤ 100000100 := by
        have h1 := row_room bare l j HF.out
        have h2 := congrArg List.length ho
        have h3 : roomsT (l.take j) ≤ roomsT l := roomsT_le l j
        rw [len_data] at h2
        simp only [List.length_append, List.length_cons, List.length_nil] at h2
        omega
      clear ho
      by_cases hlt : j < l.length
      · obtain ⟨k1, i1, s1, n1, v1, hj1, ok1, ok2, hs1, d0, d1, d2, d3, hv1⟩ := repAt_item (RepAt.below HR.out hbr hB hb) hlt
        have hget := roomsT_get l j hlt
        have htx := textsT_get bare l j hlt
        have hF1 := formsOk_get HF.out l[j] (List.getElem_mem _)
        have hL := IH.out l[j] (List.getElem_mem _)
        rw [hj1] at htx hF1 hL hget
        have hlen := textT_len bare _ hF1
        have hbs1 : b < wr.heap.size := World.block_lt_of_cell? _ _ d0
        have HV1 := Lib.hid hv1
        obtain ⟨a1, c1', rfl, _⟩ := hv1
        have HC := Lib.hid (hL wr B (.slice a1 n1.length c1') ⟨ok1, ok2, hs1, HV1.out⟩ (by omega) hF1 (by omega))
        have htl : (textT bare (.mk k1 i1 s1 n1)).length ≤ 100000000 := by omega
        have HTX := Lib.hid htx
        clear htx hF1 hL hj1 hget hlen
        by_cases hj0 : j = 0
        · have hj0' : ¬ (0 : Int) < (j : Int) := by omega
          have HJ := Lib.hid hj0
          clear hj0
          go_wp2_with fail
          refine HC.out.mono ?_
          rintro e w2 ⟨rfl, hb2⟩
          have hbr2 : Below w.heap.size w w2 := hbr.trans (hb2.mono hbr.size)
          have y0 := (hb2.cell (p := ⟨w.heap.size, 0, none⟩) hsx).trans hx0
          have y3 := (hb2.cell (p := ⟨w.heap.size, 3, none⟩) hsx).trans hx3
          clear hb2
          go_wp2
          go_roundw
          case rel =>
            refine ⟨j + 1, _, by omega, by go_num, rfl, ?_, y0, y3, hbr2⟩
            have e0 := HO.out
            have hz := HJ.out
            subst hz
            simp only [ByteArray.data_append, Array.toList_append]
            rw [e0, joinT_take0 _ (by rw [textsT_len]; omega), HTX.out]
            simp [joinT]
          case measure => simp [intOf]; omega
        · have hj0' : (0 : Int) < (j : Int) := by omega
          go_wp2_with fail
          refine HC.out.mono ?_
          rintro e w2 ⟨rfl, hb2⟩
          have hbr2 : Below w.heap.size w w2 := hbr.trans (hb2.mono hbr.size)
          have y0 := (hb2.cell (p := ⟨w.heap.size, 0, none⟩) hsx).trans hx0
          have y3 := (hb2.cell (p := ⟨w.heap.size, 3, none⟩) hsx).trans hx3
          clear hb2
          go_wp2
          go_roundw
          case rel =>
            refine ⟨j + 1, _, by omega, by go_num, rfl, ?_, y0, y3, hbr2⟩
            have e0 := HO.out
            simp only [ByteArray.data_append, Array.toList_append]
            rw [e0, joinT_take _ j (by omega) (by rw [textsT_len]; omega), HTX.out]
            simp
          case measure => simp [intOf]; omega
      · obtain rfl : j = l.length := by omega
        have hfin : (out ++ ByteArray.mk #[41]).data.toList = tx := by
          simp only [ByteArray.data_append, Array.toList_append]
          rw [HO.out, List.take_of_length_le (by rw [textsT_len]; omega), HX.out]
          simp
        have HFI := Lib.hid hfin
        clear hfin
        go_wp2
        go_ret
        exact ⟨ret_str HFI.out, hbr⟩
end Go.Proofs.YtiamojpeedllbaaGreatDoor.Dat

/-
The document's text and show of a datum: dotted data, and all of it: what Text answers, for every datum all of whose own fields may be. A text of at most 100000000 bytes.
-/
namespace Go.Proofs.YtiamojpeedllbaaGreatDoor.Dat
open Go.ChangeShapes Go.WideShapes Go.ChangeAt Go.RowKit
set_option maxRecDepth 100000

/-- What has been written of a dotted datum behind j items. -/
def dotJ (ts : List (List UInt8)) (j : Nat) : List UInt8 := if j = ts.length then joinT ts.dropLast ++ ([32, 46, 32] ++ ts.getLast?.getD []) else joinT (ts.take j)

theorem dotJ_less (ts : List (List UInt8)) (j : Nat) (h : j < ts.length) : dotJ ts j = joinT (ts.take j) := by rw [dotJ, if_neg (by omega)]
theorem dotJ_last (ts : List (List UInt8)) (h : 2 ≤ ts.length) : dotJ ts (ts.length - 1 + 1) = joinT (ts.take (ts.length - 1)) ++ ([32] ++ ([46, 32] ++ ts[ts.length - 1]'(by omega))) := by
  rw [dotJ, if_pos (by omega), List.dropLast_eq_take, List.getLast?_eq_getElem?, List.getElem?_eq_getElem (by omega)]
  rfl

set_option maxHeartbeats 2000000 in
theorem rtext_dotted (bare : Bool) (i : Int) (s : ByteArray) (l : List PT) (ih : ∀ t ∈ l, RTextOk bare t) (b o c : Nat) (w : World) (B : Nat) (hB : B ≤ w.heap.size) (hl : l.length ≤ c) (hm : c ≤ maxLen) (hb : b < B) (hr : RepAt w B l b o) (hf : FormsOk l) (hroom : roomsT l ≤ 100000000) (hn : 2 ≤ l.length)
    (tx : List UInt8) (htx : tx = [40] ++ (dotJ (textsT bare l) l.length ++ [41])) :
    Calls Tryz.prog 43 #[.agg #[.int .i64 6, .int .i64 i, .string s, .slice (some ⟨b, o, none⟩) l.length c], .bool bare] w fun e w' => e = .returned (.string ⟨tx.toArray⟩) ∧ Below w.heap.size w w' := by
  have HX := Lib.hid htx
  have IH := Lib.hid ih
  have HR := Lib.hid hr
  have HF := Lib.hid hf
  unfold maxLen at hm
  have X0 := Lib.hid (new_cell w #[.int .i64 6, .int .i64 i, .string s, .slice (some ⟨b, o, none⟩) l.length c] 28 0 _ rfl)
  have X3 := Lib.hid (new_cell w #[.int .i64 6, .int .i64 i, .string s, .slice (some ⟨b, o, none⟩) l.length c] 28 3 _ rfl)
  have hb0 := fun o1 : Obj => ((Below.refl w.heap.size w).alloc (Nat.le_refl _) o1)
  have HTL := Lib.hid (textsT_len bare l)
  clear htx ih hr hf
  go_enter Tryz.func43, Tryz.ntmps43
  go_wp2
  go_loopw [5, 6] (fun x ix wr => ∃ (j : Nat) (out : ByteArray), j ≤ l.length ∧ ix = .int .i64 j ∧ x = .string out ∧ out.data.toList = [40] ++ dotJ (textsT bare l) j ∧ (j < l.length ∨ out.size ≤ 300000000) ∧ wr.cell? ⟨w.heap.size, 0, none⟩ = some (.int .i64 6) ∧ wr.cell? ⟨w.heap.size, 3, none⟩ = some (.slice (some ⟨b, o, none⟩) l.length c) ∧ Below w.heap.size w wr) (fun _ ix _ => l.length - (intOf ix).toNat)
  case atStart => exact ⟨0, _, Nat.zero_le _, rfl, rfl, by rw [dotJ_less _ _ (by rw [textsT_len]; omega)]; rfl, .inl (by omega), X0.out, X3.out, hb0 _⟩
  case round =>
    obtain ⟨j, out, hj, rfl, rfl, ho, hos, hx0, hx3, hbr⟩ := hrel
    have HO := Lib.hid ho
    have hsx : w.heap.size < wr.heap.size := World.block_lt_of_cell? _ _ hx3
    by_cases hlt : j < l.length
    · have hsz : out.size ≤ 100000100 := by
        have h1 := row_room bare l j HF.out
        have h2 := congrArg List.length ho
        have h3 : roomsT (l.take j) ≤ roomsT l := roomsT_le l j
        rw [len_data, dotJ_less _ _ (by rw [textsT_len]; omega)] at h2
        simp only [List.length_append, List.length_cons, List.length_nil] at h2
        omega
      obtain ⟨k1, i1, s1, n1, v1, hj1, ok1, ok2, hs1, d0, d1, d2, d3, hv1⟩ := repAt_item (RepAt.below HR.out hbr hB hb) hlt
      have hget := roomsT_get l j hlt
      have htx := textsT_get bare l j hlt
      have hF1 := formsOk_get HF.out l[j] (List.getElem_mem _)
      have hL := IH.out l[j] (List.getElem_mem _)
      rw [hj1] at htx hF1 hL hget
      have hlen := textT_len bare _ hF1
      have hbs1 : b < wr.heap.size := World.block_lt_of_cell? _ _ d0
      have HV1 := Lib.hid hv1
      obtain ⟨a1, c1', rfl, _⟩ := hv1
      have HC := Lib.hid (hL wr B (.slice a1 n1.length c1') ⟨ok1, ok2, hs1, HV1.out⟩ (by omega) hF1 (by omega))
      have htl : (textT bare (.mk k1 i1 s1 n1)).length ≤ 100000000 := by omega
      have HTX := Lib.hid htx
      clear htx hF1 hL hj1 hget hlen ho hos
      by_cases hj0 : j = 0
      · have hj0' : ¬ (0 : Int) < (j : Int) := by omega
        have hje : ((j : Int) == (l.length : Int) - 1) = false := by simp; omega
        have HJ := Lib.hid hj0
        clear hj0
        go_wp2_with fail
        refine HC.out.mono ?_
        rintro e w2 ⟨rfl, hb2⟩
        have hbr2 : Below w.heap.size w w2 := hbr.trans (hb2.mono hbr.size)
        have y0 := (hb2.cell (p := ⟨w.heap.size, 0, none⟩) hsx).trans hx0
        have y3 := (hb2.cell (p := ⟨w.heap.size, 3, none⟩) hsx).trans hx3
        clear hb2
        go_wp2
        go_roundw
        case rel =>
          have hz := HJ.out
          refine ⟨j + 1, _, by omega, by go_num, rfl, ?_, .inl (by omega), y0, y3, hbr2⟩
          have e0 := HO.out
          subst hz
          simp only [ByteArray.data_append, Array.toList_append]
          rw [e0, dotJ_less _ _ (by rw [textsT_len]; omega), dotJ_less _ _ (by rw [textsT_len]; omega), joinT_take0 _ (by rw [textsT_len]; omega), HTX.out]
          simp [joinT]
        case measure => simp [intOf]; omega
      · have hj0' : (0 : Int) < (j : Int) := by omega
        by_cases hjn : j = l.length - 1
        · have hje : ((j : Int) == (l.length : Int) - 1) = true := by simp; omega
          have HJ := Lib.hid hjn
          clear hjn
          go_wp2_with fail
          refine HC.out.mono ?_
          rintro e w2 ⟨rfl, hb2⟩
          have hbr2 : Below w.heap.size w w2 := hbr.trans (hb2.mono hbr.size)
          have y0 := (hb2.cell (p := ⟨w.heap.size, 0, none⟩) hsx).trans hx0
          have y3 := (hb2.cell (p := ⟨w.heap.size, 3, none⟩) hsx).trans hx3
          clear hb2
          go_wp2
          go_roundw
          case rel =>
            have hz := HJ.out
            refine ⟨j + 1, _, by omega, by go_num, rfl, ?_, .inr ?_, y0, y3, hbr2⟩
            · have e0 := HO.out
              simp only [ByteArray.data_append, Array.toList_append]
              have hj2 : j = (textsT bare l).length - 1 := by rw [textsT_len]; exact hz
              have hd := dotJ_last (textsT bare l) (by rw [textsT_len]; omega)
              simp only [← hj2] at hd
              rw [e0, dotJ_less _ _ (by rw [textsT_len]; omega), hd, HTX.out]
              simp
            · simp only [ByteArray.size_append]
              have : (ByteArray.mk (textT bare (.mk k1 i1 s1 n1)).toArray).size = (textT bare (.mk k1 i1 s1 n1)).length := by simp [ByteArray.size]
              rw [this]
              show out.size + 1 + 2 + _ ≤ _
              omega
          case measure => simp [intOf]; omega
        · have hje : ((j : Int) == (l.length : Int) - 1) = false := by simp; omega
          go_wp2_with fail
          refine HC.out.mono ?_
          rintro e w2 ⟨rfl, hb2⟩
          have hbr2 : Below w.heap.size w w2 := hbr.trans (hb2.mono hbr.size)
          have y0 := (hb2.cell (p := ⟨w.heap.size, 0, none⟩) hsx).trans hx0
          have y3 := (hb2.cell (p := ⟨w.heap.size, 3, none⟩) hsx).trans hx3
          clear hb2
          go_wp2
          go_roundw
          case rel =>
            refine ⟨j + 1, _, by omega, by go_num, rfl, ?_, .inl (by omega), y0, y3, hbr2⟩
            have e0 := HO.out
            simp only [ByteArray.data_append, Array.toList_append]
            rw [e0, dotJ_less _ _ (by rw [textsT_len]; omega), dotJ_less _ _ (by rw [textsT_len]; omega), joinT_take _ j (by omega) (by rw [textsT_len]; omega), HTX.out]
            simp
          case measure => simp [intOf]; omega
    · obtain rfl : j = l.length := by omega
      have hsz : out.size ≤ 300000000 := hos.resolve_left (by omega)
      have hfin : (out ++ ByteArray.mk #[41]).data.toList = tx := by
        simp only [ByteArray.data_append, Array.toList_append]
        rw [HO.out, HX.out]
        simp
      have HFI := Lib.hid hfin
      clear hfin hos ho
      go_wp2
      go_ret
      exact ⟨ret_str HFI.out, hbr⟩

theorem rtext_step (bare : Bool) (k i : Int) (s : ByteArray) (l : List PT) (ih : ∀ t ∈ l, RTextOk bare t) : RTextOk bare (.mk k i s l) := by
  intro w B v hv hB hf hroom
  obtain ⟨ok1, ok2, hs, hv⟩ := hv
  rw [FormOk] at hf
  rw [roomT] at hroom
  rw [textT]
  obtain ⟨hf1, hf2⟩ := hf
  show Calls Tryz.prog 43 #[.agg #[.int .i64 k, .int .i64 i, .string s, v], .bool bare] w _
  rcases kind_ways k with (rfl | rfl | rfl) | rfl | rfl | hk | rfl | hk
  · exact rtext_bool bare i s v w _ rfl
  · exact rtext_int bare i ok2 s v w
  · have hb : 0 ≤ i ∧ i ≤ 255 := by
      unfold formB at hf1
      simp at hf1
      omega
    have e : ((UInt8.ofNat i.toNat).toNat : Int) = i := by simp; omega
    have := rtext_char bare (UInt8.ofNat i.toNat) s v w
    rw [e] at this
    exact this
  · exact rtext_string bare i s (by have := form_size hf1; omega) v w
  · exact rtext_symbol bare i s v w
  · obtain ⟨a, c, rfl, hl, hm, hna, hr⟩ := hv
    rcases hr with rfl | ⟨b, o, rfl, hb, hr⟩
    · refine rtext_none bare k i hk s a c w _ ?_
      rcases hk with rfl | rfl <;> rfl
    · refine rtext_items bare k i hk s l ih b o c w B hB hl hm hb hr hf2 (by omega) _ ?_
      rcases hk with rfl | rfl <;> simp [shapeT]
  · have hn : 2 ≤ l.length := by
      unfold formB at hf1
      simp at hf1
      omega
    obtain ⟨a, c, rfl, hl, hm, hna, hr⟩ := hv
    rcases hr with rfl | ⟨b, o, rfl, hb, hr⟩
    · simp at hn
    · refine rtext_dotted bare i s l ih b o c w B hB hl hm hb hr hf2 (by omega) hn _ ?_
      rw [dotJ, if_pos (textsT_len bare l).symm]
      simp [shapeT]
  · exfalso
    have : formB k i s.data.toList l = false := by
      unfold formB
      repeat (rw [if_neg (by omega)])
    rw [this] at hf1
    cases hf1

mutual
theorem rtext_any (bare : Bool) : ∀ t : PT, RTextOk bare t
  | .mk k i s l => rtext_step bare k i s l (rtext_all bare l)
theorem rtext_all (bare : Bool) : ∀ l : List PT, ∀ t ∈ l, RTextOk bare t
  | [], t, h => by cases h
  | u :: l, t, h => (List.mem_cons.1 h).elim (fun e => e ▸ rtext_any bare u) (fun h => rtext_all bare l t h)
end
end Go.Proofs.YtiamojpeedllbaaGreatDoor.Dat

/-
The document's Name: what it returns, for every string. No condition.
-/
namespace Go.Proofs.YtiamojpeedllbaaGreatDoor
open Go.ChangeShapes Go.WideShapes Go.ChangeAt Go.RowKit
set_option maxRecDepth 100000


/-! ### the document's -/
theorem rname_loop (s : ByteArray) (w : World) (hs : s.size ≤ maxLen) (h0 : 0 < s.size) (h1 : s.size ≤ 64) (h2 : ¬ s.data.toList = [46]) (h3 : numB s.data.toList = false) :
    Calls Tryz.prog 14 #[.string s] w fun e w' => e = .returned (.bool (bytesB s.data.toList)) ∧ w = w' := by
  have C := fun W => number_any s W hs
  rw [h3] at C
  have HN3 := Lib.hid C
  clear C h3
  unfold maxLen at hs
  rw [← ByteArray.toList_eq] at h2
  have HL := Lib.hid (len_data s)
  have h1' : (s.size : Int) ≤ 64 := by omega
  have h0' : (1 : Int) ≤ s.size := by omega
  have e1 : decide (64 < (s.size : Int)) = false := by simpa using h1'
  have e2 : (s.toList == [46]) = false := by simpa using h2
  go_enter Tryz.func14, Tryz.ntmps14
  go_wp2_with (go_at_call 28; ((with_reducible refine (HN3.out _).mono ?_); rintro e w' ⟨rfl, rfl⟩))
  go_loop [3] (fun i => ∃ k : Nat, k ≤ s.size ∧ i = .int .i64 k ∧ (s.data.toList.take k).all nby8 = true) (fun i => s.size - (intOf i).toNat)
  case atStart => exact ⟨0, Nat.zero_le _, rfl, rfl⟩
  case round =>
    obtain ⟨k, hk, rfl, hn⟩ := hrel
    by_cases hlt : k < s.size
    · have ht := all_take_succ s.data.toList nby8 k (by rw [HL.out]; exact hlt)
      rw [hn, Bool.true_and] at ht
      have HT := Lib.hid ht
      have HN := Lib.hid hn
      clear hn ht
      by_cases hc : nbyB s[k].toNat = true
      · have C := fun W => rbyte_any s[k].toNat W
        rw [hc] at C
        have H := Lib.hid C
        have HC := Lib.hid hc
        clear C hc
        go_wp2_with (go_at_call 29; ((with_reducible refine (H.out _).mono ?_); rintro e w' ⟨rfl, rfl⟩))
        go_round
        case rel => exact ⟨k + 1, by omega, by go_num, HT.out.trans HC.out⟩
        case measure => simp [intOf]; omega
      · have hc' : nbyB s[k].toNat = false := by simpa using hc
        have C := fun W => rbyte_any s[k].toNat W
        rw [hc'] at C
        have H := Lib.hid C
        have HC := Lib.hid hc'
        clear C hc hc'
        go_wp2_with (go_at_call 29; ((with_reducible refine (H.out _).mono ?_); rintro e w' ⟨rfl, rfl⟩))
        go_ret
        exact ⟨ret_bool (all_of_not k (by rw [HL.out]; exact hlt) HC.out).symm, rfl⟩
    · obtain rfl : k = s.size := by omega
      have HN := Lib.hid hn
      clear hn
      go_wp2
      go_ret
      refine ⟨ret_bool ?_, rfl⟩
      have := HN.out
      rw [List.take_of_length_le (by rw [HL.out]; omega)] at this
      exact this.symm

theorem rname_not (s : ByteArray) (w : World) (hs : s.size ≤ maxLen) (h : s.size = 0 ∨ 64 < s.size ∨ 0 < s.size ∧ s.size ≤ 64 ∧ (s.data.toList = [46] ∨ ¬ s.data.toList = [46] ∧ numB s.data.toList = true)) :
    Calls Tryz.prog 14 #[.string s] w fun e w' => e = .returned (.bool false) ∧ w = w' := by
  rcases h with h | h | ⟨h0, h1, h2 | ⟨h2, h3⟩⟩
  · obtain ⟨⟨l⟩⟩ := s
    obtain rfl : l = [] := List.length_eq_zero_iff.1 h
    clear hs h
    go_enter Tryz.func14, Tryz.ntmps14
    go_wp2
    go_ret
    exact ⟨rfl, rfl⟩
  · unfold maxLen at hs
    have h1' : (64 : Int) < (s.size : Int) := by omega
    have h0' : (1 : Int) ≤ s.size := by omega
    go_enter Tryz.func14, Tryz.ntmps14
    go_wp2
    go_ret
    exact ⟨rfl, rfl⟩
  · unfold maxLen at hs
    rw [← ByteArray.toList_eq] at h2
    have h1' : (s.size : Int) ≤ 64 := by omega
    have h0' : (1 : Int) ≤ s.size := by omega
    go_enter Tryz.func14, Tryz.ntmps14
    go_wp2
    go_ret
    exact ⟨rfl, rfl⟩
  · have C := fun W => number_any s W hs
    rw [h3] at C
    have HN3 := Lib.hid C
    clear C h3
    unfold maxLen at hs
    rw [← ByteArray.toList_eq] at h2
    have h1' : (s.size : Int) ≤ 64 := by omega
    have h0' : (1 : Int) ≤ s.size := by omega
    go_enter Tryz.func14, Tryz.ntmps14
    go_wp2_with (go_at_call 28; ((with_reducible refine (HN3.out _).mono ?_); rintro e w' ⟨rfl, rfl⟩))
    go_ret
    exact ⟨rfl, rfl⟩

theorem rname_any (s : ByteArray) (w : World) (hs : s.size ≤ maxLen) :
    Calls Tryz.prog 14 #[.string s] w fun e w' => e = .returned (.bool (nameB s.data.toList)) ∧ w = w' := by
  rcases name_ways s with h | ⟨h0, h1, h2, h3⟩
  · rw [nameB_not s h]; exact rname_not s w hs h
  · rw [nameB_loop s h0 h1 h2 h3]; exact rname_loop s w hs h0 h1 h2 h3
end Go.Proofs.YtiamojpeedllbaaGreatDoor

/-
Which fields a datum may have, itself: the document's form and Nested, for every datum. No condition.
-/
namespace Go.Proofs.YtiamojpeedllbaaGreatDoor.Dat
open Go.ChangeShapes Go.WideShapes Go.ChangeAt Go.RowKit
set_option maxRecDepth 100000

theorem nested_any (k i : Int) (s : ByteArray) (v : Value) (r : Bool) (hr : r = (decide (k = 5) || decide (k = 6) || decide (k = 7))) (w : World) :
    Calls Tryz.prog 91 #[.agg #[.int .i64 k, .int .i64 i, .string s, v]] w fun e w' => e = .returned (.bool r) ∧ Below w.heap.size w w' := by
  have HR := Lib.hid hr
  clear hr
  by_cases h5 : k = 5
  · subst h5
    go_enter Tryz.func91, Tryz.ntmps91
    go_wp2
    go_ret
    exact ⟨ret_bool (by rw [HR.out]; rfl), (Below.refl _ _).alloc (Nat.le_refl _) _⟩
  by_cases h6 : k = 6
  · subst h6
    go_enter Tryz.func91, Tryz.ntmps91
    go_wp2
    go_ret
    exact ⟨ret_bool (by rw [HR.out]; rfl), (Below.refl _ _).alloc (Nat.le_refl _) _⟩
  by_cases h7 : k = 7
  · subst h7
    go_enter Tryz.func91, Tryz.ntmps91
    go_wp2
    go_ret
    exact ⟨ret_bool (by rw [HR.out]; rfl), (Below.refl _ _).alloc (Nat.le_refl _) _⟩
  have hf : r = false := by rw [HR.out]; simp [h5, h6, h7]
  have HF := Lib.hid hf
  clear hf
  have b5 : (k == 5) = false := by simpa using h5
  have b6 : (k == 6) = false := by simpa using h6
  have b7 : (k == 7) = false := by simpa using h7
  go_enter Tryz.func91, Tryz.ntmps91
  go_wp2
  go_ret
  exact ⟨ret_bool HF.out.symm, (Below.refl _ _).alloc (Nat.le_refl _) _⟩

set_option maxHeartbeats 2000000 in
theorem form_num (k i : Int) (s : ByteArray) (a : Option Addr) (n c : Nat) (lo hi : Int) (r : Bool) (hk : k = 0 ∧ lo = 0 ∧ hi = 1 ∨ k = 1 ∧ lo = -1152921504606846976 ∧ hi = 1152921504606846975 ∨ k = 2 ∧ lo = 0 ∧ hi = 255)
    (hr : r = (decide (lo ≤ i) && decide (i ≤ hi) && s.data.toList.isEmpty && decide (n = 0))) (w : World) :
    Calls Tryz.prog 92 #[.agg #[.int .i64 k, .int .i64 i, .string s, .slice a n c]] w fun e w' => e = .returned (.bool r) ∧ Below w.heap.size w w' := by
  rw [← ByteArray.toList_eq] at hr
  have HR := Lib.hid hr
  clear hr
  by_cases hs : s.toList = []
  · have hse : s.toList.isEmpty = true := by simp [hs]
    by_cases hn : n = 0
    · subst hn
      rcases hk with ⟨rfl, rfl, rfl⟩ | ⟨rfl, rfl, rfl⟩ | ⟨rfl, rfl, rfl⟩
      all_goals
        go_enter Tryz.func92, Tryz.ntmps92
        go_wp2
        all_goals
          go_ret
          refine ⟨ret_bool ?_, (Below.refl _ _).alloc (Nat.le_refl _) _⟩
          rw [HR.out, Bool.eq_iff_iff]
          simp [*] <;> omega
    · have hn' : ((n : Int) == 0) = false := by simp; omega
      have hf : r = false := by rw [HR.out]; simp [hn]
      have HF := Lib.hid hf
      clear hf
      rcases hk with ⟨rfl, rfl, rfl⟩ | ⟨rfl, rfl, rfl⟩ | ⟨rfl, rfl, rfl⟩
      all_goals
        go_enter Tryz.func92, Tryz.ntmps92
        go_wp2
        all_goals
          go_ret
          exact ⟨ret_bool HF.out.symm, (Below.refl _ _).alloc (Nat.le_refl _) _⟩
  · have hse : s.toList.isEmpty = false := by simpa using hs
    have hf : r = false := by rw [HR.out]; simp [hse]
    have HF := Lib.hid hf
    clear hf
    rcases hk with ⟨rfl, rfl, rfl⟩ | ⟨rfl, rfl, rfl⟩ | ⟨rfl, rfl, rfl⟩
    all_goals
      go_enter Tryz.func92, Tryz.ntmps92
      go_wp2
      all_goals
        go_ret
        exact ⟨ret_bool HF.out.symm, (Below.refl _ _).alloc (Nat.le_refl _) _⟩

theorem form_text (i : Int) (s : ByteArray) (a : Option Addr) (n c : Nat) (r : Bool) (hs : s.size ≤ maxLen)
    (hr : r = (decide (i = 0) && decide (s.size ≤ 4096) && decide (n = 0))) (w : World) :
    Calls Tryz.prog 92 #[.agg #[.int .i64 3, .int .i64 i, .string s, .slice a n c]] w fun e w' => e = .returned (.bool r) ∧ Below w.heap.size w w' := by
  unfold maxLen at hs
  have HR := Lib.hid hr
  clear hr
  by_cases hi : i = 0
  · subst hi
    by_cases hn : n = 0
    · subst hn
      go_enter Tryz.func92, Tryz.ntmps92
      go_wp2
      all_goals
        go_ret
        refine ⟨ret_bool ?_, (Below.refl _ _).alloc (Nat.le_refl _) _⟩
        rw [HR.out, Bool.eq_iff_iff]
        simp [*] <;> omega
    · have hn' : ((n : Int) == 0) = false := by simp; omega
      have hf : r = false := by rw [HR.out]; simp [hn]
      have HF := Lib.hid hf
      clear hf
      go_enter Tryz.func92, Tryz.ntmps92
      go_wp2
      all_goals
        go_ret
        exact ⟨ret_bool HF.out.symm, (Below.refl _ _).alloc (Nat.le_refl _) _⟩
  · have hi' : (i == 0) = false := by simpa using hi
    have hf : r = false := by rw [HR.out]; simp [hi]
    have HF := Lib.hid hf
    clear hf
    go_enter Tryz.func92, Tryz.ntmps92
    go_wp2
    all_goals
      go_ret
      exact ⟨ret_bool HF.out.symm, (Below.refl _ _).alloc (Nat.le_refl _) _⟩

theorem form_name (i : Int) (s : ByteArray) (a : Option Addr) (n c : Nat) (r : Bool) (hs : s.size ≤ maxLen)
    (hr : r = (decide (i = 0) && nameB s.data.toList && decide (n = 0))) (w : World) :
    Calls Tryz.prog 92 #[.agg #[.int .i64 4, .int .i64 i, .string s, .slice a n c]] w fun e w' => e = .returned (.bool r) ∧ Below w.heap.size w w' := by
  have C := fun W => rname_any s W hs
  unfold maxLen at hs
  have HR := Lib.hid hr
  have H := Lib.hid C
  clear C hr
  by_cases hi : i = 0
  · subst hi
    by_cases hn : n = 0
    · subst hn
      have hf : r = nameB s.data.toList := by rw [HR.out]; simp
      have HF := Lib.hid hf
      clear hf
      go_enter Tryz.func92, Tryz.ntmps92
      go_wp2_with (go_at_call 14; ((with_reducible refine (H.out _).mono ?_); rintro e w' ⟨rfl, rfl⟩))
      all_goals
        go_ret
        exact ⟨ret_bool HF.out.symm, (Below.refl _ _).alloc (Nat.le_refl _) _⟩
    · have hn' : ((n : Int) == 0) = false := by simp; omega
      have hf : r = false := by rw [HR.out]; simp [hn]
      have HF := Lib.hid hf
      clear hf
      go_enter Tryz.func92, Tryz.ntmps92
      go_wp2
      all_goals
        go_ret
        exact ⟨ret_bool HF.out.symm, (Below.refl _ _).alloc (Nat.le_refl _) _⟩
  · have hi' : (i == 0) = false := by simpa using hi
    have hf : r = false := by rw [HR.out]; simp [hi]
    have HF := Lib.hid hf
    clear hf
    go_enter Tryz.func92, Tryz.ntmps92
    go_wp2
    all_goals
      go_ret
      exact ⟨ret_bool HF.out.symm, (Below.refl _ _).alloc (Nat.le_refl _) _⟩

theorem form_items (k i : Int) (s : ByteArray) (a : Option Addr) (n c : Nat) (r : Bool) (hk : k = 5 ∨ k = 7)
    (hr : r = (decide (i = 0) && s.data.toList.isEmpty)) (w : World) :
    Calls Tryz.prog 92 #[.agg #[.int .i64 k, .int .i64 i, .string s, .slice a n c]] w fun e w' => e = .returned (.bool r) ∧ Below w.heap.size w w' := by
  rw [← ByteArray.toList_eq] at hr
  have HR := Lib.hid hr
  clear hr
  by_cases hs : s.toList = []
  · have hse : s.toList.isEmpty = true := by simp [hs]
    rcases hk with rfl | rfl
    all_goals
      go_enter Tryz.func92, Tryz.ntmps92
      go_wp2
      all_goals
        go_ret
        refine ⟨ret_bool ?_, (Below.refl _ _).alloc (Nat.le_refl _) _⟩
        rw [HR.out, Bool.eq_iff_iff]
        simp [*]
  · have hse : s.toList.isEmpty = false := by simpa using hs
    rcases hk with rfl | rfl
    all_goals
      go_enter Tryz.func92, Tryz.ntmps92
      go_wp2
      all_goals
        go_ret
        refine ⟨ret_bool ?_, (Below.refl _ _).alloc (Nat.le_refl _) _⟩
        rw [HR.out, Bool.eq_iff_iff]
        simp [*]

theorem form_dot (i : Int) (s : ByteArray) (b o : Nat) (n c : Nat) (kl : Int) (h2 : 2 ≤ n) (hnc : n ≤ c) (hm : c ≤ maxLen) (r : Bool) (hr : r = (decide (i = 0) && s.data.toList.isEmpty && (decide (kl ≠ 5) && decide (kl ≠ 6)))) (w : World)
    (hc : w.cell? ⟨b, o + (n - 1) * 4, none⟩ = some (.int .i64 kl)) :
    Calls Tryz.prog 92 #[.agg #[.int .i64 6, .int .i64 i, .string s, .slice (some ⟨b, o, none⟩) n c]] w fun e w' => e = .returned (.bool r) ∧ Below w.heap.size w w' := by
  have hb : b < w.heap.size := World.block_lt_of_cell? _ _ hc
  rw [← ByteArray.toList_eq] at hr
  have HR := Lib.hid hr
  clear hr
  unfold maxLen at hm
  have hn0 : ((n : Int) == 0) = false := by simp; omega
  have hn2 : (2 : Int) ≤ (n : Int) := by omega
  by_cases hi : i = 0
  · subst hi
    by_cases hs : s.toList = []
    · have hse : s.toList.isEmpty = true := by simp [hs]
      have hf : r = (decide (kl ≠ 5) && decide (kl ≠ 6)) := by rw [HR.out, hse]; simp
      have HF := Lib.hid hf
      clear hf
      by_cases k5 : kl = 5
      · subst k5
        go_enter Tryz.func92, Tryz.ntmps92
        go_wp2
        go_ret
        exact ⟨ret_bool (by rw [HF.out]; rfl), (Below.refl _ _).alloc (Nat.le_refl _) _⟩
      · have e5 : (kl != 5) = true := by simpa using k5
        have e5' : (kl == 5) = false := by simpa using k5
        by_cases k6 : kl = 6
        · subst k6
          go_enter Tryz.func92, Tryz.ntmps92
          go_wp2
          go_ret
          exact ⟨ret_bool (by rw [HF.out]; rfl), (Below.refl _ _).alloc (Nat.le_refl _) _⟩
        · have e6 : (kl != 6) = true := by simpa using k6
          have e6' : (kl == 6) = false := by simpa using k6
          have hf2 : r = true := by rw [HF.out]; simp [k5, k6]
          have HF2 := Lib.hid hf2
          clear hf2
          go_enter Tryz.func92, Tryz.ntmps92
          go_wp2
          go_ret
          exact ⟨ret_bool HF2.out.symm, (Below.refl _ _).alloc (Nat.le_refl _) _⟩
    · have hse : s.toList.isEmpty = false := by simpa using hs
      have hf : r = false := by rw [HR.out, hse]; simp
      have HF := Lib.hid hf
      clear hf
      go_enter Tryz.func92, Tryz.ntmps92
      go_wp2
      go_ret
      exact ⟨ret_bool HF.out.symm, (Below.refl _ _).alloc (Nat.le_refl _) _⟩
  · have hi' : (i == 0) = false := by simpa using hi
    have hf : r = false := by rw [HR.out]; simp [hi]
    have HF := Lib.hid hf
    clear hf
    go_enter Tryz.func92, Tryz.ntmps92
    go_wp2
    all_goals
      go_ret
      exact ⟨ret_bool HF.out.symm, (Below.refl _ _).alloc (Nat.le_refl _) _⟩

theorem form_few (i : Int) (s : ByteArray) (a : Option Addr) (n c : Nat) (h2 : n < 2) (w : World) :
    Calls Tryz.prog 92 #[.agg #[.int .i64 6, .int .i64 i, .string s, .slice a n c]] w fun e w' => e = .returned (.bool false) ∧ Below w.heap.size w w' := by
  have h2' : ¬ (2 : Int) ≤ (n : Int) := by omega
  go_enter Tryz.func92, Tryz.ntmps92
  go_wp2
  all_goals
    go_ret
    exact ⟨rfl, (Below.refl _ _).alloc (Nat.le_refl _) _⟩

theorem form_other (k i : Int) (s : ByteArray) (a : Option Addr) (n c : Nat) (hk : k < 0 ∨ 7 < k) (w : World) :
    Calls Tryz.prog 92 #[.agg #[.int .i64 k, .int .i64 i, .string s, .slice a n c]] w fun e w' => e = .returned (.bool false) ∧ Below w.heap.size w w' := by
  have b0 : (k == 0) = false := by simp; omega
  have b1 : (k == 1) = false := by simp; omega
  have b2 : (k == 2) = false := by simp; omega
  have b3 : (k == 3) = false := by simp; omega
  have b4 : (k == 4) = false := by simp; omega
  have b5 : (k == 5) = false := by simp; omega
  have b6 : (k == 6) = false := by simp; omega
  have b7 : (k == 7) = false := by simp; omega
  go_enter Tryz.func92, Tryz.ntmps92
  go_wp2
  all_goals
    go_ret
    exact ⟨rfl, (Below.refl _ _).alloc (Nat.le_refl _) _⟩

theorem form_any (k i : Int) (s : ByteArray) (l : List PT) (v : Value) (B : Nat) (w : World) (hs : s.size ≤ maxLen) (hv : RepS w B l v) :
    Calls Tryz.prog 92 #[.agg #[.int .i64 k, .int .i64 i, .string s, v]] w fun e w' => e = .returned (.bool (formB k i s.data.toList l)) ∧ Below w.heap.size w w' := by
  obtain ⟨a, c, rfl, hl, hm, hn, hr⟩ := hv
  rcases kind_ways k with h | h | h | h | h | h
  · rcases h with rfl | rfl | rfl
    · exact form_num _ i s a l.length c 0 1 _ (.inl ⟨rfl, rfl, rfl⟩) (by simp [formB]) w
    · exact form_num _ i s a l.length c _ _ _ (.inr (.inl ⟨rfl, rfl, rfl⟩)) (by simp [formB]) w
    · exact form_num _ i s a l.length c _ _ _ (.inr (.inr ⟨rfl, rfl, rfl⟩)) (by simp [formB]) w
  · subst h; exact form_text i s a l.length c _ hs (by simp [formB]) w
  · subst h; exact form_name i s a l.length c _ hs (by simp [formB]) w
  · exact form_items k i s a l.length c _ h (by rcases h with rfl | rfl <;> simp [formB]) w
  · subst h
    by_cases h2 : 2 ≤ l.length
    · rcases hr with rfl | ⟨b', o', rfl, hb, hr⟩
      · simp at h2
      · rw [formB_6 _ _ _ h2]
        exact form_dot i s b' o' l.length c _ h2 hl hm _ rfl w (kind_cell (repAt_get hr (l.length - 1) (by omega)))
    · rw [formB_not6 _ _ _ (by omega)]
      exact form_few i s a l.length c (by omega) w
  · have : formB k i s.data.toList l = false := by
      unfold formB
      repeat (rw [if_neg (by omega)])
    rw [this]
    exact form_other k i s a l.length c h w
end Go.Proofs.YtiamojpeedllbaaGreatDoor.Dat

/-
What is wrong first in a datum: the document's Check, for every datum. No condition.
-/
namespace Go.Proofs.YtiamojpeedllbaaGreatDoor.Dat
open Go.ChangeShapes Go.WideShapes Go.ChangeAt Go.RowKit
set_option maxRecDepth 100000

def RCheckOk (t : PT) : Prop := ∀ (w : World) (B n deep : Nat) (v : Value), RepV w B t v → B ≤ w.heap.size → n ≤ 4096 → deep ≤ 32 →
  Calls Tryz.prog 63 #[t.val v, .int .i64 (deep : Int), .int .i64 (n : Int)] w fun e w' =>
    e = .returned (.tuple #[.int .i64 ((chk deep n t).1 : Int), .int .i64 (chk deep n t).2]) ∧ Below w.heap.size w w'

theorem rcheck_many (k i : Int) (s : ByteArray) (v : Value) (deep : Nat) (w : World) :
    Calls Tryz.prog 63 #[.agg #[.int .i64 k, .int .i64 i, .string s, v], .int .i64 (deep : Int), .int .i64 ((4096 : Nat) : Int)] w fun e w' =>
      e = .returned (.tuple #[.int .i64 ((4096 : Nat) : Int), .int .i64 22]) ∧ Below w.heap.size w w' := by
  go_enter Tryz.func63, Tryz.ntmps63
  go_wp2
  go_ret2
  exact ⟨rfl, (Below.refl _ _).alloc (Nat.le_refl _) _⟩

theorem rcheck_deep (k i : Int) (s : ByteArray) (a : Option Addr) (m c : Nat) (n : Nat) (w : World) (hn : n < 4096) (hk : nestB k = true) :
    Calls Tryz.prog 63 #[.agg #[.int .i64 k, .int .i64 i, .string s, .slice a m c], .int .i64 ((32 : Nat) : Int), .int .i64 (n : Int)] w fun e w' =>
      e = .returned (.tuple #[.int .i64 ((n + 1 : Nat) : Int), .int .i64 21]) ∧ Below w.heap.size w w' := by
  have H := Lib.hid (fun W => nested_any k i s (.slice a m c) _ hk.symm W)
  clear hk
  have hn' : ((n : Int) == 4096) = false := by simp; omega
  go_enter Tryz.func63, Tryz.ntmps63
  go_wp2_with fail
  refine (H.out _).mono ?_
  rintro e w1 ⟨rfl, hb1⟩
  go_wp2
  go_ret2
  exact ⟨rfl, ((Below.refl w.heap.size w).alloc (Nat.le_refl _) _).trans (hb1.mono (by simp))⟩

theorem rcheck_form (k i : Int) (s : ByteArray) (l : List PT) (v : Value) (deep n : Nat) (w : World) (B : Nat) (hs : s.size ≤ maxLen) (hv : RepS w B l v) (hB : B ≤ w.heap.size) (hn : n < 4096) (hk : nestB k = false ∨ nestB k = true ∧ deep < 32)
    (hf : formB k i s.data.toList l = false) :
    Calls Tryz.prog 63 #[.agg #[.int .i64 k, .int .i64 i, .string s, v], .int .i64 (deep : Int), .int .i64 (n : Int)] w fun e w' =>
      e = .returned (.tuple #[.int .i64 ((n + 1 : Nat) : Int), .int .i64 20]) ∧ Below w.heap.size w w' := by
  have C : ∀ W, Below w.heap.size w W → Calls Tryz.prog 92 #[.agg #[.int .i64 k, .int .i64 i, .string s, v]] W fun e w' => e = .returned (.bool false) ∧ Below W.heap.size W w' := fun W hb => by
    have := form_any k i s l v B W hs (hv.below hb hB)
    rwa [hf] at this
  have HF := Lib.hid C
  obtain ⟨a, c, rfl, _⟩ := hv
  clear hf C
  have hn' : ((n : Int) == 4096) = false := by simp; omega
  have hd' : nestB k = true → ((deep : Int) == 32) = false := by
    intro h
    rcases hk with h' | ⟨_, h'⟩
    · rw [h] at h'; cases h'
    · simp; omega
  cases hkk : nestB k
  all_goals
    have H := Lib.hid (fun W => nested_any k i s (.slice a l.length c) _ hkk.symm W)
    try have hdd := hd' hkk
    clear hkk hd' hk
    go_enter Tryz.func63, Tryz.ntmps63
    go_wp2_with fail
    refine (H.out _).mono ?_
    rintro e w1 ⟨rfl, hb1⟩
    have g0 := box_cell hb1 0 _ rfl
    have g1 := box_cell hb1 1 _ rfl
    have g2 := box_cell hb1 2 _ rfl
    have g3 := box_cell hb1 3 _ rfl
    have hsz := hb1.size
    simp at hsz g0 g1 g2 g3
    go_wp2_with fail
    refine (HF.out _ (((Below.refl w.heap.size w).alloc (Nat.le_refl _) _).trans (hb1.mono (by simp)))).mono ?_
    rintro e w2 ⟨rfl, hb2⟩
    go_wp2
    go_ret2
    exact ⟨rfl, (((Below.refl w.heap.size w).alloc (Nat.le_refl _) _).trans (hb1.mono (by simp))).trans (hb2.mono (by omega))⟩

theorem ret_two {a b c d : Int} (h : a = b) (g : c = d) : Ending.returned (.tuple #[.int .i64 a, .int .i64 c]) = .returned (.tuple #[.int .i64 b, .int .i64 d]) := by rw [h, g]

theorem rcheck_none (k i : Int) (s : ByteArray) (a : Option Addr) (c : Nat) (deep n : Nat) (w : World) (B : Nat) (hs : s.size ≤ maxLen) (hv : RepS w B [] (.slice a 0 c)) (hB : B ≤ w.heap.size) (hn : n < 4096) (hk : nestB k = false ∨ nestB k = true ∧ deep < 32)
    (hf : formB k i s.data.toList [] = true) :
    Calls Tryz.prog 63 #[.agg #[.int .i64 k, .int .i64 i, .string s, .slice a 0 c], .int .i64 (deep : Int), .int .i64 (n : Int)] w fun e w' =>
      e = .returned (.tuple #[.int .i64 ((n + 1 : Nat) : Int), .int .i64 0]) ∧ Below w.heap.size w w' := by
  have C : ∀ W, Below w.heap.size w W → Calls Tryz.prog 92 #[.agg #[.int .i64 k, .int .i64 i, .string s, .slice a 0 c]] W fun e w' => e = .returned (.bool true) ∧ Below W.heap.size W w' := fun W hb => by
    have := form_any k i s [] _ B W hs (hv.below hb hB)
    rwa [hf] at this
  have HF := Lib.hid C
  clear hf C hv
  have hn' : ((n : Int) == 4096) = false := by simp; omega
  have hd' : nestB k = true → ((deep : Int) == 32) = false := by
    intro h
    rcases hk with h' | ⟨_, h'⟩
    · rw [h] at h'; cases h'
    · simp; omega
  cases hkk : nestB k
  all_goals
    have H := Lib.hid (fun W => nested_any k i s (.slice a 0 c) _ hkk.symm W)
    try have hdd := hd' hkk
    clear hkk hd' hk
    go_enter Tryz.func63, Tryz.ntmps63
    go_wp2_with fail
    refine (H.out _).mono ?_
    rintro e w1 ⟨rfl, hb1⟩
    have g0 := box_cell hb1 0 _ rfl
    have g1 := box_cell hb1 1 _ rfl
    have g2 := box_cell hb1 2 _ rfl
    have g3 := box_cell hb1 3 _ rfl
    have hsz := hb1.size
    simp at hsz g0 g1 g2 g3
    go_wp2_with fail
    refine (HF.out _ (((Below.refl w.heap.size w).alloc (Nat.le_refl _) _).trans (hb1.mono (by simp)))).mono ?_
    rintro e w2 ⟨rfl, hb2⟩
    have g3' := (hb2.cell (p := ⟨w.heap.size, 3, none⟩) (by show w.heap.size < _; omega)).trans g3
    clear g3
    go_wp2
    refine wp_loop_rounds 1 ?_
    rw [rounds_succ]
    go_wp2
    go_ret2
    exact ⟨rfl, (((Below.refl w.heap.size w).alloc (Nat.le_refl _) _).trans (hb1.mono (by simp))).trans (hb2.mono (by omega))⟩

theorem rcheck_loop (k i : Int) (s : ByteArray) (l : List PT) (ih : ∀ t ∈ l, RCheckOk t) (b o c : Nat) (deep n : Nat) (w : World) (B : Nat) (hs : s.size ≤ maxLen) (hl : l.length ≤ c) (hm : c ≤ maxLen) (hb : b < B) (hr : RepAt w B l b o) (hB : B ≤ w.heap.size) (hn : n < 4096) (hk : nestB k = true) (hd : deep < 32)
    (hf : formB k i s.data.toList l = true) :
    Calls Tryz.prog 63 #[.agg #[.int .i64 k, .int .i64 i, .string s, .slice (some ⟨b, o, none⟩) l.length c], .int .i64 (deep : Int), .int .i64 (n : Int)] w fun e w' =>
      e = .returned (.tuple #[.int .i64 ((chkL (deep + 1) (n + 1) l).1 : Int), .int .i64 (chkL (deep + 1) (n + 1) l).2]) ∧ Below w.heap.size w w' := by
  have hv : RepS w B l (.slice (some ⟨b, o, none⟩) l.length c) := ⟨_, c, rfl, hl, hm, (fun h => by cases h), .inr ⟨b, o, rfl, hb, hr⟩⟩
  have C : ∀ W, Below w.heap.size w W → Calls Tryz.prog 92 #[.agg #[.int .i64 k, .int .i64 i, .string s, .slice (some ⟨b, o, none⟩) l.length c]] W fun e w' => e = .returned (.bool true) ∧ Below W.heap.size W w' := fun W hb => by
    have := form_any k i s l _ B W hs (hv.below hb hB)
    rwa [hf] at this
  have HF := Lib.hid C
  have H := Lib.hid (fun W => nested_any k i s (.slice (some ⟨b, o, none⟩) l.length c) _ hk.symm W)
  have HR := Lib.hid hr
  have IH := Lib.hid ih
  unfold maxLen at hm
  clear hf C hv hk hr ih
  have hn' : ((n : Int) == 4096) = false := by simp; omega
  have hd' : ((deep : Int) == 32) = false := by simp; omega
  go_enter Tryz.func63, Tryz.ntmps63
  go_wp2_with fail
  refine (H.out _).mono ?_
  rintro e w1 ⟨rfl, hb1⟩
  have g0 := box_cell hb1 0 _ rfl
  have g1 := box_cell hb1 1 _ rfl
  have g2 := box_cell hb1 2 _ rfl
  have g3 := box_cell hb1 3 _ rfl
  have hsz := hb1.size
  simp at hsz g0 g1 g2 g3
  go_wp2_with fail
  refine (HF.out _ (((Below.refl w.heap.size w).alloc (Nat.le_refl _) _).trans (hb1.mono (by simp)))).mono ?_
  rintro e w2 ⟨rfl, hb2⟩
  have g3' := (hb2.cell (p := ⟨w.heap.size, 3, none⟩) (by show w.heap.size < _; omega)).trans g3
  have hB2 : Below w.heap.size w w2 := (((Below.refl w.heap.size w).alloc (Nat.le_refl _) _).trans (hb1.mono (by simp))).trans (hb2.mono (by omega))
  have hsz2 : w.heap.size < w2.heap.size := by have := hb2.size; omega
  clear g0 g1 g2 g3 hb1 hb2 hsz w1
  have HG := Lib.hid g3'
  clear g3'
  go_wp2
  go_loopw [2, 8, 9] (fun n' e' i' wr => ∃ j : Nat, j ≤ l.length ∧ i' = .int .i64 j ∧ n' = .int .i64 ((chkL (deep + 1) (n + 1) (l.take j)).1 : Int) ∧ e' = .int .i64 0 ∧ (chkL (deep + 1) (n + 1) (l.take j)).2 = 0 ∧ wr.cell? ⟨w.heap.size, 3, none⟩ = some (.slice (some ⟨b, o, none⟩) l.length c) ∧ Below w.heap.size w wr ∧ w.heap.size < wr.heap.size)
    (fun _ _ i' _ => l.length - (intOf i').toNat)
  case atStart => exact ⟨0, Nat.zero_le _, rfl, rfl, rfl, rfl, HG.out, hB2, hsz2⟩
  case round =>
    obtain ⟨j, hj, rfl, rfl, rfl, h0, hg3, hbr, hszr⟩ := hrel
    by_cases hlt' : j < l.length
    · obtain ⟨k', i', s', m, v', hjl, ok1, ok2, hs', d0, d1, d2, d3, hv'⟩ := repAt_item (HR.out.below hbr hB hb) hlt'
      have hle := chkL_le (deep + 1) (n + 1) (by omega) (l.take j)
      have hstep := chkL_take (deep + 1) (n + 1) l j hlt' h0
      have hbs : b < wr.heap.size := World.block_lt_of_cell? _ _ d0
      have H0 := Lib.hid h0
      have HS := Lib.hid hstep
      have HJ := Lib.hid hjl
      have HV := Lib.hid hv'
      obtain ⟨a', c', rfl, _⟩ := hv'
      clear h0 hstep hjl
      have hL : RCheckOk (.mk k' i' s' m) := by
        have := IH.out l[j] (List.getElem_mem _)
        rwa [HJ.out] at this
      have C := hL wr B (chkL (deep + 1) (n + 1) (l.take j)).1 (deep + 1) _ ⟨ok1, ok2, hs', HV.out⟩ (by omega) hle.2 (by omega)
      rw [← HJ.out, ← HS.out, HJ.out] at C
      by_cases hz : (chkL (deep + 1) (n + 1) (l.take (j + 1))).2 = 0
      · have HZ := Lib.hid hz
        clear hz
        have HC := Lib.hid C
        clear C
        go_wp2_with fail
        refine (HC.out).mono ?_
        rintro e w3 ⟨he, hb3⟩
        rw [HZ.out] at he
        subst he
        go_wp2
        go_roundw
        case rel => exact ⟨j + 1, by omega, by go_num, rfl, rfl, HZ.out, (hb3.cell (p := ⟨w.heap.size, 3, none⟩) (by show w.heap.size < _; omega)).trans hg3, hbr.trans (hb3.mono (by omega)), by have := hb3.size; omega⟩
        case measure => simp [intOf]; omega
      · have HW := Lib.hid (chkL_whole (deep + 1) (n + 1) l (j + 1) hz)
        have hzb : ((chkL (deep + 1) (n + 1) (l.take (j + 1))).2 != 0) = true := by simpa using hz
        rw [← HW.out] at C hzb
        have HC := Lib.hid C
        clear C hz
        go_wp2_with fail
        refine (HC.out).mono ?_
        rintro e w3 ⟨rfl, hb3⟩
        go_wp2
        go_ret2
        exact ⟨rfl, hbr.trans (hb3.mono (by omega))⟩
    · obtain rfl : j = l.length := by omega
      rw [List.take_length] at h0 ⊢
      have H0 := Lib.hid h0
      clear h0
      go_wp2
      go_ret2
      exact ⟨ret_two rfl H0.out.symm, hbr⟩

theorem rcheck_step (k i : Int) (s : ByteArray) (l : List PT) (ih : ∀ t ∈ l, RCheckOk t) : RCheckOk (.mk k i s l) := by
  intro w B n deep v hv hB hn hd
  obtain ⟨ok1, ok2, hs, hv⟩ := hv
  rw [chk]
  by_cases h1 : n = 4096
  · subst h1
    rw [if_pos rfl]
    exact rcheck_many k i s v deep w
  rw [if_neg h1]
  by_cases h2 : (nestB k && decide (deep = 32)) = true
  · rw [if_pos h2]
    simp only [Bool.and_eq_true, decide_eq_true_eq] at h2
    obtain ⟨hk, rfl⟩ := h2
    obtain ⟨a, c, rfl, _⟩ := hv
    exact rcheck_deep k i s a l.length c n w (by omega) hk
  rw [if_neg h2]
  have hk : nestB k = false ∨ nestB k = true ∧ deep < 32 := by
    cases hb : nestB k
    · exact .inl rfl
    · right
      simp [hb] at h2
      exact ⟨rfl, by omega⟩
  by_cases h3 : formB k i s.data.toList l = true
  · rw [if_pos h3]
    by_cases h0 : l = []
    · subst h0
      obtain ⟨a, c, rfl, hl, hm, hna, hr⟩ := hv
      rw [chkL]
      exact rcheck_none k i s a c deep n w B hs ⟨a, c, rfl, hl, hm, hna, hr⟩ hB (by omega) hk h3
    · obtain ⟨a, c, rfl, hl, hm, hna, hr⟩ := hv
      rcases hr with rfl | ⟨b, o, rfl, hb, hr⟩
      · exact absurd rfl h0
      · rcases hk with hk | ⟨hk, hd'⟩
        · exact absurd (form_leaf hk h3) h0
        · exact rcheck_loop k i s l ih b o c deep n w B hs hl hm hb hr hB (by omega) hk hd' h3
  · rw [if_neg h3]
    exact rcheck_form k i s l v deep n w B hs hv hB (by omega) hk (by simpa using h3)

mutual
theorem rcheck_pt : ∀ t : PT, RCheckOk t
  | .mk k i s l => rcheck_step k i s l (rcheck_all l)
theorem rcheck_all : ∀ l : List PT, ∀ t ∈ l, RCheckOk t
  | [], t, h => by cases h
  | u :: l, t, h => (List.mem_cons.1 h).elim (fun e => e ▸ rcheck_pt u) (fun h => rcheck_all l t h)
end

theorem rcheck_any (t : PT) (v : Value) (w : World) (B : Nat) (hv : RepV w B t v) (hB : B ≤ w.heap.size) :
    Calls Tryz.prog 42 #[t.val v] w fun e w' => e = .returned (.int .i64 (checkB t)) ∧ Below w.heap.size w w' := by
  match t with
  | .mk k i s l =>
    have L := rcheck_pt (.mk k i s l)
    have HV := Lib.hid hv
    obtain ⟨a, c, rfl, _⟩ := hv.2.2.2
    clear hv
    show Calls Tryz.prog 42 #[.agg #[.int .i64 k, .int .i64 i, .string s, .slice a l.length c]] w _
    have C := fun o : Obj => L (w.alloc o) B 0 0 _ ⟨HV.out.1, HV.out.2.1, HV.out.2.2.1, HV.out.2.2.2.below ((Below.refl w.heap.size w).alloc (Nat.le_refl _) _) hB⟩ (by simp; omega) (by omega) (by omega)
    have HC := Lib.hid C
    clear C L
    go_enter Tryz.func42, Tryz.ntmps42
    go_wp2_with fail
    refine (HC.out _).mono ?_
    rintro e w1 ⟨rfl, hb1⟩
    go_wp2
    go_ret
    exact ⟨rfl, ((Below.refl w.heap.size w).alloc (Nat.le_refl _) _).trans (hb1.mono (by simp))⟩
end Go.Proofs.YtiamojpeedllbaaGreatDoor.Dat
