/-
The document's text of a string: Quoted: what it answers. A string of at most 1000000 bytes.
-/
import Derived.Test.YtphgcdmjnmopiaaDoorG2
namespace Go.Proofs.YtphgcdmjnmopiaaDoor
open Go.ChangeShapes Go.WideShapes Go.ChangeAt Go.RowKit

theorem one_slice (s : ByteArray) (k : Nat) (h : k < s.size) : (s.extract k (k + 1)).data.toList = [s[k]] := by
  have hl := len_data s
  rw [Lib.extract_data, show k + 1 - k = 1 by omega]
  rw [List.drop_eq_getElem_cons (by omega)]
  rfl

set_option maxHeartbeats 1000000 in
set_option maxRecDepth 100000 in
theorem rquoted_any (s : ByteArray) (hs : s.size ≤ 1000000) (w : World) : Calls Tryd.prog 34 #[.string s] w fun e w' => e = .returned (.string ⟨(quoteT s.data.toList).toArray⟩) ∧ Below w.heap.size w w' := by
  have HL := Lib.hid (len_data s)
  go_enter Tryd.func34, Tryd.ntmps34
  go_wp2
  go_loopw [3, 4, 5] (fun x ix cx wr => ∃ (k : Nat) (out : ByteArray), k ≤ s.size ∧ ix = .int .i64 k ∧ x = .string out ∧ out.data.toList = [34] ++ qbytesT (s.data.toList.take k) ∧ Below w.heap.size w wr) (fun _ ix _ _ => s.size - (intOf ix).toNat)
  case atStart => exact ⟨0, _, Nat.zero_le _, rfl, rfl, rfl, Below.refl _ _⟩
  case round =>
    obtain ⟨k, out, hk, rfl, rfl, ho, hbr⟩ := hrel
    have HO := Lib.hid ho
    have hsz : out.size ≤ 4000100 := by
      have h1 := qbytesT_len (s.data.toList.take k)
      have h2 := congrArg List.length ho
      rw [len_data] at h2
      simp only [List.length_append, List.length_cons, List.length_nil, List.length_take] at h1 h2
      omega
    clear ho
    by_cases hlt : k < s.size
    · have HS := Lib.hid (one_slice s k hlt)
      have HT := Lib.hid (qbytesT_take s.data.toList k (by rw [HL.out]; exact hlt))
      have hlt2 : k + 1 ≤ s.size := hlt
      have hfin : ∀ x : ByteArray, x.data.toList = qbyteT s[k] → (out ++ x).data.toList = [34] ++ qbytesT (s.data.toList.take (k + 1)) := by
        intro x hx
        rw [HT.out]
        simp only [ByteArray.data_append, Array.toList_append]
        rw [HO.out, hx, List.append_assoc]
        rfl
      have HF := Lib.hid hfin
      clear hfin
      have hsx : (s.extract k (k + 1)).size ≤ 1 := by rw [← len_data, HS.out]; simp
      by_cases hq : s[k].toNat = 34 ∨ s[k].toNat = 92
      · have ht : qbyteT s[k] = [92] ++ [s[k]] := by rw [qbyteT, if_pos hq]; rfl
        have HQ := Lib.hid ht
        clear ht
        rcases hq with hq | hq
        · have b34 : ((s[k].toNat : Int) == 34) = true := by simp; omega
          clear hq
          go_wp2
          go_roundw
          case rel => exact ⟨k + 1, _, by omega, by go_num, rfl, HF.out _ (by rw [HQ.out]; simp only [ByteArray.data_append, Array.toList_append]; rw [HS.out]), hbr⟩
          case measure => simp [intOf]; omega
        · have b34 : ((s[k].toNat : Int) == 34) = false := by simp; omega
          have b92 : ((s[k].toNat : Int) == 92) = true := by simp; omega
          clear hq
          go_wp2
          go_roundw
          case rel => exact ⟨k + 1, _, by omega, by go_num, rfl, HF.out _ (by rw [HQ.out]; simp only [ByteArray.data_append, Array.toList_append]; rw [HS.out]), hbr⟩
          case measure => simp [intOf]; omega
      · have b34 : ((s[k].toNat : Int) == 34) = false := by simp; omega
        have b92 : ((s[k].toNat : Int) == 92) = false := by simp; omega
        by_cases h10 : s[k].toNat = 10
        · have b10 : ((s[k].toNat : Int) == 10) = true := by simp; omega
          have HQ := Lib.hid (show qbyteT s[k] = [92, 110] by rw [qbyteT, if_neg hq, if_pos h10])
          clear h10 hq
          go_wp2
          go_roundw
          case rel => exact ⟨k + 1, _, by omega, by go_num, rfl, HF.out _ (by rw [HQ.out]), hbr⟩
          case measure => simp [intOf]; omega
        · have b10 : ((s[k].toNat : Int) == 10) = false := by simp; omega
          by_cases hp : 32 ≤ s[k].toNat ∧ s[k].toNat ≤ 126
          · have HQ := Lib.hid (show qbyteT s[k] = [s[k]] by rw [qbyteT, if_neg hq, if_neg h10, if_pos hp])
            obtain ⟨p1, p2⟩ := hp
            have p1' : ¬ (s[k].toNat : Int) < 32 := by omega
            have p2' : ¬ (126 : Int) < (s[k].toNat : Int) := by omega
            clear h10 hq
            go_wp2
            go_roundw
            case rel => exact ⟨k + 1, _, by omega, by go_num, rfl, HF.out _ (by rw [HQ.out]; exact HS.out), hbr⟩
            case measure => simp [intOf]; omega
          · have HQ := Lib.hid (show qbyteT s[k] = [92] ++ hexT s[k] by rw [qbyteT, if_neg hq, if_neg h10, if_neg hp]; rfl)
            have hl2 : (twoT s[k]).length ≤ 2 := Nat.le_refl _
            clear h10 hq
            by_cases p1 : 32 ≤ s[k].toNat
            · have p1' : ¬ (s[k].toNat : Int) < 32 := by omega
              have p2' : (126 : Int) < (s[k].toNat : Int) := by omega
              clear hp
              go_wp2_with fail
              refine (two_any s[k] _).mono ?_
              rintro e w2 ⟨rfl, hb2⟩
              have hbr2 : Below w.heap.size w w2 := hbr.trans (hb2.mono hbr.size)
              clear hb2
              go_wp2
              go_roundw
              case rel => exact ⟨k + 1, _, by omega, by go_num, rfl, HF.out _ (by rw [HQ.out]; simp only [ByteArray.data_append, Array.toList_append]; rfl), hbr2⟩
              case measure => simp [intOf]; omega
            · have p1' : (s[k].toNat : Int) < 32 := by omega
              clear hp
              go_wp2_with fail
              refine (two_any s[k] _).mono ?_
              rintro e w2 ⟨rfl, hb2⟩
              have hbr2 : Below w.heap.size w w2 := hbr.trans (hb2.mono hbr.size)
              clear hb2
              go_wp2
              go_roundw
              case rel => exact ⟨k + 1, _, by omega, by go_num, rfl, HF.out _ (by rw [HQ.out]; simp only [ByteArray.data_append, Array.toList_append]; rfl), hbr2⟩
              case measure => simp [intOf]; omega
    · obtain rfl : k = s.size := by omega
      have hfin : (out ++ ByteArray.mk #[34]).data.toList = quoteT s.data.toList := by
        simp only [ByteArray.data_append, Array.toList_append]
        rw [HO.out, List.take_of_length_le (by rw [HL.out]; omega), quoteT, List.append_assoc]
      have HFI := Lib.hid hfin
      clear hfin
      go_wp2
      go_ret
      exact ⟨ret_str HFI.out, hbr⟩
end Go.Proofs.YtphgcdmjnmopiaaDoor
