/-
What a teller of package data writes of a string, of a list, of a datum. A text of at most 2^47 bytes.
-/
import Derived.Test.YtookdlbgadfbgaaDoorD14
namespace Go.Proofs.YtookdlbgadfbgaaDoor.Dat
open Go.ChangeShapes Go.WideShapes Go.ChangeAt Go.RowKit
set_option maxRecDepth 100000

def qbytesT (s : List UInt8) : List UInt8 := s.flatMap qbyteT
/-- A string's text. -/
def quoteT (s : List UInt8) : List UInt8 := [34] ++ (qbytesT s ++ [34])
def quoteS (bare : Bool) (s : List UInt8) : List UInt8 := if bare then s else quoteT s

theorem hexT_len (c : UInt8) : (hexT c).length = 3 := rfl
theorem qbyteT_len (c : UInt8) : (qbyteT c).length ≤ 4 := by
  unfold qbyteT
  split
  · simp
  split
  · simp
  split
  · simp
  · simp [hexT_len]
theorem qbytesT_len (s : List UInt8) : (qbytesT s).length ≤ 4 * s.length := by
  induction s with
  | nil => simp [qbytesT]
  | cons c s ih =>
    simp only [qbytesT, List.flatMap_cons, List.length_append, List.length_cons] at ih ⊢
    have := qbyteT_len c
    omega
theorem qbytesT_take (s : List UInt8) (k : Nat) (h : k < s.length) : qbytesT (s.take (k + 1)) = qbytesT (s.take k) ++ qbyteT s[k] := by
  rw [qbytesT, List.take_succ_eq_append_getElem h, List.flatMap_append]; simp [qbytesT]

theorem quoted_any (tb : Nat) (bare : Bool) (l : List UInt8) (s : ByteArray) (w : World) (h : IsTeller tb bare l w) (hs : s.size ≤ maxLen) (hlen : l.length + 4 * s.size + 2 ≤ 140737488355328) :
    Calls Tryd.prog 48 #[.pointer (some ⟨tb, 0, none⟩), .string s] w (Wrote tb bare (l ++ quoteS bare s.data.toList) w) := by
  have hc2 := h.cells.1
  unfold maxLen at hs
  cases bare
  · have HL := Lib.hid (len_data s)
    go_enter Tryd.func48, Tryd.ntmps48
    go_wp2_with fail
    refine (putByte tb false l _ 34 rfl _ h (by omega)).mono ?_
    rintro e w1 ⟨rfl, h1, hb1⟩
    clear h hc2
    go_wp2
    go_loopw [20] (fun i wr => ∃ k : Nat, k ≤ s.size ∧ i = .int .i64 k ∧ IsTeller tb false (l ++ [34] ++ qbytesT (s.data.toList.take k)) wr ∧ Below tb w wr) (fun i _ => s.size - (intOf i).toNat)
    case atStart => exact ⟨0, Nat.zero_le _, rfl, by simpa [qbytesT] using h1, hb1⟩
    case round =>
      obtain ⟨k, hk, rfl, hT, hbr⟩ := hrel
      have hle : (qbytesT (s.data.toList.take k)).length ≤ 4 * k := by
        have := qbytesT_len (s.data.toList.take k)
        rw [List.length_take] at this
        omega
      by_cases hlt : k < s.size
      · have HT := Lib.hid (qbytesT_take s.data.toList k (by rw [HL.out]; exact hlt))
        go_wp2_with fail
        refine (qbyte_any tb false _ _ _ hT (by simp; omega)).mono ?_
        rintro e w2 ⟨rfl, h2, hb2⟩
        go_wp2
        go_roundw
        case rel => exact ⟨k + 1, by omega, by go_num, by rw [HT.out, ← List.append_assoc]; exact h2, hbr.trans hb2⟩
        case measure => simp [intOf]; omega
      · obtain rfl : k = s.size := by omega
        rw [List.take_of_length_le (by rw [HL.out]; omega)] at hT hle
        go_wp2_with fail
        refine (putByte tb false _ _ 34 rfl _ hT (by simp; omega)).mono ?_
        rintro e w2 ⟨rfl, h2, hb2⟩
        go_wp2
        go_end0
        refine ⟨rfl, ?_, hbr.trans hb2⟩
        rw [List.append_assoc, List.append_assoc] at h2
        exact h2
  · go_enter Tryd.func48, Tryd.ntmps48
    go_wp2_with fail
    refine (putText tb true _ _ s.data.toList rfl _ h (by rw [len_data]; omega)).mono ?_
    rintro e w2 ⟨rfl, h2, hb2⟩
    go_wp2
    refine bodyPost_ret (results_none rfl _ _ _) rfl ?_
    exact ⟨rfl, h2, hb2⟩
end Go.Proofs.YtookdlbgadfbgaaDoor.Dat
