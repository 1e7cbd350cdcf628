/-
Contracts of package lex's small functions: isNameByte, wordSize, remarkEnd, goOver: what each returns, for every string. No condition.
-/
import Derived.Test.YtiamojpeedllbaaGreatDoorS2
namespace Go.Proofs.YtiamojpeedllbaaGreatDoor
open Go.ChangeShapes Go.WideShapes Go.ChangeAt Go.RowKit

theorem ret_i64 {a b : Int} (h : a = b) : Ending.returned (.int .i64 a) = .returned (.int .i64 b) := by rw [h]
theorem name_two : ∀ n : Fin 256, nameB [97, n.val.toUInt8] = nby8 n.val.toUInt8 := by decide +kernel
theorem name_two' (c : UInt8) : nameB [97, c] = nby8 c := by
  have := name_two ⟨c.toNat, c.toNat_lt⟩
  simpa using this

set_option maxRecDepth 100000 in
theorem nameByte_any (c : UInt8) (w : World) : Calls Tryz.prog 77 #[.int .u8 c.toNat] w fun e w' => e = .returned (.bool (nby8 c)) ∧ Below w.heap.size w w' := by
  have hcv := run_convert_bytes_back (P := Tryz.prog) (w.alloc (.cells #[.int .u8 97, .int .u8 c.toNat] 5)) 35 9 5 ⟨w.heap.size, 0, none⟩ 2 [97, c] Tryz.underlying35 Tryz.underlying5 Tryz.underlying9 (fun j hj => by
    match j, hj with
    | 0, _ => simp [Addr.add]
    | 1, _ => simp [Addr.add])
  simp only [List.length_cons, List.length_nil, Nat.zero_add] at hcv
  have C : ∀ W, Calls Tryz.prog 90 #[.string ⟨#[97, c]⟩] W fun e w' => e = .returned (.bool (nby8 c)) ∧ W = w' := fun W => by
    have := name_any ⟨#[97, c]⟩ W (by show 2 ≤ maxLen; decide)
    rwa [show nameB (⟨#[97, c]⟩ : ByteArray).data.toList = nby8 c from name_two' c] at this
  have HC := Lib.hid C
  clear C
  go_enter Tryz.func77, Tryz.ntmps77
  go_wp2_with (go_at_call 90; ((with_reducible refine (HC.out _).mono ?_); rintro e w' ⟨rfl, rfl⟩))
  go_ret
  exact ⟨rfl, (Below.refl _ _).alloc (Nat.le_refl _) _⟩

theorem word_upto {l : List UInt8} {k : Nat} (h : (l.take k).all nby8 = true) (hk : k ≤ l.length) (hs : Stops (l.drop k)) : (wordL l).length = k := by
  have := wordL_app (w := l.take k) (r := l.drop k) h hs
  rw [List.take_append_drop] at this
  rw [this, List.length_take]; omega
theorem stops_at {l : List UInt8} {k : Nat} (hk : k < l.length) (h : nby8 l[k] = false) : Stops (l.drop k) := by
  intro c hc
  rw [List.head?_drop, List.getElem?_eq_getElem hk] at hc
  simp at hc; subst hc; exact h
theorem stops_nil : Stops [] := by intro c hc; cases hc

set_option maxRecDepth 100000 in
theorem wordSize_any (s : ByteArray) (w : World) (hs : s.size ≤ maxLen) :
    Calls Tryz.prog 53 #[.string s] w fun e w' => e = .returned (.int .i64 ((wordL s.data.toList).length : Int)) ∧ Below w.heap.size w w' := by
  unfold maxLen at hs
  have HL := Lib.hid (len_data s)
  go_enter Tryz.func53, Tryz.ntmps53
  go_wp2
  go_loopw [6] (fun i wr => ∃ k : Nat, k ≤ s.size ∧ i = .int .i64 k ∧ (s.data.toList.take k).all nby8 = true ∧ Below w.heap.size w wr) (fun i _ => s.size - (intOf i).toNat)
  case atStart => exact ⟨0, Nat.zero_le _, rfl, rfl, Below.refl _ _⟩
  case round =>
    obtain ⟨k, hk, rfl, hn, hb⟩ := hrel
    by_cases hlt : k < s.size
    · have ht := all_take_succ s.data.toList nby8 k (by rw [HL.out]; exact hlt)
      rw [hn, Bool.true_and] at ht
      have HT := Lib.hid ht
      have HN := Lib.hid hn
      clear hn ht
      have C := nameByte_any s[k] wr
      by_cases hc : nby8 s[k] = true
      · rw [hc] at C
        have H := Lib.hid C
        have HC := Lib.hid hc
        clear C hc
        go_wp2_with fail
        refine H.out.mono ?_
        rintro e w1 ⟨rfl, hb1⟩
        go_wp2
        go_roundw
        case rel => exact ⟨k + 1, by omega, by go_num, HT.out.trans HC.out, hb.trans (hb1.mono hb.size)⟩
        case measure => simp [intOf]; omega
      · have hc' : nby8 s[k] = false := by simpa using hc
        rw [hc'] at C
        have H := Lib.hid C
        have HC := Lib.hid hc'
        clear C hc hc'
        go_wp2_with fail
        refine H.out.mono ?_
        rintro e w1 ⟨rfl, hb1⟩
        go_wp2
        go_ret
        exact ⟨ret_i64 (by rw [word_upto HN.out (by rw [HL.out]; exact hk) (stops_at (by rw [HL.out]; exact hlt) HC.out)]), hb.trans (hb1.mono hb.size)⟩
    · obtain rfl : k = s.size := by omega
      have HN := Lib.hid hn
      clear hn
      go_wp2
      go_ret
      exact ⟨ret_i64 (by rw [word_upto HN.out (by rw [HL.out]; exact Nat.le_refl _) (by rw [List.drop_of_length_le (by rw [HL.out]; exact Nat.le_refl _)]; exact stops_nil)]), hb⟩

/-- How many bytes of a remark. -/
def remL (l : List UInt8) : List UInt8 := l.takeWhile (· != 10)
theorem gap_rem : ∀ l : List UInt8, gapS true l = gapS false (l.drop (remL l).length)
  | [] => by simp [gapS]
  | c :: r => by
    rw [gapS]
    by_cases hc : c = 10
    · subst hc
      rw [if_pos rfl]
      simp [remL, gapS, gapB]
    · rw [if_neg hc, gap_rem r]
      have : (c != 10) = true := by simpa using hc
      simp [remL, this]
theorem rem_upto {l : List UInt8} {k : Nat} (h : (l.take k).all (· != 10) = true) (hk : k ≤ l.length) (hs : ∀ c, (l.drop k).head? = some c → c = 10) : (remL l).length = k := by
  have e : l = l.take k ++ l.drop k := (List.take_append_drop _ _).symm
  have h1 : remL (l.take k ++ l.drop k) = l.take k := by
    unfold remL
    rw [List.takeWhile_append_of_pos (fun a ha => List.all_eq_true.1 h a ha)]
    cases hd : l.drop k with
    | nil => simp
    | cons c r => rw [hs c (by rw [hd]; rfl)]; simp
  rw [e, h1, List.length_take]; omega

set_option maxRecDepth 100000 in
theorem remarkEnd_any (s : ByteArray) (at_ : Nat) (w : World) (hs : s.size ≤ maxLen) (ha : at_ ≤ s.size) :
    Calls Tryz.prog 50 #[.string s, .int .i64 at_] w fun e w' => e = .returned (.int .i64 ((at_ + (remL (s.data.toList.drop at_)).length : Nat) : Int)) ∧ w = w' := by
  unfold maxLen at hs
  have HL := Lib.hid (len_data s)
  go_enter Tryz.func50, Tryz.ntmps50
  go_wp2
  go_loop [1] (fun i => ∃ k : Nat, at_ ≤ k ∧ k ≤ s.size ∧ i = .int .i64 k ∧ ((s.data.toList.drop at_).take (k - at_)).all (· != 10) = true) (fun i => s.size - (intOf i).toNat)
  case atStart => exact ⟨at_, Nat.le_refl _, ha, rfl, by simp⟩
  case round =>
    obtain ⟨k, hak, hk, rfl, hn⟩ := hrel
    by_cases hlt : k < s.size
    · have hlen : k - at_ < (s.data.toList.drop at_).length := by rw [List.length_drop, HL.out]; omega
      have ht := all_take_succ (s.data.toList.drop at_) (· != 10) (k - at_) hlen
      rw [hn, Bool.true_and] at ht
      have hget : (s.data.toList.drop at_)[k - at_] = s[k] := by
        rw [List.getElem_drop]
        show s.data.toList[at_ + (k - at_)]'_ = s.data.toList[k]'(by rw [HL.out]; exact hlt)
        congr 1; omega
      rw [hget, show k - at_ + 1 = k + 1 - at_ by omega] at ht
      have HT := Lib.hid ht
      have HN := Lib.hid hn
      have HG := Lib.hid hget
      clear hn ht hget
      by_cases hc : ((s[k].toNat : Int) != 10) = true
      · have hc' : (s[k] != 10) = true := by
          simp only [bne_iff_ne, ne_eq] at hc ⊢
          intro e
          exact hc (by rw [e]; rfl)
        have HC := Lib.hid hc'
        clear hc'
        go_wp2
        go_round
        case rel => exact ⟨k + 1, by omega, by omega, by go_num, HT.out.trans HC.out⟩
        case measure => simp [intOf]; omega
      · have hc1 : ((s[k].toNat : Int) != 10) = false := by simpa using hc
        have hc' : s[k] = 10 := by
          simp only [bne_eq_false_iff_eq] at hc1
          exact UInt8.toNat_inj.1 (by have e : (10 : UInt8).toNat = 10 := rfl; omega)
        have HC := Lib.hid hc'
        clear hc' hc
        go_wp2
        go_ret
        refine ⟨ret_i64 ?_, rfl⟩
        rw [rem_upto HN.out (by omega) ?_]
        · omega
        intro c hcc
        rw [List.head?_drop, List.getElem?_eq_getElem hlen, HG.out, HC.out] at hcc
        simpa [eq_comm] using hcc
    · obtain rfl : k = s.size := by omega
      have HN := Lib.hid hn
      clear hn
      go_wp2
      go_ret
      refine ⟨ret_i64 ?_, rfl⟩
      rw [rem_upto HN.out (by rw [List.length_drop, HL.out]; omega) ?_]
      · omega
      intro c hcc
      rw [List.drop_of_length_le (by rw [List.length_drop, HL.out]; omega)] at hcc
      cases hcc

theorem gap_place {l m : List UInt8} {k : Nat} (h : gapS false (l.drop k) = gapS false m) (hk : k ≤ l.length) (hd : gapS false (l.drop k) = l.drop k) : k = l.length - (gapS false m).length := by
  rw [← h, hd, List.length_drop]; omega

set_option maxRecDepth 100000 in
set_option maxHeartbeats 1000000 in
theorem goOver_any (s : ByteArray) (at_ : Nat) (w : World) (hs : s.size ≤ maxLen) (ha : at_ ≤ s.size) :
    Calls Tryz.prog 26 #[.string s, .int .i64 at_] w fun e w' => e = .returned (.int .i64 ((s.size - (gapS false (s.data.toList.drop at_)).length : Nat) : Int)) ∧ w = w' := by
  have HR := Lib.hid (fun k W h => remarkEnd_any s k W hs h)
  unfold maxLen at hs
  have HL := Lib.hid (len_data s)
  go_enter Tryz.func26, Tryz.ntmps26
  go_wp2
  go_loop [1] (fun i => ∃ k : Nat, k ≤ s.size ∧ i = .int .i64 k ∧ gapS false (s.data.toList.drop k) = gapS false (s.data.toList.drop at_)) (fun i => s.size - (intOf i).toNat)
  case atStart => exact ⟨at_, ha, rfl, rfl⟩
  case round =>
    obtain ⟨k, hk, rfl, hn⟩ := hrel
    by_cases hlt : k < s.size
    · have hcons : s.data.toList.drop k = s[k] :: s.data.toList.drop (k + 1) := List.drop_eq_getElem_cons (by rw [HL.out]; exact hlt)
      have HN := Lib.hid hn
      have HCO := Lib.hid hcons
      clear hn hcons
      have byte : ∀ (c : UInt8) (n : Int), n = (c.toNat : Int) → ((s[k].toNat : Int) == n) = true → s[k] = c := fun c n hn h => UInt8.toNat_inj.1 (by have := beq_iff_eq.1 h; omega)
      have bnot : ∀ (c : UInt8) (n : Int), n = (c.toNat : Int) → ((s[k].toNat : Int) == n) = false → s[k] ≠ c := fun c n hn h e => by
        rw [e, ← hn] at h; simp at h
      have BY := Lib.hid byte
      have BN := Lib.hid bnot
      clear byte bnot
      by_cases h9 : ((s[k].toNat : Int) == 9) = true
      · have NX : Hid (gapS false (s.data.toList.drop (k + 1)) = gapS false (s.data.toList.drop at_)) := Lib.hid (by
          rw [← HN.out, HCO.out, gapS, if_neg (by rw [BY.out 9 9 rfl h9]; decide), if_pos (by rw [BY.out 9 9 rfl h9]; decide)])
        go_wp2
        go_round
        case rel => exact ⟨k + 1, by omega, by go_num, NX.out⟩
        case measure => simp [intOf]; omega
      · have n9 : ((s[k].toNat : Int) == 9) = false := by simpa using h9
        by_cases h10 : ((s[k].toNat : Int) == 10) = true
        · have NX : Hid (gapS false (s.data.toList.drop (k + 1)) = gapS false (s.data.toList.drop at_)) := Lib.hid (by
            rw [← HN.out, HCO.out, gapS, if_neg (by rw [BY.out 10 10 rfl h10]; decide), if_pos (by rw [BY.out 10 10 rfl h10]; decide)])
          clear h9
          go_wp2
          go_round
          case rel => exact ⟨k + 1, by omega, by go_num, NX.out⟩
          case measure => simp [intOf]; omega
        · have n10 : ((s[k].toNat : Int) == 10) = false := by simpa using h10
          by_cases h13 : ((s[k].toNat : Int) == 13) = true
          · have NX : Hid (gapS false (s.data.toList.drop (k + 1)) = gapS false (s.data.toList.drop at_)) := Lib.hid (by
              rw [← HN.out, HCO.out, gapS, if_neg (by rw [BY.out 13 13 rfl h13]; decide), if_pos (by rw [BY.out 13 13 rfl h13]; decide)])
            clear h9 h10
            go_wp2
            go_round
            case rel => exact ⟨k + 1, by omega, by go_num, NX.out⟩
            case measure => simp [intOf]; omega
          · have n13 : ((s[k].toNat : Int) == 13) = false := by simpa using h13
            by_cases h32 : ((s[k].toNat : Int) == 32) = true
            · have NX : Hid (gapS false (s.data.toList.drop (k + 1)) = gapS false (s.data.toList.drop at_)) := Lib.hid (by
                rw [← HN.out, HCO.out, gapS, if_neg (by rw [BY.out 32 32 rfl h32]; decide), if_pos (by rw [BY.out 32 32 rfl h32]; decide)])
              clear h9 h10 h13
              go_wp2
              go_round
              case rel => exact ⟨k + 1, by omega, by go_num, NX.out⟩
              case measure => simp [intOf]; omega
            · have n32 : ((s[k].toNat : Int) == 32) = false := by simpa using h32
              by_cases h59 : ((s[k].toNat : Int) == 59) = true
              · have hle : (remL (s.data.toList.drop k)).length ≤ s.size - k := by
                  have := (List.takeWhile_prefix (· != (10 : UInt8)) (l := s.data.toList.drop k)).length_le
                  rw [List.length_drop, HL.out] at this
                  exact this
                have hge : 1 ≤ (remL (s.data.toList.drop k)).length := by
                  rw [HCO.out, BY.out 59 59 rfl h59]
                  simp [remL]
                have NX : Hid (gapS false (s.data.toList.drop (k + (remL (s.data.toList.drop k)).length)) = gapS false (s.data.toList.drop at_)) := Lib.hid (by
                  rw [← HN.out, ← List.drop_drop, HCO.out, BY.out 59 59 rfl h59]
                  have e : remL (59 :: s.data.toList.drop (k + 1)) = 59 :: remL (s.data.toList.drop (k + 1)) := by simp [remL]
                  rw [e, List.length_cons, List.drop_succ_cons, gapS, if_pos rfl, gap_rem])
                clear h9 h10 h13 h32
                go_wp2_with (go_at_call 50; ((with_reducible refine (HR.out _ _ hk).mono ?_); rintro e w' ⟨rfl, rfl⟩))
                go_round
                case rel => exact ⟨k + (remL (s.data.toList.drop k)).length, by omega, by go_num, NX.out⟩
                case measure => simp [intOf]; omega
              · have n59 : ((s[k].toNat : Int) == 59) = false := by simpa using h59
                have NX : Hid (gapS false (s.data.toList.drop k) = s.data.toList.drop k) := Lib.hid (by
                  rw [HCO.out]
                  refine gap_shut _ _ (BN.out 59 59 rfl n59) ?_
                  have b9 := BN.out 9 9 rfl n9
                  have b10 := BN.out 10 10 rfl n10
                  have b13 := BN.out 13 13 rfl n13
                  have b32 := BN.out 32 32 rfl n32
                  simp [gapB, b9, b10, b13, b32])
                clear h9 h10 h13 h32 h59
                go_wp2
                go_ret
                refine ⟨ret_i64 ?_, rfl⟩
                have := gap_place (l := s.data.toList) HN.out (by rw [HL.out]; exact hk) NX.out
                rw [HL.out] at this
                omega
    · obtain rfl : k = s.size := by omega
      have HN := Lib.hid hn
      clear hn
      go_wp2
      go_ret
      refine ⟨ret_i64 ?_, rfl⟩
      have hnil : s.data.toList.drop s.size = [] := List.drop_of_length_le (by rw [HL.out]; exact Nat.le_refl _)
      have := HN.out
      rw [hnil] at this
      rw [← this]
      simp [gapS]
end Go.Proofs.YtiamojpeedllbaaGreatDoor
