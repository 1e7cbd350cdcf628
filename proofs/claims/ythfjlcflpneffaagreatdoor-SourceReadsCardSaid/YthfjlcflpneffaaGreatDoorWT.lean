/-
Texts T3, T4, T5, T6, T7, T8, T9, one behind the other (a claim bears sixty files). Conditions: as each says.
-/
import Derived.Test.YthfjlcflpneffaaGreatDoorS2
import Derived.Test.YthfjlcflpneffaaGreatDoorShelf
import Derived.Shelf.Strings.SlTrimAscii
import Derived.Lib.ConvBytes
import Derived.Lib.ParseIntBMem
import Derived.Laws.Closers25
import Derived.Laws.Closers25b
import Derived.BigCall
import Derived.BigGuard

/-
Contracts of package lex's small functions: isNameByte, wordSize, remarkEnd, goOver: what each returns, for every string. No condition.
-/
namespace Go.Proofs.YthfjlcflpneffaaGreatDoor
open Go.ChangeShapes Go.WideShapes Go.ChangeAt Go.RowKit

theorem ret_i64 {a b : Int} (h : a = b) : Ending.returned (.int .i64 a) = .returned (.int .i64 b) := by rw [h]
theorem name_two : ∀ n : Fin 256, nameB [97, n.val.toUInt8] = nby8 n.val.toUInt8 := by decide +kernel
theorem name_two' (c : UInt8) : nameB [97, c] = nby8 c := by
  have := name_two ⟨c.toNat, c.toNat_lt⟩
  simpa using this

set_option maxRecDepth 100000 in
theorem nameByte_any (c : UInt8) (w : World) : Calls Tryz.prog 72 #[.int .u8 c.toNat] w fun e w' => e = .returned (.bool (nby8 c)) ∧ Below w.heap.size w w' := by
  have hcv := run_convert_bytes_back (P := Tryz.prog) (w.alloc (.cells #[.int .u8 97, .int .u8 c.toNat] 5)) 39 9 5 ⟨w.heap.size, 0, none⟩ 2 [97, c] Tryz.underlying39 Tryz.underlying5 Tryz.underlying9 (fun j hj => by
    match j, hj with
    | 0, _ => simp [Addr.add]
    | 1, _ => simp [Addr.add])
  simp only [List.length_cons, List.length_nil, Nat.zero_add] at hcv
  have C : ∀ W, Calls Tryz.prog 62 #[.string ⟨#[97, c]⟩] W fun e w' => e = .returned (.bool (nby8 c)) ∧ W = w' := fun W => by
    have := name_any ⟨#[97, c]⟩ W (by show 2 ≤ maxLen; decide)
    rwa [show nameB (⟨#[97, c]⟩ : ByteArray).data.toList = nby8 c from name_two' c] at this
  have HC := Lib.hid C
  clear C
  go_enter Tryz.func72, Tryz.ntmps72
  go_wp2_with (go_at_call 62; ((with_reducible refine (HC.out _).mono ?_); rintro e w' ⟨rfl, rfl⟩))
  go_ret
  exact ⟨rfl, (Below.refl _ _).alloc (Nat.le_refl _) _⟩

theorem word_upto {l : List UInt8} {k : Nat} (h : (l.take k).all nby8 = true) (hk : k ≤ l.length) (hs : Stops (l.drop k)) : (wordL l).length = k := by
  have := wordL_app (w := l.take k) (r := l.drop k) h hs
  rw [List.take_append_drop] at this
  rw [this, List.length_take]; omega
theorem stops_at {l : List UInt8} {k : Nat} (hk : k < l.length) (h : nby8 l[k] = false) : Stops (l.drop k) := by
  intro c hc
  rw [List.head?_drop, List.getElem?_eq_getElem hk] at hc
  simp at hc; subst hc; exact h
theorem stops_nil : Stops [] := by intro c hc; cases hc

set_option maxRecDepth 100000 in
theorem wordSize_any (s : ByteArray) (w : World) (hs : s.size ≤ maxLen) :
    Calls Tryz.prog 51 #[.string s] w fun e w' => e = .returned (.int .i64 ((wordL s.data.toList).length : Int)) ∧ Below w.heap.size w w' := by
  unfold maxLen at hs
  have HL := Lib.hid (len_data s)
  go_enter Tryz.func51, Tryz.ntmps51
  go_wp2
  go_loopw [6] (fun i wr => ∃ k : Nat, k ≤ s.size ∧ i = .int .i64 k ∧ (s.data.toList.take k).all nby8 = true ∧ Below w.heap.size w wr) (fun i _ => s.size - (intOf i).toNat)
  case atStart => exact ⟨0, Nat.zero_le _, rfl, rfl, Below.refl _ _⟩
  case round =>
    obtain ⟨k, hk, rfl, hn, hb⟩ := hrel
    by_cases hlt : k < s.size
    · have ht := all_take_succ s.data.toList nby8 k (by rw [HL.out]; exact hlt)
      rw [hn, Bool.true_and] at ht
      have HT := Lib.hid ht
      have HN := Lib.hid hn
      clear hn ht
      have C := nameByte_any s[k] wr
      by_cases hc : nby8 s[k] = true
      · rw [hc] at C
        have H := Lib.hid C
        have HC := Lib.hid hc
        clear C hc
        go_wp2_with fail
        refine H.out.mono ?_
        rintro e w1 ⟨rfl, hb1⟩
        go_wp2
        go_roundw
        case rel => exact ⟨k + 1, by omega, by go_num, HT.out.trans HC.out, hb.trans (hb1.mono hb.size)⟩
        case measure => simp [intOf]; omega
      · have hc' : nby8 s[k] = false := by simpa using hc
        rw [hc'] at C
        have H := Lib.hid C
        have HC := Lib.hid hc'
        clear C hc hc'
        go_wp2_with fail
        refine H.out.mono ?_
        rintro e w1 ⟨rfl, hb1⟩
        go_wp2
        go_ret
        exact ⟨ret_i64 (by rw [word_upto HN.out (by rw [HL.out]; exact hk) (stops_at (by rw [HL.out]; exact hlt) HC.out)]), hb.trans (hb1.mono hb.size)⟩
    · obtain rfl : k = s.size := by omega
      have HN := Lib.hid hn
      clear hn
      go_wp2
      go_ret
      exact ⟨ret_i64 (by rw [word_upto HN.out (by rw [HL.out]; exact Nat.le_refl _) (by rw [List.drop_of_length_le (by rw [HL.out]; exact Nat.le_refl _)]; exact stops_nil)]), hb⟩

/-- How many bytes of a remark. -/
def remL (l : List UInt8) : List UInt8 := l.takeWhile (· != 10)
theorem gap_rem : ∀ l : List UInt8, gapS true l = gapS false (l.drop (remL l).length)
  | [] => by simp [gapS]
  | c :: r => by
    rw [gapS]
    by_cases hc : c = 10
    · subst hc
      rw [if_pos rfl]
      simp [remL, gapS, gapB]
    · rw [if_neg hc, gap_rem r]
      have : (c != 10) = true := by simpa using hc
      simp [remL, this]
theorem rem_upto {l : List UInt8} {k : Nat} (h : (l.take k).all (· != 10) = true) (hk : k ≤ l.length) (hs : ∀ c, (l.drop k).head? = some c → c = 10) : (remL l).length = k := by
  have e : l = l.take k ++ l.drop k := (List.take_append_drop _ _).symm
  have h1 : remL (l.take k ++ l.drop k) = l.take k := by
    unfold remL
    rw [List.takeWhile_append_of_pos (fun a ha => List.all_eq_true.1 h a ha)]
    cases hd : l.drop k with
    | nil => simp
    | cons c r => rw [hs c (by rw [hd]; rfl)]; simp
  rw [e, h1, List.length_take]; omega

set_option maxRecDepth 100000 in
theorem remarkEnd_any (s : ByteArray) (at_ : Nat) (w : World) (hs : s.size ≤ maxLen) (ha : at_ ≤ s.size) :
    Calls Tryz.prog 48 #[.string s, .int .i64 at_] w fun e w' => e = .returned (.int .i64 ((at_ + (remL (s.data.toList.drop at_)).length : Nat) : Int)) ∧ w = w' := by
  unfold maxLen at hs
  have HL := Lib.hid (len_data s)
  go_enter Tryz.func48, Tryz.ntmps48
  go_wp2
  go_loop [1] (fun i => ∃ k : Nat, at_ ≤ k ∧ k ≤ s.size ∧ i = .int .i64 k ∧ ((s.data.toList.drop at_).take (k - at_)).all (· != 10) = true) (fun i => s.size - (intOf i).toNat)
  case atStart => exact ⟨at_, Nat.le_refl _, ha, rfl, by simp⟩
  case round =>
    obtain ⟨k, hak, hk, rfl, hn⟩ := hrel
    by_cases hlt : k < s.size
    · have hlen : k - at_ < (s.data.toList.drop at_).length := by rw [List.length_drop, HL.out]; omega
      have ht := all_take_succ (s.data.toList.drop at_) (· != 10) (k - at_) hlen
      rw [hn, Bool.true_and] at ht
      have hget : (s.data.toList.drop at_)[k - at_] = s[k] := by
        rw [List.getElem_drop]
        show s.data.toList[at_ + (k - at_)]'_ = s.data.toList[k]'(by rw [HL.out]; exact hlt)
        congr 1; omega
      rw [hget, show k - at_ + 1 = k + 1 - at_ by omega] at ht
      have HT := Lib.hid ht
      have HN := Lib.hid hn
      have HG := Lib.hid hget
      clear hn ht hget
      by_cases hc : ((s[k].toNat : Int) != 10) = true
      · have hc' : (s[k] != 10) = true := by
          simp only [bne_iff_ne, ne_eq] at hc ⊢
          intro e
          exact hc (by rw [e]; rfl)
        have HC := Lib.hid hc'
        clear hc'
        go_wp2
        go_round
        case rel => exact ⟨k + 1, by omega, by omega, by go_num, HT.out.trans HC.out⟩
        case measure => simp [intOf]; omega
      · have hc1 : ((s[k].toNat : Int) != 10) = false := by simpa using hc
        have hc' : s[k] = 10 := by
          simp only [bne_eq_false_iff_eq] at hc1
          exact UInt8.toNat_inj.1 (by have e : (10 : UInt8).toNat = 10 := rfl; omega)
        have HC := Lib.hid hc'
        clear hc' hc
        go_wp2
        go_ret
        refine ⟨ret_i64 ?_, rfl⟩
        rw [rem_upto HN.out (by omega) ?_]
        · omega
        intro c hcc
        rw [List.head?_drop, List.getElem?_eq_getElem hlen, HG.out, HC.out] at hcc
        simpa [eq_comm] using hcc
    · obtain rfl : k = s.size := by omega
      have HN := Lib.hid hn
      clear hn
      go_wp2
      go_ret
      refine ⟨ret_i64 ?_, rfl⟩
      rw [rem_upto HN.out (by rw [List.length_drop, HL.out]; omega) ?_]
      · omega
      intro c hcc
      rw [List.drop_of_length_le (by rw [List.length_drop, HL.out]; omega)] at hcc
      cases hcc

theorem gap_place {l m : List UInt8} {k : Nat} (h : gapS false (l.drop k) = gapS false m) (hk : k ≤ l.length) (hd : gapS false (l.drop k) = l.drop k) : k = l.length - (gapS false m).length := by
  rw [← h, hd, List.length_drop]; omega

set_option maxRecDepth 100000 in
set_option maxHeartbeats 1000000 in
theorem goOver_any (s : ByteArray) (at_ : Nat) (w : World) (hs : s.size ≤ maxLen) (ha : at_ ≤ s.size) :
    Calls Tryz.prog 37 #[.string s, .int .i64 at_] w fun e w' => e = .returned (.int .i64 ((s.size - (gapS false (s.data.toList.drop at_)).length : Nat) : Int)) ∧ w = w' := by
  have HR := Lib.hid (fun k W h => remarkEnd_any s k W hs h)
  unfold maxLen at hs
  have HL := Lib.hid (len_data s)
  go_enter Tryz.func37, Tryz.ntmps37
  go_wp2
  go_loop [1] (fun i => ∃ k : Nat, k ≤ s.size ∧ i = .int .i64 k ∧ gapS false (s.data.toList.drop k) = gapS false (s.data.toList.drop at_)) (fun i => s.size - (intOf i).toNat)
  case atStart => exact ⟨at_, ha, rfl, rfl⟩
  case round =>
    obtain ⟨k, hk, rfl, hn⟩ := hrel
    by_cases hlt : k < s.size
    · have hcons : s.data.toList.drop k = s[k] :: s.data.toList.drop (k + 1) := List.drop_eq_getElem_cons (by rw [HL.out]; exact hlt)
      have HN := Lib.hid hn
      have HCO := Lib.hid hcons
      clear hn hcons
      have byte : ∀ (c : UInt8) (n : Int), n = (c.toNat : Int) → ((s[k].toNat : Int) == n) = true → s[k] = c := fun c n hn h => UInt8.toNat_inj.1 (by have := beq_iff_eq.1 h; omega)
      have bnot : ∀ (c : UInt8) (n : Int), n = (c.toNat : Int) → ((s[k].toNat : Int) == n) = false → s[k] ≠ c := fun c n hn h e => by
        rw [e, ← hn] at h; simp at h
      have BY := Lib.hid byte
      have BN := Lib.hid bnot
      clear byte bnot
      by_cases h9 : ((s[k].toNat : Int) == 9) = true
      · have NX : Hid (gapS false (s.data.toList.drop (k + 1)) = gapS false (s.data.toList.drop at_)) := Lib.hid (by
          rw [← HN.out, HCO.out, gapS, if_neg (by rw [BY.out 9 9 rfl h9]; decide), if_pos (by rw [BY.out 9 9 rfl h9]; decide)])
        go_wp2
        go_round
        case rel => exact ⟨k + 1, by omega, by go_num, NX.out⟩
        case measure => simp [intOf]; omega
      · have n9 : ((s[k].toNat : Int) == 9) = false := by simpa using h9
        by_cases h10 : ((s[k].toNat : Int) == 10) = true
        · have NX : Hid (gapS false (s.data.toList.drop (k + 1)) = gapS false (s.data.toList.drop at_)) := Lib.hid (by
            rw [← HN.out, HCO.out, gapS, if_neg (by rw [BY.out 10 10 rfl h10]; decide), if_pos (by rw [BY.out 10 10 rfl h10]; decide)])
          clear h9
          go_wp2
          go_round
          case rel => exact ⟨k + 1, by omega, by go_num, NX.out⟩
          case measure => simp [intOf]; omega
        · have n10 : ((s[k].toNat : Int) == 10) = false := by simpa using h10
          by_cases h13 : ((s[k].toNat : Int) == 13) = true
          · have NX : Hid (gapS false (s.data.toList.drop (k + 1)) = gapS false (s.data.toList.drop at_)) := Lib.hid (by
              rw [← HN.out, HCO.out, gapS, if_neg (by rw [BY.out 13 13 rfl h13]; decide), if_pos (by rw [BY.out 13 13 rfl h13]; decide)])
            clear h9 h10
            go_wp2
            go_round
            case rel => exact ⟨k + 1, by omega, by go_num, NX.out⟩
            case measure => simp [intOf]; omega
          · have n13 : ((s[k].toNat : Int) == 13) = false := by simpa using h13
            by_cases h32 : ((s[k].toNat : Int) == 32) = true
            · have NX : Hid (gapS false (s.data.toList.drop (k + 1)) = gapS false (s.data.toList.drop at_)) := Lib.hid (by
                rw [← HN.out, HCO.out, gapS, if_neg (by rw [BY.out 32 32 rfl h32]; decide), if_pos (by rw [BY.out 32 32 rfl h32]; decide)])
              clear h9 h10 h13
              go_wp2
              go_round
              case rel => exact ⟨k + 1, by omega, by go_num, NX.out⟩
              case measure => simp [intOf]; omega
            · have n32 : ((s[k].toNat : Int) == 32) = false := by simpa using h32
              by_cases h59 : ((s[k].toNat : Int) == 59) = true
              · have hle : (remL (s.data.toList.drop k)).length ≤ s.size - k := by
                  have := (List.takeWhile_prefix (· != (10 : UInt8)) (l := s.data.toList.drop k)).length_le
                  rw [List.length_drop, HL.out] at this
                  exact this
                have hge : 1 ≤ (remL (s.data.toList.drop k)).length := by
                  rw [HCO.out, BY.out 59 59 rfl h59]
                  simp [remL]
                have NX : Hid (gapS false (s.data.toList.drop (k + (remL (s.data.toList.drop k)).length)) = gapS false (s.data.toList.drop at_)) := Lib.hid (by
                  rw [← HN.out, ← List.drop_drop, HCO.out, BY.out 59 59 rfl h59]
                  have e : remL (59 :: s.data.toList.drop (k + 1)) = 59 :: remL (s.data.toList.drop (k + 1)) := by simp [remL]
                  rw [e, List.length_cons, List.drop_succ_cons, gapS, if_pos rfl, gap_rem])
                clear h9 h10 h13 h32
                go_wp2_with (go_at_call 48; ((with_reducible refine (HR.out _ _ hk).mono ?_); rintro e w' ⟨rfl, rfl⟩))
                go_round
                case rel => exact ⟨k + (remL (s.data.toList.drop k)).length, by omega, by go_num, NX.out⟩
                case measure => simp [intOf]; omega
              · have n59 : ((s[k].toNat : Int) == 59) = false := by simpa using h59
                have NX : Hid (gapS false (s.data.toList.drop k) = s.data.toList.drop k) := Lib.hid (by
                  rw [HCO.out]
                  refine gap_shut _ _ (BN.out 59 59 rfl n59) ?_
                  have b9 := BN.out 9 9 rfl n9
                  have b10 := BN.out 10 10 rfl n10
                  have b13 := BN.out 13 13 rfl n13
                  have b32 := BN.out 32 32 rfl n32
                  simp [gapB, b9, b10, b13, b32])
                clear h9 h10 h13 h32 h59
                go_wp2
                go_ret
                refine ⟨ret_i64 ?_, rfl⟩
                have := gap_place (l := s.data.toList) HN.out (by rw [HL.out]; exact hk) NX.out
                rw [HL.out] at this
                omega
    · obtain rfl : k = s.size := by omega
      have HN := Lib.hid hn
      clear hn
      go_wp2
      go_ret
      refine ⟨ret_i64 ?_, rfl⟩
      have hnil : s.data.toList.drop s.size = [] := List.drop_of_length_le (by rw [HL.out]; exact Nat.le_refl _)
      have := HN.out
      rw [hnil] at this
      rw [← this]
      simp [gapS]
end Go.Proofs.YthfjlcflpneffaaGreatDoor

/-
Contracts of the document's small functions of layer 3: sixteen, two, Word, gap: what each returns, for every string. No condition.
-/
namespace Go.Proofs.YthfjlcflpneffaaGreatDoor
open Go.ChangeShapes Go.WideShapes Go.ChangeAt Go.RowKit

def hexI (c : UInt8) : Int := match hexV c with | some x => (x : Int) | none => -1
def twoI (l : List UInt8) : Int := match twoV l with | some x => (x : Int) | none => -1

theorem sixteen_any (c : UInt8) (w : World) : Calls Tryz.prog 96 #[.int .u8 c.toNat] w fun e w' => e = .returned (.int .i64 (hexI c)) ∧ w = w' := by
  have hc := c.toNat_lt
  by_cases a : 48 ≤ (c.toNat : Int) ∧ (c.toNat : Int) ≤ 57
  · obtain ⟨a1, a2⟩ := a
    have e : hexI c = (c.toNat : Int) - 48 := by
      unfold hexI hexV
      rw [if_pos (by omega)]; simp only; omega
    have HE := Lib.hid e
    clear e
    go_enter Tryz.func96, Tryz.ntmps96
    go_wp2
    go_ret
    exact ⟨ret_i64 HE.out.symm, rfl⟩
  · by_cases b : 97 ≤ (c.toNat : Int) ∧ (c.toNat : Int) ≤ 102
    · obtain ⟨b1, b2⟩ := b
      have e : hexI c = (c.toNat : Int) - 97 + 10 := by
        unfold hexI hexV
        rw [if_neg (by omega), if_pos (by omega)]; simp only; omega
      have HE := Lib.hid e
      clear e a
      go_enter Tryz.func96, Tryz.ntmps96
      go_wp2
      go_ret
      exact ⟨ret_i64 HE.out.symm, rfl⟩
    · by_cases d : 65 ≤ (c.toNat : Int) ∧ (c.toNat : Int) ≤ 70
      · obtain ⟨d1, d2⟩ := d
        have e : hexI c = (c.toNat : Int) - 65 + 10 := by
          unfold hexI hexV
          rw [if_neg (by omega), if_neg (by omega), if_pos (by omega)]; simp only; omega
        have HE := Lib.hid e
        clear e a b
        go_enter Tryz.func96, Tryz.ntmps96
        go_wp2
        go_ret
        exact ⟨ret_i64 HE.out.symm, rfl⟩
      · have e : hexI c = -1 := by
          unfold hexI hexV
          rw [if_neg (by omega), if_neg (by omega), if_neg (by omega)]
        have HE := Lib.hid e
        clear e
        by_cases l1 : (48 : Int) ≤ c.toNat <;> by_cases l2 : (97 : Int) ≤ c.toNat <;> by_cases l3 : (65 : Int) ≤ c.toNat <;> try omega
        all_goals
          by_cases r1 : (c.toNat : Int) ≤ 57 <;> by_cases r2 : (c.toNat : Int) ≤ 102 <;> by_cases r3 : (c.toNat : Int) ≤ 70 <;> try omega
        all_goals
          clear a b d
          go_enter Tryz.func96, Tryz.ntmps96
          go_wp2
          go_ret
          exact ⟨ret_i64 HE.out.symm, rfl⟩

theorem hexI_lo (c : UInt8) : -1 ≤ hexI c ∧ hexI c ≤ 15 := by
  unfold hexI
  cases h : hexV c with
  | none => simp
  | some x => have := hexV_lt h; simp only; omega
theorem twoI_short {l : List UInt8} (h : l.length < 2) : twoI l = -1 := by
  match l, h with
  | [], _ => rfl
  | [_], _ => rfl
theorem twoI_two {a b : UInt8} {r : List UInt8} : twoI (a :: b :: r) = if hexI a < 0 ∨ hexI b < 0 then -1 else 16 * hexI a + hexI b := by
  unfold twoI hexI
  rw [twoV]
  cases hexV a <;> cases hexV b
  · simp
  · simp
  · simp
  · rename_i x y
    simp only
    rw [if_neg (by omega)]; omega

set_option maxHeartbeats 1000000 in
theorem two_any (s : ByteArray) (k : Nat) (w : World) (_hs : s.size ≤ 4096) (hk : k ≤ 8192) :
    Calls Tryz.prog 78 #[.string s, .int .i64 k] w fun e w' => e = .returned (.int .i64 (twoI (s.data.toList.drop k))) ∧ w = w' := by
  have HL := Lib.hid (len_data s)
  by_cases h : s.size < k + 2
  · have e : twoI (s.data.toList.drop k) = -1 := twoI_short (by rw [List.length_drop, HL.out]; omega)
    have HE := Lib.hid e
    have hh : (s.size : Int) < (k : Int) + 2 := by omega
    clear e
    go_enter Tryz.func78, Tryz.ntmps78
    go_wp2
    go_ret
    exact ⟨ret_i64 HE.out.symm, rfl⟩
  · have hk0 : k < s.size := by omega
    have hk1 : k + 1 < s.size := by omega
    have hd : s.data.toList.drop k = s[k] :: s[k + 1] :: s.data.toList.drop (k + 2) := by
      rw [List.drop_eq_getElem_cons (by rw [HL.out]; exact hk0), List.drop_eq_getElem_cons (i := k + 1) (by rw [HL.out]; exact hk1)]
      rfl
    have HE : Hid (twoI (s.data.toList.drop k) = if hexI s[k] < 0 ∨ hexI s[k + 1] < 0 then -1 else 16 * hexI s[k] + hexI s[k + 1]) := Lib.hid (by rw [hd]; exact twoI_two)
    have HC := Lib.hid (fun c W => sixteen_any c W)
    obtain ⟨p1, p2⟩ := hexI_lo s[k]
    obtain ⟨q1, q2⟩ := hexI_lo s[k + 1]
    clear hd
    have hh : (k : Int) + 2 ≤ (s.size : Int) := by omega
    by_cases n1 : hexI s[k] < 0
    · have HE1 := Lib.hid (HE.out.trans (if_pos (.inl n1)))
      go_enter Tryz.func78, Tryz.ntmps78
      go_wp2_with (go_at_call 96; ((with_reducible refine (HC.out _ _).mono ?_); rintro e w' ⟨rfl, rfl⟩))
      go_ret
      exact ⟨ret_i64 HE1.out.symm, rfl⟩
    · by_cases n2 : hexI s[k + 1] < 0
      · have HE1 := Lib.hid (HE.out.trans (if_pos (.inr n2)))
        go_enter Tryz.func78, Tryz.ntmps78
        go_wp2_with (go_at_call 96; ((with_reducible refine (HC.out _ _).mono ?_); rintro e w' ⟨rfl, rfl⟩))
        go_ret
        exact ⟨ret_i64 HE1.out.symm, rfl⟩
      · have HE1 := Lib.hid (HE.out.trans (if_neg (by omega)))
        go_enter Tryz.func78, Tryz.ntmps78
        go_wp2_with (go_at_call 96; ((with_reducible refine (HC.out _ _).mono ?_); rintro e w' ⟨rfl, rfl⟩))
        go_ret
        exact ⟨ret_i64 HE1.out.symm, rfl⟩

set_option maxRecDepth 100000 in
theorem rword_any (s : ByteArray) (at_ : Nat) (w : World) (hs : s.size ≤ maxLen) (ha : at_ ≤ s.size) :
    Calls Tryz.prog 58 #[.string s, .int .i64 at_] w fun e w' => e = .returned (.int .i64 ((wordL (s.data.toList.drop at_)).length : Int)) ∧ w = w' := by
  unfold maxLen at hs
  have HL := Lib.hid (len_data s)
  go_enter Tryz.func58, Tryz.ntmps58
  go_wp2
  go_loop [5] (fun i => ∃ k : Nat, at_ + k ≤ s.size ∧ i = .int .i64 k ∧ ((s.data.toList.drop at_).take k).all nby8 = true) (fun i => s.size - (intOf i).toNat)
  case atStart => exact ⟨0, ha, rfl, by simp⟩
  case round =>
    obtain ⟨k, hk, rfl, hn⟩ := hrel
    by_cases hlt : at_ + k < s.size
    · have hlen : k < (s.data.toList.drop at_).length := by rw [List.length_drop, HL.out]; omega
      have ht := all_take_succ (s.data.toList.drop at_) nby8 k hlen
      rw [hn, Bool.true_and] at ht
      have hget : (s.data.toList.drop at_)[k] = s[at_ + k] := by rw [List.getElem_drop]; rfl
      rw [hget] at ht
      have HT := Lib.hid ht
      have HN := Lib.hid hn
      have HG := Lib.hid hget
      clear hn ht hget
      have C := rbyte_any s[at_ + k].toNat
      by_cases hc : nby8 s[at_ + k] = true
      · rw [show nbyB s[at_ + k].toNat = true from hc] at C
        have H := Lib.hid C
        have HC := Lib.hid hc
        clear C hc
        go_wp2_with (go_at_call 79; ((with_reducible refine (H.out _).mono ?_); rintro e w' ⟨rfl, rfl⟩))
        go_round
        case rel => exact ⟨k + 1, by omega, by go_num, HT.out.trans HC.out⟩
        case measure => simp [intOf]; omega
      · have hc' : nby8 s[at_ + k] = false := by simpa using hc
        rw [show nbyB s[at_ + k].toNat = false from hc'] at C
        have H := Lib.hid C
        have HC := Lib.hid hc'
        clear C hc hc'
        go_wp2_with (go_at_call 79; ((with_reducible refine (H.out _).mono ?_); rintro e w' ⟨rfl, rfl⟩))
        go_ret
        refine ⟨ret_i64 ?_, rfl⟩
        rw [word_upto HN.out (by omega) (stops_at hlen (by rw [HG.out]; exact HC.out))]
    · obtain rfl : k = s.size - at_ := by omega
      have HN := Lib.hid hn
      clear hn
      go_wp2
      go_ret
      refine ⟨ret_i64 ?_, rfl⟩
      rw [word_upto HN.out (by rw [List.length_drop, HL.out]; omega) (by rw [List.drop_of_length_le (by rw [List.length_drop, HL.out]; omega)]; exact stops_nil)]
theorem gap_same {l : List UInt8} (h : ∀ c, l.head? = some c → c = 10) : gapS false l = gapS true l := by
  match l with
  | [] => simp [gapS]
  | c :: r =>
    obtain rfl := h c rfl
    simp [gapS, gapB]

set_option maxRecDepth 100000 in
set_option maxHeartbeats 2000000 in
theorem rgap_any (s : ByteArray) (at_ : Nat) (w : World) (hs : s.size ≤ 4096) (ha : at_ ≤ s.size) :
    Calls Tryz.prog 40 #[.string s, .int .i64 at_] w fun e w' => e = .returned (.int .i64 ((s.size - (gapS false (s.data.toList.drop at_)).length : Nat) : Int)) ∧ w = w' := by
  have HL := Lib.hid (len_data s)
  go_enter Tryz.func40, Tryz.ntmps40
  go_wp2
  go_loop [1, 5] (fun i c => ∃ k : Nat, k ≤ s.size ∧ i = .int .i64 k ∧ gapS false (s.data.toList.drop k) = gapS false (s.data.toList.drop at_)) (fun i _ => s.size - (intOf i).toNat)
  case atStart => exact ⟨at_, ha, rfl, rfl⟩
  case round =>
    obtain ⟨k, hk, rfl, hn⟩ := hrel
    by_cases hlt : k < s.size
    · have hcons : s.data.toList.drop k = s[k] :: s.data.toList.drop (k + 1) := List.drop_eq_getElem_cons (by rw [HL.out]; exact hlt)
      have HN := Lib.hid hn
      have HCO := Lib.hid hcons
      clear hn hcons
      have byte : ∀ (c : UInt8) (n : Int), n = (c.toNat : Int) → ((s[k].toNat : Int) == n) = true → s[k] = c := fun c n hn h => UInt8.toNat_inj.1 (by have := beq_iff_eq.1 h; omega)
      have bnot : ∀ (c : UInt8) (n : Int), n = (c.toNat : Int) → ((s[k].toNat : Int) == n) = false → s[k] ≠ c := fun c n hn h e => by
        rw [e, ← hn] at h; simp at h
      have BY := Lib.hid byte
      have BN := Lib.hid bnot
      clear byte bnot
      by_cases h59 : ((s[k].toNat : Int) == 59) = true
      · have H59 := Lib.hid (BY.out 59 59 rfl h59)
        go_wp2
        go_loop [1] (fun i => ∃ j : Nat, k ≤ j ∧ j ≤ s.size ∧ i = .int .i64 j ∧ gapS true (s.data.toList.drop j) = gapS false (s.data.toList.drop at_)) (fun i => s.size - (intOf i).toNat)
        case atStart =>
          refine ⟨k, Nat.le_refl _, hk, rfl, ?_⟩
          rw [← HN.out, HCO.out, H59.out, gapS, gapS, if_neg (by decide), if_pos rfl]
        case round =>
          obtain ⟨j, hkj, hj, rfl, hm⟩ := hrel
          have HM := Lib.hid hm
          clear hm
          by_cases hlj : j < s.size
          · have hcj : s.data.toList.drop j = s[j] :: s.data.toList.drop (j + 1) := List.drop_eq_getElem_cons (by rw [HL.out]; exact hlj)
            have HCJ := Lib.hid hcj
            clear hcj
            by_cases hc : ((s[j].toNat : Int) != 10) = true
            · have hc' : ¬ s[j] = 10 := by
                intro e; rw [e] at hc; exact absurd hc (by decide)
              have NX : Hid (gapS true (s.data.toList.drop (j + 1)) = gapS false (s.data.toList.drop at_)) := Lib.hid (by
                rw [← HM.out, HCJ.out, gapS, if_neg hc'])
              clear hc'
              go_wp2
              go_round
              case rel => exact ⟨j + 1, by omega, by omega, by go_num, NX.out⟩
              case measure => simp [intOf]; omega
            · have hc1 : ((s[j].toNat : Int) != 10) = false := by simpa using hc
              have hc' : s[j] = 10 := by
                simp only [bne_eq_false_iff_eq] at hc1
                exact UInt8.toNat_inj.1 (by have e : (10 : UInt8).toNat = 10 := rfl; omega)
              have hne : k ≠ j := by
                rintro rfl
                have := H59.out
                rw [hc'] at this
                exact absurd this (by decide)
              have NX : Hid (gapS false (s.data.toList.drop j) = gapS false (s.data.toList.drop at_)) := Lib.hid (by
                rw [gap_same (l := s.data.toList.drop j) (by rw [HCJ.out]; intro c hcc; simp at hcc; rw [← hcc, hc'])]
                exact HM.out)
              clear hc' hc
              go_wp2
              go_round
              case rel => exact ⟨j, by omega, by go_num, NX.out⟩
              case measure => simp [intOf]; omega
          · obtain rfl : j = s.size := by omega
            have NX : Hid (gapS false (s.data.toList.drop s.size) = gapS false (s.data.toList.drop at_)) := Lib.hid (by
              rw [gap_same (l := s.data.toList.drop s.size) (by rw [List.drop_of_length_le (by rw [HL.out]; exact Nat.le_refl _)]; intro c hcc; cases hcc)]
              exact HM.out)
            go_wp2
            go_round
            case rel => exact ⟨s.size, by omega, by go_num, NX.out⟩
            case measure => simp [intOf]; omega
      · have n59 : ((s[k].toNat : Int) == 59) = false := by simpa using h59
        have H59 := Lib.hid (BN.out 59 59 rfl n59)
        clear h59
        by_cases hg : gapB s[k] = true
        · have NX : Hid (gapS false (s.data.toList.drop (k + 1)) = gapS false (s.data.toList.drop at_)) := Lib.hid (by
            rw [← HN.out, HCO.out, gapS, if_neg H59.out, if_pos hg])
          have hb : ((s[k].toNat : Int) == 9) = true ∨ ((s[k].toNat : Int) == 9) = false ∧ (((s[k].toNat : Int) == 10) = true ∨ ((s[k].toNat : Int) == 10) = false ∧ (((s[k].toNat : Int) == 13) = true ∨ ((s[k].toNat : Int) == 13) = false ∧ ((s[k].toNat : Int) == 32) = true)) := by
            simp only [gapB, Bool.or_eq_true, beq_iff_eq] at hg
            rcases hg with ((h | h) | h) | h <;> rw [h] <;> decide
          clear hg
          rcases hb with h9 | ⟨h9, h10 | ⟨h10, h13 | ⟨h13, h32⟩⟩⟩
          all_goals
            go_wp2
            go_round
            case rel => exact ⟨k + 1, by omega, by go_num, NX.out⟩
            case measure => simp [intOf]; omega
        · have hg' : gapB s[k] = false := by simpa using hg
          have NX : Hid (gapS false (s.data.toList.drop k) = s.data.toList.drop k) := Lib.hid (by
            rw [HCO.out]
            exact gap_shut _ _ H59.out hg')
          have bb : ∀ (c : UInt8) (n : Int), n = (c.toNat : Int) → gapB c = true → ((s[k].toNat : Int) == n) = false := fun c n hn hc => by
            cases hq : ((s[k].toNat : Int) == n) with
            | false => rfl
            | true =>
              exfalso
              have := BY.out c n hn hq
              rw [this, hc] at hg'
              cases hg'
          have h9 := bb 9 9 rfl (by decide)
          have h10 := bb 10 10 rfl (by decide)
          have h13 := bb 13 13 rfl (by decide)
          have h32 := bb 32 32 rfl (by decide)
          clear hg hg' bb
          go_wp2
          go_ret
          refine ⟨ret_i64 ?_, rfl⟩
          have := gap_place (l := s.data.toList) HN.out (by rw [HL.out]; exact hk) NX.out
          rw [HL.out] at this
          omega
    · obtain rfl : k = s.size := by omega
      have HN := Lib.hid hn
      clear hn
      go_wp2
      go_ret
      refine ⟨ret_i64 ?_, rfl⟩
      have hnil : s.data.toList.drop s.size = [] := List.drop_of_length_le (by rw [HL.out]; exact Nat.le_refl _)
      have := HN.out
      rw [hnil] at this
      rw [← this]
      simp [gapS]
end Go.Proofs.YthfjlcflpneffaaGreatDoor

/-
Contracts of the library at base sixteen and of package lex's hexByte, isNumeral, ofNumeral: what each returns, for every string; where the two errors of strconv are as the program lays them.
-/
namespace Go.Proofs.YthfjlcflpneffaaGreatDoor
open Go.ChangeShapes Go.WideShapes Go.ChangeAt Go.RowKit

/-- The two errors of strconv hold errors. -/
def ErrsOk (w : World) : Prop := (∃ tp p, w.cell? ⟨1, 0, none⟩ = some (.iface tp p)) ∧ (∃ tp p, w.cell? ⟨2, 0, none⟩ = some (.iface tp p))
theorem ErrsOk.two {w : World} (h : ErrsOk w) : 1 < w.heap.size ∧ 2 < w.heap.size := by
  obtain ⟨⟨_, _, g⟩, tp, p, h⟩ := h
  exact ⟨World.block_lt_of_cell? _ _ g, World.block_lt_of_cell? _ _ h⟩
theorem ErrsOk.below {w w' : World} {C : Nat} (h : ErrsOk w) (hb : Below C w w') (hC : 1 < C ∧ 2 < C) : ErrsOk w' := by
  obtain ⟨⟨tp, p, h0⟩, tq, q, h1⟩ := h
  exact ⟨⟨tp, p, by rw [hb.cell (p := ⟨1, 0, none⟩) hC.1]; exact h0⟩, tq, q, by rw [hb.cell (p := ⟨2, 0, none⟩) hC.2]; exact h1⟩

/-- What the letters of base sixteen are, to the library. -/
theorem hex_table : ∀ n : Fin 256, (48 ≤ (n.val : Int) ∧ (n.val : Int) ≤ 57 ∧ ((n.val : Int) == 95) = false ∧ hexV n.val.toUInt8 = some (n.val - 48)) ∨
    (((n.val : Int) < 48 ∨ 57 < (n.val : Int)) ∧ ((n.val : Int) == 95) = false ∧ 97 ≤ bits .or .u8 (n.val : Int) 32 ∧ bits .or .u8 (n.val : Int) 32 ≤ 102 ∧ hexV n.val.toUInt8 = some (bits .or .u8 (n.val : Int) 32 - 87).toNat) ∨
    (((n.val : Int) < 48 ∨ 57 < (n.val : Int)) ∧ ((n.val : Int) == 95) = false ∧ (103 ≤ bits .or .u8 (n.val : Int) 32 ∧ bits .or .u8 (n.val : Int) 32 ≤ 122) ∧ hexV n.val.toUInt8 = none) ∨
    (((n.val : Int) < 48 ∨ 57 < (n.val : Int)) ∧ ((n.val : Int) == 95) = false ∧ (bits .or .u8 (n.val : Int) 32 < 97 ∨ 122 < bits .or .u8 (n.val : Int) 32) ∧ hexV n.val.toUInt8 = none) ∨ (n.val.toUInt8 = 95 ∧ hexV n.val.toUInt8 = none) := by decide +kernel
theorem hex_ways (c : UInt8) : (48 ≤ (c.toNat : Int) ∧ (c.toNat : Int) ≤ 57 ∧ ((c.toNat : Int) == 95) = false ∧ hexV c = some (c.toNat - 48)) ∨
    (((c.toNat : Int) < 48 ∨ 57 < (c.toNat : Int)) ∧ ((c.toNat : Int) == 95) = false ∧ 97 ≤ bits .or .u8 (c.toNat : Int) 32 ∧ bits .or .u8 (c.toNat : Int) 32 ≤ 102 ∧ hexV c = some (bits .or .u8 (c.toNat : Int) 32 - 87).toNat) ∨
    (((c.toNat : Int) < 48 ∨ 57 < (c.toNat : Int)) ∧ ((c.toNat : Int) == 95) = false ∧ (103 ≤ bits .or .u8 (c.toNat : Int) 32 ∧ bits .or .u8 (c.toNat : Int) 32 ≤ 122) ∧ hexV c = none) ∨
    (((c.toNat : Int) < 48 ∨ 57 < (c.toNat : Int)) ∧ ((c.toNat : Int) == 95) = false ∧ (bits .or .u8 (c.toNat : Int) 32 < 97 ∨ 122 < bits .or .u8 (c.toNat : Int) 32) ∧ hexV c = none) ∨ (c = 95 ∧ hexV c = none) := by
  have h := hex_table ⟨c.toNat, c.toNat_lt⟩
  simpa using h

/-- What digits of base sixteen say, behind what was told. -/
def p16 (acc : Nat) : List UInt8 → Option Nat
  | [] => some acc
  | c :: r => match hexV c with
    | some d => p16 (acc * 16 + d) r
    | none => none
def p16V : Option Nat → Value
  | some x => .tuple #[.int .u64 (x : Int), .nilIface]
  | none => .tuple #[.int .u64 0, .iface 138 (.int .i64 2)]

set_option maxHeartbeats 32000000 in
set_option maxRecDepth 100000 in
/-- internal/strconv.ParseUint(s, 16, 8) of two bytes. -/
theorem parseInner (t : ByteArray) (ht : t.size = 2) (w : World) :
    Calls Tryz.prog 116 #[.string t, .int .i64 16, .int .i64 8] w fun e w' => e = .returned (p16V (p16 0 t.data.toList)) ∧ w' = Lib.bytesWorld w 5 t := by
  have hemp : t.toList.isEmpty = false := by
    rw [← decide_eq_emptyBytes]
    exact decide_eq_false (fun h => by rw [h] at ht; cases ht)
  have hcv := Lib.run_convert_string_bytes (P := Tryz.prog) w 9 39 5 t (u := .string) Tryz.underlying9 Tryz.underlying39 Tryz.underlying5
  have hB : ∀ j, j < t.size → (Lib.bytesWorld w 5 t).cell? ⟨w.heap.size, j, none⟩ = some (.int .u8 (t.data.toList.getD j 0).toNat) := fun j hj => Lib.bytesWorld_cell w 5 t j hj
  obtain ⟨W1, hW1⟩ : ∃ W1, W1 = Lib.bytesWorld w 5 t := ⟨_, rfl⟩
  rw [← hW1] at hcv hB ⊢
  clear hW1
  obtain ⟨bs, hL⟩ : ∃ bs, bs = t.data.toList := ⟨_, rfl⟩
  have hLn : bs.length = t.size := by rw [hL, Lib.size_eq]
  rw [← hL] at hB ⊢
  clear hL
  have hmv : IntKind.u64.wrap (IntKind.u64.wrap 256 - 1) = 255 := by
    rw [IntKind.wrap_u64, IntKind.wrap_u64]
    decide
  go_enter Tryz.func116, Tryz.ntmps116
  go_wp2
  go_loop [12, 13, 101] (fun vu vn vi => ∃ (k acc : Nat) (a : Int), vu = .bool false ∧ vn = .int .u64 a ∧ vi = .int .i64 k ∧ k ≤ t.size ∧ Hid (a = (acc : Int) ∧ acc < 16 ^ k ∧ p16 0 bs = p16 acc (bs.drop k)))
    (fun _ _ vi => t.size - (intOf vi).toNat)
  case atStart => exact ⟨0, 0, 0, rfl, rfl, rfl, by omega, rfl, by omega, rfl⟩
  case round =>
    obtain ⟨k, acc, a, rfl, rfl, rfl, hk, hh⟩ := hrel
    obtain ⟨ha, hacc, hdec⟩ := hh.out
    clear hh
    have hacc' : k < 2 → acc < 16 := fun h => by
      match k, h with
      | 0, _ => simp at hacc; omega
      | 1, _ => simpa using hacc
    have hp : 16 ^ (k + 1) = 16 ^ k * 16 := Nat.pow_succ _ _
    by_cases hkn : k < t.size
    · have hc := hB k hkn
      have hdrop : bs.drop k = bs[k]'(by omega) :: bs.drop (k + 1) := List.drop_eq_getElem_cons (by omega)
      have hget : bs.getD k 0 = bs[k]'(by omega) := by simp [List.getD, List.getElem?_eq_getElem (show k < bs.length by omega)]
      rw [hdrop] at hdec
      rw [hget] at hc
      generalize bs[k]'(by omega) = c at hc hdec
      have hc256 : c.toNat < 256 := c.toNat_lt
      have ha16 := hacc' (by omega)
      have a0 : 0 ≤ a := by omega
      have a1 : a ≤ 15 := by omega
      clear hB hdrop hget hacc'
      have hv0 := bits_lo_u8 .or (c.toNat : Int) 32
      have hv1 := bits_hi_u8 .or (c.toNat : Int) 32
      rcases hex_ways c with ⟨h1, h2, h95, hx⟩ | ⟨hnd, h95, h1, h2, hx⟩ | ⟨hnd, h95, ⟨h1, h2⟩, hx⟩ | ⟨hnd, h95, h1, hx⟩ | ⟨h95, hx⟩
      · have HN : Hid (a * 16 + ((c.toNat : Int) - 48) = ((acc * 16 + (c.toNat - 48) : Nat) : Int) ∧ acc * 16 + (c.toNat - 48) < 16 ^ (k + 1) ∧ p16 0 bs = p16 (acc * 16 + (c.toNat - 48)) (bs.drop (k + 1))) := Lib.hid ⟨by omega, by omega, by rw [hdec, p16, hx]⟩
        clear hdec hx ha hacc ha16 hp
        go_wp2
        refine ⟨⟨k + 1, acc * 16 + (c.toNat - 48), a * 16 + ((c.toNat : Int) - 48), rfl, (by first | rfl | (congr 1; omega)), (by first | rfl | (congr 1; omega)), by omega, HN⟩, by simp [intOf]; omega⟩
      · have HN : Hid (a * 16 + (bits .or .u8 (c.toNat : Int) 32 - 97 + 10) = ((acc * 16 + (bits .or .u8 (c.toNat : Int) 32 - 87).toNat : Nat) : Int) ∧ acc * 16 + (bits .or .u8 (c.toNat : Int) 32 - 87).toNat < 16 ^ (k + 1) ∧ p16 0 bs = p16 (acc * 16 + (bits .or .u8 (c.toNat : Int) 32 - 87).toNat) (bs.drop (k + 1))) := Lib.hid ⟨by omega, by omega, by rw [hdec, p16, hx]⟩
        clear hdec hx ha hacc ha16 hp
        rcases hnd with hnd | hnd
        all_goals
          go_wp2_with (go_at_call 132; refine (Tryz.internal_strconv_lower _ _).mono ?_; rintro e w' ⟨rfl, rfl⟩)
          refine ⟨⟨k + 1, _, a * 16 + (bits .or .u8 (c.toNat : Int) 32 - 97 + 10), rfl, (by first | rfl | (congr 1; omega)), (by first | rfl | (congr 1; omega)), by omega, HN⟩, by simp [intOf]; omega⟩
      · have HF : Hid (p16 0 bs = none) := Lib.hid (by rw [hdec, p16, hx])
        clear hdec hx ha hacc ha16 hp
        rcases hnd with hnd | hnd
        all_goals
          go_wp2_with (go_at_call 132; refine (Tryz.internal_strconv_lower _ _).mono ?_; rintro e w' ⟨rfl, rfl⟩)
          go_ret2
          exact ⟨by rw [HF.out]; rfl, rfl⟩
      · have HF : Hid (p16 0 bs = none) := Lib.hid (by rw [hdec, p16, hx])
        clear hdec hx ha hacc ha16 hp
        rcases hnd with hnd | hnd <;> rcases h1 with h1 | h1
        all_goals
          go_wp2_with (go_at_call 132; refine (Tryz.internal_strconv_lower _ _).mono ?_; rintro e w' ⟨rfl, rfl⟩)
          go_ret2
          exact ⟨by rw [HF.out]; rfl, rfl⟩
      · have HF : Hid (p16 0 bs = none) := Lib.hid (by rw [hdec, p16, hx])
        have hb : bits .or .u8 95 32 = 127 := by decide +kernel
        have hc95 : (c.toNat : Int) = 95 := by rw [h95]; rfl
        rw [hc95] at hc
        clear hdec hx ha hacc ha16 hp hv0 hv1 h95 hc95 hc256
        go_wp2_with (go_at_call 132; refine (Tryz.internal_strconv_lower _ _).mono ?_; rintro e w' ⟨rfl, rfl⟩)
        go_ret2
        exact ⟨by rw [HF.out]; rfl, rfl⟩
    · have hkk : k = t.size := by omega
      subst hkk
      have HF : Hid (p16 0 bs = some acc) := Lib.hid (by rw [hdec, List.drop_eq_nil_of_le (by omega)]; rfl)
      subst ha
      clear hdec hacc hacc' hp
      go_wp2
      go_ret2
      exact ⟨by rw [HF.out]; rfl, rfl⟩
end Go.Proofs.YthfjlcflpneffaaGreatDoor

/-
Contracts of package lex's hexByte, charByte, stringByte, isNumeral, ofNumeral, ofWord, and of what they call of the library: what each returns, for every string; where the two errors of strconv are as the program lays them.
-/
namespace Go.Proofs.YthfjlcflpneffaaGreatDoor
open Go.ChangeShapes Go.WideShapes Go.ChangeAt Go.RowKit

theorem bytesWorld_below' (w : World) (t : ByteArray) : Below w.heap.size w (Lib.bytesWorld w 5 t) := Lib.bytesWorld_below w 5 t

def numErr (o : Option Nat) (e : Ending) : Prop := match o with
  | some x => e = .returned (.tuple #[.int .u64 (x : Int), .nilIface])
  | none => ∃ N, e = .returned (.tuple #[.int .u64 0, .iface 141 (.pointer (some ⟨N, 0, none⟩))])

set_option maxRecDepth 100000 in
theorem parse_some (t : ByteArray) (ht : t.size = 2) (x : Nat) (hx : p16 0 t.data.toList = some x) (w : World) :
    Calls Tryz.prog 101 #[.string t, .int .i64 16, .int .i64 8] w fun e w' => e = .returned (.tuple #[.int .u64 (x : Int), .nilIface]) ∧ Below w.heap.size w w' := by
  have hI := parseInner t ht w
  rw [hx] at hI
  have H := Lib.hid hI
  have HB := Lib.hid (bytesWorld_below' w t)
  clear hI hx
  go_enter Tryz.func101, Tryz.ntmps101
  go_wp2_with fail
  refine H.out.mono ?_
  rintro e w1 ⟨he, hw⟩
  rw [p16V] at he
  subst he
  rw [← hw] at HB
  clear hw
  go_wp2
  go_ret2
  exact ⟨rfl, HB.out⟩

set_option maxRecDepth 100000 in
theorem parse_none (t : ByteArray) (ht : t.size = 2) (hx : p16 0 t.data.toList = none) (w : World) (hE : ErrsOk w) :
    Calls Tryz.prog 101 #[.string t, .int .i64 16, .int .i64 8] w fun e w' => (∃ N, e = .returned (.tuple #[.int .u64 0, .iface 141 (.pointer (some ⟨N, 0, none⟩))])) ∧ Below w.heap.size w w' := by
  have hI := parseInner t ht w
  rw [hx] at hI
  have H := Lib.hid hI
  have HB := Lib.hid (bytesWorld_below' w t)
  have HE := Lib.hid (fun W hb => hE.below (C := w.heap.size) (w' := W) hb hE.two)
  have ht' : t.size ≤ 281474976710656 := by omega
  clear hI hx hE ht
  go_enter Tryz.func101, Tryz.ntmps101
  go_wp2_with fail
  refine H.out.mono ?_
  rintro e w1 ⟨he, hw⟩
  rw [p16V] at he
  subst he
  rw [← hw] at HB
  clear hw
  obtain ⟨⟨tp, p, h0⟩, _⟩ := HE.out w1 HB.out
  have H0 := Lib.hid h0
  clear h0
  go_wp2_with fail
  refine (Tryz.strconv_toError_syntax _ t _ _ _ w1 ht' H0.out (.inr ⟨tp, p, rfl⟩)).mono ?_
  rintro e w2 ⟨N, rfl, _, _, hb2⟩
  go_wp2
  go_ret2
  exact ⟨⟨N, rfl⟩, HB.out.trans (hb2.mono HB.out.size)⟩

/-- Two digits of base sixteen, and nothing else. -/
def hexO (l : List UInt8) : Option Nat := if l.length = 2 then twoV l else none
def optV : Option Nat → Value
  | some x => .tuple #[.int .i64 (x : Int), .bool true]
  | none => .tuple #[.int .i64 0, .bool false]
theorem p16_two {l : List UInt8} (h : l.length = 2) : p16 0 l = twoV l := by
  match l, h with
  | [a, b], _ =>
    rw [p16, twoV]
    cases hexV a with
    | none => rfl
    | some x =>
      simp only
      rw [p16]
      cases hexV b with
      | none => rfl
      | some y => simp only [p16]; congr 1; omega
theorem twoV_lt {l : List UInt8} {x : Nat} (h : twoV l = some x) : x < 256 := by
  match l, h with
  | a :: b :: r, h =>
    rw [twoV] at h
    cases ha : hexV a with
    | none => rw [ha] at h; cases h
    | some p =>
      cases hb : hexV b with
      | none => rw [ha, hb] at h; cases h
      | some q =>
        rw [ha, hb] at h
        have := hexV_lt ha
        have := hexV_lt hb
        simp at h
        omega

set_option maxRecDepth 100000 in
theorem hexByte_any (s : ByteArray) (w : World) (hE : ErrsOk w) :
    Calls Tryz.prog 90 #[.string s] w fun e w' => e = .returned (optV (hexO s.data.toList)) ∧ Below w.heap.size w w' := by
  have hl := len_data s
  by_cases h2 : s.size = 2
  · cases hx : twoV s.data.toList with
    | none =>
      have e : hexO s.data.toList = none := by rw [hexO, if_pos (by omega), hx]
      have C := parse_none s h2 (by rw [p16_two (by omega), hx]) w hE
      rw [e]
      have H := Lib.hid C
      have h2' : ((s.size : Int) != 2) = false := by rw [h2]; rfl
      clear C e hx hl h2
      go_enter Tryz.func90, Tryz.ntmps90
      go_wp2_with fail
      refine H.out.mono ?_
      rintro e w1 ⟨⟨N, rfl⟩, hb⟩
      go_wp2
      go_ret2
      exact ⟨rfl, hb⟩
    | some x =>
      have e : hexO s.data.toList = some x := by rw [hexO, if_pos (by omega), hx]
      have C := parse_some s h2 x (by rw [p16_two (by omega), hx]) w
      have hlt := twoV_lt hx
      rw [e]
      have H := Lib.hid C
      have h2' : ((s.size : Int) != 2) = false := by rw [h2]; rfl
      clear C e hx hl h2
      go_enter Tryz.func90, Tryz.ntmps90
      go_wp2_with fail
      refine H.out.mono ?_
      rintro e w1 ⟨rfl, hb⟩
      go_wp2
      go_ret2
      exact ⟨rfl, hb⟩
  · have e : hexO s.data.toList = none := by rw [hexO, if_neg (by omega)]
    rw [e]
    have h2' : ((s.size : Int) != 2) = true := by simp; omega
    clear e hl h2
    go_enter Tryz.func90, Tryz.ntmps90
    go_wp2
    go_ret2
    exact ⟨rfl, Below.refl _ _⟩
end Go.Proofs.YthfjlcflpneffaaGreatDoor

/-
Contracts of package lex's isNumeral, ofNumeral: what each returns, for every word; where the two errors of strconv are as the program lays them.
-/
namespace Go.Proofs.YthfjlcflpneffaaGreatDoor
open Go.ChangeShapes Go.WideShapes Go.ChangeAt Go.RowKit

def tens : List UInt8 := [48, 49, 50, 51, 52, 53, 54, 55, 56, 57]
theorem tens_table : ∀ n : Fin 256, tens.contains n.val.toUInt8 = dig8 n.val.toUInt8 := by decide +kernel
theorem tens_dig (c : UInt8) : tens.contains c = dig8 c := by
  have h := tens_table ⟨c.toNat, c.toNat_lt⟩
  simpa using h
theorem dropWhile_nil {p : UInt8 → Bool} : ∀ {l : List UInt8}, l.dropWhile p = [] ↔ l.all p = true
  | [] => by simp
  | c :: r => by
    by_cases h : p c = true
    · simp [h, dropWhile_nil (l := r)]
    · simp [h]
theorem trim_digits (l : List UInt8) : Lib.trimS l tens = [] ↔ digsB l = true := by
  have hp : (fun c => tens.contains c) = dig8 := funext tens_dig
  unfold Lib.trimS Lib.trimLeftS Lib.trimRightS digsB
  rw [hp, dropWhile_nil]
  constructor
  · intro h
    -- what is left behind is no digit at its end, or nothing
    cases hd : l.reverse.dropWhile dig8 with
    | nil => have := dropWhile_nil.1 hd; simpa using this
    | cons c r =>
      exfalso
      rw [hd] at h
      have hc : dig8 c = true := List.all_eq_true.1 h c (by simp)
      have : (l.reverse.dropWhile dig8).head? = some c := by rw [hd]; rfl
      have hn := List.head?_dropWhile_not dig8 l.reverse
      rw [this] at hn
      simp [hc] at hn
  · intro h
    have : l.reverse.dropWhile dig8 = [] := dropWhile_nil.2 (by simpa using h)
    rw [this]
    rfl

theorem trim_yes (t : ByteArray) (w : World) (hs : t.size ≤ maxLen) (h : digsB t.data.toList = true) :
    Calls Tryz.prog 91 #[.string t, .string ⟨#[48, 49, 50, 51, 52, 53, 54, 55, 56, 57]⟩] w fun e w' => e = .returned (.string ⟨#[]⟩) ∧ Below w.heap.size w w' := by
  have C := Any.strings_Trim_laid Tryz.lays160 (by kernel_rfl) t ⟨#[48, 49, 50, 51, 52, 53, 54, 55, 56, 57]⟩ w (by unfold maxLen at hs; omega) (by decide) (ascii_of_all (by decide))
  have e : Lib.trimS t.data.toList (⟨#[48, 49, 50, 51, 52, 53, 54, 55, 56, 57]⟩ : ByteArray).data.toList = [] := (trim_digits _).2 h
  rw [e] at C
  exact C
theorem trim_no (t : ByteArray) (w : World) (hs : t.size ≤ maxLen) (h : digsB t.data.toList = false) :
    Calls Tryz.prog 91 #[.string t, .string ⟨#[48, 49, 50, 51, 52, 53, 54, 55, 56, 57]⟩] w fun e w' => (∃ u : ByteArray, e = .returned (.string u) ∧ 0 < u.size) ∧ Below w.heap.size w w' := by
  have C := Any.strings_Trim_laid Tryz.lays160 (by kernel_rfl) t ⟨#[48, 49, 50, 51, 52, 53, 54, 55, 56, 57]⟩ w (by unfold maxLen at hs; omega) (by decide) (ascii_of_all (by decide))
  refine C.mono ?_
  rintro e w' ⟨he, hb⟩
  refine ⟨⟨_, he, ?_⟩, hb⟩
  have hne : Lib.trimS t.data.toList tens ≠ [] := fun e => by
    have := (trim_digits _).1 e
    rw [h] at this; cases this
  have := List.length_pos_iff.2 hne
  show 0 < (Lib.trimS t.data.toList tens).toArray.size
  simpa using this

theorem isNum_go (s : ByteArray) (r : Bool) (w : World) (hs : s.size ≤ maxLen) (h0 : 0 < s.size)
    (hr : ((s[0].toNat : Int) == 43) = true ∧ r = (!(s.data.toList.drop 1).isEmpty && digsB (s.data.toList.drop 1)) ∨
      ((s[0].toNat : Int) == 43) = false ∧ ((s[0].toNat : Int) == 45) = true ∧ r = (!(s.data.toList.drop 1).isEmpty && digsB (s.data.toList.drop 1)) ∨
      ((s[0].toNat : Int) == 43) = false ∧ ((s[0].toNat : Int) == 45) = false ∧ r = digsB s.data.toList) :
    Calls Tryz.prog 73 #[.string s] w fun e w' => e = .returned (.bool r) ∧ Below w.heap.size w w' := by
  have he : (s.extract 1 s.size).data.toList = s.data.toList.drop 1 := by rw [Lib.extract_data, List.take_of_length_le]; simp
  have hz : (s.extract 1 s.size).size = s.size - 1 := by simp
  have hle : (s.extract 1 s.size).size ≤ maxLen := by omega
  have sgn : ∀ W, (s.extract 1 s.size).size ≠ 0 → digsB (s.data.toList.drop 1) = true → Calls Tryz.prog 91 #[.string (s.extract 1 s.size), .string ⟨#[48, 49, 50, 51, 52, 53, 54, 55, 56, 57]⟩] W fun e w' => e = .returned (.string ⟨#[]⟩) ∧ Below W.heap.size W w' := fun W _ h => trim_yes _ W hle (by rw [he]; exact h)
  have sgn' : ∀ W, digsB (s.data.toList.drop 1) = false → Calls Tryz.prog 91 #[.string (s.extract 1 s.size), .string ⟨#[48, 49, 50, 51, 52, 53, 54, 55, 56, 57]⟩] W fun e w' => (∃ u : ByteArray, e = .returned (.string u) ∧ 0 < u.size) ∧ Below W.heap.size W w' := fun W h => trim_no _ W hle (by rw [he]; exact h)
  have HS := Lib.hid sgn
  have HS' := Lib.hid sgn'
  have HY := Lib.hid (fun W h => trim_yes s W hs h)
  have HNO := Lib.hid (fun W h => trim_no s W hs h)
  have HE := Lib.hid he
  have HZ := Lib.hid hz
  obtain ⟨n1, n2⟩ := ne_of_size h0
  unfold maxLen at hs
  clear sgn sgn' he hz hle
  rcases hr with ⟨h1, hr⟩ | ⟨h1, h2, hr⟩ | ⟨h1, h2, hr⟩
  · have HR := Lib.hid hr
    clear hr
    by_cases hd0 : s.size = 1
    · have hzz : (s.extract 1 s.size).toList = [] := by
        rw [ByteArray.toList_eq]
        exact List.length_eq_zero_iff.1 (by rw [len_data, HZ.out]; omega)
      have hrf : r = false := by rw [HR.out, ← HE.out, ← ByteArray.toList_eq, hzz]; rfl
      have HRF := Lib.hid hrf
      have hz2 : (s.extract 1 s.size).toList.isEmpty = true := by rw [hzz]; rfl
      clear hrf hd0
      go_enter Tryz.func73, Tryz.ntmps73
      go_wp2
      go_ret
      exact ⟨ret_bool HRF.out.symm, Below.refl _ _⟩
    · obtain ⟨m1, m2⟩ := ne_of_size (s := s.extract 1 s.size) (by rw [HZ.out]; omega)
      have hq : (s.data.toList.drop 1).isEmpty = false := by rw [← HE.out, ← ByteArray.toList_eq]; exact m2
      by_cases hdd : digsB (s.data.toList.drop 1) = true
      · have HRF := Lib.hid (show r = true by rw [HR.out, hq, hdd]; rfl)
        have C := Lib.hid (fun W => HS.out W (by rw [HZ.out]; omega) hdd)
        clear hdd hd0 hq
        go_enter Tryz.func73, Tryz.ntmps73
        go_wp2_with (go_at_call 91; refine (C.out _).mono ?_; rintro e w1 ⟨rfl, hb⟩)
        go_ret
        exact ⟨ret_bool HRF.out.symm, hb⟩
      · have hdd' : digsB (s.data.toList.drop 1) = false := by simpa using hdd
        have HRF := Lib.hid (show r = false by rw [HR.out, hdd']; simp)
        have C := Lib.hid (fun W => HS'.out W hdd')
        clear hdd hdd' hd0 hq
        go_enter Tryz.func73, Tryz.ntmps73
        go_wp2_with fail
        refine (C.out _).mono ?_
        rintro e w1 ⟨⟨u, rfl, hu⟩, hb⟩
        obtain ⟨u1, u2⟩ := ne_of_size hu
        go_wp2
        go_ret
        exact ⟨ret_bool HRF.out.symm, hb⟩
  · have HR := Lib.hid hr
    clear hr
    by_cases hd0 : s.size = 1
    · have hzz : (s.extract 1 s.size).toList = [] := by
        rw [ByteArray.toList_eq]
        exact List.length_eq_zero_iff.1 (by rw [len_data, HZ.out]; omega)
      have hrf : r = false := by rw [HR.out, ← HE.out, ← ByteArray.toList_eq, hzz]; rfl
      have HRF := Lib.hid hrf
      have hz2 : (s.extract 1 s.size).toList.isEmpty = true := by rw [hzz]; rfl
      clear hrf hd0
      go_enter Tryz.func73, Tryz.ntmps73
      go_wp2
      go_ret
      exact ⟨ret_bool HRF.out.symm, Below.refl _ _⟩
    · obtain ⟨m1, m2⟩ := ne_of_size (s := s.extract 1 s.size) (by rw [HZ.out]; omega)
      have hq : (s.data.toList.drop 1).isEmpty = false := by rw [← HE.out, ← ByteArray.toList_eq]; exact m2
      by_cases hdd : digsB (s.data.toList.drop 1) = true
      · have HRF := Lib.hid (show r = true by rw [HR.out, hq, hdd]; rfl)
        have C := Lib.hid (fun W => HS.out W (by rw [HZ.out]; omega) hdd)
        clear hdd hd0 hq
        go_enter Tryz.func73, Tryz.ntmps73
        go_wp2_with (go_at_call 91; refine (C.out _).mono ?_; rintro e w1 ⟨rfl, hb⟩)
        go_ret
        exact ⟨ret_bool HRF.out.symm, hb⟩
      · have hdd' : digsB (s.data.toList.drop 1) = false := by simpa using hdd
        have HRF := Lib.hid (show r = false by rw [HR.out, hdd']; simp)
        have C := Lib.hid (fun W => HS'.out W hdd')
        clear hdd hdd' hd0 hq
        go_enter Tryz.func73, Tryz.ntmps73
        go_wp2_with fail
        refine (C.out _).mono ?_
        rintro e w1 ⟨⟨u, rfl, hu⟩, hb⟩
        obtain ⟨u1, u2⟩ := ne_of_size hu
        go_wp2
        go_ret
        exact ⟨ret_bool HRF.out.symm, hb⟩
  · have HR := Lib.hid hr
    clear hr
    by_cases hdd : digsB s.data.toList = true
    · have HRF := Lib.hid (show r = true by rw [HR.out, hdd])
      have C := Lib.hid (fun W => HY.out W hdd)
      clear hdd
      go_enter Tryz.func73, Tryz.ntmps73
      go_wp2_with (go_at_call 91; refine (C.out _).mono ?_; rintro e w1 ⟨rfl, hb⟩)
      go_ret
      exact ⟨ret_bool HRF.out.symm, hb⟩
    · have hdd' : digsB s.data.toList = false := by simpa using hdd
      have HRF := Lib.hid (show r = false by rw [HR.out, hdd'])
      have C := Lib.hid (fun W => HNO.out W hdd')
      clear hdd hdd'
      go_enter Tryz.func73, Tryz.ntmps73
      go_wp2_with fail
      refine (C.out _).mono ?_
      rintro e w1 ⟨⟨u, rfl, hu⟩, hb⟩
      obtain ⟨u1, u2⟩ := ne_of_size hu
      go_wp2
      go_ret
      exact ⟨ret_bool HRF.out.symm, hb⟩

theorem isNum_any (s : ByteArray) (w : World) (hs : s.size ≤ maxLen) (h0 : 0 < s.size) :
    Calls Tryz.prog 73 #[.string s] w fun e w' => e = .returned (.bool (numB s.data.toList)) ∧ Below w.heap.size w w' := by
  have h0' : 0 < s.data.toList.length := by rw [len_data]; exact h0
  have hq : s.data.toList[0] = s[0] := rfl
  refine isNum_go s _ w hs h0 ?_
  by_cases h1 : ((s[0].toNat : Int) == 43) = true
  · refine .inl ⟨h1, numB_sign _ h0' ?_⟩
    left
    rw [hq]
    exact UInt8.toNat_inj.1 (by have := beq_iff_eq.1 h1; have e : (43 : UInt8).toNat = 43 := rfl; omega)
  · by_cases h2 : ((s[0].toNat : Int) == 45) = true
    · refine .inr (.inl ⟨by simpa using h1, h2, numB_sign _ h0' ?_⟩)
      right
      rw [hq]
      exact UInt8.toNat_inj.1 (by have := beq_iff_eq.1 h2; have e : (45 : UInt8).toNat = 45 := rfl; omega)
    · refine .inr (.inr ⟨by simpa using h1, by simpa using h2, numB_plain _ h0' ?_⟩)
      rw [hq]
      rintro (h | h)
      · exact h1 (by rw [h]; rfl)
      · exact h2 (by rw [h]; rfl)

/-! ### tokens as values -/
def Tk.val (t : Tk) (a b : Int) : Value := .agg #[.int .i64 t.kind, .string ⟨t.text.toArray⟩, .int .i64 t.int, .int .i64 a, .int .i64 b]
def Tk.row (t : Tk) (a b : Int) : Array Value := #[.int .i64 t.kind, .string ⟨t.text.toArray⟩, .int .i64 t.int, .int .i64 a, .int .i64 b]

theorem results_row_tmp {P : Program} {fn : Func} {t p : Tmp} {ty : TypeId} (h : fn.results = #[.cell p ty, .tmp t]) (tmps : Array Value) (w : World) (g : Nat) (t' : TypeId) (cs : Array Value) (fr : Nat × Nat) (d : TypeDesc)
    (hp : tmps.getD p undef = .pointer (some ⟨g, 0, none⟩)) (hg : w.heap[g]? = some (.cells cs t' fr))
    (hu : P.underlying ty = some d) (hd : (match d with | .struct _ | .array _ _ => true | _ => false) = true) (hi : (P.info? ty).map (·.size) = some cs.size) :
    (results fn tmps).run P w = .ok (.tuple #[.agg cs, tmps.getD t undef]) w := by
  have hp' : tmps[p]?.getD undef = .pointer (some ⟨g, 0, none⟩) := by simpa using hp
  simp [results, h, hp', asAddr, run_loadVar_row w g t' ty cs fr d hg hu hd hi]
theorem results_row_tmp2 {P : Program} {fn : Func} {t u p : Tmp} {ty : TypeId} (h : fn.results = #[.cell p ty, .tmp t, .tmp u]) (tmps : Array Value) (w : World) (g : Nat) (t' : TypeId) (cs : Array Value) (fr : Nat × Nat) (d : TypeDesc)
    (hp : tmps.getD p undef = .pointer (some ⟨g, 0, none⟩)) (hg : w.heap[g]? = some (.cells cs t' fr))
    (hu : P.underlying ty = some d) (hd : (match d with | .struct _ | .array _ _ => true | _ => false) = true) (hi : (P.info? ty).map (·.size) = some cs.size) :
    (results fn tmps).run P w = .ok (.tuple #[.agg cs, tmps.getD t undef, tmps.getD u undef]) w := by
  have hp' : tmps[p]?.getD undef = .pointer (some ⟨g, 0, none⟩) := by simpa using hp
  simp [results, h, hp', asAddr, run_loadVar_row w g t' ty cs fr d hg hu hd hi]
end Go.Proofs.YthfjlcflpneffaaGreatDoor

/-
Contracts of package lex's ofNumeral, ofWord: what each returns, for every word; where the two errors of strconv are as the program lays them.
-/
namespace Go.Proofs.YthfjlcflpneffaaGreatDoor
open Go.ChangeShapes Go.WideShapes Go.ChangeAt Go.RowKit

/-- The world W has come of w, and the token in the first new block is as told. -/
def Res1 (w : World) (y : Array Value) (W : World) : Prop := Below w.heap.size w W ∧ W.heap[w.heap.size]? = some (.cells y 52 (0, 0))
theorem Res1.first (w : World) (y : Array Value) : Res1 w y (w.alloc (.cells y 52)) := ⟨(Below.refl _ _).alloc (Nat.le_refl _) _, heap_alloc_new w _⟩
theorem Res1.lt {w W : World} {y : Array Value} (h : Res1 w y W) : w.heap.size < W.heap.size := lt_of_block h.2
theorem Res1.next {w W W' : World} {y : Array Value} (h : Res1 w y W) (hb : Below W.heap.size W W') : Res1 w y W' :=
  ⟨h.1.trans (hb.mono (by have := h.lt; omega)), (hb.block _ (lt_of_block h.2)).trans h.2⟩
theorem Res1.drew {w W : World} {y : Array Value} (h : Res1 w y W) : Res1 w y W.drew := ⟨h.1.drew, h.2⟩
theorem Res1.cells {w W : World} {x0 x1 x2 x3 x4 : Value} (h : Res1 w #[x0, x1, x2, x3, x4] W) :
    W.cell? ⟨w.heap.size, 0, none⟩ = some x0 ∧ W.cell? ⟨w.heap.size, 1, none⟩ = some x1 ∧ W.cell? ⟨w.heap.size, 2, none⟩ = some x2 ∧ W.cell? ⟨w.heap.size, 3, none⟩ = some x3 ∧ W.cell? ⟨w.heap.size, 4, none⟩ = some x4 := by
  refine ⟨?_, ?_, ?_, ?_, ?_⟩ <;> (rw [Lib.cell_of_heap h.2]; rfl)
theorem Res1.froz {w W : World} {y : Array Value} (h : Res1 w y W) :
    W.frozen? ⟨w.heap.size, 0, none⟩ = false ∧ W.frozen? ⟨w.heap.size, 1, none⟩ = false ∧ W.frozen? ⟨w.heap.size, 2, none⟩ = false ∧ W.frozen? ⟨w.heap.size, 3, none⟩ = false ∧ W.frozen? ⟨w.heap.size, 4, none⟩ = false :=
  ⟨Lib.frozen_of_heap h.2 0, Lib.frozen_of_heap h.2 1, Lib.frozen_of_heap h.2 2, Lib.frozen_of_heap h.2 3, Lib.frozen_of_heap h.2 4⟩
theorem Res1.put {w W : World} {x0 x1 x2 x3 x4 : Value} (h : Res1 w #[x0, x1, x2, x3, x4] W) (y0 y1 y2 y3 y4 : Value) :
    Res1 w #[y0, y1, y2, y3, y4] (((((W.setCell ⟨w.heap.size, 0, none⟩ y0).setCell ⟨w.heap.size, 1, none⟩ y1).setCell ⟨w.heap.size, 2, none⟩ y2).setCell ⟨w.heap.size, 3, none⟩ y3).setCell ⟨w.heap.size, 4, none⟩ y4) := by
  refine ⟨((((h.1.setCell (p := ⟨w.heap.size, 0, none⟩) (Nat.le_refl _) _).setCell (p := ⟨w.heap.size, 1, none⟩) (Nat.le_refl _) _).setCell (p := ⟨w.heap.size, 2, none⟩) (Nat.le_refl _) _).setCell (p := ⟨w.heap.size, 3, none⟩) (Nat.le_refl _) _).setCell (p := ⟨w.heap.size, 4, none⟩) (Nat.le_refl _) _, ?_⟩
  exact heap_setCell_same _ _ 4 _ 52 y4 (heap_setCell_same _ _ 3 _ 52 y3 (heap_setCell_same _ _ 2 _ 52 y2 (heap_setCell_same _ _ 1 _ 52 y1 (heap_setCell_same W _ 0 _ 52 y0 h.2))))
theorem size35 {y0 y1 y2 y3 y4 : Value} : (Tryz.prog.info? 52).map (·.size) = some (#[y0, y1, y2, y3, y4] : Array Value).size := by kernel_rfl
abbrev zero5 : Array Value := #[.int .i64 0, .string ⟨#[]⟩, .int .i64 0, .int .i64 0, .int .i64 0]

def WordOk (l : List UInt8) (e : Ending) : Prop := e = .returned (.tuple #[(wordT l).1.val 0 0, .int .i64 (wordT l).2])

theorem word_num {l : List UInt8} (h : numB l = true) : wordT l = if okNum (numV l) then (⟨6, [], numV l⟩, 0) else (noTk, 33) := by
  have h46 : l ≠ [46] := by rintro rfl; exact absurd h (by decide)
  rw [wordT, if_neg h46, if_pos h]

set_option maxRecDepth 100000 in
theorem ofNum_any (s : ByteArray) (w : World) (hs : s.size ≤ 4096) (h : numB s.data.toList = true) (hE : ErrsOk w) :
    Calls Tryz.prog 74 #[.string s] w fun e w' => WordOk s.data.toList e ∧ Below w.heap.size w w' := by
  have R0 := Lib.hid (Res1.first w zero5)
  have hat := atoi_num h
  have hw := word_num h
  by_cases hr : -9223372036854775808 ≤ numV s.data.toList ∧ numV s.data.toList ≤ 9223372036854775807
  · rw [if_pos hr] at hat
    have C := Tryz.strconv_Atoi_ok s (by omega) _ hat (w.alloc (.cells zero5 52))
    have C' : Calls Tryz.prog 92 #[.string s] (w.alloc (.cells zero5 52)) fun e w' => e = .returned (.tuple #[.int .i64 (numV s.data.toList), .nilIface]) ∧ Below (w.alloc (.cells zero5 52)).heap.size (w.alloc (.cells zero5 52)) w' := by
      refine C.mono ?_
      rintro e w' ⟨he, hw | ⟨t, hw⟩⟩
      · subst hw; exact ⟨he, Below.refl _ _⟩
      · subst hw; exact ⟨he, Lib.bytesWorld_below _ 5 t⟩
    clear C
    by_cases ho : okNum (numV s.data.toList)
    · rw [if_pos ho] at hw
      unfold WordOk
      rw [hw]
      obtain ⟨o1, o2⟩ := ho
      generalize numV s.data.toList = v at C' hw o1 o2 ⊢
      have H := Lib.hid C'
      clear C' hw hat hr
      go_enter Tryz.func74, Tryz.ntmps74
      go_wp2_with fail
      refine H.out.mono ?_
      rintro e w1 ⟨rfl, hb⟩
      have R1 := Lib.hid (R0.out.next hb)
      obtain ⟨c0, c1, c2, c3, c4⟩ := R1.out.cells
      obtain ⟨f0, f1, f2, f3, f4⟩ := R1.out.froz
      go_wp2
      have R2 := R1.out.put (.int .i64 6) (.string ⟨#[]⟩) (.int .i64 v) (.int .i64 0) (.int .i64 0)
      exact bodyPost_ret (results_row_tmp (P := Tryz.prog) rfl _ _ w.heap.size 52 _ (0, 0) _ rfl R2.2 Tryz.underlying52 rfl size35) rfl ⟨rfl, R2.1⟩
    · rw [if_neg ho] at hw
      unfold WordOk
      rw [hw]
      have ho' : numV s.data.toList < -1152921504606846976 ∨ -1152921504606846976 ≤ numV s.data.toList ∧ 1152921504606846975 < numV s.data.toList := by unfold okNum at ho; omega
      generalize numV s.data.toList = v at C' hw ho' hr ⊢
      obtain ⟨r1, r2⟩ := hr
      have H := Lib.hid C'
      clear C' hw hat ho
      rcases ho' with o1 | ⟨o1, o2⟩
      all_goals
        go_enter Tryz.func74, Tryz.ntmps74
        go_wp2_with fail
        refine H.out.mono ?_
        rintro e w1 ⟨rfl, hb⟩
        have R1 := Lib.hid (R0.out.next hb)
        obtain ⟨c0, c1, c2, c3, c4⟩ := R1.out.cells
        obtain ⟨f0, f1, f2, f3, f4⟩ := R1.out.froz
        go_wp2
        have R2 := R1.out.put (.int .i64 0) (.string ⟨#[]⟩) (.int .i64 0) (.int .i64 0) (.int .i64 0)
        exact bodyPost_ret (results_row_tmp (P := Tryz.prog) rfl _ _ w.heap.size 52 _ (0, 0) _ rfl R2.2 Tryz.underlying52 rfl size35) rfl ⟨rfl, R2.1⟩
  · rw [if_neg hr] at hat
    have ho : ¬ okNum (numV s.data.toList) := by unfold okNum; omega
    rw [if_neg ho] at hw
    unfold WordOk
    rw [hw]
    have hE1 := hE.below R0.out.1 hE.two
    obtain ⟨_, tp, p, he⟩ := hE1
    have C := Tryz.strconv_Atoi_range s (by omega) hat (.iface tp p) (w.alloc (.cells zero5 52)) he (.inr ⟨tp, p, rfl⟩)
    generalize Lib.atoiSat s.data.toList = v at C
    have H := Lib.hid C
    clear C hw hat hr he ho
    go_enter Tryz.func74, Tryz.ntmps74
    go_wp2_with fail
    refine H.out.mono ?_
    rintro e w1 ⟨N, rfl, _, _, hb⟩
    have R1 := Lib.hid (R0.out.next hb)
    obtain ⟨c0, c1, c2, c3, c4⟩ := R1.out.cells
    obtain ⟨f0, f1, f2, f3, f4⟩ := R1.out.froz
    go_wp2
    have R2 := R1.out.put (.int .i64 0) (.string ⟨#[]⟩) (.int .i64 0) (.int .i64 0) (.int .i64 0)
    exact bodyPost_ret (results_row_tmp (P := Tryz.prog) rfl _ _ w.heap.size 52 _ (0, 0) _ rfl R2.2 Tryz.underlying52 rfl size35) rfl ⟨rfl, R2.1⟩

theorem clone_any (s : ByteArray) (w : World) (hlim : s.size ≤ 281474976710656) : Calls Tryz.prog 75 #[.string s] w fun e w' => e = .returned (.string s) ∧ Below w.heap.size w w' := by
  have H := Lib.hid (Tryz.stringslite_Clone s w hlim)
  go_enter Tryz.func75, Tryz.ntmps75
  go_wp2_with fail
  refine H.out.mono ?_
  rintro e w1 ⟨rfl, hb⟩
  go_wp2
  go_ret
  exact ⟨rfl, hb⟩

set_option maxRecDepth 100000 in
theorem ofWord_any (s : ByteArray) (w : World) (hs : s.size ≤ 4096) (h0 : 0 < s.size) (hE : ErrsOk w) :
    Calls Tryz.prog 52 #[.string s] w fun e w' => WordOk s.data.toList e ∧ Below w.heap.size w w' := by
  have R0 := Lib.hid (Res1.first w zero5)
  have HE := Lib.hid (fun W (h : Below w.heap.size w W) => hE.below h hE.two)
  have hl := len_data s
  obtain ⟨n1, n2⟩ := ne_of_size h0
  clear hE
  by_cases h46 : s.data.toList = [46]
  · have hw : wordT s.data.toList = (⟨4, [], 0⟩, 0) := by rw [wordT, if_pos h46]
    unfold WordOk
    rw [hw]
    have e1 : s.toList = [46] := by rw [ByteArray.toList_eq]; exact h46
    have e2 : (s.toList == [46]) = true := by rw [e1]; rfl
    clear hw h46 n1 n2 hl
    go_enter Tryz.func52, Tryz.ntmps52
    go_wp2
    have R2 := Res1.first w #[.int .i64 4, .string ⟨#[]⟩, .int .i64 0, .int .i64 0, .int .i64 0]
    exact bodyPost_ret (results_row_tmp (P := Tryz.prog) rfl _ _ w.heap.size 52 _ (0, 0) _ rfl R2.2 Tryz.underlying52 rfl size35) rfl ⟨rfl, R2.1⟩
  · have e1 : ¬ s.toList = [46] := by rw [ByteArray.toList_eq]; exact h46
    have e2 : (s.toList == [46]) = false := by simpa using e1
    have C36 := isNum_any s (w.alloc (.cells zero5 52)) (by unfold maxLen; omega) h0
    by_cases hn : numB s.data.toList = true
    · rw [hn] at C36
      have H36 := Lib.hid C36
      have C37 : ∀ W, ErrsOk W → Calls Tryz.prog 74 #[.string s] W fun e w' => WordOk s.data.toList e ∧ Below W.heap.size W w' := fun W h => ofNum_any s W hs hn h
      unfold WordOk Tk.val at C37
      unfold WordOk Tk.val
      generalize wordT s.data.toList = q at C37 ⊢
      obtain ⟨t, er⟩ := q
      simp only at C37 ⊢
      have H37 := Lib.hid C37
      clear C36 hn h46 hl C37
      go_enter Tryz.func52, Tryz.ntmps52
      go_wp2_with fail
      refine H36.out.mono ?_
      rintro e w1 ⟨rfl, hb⟩
      have R1 := Lib.hid (R0.out.next hb)
      clear hb
      go_wp2_with fail
      refine (H37.out w1 (HE.out _ R1.out.1)).mono ?_
      rintro e w2 ⟨rfl, hb⟩
      have R2 := Lib.hid (R1.out.next hb)
      obtain ⟨c0, c1, c2, c3, c4⟩ := R2.out.cells
      obtain ⟨f0, f1, f2, f3, f4⟩ := R2.out.froz
      go_wp2
      have R3 := R2.out.put (.int .i64 t.kind) (.string ⟨t.text.toArray⟩) (.int .i64 t.int) (.int .i64 0) (.int .i64 0)
      exact bodyPost_ret (results_row_tmp (P := Tryz.prog) rfl _ _ w.heap.size 52 _ (0, 0) _ rfl R3.2 Tryz.underlying52 rfl size35) rfl ⟨rfl, R3.1⟩
    · have hn' : numB s.data.toList = false := by simpa using hn
      rw [hn'] at C36
      have H36 := Lib.hid C36
      clear C36
      by_cases h64 : 64 < s.size
      · have hw : wordT s.data.toList = (noTk, 36) := by rw [wordT, if_neg h46, if_neg hn, if_pos (by omega)]
        unfold WordOk
        rw [hw]
        clear hw hn hn' h46 hl
        have h64' : (64 : Int) < s.size := by omega
        go_enter Tryz.func52, Tryz.ntmps52
        go_wp2_with fail
        refine H36.out.mono ?_
        rintro e w1 ⟨rfl, hb⟩
        have R1 := Lib.hid (R0.out.next hb)
        obtain ⟨c0, c1, c2, c3, c4⟩ := R1.out.cells
        obtain ⟨f0, f1, f2, f3, f4⟩ := R1.out.froz
        go_wp2
        have R3 := R1.out.put (.int .i64 0) (.string ⟨#[]⟩) (.int .i64 0) (.int .i64 0) (.int .i64 0)
        exact bodyPost_ret (results_row_tmp (P := Tryz.prog) rfl _ _ w.heap.size 52 _ (0, 0) _ rfl R3.2 Tryz.underlying52 rfl size35) rfl ⟨rfl, R3.1⟩
      · have hw : wordT s.data.toList = (⟨9, s.data.toList, 0⟩, 0) := by rw [wordT, if_neg h46, if_neg hn, if_neg (by omega)]
        unfold WordOk
        rw [hw]
        clear hw hn hn' h46 hl
        have h64' : (s.size : Int) ≤ 64 := by omega
        go_enter Tryz.func52, Tryz.ntmps52
        go_wp2_with fail
        refine H36.out.mono ?_
        rintro e w1 ⟨rfl, hb⟩
        have R1 := Lib.hid (R0.out.next hb)
        clear hb
        go_wp2_with fail
        refine (clone_any s w1 (by omega)).mono ?_
        rintro e w2 ⟨rfl, hb⟩
        have R2 := Lib.hid (R1.out.next hb)
        obtain ⟨c0, c1, c2, c3, c4⟩ := R2.out.cells
        obtain ⟨f0, f1, f2, f3, f4⟩ := R2.out.froz
        go_wp2
        have R3 := R2.out.put (.int .i64 9) (.string s) (.int .i64 0) (.int .i64 0) (.int .i64 0)
        exact bodyPost_ret (results_row_tmp (P := Tryz.prog) rfl _ _ w.heap.size 52 _ (0, 0) _ rfl R3.2 Tryz.underlying52 rfl size35) rfl ⟨rfl, R3.1⟩
end Go.Proofs.YthfjlcflpneffaaGreatDoor

/-
Contracts of package lex's charByte, stringByte: what each returns, for every string; where the two errors of strconv are as the program lays them.
-/
namespace Go.Proofs.YthfjlcflpneffaaGreatDoor
open Go.ChangeShapes Go.WideShapes Go.ChangeAt Go.RowKit

theorem byte_is {c : UInt8} {m : UInt8} {n : Int} (hn : n = (m.toNat : Int)) (h : ((c.toNat : Int) == n) = true) : c = m := UInt8.toNat_inj.1 (by have := beq_iff_eq.1 h; omega)
theorem byte_not {c : UInt8} {m : UInt8} {n : Int} (hn : n = (m.toNat : Int)) (h : ((c.toNat : Int) == n) = false) : c ≠ m := fun e => by
  rw [e, ← hn] at h; simp at h
theorem list_one {s : ByteArray} (h : s.size = 1) (h0 : 0 < s.size) : s.data.toList = [s[0]] := by
  have hl := len_data s
  match hs : s.data.toList, hl with
  | [a], _ =>
    congr 1
    have : s.data.toList[0]'(by rw [hs]; simp) = a := by simp [hs]
    exact this.symm
  | [], hl => simp at hl; omega
  | _ :: _ :: _, hl => simp at hl; omega
theorem head_data {s : ByteArray} (h0 : 0 < s.size) : s.data.toList.head? = some s[0] := by
  rw [List.head?_eq_getElem?, List.getElem?_eq_getElem (by rw [len_data]; exact h0)]
  rfl

set_option maxRecDepth 100000 in
theorem charByte_any (s : ByteArray) (w : World) (hs : s.size ≤ 4096) (h0 : 0 < s.size) (hE : ErrsOk w) :
    Calls Tryz.prog 89 #[.string s] w fun e w' => e = .returned (optV (charV s.data.toList)) ∧ Below w.heap.size w w' := by
  have hl := len_data s
  obtain ⟨n1, n2⟩ := ne_of_size h0
  by_cases h1 : s.size = 1
  · have e : charV s.data.toList = some s[0].toNat := by
      rw [charV, if_pos (by omega), head_data h0]; rfl
    rw [e]
    have h1' : ((s.size : Int) == 1) = true := by rw [h1]; rfl
    have hlt := s[0].toNat_lt
    clear e hl h1
    go_enter Tryz.func89, Tryz.ntmps89
    go_wp2
    go_ret2
    exact ⟨rfl, Below.refl _ _⟩
  have h1' : ((s.size : Int) == 1) = false := by simp; omega
  by_cases h2 : s.data.toList = [115, 112, 97, 99, 101]
  · have e : charV s.data.toList = some 32 := by rw [charV, if_neg (by omega), if_pos h2]
    rw [e]
    have e1 : s.toList = [115, 112, 97, 99, 101] := by rw [ByteArray.toList_eq]; exact h2
    have e2 : (s.toList == [115, 112, 97, 99, 101]) = true := by rw [e1]; rfl
    clear e hl h1 h2 n1 n2
    go_enter Tryz.func89, Tryz.ntmps89
    go_wp2
    go_ret2
    exact ⟨rfl, Below.refl _ _⟩
  have h2a : ¬ s.toList = [115, 112, 97, 99, 101] := by rw [ByteArray.toList_eq]; exact h2
  have h2b : (s.toList == [115, 112, 97, 99, 101]) = false := by simpa using h2a
  by_cases h3 : s.data.toList = [110, 101, 119, 108, 105, 110, 101]
  · have e : charV s.data.toList = some 10 := by rw [charV, if_neg (by omega), if_neg h2, if_pos h3]
    rw [e]
    have e1 : s.toList = [110, 101, 119, 108, 105, 110, 101] := by rw [ByteArray.toList_eq]; exact h3
    have e2 : (s.toList == [110, 101, 119, 108, 105, 110, 101]) = true := by rw [e1]; rfl
    clear e hl h1 h2 h3 n1 n2 h2a
    go_enter Tryz.func89, Tryz.ntmps89
    go_wp2
    go_ret2
    exact ⟨rfl, Below.refl _ _⟩
  have h3a : ¬ s.toList = [110, 101, 119, 108, 105, 110, 101] := by rw [ByteArray.toList_eq]; exact h3
  have h3b : (s.toList == [110, 101, 119, 108, 105, 110, 101]) = false := by simpa using h3a
  by_cases hx : ((s[0].toNat : Int) == 120) = true
  · have e : charV s.data.toList = hexO (s.extract 1 s.size).data.toList := by
      have he : (s.extract 1 s.size).data.toList = s.data.toList.drop 1 := by rw [Lib.extract_data, List.take_of_length_le]; simp
      have hc : s.data.toList.head? = some 120 := by rw [head_data h0, byte_is (m := 120) rfl hx]
      rw [he, charV, if_neg (by omega), if_neg h2, if_neg h3, hexO, List.length_drop]
      by_cases h : s.data.toList.length = 3
      · rw [if_pos ⟨h, hc⟩, if_pos (by omega)]
      · rw [if_neg (by omega), if_neg (by omega)]
    rw [e]
    have C := hexByte_any (s.extract 1 s.size) w hE
    generalize hexO (s.extract 1 s.size).data.toList = o at C ⊢
    have H := Lib.hid C
    clear e hl h1 h2 h3 C
    cases o with
    | none =>
      go_enter Tryz.func89, Tryz.ntmps89
      go_wp2_with fail
      refine H.out.mono ?_
      rintro e w1 ⟨he, hb⟩
      rw [optV] at he
      subst he
      go_wp2
      go_ret2
      exact ⟨rfl, hb⟩
    | some x =>
      go_enter Tryz.func89, Tryz.ntmps89
      go_wp2_with fail
      refine H.out.mono ?_
      rintro e w1 ⟨he, hb⟩
      rw [optV] at he
      subst he
      go_wp2
      go_ret2
      exact ⟨rfl, hb⟩
  · have hx' : ((s[0].toNat : Int) == 120) = false := by simpa using hx
    have e : charV s.data.toList = none := by
      have hc : ¬ s.data.toList.head? = some 120 := by
        rw [head_data h0]
        intro h
        exact byte_not (m := 120) rfl hx' (by simpa using h)
      rw [charV, if_neg (by omega), if_neg h2, if_neg h3, if_neg (fun h => hc h.2)]
    rw [e]
    clear e hl h1 h2 h3 hx
    go_enter Tryz.func89, Tryz.ntmps89
    go_wp2
    go_ret2
    exact ⟨rfl, Below.refl _ _⟩

theorem data_cons {s : ByteArray} (h0 : 0 < s.size) : s.data.toList = s[0] :: s.data.toList.drop 1 := by
  have := List.drop_eq_getElem_cons (l := s.data.toList) (i := 0) (by rw [len_data]; exact h0)
  rw [List.drop_zero] at this
  exact this
theorem data_cons2 {s : ByteArray} (h1 : 1 < s.size) : s.data.toList = s[0] :: s[1] :: s.data.toList.drop 2 := by
  have a := data_cons (s := s) (by omega)
  have := List.drop_eq_getElem_cons (l := s.data.toList) (i := 1) (by rw [len_data]; exact h1)
  rw [this] at a
  exact a
end Go.Proofs.YthfjlcflpneffaaGreatDoor
