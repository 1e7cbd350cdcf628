/-
Contracts of the document's small functions of layer 3: sixteen, two, Word, gap: what each returns, for every string. No condition.
-/
import Derived.Test.YtiamojpeedllbaaGreatDoorT3
namespace Go.Proofs.YtiamojpeedllbaaGreatDoor
open Go.ChangeShapes Go.WideShapes Go.ChangeAt Go.RowKit

def hexI (c : UInt8) : Int := match hexV c with | some x => (x : Int) | none => -1
def twoI (l : List UInt8) : Int := match twoV l with | some x => (x : Int) | none => -1

theorem sixteen_any (c : UInt8) (w : World) : Calls Tryz.prog 123 #[.int .u8 c.toNat] w fun e w' => e = .returned (.int .i64 (hexI c)) ∧ w = w' := by
  have hc := c.toNat_lt
  by_cases a : 48 ≤ (c.toNat : Int) ∧ (c.toNat : Int) ≤ 57
  · obtain ⟨a1, a2⟩ := a
    have e : hexI c = (c.toNat : Int) - 48 := by
      unfold hexI hexV
      rw [if_pos (by omega)]; simp only; omega
    have HE := Lib.hid e
    clear e
    go_enter Tryz.func123, Tryz.ntmps123
    go_wp2
    go_ret
    exact ⟨ret_i64 HE.out.symm, rfl⟩
  · by_cases b : 97 ≤ (c.toNat : Int) ∧ (c.toNat : Int) ≤ 102
    · obtain ⟨b1, b2⟩ := b
      have e : hexI c = (c.toNat : Int) - 97 + 10 := by
        unfold hexI hexV
        rw [if_neg (by omega), if_pos (by omega)]; simp only; omega
      have HE := Lib.hid e
      clear e a
      go_enter Tryz.func123, Tryz.ntmps123
      go_wp2
      go_ret
      exact ⟨ret_i64 HE.out.symm, rfl⟩
    · by_cases d : 65 ≤ (c.toNat : Int) ∧ (c.toNat : Int) ≤ 70
      · obtain ⟨d1, d2⟩ := d
        have e : hexI c = (c.toNat : Int) - 65 + 10 := by
          unfold hexI hexV
          rw [if_neg (by omega), if_neg (by omega), if_pos (by omega)]; simp only; omega
        have HE := Lib.hid e
        clear e a b
        go_enter Tryz.func123, Tryz.ntmps123
        go_wp2
        go_ret
        exact ⟨ret_i64 HE.out.symm, rfl⟩
      · have e : hexI c = -1 := by
          unfold hexI hexV
          rw [if_neg (by omega), if_neg (by omega), if_neg (by omega)]
        have HE := Lib.hid e
        clear e
        by_cases l1 : (48 : Int) ≤ c.toNat <;> by_cases l2 : (97 : Int) ≤ c.toNat <;> by_cases l3 : (65 : Int) ≤ c.toNat <;> try omega
        all_goals
          by_cases r1 : (c.toNat : Int) ≤ 57 <;> by_cases r2 : (c.toNat : Int) ≤ 102 <;> by_cases r3 : (c.toNat : Int) ≤ 70 <;> try omega
        all_goals
          clear a b d
          go_enter Tryz.func123, Tryz.ntmps123
          go_wp2
          go_ret
          exact ⟨ret_i64 HE.out.symm, rfl⟩

theorem hexI_lo (c : UInt8) : -1 ≤ hexI c ∧ hexI c ≤ 15 := by
  unfold hexI
  cases h : hexV c with
  | none => simp
  | some x => have := hexV_lt h; simp only; omega
theorem twoI_short {l : List UInt8} (h : l.length < 2) : twoI l = -1 := by
  match l, h with
  | [], _ => rfl
  | [_], _ => rfl
theorem twoI_two {a b : UInt8} {r : List UInt8} : twoI (a :: b :: r) = if hexI a < 0 ∨ hexI b < 0 then -1 else 16 * hexI a + hexI b := by
  unfold twoI hexI
  rw [twoV]
  cases hexV a <;> cases hexV b
  · simp
  · simp
  · simp
  · rename_i x y
    simp only
    rw [if_neg (by omega)]; omega

set_option maxHeartbeats 1000000 in
theorem two_any (s : ByteArray) (k : Nat) (w : World) (_hs : s.size ≤ 4096) (hk : k ≤ 8192) :
    Calls Tryz.prog 106 #[.string s, .int .i64 k] w fun e w' => e = .returned (.int .i64 (twoI (s.data.toList.drop k))) ∧ w = w' := by
  have HL := Lib.hid (len_data s)
  by_cases h : s.size < k + 2
  · have e : twoI (s.data.toList.drop k) = -1 := twoI_short (by rw [List.length_drop, HL.out]; omega)
    have HE := Lib.hid e
    have hh : (s.size : Int) < (k : Int) + 2 := by omega
    clear e
    go_enter Tryz.func106, Tryz.ntmps106
    go_wp2
    go_ret
    exact ⟨ret_i64 HE.out.symm, rfl⟩
  · have hk0 : k < s.size := by omega
    have hk1 : k + 1 < s.size := by omega
    have hd : s.data.toList.drop k = s[k] :: s[k + 1] :: s.data.toList.drop (k + 2) := by
      rw [List.drop_eq_getElem_cons (by rw [HL.out]; exact hk0), List.drop_eq_getElem_cons (i := k + 1) (by rw [HL.out]; exact hk1)]
      rfl
    have HE : Hid (twoI (s.data.toList.drop k) = if hexI s[k] < 0 ∨ hexI s[k + 1] < 0 then -1 else 16 * hexI s[k] + hexI s[k + 1]) := Lib.hid (by rw [hd]; exact twoI_two)
    have HC := Lib.hid (fun c W => sixteen_any c W)
    obtain ⟨p1, p2⟩ := hexI_lo s[k]
    obtain ⟨q1, q2⟩ := hexI_lo s[k + 1]
    clear hd
    have hh : (k : Int) + 2 ≤ (s.size : Int) := by omega
    by_cases n1 : hexI s[k] < 0
    · have HE1 := Lib.hid (HE.out.trans (if_pos (.inl n1)))
      go_enter Tryz.func106, Tryz.ntmps106
      go_wp2_with (go_at_call 123; ((with_reducible refine (HC.out _ _).mono ?_); rintro e w' ⟨rfl, rfl⟩))
      go_ret
      exact ⟨ret_i64 HE1.out.symm, rfl⟩
    · by_cases n2 : hexI s[k + 1] < 0
      · have HE1 := Lib.hid (HE.out.trans (if_pos (.inr n2)))
        go_enter Tryz.func106, Tryz.ntmps106
        go_wp2_with (go_at_call 123; ((with_reducible refine (HC.out _ _).mono ?_); rintro e w' ⟨rfl, rfl⟩))
        go_ret
        exact ⟨ret_i64 HE1.out.symm, rfl⟩
      · have HE1 := Lib.hid (HE.out.trans (if_neg (by omega)))
        go_enter Tryz.func106, Tryz.ntmps106
        go_wp2_with (go_at_call 123; ((with_reducible refine (HC.out _ _).mono ?_); rintro e w' ⟨rfl, rfl⟩))
        go_ret
        exact ⟨ret_i64 HE1.out.symm, rfl⟩

set_option maxRecDepth 100000 in
theorem rword_any (s : ByteArray) (at_ : Nat) (w : World) (hs : s.size ≤ maxLen) (ha : at_ ≤ s.size) :
    Calls Tryz.prog 86 #[.string s, .int .i64 at_] w fun e w' => e = .returned (.int .i64 ((wordL (s.data.toList.drop at_)).length : Int)) ∧ w = w' := by
  unfold maxLen at hs
  have HL := Lib.hid (len_data s)
  go_enter Tryz.func86, Tryz.ntmps86
  go_wp2
  go_loop [5] (fun i => ∃ k : Nat, at_ + k ≤ s.size ∧ i = .int .i64 k ∧ ((s.data.toList.drop at_).take k).all nby8 = true) (fun i => s.size - (intOf i).toNat)
  case atStart => exact ⟨0, ha, rfl, by simp⟩
  case round =>
    obtain ⟨k, hk, rfl, hn⟩ := hrel
    by_cases hlt : at_ + k < s.size
    · have hlen : k < (s.data.toList.drop at_).length := by rw [List.length_drop, HL.out]; omega
      have ht := all_take_succ (s.data.toList.drop at_) nby8 k hlen
      rw [hn, Bool.true_and] at ht
      have hget : (s.data.toList.drop at_)[k] = s[at_ + k] := by rw [List.getElem_drop]; rfl
      rw [hget] at ht
      have HT := Lib.hid ht
      have HN := Lib.hid hn
      have HG := Lib.hid hget
      clear hn ht hget
      have C := rbyte_any s[at_ + k].toNat
      by_cases hc : nby8 s[at_ + k] = true
      · rw [show nbyB s[at_ + k].toNat = true from hc] at C
        have H := Lib.hid C
        have HC := Lib.hid hc
        clear C hc
        go_wp2_with (go_at_call 29; ((with_reducible refine (H.out _).mono ?_); rintro e w' ⟨rfl, rfl⟩))
        go_round
        case rel => exact ⟨k + 1, by omega, by go_num, HT.out.trans HC.out⟩
        case measure => simp [intOf]; omega
      · have hc' : nby8 s[at_ + k] = false := by simpa using hc
        rw [show nbyB s[at_ + k].toNat = false from hc'] at C
        have H := Lib.hid C
        have HC := Lib.hid hc'
        clear C hc hc'
        go_wp2_with (go_at_call 29; ((with_reducible refine (H.out _).mono ?_); rintro e w' ⟨rfl, rfl⟩))
        go_ret
        refine ⟨ret_i64 ?_, rfl⟩
        rw [word_upto HN.out (by omega) (stops_at hlen (by rw [HG.out]; exact HC.out))]
    · obtain rfl : k = s.size - at_ := by omega
      have HN := Lib.hid hn
      clear hn
      go_wp2
      go_ret
      refine ⟨ret_i64 ?_, rfl⟩
      rw [word_upto HN.out (by rw [List.length_drop, HL.out]; omega) (by rw [List.drop_of_length_le (by rw [List.length_drop, HL.out]; omega)]; exact stops_nil)]
theorem gap_same {l : List UInt8} (h : ∀ c, l.head? = some c → c = 10) : gapS false l = gapS true l := by
  match l with
  | [] => simp [gapS]
  | c :: r =>
    obtain rfl := h c rfl
    simp [gapS, gapB]

set_option maxRecDepth 100000 in
set_option maxHeartbeats 2000000 in
theorem rgap_any (s : ByteArray) (at_ : Nat) (w : World) (hs : s.size ≤ 4096) (ha : at_ ≤ s.size) :
    Calls Tryz.prog 57 #[.string s, .int .i64 at_] w fun e w' => e = .returned (.int .i64 ((s.size - (gapS false (s.data.toList.drop at_)).length : Nat) : Int)) ∧ w = w' := by
  have HL := Lib.hid (len_data s)
  go_enter Tryz.func57, Tryz.ntmps57
  go_wp2
  go_loop [1, 5] (fun i c => ∃ k : Nat, k ≤ s.size ∧ i = .int .i64 k ∧ gapS false (s.data.toList.drop k) = gapS false (s.data.toList.drop at_)) (fun i _ => s.size - (intOf i).toNat)
  case atStart => exact ⟨at_, ha, rfl, rfl⟩
  case round =>
    obtain ⟨k, hk, rfl, hn⟩ := hrel
    by_cases hlt : k < s.size
    · have hcons : s.data.toList.drop k = s[k] :: s.data.toList.drop (k + 1) := List.drop_eq_getElem_cons (by rw [HL.out]; exact hlt)
      have HN := Lib.hid hn
      have HCO := Lib.hid hcons
      clear hn hcons
      have byte : ∀ (c : UInt8) (n : Int), n = (c.toNat : Int) → ((s[k].toNat : Int) == n) = true → s[k] = c := fun c n hn h => UInt8.toNat_inj.1 (by have := beq_iff_eq.1 h; omega)
      have bnot : ∀ (c : UInt8) (n : Int), n = (c.toNat : Int) → ((s[k].toNat : Int) == n) = false → s[k] ≠ c := fun c n hn h e => by
        rw [e, ← hn] at h; simp at h
      have BY := Lib.hid byte
      have BN := Lib.hid bnot
      clear byte bnot
      by_cases h59 : ((s[k].toNat : Int) == 59) = true
      · have H59 := Lib.hid (BY.out 59 59 rfl h59)
        go_wp2
        go_loop [1] (fun i => ∃ j : Nat, k ≤ j ∧ j ≤ s.size ∧ i = .int .i64 j ∧ gapS true (s.data.toList.drop j) = gapS false (s.data.toList.drop at_)) (fun i => s.size - (intOf i).toNat)
        case atStart =>
          refine ⟨k, Nat.le_refl _, hk, rfl, ?_⟩
          rw [← HN.out, HCO.out, H59.out, gapS, gapS, if_neg (by decide), if_pos rfl]
        case round =>
          obtain ⟨j, hkj, hj, rfl, hm⟩ := hrel
          have HM := Lib.hid hm
          clear hm
          by_cases hlj : j < s.size
          · have hcj : s.data.toList.drop j = s[j] :: s.data.toList.drop (j + 1) := List.drop_eq_getElem_cons (by rw [HL.out]; exact hlj)
            have HCJ := Lib.hid hcj
            clear hcj
            by_cases hc : ((s[j].toNat : Int) != 10) = true
            · have hc' : ¬ s[j] = 10 := by
                intro e; rw [e] at hc; exact absurd hc (by decide)
              have NX : Hid (gapS true (s.data.toList.drop (j + 1)) = gapS false (s.data.toList.drop at_)) := Lib.hid (by
                rw [← HM.out, HCJ.out, gapS, if_neg hc'])
              clear hc'
              go_wp2
              go_round
              case rel => exact ⟨j + 1, by omega, by omega, by go_num, NX.out⟩
              case measure => simp [intOf]; omega
            · have hc1 : ((s[j].toNat : Int) != 10) = false := by simpa using hc
              have hc' : s[j] = 10 := by
                simp only [bne_eq_false_iff_eq] at hc1
                exact UInt8.toNat_inj.1 (by have e : (10 : UInt8).toNat = 10 := rfl; omega)
              have hne : k ≠ j := by
                rintro rfl
                have := H59.out
                rw [hc'] at this
                exact absurd this (by decide)
              have NX : Hid (gapS false (s.data.toList.drop j) = gapS false (s.data.toList.drop at_)) := Lib.hid (by
                rw [gap_same (l := s.data.toList.drop j) (by rw [HCJ.out]; intro c hcc; simp at hcc; rw [← hcc, hc'])]
                exact HM.out)
              clear hc' hc
              go_wp2
              go_round
              case rel => exact ⟨j, by omega, by go_num, NX.out⟩
              case measure => simp [intOf]; omega
          · obtain rfl : j = s.size := by omega
            have NX : Hid (gapS false (s.data.toList.drop s.size) = gapS false (s.data.toList.drop at_)) := Lib.hid (by
              rw [gap_same (l := s.data.toList.drop s.size) (by rw [List.drop_of_length_le (by rw [HL.out]; exact Nat.le_refl _)]; intro c hcc; cases hcc)]
              exact HM.out)
            go_wp2
            go_round
            case rel => exact ⟨s.size, by omega, by go_num, NX.out⟩
            case measure => simp [intOf]; omega
      · have n59 : ((s[k].toNat : Int) == 59) = false := by simpa using h59
        have H59 := Lib.hid (BN.out 59 59 rfl n59)
        clear h59
        by_cases hg : gapB s[k] = true
        · have NX : Hid (gapS false (s.data.toList.drop (k + 1)) = gapS false (s.data.toList.drop at_)) := Lib.hid (by
            rw [← HN.out, HCO.out, gapS, if_neg H59.out, if_pos hg])
          have hb : ((s[k].toNat : Int) == 9) = true ∨ ((s[k].toNat : Int) == 9) = false ∧ (((s[k].toNat : Int) == 10) = true ∨ ((s[k].toNat : Int) == 10) = false ∧ (((s[k].toNat : Int) == 13) = true ∨ ((s[k].toNat : Int) == 13) = false ∧ ((s[k].toNat : Int) == 32) = true)) := by
            simp only [gapB, Bool.or_eq_true, beq_iff_eq] at hg
            rcases hg with ((h | h) | h) | h <;> rw [h] <;> decide
          clear hg
          rcases hb with h9 | ⟨h9, h10 | ⟨h10, h13 | ⟨h13, h32⟩⟩⟩
          all_goals
            go_wp2
            go_round
            case rel => exact ⟨k + 1, by omega, by go_num, NX.out⟩
            case measure => simp [intOf]; omega
        · have hg' : gapB s[k] = false := by simpa using hg
          have NX : Hid (gapS false (s.data.toList.drop k) = s.data.toList.drop k) := Lib.hid (by
            rw [HCO.out]
            exact gap_shut _ _ H59.out hg')
          have bb : ∀ (c : UInt8) (n : Int), n = (c.toNat : Int) → gapB c = true → ((s[k].toNat : Int) == n) = false := fun c n hn hc => by
            cases hq : ((s[k].toNat : Int) == n) with
            | false => rfl
            | true =>
              exfalso
              have := BY.out c n hn hq
              rw [this, hc] at hg'
              cases hg'
          have h9 := bb 9 9 rfl (by decide)
          have h10 := bb 10 10 rfl (by decide)
          have h13 := bb 13 13 rfl (by decide)
          have h32 := bb 32 32 rfl (by decide)
          clear hg hg' bb
          go_wp2
          go_ret
          refine ⟨ret_i64 ?_, rfl⟩
          have := gap_place (l := s.data.toList) HN.out (by rw [HL.out]; exact hk) NX.out
          rw [HL.out] at this
          omega
    · obtain rfl : k = s.size := by omega
      have HN := Lib.hid hn
      clear hn
      go_wp2
      go_ret
      refine ⟨ret_i64 ?_, rfl⟩
      have hnil : s.data.toList.drop s.size = [] := List.drop_of_length_le (by rw [HL.out]; exact Nat.le_refl _)
      have := HN.out
      rw [hnil] at this
      rw [← this]
      simp [gapS]
end Go.Proofs.YtiamojpeedllbaaGreatDoor
