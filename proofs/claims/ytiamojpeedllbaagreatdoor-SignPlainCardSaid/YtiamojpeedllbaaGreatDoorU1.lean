/-
The document's side of a word: Number, word: what each returns. For strings of at most 4096 bytes.
-/
import Derived.Test.YtiamojpeedllbaaGreatDoorT17
namespace Go.Proofs.YtiamojpeedllbaaGreatDoor
open Go.ChangeShapes Go.WideShapes Go.ChangeAt Go.RowKit

theorem tdiv_dec (d : Int) (h0 : 0 ≤ d) (h9 : d ≤ 9) (m : Int) : (-m < (-1152921504606846976 + d).tdiv 10) ↔ 1152921504606846976 < 10 * m + d := by
  have e : (-1152921504606846976 + d).tdiv 10 = -((1152921504606846976 - d) / 10) := by
    rw [show -1152921504606846976 + d = -(1152921504606846976 - d) by omega, Int.neg_tdiv, Int.tdiv_eq_ediv_of_nonneg (by omega)]
  rw [e]; omega

/-- What the document's Number answers at a numeral that says V. -/
def RNumOk (V : Int) (e : Ending) : Prop := ∃ x b, e = .returned (.tuple #[.int .i64 x, .bool b]) ∧ b = decide (okNum V) ∧ (b = true → x = V)

set_option maxRecDepth 100000 in
set_option maxHeartbeats 2000000 in
theorem rnum_walk (s : ByteArray) (p : Nat) (lowB : Bool) (w : World) (hs : s.size ≤ 4096) (h0 : 0 < s.size) (hp : p = 0 ∧ lowB = false ∨ p = 1 ∧ digB s[0].toNat = false ∧ ((s[0].toNat : Int) == 45) = lowB)
    (hd : digsB (s.data.toList.drop p) = true) (V : Int) (hV : V = if lowB then -(decN 0 (s.data.toList.drop p) : Int) else (decN 0 (s.data.toList.drop p) : Int)) :
    Calls Tryz.prog 107 #[.string s] w fun e w' => RNumOk V e ∧ w = w' := by
  have hl : s.data.toList.length = s.size := by rw [Array.length_toList]; rfl
  have hdig : ∀ k (h : k < s.size), p ≤ k → 48 ≤ s[k].toNat ∧ s[k].toNat ≤ 57 := fun k h hk => by
    have h1 : s[k] ∈ s.data.toList.drop p := by
      rw [List.mem_drop_iff_getElem]
      exact ⟨k - p, by rw [hl]; omega, by simp only [show p + (k - p) = k by omega]; rfl⟩
    have h2 := List.all_eq_true.1 hd _ h1
    simp only [dig8, digB, Bool.and_eq_true, decide_eq_true_eq] at h2
    omega
  have hsn : ∀ k (h : k < s.size), p ≤ k → decN 0 ((s.data.toList.drop p).take (k + 1 - p)) = decN 0 ((s.data.toList.drop p).take (k - p)) * 10 + (s[k].toNat - 48) := fun k h hk => by
    rw [show k + 1 - p = (k - p) + 1 by omega, List.take_succ_eq_append_getElem (by rw [List.length_drop, hl]; omega), decN_snoc]
    have e : (s.data.toList.drop p)[k - p]'(by rw [List.length_drop, hl]; omega) = s[k] := by
      rw [List.getElem_drop]
      simp only [show p + (k - p) = k by omega]; rfl
    rw [e]
  have hle : ∀ k, decN 0 ((s.data.toList.drop p).take k) ≤ decN 0 (s.data.toList.drop p) := fun k => decN_take_le _ k 0
  have hend : (s.data.toList.drop p).take (s.size - p) = s.data.toList.drop p := List.take_of_length_le (by rw [List.length_drop, hl]; exact Nat.le_refl _)
  have h00 : decN 0 ((s.data.toList.drop p).take 0) = 0 := by simp [decN]
  obtain ⟨A, hA⟩ : ∃ A : Nat → Nat, A = fun k => decN 0 ((s.data.toList.drop p).take (k - p)) := ⟨_, rfl⟩
  have a0 : A 0 = 0 := by rw [hA]; simp [decN]
  have ap : A 1 = 0 ∨ p = 0 := by rcases hp with h | h; · exact .inr h.1
                                  · left; rw [hA]; simp [h.1, decN]
  have an : A s.size = decN 0 (s.data.toList.drop p) := by rw [hA]; simp only [hend]
  have asn : ∀ k (h : k < s.size), p ≤ k → A (k + 1) = A k * 10 + (s[k].toNat - 48) := fun k h hk => by rw [hA]; exact hsn k h hk
  have al : ∀ k, A k ≤ decN 0 (s.data.toList.drop p) := fun k => by rw [hA]; exact hle _
  clear hA hsn hle hend h00 hl
  generalize decN 0 (s.data.toList.drop p) = N at hV an al
  have HDG := Lib.hid hdig
  have HA := Lib.hid asn
  have HL := Lib.hid al
  have HN := Lib.hid an
  have HP := Lib.hid hp
  have HAP := Lib.hid ap
  have HV := Lib.hid hV
  clear hdig asn al an hp ap hV hd
  go_enter Tryz.func107, Tryz.ntmps107
  go_wp2
  go_loop [6, 5, 4] (fun i lo n => ∃ (k : Nat) (b : Bool), k ≤ s.size ∧ i = .int .i64 k ∧ lo = .bool b ∧ (p ≤ k → b = lowB) ∧ n = .int .i64 (-(A k : Int)) ∧ A k ≤ 1152921504606846976) (fun i _ _ => s.size - (intOf i).toNat)
  case atStart =>
    refine ⟨0, false, Nat.zero_le _, rfl, rfl, fun h => ?_, by simp [a0], by simp [a0]⟩
    rcases HP.out with h2 | h2
    · exact h2.2.symm
    · omega
  case round =>
    obtain ⟨k, b, hk, rfl, rfl, hb, rfl, hm⟩ := hrel
    have HB := Lib.hid hb
    clear hb
    by_cases hlt : k < s.size
    · by_cases hpk : p ≤ k
      · obtain ⟨d1, d2⟩ := HDG.out k hlt hpk
        have hs1 := HA.out k hlt hpk
        have C := rdigit_any s[k].toNat
        rw [show digB s[k].toNat = true by simp [digB]; omega] at C
        have H := Lib.hid C
        have HS := Lib.hid hs1
        have hdv := tdiv_dec ((s[k].toNat : Int) - 48) (by omega) (by omega) (A k)
        clear C hs1
        by_cases hgt : 1152921504606846976 < 10 * A k + (s[k].toNat - 48)
        · have hdv' : -(A k : Int) < (-1152921504606846976 + ((s[k].toNat : Int) - 48)).tdiv 10 := hdv.2 (by omega)
          clear hdv
          go_wp2_with (go_at_call 55; ((with_reducible refine (H.out _).mono ?_); rintro e w' ⟨rfl, rfl⟩))
          go_ret2
          refine ⟨⟨0, false, rfl, (decide_eq_false fun h => ?_).symm, fun h => by cases h⟩, rfl⟩
          have h1 := HS.out
          have h2 := HL.out (k + 1)
          have h3 := HV.out
          unfold okNum at h
          cases lowB <;> simp at h3 <;> omega
        · have hdv' : (-1152921504606846976 + ((s[k].toNat : Int) - 48)).tdiv 10 ≤ -(A k : Int) := by
            have := mt hdv.1 (by omega)
            omega
          clear hdv
          go_wp2_with (go_at_call 55; ((with_reducible refine (H.out _).mono ?_); rintro e w' ⟨rfl, rfl⟩))
          go_round
          case rel =>
            have h1 := HS.out
            refine ⟨k + 1, b, by omega, by go_num, rfl, fun _ => HB.out hpk, ?_, by omega⟩
            rw [show 10 * -(A k : Int) - ((s[k].toNat : Int) - 48) = -(A (k + 1) : Int) by omega]
          case measure => simp [intOf]; omega
      · have hk0 : k = 0 ∧ p = 1 ∧ digB s[0].toNat = false ∧ ((s[0].toNat : Int) == 45) = lowB := by
          rcases HP.out with h2 | h2
          · omega
          · exact ⟨by omega, h2⟩
        obtain ⟨rfl, rfl, hd0, hl0⟩ := hk0
        have C := rdigit_any s[0].toNat
        rw [hd0] at C
        have H := Lib.hid C
        have HL0 := Lib.hid hl0
        clear C hl0 hd0
        go_wp2_with (go_at_call 55; ((with_reducible refine (H.out _).mono ?_); rintro e w' ⟨rfl, rfl⟩))
        have a1 : A 1 = 0 := by
          rcases HAP.out with h | h
          · exact h
          · cases h
        go_round
        case rel => exact ⟨1, _, by omega, rfl, rfl, fun _ => HL0.out, by simp [a1], by omega⟩
        case measure => simp [intOf]; omega
    · obtain rfl : k = s.size := by omega
      have hps : p ≤ s.size := by
        rcases HP.out with h | h <;> omega
      have e := HB.out hps
      subst e
      have hN := HN.out
      cases b
      · go_wp2
        go_ret2
        have h3 := HV.out
        simp at h3
        refine ⟨⟨_, _, rfl, ?_, fun _ => h3.symm⟩, rfl⟩
        refine decide_eq_decide.2 ?_
        unfold okNum
        omega
      · go_wp2
        go_ret2
        have h3 := HV.out
        simp at h3
        refine ⟨⟨_, _, rfl, ?_, fun _ => h3.symm⟩, rfl⟩
        refine decide_eq_decide.2 ?_
        unfold okNum
        omega

theorem rnum_any (s : ByteArray) (w : World) (hs : s.size ≤ 4096) (h : numB s.data.toList = true) :
    Calls Tryz.prog 107 #[.string s] w fun e w' => RNumOk (numV s.data.toList) e ∧ w = w' := by
  have hl : s.data.toList.length = s.size := by rw [Array.length_toList]; rfl
  have first : ∀ c r, s.data.toList = c :: r → ∃ h0 : 0 < s.size, s[0] = c := fun c r e => by
    have h0 : 0 < s.size := by rw [← hl, e]; simp
    refine ⟨h0, ?_⟩
    have : s.data.toList[0]'(by rw [hl]; exact h0) = c := by simp only [e]; rfl
    exact this
  rcases num_ways h with ⟨r, e, _, hd, hv⟩ | ⟨r, e, _, hd, hv⟩ | ⟨c, r, e, h1, h2, hd, hv⟩
  · obtain ⟨h0, h3⟩ := first _ _ e
    exact rnum_walk s 1 false w hs h0 (.inr ⟨rfl, by rw [h3]; rfl, by rw [h3]; rfl⟩) (by rw [e]; exact hd) _ (by rw [hv, e]; rfl)
  · obtain ⟨h0, h3⟩ := first _ _ e
    exact rnum_walk s 1 true w hs h0 (.inr ⟨rfl, by rw [h3]; rfl, by rw [h3]; rfl⟩) (by rw [e]; exact hd) _ (by rw [hv, e]; rfl)
  · obtain ⟨h0, h3⟩ := first _ _ e
    exact rnum_walk s 0 false w hs h0 (.inl ⟨rfl, rfl⟩) hd _ (by rw [hv]; rfl)

set_option maxRecDepth 100000 in
set_option maxHeartbeats 2000000 in
theorem rwordT_any (s : ByteArray) (w : World) (hs : s.size ≤ 4096) :
    Calls Tryz.prog 87 #[.string s] w fun e w' => WordOk s.data.toList e ∧ Below w.heap.size w w' := by
  have R0 := Lib.hid (Res1.first w zero5)
  have hl := len_data s
  by_cases h46 : s.data.toList = [46]
  · have hw : wordT s.data.toList = (⟨4, [], 0⟩, 0) := by rw [wordT, if_pos h46]
    unfold WordOk
    rw [hw]
    have e1 : s.toList = [46] := by rw [ByteArray.toList_eq]; exact h46
    have e2 : (s.toList == [46]) = true := by rw [e1]; rfl
    clear hw h46 hl
    go_enter Tryz.func87, Tryz.ntmps87
    go_wp2
    have R2 := Res1.first w #[.int .i64 4, .string ⟨#[]⟩, .int .i64 0, .int .i64 0, .int .i64 0]
    exact bodyPost_ret (results_row_tmp (P := Tryz.prog) rfl _ _ w.heap.size 33 _ (0, 0) _ rfl R2.2 Tryz.underlying33 rfl size35) rfl ⟨rfl, R2.1⟩
  · have e1 : ¬ s.toList = [46] := by rw [ByteArray.toList_eq]; exact h46
    have e2 : (s.toList == [46]) = false := by simpa using e1
    have C41 := number_any s (w.alloc (.cells zero5 33)) (by unfold maxLen; omega)
    by_cases hn : numB s.data.toList = true
    · rw [hn] at C41
      have H41 := Lib.hid C41
      have hw := word_num hn
      have C42 := rnum_any s (w.alloc (.cells zero5 33)) hs hn
      unfold WordOk
      rw [hw]
      generalize numV s.data.toList = V at C42 ⊢
      have H42 := Lib.hid C42
      obtain ⟨c0, c1, c2, c3, c4⟩ := R0.out.cells
      obtain ⟨f0, f1, f2, f3, f4⟩ := R0.out.froz
      clear C41 hn h46 hl C42 hw
      by_cases ho : okNum V
      · rw [if_pos ho]
        have hd : decide (okNum V) = true := decide_eq_true ho
        go_enter Tryz.func87, Tryz.ntmps87
        go_wp2_with fail
        refine H41.out.mono ?_
        rintro e w1 ⟨rfl, rfl⟩
        go_wp2_with fail
        refine H42.out.mono ?_
        rintro e w1 ⟨⟨x, b, rfl, hb, hx⟩, rfl⟩
        rw [hd] at hb
        subst hb
        obtain rfl := hx rfl
        clear hx hd ho
        go_wp2
        have R3 := Res1.first w #[.int .i64 6, .string ⟨#[]⟩, .int .i64 x, .int .i64 0, .int .i64 0]
        exact bodyPost_ret (results_row_tmp (P := Tryz.prog) rfl _ _ w.heap.size 33 _ (0, 0) _ rfl R3.2 Tryz.underlying33 rfl size35) rfl ⟨rfl, R3.1⟩
      · rw [if_neg ho]
        have hd : decide (okNum V) = false := decide_eq_false ho
        go_enter Tryz.func87, Tryz.ntmps87
        go_wp2_with fail
        refine H41.out.mono ?_
        rintro e w1 ⟨rfl, rfl⟩
        go_wp2_with fail
        refine H42.out.mono ?_
        rintro e w1 ⟨⟨x, b, rfl, hb, hx⟩, rfl⟩
        rw [hd] at hb
        subst hb
        clear hx hd ho
        go_wp2
        have R3 := Res1.first w #[.int .i64 0, .string ⟨#[]⟩, .int .i64 0, .int .i64 0, .int .i64 0]
        exact bodyPost_ret (results_row_tmp (P := Tryz.prog) rfl _ _ w.heap.size 33 _ (0, 0) _ rfl R3.2 Tryz.underlying33 rfl size35) rfl ⟨rfl, R3.1⟩
    · have hn' : numB s.data.toList = false := by simpa using hn
      rw [hn'] at C41
      have H41 := Lib.hid C41
      obtain ⟨c0, c1, c2, c3, c4⟩ := R0.out.cells
      obtain ⟨f0, f1, f2, f3, f4⟩ := R0.out.froz
      clear C41
      by_cases h64 : 64 < s.size
      · have hw : wordT s.data.toList = (noTk, 36) := by rw [wordT, if_neg h46, if_neg hn, if_pos (by omega)]
        unfold WordOk
        rw [hw]
        clear hw hn hn' h46 hl
        have h64' : (64 : Int) < s.size := by omega
        go_enter Tryz.func87, Tryz.ntmps87
        go_wp2_with fail
        refine H41.out.mono ?_
        rintro e w1 ⟨rfl, rfl⟩
        go_wp2
        have R3 := Res1.first w #[.int .i64 0, .string ⟨#[]⟩, .int .i64 0, .int .i64 0, .int .i64 0]
        exact bodyPost_ret (results_row_tmp (P := Tryz.prog) rfl _ _ w.heap.size 33 _ (0, 0) _ rfl R3.2 Tryz.underlying33 rfl size35) rfl ⟨rfl, R3.1⟩
      · have hw : wordT s.data.toList = (⟨9, s.data.toList, 0⟩, 0) := by rw [wordT, if_neg h46, if_neg hn, if_neg (by omega)]
        unfold WordOk
        rw [hw]
        clear hw hn hn' h46 hl
        have h64' : (s.size : Int) ≤ 64 := by omega
        go_enter Tryz.func87, Tryz.ntmps87
        go_wp2_with fail
        refine H41.out.mono ?_
        rintro e w1 ⟨rfl, rfl⟩
        go_wp2
        have R3 := Res1.first w #[.int .i64 9, .string s, .int .i64 0, .int .i64 0, .int .i64 0]
        exact bodyPost_ret (results_row_tmp (P := Tryz.prog) rfl _ _ w.heap.size 33 _ (0, 0) _ rfl R3.2 Tryz.underlying33 rfl size35) rfl ⟨rfl, R3.1⟩
end Go.Proofs.YtiamojpeedllbaaGreatDoor
