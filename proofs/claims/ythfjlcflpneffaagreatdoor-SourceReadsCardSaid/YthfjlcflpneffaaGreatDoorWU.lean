/-
Texts U1, U2, U3, U3b, U3c, U3d, one behind the other (a claim bears sixty files). Conditions: as each says.
-/
import Derived.Test.YthfjlcflpneffaaGreatDoorWX
import Derived.Lib.ConvBytes

/-
The document's side of a word: Number, word: what each returns. For strings of at most 4096 bytes.
-/
namespace Go.Proofs.YthfjlcflpneffaaGreatDoor
open Go.ChangeShapes Go.WideShapes Go.ChangeAt Go.RowKit

theorem tdiv_dec (d : Int) (h0 : 0 ≤ d) (h9 : d ≤ 9) (m : Int) : (-m < (-1152921504606846976 + d).tdiv 10) ↔ 1152921504606846976 < 10 * m + d := by
  have e : (-1152921504606846976 + d).tdiv 10 = -((1152921504606846976 - d) / 10) := by
    rw [show -1152921504606846976 + d = -(1152921504606846976 - d) by omega, Int.neg_tdiv, Int.tdiv_eq_ediv_of_nonneg (by omega)]
  rw [e]; omega

/-- What the document's Number answers at a numeral that says V. -/
def RNumOk (V : Int) (e : Ending) : Prop := ∃ x b, e = .returned (.tuple #[.int .i64 x, .bool b]) ∧ b = decide (okNum V) ∧ (b = true → x = V)

set_option maxRecDepth 100000 in
set_option maxHeartbeats 2000000 in
theorem rnum_walk (s : ByteArray) (p : Nat) (lowB : Bool) (w : World) (hs : s.size ≤ 4096) (h0 : 0 < s.size) (hp : p = 0 ∧ lowB = false ∨ p = 1 ∧ digB s[0].toNat = false ∧ ((s[0].toNat : Int) == 45) = lowB)
    (hd : digsB (s.data.toList.drop p) = true) (V : Int) (hV : V = if lowB then -(decN 0 (s.data.toList.drop p) : Int) else (decN 0 (s.data.toList.drop p) : Int)) :
    Calls Tryz.prog 81 #[.string s] w fun e w' => RNumOk V e ∧ w = w' := by
  have hl : s.data.toList.length = s.size := by rw [Array.length_toList]; rfl
  have hdig : ∀ k (h : k < s.size), p ≤ k → 48 ≤ s[k].toNat ∧ s[k].toNat ≤ 57 := fun k h hk => by
    have h1 : s[k] ∈ s.data.toList.drop p := by
      rw [List.mem_drop_iff_getElem]
      exact ⟨k - p, by rw [hl]; omega, by simp only [show p + (k - p) = k by omega]; rfl⟩
    have h2 := List.all_eq_true.1 hd _ h1
    simp only [dig8, digB, Bool.and_eq_true, decide_eq_true_eq] at h2
    omega
  have hsn : ∀ k (h : k < s.size), p ≤ k → decN 0 ((s.data.toList.drop p).take (k + 1 - p)) = decN 0 ((s.data.toList.drop p).take (k - p)) * 10 + (s[k].toNat - 48) := fun k h hk => by
    rw [show k + 1 - p = (k - p) + 1 by omega, List.take_succ_eq_append_getElem (by rw [List.length_drop, hl]; omega), decN_snoc]
    have e : (s.data.toList.drop p)[k - p]'(by rw [List.length_drop, hl]; omega) = s[k] := by
      rw [List.getElem_drop]
      simp only [show p + (k - p) = k by omega]; rfl
    rw [e]
  have hle : ∀ k, decN 0 ((s.data.toList.drop p).take k) ≤ decN 0 (s.data.toList.drop p) := fun k => decN_take_le _ k 0
  have hend : (s.data.toList.drop p).take (s.size - p) = s.data.toList.drop p := List.take_of_length_le (by rw [List.length_drop, hl]; exact Nat.le_refl _)
  have h00 : decN 0 ((s.data.toList.drop p).take 0) = 0 := by simp [decN]
  obtain ⟨A, hA⟩ : ∃ A : Nat → Nat, A = fun k => decN 0 ((s.data.toList.drop p).take (k - p)) := ⟨_, rfl⟩
  have a0 : A 0 = 0 := by rw [hA]; simp [decN]
  have ap : A 1 = 0 ∨ p = 0 := by rcases hp with h | h; · exact .inr h.1
                                  · left; rw [hA]; simp [h.1, decN]
  have an : A s.size = decN 0 (s.data.toList.drop p) := by rw [hA]; simp only [hend]
  have asn : ∀ k (h : k < s.size), p ≤ k → A (k + 1) = A k * 10 + (s[k].toNat - 48) := fun k h hk => by rw [hA]; exact hsn k h hk
  have al : ∀ k, A k ≤ decN 0 (s.data.toList.drop p) := fun k => by rw [hA]; exact hle _
  clear hA hsn hle hend h00 hl
  generalize decN 0 (s.data.toList.drop p) = N at hV an al
  have HDG := Lib.hid hdig
  have HA := Lib.hid asn
  have HL := Lib.hid al
  have HN := Lib.hid an
  have HP := Lib.hid hp
  have HAP := Lib.hid ap
  have HV := Lib.hid hV
  clear hdig asn al an hp ap hV hd
  go_enter Tryz.func81, Tryz.ntmps81
  go_wp2
  go_loop [6, 5, 4] (fun i lo n => ∃ (k : Nat) (b : Bool), k ≤ s.size ∧ i = .int .i64 k ∧ lo = .bool b ∧ (p ≤ k → b = lowB) ∧ n = .int .i64 (-(A k : Int)) ∧ A k ≤ 1152921504606846976) (fun i _ _ => s.size - (intOf i).toNat)
  case atStart =>
    refine ⟨0, false, Nat.zero_le _, rfl, rfl, fun h => ?_, by simp [a0], by simp [a0]⟩
    rcases HP.out with h2 | h2
    · exact h2.2.symm
    · omega
  case round =>
    obtain ⟨k, b, hk, rfl, rfl, hb, rfl, hm⟩ := hrel
    have HB := Lib.hid hb
    clear hb
    by_cases hlt : k < s.size
    · by_cases hpk : p ≤ k
      · obtain ⟨d1, d2⟩ := HDG.out k hlt hpk
        have hs1 := HA.out k hlt hpk
        have C := rdigit_any s[k].toNat
        rw [show digB s[k].toNat = true by simp [digB]; omega] at C
        have H := Lib.hid C
        have HS := Lib.hid hs1
        have hdv := tdiv_dec ((s[k].toNat : Int) - 48) (by omega) (by omega) (A k)
        clear C hs1
        by_cases hgt : 1152921504606846976 < 10 * A k + (s[k].toNat - 48)
        · have hdv' : -(A k : Int) < (-1152921504606846976 + ((s[k].toNat : Int) - 48)).tdiv 10 := hdv.2 (by omega)
          clear hdv
          go_wp2_with (go_at_call 97; ((with_reducible refine (H.out _).mono ?_); rintro e w' ⟨rfl, rfl⟩))
          go_ret2
          refine ⟨⟨0, false, rfl, (decide_eq_false fun h => ?_).symm, fun h => by cases h⟩, rfl⟩
          have h1 := HS.out
          have h2 := HL.out (k + 1)
          have h3 := HV.out
          unfold okNum at h
          cases lowB <;> simp at h3 <;> omega
        · have hdv' : (-1152921504606846976 + ((s[k].toNat : Int) - 48)).tdiv 10 ≤ -(A k : Int) := by
            have := mt hdv.1 (by omega)
            omega
          clear hdv
          go_wp2_with (go_at_call 97; ((with_reducible refine (H.out _).mono ?_); rintro e w' ⟨rfl, rfl⟩))
          go_round
          case rel =>
            have h1 := HS.out
            refine ⟨k + 1, b, by omega, by go_num, rfl, fun _ => HB.out hpk, ?_, by omega⟩
            rw [show 10 * -(A k : Int) - ((s[k].toNat : Int) - 48) = -(A (k + 1) : Int) by omega]
          case measure => simp [intOf]; omega
      · have hk0 : k = 0 ∧ p = 1 ∧ digB s[0].toNat = false ∧ ((s[0].toNat : Int) == 45) = lowB := by
          rcases HP.out with h2 | h2
          · omega
          · exact ⟨by omega, h2⟩
        obtain ⟨rfl, rfl, hd0, hl0⟩ := hk0
        have C := rdigit_any s[0].toNat
        rw [hd0] at C
        have H := Lib.hid C
        have HL0 := Lib.hid hl0
        clear C hl0 hd0
        go_wp2_with (go_at_call 97; ((with_reducible refine (H.out _).mono ?_); rintro e w' ⟨rfl, rfl⟩))
        have a1 : A 1 = 0 := by
          rcases HAP.out with h | h
          · exact h
          · cases h
        go_round
        case rel => exact ⟨1, _, by omega, rfl, rfl, fun _ => HL0.out, by simp [a1], by omega⟩
        case measure => simp [intOf]; omega
    · obtain rfl : k = s.size := by omega
      have hps : p ≤ s.size := by
        rcases HP.out with h | h <;> omega
      have e := HB.out hps
      subst e
      have hN := HN.out
      cases b
      · go_wp2
        go_ret2
        have h3 := HV.out
        simp at h3
        refine ⟨⟨_, _, rfl, ?_, fun _ => h3.symm⟩, rfl⟩
        refine decide_eq_decide.2 ?_
        unfold okNum
        omega
      · go_wp2
        go_ret2
        have h3 := HV.out
        simp at h3
        refine ⟨⟨_, _, rfl, ?_, fun _ => h3.symm⟩, rfl⟩
        refine decide_eq_decide.2 ?_
        unfold okNum
        omega

theorem rnum_any (s : ByteArray) (w : World) (hs : s.size ≤ 4096) (h : numB s.data.toList = true) :
    Calls Tryz.prog 81 #[.string s] w fun e w' => RNumOk (numV s.data.toList) e ∧ w = w' := by
  have hl : s.data.toList.length = s.size := by rw [Array.length_toList]; rfl
  have first : ∀ c r, s.data.toList = c :: r → ∃ h0 : 0 < s.size, s[0] = c := fun c r e => by
    have h0 : 0 < s.size := by rw [← hl, e]; simp
    refine ⟨h0, ?_⟩
    have : s.data.toList[0]'(by rw [hl]; exact h0) = c := by simp only [e]; rfl
    exact this
  rcases num_ways h with ⟨r, e, _, hd, hv⟩ | ⟨r, e, _, hd, hv⟩ | ⟨c, r, e, h1, h2, hd, hv⟩
  · obtain ⟨h0, h3⟩ := first _ _ e
    exact rnum_walk s 1 false w hs h0 (.inr ⟨rfl, by rw [h3]; rfl, by rw [h3]; rfl⟩) (by rw [e]; exact hd) _ (by rw [hv, e]; rfl)
  · obtain ⟨h0, h3⟩ := first _ _ e
    exact rnum_walk s 1 true w hs h0 (.inr ⟨rfl, by rw [h3]; rfl, by rw [h3]; rfl⟩) (by rw [e]; exact hd) _ (by rw [hv, e]; rfl)
  · obtain ⟨h0, h3⟩ := first _ _ e
    exact rnum_walk s 0 false w hs h0 (.inl ⟨rfl, rfl⟩) hd _ (by rw [hv]; rfl)

set_option maxRecDepth 100000 in
set_option maxHeartbeats 2000000 in
theorem rwordT_any (s : ByteArray) (w : World) (hs : s.size ≤ 4096) :
    Calls Tryz.prog 59 #[.string s] w fun e w' => WordOk s.data.toList e ∧ Below w.heap.size w w' := by
  have R0 := Lib.hid (Res1.first w zero5)
  have hl := len_data s
  by_cases h46 : s.data.toList = [46]
  · have hw : wordT s.data.toList = (⟨4, [], 0⟩, 0) := by rw [wordT, if_pos h46]
    unfold WordOk
    rw [hw]
    have e1 : s.toList = [46] := by rw [ByteArray.toList_eq]; exact h46
    have e2 : (s.toList == [46]) = true := by rw [e1]; rfl
    clear hw h46 hl
    go_enter Tryz.func59, Tryz.ntmps59
    go_wp2
    have R2 := Res1.first w #[.int .i64 4, .string ⟨#[]⟩, .int .i64 0, .int .i64 0, .int .i64 0]
    exact bodyPost_ret (results_row_tmp (P := Tryz.prog) rfl _ _ w.heap.size 52 _ (0, 0) _ rfl R2.2 Tryz.underlying52 rfl size35) rfl ⟨rfl, R2.1⟩
  · have e1 : ¬ s.toList = [46] := by rw [ByteArray.toList_eq]; exact h46
    have e2 : (s.toList == [46]) = false := by simpa using e1
    have C41 := number_any s (w.alloc (.cells zero5 52)) (by unfold maxLen; omega)
    by_cases hn : numB s.data.toList = true
    · rw [hn] at C41
      have H41 := Lib.hid C41
      have hw := word_num hn
      have C42 := rnum_any s (w.alloc (.cells zero5 52)) hs hn
      unfold WordOk
      rw [hw]
      generalize numV s.data.toList = V at C42 ⊢
      have H42 := Lib.hid C42
      obtain ⟨c0, c1, c2, c3, c4⟩ := R0.out.cells
      obtain ⟨f0, f1, f2, f3, f4⟩ := R0.out.froz
      clear C41 hn h46 hl C42 hw
      by_cases ho : okNum V
      · rw [if_pos ho]
        have hd : decide (okNum V) = true := decide_eq_true ho
        go_enter Tryz.func59, Tryz.ntmps59
        go_wp2_with fail
        refine H41.out.mono ?_
        rintro e w1 ⟨rfl, rfl⟩
        go_wp2_with fail
        refine H42.out.mono ?_
        rintro e w1 ⟨⟨x, b, rfl, hb, hx⟩, rfl⟩
        rw [hd] at hb
        subst hb
        obtain rfl := hx rfl
        clear hx hd ho
        go_wp2
        have R3 := Res1.first w #[.int .i64 6, .string ⟨#[]⟩, .int .i64 x, .int .i64 0, .int .i64 0]
        exact bodyPost_ret (results_row_tmp (P := Tryz.prog) rfl _ _ w.heap.size 52 _ (0, 0) _ rfl R3.2 Tryz.underlying52 rfl size35) rfl ⟨rfl, R3.1⟩
      · rw [if_neg ho]
        have hd : decide (okNum V) = false := decide_eq_false ho
        go_enter Tryz.func59, Tryz.ntmps59
        go_wp2_with fail
        refine H41.out.mono ?_
        rintro e w1 ⟨rfl, rfl⟩
        go_wp2_with fail
        refine H42.out.mono ?_
        rintro e w1 ⟨⟨x, b, rfl, hb, hx⟩, rfl⟩
        rw [hd] at hb
        subst hb
        clear hx hd ho
        go_wp2
        have R3 := Res1.first w #[.int .i64 0, .string ⟨#[]⟩, .int .i64 0, .int .i64 0, .int .i64 0]
        exact bodyPost_ret (results_row_tmp (P := Tryz.prog) rfl _ _ w.heap.size 52 _ (0, 0) _ rfl R3.2 Tryz.underlying52 rfl size35) rfl ⟨rfl, R3.1⟩
    · have hn' : numB s.data.toList = false := by simpa using hn
      rw [hn'] at C41
      have H41 := Lib.hid C41
      obtain ⟨c0, c1, c2, c3, c4⟩ := R0.out.cells
      obtain ⟨f0, f1, f2, f3, f4⟩ := R0.out.froz
      clear C41
      by_cases h64 : 64 < s.size
      · have hw : wordT s.data.toList = (noTk, 36) := by rw [wordT, if_neg h46, if_neg hn, if_pos (by omega)]
        unfold WordOk
        rw [hw]
        clear hw hn hn' h46 hl
        have h64' : (64 : Int) < s.size := by omega
        go_enter Tryz.func59, Tryz.ntmps59
        go_wp2_with fail
        refine H41.out.mono ?_
        rintro e w1 ⟨rfl, rfl⟩
        go_wp2
        have R3 := Res1.first w #[.int .i64 0, .string ⟨#[]⟩, .int .i64 0, .int .i64 0, .int .i64 0]
        exact bodyPost_ret (results_row_tmp (P := Tryz.prog) rfl _ _ w.heap.size 52 _ (0, 0) _ rfl R3.2 Tryz.underlying52 rfl size35) rfl ⟨rfl, R3.1⟩
      · have hw : wordT s.data.toList = (⟨9, s.data.toList, 0⟩, 0) := by rw [wordT, if_neg h46, if_neg hn, if_neg (by omega)]
        unfold WordOk
        rw [hw]
        clear hw hn hn' h46 hl
        have h64' : (s.size : Int) ≤ 64 := by omega
        go_enter Tryz.func59, Tryz.ntmps59
        go_wp2_with fail
        refine H41.out.mono ?_
        rintro e w1 ⟨rfl, rfl⟩
        go_wp2
        have R3 := Res1.first w #[.int .i64 9, .string s, .int .i64 0, .int .i64 0, .int .i64 0]
        exact bodyPost_ret (results_row_tmp (P := Tryz.prog) rfl _ _ w.heap.size 52 _ (0, 0) _ rfl R3.2 Tryz.underlying52 rfl size35) rfl ⟨rfl, R3.1⟩
end Go.Proofs.YthfjlcflpneffaaGreatDoor

/-
The document's hash: what it returns at a place. For strings of at most 4096 bytes.
-/
namespace Go.Proofs.YthfjlcflpneffaaGreatDoor
open Go.ChangeShapes Go.WideShapes Go.ChangeAt Go.RowKit

/-- The world W has come of w, and two tokens in the first new blocks are as told. -/
def Res2 (w : World) (y z : Array Value) (W : World) : Prop := Below w.heap.size w W ∧ W.heap[w.heap.size]? = some (.cells y 52 (0, 0)) ∧ W.heap[w.heap.size + 1]? = some (.cells z 52 (0, 0))
theorem Res2.first (w : World) (y z : Array Value) : Res2 w y z ((w.alloc (.cells y 52)).alloc (.cells z 52)) := by
  refine ⟨((Below.refl _ _).alloc (Nat.le_refl _) _).alloc (by simp) _, ?_, ?_⟩
  · exact (Below.heap_alloc (w.alloc (.cells y 52)) (.cells z 52) w.heap.size (by simp)).trans (heap_alloc_new w _)
  · have := heap_alloc_new (w.alloc (.cells y 52)) (.cells z 52)
    rwa [show (w.alloc (.cells y 52)).heap.size = w.heap.size + 1 by simp] at this
theorem Res2.res1 {w W : World} {y z : Array Value} (h : Res2 w y z W) : Res1 w y W := ⟨h.1, h.2.1⟩

set_option maxRecDepth 100000 in
theorem rhash_open (s : ByteArray) (k : Nat) (w : World) (hs : s.size ≤ 4096) (hk : k + 1 < s.size) (h : ((s[k + 1].toNat : Int) == 40) = true) :
    Calls Tryz.prog 56 #[.string s, .int .i64 (k : Int)] w fun e w' => e = .returned (TokV (⟨2, [], 0⟩, 2, 0)) ∧ Below w.heap.size w w' := by
  have hk' : (k : Int) + 1 < (s.size : Int) := by omega
  go_enter Tryz.func56, Tryz.ntmps56
  go_wp2
  have R2 := Res2.first w #[.int .i64 2, .string ⟨#[]⟩, .int .i64 0, .int .i64 0, .int .i64 0] zero5
  exact bodyPost_ret (results_row_tmp2 (P := Tryz.prog) rfl _ _ w.heap.size 52 _ (0, 0) _ rfl R2.2.1 Tryz.underlying52 rfl size35) rfl ⟨rfl, R2.1⟩

theorem wordL_one {c : UInt8} {r : List UInt8} (h : (wordL (c :: r)).length = 1) : wordL (c :: r) = [c] := by
  unfold wordL at h ⊢
  rw [List.takeWhile_cons] at h ⊢
  split at h
  · rename_i hc
    rw [if_pos hc]
    simp only [List.length_cons, Nat.add_eq_right, List.length_eq_zero_iff] at h
    rw [h]
  · simp at h
theorem wordL_head {c d : UInt8} {r : List UInt8} (h : wordL (c :: r) = [d]) : c = d := by
  unfold wordL at h
  rw [List.takeWhile_cons] at h
  split at h
  · simp at h; exact h.1
  · cases h

set_option maxRecDepth 100000 in
set_option maxHeartbeats 1000000 in
theorem rhash_bare (s : ByteArray) (k : Nat) (w : World) (hs : s.size ≤ 4096) (hk : k + 1 = s.size) :
    Calls Tryz.prog 56 #[.string s, .int .i64 (k : Int)] w fun e w' => e = .returned (TokV (noTk, 0, 31)) ∧ Below w.heap.size w w' := by
  have C : ∀ W, Calls Tryz.prog 58 #[.string s, .int .i64 ((k : Int) + 1)] W fun e w' => e = .returned (.int .i64 0) ∧ W = w' := fun W => by
    have := rword_any s (k + 1) W (by unfold maxLen; omega) (by omega)
    rw [List.drop_eq_nil_of_le (by rw [len_data]; omega)] at this
    exact this
  have H := Lib.hid C
  have hk' : (s.size : Int) = (k : Int) + 1 := by omega
  have hk2 : (s.size : Int) ≤ (k : Int) + 1 := by omega
  have hk3 : (s.size : Int) ≤ (k : Int) + 2 := by omega
  have hks : (k : Int) ≤ 4096 := by omega
  clear C hk hk' hs
  generalize hz : (s.size : Int) = z at hk2 hk3
  go_enter Tryz.func56, Tryz.ntmps56
  go_wp2_with (go_at_call 58; ((with_reducible refine (H.out _).mono ?_); rintro e w' ⟨rfl, rfl⟩))
  have R2 := Res2.first w zero5 zero5
  exact bodyPost_ret (results_row_tmp2 (P := Tryz.prog) rfl _ _ w.heap.size 52 _ (0, 0) _ rfl R2.2.1 Tryz.underlying52 rfl size35) rfl ⟨rfl, R2.1⟩

set_option maxRecDepth 100000 in
set_option maxHeartbeats 1000000 in
theorem rhash_word (s : ByteArray) (k : Nat) (w : World) (hs : s.size ≤ 4096) (hk : k + 1 < s.size) (h40 : ((s[k + 1].toNat : Int) == 40) = false) (h92 : ((s[k + 1].toNat : Int) == 92) = false ∨ s.size ≤ k + 2) :
    Calls Tryz.prog 56 #[.string s, .int .i64 (k : Int)] w fun e w' => e = .returned (TokV (hashT (s.data.toList.drop (k + 1)))) ∧ Below w.heap.size w w' := by
  have hr : s.data.toList.drop (k + 1) = s[k + 1] :: s.data.toList.drop (k + 2) := List.drop_eq_getElem_cons (by rw [len_data]; exact hk)
  have hT : hashT (s.data.toList.drop (k + 1)) = if wordL (s.data.toList.drop (k + 1)) = [116] then (⟨5, [], 1⟩, 2, 0) else if wordL (s.data.toList.drop (k + 1)) = [102] then (⟨5, [], 0⟩, 2, 0) else (noTk, 0, 31) := by
    refine hashT_else (fun q e => ?_) (fun c q e => ?_)
    · rw [hr] at e
      injection e with e1 e2
      rw [e1] at h40; exact absurd h40 (by decide)
    · rw [hr] at e
      injection e with e1 e2
      rcases h92 with h | h
      · rw [e1] at h; exact absurd h (by decide)
      · rw [List.drop_eq_nil_of_le (by rw [len_data]; omega)] at e2; cases e2
  have C : ∀ W, Calls Tryz.prog 58 #[.string s, .int .i64 ((k : Int) + 1)] W fun e w' => e = .returned (.int .i64 ((wordL (s.data.toList.drop (k + 1))).length : Int)) ∧ W = w' := fun W => rword_any s (k + 1) W (by unfold maxLen; omega) (by omega)
  rw [hT]
  rw [hr] at C ⊢
  clear hT hr
  have hh : ∀ d, wordL (s[k + 1] :: s.data.toList.drop (k + 2)) = [d] ↔ (wordL (s[k + 1] :: s.data.toList.drop (k + 2))).length = 1 ∧ s[k + 1] = d := fun d =>
    ⟨fun h => ⟨by rw [h]; rfl, wordL_head h⟩, fun h => by rw [wordL_one h.1, h.2]⟩
  simp only [hh]
  clear hh
  generalize (wordL (s[k + 1] :: s.data.toList.drop (k + 2))).length = N at C ⊢
  have H := Lib.hid C
  have hk' : (k : Int) + 1 < (s.size : Int) := by omega
  have t8 : ∀ d : UInt8, (s[k + 1] = d) ↔ ((s[k + 1].toNat : Int) == (d.toNat : Int)) = true := fun d => by
    rw [beq_iff_eq]
    exact ⟨fun h => by rw [h], fun h => UInt8.toNat_inj.1 (by omega)⟩
  have h92' : ((s[k + 1].toNat : Int) == 92) = false ∨ (s.size : Int) ≤ (k : Int) + 2 := h92.imp id (by omega)
  have hsp : ((k : Int) + 2 < (s.size : Int) ∧ ((s[k + 1].toNat : Int) == 92) = false) ∨ (s.size : Int) ≤ (k : Int) + 2 := by
    by_cases h : (s.size : Int) ≤ (k : Int) + 2
    · exact .inr h
    · exact .inl ⟨by omega, h92'.resolve_right h⟩
  have e116 := t8 116
  have e102 := t8 102
  clear t8 h92 h92' C
  by_cases hN : N = 1
  · subst hN
    by_cases hx : ((s[k + 1].toNat : Int) == 116) = true
    · rw [if_pos ⟨rfl, e116.2 hx⟩]
      clear e116 e102
      rcases hsp with ⟨p1, p2⟩ | p1
      all_goals
        go_enter Tryz.func56, Tryz.ntmps56
        go_wp2_with (go_at_call 58; ((with_reducible refine (H.out _).mono ?_); rintro e w' ⟨rfl, rfl⟩))
        have R2 := Res2.first w #[.int .i64 5, .string ⟨#[]⟩, .int .i64 1, .int .i64 0, .int .i64 0] zero5
        exact bodyPost_ret (results_row_tmp2 (P := Tryz.prog) rfl _ _ w.heap.size 52 _ (0, 0) _ rfl R2.2.1 Tryz.underlying52 rfl size35) rfl ⟨rfl, R2.1⟩
    · rw [if_neg (fun h => hx (e116.1 h.2))]
      have hx' : ((s[k + 1].toNat : Int) == 116) = false := by simpa using hx
      by_cases hy : ((s[k + 1].toNat : Int) == 102) = true
      · rw [if_pos ⟨rfl, e102.2 hy⟩]
        clear e116 e102 hx
        rcases hsp with ⟨p1, p2⟩ | p1
        all_goals
          go_enter Tryz.func56, Tryz.ntmps56
          go_wp2_with (go_at_call 58; ((with_reducible refine (H.out _).mono ?_); rintro e w' ⟨rfl, rfl⟩))
          have R2 := Res2.first w #[.int .i64 5, .string ⟨#[]⟩, .int .i64 0, .int .i64 0, .int .i64 0] zero5
          exact bodyPost_ret (results_row_tmp2 (P := Tryz.prog) rfl _ _ w.heap.size 52 _ (0, 0) _ rfl R2.2.1 Tryz.underlying52 rfl size35) rfl ⟨rfl, R2.1⟩
      · rw [if_neg (fun h => hy (e102.1 h.2))]
        have hy' : ((s[k + 1].toNat : Int) == 102) = false := by simpa using hy
        clear e116 e102 hx hy
        rcases hsp with ⟨p1, p2⟩ | p1
        all_goals
          go_enter Tryz.func56, Tryz.ntmps56
          go_wp2_with (go_at_call 58; ((with_reducible refine (H.out _).mono ?_); rintro e w' ⟨rfl, rfl⟩))
          have R2 := Res2.first w zero5 zero5
          exact bodyPost_ret (results_row_tmp2 (P := Tryz.prog) rfl _ _ w.heap.size 52 _ (0, 0) _ rfl R2.2.1 Tryz.underlying52 rfl size35) rfl ⟨rfl, R2.1⟩
  · rw [if_neg (fun h => hN h.1), if_neg (fun h => hN h.1)]
    have hN' : ¬ (N : Int) = 1 := by omega
    have hN2 : ((N : Int) == 1) = false := by rw [beq_eq_false_iff_ne]; exact hN'
    clear e116 e102
    rcases hsp with ⟨p1, p2⟩ | p1
    all_goals
      go_enter Tryz.func56, Tryz.ntmps56
      go_wp2_with (go_at_call 58; ((with_reducible refine (H.out _).mono ?_); rintro e w' ⟨rfl, rfl⟩))
      have R2 := Res2.first w zero5 zero5
      exact bodyPost_ret (results_row_tmp2 (P := Tryz.prog) rfl _ _ w.heap.size 52 _ (0, 0) _ rfl R2.2.1 Tryz.underlying52 rfl size35) rfl ⟨rfl, R2.1⟩
end Go.Proofs.YthfjlcflpneffaaGreatDoor

/-
The document's hash: what it returns at every place. For strings of at most 4096 bytes.
-/
namespace Go.Proofs.YthfjlcflpneffaaGreatDoor
open Go.ChangeShapes Go.WideShapes Go.ChangeAt Go.RowKit

theorem tokV_eq (q : Tk) (n : Nat) (e : Int) : TokV (q, n, e) = .tuple #[q.val 0 0, .int .i64 (n : Int), .int .i64 e] := rfl

/-- A character's name of two bytes and more. -/
theorem charV_name {x : ByteArray} {N : Nat} (hx : x.size = N) (hN : 2 ≤ N) : charV x.data.toList = if x.toList = [115, 112, 97, 99, 101] then some 32 else if x.toList = [110, 101, 119, 108, 105, 110, 101] then some 10
    else if N = 3 ∧ x.data.toList.head? = some 120 then twoV (x.data.toList.drop 1) else none := by
  have hl := len_data x
  unfold charV
  rw [if_neg (by omega), ByteArray.toList_eq, hl, hx]

set_option maxRecDepth 100000 in
set_option maxHeartbeats 1000000 in
theorem rhash_one (s x : ByteArray) (k N : Nat) (w : World) (hs : s.size ≤ 4096) (hk : k + 2 < s.size) (h92 : ((s[k + 1].toNat : Int) == 92) = true) (h40 : ((s[k + 1].toNat : Int) == 40) = false) (hN : N ≤ 1)
    (hX : s.extract (k + 2) (k + 2 + 1) = x) (hx : x.size = 1)
    (H : Hid (∀ W, Calls Tryz.prog 58 #[.string s, .int .i64 ((k : Int) + 2)] W fun e w' => e = .returned (.int .i64 (N : Int)) ∧ W = w')) :
    Calls Tryz.prog 56 #[.string s, .int .i64 (k : Int)] w fun e w' => e = .returned (TokV (⟨7, [], ((x[0]'(by omega)).toNat : Nat)⟩, 2 + 1, 0)) ∧ Below w.heap.size w w' := by
  have hk2 : (k : Int) + 2 < (s.size : Int) := by omega
  have hk1 : (k : Int) + 1 < (s.size : Int) := by omega
  have hk3 : (k : Int) + 2 + 1 ≤ (s.size : Int) := by omega
  have hx0 : 0 < x.size := by omega
  have hb : (x[0].toNat : Int) < 256 := by have := x[0].toNat_lt; omega
  have hb0 : 0 ≤ (x[0].toNat : Int) := by omega
  rcases (show N = 0 ∨ N = 1 by omega) with rfl | rfl
  all_goals
    go_enter Tryz.func56, Tryz.ntmps56
    go_wp2_with (go_at_call 58; ((with_reducible refine (H.out _).mono ?_); rintro e w' ⟨rfl, rfl⟩))
    have R2 := Res2.first w #[.int .i64 7, .string ⟨#[]⟩, .int .i64 (x[0].toNat : Nat), .int .i64 0, .int .i64 0] zero5
    exact bodyPost_ret (results_row_tmp2 (P := Tryz.prog) rfl _ _ w.heap.size 52 _ (0, 0) _ rfl R2.2.1 Tryz.underlying52 rfl size35) rfl ⟨rfl, R2.1⟩

set_option maxRecDepth 100000 in
set_option maxHeartbeats 2000000 in
theorem rhash_name (s x : ByteArray) (k N : Nat) (w : World) (hs : s.size ≤ 4096) (hk : k + 2 < s.size) (h92 : ((s[k + 1].toNat : Int) == 92) = true) (h40 : ((s[k + 1].toNat : Int) == 40) = false) (hN : 2 ≤ N) (hN2 : k + 2 + N ≤ s.size)
    (hX : s.extract (k + 2) (k + 2 + N) = x) (hx : x.size = N)
    (H : Hid (∀ W, Calls Tryz.prog 58 #[.string s, .int .i64 ((k : Int) + 2)] W fun e w' => e = .returned (.int .i64 (N : Int)) ∧ W = w')) (T : Tk × Nat × Int)
    (hT : T = (match charV x.data.toList with | some x => ((⟨7, [], x⟩ : Tk), 2 + N, (0 : Int)) | none => (noTk, 0, 31))) :
    Calls Tryz.prog 56 #[.string s, .int .i64 (k : Int)] w fun e w' => e = .returned (TokV T) ∧ Below w.heap.size w w' := by
  have hk2 : (k : Int) + 2 < (s.size : Int) := by omega
  have hk1 : (k : Int) + 1 < (s.size : Int) := by omega
  have hn1 : (2 : Int) ≤ (N : Int) := by omega
  have hn2 : (k : Int) + 2 + (N : Int) ≤ (s.size : Int) := by omega
  have n1 : ((N : Int) == 1) = false := by rw [beq_eq_false_iff_ne]; omega
  rw [charV_name hx hN] at hT
  have hl := len_data x
  by_cases e1 : x.toList = [115, 112, 97, 99, 101]
  · have e2 : (x.toList == [115, 112, 97, 99, 101]) = true := by rw [e1]; rfl
    rw [if_pos e1] at hT
    subst hT
    clear hl
    go_enter Tryz.func56, Tryz.ntmps56
    go_wp2_with (go_at_call 58; ((with_reducible refine (H.out _).mono ?_); rintro e w' ⟨rfl, rfl⟩))
    have R2 := Res2.first w #[.int .i64 7, .string ⟨#[]⟩, .int .i64 32, .int .i64 0, .int .i64 0] zero5
    exact bodyPost_ret (results_row_tmp2 (P := Tryz.prog) rfl _ _ w.heap.size 52 _ (0, 0) _ rfl R2.2.1 Tryz.underlying52 rfl size35) rfl ⟨rfl, R2.1⟩
  · have e2 : (x.toList == [115, 112, 97, 99, 101]) = false := by simpa using e1
    rw [if_neg e1] at hT
    by_cases f1 : x.toList = [110, 101, 119, 108, 105, 110, 101]
    · have f2 : (x.toList == [110, 101, 119, 108, 105, 110, 101]) = true := by rw [f1]; rfl
      rw [if_pos f1] at hT
      subst hT
      clear hl e1
      go_enter Tryz.func56, Tryz.ntmps56
      go_wp2_with (go_at_call 58; ((with_reducible refine (H.out _).mono ?_); rintro e w' ⟨rfl, rfl⟩))
      have R2 := Res2.first w #[.int .i64 7, .string ⟨#[]⟩, .int .i64 10, .int .i64 0, .int .i64 0] zero5
      exact bodyPost_ret (results_row_tmp2 (P := Tryz.prog) rfl _ _ w.heap.size 52 _ (0, 0) _ rfl R2.2.1 Tryz.underlying52 rfl size35) rfl ⟨rfl, R2.1⟩
    · have f2 : (x.toList == [110, 101, 119, 108, 105, 110, 101]) = false := by simpa using f1
      rw [if_neg f1] at hT
      have hx0 : 0 < x.size := by omega
      have hcons : x.data.toList = x[0] :: x.data.toList.drop 1 := data_cons hx0
      have hhd : x.data.toList.head? = some 120 ↔ ((x[0].toNat : Int) == 120) = true := by
        rw [hcons]
        simp only [List.head?_cons, Option.some.injEq, beq_iff_eq]
        exact ⟨fun h => by rw [h]; rfl, fun h => UInt8.toNat_inj.1 (by have e : (120 : UInt8).toNat = 120 := rfl; omega)⟩
      by_cases h3 : N = 3
      · have n3 : ((N : Int) == 3) = true := by rw [h3]; rfl
        by_cases hh : ((x[0].toNat : Int) == 120) = true
        · rw [if_pos ⟨h3, hhd.2 hh⟩] at hT
          have C : Calls Tryz.prog 78 #[.string x, .int .i64 1] ((w.alloc (.cells zero5 52)).alloc (.cells zero5 52)) fun e w' => e = .returned (.int .i64 (twoI (x.data.toList.drop 1))) ∧ ((w.alloc (.cells zero5 52)).alloc (.cells zero5 52)) = w' := two_any x 1 _ (by omega) (by omega)
          unfold twoI at C
          cases ht : twoV (x.data.toList.drop 1) with
          | none =>
            rw [ht] at C hT
            have H2 := Lib.hid C
            subst hT
            clear hl e1 f1 hcons hhd C ht h3
            go_enter Tryz.func56, Tryz.ntmps56
            go_wp2_with (first
              | (go_at_call 58; ((with_reducible refine (H.out _).mono ?_); rintro e w' ⟨rfl, rfl⟩))
              | (go_at_call 78; ((with_reducible refine H2.out.mono ?_); rintro e w' ⟨rfl, rfl⟩)))
            have R2 := Res2.first w zero5 zero5
            exact bodyPost_ret (results_row_tmp2 (P := Tryz.prog) rfl _ _ w.heap.size 52 _ (0, 0) _ rfl R2.2.1 Tryz.underlying52 rfl size35) rfl ⟨rfl, R2.1⟩
          | some v =>
            rw [ht] at C hT
            have H2 := Lib.hid C
            subst hT
            have hv0 : 0 ≤ (v : Int) := by omega
            clear hl e1 f1 hcons hhd C ht h3
            go_enter Tryz.func56, Tryz.ntmps56
            go_wp2_with (first
              | (go_at_call 58; ((with_reducible refine (H.out _).mono ?_); rintro e w' ⟨rfl, rfl⟩))
              | (go_at_call 78; ((with_reducible refine H2.out.mono ?_); rintro e w' ⟨rfl, rfl⟩)))
            have R2 := Res2.first w #[.int .i64 7, .string ⟨#[]⟩, .int .i64 v, .int .i64 0, .int .i64 0] zero5
            exact bodyPost_ret (results_row_tmp2 (P := Tryz.prog) rfl _ _ w.heap.size 52 _ (0, 0) _ rfl R2.2.1 Tryz.underlying52 rfl size35) rfl ⟨rfl, R2.1⟩
        · have hh' : ((x[0].toNat : Int) == 120) = false := by simpa using hh
          rw [if_neg (fun h => hh (hhd.1 h.2))] at hT
          subst hT
          clear hl e1 f1 hcons hhd h3 hh
          go_enter Tryz.func56, Tryz.ntmps56
          go_wp2_with (go_at_call 58; ((with_reducible refine (H.out _).mono ?_); rintro e w' ⟨rfl, rfl⟩))
          have R2 := Res2.first w zero5 zero5
          exact bodyPost_ret (results_row_tmp2 (P := Tryz.prog) rfl _ _ w.heap.size 52 _ (0, 0) _ rfl R2.2.1 Tryz.underlying52 rfl size35) rfl ⟨rfl, R2.1⟩
      · have n3 : ((N : Int) == 3) = false := by rw [beq_eq_false_iff_ne]; omega
        rw [if_neg (fun h => h3 h.1)] at hT
        subst hT
        clear hl e1 f1 hcons hhd h3
        go_enter Tryz.func56, Tryz.ntmps56
        go_wp2_with (go_at_call 58; ((with_reducible refine (H.out _).mono ?_); rintro e w' ⟨rfl, rfl⟩))
        have R2 := Res2.first w zero5 zero5
        exact bodyPost_ret (results_row_tmp2 (P := Tryz.prog) rfl _ _ w.heap.size 52 _ (0, 0) _ rfl R2.2.1 Tryz.underlying52 rfl size35) rfl ⟨rfl, R2.1⟩

theorem rhash_any (s : ByteArray) (k : Nat) (w : World) (hs : s.size ≤ 4096) (hk : k < s.size) :
    Calls Tryz.prog 56 #[.string s, .int .i64 (k : Int)] w fun e w' => e = .returned (TokV (hashT (s.data.toList.drop (k + 1)))) ∧ Below w.heap.size w w' := by
  have hl := len_data s
  by_cases h1 : k + 1 = s.size
  · have e : hashT (s.data.toList.drop (k + 1)) = (noTk, 0, 31) := by
      rw [List.drop_of_length_le (by omega), hashT_else (by simp) (by simp), if_neg (by decide), if_neg (by decide)]
    rw [e]; exact rhash_bare s k w hs h1
  have hk1 : k + 1 < s.size := by omega
  have hr : s.data.toList.drop (k + 1) = s[k + 1] :: s.data.toList.drop (k + 2) := List.drop_eq_getElem_cons (by rw [hl]; exact hk1)
  by_cases h40 : ((s[k + 1].toNat : Int) == 40) = true
  · rw [hr, byte_is (m := 40) rfl h40]
    exact rhash_open s k w hs hk1 h40
  have h40' : ((s[k + 1].toNat : Int) == 40) = false := by simpa using h40
  by_cases hk2 : s.size ≤ k + 2
  · exact rhash_word s k w hs hk1 h40' (.inr hk2)
  by_cases h92 : ((s[k + 1].toNat : Int) == 92) = true
  · have hk2' : k + 2 < s.size := by omega
    have hr2 : s.data.toList.drop (k + 2) = s[k + 2] :: s.data.toList.drop (k + 3) := List.drop_eq_getElem_cons (by rw [hl]; exact hk2')
    have C : ∀ W, Calls Tryz.prog 58 #[.string s, .int .i64 ((k : Int) + 2)] W fun e w' => e = .returned (.int .i64 ((wordL (s.data.toList.drop (k + 2))).length : Int)) ∧ W = w' := fun W => rword_any s (k + 2) W (by unfold maxLen; omega) (by omega)
    have hwl := wordL_le (s.data.toList.drop (k + 2))
    rw [List.length_drop, hl] at hwl
    obtain ⟨N, hN⟩ : ∃ N, N = (wordL (s.data.toList.drop (k + 2))).length := ⟨_, rfl⟩
    rw [← hN] at C hwl
    have hx : ∀ n, (s.extract (k + 2) (k + 2 + n)).data.toList = (s.data.toList.drop (k + 2)).take n := fun n => by rw [extract_list, Nat.add_sub_cancel_left]
    have hT : hashT (s.data.toList.drop (k + 1)) = (match charV ((s.data.toList.drop (k + 2)).take (max 1 N)) with | some x => ((⟨7, [], x⟩ : Tk), 2 + max 1 N, (0 : Int)) | none => (noTk, 0, 31)) := by
      rw [hr, byte_is (m := 92) rfl h92, hN, hr2, hashT_char]
      cases charV ((s[k + 2] :: s.data.toList.drop (k + 3)).take (max 1 (wordL (s[k + 2] :: s.data.toList.drop (k + 3))).length)) <;> rfl
    rw [hT]
    by_cases hN1 : N ≤ 1
    · have hsz : (s.extract (k + 2) (k + 2 + 1)).size = 1 := by simp; omega
      have hm : max 1 N = 1 := by omega
      have h0 : 0 < (s.extract (k + 2) (k + 2 + 1)).size := by omega
      have hc := data_cons h0
      have hd1 : (s.extract (k + 2) (k + 2 + 1)).data.toList.drop 1 = [] := List.drop_of_length_le (by rw [len_data]; omega)
      rw [hm, ← hx 1]
      have hv : charV (s.extract (k + 2) (k + 2 + 1)).data.toList = some (s.extract (k + 2) (k + 2 + 1))[0].toNat := by
        rw [hc, hd1]; rfl
      rw [hv]
      exact rhash_one s _ k N w hs hk2' h92 h40' hN1 rfl hsz (Lib.hid C)
    · have hm : max 1 N = N := by omega
      rw [hm, ← hx N]
      exact rhash_name s _ k N w hs hk2' h92 h40' (by omega) (by omega) rfl (by simp; omega) (Lib.hid C) _ rfl
  · exact rhash_word s k w hs hk1 h40' (.inl (by simpa using h92))
end Go.Proofs.YthfjlcflpneffaaGreatDoor

/-
The document's text: what it returns at a double quote. For strings of at most 4096 bytes.
-/
namespace Go.Proofs.YthfjlcflpneffaaGreatDoor
open Go.ChangeShapes Go.WideShapes Go.ChangeAt Go.RowKit

def ByteOwn (w : World) (base : Nat) (l : List UInt8) (v : Value) : Prop := w.ownsRow base 5 1 v l.length (Lib.byteCells l)
theorem byteCells_len (l : List UInt8) : (Lib.byteCells l).length = l.length := by simp [Lib.byteCells]
theorem ByteOwn.alloc {w : World} {base : Nat} {l : List UInt8} {v : Value} (h : ByteOwn w base l v) (o : Obj) : (w.alloc o).ownsRow base 5 1 v l.length (Lib.byteCells l) := World.ownsRow.alloc h o
theorem ByteOwn.shape {w : World} {base : Nat} {l : List UInt8} {v : Value} (h : ByteOwn w base l v) : ∃ a c, v = .slice a l.length c := by
  rcases h.2 with ⟨rfl, h0⟩ | ⟨g, cap, cur, rfl, _⟩
  · exact ⟨none, 0, by rw [h0]⟩
  · exact ⟨some ⟨g, 0, none⟩, cap, rfl⟩
theorem byteOwn_nil (w : World) (base : Nat) (h : base ≤ w.heap.size) : ByteOwn (w.alloc (.cells #[] 5)) base [] (.slice (some ⟨w.heap.size, 0, none⟩) 0 0) :=
  ⟨rfl, .inr ⟨w.heap.size, 0, #[], rfl, h, heap_alloc_new w _, Nat.le_refl _, Nat.zero_le _, rfl, rfl⟩⟩
theorem own_snoc {w : World} {base : Nat} {l : List UInt8} {c : Nat} {v : Value} (h : w.ownsRow base 5 1 v (l.length + 1) (Lib.byteCells l ++ [.int .u8 (c : Int)])) (hc : c < 256 := by first | exact UInt8.toNat_lt _ | omega) : ByteOwn w base (l ++ [UInt8.ofNat c]) v := by
  unfold ByteOwn
  have e : Lib.byteCells (l ++ [UInt8.ofNat c]) = Lib.byteCells l ++ [.int .u8 (c : Int)] := by
    simp [Lib.byteCells]; omega
  rw [e, List.length_append]; exact h
theorem grown_byte {w wr w2 : World} {l : List UInt8} {v : Value} {o : Obj} (hr : Res1 w zero5 wr) (ho : ByteOwn wr (w.heap.size + 1) l v) (hg : (wr.alloc o).grownBy w2 v.ownBlock) : Res1 w zero5 w2 := by
  have hlt := lt_of_block hr.2
  have hne : ∀ g, v.ownBlock = some g → w.heap.size + 1 ≤ g := fun g h => (World.ownsRow.lt (w := wr) ho g h).1
  refine ⟨(hr.1.alloc (by omega) o).grown hg (by simp; omega) (fun g h => by have := hne g h; omega), ?_⟩
  rw [hg.block w.heap.size (by simp; omega) (fun e => by have := hne _ e.symm; omega), Lib.alloc_old _ _ _ hlt]
  exact hr.2

set_option maxRecDepth 100000 in
theorem conv_own {wr : World} {base : Nat} {l : List UInt8} {a : Option Addr} {cp : Nat} (h : ByteOwn wr base l (.slice a l.length cp)) : (convert 39 9 (.slice a l.length cp)).run Tryz.prog wr = .ok (.string ⟨l.toArray⟩) wr := by
  rcases h.2 with ⟨h1, h0⟩ | ⟨g, cap, cur, hv, hb, hc, hn, hm, hsz, ht⟩
  · obtain rfl : l = [] := List.length_eq_zero_iff.1 h0
    injection h1 with e1 e2 e3
    subst e1 e3
    show (convert 39 9 (.slice none 0 0)).run Tryz.prog wr = _
    rw [run_convert_bytes_string wr 39 9 5 none 0 0 Tryz.underlying39 Tryz.underlying5 Tryz.underlying9]
    rfl
  · injection hv with e1 e2 e3
    subst e1 e3
    refine run_convert_bytes_back (P := Tryz.prog) wr 39 9 5 ⟨g, 0, none⟩ cp l Tryz.underlying39 Tryz.underlying5 Tryz.underlying9 fun j hj => ?_
    rw [add_plain, Nat.zero_add, Lib.cell_of_heap hc]
    have e : cur.toList[j]? = (Lib.byteCells l)[j]? := by
      rw [← ht, List.getElem?_take, if_pos (by omega)]
    have e2 : cur[j]? = cur.toList[j]? := by simp
    rw [e2, e]
    simp [Lib.byteCells, hj]

theorem twoV_len {l : List UInt8} {x : Nat} (h : twoV l = some x) : 2 ≤ l.length := by
  match l, h with
  | a :: b :: r, _ => simp
theorem u8_of {c : UInt8} : UInt8.ofNat c.toNat = c := UInt8.ofNat_toNat

set_option maxRecDepth 100000 in
set_option maxHeartbeats 4000000 in
theorem rstr_any (s : ByteArray) (k : Nat) (w : World) (hs : s.size ≤ 4096) (hk : k < s.size) :
    Calls Tryz.prog 57 #[.string s, .int .i64 (k : Int)] w fun e w' => e = .returned (TokV (textV [] 1 (txt (s.data.toList.drop (k + 1))))) ∧ Below w.heap.size w w' := by
  obtain ⟨i0, hi, hz0, hz1, hz2⟩ := info_parts infoByte
  have HL := Lib.hid (len_data s)
  have R0 := Lib.hid ((Res1.first w zero5).next ((Below.refl _ _).alloc (Nat.le_refl _) (.cells #[] 5)))
  have B0 : Hid (ByteOwn ((w.alloc (.cells zero5 52)).alloc (.cells #[] 5)) (w.heap.size + 1) [] (.slice (some ⟨w.heap.size + 1, 0, none⟩) 0 0)) := Lib.hid (by
    have := byteOwn_nil (w.alloc (.cells zero5 52)) (w.heap.size + 1) (by simp)
    simpa using this)
  obtain ⟨T, hT⟩ : ∃ T, T = textV [] 1 (txt (s.data.toList.drop (k + 1))) := ⟨_, rfl⟩
  rw [← hT]
  have HT := Lib.hid hT
  clear hT
  go_enter Tryz.func57, Tryz.ntmps57
  go_wp2
  go_loopw [7, 8] (fun v i wr => ∃ (p : Nat) (acc : List UInt8), k + 1 ≤ p ∧ p ≤ s.size ∧ i = .int .i64 p ∧ acc.length ≤ p ∧ ByteOwn wr (w.heap.size + 1) acc v ∧ Res1 w zero5 wr ∧ T = textV acc (p - k) (txt (s.data.toList.drop p))) (fun _ i _ => s.size - (intOf i).toNat)
  case atStart => exact ⟨k + 1, [], Nat.le_refl _, by omega, by go_num, by simp, B0.out, R0.out, by rw [HT.out, Nat.add_sub_cancel_left]⟩
  case round =>
    obtain ⟨p, acc, hp1, hp, rfl, hacc, hbd, hr1, htx⟩ := hrel
    have HO := Lib.hid hbd
    have HR := Lib.hid hr1
    have HX := Lib.hid htx
    obtain ⟨a, cp, rfl⟩ := hbd.shape
    have hwsz : w.heap.size < wr.heap.size := lt_of_block hr1.2
    obtain ⟨c0, c1, c2, c3, c4⟩ := hr1.cells
    obtain ⟨f0, f1, f2, f3, f4⟩ := hr1.froz
    clear hbd hr1 htx
    by_cases hlt : p < s.size
    · have HD : Hid (s.data.toList.drop p = s[p] :: s.data.toList.drop (p + 1)) := Lib.hid (List.drop_eq_getElem_cons (by rw [HL.out]; exact hlt))
      by_cases hq : ((s[p].toNat : Int) == 34) = true
      · have HF : Hid (T = (⟨8, acc, 0⟩, p - k + 1, 0)) := Lib.hid (by
          rw [HX.out, txt_end (by rw [HD.out, byte_is (m := 34) rfl hq]; rfl)]
          simp [textV])
        have HCV := Lib.hid (conv_own HO.out)
        have hpk : ((p - k + 1 : Nat) : Int) = (p : Int) + 1 - (k : Int) := by omega
        have HPK := Lib.hid hpk
        clear hpk
        have hcv := HCV.out
        go_wp2
        have R3 := HR.out.put (.int .i64 8) (.string ⟨acc.toArray⟩) (.int .i64 0) (.int .i64 0) (.int .i64 0)
        exact bodyPost_ret (results_row_tmp2 (P := Tryz.prog) rfl _ _ w.heap.size 52 _ (0, 0) _ rfl R3.2 Tryz.underlying52 rfl size35) rfl ⟨by rw [HF.out]; unfold TokV; simp only; rw [HPK.out]; rfl, R3.1⟩
      · have hq' : ((s[p].toNat : Int) == 34) = false := by simpa using hq
        have HH : Hid ((s.data.toList.drop p).head? ≠ some 34) := Lib.hid (by
          rw [HD.out]
          intro e
          exact byte_not (m := 34) rfl hq' (by simpa using e))
        have HNE : Hid (s.data.toList.drop p ≠ []) := Lib.hid (by rw [HD.out]; simp)
        have nx : ∀ b n, escV (s.data.toList.drop p) = some (b, n) → T = textV (acc ++ [b]) (p + n - k) (txt (s.data.toList.drop (p + n))) := fun b n he => by
          rw [HX.out, textV_step acc (p - k) HNE.out HH.out he, List.drop_drop, show p - k + n = p + n - k by omega]
        have NX := Lib.hid nx
        have FL : Hid (escV (s.data.toList.drop p) = none → T = (noTk, 0, 32)) := Lib.hid (fun he => by rw [HX.out, txt_fell HH.out he]; rfl)
        clear nx hq
        by_cases hb : ((s[p].toNat : Int) == 92) = true
        · have H92 := Lib.hid (byte_is (m := 92) (c := s[p]) rfl hb)
          have hb2 : ((s[p].toNat : Int) != 92) = false := by simpa using hb
          by_cases h1 : p + 1 < s.size
          · have HD1 : Hid (s.data.toList.drop (p + 1) = s[p + 1] :: s.data.toList.drop (p + 2)) := Lib.hid (List.drop_eq_getElem_cons (by rw [HL.out]; exact h1))
            have H2 : Hid (∀ W, Calls Tryz.prog 78 #[.string s, .int .i64 ((p : Int) + 2)] W fun e w' => e = .returned (.int .i64 (twoI (s.data.toList.drop (p + 2)))) ∧ W = w') := Lib.hid (fun W => two_any s (p + 2) W hs (by omega))
            have h1i : (p : Int) + 1 < (s.size : Int) := by omega
            have ES : Hid (escV (s.data.toList.drop p) = if s[p + 1] = 34 ∨ s[p + 1] = 92 then some (s[p + 1], 2) else if s[p + 1] = 110 then some (10, 2) else if s[p + 1] = 120 then (match twoV (s.data.toList.drop (p + 2)) with | some x => some (UInt8.ofNat x, 4) | none => none) else none) := Lib.hid (by
              rw [HD.out, H92.out, HD1.out, escV, if_neg (by decide)]
              by_cases g1 : s[p + 1] = 34 ∨ s[p + 1] = 92
              · rw [if_pos g1, if_pos g1]
              · rw [if_neg g1, if_neg g1]
                by_cases g2 : s[p + 1] = 110
                · rw [if_pos g2, if_pos g2]
                · rw [if_neg g2, if_neg g2]
                  by_cases g3 : s[p + 1] = 120
                  · rw [if_pos g3, if_pos g3]; cases twoV (s.data.toList.drop (p + 2)) <;> rfl
                  · rw [if_neg g3, if_neg g3])
            obtain ⟨X, hX⟩ : ∃ X, X = twoI (s.data.toList.drop (p + 2)) := ⟨_, rfl⟩
            have HXX := Lib.hid hX
            rw [← hX] at H2
            clear hX
            by_cases d1 : ((s[p + 1].toNat : Int) == 34) = true ∨ ((s[p + 1].toNat : Int) == 34) = false ∧ ((s[p + 1].toNat : Int) == 92) = true
            · have HF : Hid (T = textV (acc ++ [UInt8.ofNat s[p + 1].toNat]) (p + 2 - k) (txt (s.data.toList.drop (p + 2)))) := Lib.hid (NX.out _ 2 (by
                rw [u8_of, ES.out, if_pos]
                rcases d1 with d | d
                · exact .inl (byte_is (m := 34) rfl d)
                · exact .inr (byte_is (m := 92) rfl d.2)))
              rcases d1 with d | ⟨d, d'⟩
              all_goals
                go_wp2_with (first
                  | (at_builtin; refine wpList_append_own _ rfl _ _ 39 rfl (w.heap.size + 1) 5 i0 (.int .u8 0) 1 1 Tryz.underlying39 hi hz0 hz1 hz2 rfl (by decide) _ _ _ rfl (HO.out.alloc _) ⟨wr.heap.size, 0, none⟩ 1 1 [.int .u8 ((s[p + 1].toNat : Nat) : Int)] rfl rfl ?c1 ?c2 ?c3 ?c4 ?c5 ?_)
                  | (go_at_call 78; ((with_reducible refine (H2.out _).mono ?_); rintro e w' ⟨rfl, rfl⟩)))
                case c1 =>
                  intro j u hj
                  match j, hj with
                  | 0, hj => simp at hj; subst hj; simp [Addr.add]
                case c2 => intro u hu; simp at hu; subst hu; rfl
                case c3 => unfold maxLen; omega
                case c4 => omega
                case c5 => simp; omega
                intro v' w2 hown' hgrow _
                have HG := Lib.hid (grown_byte HR.out HO.out hgrow)
                have O2 := Lib.hid (own_snoc hown')
                clear hown' hgrow
                go_wp2
                go_roundw
                case rel => exact ⟨p + 2, acc ++ [UInt8.ofNat s[p + 1].toNat], by omega, by omega, by go_num, by simp; omega, O2.out, HG.out, HF.out⟩
                case measure => simp [intOf]; omega
            · have e34 : ((s[p + 1].toNat : Int) == 34) = false := by
                cases h : ((s[p + 1].toNat : Int) == 34) with
                | false => rfl
                | true => exact absurd (.inl h) d1
              have e92 : ((s[p + 1].toNat : Int) == 92) = false := by
                cases h : ((s[p + 1].toNat : Int) == 92) with
                | false => rfl
                | true => exact absurd (.inr ⟨e34, h⟩) d1
              have N1 : Hid (¬ (s[p + 1] = 34 ∨ s[p + 1] = 92)) := Lib.hid (by
                rintro (h | h)
                · exact byte_not (m := 34) rfl e34 h
                · exact byte_not (m := 92) rfl e92 h)
              clear d1
              by_cases d2 : ((s[p + 1].toNat : Int) == 110) = true
              · have HF : Hid (T = textV (acc ++ [UInt8.ofNat 10]) (p + 2 - k) (txt (s.data.toList.drop (p + 2)))) := Lib.hid (NX.out _ 2 (by
                  rw [ES.out, if_neg N1.out, if_pos (byte_is (m := 110) rfl d2)]; rfl))
                go_wp2_with (first
                  | (at_builtin; refine wpList_append_own _ rfl _ _ 39 rfl (w.heap.size + 1) 5 i0 (.int .u8 0) 1 1 Tryz.underlying39 hi hz0 hz1 hz2 rfl (by decide) _ _ _ rfl (HO.out.alloc _) ⟨wr.heap.size, 0, none⟩ 1 1 [.int .u8 (((10 : Nat) : Int))] rfl rfl ?c1 ?c2 ?c3 ?c4 ?c5 ?_)
                  | (go_at_call 78; ((with_reducible refine (H2.out _).mono ?_); rintro e w' ⟨rfl, rfl⟩)))
                case c1 =>
                  intro j u hj
                  match j, hj with
                  | 0, hj => simp at hj; subst hj; simp [Addr.add]
                case c2 => intro u hu; simp at hu; subst hu; rfl
                case c3 => unfold maxLen; omega
                case c4 => omega
                case c5 => simp; omega
                intro v' w2 hown' hgrow _
                have HG := Lib.hid (grown_byte HR.out HO.out hgrow)
                have O2 := Lib.hid (own_snoc (c := 10) hown')
                clear hown' hgrow
                go_wp2
                go_roundw
                case rel => exact ⟨p + 2, acc ++ [UInt8.ofNat 10], by omega, by omega, by go_num, by simp; omega, O2.out, HG.out, HF.out⟩
                case measure => simp [intOf]; omega
              · have d2' : ((s[p + 1].toNat : Int) == 110) = false := by simpa using d2
                have N2 := Lib.hid (byte_not (m := 110) (c := s[p + 1]) rfl d2')
                clear d2
                by_cases d3 : ((s[p + 1].toNat : Int) == 120) = true
                · have P3 := Lib.hid (byte_is (m := 120) (c := s[p + 1]) rfl d3)
                  cases ht : twoV (s.data.toList.drop (p + 2)) with
                  | none =>
                    have HF : Hid (T = (noTk, 0, 32)) := Lib.hid (FL.out (by rw [ES.out, if_neg N1.out, if_neg N2.out, if_pos P3.out, ht]))
                    have hX : X = -1 := by rw [HXX.out]; unfold twoI; rw [ht]
                    subst hX
                    go_wp2_with (go_at_call 78; ((with_reducible refine (H2.out _).mono ?_); rintro e w' ⟨rfl, rfl⟩))
                    have R3 := HR.out.put (.int .i64 0) (.string ⟨#[]⟩) (.int .i64 0) (.int .i64 0) (.int .i64 0)
                    exact bodyPost_ret (results_row_tmp2 (P := Tryz.prog) rfl _ _ w.heap.size 52 _ (0, 0) _ rfl R3.2 Tryz.underlying52 rfl size35) rfl ⟨by rw [HF.out]; rfl, R3.1⟩
                  | some v =>
                    have hv := twoV_lt ht
                    have hlen : p + 4 ≤ s.size := by
                      have := twoV_len ht
                      rw [List.length_drop, HL.out] at this; omega
                    have HF : Hid (T = textV (acc ++ [UInt8.ofNat v]) (p + 4 - k) (txt (s.data.toList.drop (p + 4)))) := Lib.hid (NX.out _ 4 (by
                      rw [ES.out, if_neg N1.out, if_neg N2.out, if_pos P3.out, ht]))
                    have hX : X = (v : Int) := by rw [HXX.out]; unfold twoI; rw [ht]
                    subst hX
                    have hv0 : 0 ≤ (v : Int) := by omega
                    have hv1 : (v : Int) < 256 := by omega
                    clear ht
                    go_wp2_with (first
                      | (at_builtin; refine wpList_append_own _ rfl _ _ 39 rfl (w.heap.size + 1) 5 i0 (.int .u8 0) 1 1 Tryz.underlying39 hi hz0 hz1 hz2 rfl (by decide) _ _ _ rfl (HO.out.alloc _) ⟨wr.heap.size, 0, none⟩ 1 1 [.int .u8 ((v : Int))] rfl rfl ?c1 ?c2 ?c3 ?c4 ?c5 ?_)
                      | (go_at_call 78; ((with_reducible refine (H2.out _).mono ?_); rintro e w' ⟨rfl, rfl⟩)))
                    case c1 =>
                      intro j u hj
                      match j, hj with
                      | 0, hj => simp at hj; subst hj; simp [Addr.add]
                    case c2 => intro u hu; simp at hu; subst hu; rfl
                    case c3 => unfold maxLen; omega
                    case c4 => omega
                    case c5 => simp; omega
                    intro v' w2 hown' hgrow _
                    have HG := Lib.hid (grown_byte HR.out HO.out hgrow)
                    have O2 := Lib.hid (own_snoc hown')
                    clear hown' hgrow
                    go_wp2
                    go_roundw
                    case rel => exact ⟨p + 4, acc ++ [UInt8.ofNat v], by omega, by omega, by go_num, by simp; omega, O2.out, HG.out, HF.out⟩
                    case measure => simp [intOf]; omega
                · have d3' : ((s[p + 1].toNat : Int) == 120) = false := by simpa using d3
                  have HF : Hid (T = (noTk, 0, 32)) := Lib.hid (FL.out (by rw [ES.out, if_neg N1.out, if_neg N2.out, if_neg (byte_not (m := 120) rfl d3')]))
                  clear d3
                  go_wp2_with (go_at_call 78; ((with_reducible refine (H2.out _).mono ?_); rintro e w' ⟨rfl, rfl⟩))
                  have R3 := HR.out.put (.int .i64 0) (.string ⟨#[]⟩) (.int .i64 0) (.int .i64 0) (.int .i64 0)
                  exact bodyPost_ret (results_row_tmp2 (P := Tryz.prog) rfl _ _ w.heap.size 52 _ (0, 0) _ rfl R3.2 Tryz.underlying52 rfl size35) rfl ⟨by rw [HF.out]; rfl, R3.1⟩
          · have hnil : s.data.toList.drop (p + 1) = [] := List.drop_of_length_le (by rw [HL.out]; omega)
            have HF : Hid (T = (noTk, 0, 32)) := Lib.hid (FL.out (by rw [HD.out, H92.out, hnil, escV, if_neg (by decide)]))
            have h1i : (s.size : Int) ≤ (p : Int) + 1 := by omega
            clear hnil
            go_wp2
            have R3 := HR.out.put (.int .i64 0) (.string ⟨#[]⟩) (.int .i64 0) (.int .i64 0) (.int .i64 0)
            exact bodyPost_ret (results_row_tmp2 (P := Tryz.prog) rfl _ _ w.heap.size 52 _ (0, 0) _ rfl R3.2 Tryz.underlying52 rfl size35) rfl ⟨by rw [HF.out]; rfl, R3.1⟩
        · have hb' : ((s[p].toNat : Int) == 92) = false := by simpa using hb
          have hb2 : ((s[p].toNat : Int) != 92) = true := by simpa using hb
          have HF : Hid (T = textV (acc ++ [UInt8.ofNat s[p].toNat]) (p + 1 - k) (txt (s.data.toList.drop (p + 1)))) := Lib.hid (NX.out _ 1 (by
            rw [u8_of, HD.out, escV.eq_def]
            simp only
            rw [if_pos (byte_not (m := 92) rfl hb')]))
          clear hb
          go_wp2_with (first
            | (at_builtin; refine wpList_append_own _ rfl _ _ 39 rfl (w.heap.size + 1) 5 i0 (.int .u8 0) 1 1 Tryz.underlying39 hi hz0 hz1 hz2 rfl (by decide) _ _ _ rfl (HO.out.alloc _) ⟨wr.heap.size, 0, none⟩ 1 1 [.int .u8 ((s[p].toNat : Nat) : Int)] rfl rfl ?c1 ?c2 ?c3 ?c4 ?c5 ?_))
          case c1 =>
            intro j u hj
            match j, hj with
            | 0, hj => simp at hj; subst hj; simp [Addr.add]
          case c2 => intro u hu; simp at hu; subst hu; rfl
          case c3 => unfold maxLen; omega
          case c4 => omega
          case c5 => simp; omega
          intro v' w2 hown' hgrow _
          have HG := Lib.hid (grown_byte HR.out HO.out hgrow)
          have O2 := Lib.hid (own_snoc hown')
          clear hown' hgrow
          go_wp2
          go_roundw
          case rel => exact ⟨p + 1, acc ++ [UInt8.ofNat s[p].toNat], by omega, by omega, by go_num, by simp; omega, O2.out, HG.out, HF.out⟩
          case measure => simp [intOf]; omega
    · obtain rfl : p = s.size := by omega
      have HF : Hid (T = (noTk, 0, 32)) := Lib.hid (by
        rw [HX.out, List.drop_of_length_le (by rw [HL.out]; exact Nat.le_refl _), txt]; rfl)
      go_wp2
      have R3 := HR.out.put (.int .i64 0) (.string ⟨#[]⟩) (.int .i64 0) (.int .i64 0) (.int .i64 0)
      exact bodyPost_ret (results_row_tmp2 (P := Tryz.prog) rfl _ _ w.heap.size 52 _ (0, 0) _ rfl R3.2 Tryz.underlying52 rfl size35) rfl ⟨by rw [HF.out]; rfl, R3.1⟩
end Go.Proofs.YthfjlcflpneffaaGreatDoor

/-
The document's one and Tokens: what they return, for every string.
-/
namespace Go.Proofs.YthfjlcflpneffaaGreatDoor
open Go.ChangeShapes Go.WideShapes Go.ChangeAt Go.RowKit

/-- What one answers at a place, by the byte that stands there. -/
def RoneOk (s : ByteArray) (k : Nat) (w : World) : Prop := Calls Tryz.prog 41 #[.string s, .int .i64 (k : Int)] w fun e w' => e = .returned (TokV (oneT (s.data.toList.drop k))) ∧ Below w.heap.size w w'

theorem tok_end {w W : World} (R : Res1 w zero5 W) (t : Tk) : Res1 w #[.int .i64 t.kind, .string ⟨t.text.toArray⟩, .int .i64 t.int, .int .i64 0, .int .i64 0] (((((W.setCell ⟨w.heap.size, 0, none⟩ (.int .i64 t.kind)).setCell ⟨w.heap.size, 1, none⟩ (.string ⟨t.text.toArray⟩)).setCell ⟨w.heap.size, 2, none⟩ (.int .i64 t.int)).setCell ⟨w.heap.size, 3, none⟩ (.int .i64 0)).setCell ⟨w.heap.size, 4, none⟩ (.int .i64 0)) := R.put _ _ _ _ _

set_option maxRecDepth 100000 in
set_option maxHeartbeats 1000000 in
theorem rone_sign (s : ByteArray) (k : Nat) (w : World) (_hs : s.size ≤ 4096) (h0 : k < s.size) (K : Int) (hk : ((s[k].toNat : Int) == 40) = true ∧ K = 0 ∨ ((s[k].toNat : Int) == 40) = false ∧ (((s[k].toNat : Int) == 41) = true ∧ K = 1 ∨ ((s[k].toNat : Int) == 41) = false ∧ ((s[k].toNat : Int) == 39) = true ∧ K = 3)) :
    Calls Tryz.prog 41 #[.string s, .int .i64 (k : Int)] w fun e w' => e = .returned (TokV (⟨K, [], 0⟩, 1, 0)) ∧ Below w.heap.size w w' := by
  have h0i : (k : Int) < (s.size : Int) := by omega
  rcases hk with ⟨h1, rfl⟩ | ⟨h1, ⟨h2, rfl⟩ | ⟨h2, h3, rfl⟩⟩
  · go_enter Tryz.func41, Tryz.ntmps41
    go_wp2
    have R2 := Res1.first w #[.int .i64 0, .string ⟨#[]⟩, .int .i64 0, .int .i64 0, .int .i64 0]
    exact bodyPost_ret (results_row_tmp2 (P := Tryz.prog) rfl _ _ w.heap.size 52 _ (0, 0) _ rfl R2.2 Tryz.underlying52 rfl size35) rfl ⟨rfl, R2.1⟩
  · go_enter Tryz.func41, Tryz.ntmps41
    go_wp2
    have R2 := Res1.first w #[.int .i64 1, .string ⟨#[]⟩, .int .i64 0, .int .i64 0, .int .i64 0]
    exact bodyPost_ret (results_row_tmp2 (P := Tryz.prog) rfl _ _ w.heap.size 52 _ (0, 0) _ rfl R2.2 Tryz.underlying52 rfl size35) rfl ⟨rfl, R2.1⟩
  · go_enter Tryz.func41, Tryz.ntmps41
    go_wp2
    have R2 := Res1.first w #[.int .i64 3, .string ⟨#[]⟩, .int .i64 0, .int .i64 0, .int .i64 0]
    exact bodyPost_ret (results_row_tmp2 (P := Tryz.prog) rfl _ _ w.heap.size 52 _ (0, 0) _ rfl R2.2 Tryz.underlying52 rfl size35) rfl ⟨rfl, R2.1⟩

set_option maxRecDepth 100000 in
set_option maxHeartbeats 1000000 in
theorem rone_hash (s : ByteArray) (k : Nat) (w : World) (_hs : s.size ≤ 4096) (h0 : k < s.size) (b1 : ((s[k].toNat : Int) == 40) = false) (b2 : ((s[k].toNat : Int) == 41) = false) (b3 : ((s[k].toNat : Int) == 39) = false) (q : Tk × Nat × Int)
    (hb : ((s[k].toNat : Int) == 35) = true ∧ (∀ W, Calls Tryz.prog 56 #[.string s, .int .i64 (k : Int)] W fun e w' => e = .returned (TokV q) ∧ Below W.heap.size W w') ∨
      ((s[k].toNat : Int) == 35) = false ∧ ((s[k].toNat : Int) == 34) = true ∧ (∀ W, Calls Tryz.prog 57 #[.string s, .int .i64 (k : Int)] W fun e w' => e = .returned (TokV q) ∧ Below W.heap.size W w')) :
    Calls Tryz.prog 41 #[.string s, .int .i64 (k : Int)] w fun e w' => e = .returned (TokV q) ∧ Below w.heap.size w w' := by
  have R0 := Lib.hid (Res1.first w zero5)
  have h0i : (k : Int) < (s.size : Int) := by omega
  obtain ⟨t, n, er⟩ := q
  unfold TokV Tk.val at hb ⊢
  simp only at hb ⊢
  rcases hb with ⟨b4, C⟩ | ⟨b4, b5, C⟩
  all_goals
    have H := Lib.hid C
    clear C
    go_enter Tryz.func41, Tryz.ntmps41
    go_wp2_with fail
    refine (H.out _).mono ?_
    rintro e w2 ⟨rfl, hb⟩
    have R2 := Lib.hid (R0.out.next hb)
    obtain ⟨c0, c1, c2, c3, c4⟩ := R2.out.cells
    obtain ⟨f0, f1, f2, f3, f4⟩ := R2.out.froz
    clear hb
    go_wp2
    have R3 := R2.out.put (.int .i64 t.kind) (.string ⟨t.text.toArray⟩) (.int .i64 t.int) (.int .i64 0) (.int .i64 0)
    exact bodyPost_ret (results_row_tmp2 (P := Tryz.prog) rfl _ _ w.heap.size 52 _ (0, 0) _ rfl R3.2 Tryz.underlying52 rfl size35) rfl ⟨rfl, R3.1⟩

set_option maxRecDepth 100000 in
set_option maxHeartbeats 1000000 in
theorem rone_word (s : ByteArray) (k : Nat) (w : World) (hs : s.size ≤ 4096) (h0 : k < s.size) (b1 : ((s[k].toNat : Int) == 40) = false) (b2 : ((s[k].toNat : Int) == 41) = false) (b3 : ((s[k].toNat : Int) == 39) = false)
    (b4 : ((s[k].toNat : Int) == 35) = false) (b5 : ((s[k].toNat : Int) == 34) = false) :
    Calls Tryz.prog 41 #[.string s, .int .i64 (k : Int)] w fun e w' => e = .returned (TokV (oneT (s.data.toList.drop k))) ∧ Below w.heap.size w w' := by
  have R0 := Lib.hid (Res1.first w zero5)
  have hl := len_data s
  have h0i : (k : Int) < (s.size : Int) := by omega
  have hcons : s.data.toList.drop k = s[k] :: s.data.toList.drop (k + 1) := List.drop_eq_getElem_cons (by rw [hl]; exact h0)
  have hone : oneT (s.data.toList.drop k) = if wordL (s.data.toList.drop k) = [] then (noTk, 0, 30) else ((wordT (wordL (s.data.toList.drop k))).1, (wordL (s.data.toList.drop k)).length, (wordT (wordL (s.data.toList.drop k))).2) := by
    have := one_word (c := s[k]) (s.data.toList.drop (k + 1)) (byte_not (m := 40) rfl b1) (byte_not (m := 41) rfl b2) (byte_not (m := 39) rfl b3) (byte_not (m := 35) rfl b4) (byte_not (m := 34) rfl b5)
    rwa [← hcons] at this
  have C26 : ∀ W, Calls Tryz.prog 58 #[.string s, .int .i64 (k : Int)] W fun e w' => e = .returned (.int .i64 ((wordL (s.data.toList.drop k)).length : Int)) ∧ W = w' := fun W => rword_any s k W (by unfold maxLen; omega) (by omega)
  have hwl := wordL_le (s.data.toList.drop k)
  rw [List.length_drop, hl] at hwl
  rw [hone]
  by_cases hw : wordL (s.data.toList.drop k) = []
  · rw [if_pos hw]
    rw [hw] at C26
    have H26 := Lib.hid C26
    clear C26 hone hw hwl hl hcons
    go_enter Tryz.func41, Tryz.ntmps41
    go_wp2_with (go_at_call 58; ((with_reducible refine (H26.out _).mono ?_); rintro e w' ⟨rfl, rfl⟩))
    have R2 := Res1.first w zero5
    exact bodyPost_ret (results_row_tmp2 (P := Tryz.prog) rfl _ _ w.heap.size 52 _ (0, 0) _ rfl R2.2 Tryz.underlying52 rfl size35) rfl ⟨rfl, R2.1⟩
  · rw [if_neg hw]
    have hpos := List.length_pos_iff.2 hw
    obtain ⟨n, hn⟩ : ∃ n, n = (wordL (s.data.toList.drop k)).length := ⟨_, rfl⟩
    rw [← hn] at C26 hwl hpos ⊢
    have hx : (s.extract k (k + n)).data.toList = wordL (s.data.toList.drop k) := by
      rw [extract_list, Nat.add_sub_cancel_left, hn, wordL_take]
    have C27 : ∀ W, Calls Tryz.prog 59 #[.string (s.extract k (k + n))] W fun e w' => WordOk (wordL (s.data.toList.drop k)) e ∧ Below W.heap.size W w' := fun W => by
      have := rwordT_any (s.extract k (k + n)) W (by simp; omega)
      rwa [hx] at this
    unfold WordOk Tk.val at C27
    unfold TokV Tk.val
    simp only
    generalize wordT (wordL (s.data.toList.drop k)) = q at C27 ⊢
    obtain ⟨t, er⟩ := q
    simp only at C27 ⊢
    have hn1 : (0 : Int) < (n : Int) := by omega
    have hn0 : ((n : Int) == 0) = false := by rw [beq_eq_false_iff_ne]; omega
    have hn2 : (k : Int) + (n : Int) ≤ (s.size : Int) := by omega
    have H26 := Lib.hid C26
    have H27 := Lib.hid C27
    clear C26 C27 hone hw hwl hl hx hn hcons
    go_enter Tryz.func41, Tryz.ntmps41
    go_wp2_with (go_at_call 58; ((with_reducible refine (H26.out _).mono ?_); rintro e w' ⟨rfl, rfl⟩))
    refine (H27.out _).mono ?_
    rintro e w3 ⟨rfl, hb⟩
    have R3 := Lib.hid (R0.out.next hb)
    have hlt := R3.out.lt
    obtain ⟨c0, c1, c2, c3, c4⟩ := R3.out.cells
    obtain ⟨f0, f1, f2, f3, f4⟩ := R3.out.froz
    clear hb
    go_wp2
    have R5 := (R3.out.put (.int .i64 t.kind) (.string ⟨t.text.toArray⟩) (.int .i64 t.int) (.int .i64 0) (.int .i64 0)).next ((Below.refl _ _).alloc (Nat.le_refl _) (.cells #[.int .i64 t.kind, .string ⟨t.text.toArray⟩, .int .i64 t.int, .int .i64 0, .int .i64 0] 52))
    exact bodyPost_ret (results_row_tmp2 (P := Tryz.prog) rfl _ _ w.heap.size 52 _ (0, 0) _ rfl R5.2 Tryz.underlying52 rfl size35) rfl ⟨rfl, R5.1⟩

theorem rone_any (s : ByteArray) (k : Nat) (w : World) (hs : s.size ≤ 4096) (h0 : k < s.size) : RoneOk s k w := by
  unfold RoneOk
  have hcons : s.data.toList.drop k = s[k] :: s.data.toList.drop (k + 1) := List.drop_eq_getElem_cons (by rw [len_data]; exact h0)
  by_cases h1 : ((s[k].toNat : Int) == 40) = true
  · have e : oneT (s.data.toList.drop k) = (⟨0, [], 0⟩, 1, 0) := by rw [hcons, byte_is (m := 40) rfl h1, oneT_cons, if_pos rfl]
    rw [e]; exact rone_sign s k w hs h0 0 (.inl ⟨h1, rfl⟩)
  have b1 : ((s[k].toNat : Int) == 40) = false := by simpa using h1
  by_cases h2 : ((s[k].toNat : Int) == 41) = true
  · have e : oneT (s.data.toList.drop k) = (⟨1, [], 0⟩, 1, 0) := by rw [hcons, byte_is (m := 41) rfl h2, oneT_cons, if_neg (by decide), if_pos rfl]
    rw [e]; exact rone_sign s k w hs h0 1 (.inr ⟨b1, .inl ⟨h2, rfl⟩⟩)
  have b2 : ((s[k].toNat : Int) == 41) = false := by simpa using h2
  by_cases h3 : ((s[k].toNat : Int) == 39) = true
  · have e : oneT (s.data.toList.drop k) = (⟨3, [], 0⟩, 1, 0) := by rw [hcons, byte_is (m := 39) rfl h3, oneT_cons, if_neg (by decide), if_neg (by decide), if_pos rfl]
    rw [e]; exact rone_sign s k w hs h0 3 (.inr ⟨b1, .inr ⟨b2, h3, rfl⟩⟩)
  have b3 : ((s[k].toNat : Int) == 39) = false := by simpa using h3
  by_cases h4 : ((s[k].toNat : Int) == 35) = true
  · have e : oneT (s.data.toList.drop k) = hashT (s.data.toList.drop (k + 1)) := by
      rw [hcons, byte_is (m := 35) rfl h4, one_hash]
    rw [e]
    exact rone_hash s k w hs h0 b1 b2 b3 _ (.inl ⟨h4, fun W => rhash_any s k W hs h0⟩)
  have b4 : ((s[k].toNat : Int) == 35) = false := by simpa using h4
  by_cases h5 : ((s[k].toNat : Int) == 34) = true
  · have e : oneT (s.data.toList.drop k) = textV [] 1 (txt (s.data.toList.drop (k + 1))) := by
      rw [hcons, byte_is (m := 34) rfl h5, one_text]
    rw [e]
    exact rone_hash s k w hs h0 b1 b2 b3 _ (.inr ⟨b4, h5, fun W => rstr_any s k W hs h0⟩)
  exact rone_word s k w hs h0 b1 b2 b3 b4 (by simpa using h5)
end Go.Proofs.YthfjlcflpneffaaGreatDoor

/-
The document's Tokens: what it returns, for every string.
-/
namespace Go.Proofs.YthfjlcflpneffaaGreatDoor
open Go.ChangeShapes Go.WideShapes Go.ChangeAt Go.RowKit

set_option maxRecDepth 100000 in
theorem rtokens_long (s : ByteArray) (w : World) (h : 4096 < s.size) (hs : s.size ≤ maxLen) :
    Calls Tryz.prog 21 #[.string s] w fun e w' => ToksOk (toksT s.data.toList) w.heap.size e w' ∧ Below w.heap.size w w' := by
  have ht : toksT s.data.toList = ([], 0, 35) := by unfold toksT; rw [if_pos (by rw [len_data]; exact h)]
  rw [ht]
  unfold maxLen at hs
  have h' : (4096 : Int) < (s.size : Int) := by omega
  clear ht
  go_enter Tryz.func21, Tryz.ntmps21
  go_wp2
  go_ret3
  exact ⟨⟨_, rfl, tokOwn_nil _ _⟩, Below.refl _ _⟩

set_option maxRecDepth 100000 in
set_option maxHeartbeats 2000000 in
theorem rtokens_go (s : ByteArray) (w : World) (hs : s.size ≤ 4096) :
    Calls Tryz.prog 21 #[.string s] w fun e w' => ToksOk (toksT s.data.toList) w.heap.size e w' ∧ Below w.heap.size w w' := by
  obtain ⟨i0, hi, hz0, hz1, hz2⟩ := info_parts infoTok
  have HL := Lib.hid (len_data s)
  have HG := Lib.hid (fun k W (h : k ≤ s.size) => rgap_any s k W hs h)
  obtain ⟨R, hR⟩ : ∃ R, R = runT s.data.toList.length 0 (gapS false s.data.toList) := ⟨_, rfl⟩
  obtain ⟨T, hT⟩ : ∃ T, T = toksT s.data.toList := ⟨_, rfl⟩
  have HT : Hid (T = if R.2.2 = 0 then (R.1, 0, 0) else ([], R.2)) := Lib.hid (by rw [hT, hR]; exact toks_of (by rw [HL.out]; exact hs))
  have G0 : Hid (Going s.data.toList R [] (s.size - (gapS false (s.data.toList.drop 0)).length)) := Lib.hid (by rw [hR, ← HL.out]; exact Going.start _)
  rw [← hT]
  have HG0 : Hid (∀ W, Calls Tryz.prog 40 #[.string s, .int .i64 0] W fun e w' => e = .returned (.int .i64 ((s.size - (gapS false (s.data.toList.drop 0)).length : Nat) : Int)) ∧ W = w') := Lib.hid (fun W => HG.out 0 W (Nat.zero_le _))
  have hk0 : s.size - (gapS false (s.data.toList.drop 0)).length ≤ s.size := Nat.sub_le _ _
  have O0 : Hid (TokOwn (w.alloc (.cells #[] 52)) w.heap.size [] (.slice (some ⟨w.heap.size, 0, none⟩) 0 0)) := Lib.hid ⟨rfl, .inr ⟨w.heap.size, 0, #[], rfl, Nat.le_refl _, heap_alloc_new w _, Nat.le_refl _, Nat.zero_le _, rfl, rfl⟩⟩
  have BB : Hid (Below w.heap.size w (w.alloc (.cells #[] 52))) := Lib.hid ((Below.refl _ _).alloc (Nat.le_refl _) _)
  clear hT hR
  go_enter Tryz.func21, Tryz.ntmps21
  go_wp2_with (go_at_call 40; ((with_reducible refine (HG0.out _).mono ?_); rintro e w' ⟨rfl, rfl⟩))
  go_loopw [5, 6] (fun v i wr => ∃ (k : Nat) (ts : List TkP), k ≤ s.size ∧ i = .int .i64 k ∧ ts.length ≤ 2048 ∧ TokOwn wr w.heap.size ts v ∧ Below w.heap.size w wr ∧ Going s.data.toList R ts k) (fun _ i _ => s.size - (intOf i).toNat)
  case atStart => exact ⟨_, [], hk0, rfl, by simp, O0.out, BB.out, G0.out⟩
  case round =>
    obtain ⟨k, ts, hk, rfl, hts, hown, hbr, hgo⟩ := hrel
    have HO := Lib.hid hown
    have HB := Lib.hid hbr
    have HGO := Lib.hid hgo
    obtain ⟨a, c, rfl⟩ := hown.shape
    clear hown hbr hgo
    by_cases hlt : k < s.size
    · have hll : k < s.data.toList.length := by rw [HL.out]; exact hlt
      by_cases hm : ts.length = 2048
      · have HF : Hid (T = ([], k, 34)) := Lib.hid (by
          have := HGO.out.many hll hm
          rw [HT.out, this]; rfl)
        have hm' : ((ts.length : Int) == 2048) = true := by rw [hm]; rfl
        clear hm hll
        go_wp2
        go_ret3
        exact ⟨⟨_, by rw [HF.out]; rfl, by rw [HF.out]; exact tokOwn_nil _ _⟩, HB.out⟩
      · have hm' : ((ts.length : Int) == 2048) = false := by simp; omega
        have hki : (k : Int) ≤ (s.size : Int) := by omega
        have C := rone_any s k wr hs hlt
        unfold RoneOk at C
        by_cases he : (oneT (s.data.toList.drop k)).2.2 = 0
        · have hn := oneT_len he
          rw [List.length_drop, HL.out] at hn
          have hgn := HGO.out.next hll hm he
          rw [HL.out] at hgn
          have GN := Lib.hid hgn
          unfold TokV Tk.val at C
          rw [he] at C
          have hle := gapS_le false (s.data.toList.drop (k + (oneT (s.data.toList.drop k)).2.1))
          rw [List.length_drop, HL.out] at hle
          clear hgn
          generalize oneT (s.data.toList.drop k) = q at C GN hn hle
          obtain ⟨t, n, er⟩ := q
          simp only at C GN hn hle
          have H := Lib.hid C
          have HLT : Hid (k + n ≤ s.size) := Lib.hid (by omega)
          have hn1 : 1 ≤ n := hn.1
          have hkn : k + n ≤ s.size := by omega
          have HGN : Hid (∀ W, Calls Tryz.prog 40 #[.string s, .int .i64 ((k : Int) + (n : Int))] W fun e w' => e = .returned (.int .i64 ((s.size - (gapS false (s.data.toList.drop (k + n))).length : Nat) : Int)) ∧ W = w') := Lib.hid (fun W => HG.out (k + n) W hkn)
          obtain ⟨K, hK⟩ : ∃ K, K = s.size - (gapS false (s.data.toList.drop (k + n))).length := ⟨_, rfl⟩
          have hK1 : k + n ≤ K := by omega
          have hK2 : K ≤ s.size := by omega
          rw [← hK] at HGN GN
          clear C he hn hll hle hK
          go_wp2_with fail
          refine H.out.mono ?_
          rintro e w1 ⟨rfl, hb1⟩
          have O1 := Lib.hid (HO.out.moved hb1)
          have B1 := Lib.hid (HB.out.trans (hb1.mono HB.out.size))
          have hsz1 : w.heap.size ≤ w1.heap.size := B1.out.size
          have HAB : Hid (Below w1.heap.size w1 ((w1.alloc (.cells #[.int .i64 t.kind, .string ⟨t.text.toArray⟩, .int .i64 t.int, .int .i64 (k : Int), .int .i64 ((k : Int) + (n : Int))] 52)).alloc (.cells #[.int .i64 t.kind, .string ⟨t.text.toArray⟩, .int .i64 t.int, .int .i64 (k : Int), .int .i64 ((k : Int) + (n : Int))] 52))) := Lib.hid (((Below.refl _ _).alloc (Nat.le_refl _) _).alloc (by simp) _)
          have OW : Hid (((w1.alloc (.cells #[.int .i64 t.kind, .string ⟨t.text.toArray⟩, .int .i64 t.int, .int .i64 (k : Int), .int .i64 ((k : Int) + (n : Int))] 52)).alloc (.cells #[.int .i64 t.kind, .string ⟨t.text.toArray⟩, .int .i64 t.int, .int .i64 (k : Int), .int .i64 ((k : Int) + (n : Int))] 52)).ownsRow w.heap.size 52 5 (.slice a ts.length c) ts.length (cellsOf ts)) := Lib.hid (O1.out.moved HAB.out)
          have HNE : Hid (∀ g, (Value.slice a ts.length c).ownBlock = some g → w.heap.size ≤ g ∧ g < w1.heap.size) := Lib.hid (fun g hg => World.ownsRow.lt (w := w1) O1.out g hg)
          clear hb1
          go_wp2_with (at_builtin; refine wpList_append_own _ rfl _ _ 42 rfl w.heap.size 52 i0 _ 5 48 Tryz.underlying42 hi hz0 hz1 hz2 rfl (by decide) _ _ _ rfl OW.out ⟨w1.heap.size + 1, 0, none⟩ 1 1 [.int .i64 t.kind, .string ⟨t.text.toArray⟩, .int .i64 t.int, .int .i64 (k : Int), .int .i64 ((k : Int) + (n : Int))] rfl rfl ?c1 ?c2 ?c3 ?c4 ?c5 ?_)
          case c1 =>
            intro j u hj
            have hnew : ((w1.alloc (.cells #[.int .i64 t.kind, .string ⟨t.text.toArray⟩, .int .i64 t.int, .int .i64 (k : Int), .int .i64 ((k : Int) + (n : Int))] 52)).alloc (.cells #[.int .i64 t.kind, .string ⟨t.text.toArray⟩, .int .i64 t.int, .int .i64 (k : Int), .int .i64 ((k : Int) + (n : Int))] 52)).heap[w1.heap.size + 1]? = some (.cells #[.int .i64 t.kind, .string ⟨t.text.toArray⟩, .int .i64 t.int, .int .i64 (k : Int), .int .i64 ((k : Int) + (n : Int))] 52 (0, 0)) := by
              have := heap_alloc_new (w1.alloc (.cells #[.int .i64 t.kind, .string ⟨t.text.toArray⟩, .int .i64 t.int, .int .i64 (k : Int), .int .i64 ((k : Int) + (n : Int))] 52)) (.cells #[.int .i64 t.kind, .string ⟨t.text.toArray⟩, .int .i64 t.int, .int .i64 (k : Int), .int .i64 ((k : Int) + (n : Int))] 52)
              simpa using this
            rw [add_plain, Nat.zero_add, Lib.cell_of_heap hnew]
            simpa using hj
          case c2 =>
            intro u hu
            simp only [List.mem_cons, List.not_mem_nil, or_false] at hu
            rcases hu with rfl | rfl | rfl | rfl | rfl <;> rfl
          case c3 => unfold maxLen; omega
          case c4 => omega
          case c5 => simp; omega
          intro v' w2 hown' hgrow _
          have hb2 : w2.heap[w1.heap.size]? = some (.cells #[.int .i64 t.kind, .string ⟨t.text.toArray⟩, .int .i64 t.int, .int .i64 (k : Int), .int .i64 ((k : Int) + (n : Int))] 52 (0, 0)) := by
            rw [hgrow.block w1.heap.size (by simp; omega) (fun e => by have := (HNE.out _ e.symm).2; omega), Lib.alloc_old _ _ _ (by simp)]
            exact heap_alloc_new w1 _
          have d4 : w2.cell? ⟨w1.heap.size, 4, none⟩ = some (.int .i64 ((k : Int) + (n : Int))) := by rw [Lib.cell_of_heap hb2]; rfl
          have O2 : Hid (TokOwn w2 w.heap.size (ts ++ [⟨t, k, k + n⟩]) v') := Lib.hid (by
            unfold TokOwn
            rw [cellsOf_app, cellsOf_one, List.length_append]
            exact hown')
          have B2 : Hid (Below w.heap.size w w2) := Lib.hid ((B1.out.trans (HAB.out.mono B1.out.size)).grown hgrow (by simp; omega) (fun g hg => (HNE.out g hg).1))
          clear hown' hgrow hb2
          go_wp2_with (go_at_call 40; ((with_reducible refine (HGN.out _).mono ?_); rintro e w' ⟨rfl, rfl⟩))
          go_roundw
          case rel => exact ⟨K, ts ++ [⟨t, k, k + n⟩], hK2, rfl, by simp; omega, O2.out, B2.out, GN.out⟩
          case measure => simp [intOf]; omega
        · have HF : Hid (T = ([], k, (oneT (s.data.toList.drop k)).2.2)) := Lib.hid (by
            have := HGO.out.bad hll hm he
            rw [HT.out, this, if_neg he])
          unfold TokV Tk.val at C
          generalize oneT (s.data.toList.drop k) = q at C HF he
          obtain ⟨t, n, er⟩ := q
          simp only at C HF he
          have H := Lib.hid C
          have he' : (er != 0) = true := by simpa using he
          clear C he hll
          go_wp2_with fail
          refine H.out.mono ?_
          rintro e w1 ⟨rfl, hb1⟩
          have B1 := Lib.hid (HB.out.trans (hb1.mono HB.out.size))
          have hsz1 : w.heap.size ≤ w1.heap.size := B1.out.size
          clear hb1
          go_wp2
          go_ret3
          exact ⟨⟨_, by rw [HF.out]; rfl, by rw [HF.out]; exact tokOwn_nil _ _⟩, B1.out.alloc hsz1 _⟩
    · obtain rfl : k = s.size := by omega
      have HF : Hid (T = (ts, 0, 0)) := Lib.hid (by
        have := HGO.out
        rw [← HL.out] at this
        have := this.done
        rw [HT.out, this]; rfl)
      go_wp2
      go_ret3
      exact ⟨⟨_, by rw [HF.out]; rfl, by rw [HF.out]; exact HO.out⟩, HB.out⟩

theorem rtokens_any (s : ByteArray) (w : World) (hs : s.size ≤ maxLen) :
    Calls Tryz.prog 21 #[.string s] w fun e w' => ToksOk (toksT s.data.toList) w.heap.size e w' ∧ Below w.heap.size w w' := by
  by_cases h : 4096 < s.size
  · exact rtokens_long s w h hs
  · exact rtokens_go s w (by omega)
end Go.Proofs.YthfjlcflpneffaaGreatDoor
