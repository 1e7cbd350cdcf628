/-
Texts D6b, D9, D12, one behind the other (a claim bears sixty files). Conditions: as each says.
-/
import Derived.Test.YtkjgdnfkpebejaaWN
import Derived.Test.YtkjgdnfkpebejaaWD

/-
The document's Name: what it returns, for every string. No condition.
-/
namespace Go.Proofs.Ytkjgdnfkpebejaa
open Go.ChangeShapes Go.WideShapes Go.ChangeAt Go.RowKit
set_option maxRecDepth 100000


/-! ### the document's -/
theorem rname_loop (s : ByteArray) (w : World) (hs : s.size ≤ maxLen) (h0 : 0 < s.size) (h1 : s.size ≤ 64) (h2 : ¬ s.data.toList = [46]) (h3 : numB s.data.toList = false) :
    Calls Try.prog 79 #[.string s] w fun e w' => e = .returned (.bool (bytesB s.data.toList)) ∧ w = w' := by
  have C := fun W => number_any s W hs
  rw [h3] at C
  have HN3 := Lib.hid C
  clear C h3
  unfold maxLen at hs
  rw [← ByteArray.toList_eq] at h2
  have HL := Lib.hid (len_data s)
  have h1' : (s.size : Int) ≤ 64 := by omega
  have h0' : (1 : Int) ≤ s.size := by omega
  have e1 : decide (64 < (s.size : Int)) = false := by simpa using h1'
  have e2 : (s.toList == [46]) = false := by simpa using h2
  go_enter Try.func79, Try.ntmps79
  go_wp2_with (go_at_call 99; ((with_reducible refine (HN3.out _).mono ?_); rintro e w' ⟨rfl, rfl⟩))
  go_loop [3] (fun i => ∃ k : Nat, k ≤ s.size ∧ i = .int .i64 k ∧ (s.data.toList.take k).all nby8 = true) (fun i => s.size - (intOf i).toNat)
  case atStart => exact ⟨0, Nat.zero_le _, rfl, rfl⟩
  case round =>
    obtain ⟨k, hk, rfl, hn⟩ := hrel
    by_cases hlt : k < s.size
    · have ht := all_take_succ s.data.toList nby8 k (by rw [HL.out]; exact hlt)
      rw [hn, Bool.true_and] at ht
      have HT := Lib.hid ht
      have HN := Lib.hid hn
      clear hn ht
      by_cases hc : nbyB s[k].toNat = true
      · have C := fun W => rbyte_any s[k].toNat W
        rw [hc] at C
        have H := Lib.hid C
        have HC := Lib.hid hc
        clear C hc
        go_wp2_with (go_at_call 100; ((with_reducible refine (H.out _).mono ?_); rintro e w' ⟨rfl, rfl⟩))
        go_round
        case rel => exact ⟨k + 1, by omega, by go_num, HT.out.trans HC.out⟩
        case measure => simp [intOf]; omega
      · have hc' : nbyB s[k].toNat = false := by simpa using hc
        have C := fun W => rbyte_any s[k].toNat W
        rw [hc'] at C
        have H := Lib.hid C
        have HC := Lib.hid hc'
        clear C hc hc'
        go_wp2_with (go_at_call 100; ((with_reducible refine (H.out _).mono ?_); rintro e w' ⟨rfl, rfl⟩))
        go_ret
        exact ⟨ret_bool (all_of_not k (by rw [HL.out]; exact hlt) HC.out).symm, rfl⟩
    · obtain rfl : k = s.size := by omega
      have HN := Lib.hid hn
      clear hn
      go_wp2
      go_ret
      refine ⟨ret_bool ?_, rfl⟩
      have := HN.out
      rw [List.take_of_length_le (by rw [HL.out]; omega)] at this
      exact this.symm

theorem rname_not (s : ByteArray) (w : World) (hs : s.size ≤ maxLen) (h : s.size = 0 ∨ 64 < s.size ∨ 0 < s.size ∧ s.size ≤ 64 ∧ (s.data.toList = [46] ∨ ¬ s.data.toList = [46] ∧ numB s.data.toList = true)) :
    Calls Try.prog 79 #[.string s] w fun e w' => e = .returned (.bool false) ∧ w = w' := by
  rcases h with h | h | ⟨h0, h1, h2 | ⟨h2, h3⟩⟩
  · obtain ⟨⟨l⟩⟩ := s
    obtain rfl : l = [] := List.length_eq_zero_iff.1 h
    clear hs h
    go_enter Try.func79, Try.ntmps79
    go_wp2
    go_ret
    exact ⟨rfl, rfl⟩
  · unfold maxLen at hs
    have h1' : (64 : Int) < (s.size : Int) := by omega
    have h0' : (1 : Int) ≤ s.size := by omega
    go_enter Try.func79, Try.ntmps79
    go_wp2
    go_ret
    exact ⟨rfl, rfl⟩
  · unfold maxLen at hs
    rw [← ByteArray.toList_eq] at h2
    have h1' : (s.size : Int) ≤ 64 := by omega
    have h0' : (1 : Int) ≤ s.size := by omega
    go_enter Try.func79, Try.ntmps79
    go_wp2
    go_ret
    exact ⟨rfl, rfl⟩
  · have C := fun W => number_any s W hs
    rw [h3] at C
    have HN3 := Lib.hid C
    clear C h3
    unfold maxLen at hs
    rw [← ByteArray.toList_eq] at h2
    have h1' : (s.size : Int) ≤ 64 := by omega
    have h0' : (1 : Int) ≤ s.size := by omega
    go_enter Try.func79, Try.ntmps79
    go_wp2_with (go_at_call 99; ((with_reducible refine (HN3.out _).mono ?_); rintro e w' ⟨rfl, rfl⟩))
    go_ret
    exact ⟨rfl, rfl⟩

theorem rname_any (s : ByteArray) (w : World) (hs : s.size ≤ maxLen) :
    Calls Try.prog 79 #[.string s] w fun e w' => e = .returned (.bool (nameB s.data.toList)) ∧ w = w' := by
  rcases name_ways s with h | ⟨h0, h1, h2, h3⟩
  · rw [nameB_not s h]; exact rname_not s w hs h
  · rw [nameB_loop s h0 h1 h2 h3]; exact rname_loop s w hs h0 h1 h2 h3
end Go.Proofs.Ytkjgdnfkpebejaa

/-
Which fields a datum may have, itself: the document's form and Nested, for every datum. No condition.
-/
namespace Go.Proofs.Ytkjgdnfkpebejaa.Dat
open Go.ChangeShapes Go.WideShapes Go.ChangeAt Go.RowKit
set_option maxRecDepth 100000

theorem nested_any (k i : Int) (s : ByteArray) (v : Value) (r : Bool) (hr : r = (decide (k = 5) || decide (k = 6) || decide (k = 7))) (w : World) :
    Calls Try.prog 117 #[.agg #[.int .i64 k, .int .i64 i, .string s, v]] w fun e w' => e = .returned (.bool r) ∧ Below w.heap.size w w' := by
  have HR := Lib.hid hr
  clear hr
  by_cases h5 : k = 5
  · subst h5
    go_enter Try.func117, Try.ntmps117
    go_wp2
    go_ret
    exact ⟨ret_bool (by rw [HR.out]; rfl), (Below.refl _ _).alloc (Nat.le_refl _) _⟩
  by_cases h6 : k = 6
  · subst h6
    go_enter Try.func117, Try.ntmps117
    go_wp2
    go_ret
    exact ⟨ret_bool (by rw [HR.out]; rfl), (Below.refl _ _).alloc (Nat.le_refl _) _⟩
  by_cases h7 : k = 7
  · subst h7
    go_enter Try.func117, Try.ntmps117
    go_wp2
    go_ret
    exact ⟨ret_bool (by rw [HR.out]; rfl), (Below.refl _ _).alloc (Nat.le_refl _) _⟩
  have hf : r = false := by rw [HR.out]; simp [h5, h6, h7]
  have HF := Lib.hid hf
  clear hf
  have b5 : (k == 5) = false := by simpa using h5
  have b6 : (k == 6) = false := by simpa using h6
  have b7 : (k == 7) = false := by simpa using h7
  go_enter Try.func117, Try.ntmps117
  go_wp2
  go_ret
  exact ⟨ret_bool HF.out.symm, (Below.refl _ _).alloc (Nat.le_refl _) _⟩

set_option maxHeartbeats 2000000 in
theorem form_num (k i : Int) (s : ByteArray) (a : Option Addr) (n c : Nat) (lo hi : Int) (r : Bool) (hk : k = 0 ∧ lo = 0 ∧ hi = 1 ∨ k = 1 ∧ lo = -1152921504606846976 ∧ hi = 1152921504606846975 ∨ k = 2 ∧ lo = 0 ∧ hi = 255)
    (hr : r = (decide (lo ≤ i) && decide (i ≤ hi) && s.data.toList.isEmpty && decide (n = 0))) (w : World) :
    Calls Try.prog 118 #[.agg #[.int .i64 k, .int .i64 i, .string s, .slice a n c]] w fun e w' => e = .returned (.bool r) ∧ Below w.heap.size w w' := by
  rw [← ByteArray.toList_eq] at hr
  have HR := Lib.hid hr
  clear hr
  by_cases hs : s.toList = []
  · have hse : s.toList.isEmpty = true := by simp [hs]
    by_cases hn : n = 0
    · subst hn
      rcases hk with ⟨rfl, rfl, rfl⟩ | ⟨rfl, rfl, rfl⟩ | ⟨rfl, rfl, rfl⟩
      all_goals
        go_enter Try.func118, Try.ntmps118
        go_wp2
        all_goals
          go_ret
          refine ⟨ret_bool ?_, (Below.refl _ _).alloc (Nat.le_refl _) _⟩
          rw [HR.out, Bool.eq_iff_iff]
          simp [*] <;> omega
    · have hn' : ((n : Int) == 0) = false := by simp; omega
      have hf : r = false := by rw [HR.out]; simp [hn]
      have HF := Lib.hid hf
      clear hf
      rcases hk with ⟨rfl, rfl, rfl⟩ | ⟨rfl, rfl, rfl⟩ | ⟨rfl, rfl, rfl⟩
      all_goals
        go_enter Try.func118, Try.ntmps118
        go_wp2
        all_goals
          go_ret
          exact ⟨ret_bool HF.out.symm, (Below.refl _ _).alloc (Nat.le_refl _) _⟩
  · have hse : s.toList.isEmpty = false := by simpa using hs
    have hf : r = false := by rw [HR.out]; simp [hse]
    have HF := Lib.hid hf
    clear hf
    rcases hk with ⟨rfl, rfl, rfl⟩ | ⟨rfl, rfl, rfl⟩ | ⟨rfl, rfl, rfl⟩
    all_goals
      go_enter Try.func118, Try.ntmps118
      go_wp2
      all_goals
        go_ret
        exact ⟨ret_bool HF.out.symm, (Below.refl _ _).alloc (Nat.le_refl _) _⟩

theorem form_text (i : Int) (s : ByteArray) (a : Option Addr) (n c : Nat) (r : Bool) (hs : s.size ≤ maxLen)
    (hr : r = (decide (i = 0) && decide (s.size ≤ 4096) && decide (n = 0))) (w : World) :
    Calls Try.prog 118 #[.agg #[.int .i64 3, .int .i64 i, .string s, .slice a n c]] w fun e w' => e = .returned (.bool r) ∧ Below w.heap.size w w' := by
  unfold maxLen at hs
  have HR := Lib.hid hr
  clear hr
  by_cases hi : i = 0
  · subst hi
    by_cases hn : n = 0
    · subst hn
      go_enter Try.func118, Try.ntmps118
      go_wp2
      all_goals
        go_ret
        refine ⟨ret_bool ?_, (Below.refl _ _).alloc (Nat.le_refl _) _⟩
        rw [HR.out, Bool.eq_iff_iff]
        simp [*] <;> omega
    · have hn' : ((n : Int) == 0) = false := by simp; omega
      have hf : r = false := by rw [HR.out]; simp [hn]
      have HF := Lib.hid hf
      clear hf
      go_enter Try.func118, Try.ntmps118
      go_wp2
      all_goals
        go_ret
        exact ⟨ret_bool HF.out.symm, (Below.refl _ _).alloc (Nat.le_refl _) _⟩
  · have hi' : (i == 0) = false := by simpa using hi
    have hf : r = false := by rw [HR.out]; simp [hi]
    have HF := Lib.hid hf
    clear hf
    go_enter Try.func118, Try.ntmps118
    go_wp2
    all_goals
      go_ret
      exact ⟨ret_bool HF.out.symm, (Below.refl _ _).alloc (Nat.le_refl _) _⟩

theorem form_name (i : Int) (s : ByteArray) (a : Option Addr) (n c : Nat) (r : Bool) (hs : s.size ≤ maxLen)
    (hr : r = (decide (i = 0) && nameB s.data.toList && decide (n = 0))) (w : World) :
    Calls Try.prog 118 #[.agg #[.int .i64 4, .int .i64 i, .string s, .slice a n c]] w fun e w' => e = .returned (.bool r) ∧ Below w.heap.size w w' := by
  have C := fun W => rname_any s W hs
  unfold maxLen at hs
  have HR := Lib.hid hr
  have H := Lib.hid C
  clear C hr
  by_cases hi : i = 0
  · subst hi
    by_cases hn : n = 0
    · subst hn
      have hf : r = nameB s.data.toList := by rw [HR.out]; simp
      have HF := Lib.hid hf
      clear hf
      go_enter Try.func118, Try.ntmps118
      go_wp2_with (go_at_call 79; ((with_reducible refine (H.out _).mono ?_); rintro e w' ⟨rfl, rfl⟩))
      all_goals
        go_ret
        exact ⟨ret_bool HF.out.symm, (Below.refl _ _).alloc (Nat.le_refl _) _⟩
    · have hn' : ((n : Int) == 0) = false := by simp; omega
      have hf : r = false := by rw [HR.out]; simp [hn]
      have HF := Lib.hid hf
      clear hf
      go_enter Try.func118, Try.ntmps118
      go_wp2
      all_goals
        go_ret
        exact ⟨ret_bool HF.out.symm, (Below.refl _ _).alloc (Nat.le_refl _) _⟩
  · have hi' : (i == 0) = false := by simpa using hi
    have hf : r = false := by rw [HR.out]; simp [hi]
    have HF := Lib.hid hf
    clear hf
    go_enter Try.func118, Try.ntmps118
    go_wp2
    all_goals
      go_ret
      exact ⟨ret_bool HF.out.symm, (Below.refl _ _).alloc (Nat.le_refl _) _⟩

theorem form_items (k i : Int) (s : ByteArray) (a : Option Addr) (n c : Nat) (r : Bool) (hk : k = 5 ∨ k = 7)
    (hr : r = (decide (i = 0) && s.data.toList.isEmpty)) (w : World) :
    Calls Try.prog 118 #[.agg #[.int .i64 k, .int .i64 i, .string s, .slice a n c]] w fun e w' => e = .returned (.bool r) ∧ Below w.heap.size w w' := by
  rw [← ByteArray.toList_eq] at hr
  have HR := Lib.hid hr
  clear hr
  by_cases hs : s.toList = []
  · have hse : s.toList.isEmpty = true := by simp [hs]
    rcases hk with rfl | rfl
    all_goals
      go_enter Try.func118, Try.ntmps118
      go_wp2
      all_goals
        go_ret
        refine ⟨ret_bool ?_, (Below.refl _ _).alloc (Nat.le_refl _) _⟩
        rw [HR.out, Bool.eq_iff_iff]
        simp [*]
  · have hse : s.toList.isEmpty = false := by simpa using hs
    rcases hk with rfl | rfl
    all_goals
      go_enter Try.func118, Try.ntmps118
      go_wp2
      all_goals
        go_ret
        refine ⟨ret_bool ?_, (Below.refl _ _).alloc (Nat.le_refl _) _⟩
        rw [HR.out, Bool.eq_iff_iff]
        simp [*]

theorem form_dot (i : Int) (s : ByteArray) (b o : Nat) (n c : Nat) (kl : Int) (h2 : 2 ≤ n) (hnc : n ≤ c) (hm : c ≤ maxLen) (r : Bool) (hr : r = (decide (i = 0) && s.data.toList.isEmpty && (decide (kl ≠ 5) && decide (kl ≠ 6)))) (w : World)
    (hc : w.cell? ⟨b, o + (n - 1) * 4, none⟩ = some (.int .i64 kl)) :
    Calls Try.prog 118 #[.agg #[.int .i64 6, .int .i64 i, .string s, .slice (some ⟨b, o, none⟩) n c]] w fun e w' => e = .returned (.bool r) ∧ Below w.heap.size w w' := by
  have hb : b < w.heap.size := World.block_lt_of_cell? _ _ hc
  rw [← ByteArray.toList_eq] at hr
  have HR := Lib.hid hr
  clear hr
  unfold maxLen at hm
  have hn0 : ((n : Int) == 0) = false := by simp; omega
  have hn2 : (2 : Int) ≤ (n : Int) := by omega
  by_cases hi : i = 0
  · subst hi
    by_cases hs : s.toList = []
    · have hse : s.toList.isEmpty = true := by simp [hs]
      have hf : r = (decide (kl ≠ 5) && decide (kl ≠ 6)) := by rw [HR.out, hse]; simp
      have HF := Lib.hid hf
      clear hf
      by_cases k5 : kl = 5
      · subst k5
        go_enter Try.func118, Try.ntmps118
        go_wp2
        go_ret
        exact ⟨ret_bool (by rw [HF.out]; rfl), (Below.refl _ _).alloc (Nat.le_refl _) _⟩
      · have e5 : (kl != 5) = true := by simpa using k5
        have e5' : (kl == 5) = false := by simpa using k5
        by_cases k6 : kl = 6
        · subst k6
          go_enter Try.func118, Try.ntmps118
          go_wp2
          go_ret
          exact ⟨ret_bool (by rw [HF.out]; rfl), (Below.refl _ _).alloc (Nat.le_refl _) _⟩
        · have e6 : (kl != 6) = true := by simpa using k6
          have e6' : (kl == 6) = false := by simpa using k6
          have hf2 : r = true := by rw [HF.out]; simp [k5, k6]
          have HF2 := Lib.hid hf2
          clear hf2
          go_enter Try.func118, Try.ntmps118
          go_wp2
          go_ret
          exact ⟨ret_bool HF2.out.symm, (Below.refl _ _).alloc (Nat.le_refl _) _⟩
    · have hse : s.toList.isEmpty = false := by simpa using hs
      have hf : r = false := by rw [HR.out, hse]; simp
      have HF := Lib.hid hf
      clear hf
      go_enter Try.func118, Try.ntmps118
      go_wp2
      go_ret
      exact ⟨ret_bool HF.out.symm, (Below.refl _ _).alloc (Nat.le_refl _) _⟩
  · have hi' : (i == 0) = false := by simpa using hi
    have hf : r = false := by rw [HR.out]; simp [hi]
    have HF := Lib.hid hf
    clear hf
    go_enter Try.func118, Try.ntmps118
    go_wp2
    all_goals
      go_ret
      exact ⟨ret_bool HF.out.symm, (Below.refl _ _).alloc (Nat.le_refl _) _⟩

theorem form_few (i : Int) (s : ByteArray) (a : Option Addr) (n c : Nat) (h2 : n < 2) (w : World) :
    Calls Try.prog 118 #[.agg #[.int .i64 6, .int .i64 i, .string s, .slice a n c]] w fun e w' => e = .returned (.bool false) ∧ Below w.heap.size w w' := by
  have h2' : ¬ (2 : Int) ≤ (n : Int) := by omega
  go_enter Try.func118, Try.ntmps118
  go_wp2
  all_goals
    go_ret
    exact ⟨rfl, (Below.refl _ _).alloc (Nat.le_refl _) _⟩

theorem form_other (k i : Int) (s : ByteArray) (a : Option Addr) (n c : Nat) (hk : k < 0 ∨ 7 < k) (w : World) :
    Calls Try.prog 118 #[.agg #[.int .i64 k, .int .i64 i, .string s, .slice a n c]] w fun e w' => e = .returned (.bool false) ∧ Below w.heap.size w w' := by
  have b0 : (k == 0) = false := by simp; omega
  have b1 : (k == 1) = false := by simp; omega
  have b2 : (k == 2) = false := by simp; omega
  have b3 : (k == 3) = false := by simp; omega
  have b4 : (k == 4) = false := by simp; omega
  have b5 : (k == 5) = false := by simp; omega
  have b6 : (k == 6) = false := by simp; omega
  have b7 : (k == 7) = false := by simp; omega
  go_enter Try.func118, Try.ntmps118
  go_wp2
  all_goals
    go_ret
    exact ⟨rfl, (Below.refl _ _).alloc (Nat.le_refl _) _⟩

theorem form_any (k i : Int) (s : ByteArray) (l : List PT) (v : Value) (B : Nat) (w : World) (hs : s.size ≤ maxLen) (hv : RepS w B l v) :
    Calls Try.prog 118 #[.agg #[.int .i64 k, .int .i64 i, .string s, v]] w fun e w' => e = .returned (.bool (formB k i s.data.toList l)) ∧ Below w.heap.size w w' := by
  obtain ⟨a, c, rfl, hl, hm, hn, hr⟩ := hv
  rcases kind_ways k with h | h | h | h | h | h
  · rcases h with rfl | rfl | rfl
    · exact form_num _ i s a l.length c 0 1 _ (.inl ⟨rfl, rfl, rfl⟩) (by simp [formB]) w
    · exact form_num _ i s a l.length c _ _ _ (.inr (.inl ⟨rfl, rfl, rfl⟩)) (by simp [formB]) w
    · exact form_num _ i s a l.length c _ _ _ (.inr (.inr ⟨rfl, rfl, rfl⟩)) (by simp [formB]) w
  · subst h; exact form_text i s a l.length c _ hs (by simp [formB]) w
  · subst h; exact form_name i s a l.length c _ hs (by simp [formB]) w
  · exact form_items k i s a l.length c _ h (by rcases h with rfl | rfl <;> simp [formB]) w
  · subst h
    by_cases h2 : 2 ≤ l.length
    · rcases hr with rfl | ⟨b', o', rfl, hb, hr⟩
      · simp at h2
      · rw [formB_6 _ _ _ h2]
        exact form_dot i s b' o' l.length c _ h2 hl hm _ rfl w (kind_cell (repAt_get hr (l.length - 1) (by omega)))
    · rw [formB_not6 _ _ _ (by omega)]
      exact form_few i s a l.length c (by omega) w
  · have : formB k i s.data.toList l = false := by
      unfold formB
      repeat (rw [if_neg (by omega)])
    rw [this]
    exact form_other k i s a l.length c h w
end Go.Proofs.Ytkjgdnfkpebejaa.Dat

/-
What is wrong first in a datum: the document's Check, for every datum. No condition.
-/
namespace Go.Proofs.Ytkjgdnfkpebejaa.Dat
open Go.ChangeShapes Go.WideShapes Go.ChangeAt Go.RowKit
set_option maxRecDepth 100000

def RCheckOk (t : PT) : Prop := ∀ (w : World) (B n deep : Nat) (v : Value), RepV w B t v → B ≤ w.heap.size → n ≤ 4096 → deep ≤ 32 →
  Calls Try.prog 111 #[t.val v, .int .i64 (deep : Int), .int .i64 (n : Int)] w fun e w' =>
    e = .returned (.tuple #[.int .i64 ((chk deep n t).1 : Int), .int .i64 (chk deep n t).2]) ∧ Below w.heap.size w w'

theorem rcheck_many (k i : Int) (s : ByteArray) (v : Value) (deep : Nat) (w : World) :
    Calls Try.prog 111 #[.agg #[.int .i64 k, .int .i64 i, .string s, v], .int .i64 (deep : Int), .int .i64 ((4096 : Nat) : Int)] w fun e w' =>
      e = .returned (.tuple #[.int .i64 ((4096 : Nat) : Int), .int .i64 22]) ∧ Below w.heap.size w w' := by
  go_enter Try.func111, Try.ntmps111
  go_wp2
  go_ret2
  exact ⟨rfl, (Below.refl _ _).alloc (Nat.le_refl _) _⟩

theorem rcheck_deep (k i : Int) (s : ByteArray) (a : Option Addr) (m c : Nat) (n : Nat) (w : World) (hn : n < 4096) (hk : nestB k = true) :
    Calls Try.prog 111 #[.agg #[.int .i64 k, .int .i64 i, .string s, .slice a m c], .int .i64 ((32 : Nat) : Int), .int .i64 (n : Int)] w fun e w' =>
      e = .returned (.tuple #[.int .i64 ((n + 1 : Nat) : Int), .int .i64 21]) ∧ Below w.heap.size w w' := by
  have H := Lib.hid (fun W => nested_any k i s (.slice a m c) _ hk.symm W)
  clear hk
  have hn' : ((n : Int) == 4096) = false := by simp; omega
  go_enter Try.func111, Try.ntmps111
  go_wp2_with fail
  refine (H.out _).mono ?_
  rintro e w1 ⟨rfl, hb1⟩
  go_wp2
  go_ret2
  exact ⟨rfl, ((Below.refl w.heap.size w).alloc (Nat.le_refl _) _).trans (hb1.mono (by simp))⟩

theorem rcheck_form (k i : Int) (s : ByteArray) (l : List PT) (v : Value) (deep n : Nat) (w : World) (B : Nat) (hs : s.size ≤ maxLen) (hv : RepS w B l v) (hB : B ≤ w.heap.size) (hn : n < 4096) (hk : nestB k = false ∨ nestB k = true ∧ deep < 32)
    (hf : formB k i s.data.toList l = false) :
    Calls Try.prog 111 #[.agg #[.int .i64 k, .int .i64 i, .string s, v], .int .i64 (deep : Int), .int .i64 (n : Int)] w fun e w' =>
      e = .returned (.tuple #[.int .i64 ((n + 1 : Nat) : Int), .int .i64 20]) ∧ Below w.heap.size w w' := by
  have C : ∀ W, Below w.heap.size w W → Calls Try.prog 118 #[.agg #[.int .i64 k, .int .i64 i, .string s, v]] W fun e w' => e = .returned (.bool false) ∧ Below W.heap.size W w' := fun W hb => by
    have := form_any k i s l v B W hs (hv.below hb hB)
    rwa [hf] at this
  have HF := Lib.hid C
  obtain ⟨a, c, rfl, _⟩ := hv
  clear hf C
  have hn' : ((n : Int) == 4096) = false := by simp; omega
  have hd' : nestB k = true → ((deep : Int) == 32) = false := by
    intro h
    rcases hk with h' | ⟨_, h'⟩
    · rw [h] at h'; cases h'
    · simp; omega
  cases hkk : nestB k
  all_goals
    have H := Lib.hid (fun W => nested_any k i s (.slice a l.length c) _ hkk.symm W)
    try have hdd := hd' hkk
    clear hkk hd' hk
    go_enter Try.func111, Try.ntmps111
    go_wp2_with fail
    refine (H.out _).mono ?_
    rintro e w1 ⟨rfl, hb1⟩
    have g0 := box_cell hb1 0 _ rfl
    have g1 := box_cell hb1 1 _ rfl
    have g2 := box_cell hb1 2 _ rfl
    have g3 := box_cell hb1 3 _ rfl
    have hsz := hb1.size
    simp at hsz g0 g1 g2 g3
    go_wp2_with fail
    refine (HF.out _ (((Below.refl w.heap.size w).alloc (Nat.le_refl _) _).trans (hb1.mono (by simp)))).mono ?_
    rintro e w2 ⟨rfl, hb2⟩
    go_wp2
    go_ret2
    exact ⟨rfl, (((Below.refl w.heap.size w).alloc (Nat.le_refl _) _).trans (hb1.mono (by simp))).trans (hb2.mono (by omega))⟩

theorem ret_two {a b c d : Int} (h : a = b) (g : c = d) : Ending.returned (.tuple #[.int .i64 a, .int .i64 c]) = .returned (.tuple #[.int .i64 b, .int .i64 d]) := by rw [h, g]

theorem rcheck_none (k i : Int) (s : ByteArray) (a : Option Addr) (c : Nat) (deep n : Nat) (w : World) (B : Nat) (hs : s.size ≤ maxLen) (hv : RepS w B [] (.slice a 0 c)) (hB : B ≤ w.heap.size) (hn : n < 4096) (hk : nestB k = false ∨ nestB k = true ∧ deep < 32)
    (hf : formB k i s.data.toList [] = true) :
    Calls Try.prog 111 #[.agg #[.int .i64 k, .int .i64 i, .string s, .slice a 0 c], .int .i64 (deep : Int), .int .i64 (n : Int)] w fun e w' =>
      e = .returned (.tuple #[.int .i64 ((n + 1 : Nat) : Int), .int .i64 0]) ∧ Below w.heap.size w w' := by
  have C : ∀ W, Below w.heap.size w W → Calls Try.prog 118 #[.agg #[.int .i64 k, .int .i64 i, .string s, .slice a 0 c]] W fun e w' => e = .returned (.bool true) ∧ Below W.heap.size W w' := fun W hb => by
    have := form_any k i s [] _ B W hs (hv.below hb hB)
    rwa [hf] at this
  have HF := Lib.hid C
  clear hf C hv
  have hn' : ((n : Int) == 4096) = false := by simp; omega
  have hd' : nestB k = true → ((deep : Int) == 32) = false := by
    intro h
    rcases hk with h' | ⟨_, h'⟩
    · rw [h] at h'; cases h'
    · simp; omega
  cases hkk : nestB k
  all_goals
    have H := Lib.hid (fun W => nested_any k i s (.slice a 0 c) _ hkk.symm W)
    try have hdd := hd' hkk
    clear hkk hd' hk
    go_enter Try.func111, Try.ntmps111
    go_wp2_with fail
    refine (H.out _).mono ?_
    rintro e w1 ⟨rfl, hb1⟩
    have g0 := box_cell hb1 0 _ rfl
    have g1 := box_cell hb1 1 _ rfl
    have g2 := box_cell hb1 2 _ rfl
    have g3 := box_cell hb1 3 _ rfl
    have hsz := hb1.size
    simp at hsz g0 g1 g2 g3
    go_wp2_with fail
    refine (HF.out _ (((Below.refl w.heap.size w).alloc (Nat.le_refl _) _).trans (hb1.mono (by simp)))).mono ?_
    rintro e w2 ⟨rfl, hb2⟩
    have g3' := (hb2.cell (p := ⟨w.heap.size, 3, none⟩) (by show w.heap.size < _; omega)).trans g3
    clear g3
    go_wp2
    refine wp_loop_rounds 1 ?_
    rw [rounds_succ]
    go_wp2
    go_ret2
    exact ⟨rfl, (((Below.refl w.heap.size w).alloc (Nat.le_refl _) _).trans (hb1.mono (by simp))).trans (hb2.mono (by omega))⟩

theorem rcheck_loop (k i : Int) (s : ByteArray) (l : List PT) (ih : ∀ t ∈ l, RCheckOk t) (b o c : Nat) (deep n : Nat) (w : World) (B : Nat) (hs : s.size ≤ maxLen) (hl : l.length ≤ c) (hm : c ≤ maxLen) (hb : b < B) (hr : RepAt w B l b o) (hB : B ≤ w.heap.size) (hn : n < 4096) (hk : nestB k = true) (hd : deep < 32)
    (hf : formB k i s.data.toList l = true) :
    Calls Try.prog 111 #[.agg #[.int .i64 k, .int .i64 i, .string s, .slice (some ⟨b, o, none⟩) l.length c], .int .i64 (deep : Int), .int .i64 (n : Int)] w fun e w' =>
      e = .returned (.tuple #[.int .i64 ((chkL (deep + 1) (n + 1) l).1 : Int), .int .i64 (chkL (deep + 1) (n + 1) l).2]) ∧ Below w.heap.size w w' := by
  have hv : RepS w B l (.slice (some ⟨b, o, none⟩) l.length c) := ⟨_, c, rfl, hl, hm, (fun h => by cases h), .inr ⟨b, o, rfl, hb, hr⟩⟩
  have C : ∀ W, Below w.heap.size w W → Calls Try.prog 118 #[.agg #[.int .i64 k, .int .i64 i, .string s, .slice (some ⟨b, o, none⟩) l.length c]] W fun e w' => e = .returned (.bool true) ∧ Below W.heap.size W w' := fun W hb => by
    have := form_any k i s l _ B W hs (hv.below hb hB)
    rwa [hf] at this
  have HF := Lib.hid C
  have H := Lib.hid (fun W => nested_any k i s (.slice (some ⟨b, o, none⟩) l.length c) _ hk.symm W)
  have HR := Lib.hid hr
  have IH := Lib.hid ih
  unfold maxLen at hm
  clear hf C hv hk hr ih
  have hn' : ((n : Int) == 4096) = false := by simp; omega
  have hd' : ((deep : Int) == 32) = false := by simp; omega
  go_enter Try.func111, Try.ntmps111
  go_wp2_with fail
  refine (H.out _).mono ?_
  rintro e w1 ⟨rfl, hb1⟩
  have g0 := box_cell hb1 0 _ rfl
  have g1 := box_cell hb1 1 _ rfl
  have g2 := box_cell hb1 2 _ rfl
  have g3 := box_cell hb1 3 _ rfl
  have hsz := hb1.size
  simp at hsz g0 g1 g2 g3
  go_wp2_with fail
  refine (HF.out _ (((Below.refl w.heap.size w).alloc (Nat.le_refl _) _).trans (hb1.mono (by simp)))).mono ?_
  rintro e w2 ⟨rfl, hb2⟩
  have g3' := (hb2.cell (p := ⟨w.heap.size, 3, none⟩) (by show w.heap.size < _; omega)).trans g3
  have hB2 : Below w.heap.size w w2 := (((Below.refl w.heap.size w).alloc (Nat.le_refl _) _).trans (hb1.mono (by simp))).trans (hb2.mono (by omega))
  have hsz2 : w.heap.size < w2.heap.size := by have := hb2.size; omega
  clear g0 g1 g2 g3 hb1 hb2 hsz w1
  have HG := Lib.hid g3'
  clear g3'
  go_wp2
  go_loopw [2, 8, 9] (fun n' e' i' wr => ∃ j : Nat, j ≤ l.length ∧ i' = .int .i64 j ∧ n' = .int .i64 ((chkL (deep + 1) (n + 1) (l.take j)).1 : Int) ∧ e' = .int .i64 0 ∧ (chkL (deep + 1) (n + 1) (l.take j)).2 = 0 ∧ wr.cell? ⟨w.heap.size, 3, none⟩ = some (.slice (some ⟨b, o, none⟩) l.length c) ∧ Below w.heap.size w wr ∧ w.heap.size < wr.heap.size)
    (fun _ _ i' _ => l.length - (intOf i').toNat)
  case atStart => exact ⟨0, Nat.zero_le _, rfl, rfl, rfl, rfl, HG.out, hB2, hsz2⟩
  case round =>
    obtain ⟨j, hj, rfl, rfl, rfl, h0, hg3, hbr, hszr⟩ := hrel
    by_cases hlt' : j < l.length
    · obtain ⟨k', i', s', m, v', hjl, ok1, ok2, hs', d0, d1, d2, d3, hv'⟩ := repAt_item (HR.out.below hbr hB hb) hlt'
      have hle := chkL_le (deep + 1) (n + 1) (by omega) (l.take j)
      have hstep := chkL_take (deep + 1) (n + 1) l j hlt' h0
      have hbs : b < wr.heap.size := World.block_lt_of_cell? _ _ d0
      have H0 := Lib.hid h0
      have HS := Lib.hid hstep
      have HJ := Lib.hid hjl
      have HV := Lib.hid hv'
      obtain ⟨a', c', rfl, _⟩ := hv'
      clear h0 hstep hjl
      have hL : RCheckOk (.mk k' i' s' m) := by
        have := IH.out l[j] (List.getElem_mem _)
        rwa [HJ.out] at this
      have C := hL wr B (chkL (deep + 1) (n + 1) (l.take j)).1 (deep + 1) _ ⟨ok1, ok2, hs', HV.out⟩ (by omega) hle.2 (by omega)
      rw [← HJ.out, ← HS.out, HJ.out] at C
      by_cases hz : (chkL (deep + 1) (n + 1) (l.take (j + 1))).2 = 0
      · have HZ := Lib.hid hz
        clear hz
        have HC := Lib.hid C
        clear C
        go_wp2_with fail
        refine (HC.out).mono ?_
        rintro e w3 ⟨he, hb3⟩
        rw [HZ.out] at he
        subst he
        go_wp2
        go_roundw
        case rel => exact ⟨j + 1, by omega, by go_num, rfl, rfl, HZ.out, (hb3.cell (p := ⟨w.heap.size, 3, none⟩) (by show w.heap.size < _; omega)).trans hg3, hbr.trans (hb3.mono (by omega)), by have := hb3.size; omega⟩
        case measure => simp [intOf]; omega
      · have HW := Lib.hid (chkL_whole (deep + 1) (n + 1) l (j + 1) hz)
        have hzb : ((chkL (deep + 1) (n + 1) (l.take (j + 1))).2 != 0) = true := by simpa using hz
        rw [← HW.out] at C hzb
        have HC := Lib.hid C
        clear C hz
        go_wp2_with fail
        refine (HC.out).mono ?_
        rintro e w3 ⟨rfl, hb3⟩
        go_wp2
        go_ret2
        exact ⟨rfl, hbr.trans (hb3.mono (by omega))⟩
    · obtain rfl : j = l.length := by omega
      rw [List.take_length] at h0 ⊢
      have H0 := Lib.hid h0
      clear h0
      go_wp2
      go_ret2
      exact ⟨ret_two rfl H0.out.symm, hbr⟩

theorem rcheck_step (k i : Int) (s : ByteArray) (l : List PT) (ih : ∀ t ∈ l, RCheckOk t) : RCheckOk (.mk k i s l) := by
  intro w B n deep v hv hB hn hd
  obtain ⟨ok1, ok2, hs, hv⟩ := hv
  rw [chk]
  by_cases h1 : n = 4096
  · subst h1
    rw [if_pos rfl]
    exact rcheck_many k i s v deep w
  rw [if_neg h1]
  by_cases h2 : (nestB k && decide (deep = 32)) = true
  · rw [if_pos h2]
    simp only [Bool.and_eq_true, decide_eq_true_eq] at h2
    obtain ⟨hk, rfl⟩ := h2
    obtain ⟨a, c, rfl, _⟩ := hv
    exact rcheck_deep k i s a l.length c n w (by omega) hk
  rw [if_neg h2]
  have hk : nestB k = false ∨ nestB k = true ∧ deep < 32 := by
    cases hb : nestB k
    · exact .inl rfl
    · right
      simp [hb] at h2
      exact ⟨rfl, by omega⟩
  by_cases h3 : formB k i s.data.toList l = true
  · rw [if_pos h3]
    by_cases h0 : l = []
    · subst h0
      obtain ⟨a, c, rfl, hl, hm, hna, hr⟩ := hv
      rw [chkL]
      exact rcheck_none k i s a c deep n w B hs ⟨a, c, rfl, hl, hm, hna, hr⟩ hB (by omega) hk h3
    · obtain ⟨a, c, rfl, hl, hm, hna, hr⟩ := hv
      rcases hr with rfl | ⟨b, o, rfl, hb, hr⟩
      · exact absurd rfl h0
      · rcases hk with hk | ⟨hk, hd'⟩
        · exact absurd (form_leaf hk h3) h0
        · exact rcheck_loop k i s l ih b o c deep n w B hs hl hm hb hr hB (by omega) hk hd' h3
  · rw [if_neg h3]
    exact rcheck_form k i s l v deep n w B hs hv hB (by omega) hk (by simpa using h3)

mutual
theorem rcheck_pt : ∀ t : PT, RCheckOk t
  | .mk k i s l => rcheck_step k i s l (rcheck_all l)
theorem rcheck_all : ∀ l : List PT, ∀ t ∈ l, RCheckOk t
  | [], t, h => by cases h
  | u :: l, t, h => (List.mem_cons.1 h).elim (fun e => e ▸ rcheck_pt u) (fun h => rcheck_all l t h)
end

theorem rcheck_any (t : PT) (v : Value) (w : World) (B : Nat) (hv : RepV w B t v) (hB : B ≤ w.heap.size) :
    Calls Try.prog 98 #[t.val v] w fun e w' => e = .returned (.int .i64 (checkB t)) ∧ Below w.heap.size w w' := by
  match t with
  | .mk k i s l =>
    have L := rcheck_pt (.mk k i s l)
    have HV := Lib.hid hv
    obtain ⟨a, c, rfl, _⟩ := hv.2.2.2
    clear hv
    show Calls Try.prog 98 #[.agg #[.int .i64 k, .int .i64 i, .string s, .slice a l.length c]] w _
    have C := fun o : Obj => L (w.alloc o) B 0 0 _ ⟨HV.out.1, HV.out.2.1, HV.out.2.2.1, HV.out.2.2.2.below ((Below.refl w.heap.size w).alloc (Nat.le_refl _) _) hB⟩ (by simp; omega) (by omega) (by omega)
    have HC := Lib.hid C
    clear C L
    go_enter Try.func98, Try.ntmps98
    go_wp2_with fail
    refine (HC.out _).mono ?_
    rintro e w1 ⟨rfl, hb1⟩
    go_wp2
    go_ret
    exact ⟨rfl, ((Below.refl w.heap.size w).alloc (Nat.le_refl _) _).trans (hb1.mono (by simp))⟩
end Go.Proofs.Ytkjgdnfkpebejaa.Dat
