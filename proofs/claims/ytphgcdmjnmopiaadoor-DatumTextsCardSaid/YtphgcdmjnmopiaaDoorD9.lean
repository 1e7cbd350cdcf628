/-
Which fields a datum may have, itself: the document's form and Nested, for every datum. No condition.
-/
import Derived.Test.YtphgcdmjnmopiaaDoorD8
namespace Go.Proofs.YtphgcdmjnmopiaaDoor
open Go.ChangeShapes Go.WideShapes Go.ChangeAt Go.RowKit

theorem nested_any (k i : Int) (s : ByteArray) (v : Value) (r : Bool) (hr : r = (decide (k = 5) || decide (k = 6) || decide (k = 7))) (w : World) :
    Calls Tryd.prog 43 #[.agg #[.int .i64 k, .int .i64 i, .string s, v]] w fun e w' => e = .returned (.bool r) ∧ Below w.heap.size w w' := by
  have HR := Lib.hid hr
  clear hr
  by_cases h5 : k = 5
  · subst h5
    go_enter Tryd.func43, Tryd.ntmps43
    go_wp2
    go_ret
    exact ⟨ret_bool (by rw [HR.out]; rfl), (Below.refl _ _).alloc (Nat.le_refl _) _⟩
  by_cases h6 : k = 6
  · subst h6
    go_enter Tryd.func43, Tryd.ntmps43
    go_wp2
    go_ret
    exact ⟨ret_bool (by rw [HR.out]; rfl), (Below.refl _ _).alloc (Nat.le_refl _) _⟩
  by_cases h7 : k = 7
  · subst h7
    go_enter Tryd.func43, Tryd.ntmps43
    go_wp2
    go_ret
    exact ⟨ret_bool (by rw [HR.out]; rfl), (Below.refl _ _).alloc (Nat.le_refl _) _⟩
  have hf : r = false := by rw [HR.out]; simp [h5, h6, h7]
  have HF := Lib.hid hf
  clear hf
  have b5 : (k == 5) = false := by simpa using h5
  have b6 : (k == 6) = false := by simpa using h6
  have b7 : (k == 7) = false := by simpa using h7
  go_enter Tryd.func43, Tryd.ntmps43
  go_wp2
  go_ret
  exact ⟨ret_bool HF.out.symm, (Below.refl _ _).alloc (Nat.le_refl _) _⟩

set_option maxHeartbeats 2000000 in
theorem form_num (k i : Int) (s : ByteArray) (a : Option Addr) (n c : Nat) (lo hi : Int) (r : Bool) (hk : k = 0 ∧ lo = 0 ∧ hi = 1 ∨ k = 1 ∧ lo = -1152921504606846976 ∧ hi = 1152921504606846975 ∨ k = 2 ∧ lo = 0 ∧ hi = 255)
    (hr : r = (decide (lo ≤ i) && decide (i ≤ hi) && s.data.toList.isEmpty && decide (n = 0))) (w : World) :
    Calls Tryd.prog 44 #[.agg #[.int .i64 k, .int .i64 i, .string s, .slice a n c]] w fun e w' => e = .returned (.bool r) ∧ Below w.heap.size w w' := by
  rw [← ByteArray.toList_eq] at hr
  have HR := Lib.hid hr
  clear hr
  by_cases hs : s.toList = []
  · have hse : s.toList.isEmpty = true := by simp [hs]
    by_cases hn : n = 0
    · subst hn
      rcases hk with ⟨rfl, rfl, rfl⟩ | ⟨rfl, rfl, rfl⟩ | ⟨rfl, rfl, rfl⟩
      all_goals
        go_enter Tryd.func44, Tryd.ntmps44
        go_wp2
        all_goals
          go_ret
          refine ⟨ret_bool ?_, (Below.refl _ _).alloc (Nat.le_refl _) _⟩
          rw [HR.out, Bool.eq_iff_iff]
          simp [*] <;> omega
    · have hn' : ((n : Int) == 0) = false := by simp; omega
      have hf : r = false := by rw [HR.out]; simp [hn]
      have HF := Lib.hid hf
      clear hf
      rcases hk with ⟨rfl, rfl, rfl⟩ | ⟨rfl, rfl, rfl⟩ | ⟨rfl, rfl, rfl⟩
      all_goals
        go_enter Tryd.func44, Tryd.ntmps44
        go_wp2
        all_goals
          go_ret
          exact ⟨ret_bool HF.out.symm, (Below.refl _ _).alloc (Nat.le_refl _) _⟩
  · have hse : s.toList.isEmpty = false := by simpa using hs
    have hf : r = false := by rw [HR.out]; simp [hse]
    have HF := Lib.hid hf
    clear hf
    rcases hk with ⟨rfl, rfl, rfl⟩ | ⟨rfl, rfl, rfl⟩ | ⟨rfl, rfl, rfl⟩
    all_goals
      go_enter Tryd.func44, Tryd.ntmps44
      go_wp2
      all_goals
        go_ret
        exact ⟨ret_bool HF.out.symm, (Below.refl _ _).alloc (Nat.le_refl _) _⟩

theorem form_text (i : Int) (s : ByteArray) (a : Option Addr) (n c : Nat) (r : Bool) (hs : s.size ≤ maxLen)
    (hr : r = (decide (i = 0) && decide (s.size ≤ 4096) && decide (n = 0))) (w : World) :
    Calls Tryd.prog 44 #[.agg #[.int .i64 3, .int .i64 i, .string s, .slice a n c]] w fun e w' => e = .returned (.bool r) ∧ Below w.heap.size w w' := by
  unfold maxLen at hs
  have HR := Lib.hid hr
  clear hr
  by_cases hi : i = 0
  · subst hi
    by_cases hn : n = 0
    · subst hn
      go_enter Tryd.func44, Tryd.ntmps44
      go_wp2
      all_goals
        go_ret
        refine ⟨ret_bool ?_, (Below.refl _ _).alloc (Nat.le_refl _) _⟩
        rw [HR.out, Bool.eq_iff_iff]
        simp [*] <;> omega
    · have hn' : ((n : Int) == 0) = false := by simp; omega
      have hf : r = false := by rw [HR.out]; simp [hn]
      have HF := Lib.hid hf
      clear hf
      go_enter Tryd.func44, Tryd.ntmps44
      go_wp2
      all_goals
        go_ret
        exact ⟨ret_bool HF.out.symm, (Below.refl _ _).alloc (Nat.le_refl _) _⟩
  · have hi' : (i == 0) = false := by simpa using hi
    have hf : r = false := by rw [HR.out]; simp [hi]
    have HF := Lib.hid hf
    clear hf
    go_enter Tryd.func44, Tryd.ntmps44
    go_wp2
    all_goals
      go_ret
      exact ⟨ret_bool HF.out.symm, (Below.refl _ _).alloc (Nat.le_refl _) _⟩

theorem form_name (i : Int) (s : ByteArray) (a : Option Addr) (n c : Nat) (r : Bool) (hs : s.size ≤ maxLen)
    (hr : r = (decide (i = 0) && nameB s.data.toList && decide (n = 0))) (w : World) :
    Calls Tryd.prog 44 #[.agg #[.int .i64 4, .int .i64 i, .string s, .slice a n c]] w fun e w' => e = .returned (.bool r) ∧ Below w.heap.size w w' := by
  have C := fun W => rname_any s W hs
  unfold maxLen at hs
  have HR := Lib.hid hr
  have H := Lib.hid C
  clear C hr
  by_cases hi : i = 0
  · subst hi
    by_cases hn : n = 0
    · subst hn
      have hf : r = nameB s.data.toList := by rw [HR.out]; simp
      have HF := Lib.hid hf
      clear hf
      go_enter Tryd.func44, Tryd.ntmps44
      go_wp2_with (go_at_call 13; ((with_reducible refine (H.out _).mono ?_); rintro e w' ⟨rfl, rfl⟩))
      all_goals
        go_ret
        exact ⟨ret_bool HF.out.symm, (Below.refl _ _).alloc (Nat.le_refl _) _⟩
    · have hn' : ((n : Int) == 0) = false := by simp; omega
      have hf : r = false := by rw [HR.out]; simp [hn]
      have HF := Lib.hid hf
      clear hf
      go_enter Tryd.func44, Tryd.ntmps44
      go_wp2
      all_goals
        go_ret
        exact ⟨ret_bool HF.out.symm, (Below.refl _ _).alloc (Nat.le_refl _) _⟩
  · have hi' : (i == 0) = false := by simpa using hi
    have hf : r = false := by rw [HR.out]; simp [hi]
    have HF := Lib.hid hf
    clear hf
    go_enter Tryd.func44, Tryd.ntmps44
    go_wp2
    all_goals
      go_ret
      exact ⟨ret_bool HF.out.symm, (Below.refl _ _).alloc (Nat.le_refl _) _⟩

theorem form_items (k i : Int) (s : ByteArray) (a : Option Addr) (n c : Nat) (r : Bool) (hk : k = 5 ∨ k = 7)
    (hr : r = (decide (i = 0) && s.data.toList.isEmpty)) (w : World) :
    Calls Tryd.prog 44 #[.agg #[.int .i64 k, .int .i64 i, .string s, .slice a n c]] w fun e w' => e = .returned (.bool r) ∧ Below w.heap.size w w' := by
  rw [← ByteArray.toList_eq] at hr
  have HR := Lib.hid hr
  clear hr
  by_cases hs : s.toList = []
  · have hse : s.toList.isEmpty = true := by simp [hs]
    rcases hk with rfl | rfl
    all_goals
      go_enter Tryd.func44, Tryd.ntmps44
      go_wp2
      all_goals
        go_ret
        refine ⟨ret_bool ?_, (Below.refl _ _).alloc (Nat.le_refl _) _⟩
        rw [HR.out, Bool.eq_iff_iff]
        simp [*]
  · have hse : s.toList.isEmpty = false := by simpa using hs
    rcases hk with rfl | rfl
    all_goals
      go_enter Tryd.func44, Tryd.ntmps44
      go_wp2
      all_goals
        go_ret
        refine ⟨ret_bool ?_, (Below.refl _ _).alloc (Nat.le_refl _) _⟩
        rw [HR.out, Bool.eq_iff_iff]
        simp [*]

theorem form_dot (i : Int) (s : ByteArray) (b o : Nat) (n c : Nat) (kl : Int) (h2 : 2 ≤ n) (hnc : n ≤ c) (hm : c ≤ maxLen) (r : Bool) (hr : r = (decide (i = 0) && s.data.toList.isEmpty && (decide (kl ≠ 5) && decide (kl ≠ 6)))) (w : World)
    (hc : w.cell? ⟨b, o + (n - 1) * 4, none⟩ = some (.int .i64 kl)) :
    Calls Tryd.prog 44 #[.agg #[.int .i64 6, .int .i64 i, .string s, .slice (some ⟨b, o, none⟩) n c]] w fun e w' => e = .returned (.bool r) ∧ Below w.heap.size w w' := by
  have hb : b < w.heap.size := World.block_lt_of_cell? _ _ hc
  rw [← ByteArray.toList_eq] at hr
  have HR := Lib.hid hr
  clear hr
  unfold maxLen at hm
  have hn0 : ((n : Int) == 0) = false := by simp; omega
  have hn2 : (2 : Int) ≤ (n : Int) := by omega
  by_cases hi : i = 0
  · subst hi
    by_cases hs : s.toList = []
    · have hse : s.toList.isEmpty = true := by simp [hs]
      have hf : r = (decide (kl ≠ 5) && decide (kl ≠ 6)) := by rw [HR.out, hse]; simp
      have HF := Lib.hid hf
      clear hf
      by_cases k5 : kl = 5
      · subst k5
        go_enter Tryd.func44, Tryd.ntmps44
        go_wp2
        go_ret
        exact ⟨ret_bool (by rw [HF.out]; rfl), (Below.refl _ _).alloc (Nat.le_refl _) _⟩
      · have e5 : (kl != 5) = true := by simpa using k5
        have e5' : (kl == 5) = false := by simpa using k5
        by_cases k6 : kl = 6
        · subst k6
          go_enter Tryd.func44, Tryd.ntmps44
          go_wp2
          go_ret
          exact ⟨ret_bool (by rw [HF.out]; rfl), (Below.refl _ _).alloc (Nat.le_refl _) _⟩
        · have e6 : (kl != 6) = true := by simpa using k6
          have e6' : (kl == 6) = false := by simpa using k6
          have hf2 : r = true := by rw [HF.out]; simp [k5, k6]
          have HF2 := Lib.hid hf2
          clear hf2
          go_enter Tryd.func44, Tryd.ntmps44
          go_wp2
          go_ret
          exact ⟨ret_bool HF2.out.symm, (Below.refl _ _).alloc (Nat.le_refl _) _⟩
    · have hse : s.toList.isEmpty = false := by simpa using hs
      have hf : r = false := by rw [HR.out, hse]; simp
      have HF := Lib.hid hf
      clear hf
      go_enter Tryd.func44, Tryd.ntmps44
      go_wp2
      go_ret
      exact ⟨ret_bool HF.out.symm, (Below.refl _ _).alloc (Nat.le_refl _) _⟩
  · have hi' : (i == 0) = false := by simpa using hi
    have hf : r = false := by rw [HR.out]; simp [hi]
    have HF := Lib.hid hf
    clear hf
    go_enter Tryd.func44, Tryd.ntmps44
    go_wp2
    all_goals
      go_ret
      exact ⟨ret_bool HF.out.symm, (Below.refl _ _).alloc (Nat.le_refl _) _⟩

theorem form_few (i : Int) (s : ByteArray) (a : Option Addr) (n c : Nat) (h2 : n < 2) (w : World) :
    Calls Tryd.prog 44 #[.agg #[.int .i64 6, .int .i64 i, .string s, .slice a n c]] w fun e w' => e = .returned (.bool false) ∧ Below w.heap.size w w' := by
  have h2' : ¬ (2 : Int) ≤ (n : Int) := by omega
  go_enter Tryd.func44, Tryd.ntmps44
  go_wp2
  all_goals
    go_ret
    exact ⟨rfl, (Below.refl _ _).alloc (Nat.le_refl _) _⟩

theorem form_other (k i : Int) (s : ByteArray) (a : Option Addr) (n c : Nat) (hk : k < 0 ∨ 7 < k) (w : World) :
    Calls Tryd.prog 44 #[.agg #[.int .i64 k, .int .i64 i, .string s, .slice a n c]] w fun e w' => e = .returned (.bool false) ∧ Below w.heap.size w w' := by
  have b0 : (k == 0) = false := by simp; omega
  have b1 : (k == 1) = false := by simp; omega
  have b2 : (k == 2) = false := by simp; omega
  have b3 : (k == 3) = false := by simp; omega
  have b4 : (k == 4) = false := by simp; omega
  have b5 : (k == 5) = false := by simp; omega
  have b6 : (k == 6) = false := by simp; omega
  have b7 : (k == 7) = false := by simp; omega
  go_enter Tryd.func44, Tryd.ntmps44
  go_wp2
  all_goals
    go_ret
    exact ⟨rfl, (Below.refl _ _).alloc (Nat.le_refl _) _⟩

theorem form_any (k i : Int) (s : ByteArray) (l : List PT) (v : Value) (B : Nat) (w : World) (hs : s.size ≤ maxLen) (hv : RepS w B l v) :
    Calls Tryd.prog 44 #[.agg #[.int .i64 k, .int .i64 i, .string s, v]] w fun e w' => e = .returned (.bool (formB k i s.data.toList l)) ∧ Below w.heap.size w w' := by
  obtain ⟨a, c, rfl, hl, hm, hn, hr⟩ := hv
  rcases kind_ways k with h | h | h | h | h | h
  · rcases h with rfl | rfl | rfl
    · exact form_num _ i s a l.length c 0 1 _ (.inl ⟨rfl, rfl, rfl⟩) (by simp [formB]) w
    · exact form_num _ i s a l.length c _ _ _ (.inr (.inl ⟨rfl, rfl, rfl⟩)) (by simp [formB]) w
    · exact form_num _ i s a l.length c _ _ _ (.inr (.inr ⟨rfl, rfl, rfl⟩)) (by simp [formB]) w
  · subst h; exact form_text i s a l.length c _ hs (by simp [formB]) w
  · subst h; exact form_name i s a l.length c _ hs (by simp [formB]) w
  · exact form_items k i s a l.length c _ h (by rcases h with rfl | rfl <;> simp [formB]) w
  · subst h
    by_cases h2 : 2 ≤ l.length
    · rcases hr with rfl | ⟨b', o', rfl, hb, hr⟩
      · simp at h2
      · rw [formB_6 _ _ _ h2]
        exact form_dot i s b' o' l.length c _ h2 hl hm _ rfl w (kind_cell (repAt_get hr (l.length - 1) (by omega)))
    · rw [formB_not6 _ _ _ (by omega)]
      exact form_few i s a l.length c (by omega) w
  · have : formB k i s.data.toList l = false := by
      unfold formB
      repeat (rw [if_neg (by omega)])
    rw [this]
    exact form_other k i s a l.length c h w
end Go.Proofs.YtphgcdmjnmopiaaDoor
