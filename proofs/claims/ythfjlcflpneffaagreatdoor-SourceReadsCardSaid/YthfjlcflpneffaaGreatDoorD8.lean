/-
Which fields a datum may have, itself: package data's isFormed and the document's form, for every datum. No condition.
-/
import Derived.Test.YthfjlcflpneffaaGreatDoorD7
namespace Go.Proofs.YthfjlcflpneffaaGreatDoor.Dat
open Go.ChangeShapes Go.WideShapes Go.ChangeAt Go.RowKit
set_option maxRecDepth 100000

theorem formed_dot (i : Int) (s : ByteArray) (b o : Nat) (n c : Nat) (kl : Int) (h2 : 2 ≤ n) (hnc : n ≤ c) (hm : c ≤ maxLen) (r : Bool) (hr : r = (decide (i = 0) && s.data.toList.isEmpty && (decide (kl ≠ 5) && decide (kl ≠ 6)))) (w : World)
    (hc : w.cell? ⟨b, o + (n - 1) * 4, none⟩ = some (.int .i64 kl)) :
    Calls Tryz.prog 45 #[.agg #[.int .i64 6, .int .i64 i, .string s, .slice (some ⟨b, o, none⟩) n c]] w fun e w' => e = .returned (.bool r) ∧ Below w.heap.size w w' := by
  have hb : b < w.heap.size := World.block_lt_of_cell? _ _ hc
  rw [← ByteArray.toList_eq] at hr
  have HR := Lib.hid hr
  clear hr
  unfold maxLen at hm
  have C := fun W => mayBeTail_any kl _ rfl W
  have H := Lib.hid C
  clear C
  by_cases hi : i = 0
  · subst hi
    by_cases hs : s.toList = []
    · have hse : s.toList.isEmpty = true := by simp [hs]
      go_enter Tryz.func45, Tryz.ntmps45
      go_wp2_with (go_at_call 34; ((with_reducible refine (H.out _).mono ?_); rintro e w' ⟨rfl, rfl⟩))
      go_ret
      refine ⟨ret_bool ?_, (Below.refl _ _).alloc (Nat.le_refl _) _⟩
      rw [HR.out, hs]; simp
    · have hse : s.toList.isEmpty = false := by simpa using hs
      go_enter Tryz.func45, Tryz.ntmps45
      go_wp2_with (go_at_call 34; ((with_reducible refine (H.out _).mono ?_); rintro e w' ⟨rfl, rfl⟩))
      go_ret
      refine ⟨ret_bool ?_, (Below.refl _ _).alloc (Nat.le_refl _) _⟩
      rw [HR.out, hse]; simp
  · have hi' : (i == 0) = false := by simpa using hi
    go_enter Tryz.func45, Tryz.ntmps45
    go_wp2_with (go_at_call 34; ((with_reducible refine (H.out _).mono ?_); rintro e w' ⟨rfl, rfl⟩))
    go_ret
    refine ⟨ret_bool ?_, (Below.refl _ _).alloc (Nat.le_refl _) _⟩
    rw [HR.out]; simp [hi]

theorem formed_few (i : Int) (s : ByteArray) (a : Option Addr) (n c : Nat) (h2 : n < 2) (w : World) :
    Calls Tryz.prog 45 #[.agg #[.int .i64 6, .int .i64 i, .string s, .slice a n c]] w fun e w' => e = .returned (.bool false) ∧ Below w.heap.size w w' := by
  have h2' : ¬ (2 : Int) ≤ (n : Int) := by omega
  go_enter Tryz.func45, Tryz.ntmps45
  go_wp2
  all_goals
    go_ret
    exact ⟨rfl, (Below.refl _ _).alloc (Nat.le_refl _) _⟩

theorem formed_other (k i : Int) (s : ByteArray) (v : Value) (hk : k < 0 ∨ 7 < k) (w : World) :
    Calls Tryz.prog 45 #[.agg #[.int .i64 k, .int .i64 i, .string s, v]] w fun e w' => e = .returned (.bool false) ∧ Below w.heap.size w w' := by
  have b0 : (k == 0) = false := by simp; omega
  have b1 : (k == 1) = false := by simp; omega
  have b2 : (k == 2) = false := by simp; omega
  have b3 : (k == 3) = false := by simp; omega
  have b4 : (k == 4) = false := by simp; omega
  have b5 : (k == 5) = false := by simp; omega
  have b6 : (k == 6) = false := by simp; omega
  have b7 : (k == 7) = false := by simp; omega
  go_enter Tryz.func45, Tryz.ntmps45
  go_wp2
  go_ret
  exact ⟨rfl, (Below.refl _ _).alloc (Nat.le_refl _) _⟩

/-! ### what a slice's value says -/
theorem tailB_get (l : List PT) (h : 0 < l.length) : tailB l = (decide ((l[l.length - 1]).kind ≠ 5) && decide ((l[l.length - 1]).kind ≠ 6)) := by
  unfold tailB
  rw [List.getLast?_eq_getElem?, List.getElem?_eq_getElem (by omega)]
theorem formB_not6 (i : Int) (s : List UInt8) (l : List PT) (h : l.length < 2) : formB 6 i s l = false := by
  have : decide (2 ≤ l.length) = false := by simpa using h
  simp [formB, this]
theorem formB_6 (i : Int) (s : List UInt8) (l : List PT) (h : 2 ≤ l.length) : formB 6 i s l = (decide (i = 0) && s.isEmpty && (decide ((l[l.length - 1]).kind ≠ 5) && decide ((l[l.length - 1]).kind ≠ 6))) := by
  have : decide (2 ≤ l.length) = true := by simpa using h
  simp only [formB, this, tailB_get l (by omega)]
  simp
theorem kind_cell {w : World} {B : Nat} : ∀ {t : PT} {b o : Nat}, RepD w B t b o → w.cell? ⟨b, o, none⟩ = some (.int .i64 t.kind)
  | .mk _ _ _ _, _, _, h => (repD_mk.1 h).2.2.2.1
theorem kind_ways (k : Int) : (k = 0 ∨ k = 1 ∨ k = 2) ∨ k = 3 ∨ k = 4 ∨ (k = 5 ∨ k = 7) ∨ k = 6 ∨ (k < 0 ∨ 7 < k) := by omega

theorem isFormed_any (k i : Int) (s : ByteArray) (l : List PT) (v : Value) (B : Nat) (w : World) (hs : s.size ≤ maxLen) (hv : RepS w B l v) :
    Calls Tryz.prog 45 #[.agg #[.int .i64 k, .int .i64 i, .string s, v]] w fun e w' => e = .returned (.bool (formB k i s.data.toList l)) ∧ Below w.heap.size w w' := by
  obtain ⟨a, c, rfl, hl, hm, hn, hr⟩ := hv
  rcases kind_ways k with h | h | h | h | h | h
  · rcases h with rfl | rfl | rfl
    · exact formed_num _ i 0 1 s a l.length c _ (.inl ⟨rfl, rfl, rfl⟩) (by simp [formB]) w
    · exact formed_num _ i _ _ s a l.length c _ (.inr (.inl ⟨rfl, rfl, rfl⟩)) (by simp [formB]) w
    · exact formed_num _ i _ _ s a l.length c _ (.inr (.inr ⟨rfl, rfl, rfl⟩)) (by simp [formB]) w
  · exact formed_text k i s a l.length c _ hs h (by subst h; simp [formB]) w
  · exact formed_name k i s a l.length c _ hs h (by subst h; simp [formB]) w
  · exact formed_items k i s a l.length c _ h (by rcases h with rfl | rfl <;> simp [formB]) w
  · subst h
    by_cases h2 : 2 ≤ l.length
    · rcases hr with rfl | ⟨b', o', rfl, hb, hr⟩
      · simp at h2
      · rw [formB_6 _ _ _ h2]
        exact formed_dot i s b' o' l.length c _ h2 hl hm _ rfl w (kind_cell (repAt_get hr (l.length - 1) (by omega)))
    · rw [formB_not6 _ _ _ (by omega)]
      exact formed_few i s a l.length c (by omega) w
  · have : formB k i s.data.toList l = false := by
      unfold formB
      repeat (rw [if_neg (by omega)])
    rw [this]
    exact formed_other k i s _ h w
end Go.Proofs.YthfjlcflpneffaaGreatDoor.Dat
