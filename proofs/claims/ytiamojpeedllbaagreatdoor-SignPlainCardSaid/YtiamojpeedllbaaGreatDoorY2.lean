/-
The law SignPlain of layer 3: its pure part.
-/
import Derived.Test.YtiamojpeedllbaaGreatDoorY1
import Derived.Test.YtiamojpeedllbaaGreatDoorV2
import Derived.Test.YtiamojpeedllbaaGreatDoorD6b
namespace Go.Proofs.YtiamojpeedllbaaGreatDoor
open Go.ChangeShapes Go.WideShapes Go.ChangeAt Go.RowKit

theorem LaidOk.below {w w' : World} (h : LaidOk w) (hb : Below w.heap.size w w') : LaidOk w' :=
  ⟨h.1.below hb h.1.two, Dat.tabOk_below h.2 hb (by have := h.1.two; omega)⟩

theorem rep_leaf (k i : Int) (s : ByteArray) (hk : Dat.ok64 k) (hi : Dat.ok64 i) (hs : s.size ≤ maxLen) (w : World) (B : Nat) : Dat.RepV w B (.mk k i s []) (.slice none 0 0) :=
  ⟨hk, hi, hs, none, 0, rfl, Nat.le_refl _, Nat.zero_le _, fun _ => rfl, .inl rfl⟩
theorem check_leaf (k i : Int) (s : ByteArray) (hn : Dat.nestB k = false) : Dat.checkB (.mk k i s []) = if Dat.formB k i s.data.toList [] = true then 0 else 20 := by
  unfold Dat.checkB
  rw [Dat.chk, if_neg (by decide), hn]
  by_cases h : Dat.formB k i s.data.toList [] = true
  · rw [if_pos h, if_pos h]; simp [Dat.chkL]
  · rw [if_neg h, if_neg h]; simp

/-- The text of a leaf, told. -/
theorem text_char (c : UInt8) (w : World) (hL : LaidOk w) :
    Calls Tryz.prog 12 #[.agg #[.int .i64 2, .int .i64 (c.toNat : Int), .string ⟨#[]⟩, .slice none 0 0]] w fun e w' => e = .returned (.tuple #[.string ⟨(Dat.charT c).toArray⟩, .int .i64 0]) ∧ Below w.heap.size w w' := by
  have hc := c.toNat_lt
  have C := Dat.text_any (.mk 2 (c.toNat : Int) ⟨#[]⟩ []) (.slice none 0 0) w w.heap.size (rep_leaf _ _ _ (by unfold Dat.ok64; omega) (by unfold Dat.ok64; omega) (by decide) _ _) (Nat.le_refl _) (by have := hL.1.two; omega) hL.2
  have hk : Dat.checkB (.mk 2 (c.toNat : Int) ⟨#[]⟩ []) = 0 := by
    rw [check_leaf _ _ _ (by decide), if_pos]
    simp [Dat.formB]; omega
  have ht : Dat.toldT false (.mk 2 (c.toNat : Int) ⟨#[]⟩ []) = Dat.charT c := by
    unfold Dat.toldT
    rw [if_pos hk]
    simp [Dat.textT, Dat.shapeT, Dat.charS]
  rw [hk, ht] at C
  exact C
theorem text_int (n : Int) (hn : Dat.ok64 n) (w : World) (hL : LaidOk w) :
    Calls Tryz.prog 12 #[.agg #[.int .i64 1, .int .i64 n, .string ⟨#[]⟩, .slice none 0 0]] w fun e w' => e = .returned (.tuple #[.string ⟨(if okNum n then Lib.itoa n else []).toArray⟩, .int .i64 (if okNum n then 0 else 20)]) ∧ Below w.heap.size w w' := by
  have C := Dat.text_any (.mk 1 n ⟨#[]⟩ []) (.slice none 0 0) w w.heap.size (rep_leaf _ _ _ (by unfold Dat.ok64; omega) hn (by decide) _ _) (Nat.le_refl _) (by have := hL.1.two; omega) hL.2
  have hk : Dat.checkB (.mk 1 n ⟨#[]⟩ []) = if okNum n then 0 else 20 := by
    rw [check_leaf _ _ _ (by decide)]
    have : Dat.formB 1 n (⟨#[]⟩ : ByteArray).data.toList [] = decide (okNum n) := by
      simp only [Dat.formB, okNum]
      by_cases h1 : -1152921504606846976 ≤ n <;> by_cases h2 : n ≤ 1152921504606846975 <;> simp [h1, h2]
    rw [this]
    simp
  have ht : Dat.toldT false (.mk 1 n ⟨#[]⟩ []) = if okNum n then Lib.itoa n else [] := by
    unfold Dat.toldT
    rw [hk]
    by_cases h : okNum n
    · rw [if_pos h, if_pos h]; simp [Dat.textT, Dat.shapeT]
    · rw [if_neg h, if_neg h]; simp
  rw [hk, ht] at C
  exact C

theorem char_len (c : UInt8) : (Dat.charT c).length ≤ 9 ∧ ∃ r, Dat.charT c = 35 :: r := by
  unfold Dat.charT
  refine ⟨?_, _, rfl⟩
  split
  · decide
  · split
    · decide
    · split
      · simp
      · simp [Dat.hexT]
theorem toks_char (c : UInt8) : toksT (Dat.charT c) = ([⟨⟨7, [], c.toNat⟩, 0, (Dat.charT c).length⟩], 0, 0) := by
  obtain ⟨h, r, hr⟩ := char_len c
  refine toks_single (one_char c) ?_ (by omega)
  rw [hr]; exact gap_shut _ _ (by decide) (by decide)
theorem dec_len (u : Nat) (h : u < 10 ^ 19) : (Lib.decDigits u).length ≤ 19 := by
  have key : ∀ (k u : Nat), u < 10 ^ (k + 1) → (Lib.decDigits u).length ≤ k + 1 := by
    intro k
    induction k with
    | zero =>
      intro u hu
      rw [Lib.decDigits]
      split
      · simp
      · omega
    | succ k ih =>
      intro u hu
      rw [Lib.decDigits]
      split
      · simp
      · have := ih (u / 10) (by rw [Nat.pow_succ] at hu; omega)
        simp; omega
  exact key 18 u h
theorem itoa_len (n : Int) (hn : okNum n) : (Lib.itoa n).length ≤ 20 := by
  unfold okNum at hn
  unfold Lib.itoa
  split
  · have := dec_len n.natAbs (by omega)
    simp; omega
  · have := dec_len n.toNat (by omega)
    omega
theorem toks_int (n : Int) (hn : okNum n) : toksT (Lib.itoa n) = ([⟨⟨6, [], n⟩, 0, (Lib.itoa n).length⟩], 0, 0) := by
  obtain ⟨h1, h2⟩ := Dat.itoa_nby n
  exact toks_single (one_int n hn) (gap_word h2 h1) (by have := itoa_len n hn; omega)
theorem toks_name (x : List UInt8) (h : nameB x = true) : toksT x = ([⟨⟨9, x, 0⟩, 0, x.length⟩], 0, 0) := by
  have h' := h
  unfold nameB at h
  simp only [Bool.and_eq_true, Bool.not_eq_true', decide_eq_true_eq] at h
  obtain ⟨⟨⟨⟨h1, h2⟩, h3⟩, h4⟩, h5⟩ := h
  have h0 : x ≠ [] := by intro e; rw [e] at h1; cases h1
  exact toks_single (one_name x h') (gap_word h0 h5) (by omega)
/-- A byte behind a backslash in a string. -/
theorem one_back (c : UInt8) : oneT [34, 92, c, 34] = if c = 34 ∨ c = 92 then (⟨8, [c], 0⟩, 4, 0) else if c = 110 then (⟨8, [10], 0⟩, 4, 0) else (noTk, 0, 32) := by
  have e34 : txt [34] = some ([], 1) := by rw [txt_cons, if_pos rfl]
  have h : txt [92, c, 34] = if c = 34 ∨ c = 92 then some ([c], 3) else if c = 110 then some ([10], 3) else none := by
    rw [txt_cons, if_neg (by decide)]
    have he : escV [92, c, 34] = if c = 34 ∨ c = 92 then some (c, 2) else if c = 110 then some (10, 2) else none := by
      rw [escV, if_neg (by decide)]
      simp only [twoV]
      by_cases h1 : c = 34 ∨ c = 92
      · rw [if_pos h1, if_pos h1]
      · rw [if_neg h1, if_neg h1]
        by_cases h2 : c = 110
        · rw [if_pos h2, if_pos h2]
        · rw [if_neg h2, if_neg h2]; split <;> rfl
    rw [he]
    by_cases h1 : c = 34 ∨ c = 92
    · rw [if_pos h1, if_pos h1]
      simp [e34]
    · rw [if_neg h1, if_neg h1]
      by_cases h2 : c = 110
      · rw [if_pos h2, if_pos h2]
        simp [e34]
      · rw [if_neg h2, if_neg h2]
  rw [one_text, h]
  by_cases h1 : c = 34 ∨ c = 92
  · rw [if_pos h1, if_pos h1]; rfl
  · rw [if_neg h1, if_neg h1]
    by_cases h2 : c = 110
    · rw [if_pos h2, if_pos h2]; rfl
    · rw [if_neg h2, if_neg h2]; rfl
theorem toks_back (c : UInt8) : toksT [34, 92, c, 34] = if c = 34 ∨ c = 92 then ([⟨⟨8, [c], 0⟩, 0, 4⟩], 0, 0) else if c = 110 then ([⟨⟨8, [10], 0⟩, 0, 4⟩], 0, 0) else ([], 0, 32) := by
  have hg : gapS false [34, 92, c, 34] = [34, 92, c, 34] := gap_shut _ _ (by decide) (by decide)
  have ho := one_back c
  by_cases h1 : c = 34 ∨ c = 92
  · rw [if_pos h1] at ho ⊢
    exact toks_single ho hg (by simp)
  · rw [if_neg h1] at ho ⊢
    by_cases h2 : c = 110
    · rw [if_pos h2] at ho ⊢
      exact toks_single ho hg (by simp)
    · rw [if_neg h2] at ho ⊢
      rw [toks_of (by simp), hg, runT_bad _ _ _ _ (by decide) (by rw [ho]; decide), ho]
      simp
end Go.Proofs.YtiamojpeedllbaaGreatDoor
