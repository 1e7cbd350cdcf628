/-
The text of each datum without items is one token that says it: booleans, numbers, characters, strings, names. No condition.
-/
import Derived.Test.YtiamojpeedllbaaGreatDoorU5a
import Derived.Test.YtiamojpeedllbaaGreatDoorH1
import Derived.Test.YtiamojpeedllbaaGreatDoorD19
namespace Go.Proofs.YtiamojpeedllbaaGreatDoor
open Go.ChangeShapes Go.WideShapes Go.ChangeAt Go.RowKit

theorem hexV_hexd (n : Nat) (h : n < 16) : hexV (Dat.hexd n) = some n := by
  have : ∀ m : Fin 16, hexV (Dat.hexd m.val) = some m.val := by decide +kernel
  exact this ⟨n, h⟩
theorem escV_q (c : UInt8) (r : List UInt8) : escV (Dat.qbyteT c ++ r) = some (c, (Dat.qbyteT c).length) := by
  have hc := c.toNat_lt
  have h0 : (120 : UInt8) ≠ 34 := by decide
  unfold Dat.qbyteT
  by_cases h1 : c.toNat = 34 ∨ c.toNat = 92
  · rw [if_pos h1]
    have h2 : c = 34 ∨ c = 92 := h1.imp (fun h => UInt8.toNat_inj.1 h) (fun h => UInt8.toNat_inj.1 h)
    simp [escV, h2]
  · rw [if_neg h1]
    by_cases h2 : c.toNat = 10
    · rw [if_pos h2]
      have : c = 10 := UInt8.toNat_inj.1 h2
      subst this
      simp [escV]
    · rw [if_neg h2]
      by_cases h3 : 32 ≤ c.toNat ∧ c.toNat ≤ 126
      · rw [if_pos h3]
        have h4 : c ≠ 92 := fun h => h1 (.inr (by rw [h]; rfl))
        simp [escV, h4]
      · rw [if_neg h3]
        have a1 := hexV_hexd (c.toNat / 16) (by omega)
        have a2 := hexV_hexd (c.toNat % 16) (by omega)
        have a3 : UInt8.ofNat (16 * (c.toNat / 16) + c.toNat % 16) = c := by
          rw [show 16 * (c.toNat / 16) + c.toNat % 16 = c.toNat by omega]; simp
        simp [escV, Dat.hexT, twoV, a1, a2, a3]

theorem q_head (c : UInt8) : ∃ d q, Dat.qbyteT c = d :: q ∧ d ≠ 34 := by
  unfold Dat.qbyteT
  split
  · exact ⟨92, _, rfl, by decide⟩
  · split
    · exact ⟨92, _, rfl, by decide⟩
    · split
      · rename_i h _ _
        exact ⟨c, [], rfl, fun e => h (.inl (by rw [e]; rfl))⟩
      · exact ⟨92, _, rfl, by decide⟩

theorem txt_q : ∀ (s r : List UInt8), txt (Dat.qbytesT s ++ 34 :: r) = some (s, (Dat.qbytesT s).length + 1)
  | [], r => by simp [Dat.qbytesT, txt]
  | c :: s, r => by
    obtain ⟨d, q, hd, hne⟩ := q_head c
    have he := escV_q c (Dat.qbytesT s ++ 34 :: r)
    have ih := txt_q s r
    have e1 : Dat.qbytesT (c :: s) = d :: (q ++ Dat.qbytesT s) := by simp [Dat.qbytesT, hd]
    rw [hd] at he
    rw [e1, List.cons_append, List.append_assoc, txt, if_neg hne]
    rw [List.cons_append] at he
    rw [he]
    have e2 : (q ++ (Dat.qbytesT s ++ 34 :: r)).drop ((d :: q).length - 1) = Dat.qbytesT s ++ 34 :: r := by simp
    simp only [e2, ih]
    simp
    omega

theorem one_quote (s : List UInt8) : oneT (Dat.quoteT s) = (⟨8, s, 0⟩, (Dat.quoteT s).length, 0) := by
  have h := txt_q s []
  have e : Dat.quoteT s = 34 :: (Dat.qbytesT s ++ [34]) := rfl
  rw [e, oneT, if_neg (by decide), if_neg (by decide), if_neg (by decide), if_neg (by decide), if_pos rfl, h]
  simp
  omega

/-! ### characters -/
theorem hashT_all {x : List UInt8} {v : Nat} (hx : x ≠ []) (hw : (wordL x).length = x.length ∨ x.length = 1) (hv : charV x = some v) : hashT (92 :: x) = (⟨7, [], v⟩, 2 + x.length, 0) := by
  match x, hx with
  | c :: q, _ =>
    have hle := wordL_le (c :: q)
    have hm : max 1 (wordL (c :: q)).length = (c :: q).length := by
      have h1 : 1 ≤ (c :: q).length := by simp
      rcases hw with h | h
      · rw [h]; exact Nat.max_eq_right h1
      · rw [h] at hle ⊢; exact Nat.max_eq_left hle
    rw [hashT_char, hm, List.take_of_length_le (Nat.le_refl _), hv]
theorem nby_table : ∀ n : Fin 16, nby8 (Dat.hexd n.val) = true := by decide +kernel
theorem one_char (c : UInt8) : oneT (Dat.charT c) = (⟨7, [], c.toNat⟩, (Dat.charT c).length, 0) := by
  have hc := c.toNat_lt
  have key : ∀ x : List UInt8, x ≠ [] → ((wordL x).length = x.length ∨ x.length = 1) → charV x = some c.toNat → oneT ([35, 92] ++ x) = (⟨7, [], c.toNat⟩, ([35, 92] ++ x).length, 0) := fun x h1 h2 h3 => by
    show oneT (35 :: 92 :: x) = _
    rw [one_hash, hashT_all h1 h2 h3]
    simp; omega
  unfold Dat.charT
  by_cases h1 : c.toNat = 32
  · rw [if_pos h1]
    exact key Dat.spaceT (by decide) (.inl (by decide)) (by rw [h1]; decide)
  · rw [if_neg h1]
    by_cases h2 : c.toNat = 10
    · rw [if_pos h2]
      exact key Dat.newlineT (by decide) (.inl (by decide)) (by rw [h2]; decide)
    · rw [if_neg h2]
      by_cases h3 : 32 < c.toNat ∧ c.toNat ≤ 126
      · rw [if_pos h3]
        exact key [c] (by simp) (.inr rfl) rfl
      · rw [if_neg h3]
        have a1 := hexV_hexd (c.toNat / 16) (by omega)
        have a2 := hexV_hexd (c.toNat % 16) (by omega)
        have n1 := nby_table ⟨c.toNat / 16, by omega⟩
        have n2 := nby_table ⟨c.toNat % 16, by omega⟩
        simp only at n1 n2
        have n0 : nby8 120 = true := by decide
        refine key (Dat.hexT c) (by simp [Dat.hexT]) (.inl ?_) ?_
        · simp [Dat.hexT, wordL, n0, n1, n2]
        · unfold charV
          rw [if_neg (by simp [Dat.hexT]), if_neg (by simp [Dat.hexT]), if_neg (by simp [Dat.hexT]), if_pos (by simp [Dat.hexT])]
          simp only [Dat.hexT, List.drop_succ_cons, List.drop_zero, twoV, a1, a2, Option.some.injEq]
          omega
/-! ### words -/
theorem wordL_all {x : List UInt8} (h : bytesB x = true) : wordL x = x := by
  have := wordL_app (w := x) (r := []) h (fun c hc => by cases hc)
  rwa [List.append_nil] at this
theorem one_words {x : List UInt8} (h0 : x ≠ []) (h : bytesB x = true) : oneT x = ((wordT x).1, x.length, (wordT x).2) := by
  match x, h0 with
  | c :: q, _ =>
    have hc : nby8 c = true := by simp only [bytesB, List.all_cons, Bool.and_eq_true] at h; exact h.1
    have ne : ∀ d, nby8 d = false → c ≠ d := fun d hd e => by rw [e, hd] at hc; cases hc
    rw [one_word _ (ne 40 (by decide)) (ne 41 (by decide)) (ne 39 (by decide)) (ne 35 (by decide)) (ne 34 (by decide)), wordL_all h, if_neg (by simp)]
theorem decV_undec (l : List UInt8) (h : digsB l = true) : decV l = (Dat.undec l : Int) := by
  have := decV_N l 0 h
  unfold decV Dat.undec
  exact this
theorem numV_itoa (n : Int) : numV (Lib.itoa n) = n := by
  unfold Lib.itoa
  split
  · obtain ⟨h1, h2, h3⟩ := Dat.dec_facts n.natAbs
    rw [numV, if_pos rfl, decV_undec _ h1, h3]
    omega
  · obtain ⟨h1, h2, h3⟩ := Dat.dec_facts n.toNat
    cases hd : Lib.decDigits n.toNat with
    | nil => exact absurd hd h2
    | cons c r =>
      rw [hd] at h1 h3
      have hc : dig8 c = true := by rw [List.all_cons, Bool.and_eq_true] at h1; exact h1.1
      have n1 : c ≠ 45 := fun e => by rw [e, Dat.dig45] at hc; cases hc
      have n2 : c ≠ 43 := fun e => by rw [e, Dat.dig43] at hc; cases hc
      rw [numV, if_neg n1, if_neg n2, decV_undec _ h1, h3]
      omega
theorem one_int (n : Int) (hn : okNum n) : oneT (Lib.itoa n) = (⟨6, [], n⟩, (Lib.itoa n).length, 0) := by
  obtain ⟨h1, h2⟩ := Dat.itoa_nby n
  rw [one_words h2 h1]
  have hnum := Dat.itoa_num n
  have h46 : Lib.itoa n ≠ [46] := fun e => by rw [e] at hnum; revert hnum; decide
  have : wordT (Lib.itoa n) = (⟨6, [], n⟩, 0) := by rw [wordT, if_neg h46, if_pos hnum, numV_itoa, if_pos hn]
  rw [this]
theorem one_name (x : List UInt8) (h : nameB x = true) : oneT x = (⟨9, x, 0⟩, x.length, 0) := by
  unfold nameB at h
  simp only [Bool.and_eq_true, Bool.not_eq_true', decide_eq_true_eq] at h
  obtain ⟨⟨⟨⟨h1, h2⟩, h3⟩, h4⟩, h5⟩ := h
  have h0 : x ≠ [] := by intro e; rw [e] at h1; cases h1
  rw [one_words h0 h5]
  have h46 : x ≠ [46] := by intro e; rw [e] at h3; revert h3; decide
  have : wordT x = (⟨9, x, 0⟩, 0) := by rw [wordT, if_neg h46, if_neg (by rw [h4]; decide), if_neg (by omega)]
  rw [this]
theorem one_true : oneT [35, 116] = (⟨5, [], 1⟩, 2, 0) := by rw [one_hash, hashT_else (by simp) (by simp), if_pos (by decide)]
theorem one_false : oneT [35, 102] = (⟨5, [], 0⟩, 2, 0) := by rw [one_hash, hashT_else (by simp) (by simp), if_neg (by decide), if_pos (by decide)]

/-- A token by itself. -/
theorem toks_single {x : List UInt8} {t : Tk} (h : oneT x = (t, x.length, 0)) (hg : gapS false x = x) (hn : x.length ≤ 4096) : toksT x = ([⟨t, 0, x.length⟩], 0, 0) := by
  have := toks_alone h hg hn
  rwa [List.take_of_length_le (Nat.le_refl _)] at this
theorem gap_word {x : List UInt8} (h0 : x ≠ []) (h : bytesB x = true) : gapS false x = x := by
  match x, h0 with
  | c :: q, _ =>
    have hc : nby8 c = true := by simp only [bytesB, List.all_cons, Bool.and_eq_true] at h; exact h.1
    refine gap_shut c q (fun e => ?_) ?_
    · rw [e] at hc; exact absurd hc (by decide)
    · cases hg : gapB c with
      | false => rfl
      | true =>
        exfalso
        simp only [gapB, Bool.or_eq_true, beq_iff_eq] at hg
        rcases hg with ((e | e) | e) | e <;> (rw [e] at hc; exact absurd hc (by decide))
end Go.Proofs.YtiamojpeedllbaaGreatDoor
