/-
Texts U5a, H1, Y1, one behind the other (a claim bears sixty files). Conditions: as each says.
-/
import Derived.Test.YthfjlcflpneffaaGreatDoorWX
import Derived.Test.YthfjlcflpneffaaGreatDoorWD

/-
Tokens with an error are none; how many there are. No condition.
-/
namespace Go.Proofs.YthfjlcflpneffaaGreatDoor
open Go.ChangeShapes Go.WideShapes Go.ChangeAt Go.RowKit

theorem toks_err {l : List UInt8} (h : (toksT l).2.2 ≠ 0) : (toksT l).1 = [] := by
  unfold toksT at h ⊢
  split
  · rfl
  · rename_i h1
    rw [if_neg h1] at h
    split at h
    · exact absurd rfl h
    · rename_i h2; rw [if_neg h2]
theorem toks_len {l : List UInt8} (h : (toksT l).2.2 = 0) : (toksT l).1.length ≤ 4096 := by
  obtain ⟨h1, h2, h3, _⟩ := toks_ok h
  rw [h3]
  have := run_length l.length _ 0 (gapS false l) (Nat.le_refl _)
  have := gapS_le false l
  omega
theorem toks_some (l : List UInt8) : (toksT l).1.length ≤ 4096 := by
  by_cases h : (toksT l).2.2 = 0
  · exact toks_len h
  · rw [toks_err h]; simp
theorem toks_place (l : List UInt8) : (toksT l).2.1 ≤ l.length := by
  by_cases h : (toksT l).2.2 = 0
  · rw [(toks_ok h).2.2.2]; omega
  · unfold toksT
    split
    · simp
    · split
      · simp
      · rename_i h1 h2
        simp only
        have key : ∀ (n cnt : Nat) (m : List UInt8), m.length ≤ n → (runT l.length cnt m).2.1 ≤ l.length := by
          intro n
          induction n with
          | zero =>
            intro cnt m hm
            match m, hm with
            | [], _ => simp [runT]
          | succ n ih =>
            intro cnt m hm
            match m with
            | [] => simp [runT]
            | c :: r =>
              by_cases hc : cnt = 2048
              · subst hc; rw [runT_many]; simp
              · by_cases he : (oneT (c :: r)).2.2 = 0
                · rw [runT_rest _ cnt _ (by simp) hc he]
                  exact ih (cnt + 1) _ (by have := rest_lt he; simp at this hm; omega)
                · rw [runT_bad _ cnt c r hc he]; simp
        exact key _ 0 _ (Nat.le_refl _)
end Go.Proofs.YthfjlcflpneffaaGreatDoor

/-
One text, one datum: a text of the strict form tells which datum it is of. The pure part.
-/
namespace Go.Proofs.YthfjlcflpneffaaGreatDoor.Dat

def stopB (r : List UInt8) : Bool := match r with
  | [] => true
  | c :: _ => c == 32 || c == 41
def tokB (c : UInt8) : Bool := !(c == 32) && !(c == 41)

theorem stop_tok {c : UInt8} {r : List UInt8} (h : tokB c = true) (hs : stopB (c :: r) = true) : False := by
  simp only [stopB, tokB, Bool.or_eq_true, Bool.and_eq_true, Bool.not_eq_true'] at h hs
  rcases hs with h1 | h1
  · rw [h.1] at h1; cases h1
  · rw [h.2] at h1; cases h1

theorem tok_split : ∀ {a b r r' : List UInt8}, a.all tokB = true → b.all tokB = true → stopB r = true → stopB r' = true → a ++ r = b ++ r' → a = b ∧ r = r'
  | [], [], r, r', _, _, _, _, h => ⟨rfl, h⟩
  | [], c :: b, r, r', _, hb, hs, _, h => by
    rw [List.nil_append] at h
    subst h
    rw [List.all_cons, Bool.and_eq_true] at hb
    exact (stop_tok hb.1 hs).elim
  | c :: a, [], r, r', ha, _, _, hs, h => by
    rw [List.nil_append] at h
    subst h
    rw [List.all_cons, Bool.and_eq_true] at ha
    exact (stop_tok ha.1 hs).elim
  | c :: a, d :: b, r, r', ha, hb, hr, hr', h => by
    rw [List.all_cons, Bool.and_eq_true] at ha hb
    rw [List.cons_append, List.cons_append] at h
    injection h with h1 h2
    have := tok_split ha.2 hb.2 hr hr' h2
    exact ⟨by rw [h1, this.1], this.2⟩

theorem two_prefix {a b x y : List UInt8} (h : a ++ x = b ++ y) : a <+: b ∨ b <+: a :=
  List.prefix_or_prefix_of_prefix (List.prefix_append a x) (h ▸ List.prefix_append b y)

/-! ### numerals -/
theorem dig_table : ∀ k : Fin 10, dig8 (UInt8.ofNat (48 + k.val)) = true ∧ (UInt8.ofNat (48 + k.val)).toNat = 48 + k.val := by decide +kernel
theorem tok_table : ∀ c : Fin 256, nby8 (UInt8.ofNat c.val) = true → tokB (UInt8.ofNat c.val) = true ∧ UInt8.ofNat c.val ≠ 34 ∧ UInt8.ofNat c.val ≠ 35 ∧ UInt8.ofNat c.val ≠ 40 := by decide +kernel
theorem dig_nby : ∀ c : Fin 256, dig8 (UInt8.ofNat c.val) = true → nby8 (UInt8.ofNat c.val) = true := by decide +kernel
theorem of_table {P : UInt8 → Prop} (h : ∀ c : Fin 256, P (UInt8.ofNat c.val)) (c : UInt8) : P c := by
  have := h ⟨c.toNat, c.toNat_lt⟩
  simpa using this
theorem tok_of {c : UInt8} (h : nby8 c = true) : tokB c = true ∧ c ≠ 34 ∧ c ≠ 35 ∧ c ≠ 40 := of_table (P := fun c => nby8 c = true → tokB c = true ∧ c ≠ 34 ∧ c ≠ 35 ∧ c ≠ 40) tok_table c h
theorem nby_of {c : UInt8} (h : dig8 c = true) : nby8 c = true := of_table (P := fun c => dig8 c = true → nby8 c = true) dig_nby c h

def undec (l : List UInt8) : Nat := l.foldl (fun a c => a * 10 + (c.toNat - 48)) 0
theorem dec_facts (u : Nat) : (Lib.decDigits u).all dig8 = true ∧ Lib.decDigits u ≠ [] ∧ undec (Lib.decDigits u) = u := by
  induction u using Nat.strongRecOn with
  | _ u ih =>
    rw [Lib.decDigits]
    split
    · have := dig_table ⟨u, by omega⟩
      simp only at this
      refine ⟨by rw [List.all_cons, this.1]; rfl, by simp, ?_⟩
      simp only [undec, List.foldl_cons, List.foldl_nil]
      omega
    · have t := dig_table ⟨u % 10, by omega⟩
      simp only at t
      obtain ⟨h1, h2, h3⟩ := ih (u / 10) (by omega)
      refine ⟨by rw [List.all_append, h1, List.all_cons, t.1]; rfl, by simp, ?_⟩
      unfold undec at h3 ⊢
      rw [List.foldl_append, h3]
      simp only [List.foldl_cons, List.foldl_nil]
      omega
theorem dig45 : dig8 45 = false := by decide
theorem dig43 : dig8 43 = false := by decide
theorem dec_no45 (u : Nat) (r : List UInt8) (h : Lib.decDigits u = 45 :: r) : False := by
  have := (dec_facts u).1
  rw [h, List.all_cons, dig45] at this
  cases this
theorem itoa_inj {m n : Int} (h : Lib.itoa m = Lib.itoa n) : m = n := by
  unfold Lib.itoa at h
  split at h <;> split at h
  · injection h with _ h
    have := congrArg undec h
    rw [(dec_facts _).2.2, (dec_facts _).2.2] at this
    omega
  · exact (dec_no45 _ _ h.symm).elim
  · exact (dec_no45 _ _ h).elim
  · have := congrArg undec h
    rw [(dec_facts _).2.2, (dec_facts _).2.2] at this
    omega
theorem itoa_num (n : Int) : numB (Lib.itoa n) = true := by
  unfold Lib.itoa
  split
  · obtain ⟨h1, h2, _⟩ := dec_facts n.natAbs
    cases hd : Lib.decDigits n.natAbs with
    | nil => exact absurd hd h2
    | cons c r => rw [hd] at h1; simp [numB, h1]
  · obtain ⟨h1, h2, _⟩ := dec_facts n.toNat
    cases hd : Lib.decDigits n.toNat with
    | nil => exact absurd hd h2
    | cons c r =>
      rw [hd] at h1
      have hc : dig8 c = true := by rw [List.all_cons, Bool.and_eq_true] at h1; exact h1.1
      have n1 : ¬ (c = 43 ∨ c = 45) := by
        rintro (rfl | rfl)
        · rw [dig43] at hc; cases hc
        · rw [dig45] at hc; cases hc
      simp only [numB, if_neg n1]
      exact h1
theorem all_mono {P Q : UInt8 → Bool} (hPQ : ∀ c, P c = true → Q c = true) (l : List UInt8) (h : l.all P = true) : l.all Q = true := by
  rw [List.all_eq_true] at h ⊢
  exact fun c hc => hPQ c (h c hc)
theorem itoa_nby (n : Int) : (Lib.itoa n).all nby8 = true ∧ Lib.itoa n ≠ [] := by
  unfold Lib.itoa
  split
  · refine ⟨?_, by simp⟩
    rw [List.all_cons, all_mono (fun _ => nby_of) _ (dec_facts n.natAbs).1]
    decide
  · exact ⟨all_mono (fun _ => nby_of) _ (dec_facts n.toNat).1, (dec_facts n.toNat).2.1⟩

end Go.Proofs.YthfjlcflpneffaaGreatDoor.Dat

/-
The text of each datum without items is one token that says it: booleans, numbers, characters, strings, names. No condition.
-/
namespace Go.Proofs.YthfjlcflpneffaaGreatDoor
open Go.ChangeShapes Go.WideShapes Go.ChangeAt Go.RowKit

theorem hexV_hexd (n : Nat) (h : n < 16) : hexV (Dat.hexd n) = some n := by
  have : ∀ m : Fin 16, hexV (Dat.hexd m.val) = some m.val := by decide +kernel
  exact this ⟨n, h⟩
theorem escV_q (c : UInt8) (r : List UInt8) : escV (Dat.qbyteT c ++ r) = some (c, (Dat.qbyteT c).length) := by
  have hc := c.toNat_lt
  have h0 : (120 : UInt8) ≠ 34 := by decide
  unfold Dat.qbyteT
  by_cases h1 : c.toNat = 34 ∨ c.toNat = 92
  · rw [if_pos h1]
    have h2 : c = 34 ∨ c = 92 := h1.imp (fun h => UInt8.toNat_inj.1 h) (fun h => UInt8.toNat_inj.1 h)
    simp [escV, h2]
  · rw [if_neg h1]
    by_cases h2 : c.toNat = 10
    · rw [if_pos h2]
      have : c = 10 := UInt8.toNat_inj.1 h2
      subst this
      simp [escV]
    · rw [if_neg h2]
      by_cases h3 : 32 ≤ c.toNat ∧ c.toNat ≤ 126
      · rw [if_pos h3]
        have h4 : c ≠ 92 := fun h => h1 (.inr (by rw [h]; rfl))
        simp [escV, h4]
      · rw [if_neg h3]
        have a1 := hexV_hexd (c.toNat / 16) (by omega)
        have a2 := hexV_hexd (c.toNat % 16) (by omega)
        have a3 : UInt8.ofNat (16 * (c.toNat / 16) + c.toNat % 16) = c := by
          rw [show 16 * (c.toNat / 16) + c.toNat % 16 = c.toNat by omega]; simp
        simp [escV, Dat.hexT, twoV, a1, a2, a3]

theorem q_head (c : UInt8) : ∃ d q, Dat.qbyteT c = d :: q ∧ d ≠ 34 := by
  unfold Dat.qbyteT
  split
  · exact ⟨92, _, rfl, by decide⟩
  · split
    · exact ⟨92, _, rfl, by decide⟩
    · split
      · rename_i h _ _
        exact ⟨c, [], rfl, fun e => h (.inl (by rw [e]; rfl))⟩
      · exact ⟨92, _, rfl, by decide⟩

theorem txt_q : ∀ (s r : List UInt8), txt (Dat.qbytesT s ++ 34 :: r) = some (s, (Dat.qbytesT s).length + 1)
  | [], r => by simp [Dat.qbytesT, txt]
  | c :: s, r => by
    obtain ⟨d, q, hd, hne⟩ := q_head c
    have he := escV_q c (Dat.qbytesT s ++ 34 :: r)
    have ih := txt_q s r
    have e1 : Dat.qbytesT (c :: s) = d :: (q ++ Dat.qbytesT s) := by simp [Dat.qbytesT, hd]
    rw [hd] at he
    rw [e1, List.cons_append, List.append_assoc, txt, if_neg hne]
    rw [List.cons_append] at he
    rw [he]
    have e2 : (q ++ (Dat.qbytesT s ++ 34 :: r)).drop ((d :: q).length - 1) = Dat.qbytesT s ++ 34 :: r := by simp
    simp only [e2, ih]
    simp
    omega

theorem one_quote (s : List UInt8) : oneT (Dat.quoteT s) = (⟨8, s, 0⟩, (Dat.quoteT s).length, 0) := by
  have h := txt_q s []
  have e : Dat.quoteT s = 34 :: (Dat.qbytesT s ++ [34]) := rfl
  rw [e, oneT, if_neg (by decide), if_neg (by decide), if_neg (by decide), if_neg (by decide), if_pos rfl, h]
  simp
  omega

/-! ### characters -/
theorem hashT_all {x : List UInt8} {v : Nat} (hx : x ≠ []) (hw : (wordL x).length = x.length ∨ x.length = 1) (hv : charV x = some v) : hashT (92 :: x) = (⟨7, [], v⟩, 2 + x.length, 0) := by
  match x, hx with
  | c :: q, _ =>
    have hle := wordL_le (c :: q)
    have hm : max 1 (wordL (c :: q)).length = (c :: q).length := by
      have h1 : 1 ≤ (c :: q).length := by simp
      rcases hw with h | h
      · rw [h]; exact Nat.max_eq_right h1
      · rw [h] at hle ⊢; exact Nat.max_eq_left hle
    rw [hashT_char, hm, List.take_of_length_le (Nat.le_refl _), hv]
theorem nby_table : ∀ n : Fin 16, nby8 (Dat.hexd n.val) = true := by decide +kernel
theorem one_char (c : UInt8) : oneT (Dat.charT c) = (⟨7, [], c.toNat⟩, (Dat.charT c).length, 0) := by
  have hc := c.toNat_lt
  have key : ∀ x : List UInt8, x ≠ [] → ((wordL x).length = x.length ∨ x.length = 1) → charV x = some c.toNat → oneT ([35, 92] ++ x) = (⟨7, [], c.toNat⟩, ([35, 92] ++ x).length, 0) := fun x h1 h2 h3 => by
    show oneT (35 :: 92 :: x) = _
    rw [one_hash, hashT_all h1 h2 h3]
    simp; omega
  unfold Dat.charT
  by_cases h1 : c.toNat = 32
  · rw [if_pos h1]
    exact key Dat.spaceT (by decide) (.inl (by decide)) (by rw [h1]; decide)
  · rw [if_neg h1]
    by_cases h2 : c.toNat = 10
    · rw [if_pos h2]
      exact key Dat.newlineT (by decide) (.inl (by decide)) (by rw [h2]; decide)
    · rw [if_neg h2]
      by_cases h3 : 32 < c.toNat ∧ c.toNat ≤ 126
      · rw [if_pos h3]
        exact key [c] (by simp) (.inr rfl) rfl
      · rw [if_neg h3]
        have a1 := hexV_hexd (c.toNat / 16) (by omega)
        have a2 := hexV_hexd (c.toNat % 16) (by omega)
        have n1 := nby_table ⟨c.toNat / 16, by omega⟩
        have n2 := nby_table ⟨c.toNat % 16, by omega⟩
        simp only at n1 n2
        have n0 : nby8 120 = true := by decide
        refine key (Dat.hexT c) (by simp [Dat.hexT]) (.inl ?_) ?_
        · simp [Dat.hexT, wordL, n0, n1, n2]
        · unfold charV
          rw [if_neg (by simp [Dat.hexT]), if_neg (by simp [Dat.hexT]), if_neg (by simp [Dat.hexT]), if_pos (by simp [Dat.hexT])]
          simp only [Dat.hexT, List.drop_succ_cons, List.drop_zero, twoV, a1, a2, Option.some.injEq]
          omega
/-! ### words -/
theorem wordL_all {x : List UInt8} (h : bytesB x = true) : wordL x = x := by
  have := wordL_app (w := x) (r := []) h (fun c hc => by cases hc)
  rwa [List.append_nil] at this
theorem one_words {x : List UInt8} (h0 : x ≠ []) (h : bytesB x = true) : oneT x = ((wordT x).1, x.length, (wordT x).2) := by
  match x, h0 with
  | c :: q, _ =>
    have hc : nby8 c = true := by simp only [bytesB, List.all_cons, Bool.and_eq_true] at h; exact h.1
    have ne : ∀ d, nby8 d = false → c ≠ d := fun d hd e => by rw [e, hd] at hc; cases hc
    rw [one_word _ (ne 40 (by decide)) (ne 41 (by decide)) (ne 39 (by decide)) (ne 35 (by decide)) (ne 34 (by decide)), wordL_all h, if_neg (by simp)]
theorem decV_undec (l : List UInt8) (h : digsB l = true) : decV l = (Dat.undec l : Int) := by
  have := decV_N l 0 h
  unfold decV Dat.undec
  exact this
theorem numV_itoa (n : Int) : numV (Lib.itoa n) = n := by
  unfold Lib.itoa
  split
  · obtain ⟨h1, h2, h3⟩ := Dat.dec_facts n.natAbs
    rw [numV, if_pos rfl, decV_undec _ h1, h3]
    omega
  · obtain ⟨h1, h2, h3⟩ := Dat.dec_facts n.toNat
    cases hd : Lib.decDigits n.toNat with
    | nil => exact absurd hd h2
    | cons c r =>
      rw [hd] at h1 h3
      have hc : dig8 c = true := by rw [List.all_cons, Bool.and_eq_true] at h1; exact h1.1
      have n1 : c ≠ 45 := fun e => by rw [e, Dat.dig45] at hc; cases hc
      have n2 : c ≠ 43 := fun e => by rw [e, Dat.dig43] at hc; cases hc
      rw [numV, if_neg n1, if_neg n2, decV_undec _ h1, h3]
      omega
theorem one_int (n : Int) (hn : okNum n) : oneT (Lib.itoa n) = (⟨6, [], n⟩, (Lib.itoa n).length, 0) := by
  obtain ⟨h1, h2⟩ := Dat.itoa_nby n
  rw [one_words h2 h1]
  have hnum := Dat.itoa_num n
  have h46 : Lib.itoa n ≠ [46] := fun e => by rw [e] at hnum; revert hnum; decide
  have : wordT (Lib.itoa n) = (⟨6, [], n⟩, 0) := by rw [wordT, if_neg h46, if_pos hnum, numV_itoa, if_pos hn]
  rw [this]
theorem one_name (x : List UInt8) (h : nameB x = true) : oneT x = (⟨9, x, 0⟩, x.length, 0) := by
  unfold nameB at h
  simp only [Bool.and_eq_true, Bool.not_eq_true', decide_eq_true_eq] at h
  obtain ⟨⟨⟨⟨h1, h2⟩, h3⟩, h4⟩, h5⟩ := h
  have h0 : x ≠ [] := by intro e; rw [e] at h1; cases h1
  rw [one_words h0 h5]
  have h46 : x ≠ [46] := by intro e; rw [e] at h3; revert h3; decide
  have : wordT x = (⟨9, x, 0⟩, 0) := by rw [wordT, if_neg h46, if_neg (by rw [h4]; decide), if_neg (by omega)]
  rw [this]
theorem one_true : oneT [35, 116] = (⟨5, [], 1⟩, 2, 0) := by rw [one_hash, hashT_else (by simp) (by simp), if_pos (by decide)]
theorem one_false : oneT [35, 102] = (⟨5, [], 0⟩, 2, 0) := by rw [one_hash, hashT_else (by simp) (by simp), if_neg (by decide), if_pos (by decide)]

/-- A token by itself. -/
theorem toks_single {x : List UInt8} {t : Tk} (h : oneT x = (t, x.length, 0)) (hg : gapS false x = x) (hn : x.length ≤ 4096) : toksT x = ([⟨t, 0, x.length⟩], 0, 0) := by
  have := toks_alone h hg hn
  rwa [List.take_of_length_le (Nat.le_refl _)] at this
theorem gap_word {x : List UInt8} (h0 : x ≠ []) (h : bytesB x = true) : gapS false x = x := by
  match x, h0 with
  | c :: q, _ =>
    have hc : nby8 c = true := by simp only [bytesB, List.all_cons, Bool.and_eq_true] at h; exact h.1
    refine gap_shut c q (fun e => ?_) ?_
    · rw [e] at hc; exact absurd hc (by decide)
    · cases hg : gapB c with
      | false => rfl
      | true =>
        exfalso
        simp only [gapB, Bool.or_eq_true, beq_iff_eq] at hg
        rcases hg with ((e | e) | e) | e <;> (rw [e] at hc; exact absurd hc (by decide))
end Go.Proofs.YthfjlcflpneffaaGreatDoor
