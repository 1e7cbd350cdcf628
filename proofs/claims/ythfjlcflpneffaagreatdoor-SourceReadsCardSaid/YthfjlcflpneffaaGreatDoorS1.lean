/-
Tokens, pure: what the document calls a token, what is gone over, how tokens follow one another; a token by itself; gaps; two sources. No condition.
-/
import Derived.Test.YthfjlcflpneffaaGreatDoorT2
namespace Go.Proofs.YthfjlcflpneffaaGreatDoor
open Go.ChangeShapes Go.WideShapes Go.ChangeAt Go.RowKit
/-- A token, but for its places. -/
structure Tk where
  kind : Int
  text : List UInt8
  int : Int
def noTk : Tk := ⟨0, [], 0⟩
/-- A token with its places. -/
structure TkP where
  t : Tk
  a : Nat
  b : Nat

def wordL (l : List UInt8) : List UInt8 := l.takeWhile nby8
def gapB (c : UInt8) : Bool := c == 9 || c == 10 || c == 13 || c == 32
/-- What is left when that is dropped which is gone over; within a remark, or not. -/
def gapS : Bool → List UInt8 → List UInt8
  | _, [] => []
  | true, c :: r => if c = 10 then gapS false r else gapS true r
  | false, c :: r => if c = 59 then gapS true r else if gapB c then gapS false r else c :: r
def hexV (c : UInt8) : Option Nat :=
  if 48 ≤ c.toNat ∧ c.toNat ≤ 57 then some (c.toNat - 48) else if 97 ≤ c.toNat ∧ c.toNat ≤ 102 then some (c.toNat - 87) else if 65 ≤ c.toNat ∧ c.toNat ≤ 70 then some (c.toNat - 55) else none
def twoV : List UInt8 → Option Nat
  | a :: b :: _ => match hexV a, hexV b with
    | some x, some y => some (16 * x + y)
    | _, _ => none
  | _ => none
/-- What a string's bytes say first, and in how many bytes. -/
def escV : List UInt8 → Option (UInt8 × Nat)
  | [] => none
  | c :: r => if c ≠ 92 then some (c, 1) else match r with
    | [] => none
    | d :: q => if d = 34 ∨ d = 92 then some (d, 2) else if d = 110 then some (10, 2) else if d = 120 then (match twoV q with | some x => some (UInt8.ofNat x, 4) | none => none) else none
/-- The text of a string, behind its first quote; and how many bytes are read. -/
def txt : List UInt8 → Option (List UInt8 × Nat)
  | [] => none
  | c :: r => if c = 34 then some ([], 1) else match escV (c :: r) with
    | none => none
    | some (b, n) => match txt (r.drop (n - 1)) with
      | none => none
      | some (t, k) => some (b :: t, n + k)
termination_by l => l.length
decreasing_by simp; omega
def charV (l : List UInt8) : Option Nat :=
  if l.length = 1 then (l.head?).map (·.toNat) else if l = [115, 112, 97, 99, 101] then some 32 else if l = [110, 101, 119, 108, 105, 110, 101] then some 10
  else if l.length = 3 ∧ l.head? = some 120 then twoV (l.drop 1) else none
/-- What begins with a # (behind it). -/
def hashT : List UInt8 → Tk × Nat × Int
  | 40 :: _ => (⟨2, [], 0⟩, 2, 0)
  | 92 :: c :: r => match charV ((c :: r).take (max 1 (wordL (c :: r)).length)) with
    | some x => (⟨7, [], x⟩, 2 + max 1 (wordL (c :: r)).length, 0)
    | none => (noTk, 0, 31)
  | r => if wordL r = [116] then (⟨5, [], 1⟩, 2, 0) else if wordL r = [102] then (⟨5, [], 0⟩, 2, 0) else (noTk, 0, 31)
def decV (l : List UInt8) : Int := l.foldl (fun a c => 10 * a + ((c.toNat : Int) - 48)) 0
def numV : List UInt8 → Int
  | [] => 0
  | c :: r => if c = 45 then - decV r else if c = 43 then decV r else decV (c :: r)
def okNum (n : Int) : Prop := -1152921504606846976 ≤ n ∧ n ≤ 1152921504606846975
instance (n : Int) : Decidable (okNum n) := by unfold okNum; infer_instance
def wordT (w : List UInt8) : Tk × Int :=
  if w = [46] then (⟨4, [], 0⟩, 0) else if numB w = true then (if okNum (numV w) then (⟨6, [], numV w⟩, 0) else (noTk, 33)) else if 64 < w.length then (noTk, 36) else (⟨9, w, 0⟩, 0)
/-- The token that bytes begin with. -/
def oneT : List UInt8 → Tk × Nat × Int
  | [] => (noTk, 0, 30)
  | c :: r =>
    if c = 40 then (⟨0, [], 0⟩, 1, 0) else if c = 41 then (⟨1, [], 0⟩, 1, 0) else if c = 39 then (⟨3, [], 0⟩, 1, 0) else if c = 35 then hashT r
    else if c = 34 then (match txt r with | some (t, k) => (⟨8, t, 0⟩, 1 + k, 0) | none => (noTk, 0, 32))
    else if wordL (c :: r) = [] then (noTk, 0, 30) else ((wordT (wordL (c :: r))).1, (wordL (c :: r)).length, (wordT (wordL (c :: r))).2)

theorem gapS_le : ∀ (b : Bool) (l : List UInt8), (gapS b l).length ≤ l.length
  | _, [] => by simp [gapS]
  | true, c :: r => by
    rw [gapS]
    have h1 := gapS_le false r
    have h2 := gapS_le true r
    split <;> simp <;> omega
  | false, c :: r => by
    rw [gapS]
    have h1 := gapS_le false r
    have h2 := gapS_le true r
    split
    · simp; omega
    · split
      · simp; omega
      · simp

/-- The tokens of what is left of N bytes, so many being read; the place and the number of what is wrong, if it is. -/
def runT (N cnt : Nat) : List UInt8 → List TkP × Nat × Int
  | [] => ([], 0, 0)
  | c :: r =>
    if cnt = 2048 then ([], N - (r.length + 1), 34)
    else if (oneT (c :: r)).2.2 ≠ 0 then ([], N - (r.length + 1), (oneT (c :: r)).2.2)
    else
      have : (gapS false (r.drop ((oneT (c :: r)).2.1 - 1))).length < (c :: r).length := by
        have := gapS_le false (r.drop ((oneT (c :: r)).2.1 - 1))
        simp at this ⊢; omega
      (⟨(oneT (c :: r)).1, N - (r.length + 1), N - (r.length + 1) + (oneT (c :: r)).2.1⟩ :: (runT N (cnt + 1) (gapS false (r.drop ((oneT (c :: r)).2.1 - 1)))).1, (runT N (cnt + 1) (gapS false (r.drop ((oneT (c :: r)).2.1 - 1)))).2)
termination_by l => l.length
def toksT (l : List UInt8) : List TkP × Nat × Int :=
  if 4096 < l.length then ([], 0, 35) else if (runT l.length 0 (gapS false l)).2.2 = 0 then ((runT l.length 0 (gapS false l)).1, 0, 0) else ([], (runT l.length 0 (gapS false l)).2)

theorem runT_many (N : Nat) (c : UInt8) (r : List UInt8) : runT N 2048 (c :: r) = ([], N - (r.length + 1), 34) := by rw [runT, if_pos rfl]
theorem runT_bad (N cnt : Nat) (c : UInt8) (r : List UInt8) (hc : cnt ≠ 2048) (h : (oneT (c :: r)).2.2 ≠ 0) : runT N cnt (c :: r) = ([], N - (r.length + 1), (oneT (c :: r)).2.2) := by
  rw [runT, if_neg hc, if_pos h]
theorem runT_next (N cnt : Nat) (c : UInt8) (r : List UInt8) (hc : cnt ≠ 2048) (h : (oneT (c :: r)).2.2 = 0) :
    runT N cnt (c :: r) = (⟨(oneT (c :: r)).1, N - (r.length + 1), N - (r.length + 1) + (oneT (c :: r)).2.1⟩ :: (runT N (cnt + 1) (gapS false (r.drop ((oneT (c :: r)).2.1 - 1)))).1, (runT N (cnt + 1) (gapS false (r.drop ((oneT (c :: r)).2.1 - 1)))).2) := by
  rw [runT, if_neg hc, if_neg (by simpa using h)]

theorem escV_pos {l : List UInt8} {b : UInt8} {n : Nat} (h : escV l = some (b, n)) : 1 ≤ n ∧ n ≤ l.length := by
  match l, h with
  | c :: r, h =>
    rw [escV.eq_def] at h
    simp only at h
    by_cases hc : c ≠ 92
    · rw [if_pos hc] at h
      simp at h
      simp; omega
    · rw [if_neg hc] at h
      match r, h with
      | d :: q, h =>
        simp only at h
        split at h
        · simp at h; simp; omega
        · split at h
          · simp at h; simp; omega
          · split at h
            · match hq : q, h with
              | [], h => simp [twoV] at h
              | [_], h => simp [twoV] at h
              | _ :: _ :: q', h =>
                split at h
                · simp at h; simp; omega
                · cases h
            · cases h
theorem txt_len : ∀ {l t : List UInt8} {k : Nat}, txt l = some (t, k) → 1 ≤ k ∧ k ≤ l.length
  | [], t, k, h => by rw [txt] at h; cases h
  | c :: r, t, k, h => by
    rw [txt] at h
    split at h
    · simp at h; simp; omega
    · split at h
      · cases h
      · rename_i b n he
        have hp := escV_pos he
        split at h
        · cases h
        · rename_i t' k' ht
          have := txt_len ht
          simp at h this hp ⊢
          omega
termination_by l => l.length
decreasing_by simp; omega
theorem wordL_le (l : List UInt8) : (wordL l).length ≤ l.length := (List.takeWhile_prefix _).length_le
theorem wordL_take (l : List UInt8) : l.take (wordL l).length = wordL l := by
  unfold wordL
  induction l with
  | nil => rfl
  | cons c r ih => by_cases h : nby8 c = true <;> simp [h, ih]
theorem hashT_len {r : List UInt8} (h : (hashT r).2.2 = 0) : 2 ≤ (hashT r).2.1 ∧ (hashT r).2.1 ≤ r.length + 1 := by
  match r with
  | 40 :: q => rw [hashT]; simp
  | 92 :: c :: q =>
    have := wordL_le (c :: q)
    rw [hashT] at h ⊢
    split
    · simp at this ⊢; omega
    · rename_i hn; rw [hn] at h; simp at h
  | [] => simp [hashT, wordL] at h
  | c :: q =>
    unfold hashT at h ⊢
    split
    · simp
    · rename_i c' r' e
      have := wordL_le (c' :: r')
      simp only [List.cons.injEq] at e
      split
      · rw [e.2]; simp at this ⊢; omega
      · rename_i hn; simp [e, hn] at h
    · rename_i h1 h2
      split
      · simp
      · split
        · simp
        · rename_i h3 h4
          exfalso
          split at h
          · rename_i q' e; cases e; exact h1 _ rfl
          · rename_i q' e; cases e; exact h2 _ _ rfl
          · simp [h3, h4] at h
theorem oneT_len {l : List UInt8} (h : (oneT l).2.2 = 0) : 1 ≤ (oneT l).2.1 ∧ (oneT l).2.1 ≤ l.length := by
  match l with
  | [] => simp [oneT] at h
  | c :: r =>
    rw [oneT] at h ⊢
    split
    · simp
    · split
      · simp
      · split
        · simp
        · split
          · rename_i h1 h2 h3 h4
            rw [if_neg h1, if_neg h2, if_neg h3, if_pos h4] at h
            have := hashT_len h
            simp; omega
          · split
            · rename_i h1 h2 h3 h4 h5
              rw [if_neg h1, if_neg h2, if_neg h3, if_neg h4, if_pos h5] at h
              split
              · rename_i t k ht
                have := txt_len ht
                simp; omega
              · rename_i ht; rw [ht] at h; simp at h
            · split
              · rename_i h1 h2 h3 h4 h5 h6
                rw [if_neg h1, if_neg h2, if_neg h3, if_neg h4, if_neg h5, if_pos h6] at h
                simp at h
              · rename_i h6
                have := wordL_le (c :: r)
                have := List.length_pos_iff.2 h6
                exact ⟨this, by assumption⟩
/-! ### what stands behind a token -/
def Stops (r : List UInt8) : Prop := ∀ c, r.head? = some c → nby8 c = false

theorem wordL_app {w r : List UInt8} (hw : bytesB w = true) (hr : Stops r) : wordL (w ++ r) = w := by
  induction w with
  | nil =>
    match r with
    | [] => rfl
    | c :: q => simp [wordL, hr c rfl]
  | cons c w ih =>
    simp only [bytesB, List.all_cons, Bool.and_eq_true] at hw
    have := ih hw.2
    simp only [wordL] at this
    simp [wordL, hw.1, this]
theorem wordL_bytes (l : List UInt8) : bytesB (wordL l) = true := by
  unfold bytesB wordL
  induction l with
  | nil => rfl
  | cons c r ih => by_cases h : nby8 c = true <;> simp [h] <;> simpa using ih
theorem wordL_stop (l : List UInt8) : Stops (l.drop (wordL l).length) := by
  intro c hc
  unfold wordL at hc
  induction l with
  | nil => simp at hc
  | cons d r ih =>
    by_cases h : nby8 d = true
    · simp [h] at hc
      exact ih (by simpa using hc)
    · simp [h] at hc
      subst hc
      simpa using h

theorem hexV_lt {c : UInt8} {x : Nat} (h : hexV c = some x) : x < 16 := by
  unfold hexV at h
  split at h
  · simp at h; omega
  · split at h
    · simp at h; omega
    · split at h
      · simp at h; omega
      · cases h
theorem twoV_app {l : List UInt8} {x : Nat} (h : twoV l = some x) (r : List UInt8) : twoV (l.take 2 ++ r) = some x := by
  match l, h with
  | a :: b :: q, h => simpa [twoV] using h
theorem escV_app {l : List UInt8} {b : UInt8} {n : Nat} (h : escV l = some (b, n)) (r : List UInt8) : escV (l.take n ++ r) = some (b, n) := by
  match l, h with
  | c :: q, h =>
    rw [escV.eq_def] at h
    simp only at h
    by_cases hc : c ≠ 92
    · rw [if_pos hc] at h
      simp only [Option.some.injEq, Prod.mk.injEq] at h
      obtain ⟨rfl, rfl⟩ := h
      rw [escV.eq_def]
      simp [hc]
    · rw [if_neg hc] at h
      match q, h with
      | d :: q, h =>
        simp only at h
        by_cases h1 : d = 34 ∨ d = 92
        · rw [if_pos h1] at h
          simp only [Option.some.injEq, Prod.mk.injEq] at h
          obtain ⟨rfl, rfl⟩ := h
          rw [escV.eq_def]
          simp [hc, h1]
        · rw [if_neg h1] at h
          by_cases h2 : d = 110
          · rw [if_pos h2] at h
            simp only [Option.some.injEq, Prod.mk.injEq] at h
            obtain ⟨rfl, rfl⟩ := h
            rw [escV.eq_def]
            simp [hc, h2]
          · rw [if_neg h2] at h
            by_cases h3 : d = 120
            · rw [if_pos h3] at h
              match q, h with
              | [], h => simp [twoV] at h
              | [_], h => simp [twoV] at h
              | x :: y :: q, h =>
                split at h
                · rename_i v hv
                  simp only [Option.some.injEq, Prod.mk.injEq] at h
                  obtain ⟨rfl, rfl⟩ := h
                  have hv' := twoV_app hv r
                  simp only [List.take_succ_cons, List.take_zero] at hv'
                  rw [escV.eq_def]
                  simp only [List.take_succ_cons, List.take_zero, List.cons_append]
                  rw [if_neg hc, if_neg h1, if_neg h2, if_pos h3]
                  simp only [List.cons_append] at hv'
                  rw [hv']
                · cases h
            · rw [if_neg h3] at h; cases h
theorem drop_pred {c : UInt8} {r : List UInt8} {n : Nat} (h : 1 ≤ n) : r.drop (n - 1) = (c :: r).drop n := by
  obtain ⟨m, rfl⟩ : ∃ m, n = m + 1 := ⟨n - 1, by omega⟩
  simp
theorem txt_cons (c : UInt8) (r : List UInt8) : txt (c :: r) = if c = 34 then some ([], 1) else match escV (c :: r) with
    | none => none
    | some (b, n) => match txt ((c :: r).drop n) with
      | none => none
      | some (t, k) => some (b :: t, n + k) := by
  rw [txt]
  split
  · rfl
  · cases h : escV (c :: r) with
    | none => rfl
    | some q => simp only [drop_pred (c := c) (r := r) (escV_pos (b := q.1) (n := q.2) h).1]
theorem txt_app : ∀ {l t : List UInt8} {k : Nat}, txt l = some (t, k) → ∀ r, txt (l.take k ++ r) = some (t, k)
  | [], t, k, h => by rw [txt] at h; cases h
  | c :: q, t, k, h => by
    intro r
    rw [txt_cons] at h
    by_cases hc : c = 34
    · rw [if_pos hc] at h
      simp only [Option.some.injEq, Prod.mk.injEq] at h
      obtain ⟨rfl, rfl⟩ := h
      rw [List.take_succ_cons, List.cons_append, txt_cons, if_pos hc]
    · rw [if_neg hc] at h
      cases he : escV (c :: q) with
      | none => rw [he] at h; cases h
      | some bn =>
        obtain ⟨b, n⟩ := bn
        rw [he] at h
        simp only at h
        have hp := escV_pos he
        cases ht : txt ((c :: q).drop n) with
        | none => rw [ht] at h; cases h
        | some tk =>
          obtain ⟨t', k'⟩ := tk
          rw [ht] at h
          simp only [Option.some.injEq, Prod.mk.injEq] at h
          obtain ⟨rfl, rfl⟩ := h
          have ih := txt_app ht r
          have e : (c :: q).take (n + k') ++ r = (c :: q).take n ++ (((c :: q).drop n).take k' ++ r) := by
            rw [List.take_add, List.append_assoc]
          have hh : ((c :: q).take (n + k') ++ r) = c :: (q.take (n + k' - 1) ++ r) := by
            obtain ⟨m, hm⟩ : ∃ m, n + k' = m + 1 := ⟨n + k' - 1, by omega⟩
            rw [hm]; rfl
          rw [hh, txt_cons, if_neg hc, ← hh, e, escV_app he]
          simp only
          rw [List.drop_append_of_le_length (by rw [List.length_take]; omega), List.drop_of_length_le (by rw [List.length_take]; omega), List.nil_append, ih]
termination_by l => l.length
decreasing_by simp; omega

/-- What may stand behind a token. -/
def Behind (l : List UInt8) (n : Nat) (r : List UInt8) : Prop := Stops r ∨ r.head? = (l.drop n).head?
theorem Behind.stops {l r : List UInt8} {n : Nat} (h : Behind l n r) (hs : Stops (l.drop n)) : Stops r := by
  rcases h with h | h
  · exact h
  · intro c hc; exact hs c (h ▸ hc)

theorem hash_ways (r : List UInt8) : (∃ q, r = 40 :: q) ∨ (∃ c q, r = 92 :: c :: q) ∨ ((∀ q, r ≠ 40 :: q) ∧ (∀ c q, r ≠ 92 :: c :: q)) := by
  by_cases h : ∃ q, r = 40 :: q
  · exact .inl h
  · by_cases h2 : ∃ c q, r = 92 :: c :: q
    · exact .inr (.inl h2)
    · exact .inr (.inr ⟨fun q e => h ⟨q, e⟩, fun c q e => h2 ⟨c, q, e⟩⟩)
theorem hashT_else {r : List UInt8} (h1 : ∀ q, r ≠ 40 :: q) (h2 : ∀ c q, r ≠ 92 :: c :: q) : hashT r = if wordL r = [116] then (⟨5, [], 1⟩, 2, 0) else if wordL r = [102] then (⟨5, [], 0⟩, 2, 0) else (noTk, 0, 31) := by
  unfold hashT
  split
  · rename_i q; exact absurd rfl (h1 q)
  · rename_i c q; exact absurd rfl (h2 c q)
  · rfl
theorem hashT_char (c : UInt8) (q : List UInt8) : hashT (92 :: c :: q) = (match charV ((c :: q).take (max 1 (wordL (c :: q)).length)) with
    | some x => ((⟨7, [], x⟩ : Tk), 2 + max 1 (wordL (c :: q)).length, (0 : Int))
    | none => (noTk, 0, 31)) := by rw [hashT]

theorem charLen (c : UInt8) (q r : List UInt8) (hr : Behind (c :: q) (max 1 (wordL (c :: q)).length) r) : (wordL ((c :: q).take (max 1 (wordL (c :: q)).length) ++ r)).length = (wordL (c :: q)).length := by
  by_cases hc : nby8 c = true
  · have h1 : 1 ≤ (wordL (c :: q)).length := by simp [wordL, hc]
    rw [Nat.max_eq_right h1] at hr ⊢
    rw [wordL_take, wordL_app (wordL_bytes _) (hr.stops (wordL_stop _))]
  · have h0 : wordL (c :: q) = [] := by simp [wordL, hc]
    rw [h0]
    simp [wordL, hc]
theorem hashT_app {r : List UInt8} (h : (hashT r).2.2 = 0) (x : List UInt8) (hx : Behind r ((hashT r).2.1 - 1) x) : hashT (r.take ((hashT r).2.1 - 1) ++ x) = hashT r := by
  rcases hash_ways r with ⟨q, rfl⟩ | ⟨c, q, rfl⟩ | ⟨h1, h2⟩
  · simp [hashT]
  · rw [hashT_char] at h hx ⊢
    cases hv : charV ((c :: q).take (max 1 (wordL (c :: q)).length)) with
    | none => rw [hv] at h; simp at h
    | some v =>
      rw [hv] at hx
      simp only at hx ⊢
      have e1 : 2 + max 1 (wordL (c :: q)).length - 1 = max 1 (wordL (c :: q)).length + 1 := by omega
      rw [e1] at hx ⊢
      rw [List.take_succ_cons]
      obtain ⟨m, hm⟩ : ∃ m, max 1 (wordL (c :: q)).length = m + 1 := ⟨max 1 (wordL (c :: q)).length - 1, by omega⟩
      have hb : Behind (c :: q) (max 1 (wordL (c :: q)).length) x := by
        rcases hx with hx | hx
        · exact .inl hx
        · exact .inr (by simpa using hx)
      have hl := charLen c q x hb
      have ht : (c :: q).take (max 1 (wordL (c :: q)).length) ++ x = c :: (q.take m ++ x) := by rw [hm]; rfl
      rw [List.cons_append, ht, hashT_char, ← ht, hl, List.take_append_of_le_length (by rw [List.length_take]; have := wordL_le (c :: q); simp at this ⊢; omega), List.take_take, Nat.min_self, hv]
  · rw [hashT_else h1 h2] at h hx ⊢
    have key : ∀ b : UInt8, wordL r = [b] → b ≠ 40 → b ≠ 92 → Behind r 1 x → wordL (r.take 1 ++ x) = [b] ∧ (∀ q, r.take 1 ++ x ≠ 40 :: q) ∧ (∀ c q, r.take 1 ++ x ≠ 92 :: c :: q) := by
      intro b hb h40 h92 hbx
      have ht := wordL_take r
      rw [hb] at ht
      have hs := wordL_stop r
      rw [hb] at hs
      simp only [List.length_cons, List.length_nil, Nat.zero_add] at ht hs
      rw [ht]
      refine ⟨wordL_app (by have := wordL_bytes r; rwa [hb] at this) (hbx.stops hs), fun q e => ?_, fun c q e => ?_⟩
      · simp at e; exact h40 e.1
      · simp at e; exact h92 e.1
    by_cases ha : wordL r = [116]
    · rw [if_pos ha] at hx ⊢
      obtain ⟨k1, k2, k3⟩ := key 116 ha (by decide) (by decide) hx
      simp only [Nat.add_one_sub_one]
      rw [hashT_else k2 k3, if_pos k1]
    · rw [if_neg ha] at h hx ⊢
      by_cases hb : wordL r = [102]
      · rw [if_pos hb] at hx ⊢
        obtain ⟨k1, k2, k3⟩ := key 102 hb (by decide) (by decide) hx
        simp only [Nat.reduceSub]
        rw [hashT_else k2 k3, if_neg (by rw [k1]; decide), if_pos k1]
      · rw [if_neg hb] at h; simp at h

/-- A token is that by itself, and whatever may stand behind it. -/
theorem oneT_app {l : List UInt8} (h : (oneT l).2.2 = 0) (x : List UInt8) (hx : Behind l (oneT l).2.1 x) : oneT (l.take (oneT l).2.1 ++ x) = oneT l := by
  match l with
  | [] => simp [oneT] at h
  | c :: r =>
    have hlen := oneT_len h
    have hdef : oneT (c :: r) = if c = 40 then (⟨0, [], 0⟩, 1, 0) else if c = 41 then (⟨1, [], 0⟩, 1, 0) else if c = 39 then (⟨3, [], 0⟩, 1, 0) else if c = 35 then hashT r
        else if c = 34 then (match txt r with | some (t, k) => (⟨8, t, 0⟩, 1 + k, 0) | none => (noTk, 0, 32))
        else if wordL (c :: r) = [] then (noTk, 0, 30) else ((wordT (wordL (c :: r))).1, (wordL (c :: r)).length, (wordT (wordL (c :: r))).2) := by rw [oneT]
    by_cases h1 : c = 40
    · subst h1; simp [oneT]
    by_cases h2 : c = 41
    · subst h2; simp [oneT]
    by_cases h3 : c = 39
    · subst h3; simp [oneT]
    by_cases h4 : c = 35
    · subst h4
      have e : oneT (35 :: r) = hashT r := by simp [oneT]
      rw [e] at h hx hlen ⊢
      have hn := hashT_len h
      obtain ⟨m, hm⟩ : ∃ m, (hashT r).2.1 = m + 1 := ⟨(hashT r).2.1 - 1, by omega⟩
      have ha := hashT_app h x (by
        rcases hx with hx | hx
        · exact .inl hx
        · refine .inr (hx.trans ?_); rw [hm]; rfl)
      rw [hm] at ha ⊢
      rw [List.take_succ_cons, List.cons_append]
      have e2 : ∀ q, oneT (35 :: q) = hashT q := fun q => by simp [oneT]
      rw [e2]
      exact ha
    by_cases h5 : c = 34
    · subst h5
      have e2 : ∀ q, oneT (34 :: q) = (match txt q with | some (t, k) => (⟨8, t, 0⟩, 1 + k, 0) | none => (noTk, 0, 32)) := fun q => by simp [oneT]
      rw [e2] at h hx hlen ⊢
      cases ht : txt r with
      | none => rw [ht] at h; simp at h
      | some tk =>
        obtain ⟨t, k⟩ := tk
        simp only
        rw [Nat.add_comm 1 k, List.take_succ_cons, List.cons_append, e2, txt_app ht x]
        simp only [Nat.add_comm]
    · rw [hdef, if_neg h1, if_neg h2, if_neg h3, if_neg h4, if_neg h5] at h hx ⊢
      by_cases h6 : wordL (c :: r) = []
      · rw [if_pos h6] at h; simp at h
      · rw [if_neg h6] at h hx ⊢
        simp only at hx ⊢
        have hw := wordL_take (c :: r)
        have hc : nby8 c = true := by
          cases hcc : nby8 c with
          | true => rfl
          | false => exact absurd (by simp [wordL, hcc]) h6
        have ha := wordL_app (wordL_bytes (c :: r)) (hx.stops (wordL_stop _))
        have hcons : wordL (c :: r) ++ x = c :: ((wordL r) ++ x) := by simp [wordL, hc]
        rw [hw, hcons, oneT, if_neg h1, if_neg h2, if_neg h3, if_neg h4, if_neg h5, ← hcons, ha, if_neg h6]
/-! ### what the laws say of tokens -/
theorem gap_open (c : UInt8) (r : List UInt8) (h : gapS false (c :: r) = c :: r) : c ≠ 59 ∧ gapB c = false := by
  rw [gapS] at h
  constructor
  · rintro rfl
    rw [if_pos rfl] at h
    have := congrArg List.length h
    have h2 := gapS_le true r
    simp at this; omega
  · cases hg : gapB c with
    | false => rfl
    | true =>
      exfalso
      by_cases h59 : c = 59
      · rw [if_pos h59] at h
        have := congrArg List.length h
        have h2 := gapS_le true r
        simp at this; omega
      · rw [if_neg h59, if_pos hg] at h
        have := congrArg List.length h
        have h2 := gapS_le false r
        simp at this; omega
theorem gap_shut (c : UInt8) (r : List UInt8) (h1 : c ≠ 59) (h2 : gapB c = false) : gapS false (c :: r) = c :: r := by
  rw [gapS, if_neg h1, h2]; simp
theorem gapS_idem : ∀ (b : Bool) (l : List UInt8), gapS false (gapS b l) = gapS b l
  | _, [] => by simp [gapS]
  | true, c :: r => by
    rw [gapS]
    split
    · exact gapS_idem false r
    · exact gapS_idem true r
  | false, c :: r => by
    rw [gapS]
    split
    · exact gapS_idem true r
    · split
      · exact gapS_idem false r
      · rename_i h1 h2
        exact gap_shut c r h1 (by simpa using h2)
/-- What was gone over is gone over ahead of anything. -/
theorem gapS_over : ∀ (b : Bool) (x y : List UInt8), y ≠ [] → gapS b (x ++ y) = y → ∀ m, gapS b (x ++ m) = gapS false m
  | true, [], y, hy, h, m => by
    match y with
    | c :: r =>
      exfalso
      rw [List.nil_append, gapS] at h
      have h1 := gapS_le false r
      have h2 := gapS_le true r
      have := congrArg List.length h
      split at this <;> simp at this <;> omega
  | false, [], _, _, _, m => by rfl
  | true, c :: x, y, hy, h, m => by
    rw [List.cons_append, gapS] at h ⊢
    split at h
    · rename_i hc; rw [if_pos hc]; exact gapS_over false x y hy h m
    · rename_i hc; rw [if_neg hc]; exact gapS_over true x y hy h m
  | false, c :: x, y, hy, h, m => by
    rw [List.cons_append, gapS] at h ⊢
    split at h
    · rename_i hc; rw [if_pos hc]; exact gapS_over true x y hy h m
    · rename_i hc
      rw [if_neg hc]
      split at h
      · rename_i hg; rw [if_pos hg]; exact gapS_over false x y hy h m
      · exfalso
        have := congrArg List.length h
        simp at this
        omega
theorem gapS_suffix : ∀ (b : Bool) (l : List UInt8), ∃ x, l = x ++ gapS b l
  | _, [] => ⟨[], by simp [gapS]⟩
  | true, c :: r => by
    rw [gapS]
    split
    · obtain ⟨x, hx⟩ := gapS_suffix false r
      exact ⟨c :: x, by rw [List.cons_append, ← hx]⟩
    · obtain ⟨x, hx⟩ := gapS_suffix true r
      exact ⟨c :: x, by rw [List.cons_append, ← hx]⟩
  | false, c :: r => by
    rw [gapS]
    split
    · obtain ⟨x, hx⟩ := gapS_suffix true r
      exact ⟨c :: x, by rw [List.cons_append, ← hx]⟩
    · split
      · obtain ⟨x, hx⟩ := gapS_suffix false r
        exact ⟨c :: x, by rw [List.cons_append, ← hx]⟩
      · exact ⟨[], rfl⟩
/-- A line's end ends a remark: what is gone over is gone over. -/
theorem gapS_line : ∀ (b : Bool) (l t : List UInt8), gapS b (l ++ 10 :: t) = if gapS b l = [] then gapS false t else gapS b l ++ 10 :: t
  | true, [], t => by simp [gapS]
  | false, [], t => by simp [gapS, gapB]
  | true, c :: r, t => by
    rw [List.cons_append, gapS, gapS]
    split
    · exact gapS_line false r t
    · exact gapS_line true r t
  | false, c :: r, t => by
    rw [List.cons_append, gapS, gapS]
    split
    · exact gapS_line true r t
    · split
      · exact gapS_line false r t
      · simp

/-- The rest behind a token. -/
def restT (l : List UInt8) : List UInt8 := gapS false (l.drop (oneT l).2.1)
theorem rest_lt {l : List UInt8} (h : (oneT l).2.2 = 0) : (restT l).length < l.length := by
  have := oneT_len h
  have h2 := gapS_le false (l.drop (oneT l).2.1)
  unfold restT
  rw [List.length_drop] at h2
  omega
theorem runT_rest (N cnt : Nat) (l : List UInt8) (h0 : l ≠ []) (hc : cnt ≠ 2048) (h : (oneT l).2.2 = 0) :
    runT N cnt l = (⟨(oneT l).1, N - l.length, N - l.length + (oneT l).2.1⟩ :: (runT N (cnt + 1) (restT l)).1, (runT N (cnt + 1) (restT l)).2) := by
  match l with
  | c :: r =>
    have := oneT_len h
    rw [runT_next N cnt c r hc h, drop_pred (c := c) this.1]
    rfl
theorem runT_stop {N cnt : Nat} {l : List UInt8} (h0 : l ≠ []) (h : (runT N cnt l).2.2 = 0) : cnt ≠ 2048 ∧ (oneT l).2.2 = 0 := by
  match l with
  | c :: r =>
    by_cases hc : cnt = 2048
    · subst hc; rw [runT_many] at h; simp at h
    · by_cases he : (oneT (c :: r)).2.2 = 0
      · exact ⟨hc, he⟩
      · rw [runT_bad N cnt c r hc he] at h; exact absurd h he

/-- How many there are, and that all places but the first are of no moment. -/
theorem runT_shift (N N' : Nat) : ∀ (n cnt : Nat) (l : List UInt8), l.length ≤ n → (runT N cnt l).2.2 = (runT N' cnt l).2.2 ∧ (runT N cnt l).1.map (·.t) = (runT N' cnt l).1.map (·.t)
  | _, cnt, [], _ => by simp [runT]
  | n + 1, cnt, c :: r, hn => by
    by_cases hc : cnt = 2048
    · subst hc; simp [runT_many]
    · by_cases he : (oneT (c :: r)).2.2 = 0
      · have := rest_lt he
        obtain ⟨h1, h2⟩ := runT_shift N N' n (cnt + 1) (restT (c :: r)) (by simp at this hn; omega)
        rw [runT_rest N cnt _ (by simp) hc he, runT_rest N' cnt _ (by simp) hc he]
        simp [h1, h2]
      · simp [runT_bad _ cnt c r hc he]

/-- Tokens in order and apart, each by itself. -/
def Fits (s : List UInt8) : Nat → List TkP → Prop
  | _, [] => True
  | e, q :: ts => e ≤ q.a ∧ q.a < q.b ∧ q.b ≤ s.length ∧ oneT (s.drop q.a) = (q.t, q.b - q.a, 0) ∧ gapS false (s.drop q.a) = s.drop q.a ∧ Fits s q.b ts
theorem run_fits (s : List UInt8) : ∀ (n cnt e : Nat) (l : List UInt8), l.length ≤ n → l.length ≤ s.length → s.drop (s.length - l.length) = l → gapS false l = l → e ≤ s.length - l.length → (runT s.length cnt l).2.2 = 0 → Fits s e (runT s.length cnt l).1
  | _, cnt, e, [], _, _, _, _, _, _ => by simp [runT, Fits]
  | n + 1, cnt, e, c :: r, hn, hs, hd, hg, he, h => by
    obtain ⟨hc, ho⟩ := runT_stop (by simp) h
    have hlt := rest_lt ho
    have hlen := oneT_len ho
    rw [runT_rest _ cnt _ (by simp) hc ho] at h ⊢
    simp only at h
    rw [Fits]
    have ed : s.drop (s.length - (restT (c :: r)).length) = restT (c :: r) := by
      obtain ⟨x, hx⟩ := gapS_suffix false ((c :: r).drop (oneT (c :: r)).2.1)
      have hx' : (c :: r).drop (oneT (c :: r)).2.1 = x ++ restT (c :: r) := hx
      have hl := congrArg List.length hx'
      rw [List.length_drop, List.length_append] at hl
      have : s.drop ((s.length - (c :: r).length) + ((oneT (c :: r)).2.1 + x.length)) = restT (c :: r) := by
        rw [← List.drop_drop, hd, ← List.drop_drop, hx', List.drop_left]
      refine Eq.trans ?_ this
      congr 1
      omega
    refine ⟨he, by simp only; omega, by simp only; omega, ?_, ?_, run_fits s n (cnt + 1) _ _ (by simp only [List.length_cons] at hn hlt; omega) (by omega) ed (gapS_idem _ _) ?_ h⟩
    · simp only
      rw [hd, Nat.add_sub_cancel_left]
      exact Prod.ext rfl (Prod.ext rfl ho)
    · simp only
      rw [hd]; exact hg
    · have h2 := gapS_le false ((c :: r).drop (oneT (c :: r)).2.1)
      rw [List.length_drop] at h2
      unfold restT
      simp only
      omega
theorem toks_fits {s : List UInt8} (h : (toksT s).2.2 = 0) : Fits s 0 (toksT s).1 := by
  unfold toksT at h ⊢
  split at h
  · cases h
  · rename_i hl
    rw [if_neg hl]
    split at h
    · rename_i h0
      rw [if_pos h0]
      have hle := gapS_le false s
      obtain ⟨x, hx⟩ := gapS_suffix false s
      refine run_fits s _ 0 0 _ (Nat.le_refl _) hle ?_ (gapS_idem _ _) (Nat.zero_le _) h0
      have hl := congrArg List.length hx
      rw [List.length_append] at hl
      have : s.drop x.length = gapS false s := by
        conv => lhs; rw [hx]
        exact List.drop_left
      refine Eq.trans ?_ this
      congr 1
      omega
    · rename_i h0; exact absurd h h0

/-- A token's bytes by themselves. -/
theorem toks_alone {l : List UInt8} {t : Tk} {n : Nat} (h : oneT l = (t, n, 0)) (hg : gapS false l = l) (hn : n ≤ 4096) : toksT (l.take n) = ([⟨t, 0, n⟩], 0, 0) := by
  have h22 : (oneT l).2.2 = 0 := by rw [h]
  have h21 : (oneT l).2.1 = n := by rw [h]
  have hlen := oneT_len h22
  rw [h21] at hlen
  have ha := oneT_app h22 [] (.inl (by intro c hc; cases hc))
  rw [List.append_nil, h21, h] at ha
  match l, hlen with
  | c :: r, hlen =>
    obtain ⟨m, rfl⟩ : ∃ m, n = m + 1 := ⟨n - 1, by omega⟩
    rw [List.take_succ_cons] at ha ⊢
    have hlm : (c :: r.take m).length = m + 1 := by simp at hlen ⊢; omega
    have hgg : gapS false (c :: r.take m) = c :: r.take m := by
      obtain ⟨h1, h2⟩ := gap_open c r hg
      exact gap_shut c _ h1 h2
    have hr : runT (m + 1) 0 (c :: r.take m) = ([⟨t, 0, m + 1⟩], 0, 0) := by
      have ho : (oneT (c :: r.take m)).2.2 = 0 := by rw [ha]
      rw [runT_rest _ 0 _ (by simp) (by decide) ho]
      have : restT (c :: r.take m) = [] := by
        unfold restT
        rw [ha, List.drop_of_length_le (by simp only; omega)]
        simp [gapS]
      rw [this, hlm, ha]
      simp [runT]
    unfold toksT
    rw [if_neg (by omega), hgg, hlm, hr]
    simp

/-! ### what is gone over, put in -/
/-- Places at which something is put in: where a token begins, behind the last one. -/
inductive Spot : List UInt8 → List UInt8 → Prop
  | here (l : List UInt8) : l ≠ [] → Spot l l
  | last (l : List UInt8) : l ≠ [] → (oneT l).2.2 = 0 → restT l = [] → Spot l (l.drop (oneT l).2.1)
  | next (l y : List UInt8) : l ≠ [] → (oneT l).2.2 = 0 → Spot (restT l) y → Spot l y
theorem Spot.ne {l y : List UInt8} (h : Spot l y) : l ≠ [] := by
  induction h with
  | here _ h => exact h
  | last _ h => exact h
  | next _ _ h => exact h
def GapText (g : List UInt8) : Prop := g ≠ [] ∧ (∀ m, gapS false (g ++ m) = gapS false m) ∧ Stops g
theorem Behind.of_head {l : List UInt8} {n : Nat} {x : List UInt8} (h : x.head? = (l.drop n).head?) : Behind l n x := .inr h
theorem Spot.put {g : List UInt8} (hg : GapText g) (N N' : Nat) {l y : List UInt8} (h : Spot l y) : gapS false l = l → ∃ x, l = x ++ y ∧ ∀ cnt, (runT N cnt l).2.2 = 0 → (runT N' cnt (gapS false (x ++ (g ++ y)))).2.2 = 0 ∧ (runT N' cnt (gapS false (x ++ (g ++ y)))).1.map (·.t) = (runT N cnt l).1.map (·.t) := by
  have one (l x z : List UInt8) (h0 : l ≠ []) (ho : (oneT l).2.2 = 0) (hgl : gapS false l = l) (hz : Behind l (oneT l).2.1 z) (hx : x = l.take (oneT l).2.1) :
      gapS false (x ++ z) = x ++ z ∧ oneT (x ++ z) = oneT l ∧ restT (x ++ z) = gapS false z := by
    subst hx
    have hlen := oneT_len ho
    have ha := oneT_app ho z hz
    refine ⟨?_, ha, ?_⟩
    · match l with
      | c :: r =>
        obtain ⟨m, hm⟩ : ∃ m, (oneT (c :: r)).2.1 = m + 1 := ⟨(oneT (c :: r)).2.1 - 1, by omega⟩
        rw [hm, List.take_succ_cons, List.cons_append]
        obtain ⟨h1, h2⟩ := gap_open c r hgl
        exact gap_shut c _ h1 h2
    · unfold restT
      rw [ha, List.drop_append_of_le_length (by rw [List.length_take]; omega), List.drop_of_length_le (by rw [List.length_take]; omega), List.nil_append]
  induction h with
  | here l h0 =>
    intro hgl
    refine ⟨[], rfl, fun cnt h => ?_⟩
    rw [List.nil_append, hg.2.1, hgl]
    obtain ⟨h1, h2⟩ := runT_shift N' N _ cnt l (Nat.le_refl _)
    exact ⟨h1.trans h, h2⟩
  | last l h0 ho hr =>
    intro hgl
    refine ⟨l.take (oneT l).2.1, (List.take_append_drop _ _).symm, fun cnt h => ?_⟩
    have hz : Behind l (oneT l).2.1 (g ++ l.drop (oneT l).2.1) := .inl fun c hc => hg.2.2 c (by
      match g, hg.1 with
      | a :: g, _ => simpa using hc)
    obtain ⟨e1, e2, e3⟩ := one l _ _ h0 ho hgl hz rfl
    have hl2 := oneT_len ho
    have hne : l.take (oneT l).2.1 ++ (g ++ l.drop (oneT l).2.1) ≠ [] := by
      intro e
      have := congrArg List.length e
      have hgl := List.length_pos_iff.2 hg.1
      simp only [List.length_append, List.length_nil] at this
      omega
    obtain ⟨hc, _⟩ := runT_stop h0 h
    have e4 : gapS false (g ++ l.drop (oneT l).2.1) = [] := (hg.2.1 _).trans hr
    rw [e1, runT_rest N' cnt _ hne hc (by rw [e2]; exact ho), e3, e4, e2, runT_rest N cnt l h0 hc ho, hr]
    simp [runT]
  | next l y h0 ho hsp ih =>
    intro hgl
    obtain ⟨x2, hx2, ih⟩ := ih (gapS_idem _ _)
    obtain ⟨u, hu⟩ := gapS_suffix false (l.drop (oneT l).2.1)
    change l.drop (oneT l).2.1 = u ++ restT l at hu
    have hd : l.drop (oneT l).2.1 = (u ++ x2) ++ y := by rw [hu, List.append_assoc, ← hx2]
    refine ⟨l.take (oneT l).2.1 ++ (u ++ x2), by rw [List.append_assoc, ← hd, List.take_append_drop], fun cnt h => ?_⟩
    obtain ⟨hc, _⟩ := runT_stop h0 h
    have hz : Behind l (oneT l).2.1 ((u ++ x2) ++ (g ++ y)) := by
      cases hux : u ++ x2 with
      | nil =>
        rw [List.nil_append]
        exact .inl fun c hc => hg.2.2 c (by
          match g, hg.1 with
          | a :: g, _ => simpa using hc)
      | cons a b => exact .inr (by rw [hd, hux]; rfl)
    obtain ⟨e1, e2, e3⟩ := one l _ _ h0 ho hgl hz rfl
    have hl2 := oneT_len ho
    have hne : l.take (oneT l).2.1 ++ ((u ++ x2) ++ (g ++ y)) ≠ [] := by
      intro e
      have := congrArg List.length e
      simp only [List.length_append, List.length_nil, List.length_take] at this
      omega
    have hover : gapS false ((u ++ x2) ++ (g ++ y)) = gapS false (x2 ++ (g ++ y)) := by
      by_cases hrn : restT l = []
      · have hx0 : x2 = [] ∧ y = [] := by rw [hrn] at hx2; simpa [eq_comm] using hx2
        -- a spot lies in what is not empty
        exfalso
        exact hsp.ne hrn
      · rw [List.append_assoc]
        exact gapS_over false u (restT l) hrn (by rw [← hu]; rfl) _
    rw [runT_rest N cnt l h0 hc ho] at h ⊢
    simp only at h
    obtain ⟨i1, i2⟩ := ih (cnt + 1) h
    rw [List.append_assoc, e1, runT_rest N' cnt _ hne hc (by rw [e2]; exact ho), e3, hover, e2]
    simp [i1, i2]
theorem run_spot (s : List UInt8) : ∀ (n cnt : Nat) (l : List UInt8), l.length ≤ n → l.length ≤ s.length → s.drop (s.length - l.length) = l → (runT s.length cnt l).2.2 = 0 →
    (∀ k (h : k < (runT s.length cnt l).1.length), Spot l (s.drop ((runT s.length cnt l).1[k]).a)) ∧ (∀ q, (runT s.length cnt l).1.getLast? = some q → Spot l (s.drop q.b))
  | _, cnt, [], _, _, _, _ => by simp [runT]
  | n + 1, cnt, c :: r, hn, hs, hd, h => by
    obtain ⟨hc, ho⟩ := runT_stop (by simp) h
    have hlt := rest_lt ho
    have hlen := oneT_len ho
    have ed : s.drop (s.length - (restT (c :: r)).length) = restT (c :: r) := by
      obtain ⟨x, hx⟩ := gapS_suffix false ((c :: r).drop (oneT (c :: r)).2.1)
      have hx' : (c :: r).drop (oneT (c :: r)).2.1 = x ++ restT (c :: r) := hx
      have hl := congrArg List.length hx'
      rw [List.length_drop, List.length_append] at hl
      have : s.drop ((s.length - (c :: r).length) + ((oneT (c :: r)).2.1 + x.length)) = restT (c :: r) := by
        rw [← List.drop_drop, hd, ← List.drop_drop, hx', List.drop_left]
      refine Eq.trans ?_ this
      congr 1
      omega
    rw [runT_rest _ cnt _ (by simp) hc ho] at h ⊢
    simp only at h
    obtain ⟨i1, i2⟩ := run_spot s n (cnt + 1) (restT (c :: r)) (by simp only [List.length_cons] at hn hlt; omega) (by omega) ed h
    refine ⟨fun k hk => ?_, fun q hq => ?_⟩
    · match k with
      | 0 =>
        simp only [List.getElem_cons_zero]
        rw [hd]
        exact .here _ (by simp)
      | k + 1 =>
        simp only [List.getElem_cons_succ]
        exact .next _ _ (by simp) ho (i1 k (by simpa using hk))
    · by_cases hr : restT (c :: r) = []
      · rw [hr] at hq
        simp [runT] at hq
        subst hq
        simp only
        rw [← List.drop_drop, show s.length - (r.length + 1) = s.length - (c :: r).length by simp, hd]
        exact .last _ (by simp) ho hr
      · refine .next _ _ (by simp) ho (i2 q ?_)
        have hne : (runT s.length (cnt + 1) (restT (c :: r))).1 ≠ [] := by
          obtain ⟨hc2, ho2⟩ := runT_stop hr h
          rw [runT_rest _ _ _ hr hc2 ho2]; simp
        rw [List.getLast?_cons] at hq
        cases hl : (runT s.length (cnt + 1) (restT (c :: r))).1.getLast? with
        | none => exact absurd (List.getLast?_eq_none_iff.1 hl) hne
        | some z => rw [hl] at hq; simpa using hq
theorem suffix_drop {s : List UInt8} : s.drop (s.length - (gapS false s).length) = gapS false s := by
  obtain ⟨x, hx⟩ := gapS_suffix false s
  have hl := congrArg List.length hx
  rw [List.length_append] at hl
  have : s.drop x.length = gapS false s := by
    conv => lhs; rw [hx]
    exact List.drop_left
  refine Eq.trans ?_ this
  congr 1
  omega
theorem toks_ok {s : List UInt8} (h : (toksT s).2.2 = 0) : s.length ≤ 4096 ∧ (runT s.length 0 (gapS false s)).2.2 = 0 ∧ (toksT s).1 = (runT s.length 0 (gapS false s)).1 ∧ (toksT s).2.1 = 0 := by
  unfold toksT at h ⊢
  split at h
  · cases h
  · rename_i hl
    split at h
    · rename_i h0
      rw [if_neg hl, if_pos h0]
      exact ⟨by omega, h0, rfl, rfl⟩
    · rename_i h0; exact absurd h h0
theorem toks_mk {s : List UInt8} (hl : s.length ≤ 4096) (h0 : (runT s.length 0 (gapS false s)).2.2 = 0) : toksT s = ((runT s.length 0 (gapS false s)).1, 0, 0) := by
  unfold toksT
  rw [if_neg (by omega), if_pos h0]
/-- P3.2, gaps. -/
theorem toks_put {s : List UInt8} {g : List UInt8} (hg : GapText g) (h : (toksT s).2.2 = 0) (p : Nat) (hp : (∃ k, ∃ h : k < (toksT s).1.length, p = ((toksT s).1[k]).a) ∨ (∃ q, (toksT s).1.getLast? = some q ∧ p = q.b))
    (hl : (s.take p ++ (g ++ s.drop p)).length ≤ 4096) : (toksT (s.take p ++ (g ++ s.drop p))).2.2 = 0 ∧ (toksT (s.take p ++ (g ++ s.drop p))).1.map (·.t) = (toksT s).1.map (·.t) := by
  obtain ⟨_, h0, h1, _⟩ := toks_ok h
  rw [h1] at hp ⊢
  have hsp : Spot (gapS false s) (s.drop p) := by
    obtain ⟨i1, i2⟩ := run_spot s _ 0 (gapS false s) (Nat.le_refl _) (gapS_le false s) suffix_drop h0
    rcases hp with ⟨k, hk, rfl⟩ | ⟨q, hq, rfl⟩
    · exact i1 k hk
    · exact i2 q hq
  obtain ⟨x, hx, hput⟩ := hsp.put hg s.length (s.take p ++ (g ++ s.drop p)).length (gapS_idem _ _)
  obtain ⟨h2, h3⟩ := hput 0 h0
  obtain ⟨u, hu⟩ := gapS_suffix false s
  have hne : gapS false s ≠ [] := hsp.ne
  have hall : s = (u ++ x) ++ s.drop p := by
    rw [List.append_assoc, ← hx]; exact hu
  have htk : s.take p = u ++ x := by
    have e1 := List.take_append_drop p s
    have e2 := congrArg List.length e1
    have e3 := congrArg List.length hall
    rw [List.length_append] at e2 e3
    have : s.take p ++ s.drop p = (u ++ x) ++ s.drop p := e1.trans hall
    exact List.append_cancel_right this
  have hgap : gapS false (s.take p ++ (g ++ s.drop p)) = gapS false (x ++ (g ++ s.drop p)) := by
    rw [htk, List.append_assoc]
    exact gapS_over false u (gapS false s) hne (by rw [← hu]) _
  rw [← hgap] at h2 h3
  rw [toks_mk hl h2]
  exact ⟨rfl, h3⟩

/-! ### two sources -/
theorem run_line (N N' : Nat) (t : List UInt8) : ∀ (n cnt : Nat) (l : List UInt8), l.length ≤ n → gapS false l = l → (runT N cnt l).2.2 = 0 → l ≠ [] →
    (runT N' cnt (l ++ 10 :: t)).1.map (·.t) = (runT N cnt l).1.map (·.t) ++ (runT N' (cnt + (runT N cnt l).1.length) (gapS false t)).1.map (·.t) ∧ (runT N' cnt (l ++ 10 :: t)).2 = (runT N' (cnt + (runT N cnt l).1.length) (gapS false t)).2
  | _, cnt, [], _, _, _, h0 => absurd rfl h0
  | n + 1, cnt, c :: r, hn, hg, h, _ => by
    obtain ⟨hc, ho⟩ := runT_stop (by simp) h
    have hlt := rest_lt ho
    have hlen := oneT_len ho
    have hz : Behind (c :: r) (oneT (c :: r)).2.1 ((c :: r).drop (oneT (c :: r)).2.1 ++ 10 :: t) := by
      cases hd : (c :: r).drop (oneT (c :: r)).2.1 with
      | nil => exact .inl (by intro c hc; simp at hc; subst hc; decide +kernel)
      | cons a b => exact .inr (by rw [hd]; rfl)
    have ha := oneT_app ho _ hz
    rw [← List.append_assoc, List.take_append_drop] at ha
    have hr : restT ((c :: r) ++ 10 :: t) = if restT (c :: r) = [] then gapS false t else restT (c :: r) ++ 10 :: t := by
      unfold restT
      rw [ha, List.drop_append_of_le_length hlen.2, gapS_line]
    rw [runT_rest N cnt _ (by simp) hc ho] at h ⊢
    simp only at h
    rw [runT_rest N' cnt ((c :: r) ++ 10 :: t) (by simp) hc (by rw [ha]; exact ho), ha, hr]
    by_cases hr0 : restT (c :: r) = []
    · rw [if_pos hr0, hr0]
      simp [runT]
    · rw [if_neg hr0]
      obtain ⟨i1, i2⟩ := run_line N N' t n (cnt + 1) (restT (c :: r)) (by simp only [List.length_cons] at hn hlt; omega) (gapS_idem _ _) h hr0
      simp only [List.map_cons, List.length_cons, List.cons_append]
      rw [i1, i2, show cnt + ((runT N (cnt + 1) (restT (c :: r))).1.length + 1) = cnt + 1 + (runT N (cnt + 1) (restT (c :: r))).1.length by omega]
      exact ⟨rfl, rfl⟩
theorem run_cnt (N N' : Nat) : ∀ (n cnt cnt' : Nat) (l : List UInt8), l.length ≤ n → cnt + l.length < 2048 → cnt' + l.length < 2048 →
    (runT N cnt l).2.2 = (runT N' cnt' l).2.2 ∧ (runT N cnt l).1.map (·.t) = (runT N' cnt' l).1.map (·.t)
  | _, cnt, cnt', [], _, _, _ => by simp [runT]
  | n + 1, cnt, cnt', c :: r, hn, h1, h2 => by
    have hc : cnt ≠ 2048 := by omega
    have hc' : cnt' ≠ 2048 := by omega
    by_cases he : (oneT (c :: r)).2.2 = 0
    · have hlt := rest_lt he
      obtain ⟨i1, i2⟩ := run_cnt N N' n (cnt + 1) (cnt' + 1) (restT (c :: r)) (by simp at hn hlt; omega) (by omega) (by omega)
      rw [runT_rest N cnt _ (by simp) hc he, runT_rest N' cnt' _ (by simp) hc' he]
      simp [i1, i2]
    · simp [runT_bad _ _ c r hc he, runT_bad _ _ c r hc' he]
/-- The place of what is wrong. -/
theorem run_place (N D : Nat) : ∀ (n cnt cnt' : Nat) (l : List UInt8), l.length ≤ n → l.length ≤ N → cnt + l.length < 2048 → cnt' + l.length < 2048 → (runT N cnt l).2.2 ≠ 0 → (runT (N + D) cnt' l).2.1 = (runT N cnt l).2.1 + D
  | _, cnt, cnt', [], _, _, _, _, h => by simp [runT] at h
  | n + 1, cnt, cnt', c :: r, hn, hN, h1, h2, h => by
    have hc : cnt ≠ 2048 := by omega
    have hc' : cnt' ≠ 2048 := by omega
    by_cases he : (oneT (c :: r)).2.2 = 0
    · have hlt := rest_lt he
      rw [runT_rest N cnt _ (by simp) hc he] at h ⊢
      rw [runT_rest (N + D) cnt' _ (by simp) hc' he]
      simp only at h
      exact run_place N D n (cnt + 1) (cnt' + 1) (restT (c :: r)) (by simp at hn hlt; omega) (by omega) (by omega) (by omega) h
    · rw [runT_bad _ _ c r hc he, runT_bad _ _ c r hc' he]
      simp at hN ⊢
      omega
theorem run_length (N : Nat) : ∀ (n cnt : Nat) (l : List UInt8), l.length ≤ n → (runT N cnt l).1.length ≤ l.length
  | _, cnt, [], _ => by simp [runT]
  | n + 1, cnt, c :: r, hn => by
    by_cases hc : cnt = 2048
    · subst hc; simp [runT_many]
    · by_cases he : (oneT (c :: r)).2.2 = 0
      · have hlt := rest_lt he
        have := run_length N n (cnt + 1) (restT (c :: r)) (by simp at hn hlt; omega)
        rw [runT_rest N cnt _ (by simp) hc he]
        simp at hlt ⊢; omega
      · simp [runT_bad _ _ c r hc he]
/-- P3.1, joins. -/
theorem toks_join {s t : List UInt8} (h : (toksT s).2.2 = 0) (h1 : s.length ≤ 2000) (h2 : t.length ≤ 2000) (h3 : (toksT s).1.length + t.length ≤ 1000) :
    ((toksT t).2.2 ≠ 0 → toksT (s ++ 10 :: t) = ([], (toksT t).2.1 + s.length + 1, (toksT t).2.2)) ∧
    ((toksT t).2.2 = 0 → (toksT (s ++ 10 :: t)).2.2 = 0 ∧ (toksT (s ++ 10 :: t)).1.map (·.t) = (toksT s).1.map (·.t) ++ (toksT t).1.map (·.t)) := by
  obtain ⟨_, h0, e1, _⟩ := toks_ok h
  rw [e1] at h3 ⊢
  have hNl : (s ++ 10 :: t).length = t.length + (s.length + 1) := by simp; omega
  have hgt := gapS_le false t
  have key : (runT (t.length + (s.length + 1)) 0 (gapS false (s ++ 10 :: t))).1.map (·.t) = (runT s.length 0 (gapS false s)).1.map (·.t) ++ (runT (t.length + (s.length + 1)) (0 + (runT s.length 0 (gapS false s)).1.length) (gapS false t)).1.map (·.t) ∧
      (runT (t.length + (s.length + 1)) 0 (gapS false (s ++ 10 :: t))).2 = (runT (t.length + (s.length + 1)) (0 + (runT s.length 0 (gapS false s)).1.length) (gapS false t)).2 := by
    rw [gapS_line]
    by_cases hs : gapS false s = []
    · rw [if_pos hs, hs]; simp [runT]
    · rw [if_neg hs]
      exact run_line s.length _ t _ 0 (gapS false s) (Nat.le_refl _) (gapS_idem _ _) h0 hs
  obtain ⟨k1, k2⟩ := key
  obtain ⟨c1, c2⟩ := run_cnt (t.length + (s.length + 1)) t.length _ (0 + (runT s.length 0 (gapS false s)).1.length) 0 (gapS false t) (Nat.le_refl _) (by omega) (by omega)
  have ht : toksT t = if (runT t.length 0 (gapS false t)).2.2 = 0 then ((runT t.length 0 (gapS false t)).1, 0, 0) else ([], (runT t.length 0 (gapS false t)).2) := by
    unfold toksT; rw [if_neg (by omega)]
  have hst : toksT (s ++ 10 :: t) = if (runT (t.length + (s.length + 1)) 0 (gapS false (s ++ 10 :: t))).2.2 = 0 then ((runT (t.length + (s.length + 1)) 0 (gapS false (s ++ 10 :: t))).1, 0, 0) else ([], (runT (t.length + (s.length + 1)) 0 (gapS false (s ++ 10 :: t))).2) := by
    unfold toksT; rw [hNl, if_neg (by omega)]
  rw [ht, hst, k2, c1]
  constructor
  · intro hne
    by_cases hz : (runT t.length 0 (gapS false t)).2.2 = 0
    · rw [if_pos hz] at hne; simp at hne
    · rw [if_neg hz, if_neg hz]
      have hp := run_place t.length (s.length + 1) _ 0 (0 + (runT s.length 0 (gapS false s)).1.length) (gapS false t) (Nat.le_refl _) hgt (by omega) (by omega) hz
      exact Prod.ext rfl (Prod.ext (by rw [hp]; simp only; omega) c1)
  · intro hz
    by_cases h0 : (runT t.length 0 (gapS false t)).2.2 = 0
    · rw [if_pos h0, if_pos h0]
      refine ⟨rfl, ?_⟩
      simp only
      rw [k1, c2]
    · rw [if_neg h0] at hz; exact absurd hz h0
end Go.Proofs.YthfjlcflpneffaaGreatDoor
