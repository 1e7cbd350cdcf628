/-
What a teller of package data writes of a string, of a list, of a datum. A text of at most 2^47 bytes.
-/
import Derived.Test.YtiamojpeedllbaaGreatDoorD14
namespace Go.Proofs.YtiamojpeedllbaaGreatDoor.Dat
open Go.ChangeShapes Go.WideShapes Go.ChangeAt Go.RowKit
set_option maxRecDepth 100000

def qbytesT (s : List UInt8) : List UInt8 := s.flatMap qbyteT
/-- A string's text. -/
def quoteT (s : List UInt8) : List UInt8 := [34] ++ (qbytesT s ++ [34])
def quoteS (bare : Bool) (s : List UInt8) : List UInt8 := if bare then s else quoteT s

theorem hexT_len (c : UInt8) : (hexT c).length = 3 := rfl
theorem qbyteT_len (c : UInt8) : (qbyteT c).length ≤ 4 := by
  unfold qbyteT
  split
  · simp
  split
  · simp
  split
  · simp
  · simp [hexT_len]
theorem qbytesT_len (s : List UInt8) : (qbytesT s).length ≤ 4 * s.length := by
  induction s with
  | nil => simp [qbytesT]
  | cons c s ih =>
    simp only [qbytesT, List.flatMap_cons, List.length_append, List.length_cons] at ih ⊢
    have := qbyteT_len c
    omega
theorem qbytesT_take (s : List UInt8) (k : Nat) (h : k < s.length) : qbytesT (s.take (k + 1)) = qbytesT (s.take k) ++ qbyteT s[k] := by
  rw [qbytesT, List.take_succ_eq_append_getElem h, List.flatMap_append]; simp [qbytesT]

theorem quoted_any (tb : Nat) (bare : Bool) (l : List UInt8) (s : ByteArray) (w : World) (h : IsTeller tb bare l w) (hs : s.size ≤ maxLen) (hlen : l.length + 4 * s.size + 2 ≤ 140737488355328) :
    Calls Tryz.prog 71 #[.pointer (some ⟨tb, 0, none⟩), .string s] w (Wrote tb bare (l ++ quoteS bare s.data.toList) w) := by
  have hc2 := h.cells.1
  unfold maxLen at hs
  cases bare
  · have HL := Lib.hid (len_data s)
    go_enter Tryz.func71, Tryz.ntmps71
    go_wp2_with fail
    refine (putByte tb false l _ 34 rfl _ h (by omega)).mono ?_
    rintro e w1 ⟨rfl, h1, hb1⟩
    clear h hc2
    go_wp2
    go_loopw [20] (fun i wr => ∃ k : Nat, k ≤ s.size ∧ i = .int .i64 k ∧ IsTeller tb false (l ++ [34] ++ qbytesT (s.data.toList.take k)) wr ∧ Below tb w wr) (fun i _ => s.size - (intOf i).toNat)
    case atStart => exact ⟨0, Nat.zero_le _, rfl, by simpa [qbytesT] using h1, hb1⟩
    case round =>
      obtain ⟨k, hk, rfl, hT, hbr⟩ := hrel
      have hle : (qbytesT (s.data.toList.take k)).length ≤ 4 * k := by
        have := qbytesT_len (s.data.toList.take k)
        rw [List.length_take] at this
        omega
      by_cases hlt : k < s.size
      · have HT := Lib.hid (qbytesT_take s.data.toList k (by rw [HL.out]; exact hlt))
        go_wp2_with fail
        refine (qbyte_any tb false _ _ _ hT (by simp; omega)).mono ?_
        rintro e w2 ⟨rfl, h2, hb2⟩
        go_wp2
        go_roundw
        case rel => exact ⟨k + 1, by omega, by go_num, by rw [HT.out, ← List.append_assoc]; exact h2, hbr.trans hb2⟩
        case measure => simp [intOf]; omega
      · obtain rfl : k = s.size := by omega
        rw [List.take_of_length_le (by rw [HL.out]; omega)] at hT hle
        go_wp2_with fail
        refine (putByte tb false _ _ 34 rfl _ hT (by simp; omega)).mono ?_
        rintro e w2 ⟨rfl, h2, hb2⟩
        go_wp2
        go_end0
        refine ⟨rfl, ?_, hbr.trans hb2⟩
        rw [List.append_assoc, List.append_assoc] at h2
        exact h2
  · go_enter Tryz.func71, Tryz.ntmps71
    go_wp2_with fail
    refine (putText tb true _ _ s.data.toList rfl _ h (by rw [len_data]; omega)).mono ?_
    rintro e w2 ⟨rfl, h2, hb2⟩
    go_wp2
    refine bodyPost_ret (results_none rfl _ _ _) rfl ?_
    exact ⟨rfl, h2, hb2⟩

/-! ### texts of data -/
def tailJ (ts : List (List UInt8)) : List UInt8 := ts.flatMap fun u => 32 :: u
/-- Texts with a blank between each two. -/
def joinT : List (List UInt8) → List UInt8
  | [] => []
  | t :: ts => t ++ tailJ ts
theorem joinT_snoc (ts : List (List UInt8)) (u : List UInt8) (h : ts ≠ []) : joinT (ts ++ [u]) = joinT ts ++ 32 :: u := by
  match ts with
  | [] => exact absurd rfl h
  | t :: ts => simp [joinT, tailJ]
theorem joinT_take0 (ts : List (List UInt8)) (h : 0 < ts.length) : joinT (ts.take 1) = ts[0] := by
  match ts, h with
  | t :: ts, _ => simp [joinT, tailJ]
theorem joinT_take (ts : List (List UInt8)) (j : Nat) (hj : 0 < j) (h : j < ts.length) : joinT (ts.take (j + 1)) = joinT (ts.take j) ++ ([32] ++ ts[j]) := by
  rw [List.take_succ_eq_append_getElem h, joinT_snoc]
  · rfl
  · intro e
    have := congrArg List.length e
    simp only [List.length_take, List.length_nil] at this
    omega

/-- A datum's text, out of its items' texts. -/
def shapeT (bare : Bool) (k i : Int) (s : List UInt8) (ts : List (List UInt8)) : List UInt8 :=
  if k = 0 then (if i = 0 then [35, 102] else [35, 116])
  else if k = 1 then Lib.itoa i
  else if k = 2 then charS bare (UInt8.ofNat i.toNat)
  else if k = 3 then quoteS bare s
  else if k = 4 then s
  else if k = 5 then [40] ++ (joinT ts ++ [41])
  else if k = 6 then [40] ++ (joinT ts.dropLast ++ ([32, 46, 32] ++ (ts.getLast?.getD [] ++ [41])))
  else if k = 7 then [35] ++ ([40] ++ (joinT ts ++ [41]))
  else []

mutual
def textT (bare : Bool) : PT → List UInt8
  | .mk k i s l => shapeT bare k i s.data.toList (textsT bare l)
def textsT (bare : Bool) : List PT → List (List UInt8)
  | [] => []
  | t :: l => textT bare t :: textsT bare l
end

mutual
/-- A bound on a text's length. -/
def roomT : PT → Nat
  | .mk _ _ s l => 32 + 4 * s.size + roomsT l
def roomsT : List PT → Nat
  | [] => 0
  | t :: l => 1 + roomT t + roomsT l
end

mutual
/-- All the data's own fields may be. -/
def FormOk : PT → Prop
  | .mk k i s l => formB k i s.data.toList l = true ∧ FormsOk l
def FormsOk : List PT → Prop
  | [] => True
  | t :: l => FormOk t ∧ FormsOk l
end

theorem textsT_len (bare : Bool) : ∀ l : List PT, (textsT bare l).length = l.length
  | [] => rfl
  | t :: l => by rw [textsT, List.length_cons, textsT_len bare l, List.length_cons]
theorem textsT_get (bare : Bool) : ∀ (l : List PT) (j : Nat) (h : j < l.length), (textsT bare l)[j]'(by rw [textsT_len]; exact h) = textT bare l[j]
  | t :: l, 0, _ => by simp [textsT]
  | t :: l, j + 1, h => by
    simp only [textsT, List.getElem_cons_succ]
    exact textsT_get bare l j (by simpa using h)
theorem formsOk_get : ∀ {l : List PT}, FormsOk l → ∀ t ∈ l, FormOk t
  | [], _, t, h => by cases h
  | u :: l, hf, t, h => by
    rw [FormsOk] at hf
    rcases List.mem_cons.1 h with rfl | h
    · exact hf.1
    · exact formsOk_get hf.2 t h
theorem roomsT_get : ∀ (l : List PT) (j : Nat) (h : j < l.length), roomsT (l.take j) + 1 + roomT l[j] ≤ roomsT l
  | t :: l, 0, _ => by simp [roomsT]
  | t :: l, j + 1, h => by
    have := roomsT_get l j (by simpa using h)
    simp only [List.take_succ_cons, roomsT, List.getElem_cons_succ]
    omega

theorem decDigits_len (u : Nat) (m : Nat) (h : u < 10 ^ (m + 1)) : (Lib.decDigits u).length ≤ m + 1 := by
  induction m generalizing u with
  | zero =>
    rw [Lib.decDigits]
    rw [dif_pos (by omega)]
    simp
  | succ m ih =>
    rw [Lib.decDigits]
    split
    · simp
    · have := ih (u / 10) (by rw [Nat.div_lt_iff_lt_mul (by omega)]; rw [Nat.pow_succ] at h; omega)
      simp
      omega
theorem itoa_len (n : Int) (h : ok64 n) : (Lib.itoa n).length ≤ 21 := by
  unfold ok64 at h
  unfold Lib.itoa
  split
  · have := decDigits_len n.natAbs 19 (by omega)
    simp
    omega
  · have := decDigits_len n.toNat 19 (by omega)
    omega

theorem tailJ_len (ts : List (List UInt8)) (n : Nat) (h : (ts.map fun u => u.length + 1).sum ≤ n) : (tailJ ts).length ≤ n := by
  induction ts generalizing n with
  | nil => simp [tailJ]
  | cons u ts ih =>
    simp only [List.map_cons, List.sum_cons] at h
    have := ih ((ts.map fun u => u.length + 1).sum) (Nat.le_refl _)
    simp only [tailJ, List.flatMap_cons, List.length_append, List.length_cons] at this ⊢
    omega
theorem joinT_len (ts : List (List UInt8)) : (joinT ts).length ≤ (ts.map fun u => u.length + 1).sum := by
  match ts with
  | [] => simp [joinT]
  | t :: ts =>
    have := tailJ_len ts _ (Nat.le_refl _)
    simp only [joinT, List.length_append, List.map_cons, List.sum_cons]
    omega
theorem charS_len (bare : Bool) (c : UInt8) : (charS bare c).length ≤ 9 := by
  unfold charS charT spaceT newlineT
  cases bare
  · simp only [Bool.false_eq_true, if_false]
    split
    · simp
    split
    · simp
    split
    · simp
    · simp [hexT_len]
  · simp
theorem quoteS_len (bare : Bool) (s : List UInt8) : (quoteS bare s).length ≤ 4 * s.length + 2 := by
  have := qbytesT_len s
  unfold quoteS quoteT
  split
  · omega
  · simp; omega
theorem sum_dropLast (ts : List (List UInt8)) : (ts.dropLast.map fun u => u.length + 1).sum + (ts.getLast?.getD []).length ≤ (ts.map fun u => u.length + 1).sum := by
  rcases List.eq_nil_or_concat ts with rfl | ⟨l, u, rfl⟩
  · simp
  · simp

theorem shapeT_len (bare : Bool) (k i : Int) (s : List UInt8) (ts : List (List UInt8)) (hi : k = 1 → ok64 i) : (shapeT bare k i s ts).length ≤ 32 + 4 * s.length + (ts.map fun u => u.length + 1).sum := by
  have a := fun hk => itoa_len i (hi hk)
  have b := charS_len bare (UInt8.ofNat i.toNat)
  have c := quoteS_len bare s
  have d := joinT_len ts
  have e := joinT_len ts.dropLast
  have f := sum_dropLast ts
  clear hi
  generalize (ts.map fun u => u.length + 1).sum = n at *
  generalize (ts.dropLast.map fun u => u.length + 1).sum = m at *
  unfold shapeT
  split
  · clear a b c d e f; split <;> simp <;> omega
  split
  · have := a ‹_›; omega
  split
  · omega
  split
  · omega
  split
  · omega
  split
  · simp only [List.length_append, List.length_cons, List.length_nil]; omega
  split
  · simp only [List.length_append, List.length_cons, List.length_nil]; omega
  split
  · simp only [List.length_append, List.length_cons, List.length_nil]; omega
  · simp

theorem form_int {k i : Int} {s : List UInt8} {l : List PT} (h : formB k i s l = true) (hk : k = 1) : ok64 i := by
  subst hk
  unfold formB at h
  simp at h
  unfold ok64
  omega

mutual
theorem textT_len (bare : Bool) : ∀ t : PT, FormOk t → (textT bare t).length ≤ roomT t
  | .mk k i s l, h => by
    rw [FormOk] at h
    have h1 := textsT_sum bare l h.2
    have h2 := shapeT_len bare k i s.data.toList (textsT bare l) (form_int h.1)
    rw [len_data] at h2
    rw [textT, roomT]
    omega
theorem textsT_sum (bare : Bool) : ∀ l : List PT, FormsOk l → ((textsT bare l).map fun u => u.length + 1).sum ≤ roomsT l
  | [], _ => by simp [textsT]
  | t :: l, h => by
    rw [FormsOk] at h
    have h1 := textT_len bare t h.1
    have h2 := textsT_sum bare l h.2
    simp only [textsT, List.map_cons, List.sum_cons, roomsT]
    omega
end
theorem formsOk_take : ∀ (l : List PT) (j : Nat), FormsOk l → FormsOk (l.take j)
  | [], j, _ => by simp [FormsOk]
  | t :: l, 0, _ => by simp [FormsOk]
  | t :: l, j + 1, h => by
    rw [FormsOk] at h
    rw [List.take_succ_cons, FormsOk]
    exact ⟨h.1, formsOk_take l j h.2⟩
theorem textsT_take (bare : Bool) : ∀ (l : List PT) (j : Nat), (textsT bare l).take j = textsT bare (l.take j)
  | [], j => by simp [textsT]
  | t :: l, 0 => by simp [textsT]
  | t :: l, j + 1 => by simp [textsT, textsT_take bare l j]
theorem row_room (bare : Bool) (l : List PT) (j : Nat) (h : FormsOk l) : (joinT ((textsT bare l).take j)).length ≤ roomsT (l.take j) := by
  rw [textsT_take]
  exact Nat.le_trans (joinT_len _) (textsT_sum bare _ (formsOk_take l j h))
end Go.Proofs.YtiamojpeedllbaaGreatDoor.Dat
