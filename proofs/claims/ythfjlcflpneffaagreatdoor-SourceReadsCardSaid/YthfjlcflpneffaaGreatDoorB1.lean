/-
The texts of data, token by token, pure: what tokens a datum's text has, and that it begins with them. No condition.
-/
import Derived.Test.YthfjlcflpneffaaGreatDoorWY
import Derived.Test.YthfjlcflpneffaaGreatDoorWA
namespace Go.Proofs.YthfjlcflpneffaaGreatDoor
open Go.ChangeShapes Go.WideShapes Go.ChangeAt Go.RowKit
open Dat (PT makeT textT textsT FormOk FormsOk joinT tailJ formB shapeT nestB)

/-- The bytes begin with these tokens, behind which that is left. -/
inductive Scans : List UInt8 → List Tk → List UInt8 → Prop
  | nil (l : List UInt8) : Scans l [] l
  | cons {l : List UInt8} {t : Tk} {n : Nat} {ts : List Tk} {r : List UInt8} : oneT l = (t, n, 0) → Scans (gapS false (l.drop n)) ts r → Scans l (t :: ts) r
theorem Scans.trans {l m r : List UInt8} {ts us : List Tk} (h : Scans l ts m) (k : Scans m us r) : Scans l (ts ++ us) r := by
  induction h with
  | nil => exact k
  | cons h _ ih => exact .cons h (ih k)
theorem one_ne {l : List UInt8} {t : Tk} {n : Nat} (h : oneT l = (t, n, 0)) : l ≠ [] := by rintro rfl; simp [oneT] at h
theorem Scans.run {N : Nat} {l r : List UInt8} {ts : List Tk} (h : Scans l ts r) : ∀ cnt, cnt + ts.length ≤ 2048 → ∃ ps : List TkP, ps.map (·.t) = ts ∧ runT N cnt l = (ps ++ (runT N (cnt + ts.length) r).1, (runT N (cnt + ts.length) r).2) := by
  induction h with
  | nil l => intro cnt _; exact ⟨[], rfl, by simp⟩
  | @cons l t n ts r h1 _ ih =>
    intro cnt hc
    simp only [List.length_cons] at hc
    obtain ⟨ps, e1, e2⟩ := ih (cnt + 1) (by omega)
    have hr : restT l = gapS false (l.drop n) := by unfold restT; rw [h1]
    refine ⟨⟨t, N - l.length, N - l.length + n⟩ :: ps, by simp [e1], ?_⟩
    rw [runT_rest N cnt l (one_ne h1) (by omega) (by rw [h1]), hr, e2, h1, List.length_cons, show cnt + 1 + ts.length = cnt + (ts.length + 1) by omega]
    rfl
theorem Scans.many {N : Nat} {l r : List UInt8} {ts : List Tk} (h : Scans l ts r) : ∀ cnt, cnt ≤ 2048 → 2048 < cnt + ts.length → (runT N cnt l).2.2 = 34 := by
  induction h with
  | nil l => intro cnt _ h; simp at h; omega
  | @cons l t n ts r h1 _ ih =>
    intro cnt hc hm
    simp only [List.length_cons] at hm
    by_cases h8 : cnt = 2048
    · subst h8
      match l, one_ne h1 with
      | c :: r, _ => rw [runT_many]
    · have hr : restT l = gapS false (l.drop n) := by unfold restT; rw [h1]
      rw [runT_rest N cnt l (one_ne h1) h8 (by rw [h1]), hr]
      exact ih (cnt + 1) (by omega) (by omega)
theorem Scans.len {l r : List UInt8} {ts : List Tk} (h : Scans l ts r) : ts.length + r.length ≤ l.length := by
  induction h with
  | nil l => simp
  | @cons l t n ts r h1 _ ih =>
    have h2 := oneT_len (l := l) (by rw [h1])
    have h3 := gapS_le false (l.drop n)
    rw [h1] at h2
    simp only [List.length_drop, List.length_cons] at *
    omega
/-- What begins with a token begins with nothing that is gone over. -/
theorem one_nogap {c : UInt8} {r : List UInt8} (h : (oneT (c :: r)).2.2 = 0) : gapS false (c :: r) = c :: r := by
  refine gap_shut c r ?_ ?_
  · rintro rfl
    rw [one_word _ (by decide) (by decide) (by decide) (by decide) (by decide), if_pos (by simp [wordL, show nby8 59 = false by decide])] at h
    simp at h
  · cases hg : gapB c with
    | false => rfl
    | true =>
      exfalso
      simp only [gapB, Bool.or_eq_true, beq_iff_eq] at hg
      rcases hg with ((rfl | rfl) | rfl) | rfl <;>
        (rw [one_word _ (by decide) (by decide) (by decide) (by decide) (by decide), if_pos (by simp [wordL, show nby8 9 = false by decide, show nby8 10 = false by decide, show nby8 13 = false by decide, show nby8 32 = false by decide])] at h; simp at h)
theorem Scans.nogap {l r : List UInt8} {ts : List Tk} (h : Scans l ts r) (hn : ts ≠ []) : gapS false l = l := by
  cases h with
  | nil => exact absurd rfl hn
  | cons h1 _ =>
    match l, one_ne h1 with
    | c :: r, _ => exact one_nogap (by rw [h1])

/-! ### the tokens of a datum's text -/
def tkS (k i : Int) (s : List UInt8) (us : List (List Tk)) : List Tk :=
  if k = 5 then ⟨0, [], 0⟩ :: (us.flatten ++ [⟨1, [], 0⟩])
  else if k = 6 then ⟨0, [], 0⟩ :: (us.dropLast.flatten ++ (⟨4, [], 0⟩ :: (us.getLast?.getD [] ++ [⟨1, [], 0⟩])))
  else if k = 7 then ⟨2, [], 0⟩ :: (us.flatten ++ [⟨1, [], 0⟩])
  else [⟨k + 5, s, i⟩]
mutual
def tkD : PT → List Tk
  | .mk k i s l => tkS k i s.data.toList (tksT l)
def tksT : List PT → List (List Tk)
  | [] => []
  | t :: l => tkD t :: tksT l
end
theorem tksT_app : ∀ l m : List PT, tksT (l ++ m) = tksT l ++ tksT m
  | [], _ => by simp [tksT]
  | t :: l, m => by rw [List.cons_append, tksT, tksT, tksT_app l m, List.cons_append]
theorem textsT_app (b : Bool) : ∀ l m : List PT, textsT b (l ++ m) = textsT b l ++ textsT b m
  | [], _ => by simp [textsT]
  | t :: l, m => by rw [List.cons_append, textsT, textsT, textsT_app b l m, List.cons_append]
theorem formsOk_app : ∀ l m : List PT, FormsOk (l ++ m) ↔ FormsOk l ∧ FormsOk m
  | [], _ => by simp [FormsOk]
  | t :: l, m => by rw [List.cons_append, FormsOk, FormsOk, formsOk_app l m, and_assoc]
theorem tkD_ne : ∀ t : PT, tkD t ≠ []
  | .mk k i s l => by rw [tkD, tkS]; split; · simp
                      split; · simp
                      split <;> simp
theorem form_kind {k i : Int} {s : List UInt8} {l : List PT} (h : formB k i s l = true) : 0 ≤ k ∧ k ≤ 7 := by
  unfold formB at h
  repeat' split at h
  all_goals first | (cases h; done) | omega
/-- The first token is no closing bracket, and no dot. -/
theorem tk_head {t : PT} (h : FormOk t) : ∃ x q, tkD t = x :: q ∧ x.kind ≠ 1 ∧ x.kind ≠ 4 := by
  obtain ⟨k, i, s, l⟩ := t
  rw [FormOk] at h
  have hk := form_kind h.1
  rw [tkD, tkS]
  split
  · exact ⟨_, _, rfl, by simp, by simp⟩
  split
  · exact ⟨_, _, rfl, by simp, by simp⟩
  split
  · exact ⟨_, _, rfl, by simp, by simp⟩
  · exact ⟨_, _, rfl, by simp only []; omega, by simp only []; omega⟩

/-- A datum's text ahead of anything that stops it is so many tokens. -/
def ScanOk (t : PT) : Prop := ∀ r, Stops r → Scans (textT false t ++ r) (tkD t) (gapS false r)
theorem leaf_one {k i : Int} {s : ByteArray} {l : List PT} (hn : nestB k = false) (h : formB k i s.data.toList l = true) :
    oneT (textT false (.mk k i s l)) = (⟨k + 5, s.data.toList, i⟩, (textT false (.mk k i s l)).length, 0) := by
  simp only [nestB, Bool.or_eq_false_iff, decide_eq_false_iff_not] at hn
  obtain ⟨⟨h5, h6⟩, h7⟩ := hn
  have hk := form_kind h
  have hsh : textT false (.mk k i s l) = shapeT false k i s.data.toList (textsT false l) := by rw [textT]
  rw [hsh]
  generalize s.data.toList = x at *
  generalize textsT false l = ts at *
  have hk' : k = 0 ∨ k = 1 ∨ k = 2 ∨ k = 3 ∨ k = 4 := by omega
  rcases hk' with rfl | rfl | rfl | rfl | rfl
  · simp [formB] at h
    obtain ⟨⟨⟨a, b⟩, c⟩, d⟩ := h
    subst c
    have : i = 0 ∨ i = 1 := by omega
    rcases this with rfl | rfl
    · exact one_false
    · exact one_true
  · simp [formB] at h
    obtain ⟨⟨⟨a, b⟩, c⟩, d⟩ := h
    subst c
    exact one_int i ⟨a, b⟩
  · simp [formB] at h
    obtain ⟨⟨⟨a, b⟩, c⟩, d⟩ := h
    subst c
    have e := one_char (UInt8.ofNat i.toNat)
    have e2 : ((UInt8.ofNat i.toNat).toNat : Int) = i := by
      rw [UInt8.toNat_ofNat']; omega
    rw [e2] at e
    exact e
  · simp [formB] at h
    obtain ⟨⟨a, b⟩, d⟩ := h
    subst a
    exact one_quote x
  · simp [formB] at h
    obtain ⟨⟨a, b⟩, d⟩ := h
    subst a
    exact one_name x b
theorem scan_leaf {k i : Int} {s : ByteArray} {l : List PT} (hn : nestB k = false) (h : formB k i s.data.toList l = true) : ScanOk (.mk k i s l) := by
  intro r hr
  have h1 := leaf_one hn h
  generalize textT false (.mk k i s l) = x at h1
  have h2 := oneT_app (l := x) (by rw [h1]) r (.inl hr)
  rw [h1] at h2
  simp only [List.take_length] at h2
  have ht : tkD (.mk k i s l) = [⟨k + 5, s.data.toList, i⟩] := by
    simp only [nestB, Bool.or_eq_false_iff, decide_eq_false_iff_not] at hn
    rw [tkD, tkS, if_neg hn.1.1, if_neg hn.1.2, if_neg hn.2]
  rw [ht]
  refine .cons h2 ?_
  rw [List.drop_left]
  exact .nil _

theorem stops_cons {c : UInt8} {r : List UInt8} (h : nby8 c = false) : Stops (c :: r) := by intro d hd; simp at hd; subst hd; exact h
theorem stops_tail (b : Bool) (l : List PT) {r : List UInt8} (h : Stops r) : Stops (tailJ (textsT b l) ++ r) := by
  match l with
  | [] => simpa [textsT, tailJ] using h
  | t :: l => rw [textsT, tailJ, List.flatMap_cons]; exact stops_cons (by decide)
theorem gap_blank (r : List UInt8) : gapS false (32 :: r) = gapS false r := by rw [gapS, if_neg (by decide), if_pos (by decide)]
theorem ScanOk.nogap {t : PT} (h : ScanOk t) {r : List UInt8} (hr : Stops r) : gapS false (textT false t ++ r) = textT false t ++ r := (h r hr).nogap (tkD_ne t)
theorem tail_scan : ∀ (l : List PT), (∀ t ∈ l, ScanOk t) → ∀ r, Stops r → Scans (gapS false (tailJ (textsT false l) ++ r)) (tksT l).flatten (gapS false r)
  | [], _, r, _ => by simp only [textsT, tailJ, tksT, List.flatMap_nil, List.nil_append, List.flatten_nil]; exact .nil _
  | t :: l, h, r, hr => by
    have ht := h t (List.mem_cons_self ..)
    have hs := stops_tail false l hr
    have e : tailJ (textsT false (t :: l)) ++ r = 32 :: (textT false t ++ (tailJ (textsT false l) ++ r)) := by simp [textsT, tailJ]
    rw [e, gap_blank, ht.nogap hs, tksT, List.flatten_cons]
    exact (ht _ hs).trans (tail_scan l (fun u hu => h u (List.mem_cons_of_mem _ hu)) r hr)
theorem row_scan (l : List PT) (h : ∀ t ∈ l, ScanOk t) (r : List UInt8) (hr : Stops r) : Scans (gapS false (joinT (textsT false l) ++ r)) (tksT l).flatten (gapS false r) := by
  match l with
  | [] => simp only [textsT, joinT, tksT, List.nil_append, List.flatten_nil]; exact .nil _
  | t :: l =>
    have ht := h t (List.mem_cons_self ..)
    have hs := stops_tail false l hr
    have e : joinT (textsT false (t :: l)) ++ r = textT false t ++ (tailJ (textsT false l) ++ r) := by simp [textsT, joinT]
    rw [e, ht.nogap hs, tksT, List.flatten_cons]
    exact (ht _ hs).trans (tail_scan l (fun u hu => h u (List.mem_cons_of_mem _ hu)) r hr)
theorem one_40 (r : List UInt8) : oneT (40 :: r) = (⟨0, [], 0⟩, 1, 0) := by simp [oneT]
theorem one_41 (r : List UInt8) : oneT (41 :: r) = (⟨1, [], 0⟩, 1, 0) := by simp [oneT]
theorem one_39 (r : List UInt8) : oneT (39 :: r) = (⟨3, [], 0⟩, 1, 0) := by simp [oneT]
theorem one_vec (r : List UInt8) : oneT (35 :: 40 :: r) = (⟨2, [], 0⟩, 2, 0) := by rw [one_hash, hashT]
theorem one_dot (r : List UInt8) (hr : Stops r) : oneT (46 :: r) = (⟨4, [], 0⟩, 1, 0) := by
  have h0 : nby8 46 = true := by decide
  have hw : wordL (46 :: r) = [46] := by
    have := wordL_app (w := [46]) (r := r) (by simp [bytesB, h0]) hr
    simpa using this
  rw [one_word _ (by decide) (by decide) (by decide) (by decide) (by decide), hw, if_neg (by simp), wordT, if_pos rfl]
  rfl
/-- A row that a bracket closes. -/
theorem close_scan {l : List PT} (h : ∀ t ∈ l, ScanOk t) (r : List UInt8) : Scans (gapS false (joinT (textsT false l) ++ 41 :: r)) ((tksT l).flatten ++ [⟨1, [], 0⟩]) (gapS false r) := by
  have h1 := row_scan l h (41 :: r) (stops_cons (by decide))
  rw [one_nogap (by rw [one_41])] at h1
  exact h1.trans (.cons (one_41 r) (.nil _))
theorem scan_items {k i : Int} {s : ByteArray} {l : List PT} (hk : k = 5 ∨ k = 7) (h : ∀ t ∈ l, ScanOk t) : ScanOk (.mk k i s l) := by
  intro r hr
  have h1 := close_scan h r
  rw [textT, tkD, shapeT, tkS]
  rcases hk with rfl | rfl
  · rw [if_neg (by decide), if_neg (by decide), if_neg (by decide), if_neg (by decide), if_neg (by decide), if_pos rfl, if_pos rfl]
    refine .cons (n := 1) (by simp only [List.cons_append, List.nil_append]; exact one_40 _) ?_
    simpa using h1
  · rw [if_neg (by decide), if_neg (by decide), if_neg (by decide), if_neg (by decide), if_neg (by decide), if_neg (by decide), if_neg (by decide), if_pos rfl, if_neg (by decide), if_neg (by decide), if_pos rfl]
    refine .cons (n := 2) (by simp only [List.cons_append, List.nil_append]; exact one_vec _) ?_
    simpa using h1
theorem scan_dotted {i : Int} {s : ByteArray} {l : List PT} {t : PT} (h : ∀ u ∈ l, ScanOk u) (ht : ScanOk t) : ScanOk (.mk 6 i s (l ++ [t])) := by
  intro r hr
  have e1 : textT false (.mk 6 i s (l ++ [t])) = 40 :: (joinT (textsT false l) ++ (32 :: 46 :: 32 :: (textT false t ++ [41]))) := by
    rw [textT, shapeT, if_neg (by decide), if_neg (by decide), if_neg (by decide), if_neg (by decide), if_neg (by decide), if_neg (by decide), if_pos rfl, textsT_app]
    simp [textsT]
  have e2 : tkD (.mk 6 i s (l ++ [t])) = ⟨0, [], 0⟩ :: ((tksT l).flatten ++ (⟨4, [], 0⟩ :: (tkD t ++ [⟨1, [], 0⟩]))) := by
    rw [tkD, tkS, if_neg (by decide), if_pos rfl, tksT_app]
    simp [tksT]
  rw [e1, e2]
  have s41 : Stops (41 :: r) := stops_cons (by decide)
  have s32 : Stops (32 :: (textT false t ++ 41 :: r)) := stops_cons (by decide)
  have k1 := row_scan l h (32 :: 46 :: 32 :: (textT false t ++ 41 :: r)) (stops_cons (by decide))
  rw [gap_blank, one_nogap (by rw [one_dot _ s32])] at k1
  have k2 := ht (41 :: r) s41
  rw [one_nogap (by rw [one_41])] at k2
  refine .cons (n := 1) (by simp only [List.cons_append]; exact one_40 _) ?_
  have e3 : ((40 :: (joinT (textsT false l) ++ (32 :: 46 :: 32 :: (textT false t ++ [41]))) ++ r).drop 1) = joinT (textsT false l) ++ (32 :: 46 :: 32 :: (textT false t ++ 41 :: r)) := by simp
  rw [e3]
  refine k1.trans (.cons (one_dot _ s32) ?_)
  rw [List.drop_succ_cons, List.drop_zero, gap_blank, ht.nogap s41]
  exact k2.trans (.cons (one_41 r) (.nil _))
theorem scan_step {k i : Int} {s : ByteArray} {l : List PT} (ih : ∀ t ∈ l, ScanOk t) (h : formB k i s.data.toList l = true) : ScanOk (.mk k i s l) := by
  cases hn : nestB k with
  | false => exact scan_leaf hn h
  | true =>
    simp only [nestB, Bool.or_eq_true, decide_eq_true_eq] at hn
    by_cases h6 : k = 6
    · subst h6
      simp [formB] at h
      have hl : l ≠ [] := by rintro rfl; simp at h
      have e := (List.dropLast_concat_getLast hl).symm
      rw [e]
      rw [e] at ih
      exact scan_dotted (fun u hu => ih u (List.mem_append_left _ hu)) (ih _ (by simp))
    · exact scan_items (by omega) ih
mutual
theorem scan_any : ∀ t : PT, FormOk t → ScanOk t
  | .mk k i s l, h => by rw [FormOk] at h; exact scan_step (scan_all l h.2) h.1
theorem scan_all : ∀ l : List PT, FormsOk l → ∀ t ∈ l, ScanOk t
  | [], _, t, h => by cases h
  | u :: l, hf, t, h => by
    rw [FormsOk] at hf
    exact (List.mem_cons.1 h).elim (fun e => e ▸ scan_any u hf.1) (fun h => scan_all l hf.2 t h)
end
end Go.Proofs.YthfjlcflpneffaaGreatDoor
