/-
One text, one datum: the theorem.
-/
import Derived.Test.YtphgcdmjnmopiaaDoorH1
import Derived.Test.YtphgcdmjnmopiaaDoorE1
namespace Go.Proofs.YtphgcdmjnmopiaaDoor

theorem range_all {P : Nat → Bool} (h : (List.range 256).all P = true) (c : UInt8) : P c.toNat = true := by
  rw [List.all_eq_true] at h
  exact h _ (List.mem_range.2 c.toNat_lt)
theorem qb_pre {c d : UInt8} (h : qbyteT c <+: qbyteT d) : c = d := by
  have := range_all (range_all qb_table c) d
  simp only [UInt8.ofNat_toNat, Bool.or_eq_true, Bool.not_eq_true', beq_iff_eq] at this
  rcases this with h1 | h1
  · rw [← List.isPrefixOf_iff_prefix, h1] at h
    cases h
  · exact UInt8.toNat_inj.1 h1
theorem qb_hd (c : UInt8) : (qbyteT c).head? ≠ some 34 ∧ qbyteT c ≠ [] := of_table (P := fun c => (qbyteT c).head? ≠ some 34 ∧ qbyteT c ≠ []) qb_head c
theorem qb_no34 (c : UInt8) (x r : List UInt8) (h : 34 :: r = qbyteT c ++ x) : False := by
  obtain ⟨h1, h2⟩ := qb_hd c
  cases hq : qbyteT c with
  | nil => exact h2 hq
  | cons a b =>
    rw [hq] at h h1
    rw [List.cons_append] at h
    injection h with h3 _
    subst h3
    exact h1 rfl
theorem qb_read : ∀ {s s' r r' : List UInt8}, qbytesT s ++ 34 :: r = qbytesT s' ++ 34 :: r' → s = s' ∧ r = r'
  | [], [], r, r', h => by
    simp only [qbytesT, List.flatMap_nil, List.nil_append] at h
    injection h with _ h
    exact ⟨rfl, h⟩
  | [], c :: s, r, r', h => by
    simp only [qbytesT, List.flatMap_nil, List.flatMap_cons, List.nil_append, List.append_assoc] at h
    exact (qb_no34 _ _ _ h).elim
  | c :: s, [], r, r', h => by
    simp only [qbytesT, List.flatMap_nil, List.flatMap_cons, List.nil_append, List.append_assoc] at h
    exact (qb_no34 _ _ _ h.symm).elim
  | c :: s, d :: s', r, r', h => by
    simp only [qbytesT, List.flatMap_cons, List.append_assoc] at h
    have e : c = d := (two_prefix h).elim qb_pre fun h => (qb_pre h).symm
    subst e
    have h := List.append_cancel_left h
    have := qb_read h
    exact ⟨by rw [this.1], this.2⟩

theorem char_pre {c d : UInt8} {r r' : List UInt8} (h : charT c <+: charT d) (he : charT c ++ r = charT d ++ r') (hs : stopB r = true) : c = d := by
  have := range_all (range_all char_table c) d
  simp only [UInt8.ofNat_toNat, Bool.or_eq_true, Bool.not_eq_true', beq_iff_eq] at this
  rcases this with h1 | h1 | h1
  · rw [← List.isPrefixOf_iff_prefix, h1] at h
    cases h
  · exact UInt8.toNat_inj.1 h1
  · obtain ⟨z, hz⟩ := h
    rw [← hz, List.append_assoc] at he
    have he := List.append_cancel_left he
    rw [← hz, List.getElem?_append_right (Nat.le_refl _), Nat.sub_self] at h1
    cases z with
    | nil => simp at h1
    | cons b z =>
      simp only [List.getElem?_cons_zero] at h1
      rw [he, List.cons_append] at hs
      exact (stop_tok h1 hs).elim
theorem char_read {c d : UInt8} {r r' : List UInt8} (hs : stopB r = true) (hs' : stopB r' = true) (h : charT c ++ r = charT d ++ r') : c = d ∧ r = r' := by
  have e : c = d := (two_prefix h).elim (fun hp => char_pre hp h hs) fun hp => (char_pre hp h.symm hs').symm
  subst e
  exact ⟨rfl, List.append_cancel_left h⟩

/-! ### what a datum's text begins with -/
theorem empty_bytes {s : ByteArray} (h : s.data.toList.isEmpty = true) : s = ⟨#[]⟩ := by
  have : s.data.toList = [] := by simpa using h
  have : s.data = #[] := by simpa using this
  cases s
  simp at this
  rw [this]
theorem form_ways {k i : Int} {s : ByteArray} {l : List PT} (h : formB k i s.data.toList l = true) :
    (k = 0 ∧ (i = 0 ∨ i = 1) ∧ s = ⟨#[]⟩ ∧ l = []) ∨ (k = 1 ∧ s = ⟨#[]⟩ ∧ l = []) ∨ (k = 4 ∧ i = 0 ∧ nameB s.data.toList = true ∧ l = []) ∨ (k = 2 ∧ 0 ≤ i ∧ i ≤ 255 ∧ s = ⟨#[]⟩ ∧ l = []) ∨ (k = 3 ∧ i = 0 ∧ l = []) ∨
    (k = 5 ∧ i = 0 ∧ s = ⟨#[]⟩) ∨ (k = 6 ∧ i = 0 ∧ s = ⟨#[]⟩ ∧ 2 ≤ l.length) ∨ (k = 7 ∧ i = 0 ∧ s = ⟨#[]⟩) := by
  rcases kind_ways k with (rfl | rfl | rfl) | rfl | rfl | (rfl | rfl) | rfl | hk
  · simp only [formB, if_true, Bool.and_eq_true, decide_eq_true_eq] at h
    exact .inl ⟨rfl, by omega, empty_bytes h.1.2, List.eq_nil_of_length_eq_zero h.2⟩
  · simp only [formB] at h
    simp at h
    exact .inr (.inl ⟨rfl, empty_bytes (by simpa using h.1.2), h.2⟩)
  · simp [formB] at h
    exact .inr (.inr (.inr (.inl ⟨rfl, h.1.1.1, h.1.1.2, empty_bytes (by simpa using h.1.2), h.2⟩)))
  · simp [formB] at h
    exact .inr (.inr (.inr (.inr (.inl ⟨rfl, h.1.1, h.2⟩))))
  · simp [formB] at h
    exact .inr (.inr (.inl ⟨rfl, h.1.1, h.1.2, h.2⟩))
  · simp [formB] at h
    exact .inr (.inr (.inr (.inr (.inr (.inl ⟨rfl, h.1, empty_bytes (by simpa using h.2)⟩)))))
  · simp [formB] at h
    exact .inr (.inr (.inr (.inr (.inr (.inr (.inr ⟨rfl, h.1, empty_bytes (by simpa using h.2)⟩))))))
  · simp [formB] at h
    exact .inr (.inr (.inr (.inr (.inr (.inr (.inl ⟨rfl, h.1.1.1, empty_bytes (by simpa using h.1.1.2), h.1.2⟩))))))
  · exfalso
    have : formB k i s.data.toList l = false := by
      unfold formB
      repeat (rw [if_neg (by omega)])
    rw [this] at h
    cases h

def cl (l : List UInt8) : Nat :=
  if l[0]? = some 34 then 3 else if l[0]? = some 40 then 5 else if l[0]? = some 35 then (if l[1]? = some 40 then 7 else if l[1]? = some 92 then 2 else 0) else 4
def clk (k : Int) : Nat := if k = 0 then 0 else if k = 1 then 4 else if k = 4 then 4 else if k = 2 then 2 else if k = 3 then 3 else if k = 7 then 7 else 5

theorem name_facts {s : List UInt8} (h : nameB s = true) : s ≠ [] ∧ s ≠ [46] ∧ numB s = false ∧ s.all nby8 = true := by
  simp only [nameB, bytesB, Bool.and_eq_true, Bool.not_eq_true'] at h
  refine ⟨fun e => by rw [e] at h; simp at h, fun e => by rw [e] at h; simp at h, h.1.2, h.2⟩
theorem cl_tok {a r : List UInt8} (h : a.all nby8 = true) (hn : a ≠ []) : cl (a ++ r) = 4 := by
  cases a with
  | nil => exact absurd rfl hn
  | cons c a =>
    rw [List.all_cons, Bool.and_eq_true] at h
    obtain ⟨_, h1, h2, h3⟩ := tok_of h.1
    simp [cl, h1, h2, h3]
theorem textT_mk (k i : Int) (s : ByteArray) (l : List PT) : textT false (.mk k i s l) = shapeT false k i s.data.toList (textsT false l) := by rw [textT]
theorem cl_text {k i : Int} {s : ByteArray} {l : List PT} (h : formB k i s.data.toList l = true) (r : List UInt8) : cl (textT false (.mk k i s l) ++ r) = clk k := by
  rw [textT_mk]
  rcases form_ways h with ⟨rfl, hi, rfl, rfl⟩ | ⟨rfl, rfl, rfl⟩ | ⟨rfl, rfl, hn, rfl⟩ | ⟨rfl, _, _, rfl, rfl⟩ | ⟨rfl, rfl, rfl⟩ | ⟨rfl, rfl, rfl⟩ | ⟨rfl, rfl, rfl, hl⟩ | ⟨rfl, rfl, rfl⟩
  · rcases hi with rfl | rfl <;> simp [shapeT, cl, clk]
  · rw [show shapeT false 1 i (ByteArray.mk #[]).data.toList (textsT false []) = Lib.itoa i by simp [shapeT], cl_tok (itoa_nby i).1 (itoa_nby i).2]
    rfl
  · rw [show shapeT false 4 0 s.data.toList (textsT false []) = s.data.toList by simp [shapeT], cl_tok (name_facts hn).2.2.2 (name_facts hn).1]
    rfl
  · simp [shapeT, charS, charT, cl, clk]
  · simp [shapeT, quoteS, quoteT, cl, clk]
  · simp [shapeT, cl, clk]
  · simp [shapeT, cl, clk]
  · simp [shapeT, cl, clk]
theorem text_head {k i : Int} {s : ByteArray} {l : List PT} (h : formB k i s.data.toList l = true) : ∃ c r, textT false (.mk k i s l) = c :: r ∧ tokB c = true := by
  rw [textT_mk]
  have tk : ∀ a : List UInt8, a.all nby8 = true → a ≠ [] → ∃ c r, a = c :: r ∧ tokB c = true := fun a ha hn => by
    cases a with
    | nil => exact absurd rfl hn
    | cons c a =>
      rw [List.all_cons, Bool.and_eq_true] at ha
      exact ⟨c, a, rfl, (tok_of ha.1).1⟩
  rcases form_ways h with ⟨rfl, hi, rfl, rfl⟩ | ⟨rfl, rfl, rfl⟩ | ⟨rfl, rfl, hn, rfl⟩ | ⟨rfl, _, _, rfl, rfl⟩ | ⟨rfl, rfl, rfl⟩ | ⟨rfl, rfl, rfl⟩ | ⟨rfl, rfl, rfl, hl⟩ | ⟨rfl, rfl, rfl⟩
  · rcases hi with rfl | rfl
    · exact ⟨35, [102], by simp [shapeT], rfl⟩
    · exact ⟨35, [116], by simp [shapeT], rfl⟩
  · rw [show shapeT false 1 i (ByteArray.mk #[]).data.toList (textsT false []) = Lib.itoa i by simp [shapeT]]
    exact tk _ (itoa_nby i).1 (itoa_nby i).2
  · rw [show shapeT false 4 0 s.data.toList (textsT false []) = s.data.toList by simp [shapeT]]
    exact tk _ (name_facts hn).2.2.2 (name_facts hn).1
  · exact ⟨35, _, by simp only [shapeT, charS, charT]; simp; rfl, rfl⟩
  · exact ⟨34, _, by simp only [shapeT, quoteS, quoteT]; simp; rfl, rfl⟩
  · exact ⟨40, _, by simp only [shapeT]; simp; rfl, rfl⟩
  · exact ⟨40, _, by simp only [shapeT]; simp; rfl, rfl⟩
  · exact ⟨35, _, by simp only [shapeT]; simp; rfl, rfl⟩
end Go.Proofs.YtphgcdmjnmopiaaDoor
