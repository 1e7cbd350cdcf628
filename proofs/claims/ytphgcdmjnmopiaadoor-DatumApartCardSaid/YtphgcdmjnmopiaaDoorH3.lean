/-
One text, one datum: rows and dotted rows, and the theorem.
-/
import Derived.Test.YtphgcdmjnmopiaaDoorH2
namespace Go.Proofs.YtphgcdmjnmopiaaDoor

/-- What stands between the brackets of a row: data, and the dot. -/
def pieceT : Option PT → List UInt8
  | none => [46]
  | some t => textT false t
def ReadOk (t : PT) : Prop := ∀ u r r', FormOk t → FormOk u → stopB r = true → stopB r' = true → textT false t ++ r = textT false u ++ r' → t = u ∧ r = r'

theorem tok_text {k i : Int} {s : ByteArray} {l : List PT} (h : formB k i s.data.toList l = true) (hc : clk k = 4) :
    k = 1 ∧ s = ⟨#[]⟩ ∧ l = [] ∧ textT false (.mk k i s l) = Lib.itoa i ∨ k = 4 ∧ i = 0 ∧ l = [] ∧ nameB s.data.toList = true ∧ textT false (.mk k i s l) = s.data.toList := by
  rw [textT_mk]
  rcases form_ways h with ⟨rfl, hi, rfl, rfl⟩ | ⟨rfl, rfl, rfl⟩ | ⟨rfl, rfl, hn, rfl⟩ | ⟨rfl, _, _, rfl, rfl⟩ | ⟨rfl, rfl, rfl⟩ | ⟨rfl, rfl, rfl⟩ | ⟨rfl, rfl, rfl, hl⟩ | ⟨rfl, rfl, rfl⟩
  · cases hc
  · exact .inl ⟨rfl, rfl, rfl, by simp [shapeT]⟩
  · exact .inr ⟨rfl, rfl, rfl, hn, by simp [shapeT]⟩
  all_goals cases hc
theorem tok_all {a : List UInt8} (h : a.all nby8 = true) : a.all tokB = true := all_mono (fun _ hc => (tok_of hc).1) a h

theorem dot_text {u : PT} {r r' : List UInt8} (hu : FormOk u) (hr : stopB r = true) (hr' : stopB r' = true) (h : [46] ++ r = textT false u ++ r') : False := by
  match u with
  | .mk k i s l =>
    rw [FormOk] at hu
    have hc := cl_text hu.1 r'
    rw [← h] at hc
    have h46 : [(46 : UInt8)].all tokB = true := rfl
    rcases tok_text hu.1 hc.symm with ⟨_, _, _, e⟩ | ⟨_, _, _, hn, e⟩
    · rw [e] at h
      have := (tok_split h46 (tok_all (itoa_nby i).1) hr hr' h).1
      have hq := itoa_num i
      rw [← this] at hq
      revert hq
      decide
    · rw [e] at h
      have := (tok_split h46 (tok_all (name_facts hn).2.2.2) hr hr' h).1
      exact (name_facts hn).2.1 this.symm

theorem piece_read {o o' : Option PT} (ho : ∀ t, o = some t → ReadOk t ∧ FormOk t) (ho' : ∀ t, o' = some t → FormOk t) {r r' : List UInt8} (hr : stopB r = true) (hr' : stopB r' = true) (h : pieceT o ++ r = pieceT o' ++ r') : o = o' ∧ r = r' := by
  match o, o' with
  | none, none => exact ⟨rfl, List.append_cancel_left h⟩
  | none, some u => exact (dot_text (ho' u rfl) hr hr' h).elim
  | some t, none => exact (dot_text (ho t rfl).2 hr' hr h.symm).elim
  | some t, some u =>
    have := (ho t rfl).1 u r r' (ho t rfl).2 (ho' u rfl) hr hr' h
    exact ⟨by rw [this.1], this.2⟩
theorem piece_head {o : Option PT} (ho : ∀ t, o = some t → FormOk t) : ∃ c r, pieceT o = c :: r ∧ tokB c = true := by
  match o with
  | none => exact ⟨46, [], rfl, rfl⟩
  | some (.mk k i s l) =>
    have := ho _ rfl
    rw [FormOk] at this
    exact text_head this.1

theorem stop_tail (ts : List (List UInt8)) (r : List UInt8) : stopB (tailJ ts ++ 41 :: r) = true := by
  cases ts with
  | nil => rfl
  | cons t ts => simp [tailJ, stopB]
theorem tail_read : ∀ (ps ps' : List (Option PT)) (r r' : List UInt8), (∀ o ∈ ps, ∀ t, o = some t → ReadOk t ∧ FormOk t) → (∀ o ∈ ps', ∀ t, o = some t → FormOk t) →
    tailJ (ps.map pieceT) ++ 41 :: r = tailJ (ps'.map pieceT) ++ 41 :: r' → ps = ps' ∧ r = r'
  | [], [], r, r', _, _, h => by
    simp only [List.map_nil, tailJ, List.flatMap_nil, List.nil_append] at h
    injection h with _ h
    exact ⟨rfl, h⟩
  | [], o :: ps', r, r', _, _, h => by
    simp [tailJ] at h
  | o :: ps, [], r, r', _, _, h => by
    simp [tailJ] at h
  | o :: ps, o' :: ps', r, r', hp, hp', h => by
    have h1 : pieceT o ++ (tailJ (ps.map pieceT) ++ 41 :: r) = pieceT o' ++ (tailJ (ps'.map pieceT) ++ 41 :: r') := by
      simpa [tailJ] using h
    have e := piece_read (hp o (List.mem_cons_self ..)) (hp' o' (List.mem_cons_self ..)) (stop_tail _ _) (stop_tail _ _) h1
    have e2 := tail_read ps ps' r r' (fun x hx => hp x (List.mem_cons_of_mem _ hx)) (fun x hx => hp' x (List.mem_cons_of_mem _ hx)) e.2
    exact ⟨by rw [e.1, e2.1], e2.2⟩
theorem head_no41 {o : Option PT} (ho : ∀ t, o = some t → FormOk t) {x r : List UInt8} (h : 41 :: r = pieceT o ++ x) : False := by
  obtain ⟨c, y, e, hc⟩ := piece_head ho
  rw [e, List.cons_append] at h
  injection h with h _
  subst h
  cases hc
theorem row_read (ps ps' : List (Option PT)) (r r' : List UInt8) (hp : ∀ o ∈ ps, ∀ t, o = some t → ReadOk t ∧ FormOk t) (hp' : ∀ o ∈ ps', ∀ t, o = some t → FormOk t)
    (h : joinT (ps.map pieceT) ++ 41 :: r = joinT (ps'.map pieceT) ++ 41 :: r') : ps = ps' ∧ r = r' := by
  match ps, ps' with
  | [], [] =>
    simp only [List.map_nil, joinT, List.nil_append] at h
    injection h with _ h
    exact ⟨rfl, h⟩
  | [], o :: ps' =>
    simp only [List.map_nil, List.map_cons, joinT, List.nil_append, List.append_assoc] at h
    exact (head_no41 (hp' o (List.mem_cons_self ..)) h).elim
  | o :: ps, [] =>
    simp only [List.map_nil, List.map_cons, joinT, List.nil_append, List.append_assoc] at h
    exact (head_no41 (fun t ht => (hp o (List.mem_cons_self ..) t ht).2) h.symm).elim
  | o :: ps, o' :: ps' =>
    simp only [List.map_cons, joinT, List.append_assoc] at h
    have e := piece_read (hp o (List.mem_cons_self ..)) (hp' o' (List.mem_cons_self ..)) (stop_tail _ _) (stop_tail _ _) h
    have e2 := tail_read ps ps' r r' (fun x hx => hp x (List.mem_cons_of_mem _ hx)) (fun x hx => hp' x (List.mem_cons_of_mem _ hx)) e.2
    exact ⟨by rw [e.1, e2.1], e2.2⟩

/-! ### the rows of the kinds 5, 6 and 7 -/
theorem texts_pieces : ∀ l : List PT, textsT false l = (l.map some).map pieceT
  | [] => by rw [textsT]; rfl
  | t :: l => by rw [textsT, texts_pieces l]; rfl
/-- The row of a datum of the kinds 5, 6, 7. -/
def rowP (k : Int) (l : List PT) : List (Option PT) := if k = 6 then l.dropLast.map some ++ [none, l.getLast?] else l.map some
theorem textsT_drop (l : List PT) : (textsT false l).dropLast = textsT false l.dropLast := by
  rw [texts_pieces, texts_pieces, List.map_dropLast, List.map_dropLast]
theorem split_last (l : List PT) (h : 2 ≤ l.length) : ∃ m x, l = m ++ [x] ∧ m ≠ [] := by
  rcases List.eq_nil_or_concat l with rfl | ⟨m, x, rfl⟩
  · simp at h
  · refine ⟨m, x, by simp, fun e => ?_⟩
    subst e
    simp at h
theorem row_text {k : Int} {l : List PT} {s : List UInt8} (hk : k = 5 ∨ k = 6 ∧ 2 ≤ l.length ∨ k = 7) (i : Int) (r : List UInt8) :
    shapeT false k i s (textsT false l) ++ r = (if k = 7 then [35, 40] else [40]) ++ (joinT ((rowP k l).map pieceT) ++ 41 :: r) := by
  rcases hk with rfl | ⟨rfl, hl⟩ | rfl
  · simp [shapeT, rowP, texts_pieces]
  · obtain ⟨m, x, rfl, hm⟩ := split_last l hl
    have e : joinT ((rowP 6 (m ++ [x])).map pieceT) = joinT (textsT false m) ++ ([32, 46, 32] ++ textT false x) := by
      have e1 : (rowP 6 (m ++ [x])).map pieceT = (textsT false m ++ [[46]]) ++ [textT false x] := by
        simp [rowP, texts_pieces, pieceT]
      have n1 : textsT false m ≠ [] := by
        intro h
        have := congrArg List.length h
        rw [textsT_len] at this
        exact hm (List.eq_nil_of_length_eq_zero this)
      rw [e1, joinT_snoc _ _ (by simp), joinT_snoc _ _ n1]
      simp
    rw [e]
    have e2 : (textsT false (m ++ [x])).getLast?.getD [] = textT false x := by
      rw [texts_pieces]
      simp [pieceT]
    have e3 : (textsT false (m ++ [x])).dropLast = textsT false m := by
      rw [textsT_drop]
      simp
    simp [shapeT, e2, e3]
  · simp [shapeT, rowP, texts_pieces]
theorem map_some_inj : ∀ {l m : List PT}, l.map some = m.map some → l = m
  | [], [], _ => rfl
  | [], _ :: _, h => by simp at h
  | _ :: _, [], h => by simp at h
  | a :: l, b :: m, h => by
    simp only [List.map_cons] at h
    injection h with h1 h2
    injection h1 with h1
    rw [h1, map_some_inj h2]
theorem none_some {l : List PT} : none ∉ l.map some := by simp
theorem rowP_inj {k k' : Int} {l l' : List PT} (hk : k = 5 ∨ k = 6 ∧ 2 ≤ l.length) (hk' : k' = 5 ∨ k' = 6 ∧ 2 ≤ l'.length) (h : rowP k l = rowP k' l') : k = k' ∧ l = l' := by
  rcases hk with rfl | ⟨rfl, hl⟩ <;> rcases hk' with rfl | ⟨rfl, hl'⟩
  · exact ⟨rfl, map_some_inj h⟩
  · exfalso
    have : none ∈ rowP 6 l' := by simp [rowP]
    rw [← h] at this
    exact none_some this
  · exfalso
    have : none ∈ rowP 6 l := by simp [rowP]
    rw [h] at this
    exact none_some this
  · obtain ⟨m, x, rfl, _⟩ := split_last l hl
    obtain ⟨m', x', rfl, _⟩ := split_last l' hl'
    have e1 : m.map some ++ [none, some x] = m'.map some ++ [none, some x'] := by simpa [rowP] using h
    have e2 := List.append_inj' e1 rfl
    have e3 := map_some_inj e2.1
    have e4 := e2.2
    simp at e4
    exact ⟨rfl, by rw [e3, e4]⟩
theorem rowP_forms {k : Int} {l : List PT} (h : FormsOk l) : ∀ o ∈ rowP k l, ∀ t, o = some t → t ∈ l ∧ FormOk t := by
  intro o ho t ht
  subst ht
  have hm : t ∈ l := by
    unfold rowP at ho
    split at ho
    · rcases List.mem_append.1 ho with h1 | h1
      · simp at h1
        have h2 := List.dropLast_subset _ h1
        simpa using h2
      · simp at h1
        exact List.mem_of_getLast? h1.symm
    · simpa using ho
  exact ⟨hm, formsOk_get h t hm⟩

theorem byte_of_int {i j : Int} (hi : 0 ≤ i ∧ i ≤ 255) (hj : 0 ≤ j ∧ j ≤ 255) (h : UInt8.ofNat i.toNat = UInt8.ofNat j.toNat) : i = j := by
  have := congrArg UInt8.toNat h
  simp at this
  omega
theorem bytes_inj {s t : ByteArray} (h : s.data.toList = t.data.toList) : s = t := by
  cases s
  cases t
  simp at h
  rw [h]

theorem row_step {k k' : Int} {l l' : List PT} (ih : ∀ t ∈ l, ReadOk t) (hk : k = 5 ∨ k = 6 ∧ 2 ≤ l.length ∨ k = 7) (hk' : k' = 5 ∨ k' = 6 ∧ 2 ≤ l'.length ∨ k' = 7) (hf : FormsOk l) (hf' : FormsOk l') {i i' : Int} {s s' : List UInt8} {r r' : List UInt8}
    (h : shapeT false k i s (textsT false l) ++ r = shapeT false k' i' s' (textsT false l') ++ r') : k = k' ∧ l = l' ∧ r = r' := by
  rw [row_text hk, row_text hk'] at h
  have P : ∀ o ∈ rowP k l, ∀ t, o = some t → ReadOk t ∧ FormOk t := fun o ho t ht => ⟨ih t (rowP_forms hf o ho t ht).1, (rowP_forms hf o ho t ht).2⟩
  have P' : ∀ o ∈ rowP k' l', ∀ t, o = some t → FormOk t := fun o ho t ht => (rowP_forms hf' o ho t ht).2
  by_cases h7 : k = 7 <;> by_cases h7' : k' = 7
  · subst h7
    subst h7'
    simp only [if_true, List.append_cancel_left_eq] at h
    have e := row_read _ _ _ _ P P' h
    have e1 : l.map some = l'.map some := e.1
    exact ⟨rfl, map_some_inj e1, e.2⟩
  · rw [if_pos h7, if_neg h7'] at h
    simp at h
  · rw [if_neg h7, if_pos h7'] at h
    simp at h
  · rw [if_neg h7, if_neg h7'] at h
    simp only [List.append_cancel_left_eq] at h
    have e := row_read _ _ _ _ P P' h
    have e1 := rowP_inj (hk.imp id fun h => h.resolve_right h7) (hk'.imp id fun h => h.resolve_right h7') e.1
    exact ⟨e1.1, e1.2, e.2⟩

theorem clk_row {k : Int} {n : Nat} (h : k = 5 ∨ k = 6 ∧ 2 ≤ n ∨ k = 7) : 5 ≤ clk k := by
  rcases h with rfl | ⟨rfl, _⟩ | rfl <;> decide

theorem read_step (k i : Int) (s : ByteArray) (l : List PT) (ih : ∀ t ∈ l, ReadOk t) : ReadOk (.mk k i s l) := by
  intro u r r' hf hf' hr hr' h
  match u with
  | .mk k' i' s' l' =>
    rw [FormOk] at hf hf'
    obtain ⟨f1, f2⟩ := hf
    obtain ⟨f1', f2'⟩ := hf'
    have hc : clk k = clk k' := by rw [← cl_text f1 r, h, cl_text f1' r']
    have tok : clk k = 4 → PT.mk k i s l = .mk k' i' s' l' ∧ r = r' := fun h4 => by
      have w1 := tok_text f1 h4
      have w2 := tok_text f1' (hc ▸ h4)
      rcases w1 with ⟨rfl, rfl, rfl, e⟩ | ⟨rfl, rfl, rfl, hn, e⟩ <;> rcases w2 with ⟨rfl, rfl, rfl, e'⟩ | ⟨rfl, rfl, rfl, hn', e'⟩ <;> rw [e, e'] at h
      · have := tok_split (tok_all (itoa_nby i).1) (tok_all (itoa_nby i').1) hr hr' h
        exact ⟨by rw [itoa_inj this.1], this.2⟩
      · have := tok_split (tok_all (itoa_nby i).1) (tok_all (name_facts hn').2.2.2) hr hr' h
        have hq := itoa_num i
        rw [this.1, (name_facts hn').2.2.1] at hq
        cases hq
      · have := tok_split (tok_all (name_facts hn).2.2.2) (tok_all (itoa_nby i').1) hr hr' h
        have hq := itoa_num i'
        rw [← this.1, (name_facts hn).2.2.1] at hq
        cases hq
      · have := tok_split (tok_all (name_facts hn).2.2.2) (tok_all (name_facts hn').2.2.2) hr hr' h
        exact ⟨by rw [bytes_inj this.1], this.2⟩
    have row : (k = 5 ∨ k = 6 ∧ 2 ≤ l.length ∨ k = 7) → i = 0 → s = ⟨#[]⟩ → (k' = 5 ∨ k' = 6 ∧ 2 ≤ l'.length ∨ k' = 7) → i' = 0 → s' = ⟨#[]⟩ → PT.mk k i s l = .mk k' i' s' l' ∧ r = r' := by
      rintro hk rfl rfl hk' rfl rfl
      rw [textT_mk, textT_mk] at h
      obtain ⟨rfl, rfl, rfl⟩ := row_step ih hk hk' f2 f2' h
      exact ⟨rfl, rfl⟩
    have rows : (k' = 5 ∧ i' = 0 ∧ s' = ⟨#[]⟩) ∨ (k' = 6 ∧ i' = 0 ∧ s' = ⟨#[]⟩ ∧ 2 ≤ l'.length) ∨ (k' = 7 ∧ i' = 0 ∧ s' = ⟨#[]⟩) → (k' = 5 ∨ k' = 6 ∧ 2 ≤ l'.length ∨ k' = 7) ∧ i' = 0 ∧ s' = ⟨#[]⟩ := by
      rintro (⟨h1, h2, h3⟩ | ⟨h1, h2, h3, h4⟩ | ⟨h1, h2, h3⟩)
      · exact ⟨.inl h1, h2, h3⟩
      · exact ⟨.inr (.inl ⟨h1, h4⟩), h2, h3⟩
      · exact ⟨.inr (.inr h1), h2, h3⟩
    have u7 : 5 ≤ clk k' → (k' = 5 ∧ i' = 0 ∧ s' = ⟨#[]⟩) ∨ (k' = 6 ∧ i' = 0 ∧ s' = ⟨#[]⟩ ∧ 2 ≤ l'.length) ∨ (k' = 7 ∧ i' = 0 ∧ s' = ⟨#[]⟩) := fun h5 => by
      rcases form_ways f1' with ⟨rfl, _⟩ | ⟨rfl, _⟩ | ⟨rfl, _⟩ | ⟨rfl, _⟩ | ⟨rfl, _⟩ | h | h | h
      · exact absurd h5 (by decide)
      · exact absurd h5 (by decide)
      · exact absurd h5 (by decide)
      · exact absurd h5 (by decide)
      · exact absurd h5 (by decide)
      · exact .inl h
      · exact .inr (.inl h)
      · exact .inr (.inr h)
    rcases form_ways f1 with ⟨rfl, hi, rfl, rfl⟩ | ⟨rfl, _⟩ | ⟨rfl, _⟩ | ⟨rfl, h0, h1, rfl, rfl⟩ | ⟨rfl, rfl, rfl⟩ | ⟨rfl, h1, h2⟩ | ⟨rfl, h1, h2, h3⟩ | ⟨rfl, h1, h2⟩
    · rcases form_ways f1' with ⟨rfl, hi', rfl, rfl⟩ | ⟨rfl, _⟩ | ⟨rfl, _⟩ | ⟨rfl, _⟩ | ⟨rfl, _⟩ | ⟨rfl, _⟩ | ⟨rfl, _⟩ | ⟨rfl, _⟩
      · rw [textT_mk, textT_mk] at h
        rcases hi with rfl | rfl <;> rcases hi' with rfl | rfl <;> simp [shapeT] at h
        · exact ⟨rfl, h⟩
        · exact ⟨rfl, h⟩
      all_goals exact absurd hc (by decide)
    · exact tok rfl
    · exact tok rfl
    · rcases form_ways f1' with ⟨rfl, _⟩ | ⟨rfl, _⟩ | ⟨rfl, _⟩ | ⟨rfl, h0', h1', rfl, rfl⟩ | ⟨rfl, _⟩ | ⟨rfl, _⟩ | ⟨rfl, _⟩ | ⟨rfl, _⟩
      iterate 3 exact absurd hc (by decide)
      · rw [textT_mk, textT_mk, show shapeT false 2 i (ByteArray.mk #[]).data.toList (textsT false []) = charT (UInt8.ofNat i.toNat) by simp [shapeT, charS], show shapeT false 2 i' (ByteArray.mk #[]).data.toList (textsT false []) = charT (UInt8.ofNat i'.toNat) by simp [shapeT, charS]] at h
        have := char_read hr hr' h
        exact ⟨by rw [byte_of_int ⟨h0, h1⟩ ⟨h0', h1'⟩ this.1], this.2⟩
      all_goals exact absurd hc (by decide)
    · rcases form_ways f1' with ⟨rfl, _⟩ | ⟨rfl, _⟩ | ⟨rfl, _⟩ | ⟨rfl, _⟩ | ⟨rfl, rfl, rfl⟩ | ⟨rfl, _⟩ | ⟨rfl, _⟩ | ⟨rfl, _⟩
      iterate 4 exact absurd hc (by decide)
      · rw [textT_mk, textT_mk] at h
        simp [shapeT, quoteS, quoteT] at h
        have := qb_read h
        exact ⟨by rw [bytes_inj this.1], this.2⟩
      all_goals exact absurd hc (by decide)
    · obtain ⟨a, b, c⟩ := rows (u7 (by rw [← hc]; decide))
      exact row (.inl rfl) h1 h2 a b c
    · obtain ⟨a, b, c⟩ := rows (u7 (by rw [← hc]; decide))
      exact row (.inr (.inl ⟨rfl, h3⟩)) h1 h2 a b c
    · obtain ⟨a, b, c⟩ := rows (u7 (by rw [← hc]; decide))
      exact row (.inr (.inr rfl)) h1 h2 a b c

mutual
theorem read_any : ∀ t : PT, ReadOk t
  | .mk k i s l => read_step k i s l (read_all l)
theorem read_all : ∀ l : List PT, ∀ t ∈ l, ReadOk t
  | [], t, h => by cases h
  | u :: l, t, h => (List.mem_cons.1 h).elim (fun e => e ▸ read_any u) (fun h => read_all l t h)
end

/-- One text, one datum. -/
theorem one_text {t u : PT} (h1 : checkB t = 0) (h2 : checkB u = 0) : (decide (textT false t = textT false u) = sameB t u) := by
  have hi : textT false t = textT false u ↔ t = u := by
    constructor
    · intro h
      exact (read_any t u [] [] (check_ok t h1).1 (check_ok u h2).1 rfl rfl (by rw [h])).1
    · rintro rfl
      rfl
  simp [sameB, hi]
end Go.Proofs.YtphgcdmjnmopiaaDoor
