/-
What is read may be, and what is written of it is not much longer: pure. No condition.
-/
import Derived.Test.YthfjlcflpneffaaGreatDoorB3
import Derived.Test.YthfjlcflpneffaaGreatDoorWB
namespace Go.Proofs.YthfjlcflpneffaaGreatDoor
open Go.ChangeShapes Go.WideShapes Go.ChangeAt Go.RowKit
open Dat (PT makeT textT textsT FormOk FormsOk joinT tailJ formB shapeT nestB checkB numT numsT toldT)

/-- How many bytes are written of a datum, and one more; how many tokens. -/
def wT (t : PT) : Nat := (textT false t).length + 1
def wsT (l : List PT) : Nat := (l.map wT).sum
def lsT (l : List PT) : Nat := (tksT l).flatten.length
theorem ws_cons (t : PT) (l : List PT) : wsT (t :: l) = wT t + wsT l := by simp [wsT]
theorem ws_app (l m : List PT) : wsT (l ++ m) = wsT l + wsT m := by simp [wsT]
theorem ws_one (t : PT) : wsT [t] = wT t := by simp [wsT]
theorem ls_app (l m : List PT) : lsT (l ++ m) = lsT l + lsT m := by simp [lsT, tksT_app]
theorem ls_one (t : PT) : lsT [t] = (tkD t).length := by simp [lsT, tksT]
theorem nums_app (l m : List PT) : numsT (l ++ m) = numsT l + numsT m := Dat.numsT_append l m
theorem nums_one (t : PT) : numsT [t] = numT t := by simp [numsT]
theorem tail_len : ∀ l : List PT, (tailJ (textsT false l)).length = wsT l
  | [] => by simp [textsT, tailJ, wsT]
  | t :: l => by
    have := tail_len l
    rw [ws_cons, textsT]
    simp only [tailJ, List.flatMap_cons, List.length_append, List.length_cons, wT] at this ⊢
    omega
theorem join_len (l : List PT) : (joinT (textsT false l)).length + (if l = [] then 0 else 1) = wsT l := by
  match l with
  | [] => simp [textsT, joinT, wsT]
  | t :: l =>
    have := tail_len l
    rw [ws_cons, textsT, joinT]
    simp only [List.length_append, wT]
    rw [if_neg (by simp)]
    omega
theorem w_items {k i : Int} {s : ByteArray} {l : List PT} (hk : k = 5 ∨ k = 7) : wT (.mk k i s l) + (if l = [] then 0 else 1) = wsT l + (if k = 5 then 3 else 4) := by
  have := join_len l
  rcases hk with rfl | rfl
  · have e : textT false (.mk 5 i s l) = 40 :: (joinT (textsT false l) ++ [41]) := by
      rw [textT, shapeT, if_neg (by decide), if_neg (by decide), if_neg (by decide), if_neg (by decide), if_neg (by decide), if_pos rfl]; rfl
    rw [if_pos (rfl : (5 : Int) = 5)]
    unfold wT
    rw [e]
    simp only [List.length_append, List.length_cons, List.length_nil]
    omega
  · have e : textT false (.mk 7 i s l) = 35 :: 40 :: (joinT (textsT false l) ++ [41]) := by
      rw [textT, shapeT, if_neg (by decide), if_neg (by decide), if_neg (by decide), if_neg (by decide), if_neg (by decide), if_neg (by decide), if_neg (by decide), if_pos rfl]; rfl
    rw [if_neg (show ¬ (7 : Int) = 5 by decide)]
    unfold wT
    rw [e]
    simp only [List.length_append, List.length_cons, List.length_nil]
    omega
theorem w_dotted {i : Int} {s : ByteArray} {l : List PT} {t : PT} (h : l ≠ []) : wT (.mk 6 i s (l ++ [t])) = wsT (l ++ [t]) + 4 := by
  have h1 := join_len l
  rw [if_neg h] at h1
  have e1 : textT false (.mk 6 i s (l ++ [t])) = 40 :: (joinT (textsT false l) ++ (32 :: 46 :: 32 :: (textT false t ++ [41]))) := by
    rw [textT, shapeT, if_neg (by decide), if_neg (by decide), if_neg (by decide), if_neg (by decide), if_neg (by decide), if_neg (by decide), if_pos rfl, textsT_app]
    simp [textsT]
  rw [ws_app, ws_one]
  unfold wT
  rw [e1]
  simp only [List.length_append, List.length_cons, List.length_nil]
  omega
theorem l_items {k i : Int} {s : ByteArray} {l : List PT} (hk : k = 5 ∨ k = 7) : (tkD (.mk k i s l)).length = lsT l + 2 := by
  rw [tkD, tkS]
  rcases hk with rfl | rfl
  · rw [if_pos rfl]; simp [lsT]
  · rw [if_neg (by decide), if_neg (by decide), if_pos rfl]; simp [lsT]
theorem l_dotted {i : Int} {s : ByteArray} {l : List PT} {t : PT} : (tkD (.mk 6 i s (l ++ [t]))).length = lsT (l ++ [t]) + 3 := by
  rw [tkD, tkS, if_neg (by decide), if_pos rfl, tksT_app, ls_app, ls_one]
  simp [tksT, lsT]; omega

/-- A datum that was read with so many open, of so many tokens, of so many bytes. -/
structure Fit (h m c : Nat) (t : PT) : Prop where
  form : FormOk t
  deep : h + depthT t ≤ 32
  num : numT t + 1 ≤ 2 * m
  len : wT t ≤ 8 * c
  tok : (tkD t).length ≤ 3 * m
structure FitL (h m c : Nat) (l : List PT) : Prop where
  form : FormsOk l
  deep : h + depthsT l ≤ 32
  num : numsT l + l.length ≤ 2 * m
  len : wsT l ≤ 8 * c
  tok : lsT l ≤ 3 * m
theorem FitL.none {h m c : Nat} (hh : h ≤ 32) : FitL h m c [] := ⟨by rw [FormsOk]; trivial, by rw [depthsT]; exact hh, by simp [numsT], by simp [wsT], by simp [lsT, tksT]⟩
theorem FitL.snoc {h m c m' c' : Nat} {l : List PT} {t : PT} (hl : FitL h m c l) (ht : Fit h m' c' t) : FitL h (m + m') (c + c') (l ++ [t]) := by
  obtain ⟨a1, a2, a3, a4, a5⟩ := hl
  obtain ⟨b1, b2, b3, b4, b5⟩ := ht
  refine ⟨(formsOk_app _ _).2 ⟨a1, by rw [FormsOk, FormsOk]; exact ⟨b1, trivial⟩⟩, ?_, ?_, ?_, ?_⟩
  · rw [depths_app, depthsT, depthsT]; omega
  · rw [nums_app, nums_one, List.length_append]; simp only [List.length_cons, List.length_nil]; omega
  · rw [ws_app, ws_one]; omega
  · rw [ls_app, ls_one]; omega
theorem FitL.le {h m c m' c' : Nat} {l : List PT} (hl : FitL h m c l) (hm : m ≤ m') (hc : c ≤ c') : FitL h m' c' l :=
  ⟨hl.form, hl.deep, by have := hl.num; omega, by have := hl.len; omega, by have := hl.tok; omega⟩
theorem Fit.le {h m c m' c' : Nat} {t : PT} (hl : Fit h m c t) (hm : m ≤ m') (hc : c ≤ c') : Fit h m' c' t :=
  ⟨hl.form, hl.deep, by have := hl.num; omega, by have := hl.len; omega, by have := hl.tok; omega⟩
theorem fit_items {h m c : Nat} {k : Int} {l : List PT} (hl : FitL (h + 1) m c l) (hk : k = 5 ∨ k = 7) : Fit h (m + 2) (c + 2) (.mk k 0 ⟨#[]⟩ l) := by
  obtain ⟨a1, a2, a3, a4, a5⟩ := hl
  refine ⟨?_, ?_, ?_, ?_, ?_⟩
  · rw [FormOk]
    exact ⟨by rcases hk with rfl | rfl <;> simp [formB], a1⟩
  · rw [depthT, if_pos (by unfold nestB; rcases hk with rfl | rfl <;> rfl)]; omega
  · rw [numT]; omega
  · have := w_items (i := 0) (s := ⟨#[]⟩) (l := l) hk
    split at this <;> split at this <;> omega
  · rw [l_items hk]; omega
theorem fit_quote {h m c : Nat} {t : PT} (ht : Fit (h + 1) m c t) : Fit h (m + 1) (c + 1) (quoteD t) := by
  obtain ⟨b1, b2, b3, b4, b5⟩ := ht
  have hq : formB 4 0 quoteS.data.toList [] = true := by decide +kernel
  unfold quoteD
  refine ⟨?_, ?_, ?_, ?_, ?_⟩
  · simp only [FormOk, FormsOk]
    exact ⟨by simp [formB], ⟨hq, trivial⟩, b1, trivial⟩
  · simp only [depthT, depthsT]
    rw [if_pos (by decide), if_neg (by decide)]
    omega
  · simp only [numT, numsT]; omega
  · have := w_items (k := 5) (i := 0) (s := ⟨#[]⟩) (l := [.mk 4 0 quoteS [], t]) (.inl rfl)
    have e : wT (.mk 4 0 quoteS []) = 6 := by decide +kernel
    rw [ws_cons, ws_one, e, if_neg (by simp), if_pos rfl] at this
    omega
  · rw [l_items (.inl rfl)]
    have e : (tkD (.mk 4 0 quoteS [])).length = 1 := by decide +kernel
    have : lsT [.mk 4 0 quoteS [], t] = (tkD (.mk 4 0 quoteS [])).length + (tkD t).length := by simp [lsT, tksT]
    rw [this, e]; omega
theorem tailB_app {l m : List PT} (h : m ≠ []) : Dat.tailB (l ++ m) = Dat.tailB m := by
  unfold Dat.tailB
  rw [List.getLast?_append, List.getLast?_eq_some_getLast h]
  rfl
theorem fit_make {h m c : Nat} {l : List PT} {t : PT} (hl : FitL (h + 1) m c (l ++ [t])) (h0 : l ≠ []) : Fit h (m + 3) (c + 3) (makeT l t) := by
  obtain ⟨a1, a2, a3, a4, a5⟩ := hl
  obtain ⟨k, i, s, q⟩ := t
  rw [formsOk_app, FormsOk, FormsOk, FormOk] at a1
  rw [depths_app, depthsT, depthsT, Nat.max_zero] at a2
  rw [nums_app, nums_one, numT, List.length_append] at a3
  simp only [List.length_cons, List.length_nil] at a3
  have w1 := a4
  rw [ws_app, ws_one] at a4
  rw [ls_app, ls_one] at a5
  have hl1 : 1 ≤ l.length := List.length_pos_iff.2 h0
  rw [makeT, if_neg h0]
  by_cases hk : k = 5 ∨ k = 6
  · rw [if_pos hk]
    have hn : nestB k = true := by unfold nestB; rcases hk with rfl | rfl <;> rfl
    rw [depthT, if_pos hn] at a2
    have hne : l ++ q ≠ [] := by simp [h0]
    rcases hk with rfl | rfl
    · have e1 := w_items (k := 5) (i := 0) (s := ⟨#[]⟩) (l := l ++ q) (.inl rfl)
      have e2 := w_items (k := 5) (i := i) (s := s) (l := q) (.inl rfl)
      rw [if_neg hne, if_pos rfl, ws_app] at e1
      rw [if_pos rfl] at e2
      rw [l_items (.inl rfl)] at a5
      refine ⟨?_, ?_, ?_, ?_, ?_⟩
      · rw [FormOk]; exact ⟨by simp [formB], (formsOk_app _ _).2 ⟨a1.1, a1.2.1.2⟩⟩
      · rw [depthT, if_pos (by decide), depths_app]; omega
      · rw [numT, nums_app]; omega
      · split at e2 <;> omega
      · rw [l_items (.inl rfl), ls_app]; omega
    · have hq : 2 ≤ q.length ∧ Dat.tailB q = true := by
        have := a1.2.1.1
        simp [formB] at this
        exact ⟨this.1.2, this.2⟩
      have hq0 : q ≠ [] := by rintro rfl; simp at hq
      have eq1 := (List.dropLast_concat_getLast hq0).symm
      have hd0 : q.dropLast ≠ [] := by intro e0; have := congrArg List.length e0; simp at this; omega
      have e1 := w_dotted (i := 0) (s := ⟨#[]⟩) (l := l ++ q.dropLast) (t := q.getLast hq0) (by simp [h0])
      have e2 := w_dotted (i := i) (s := s) (l := q.dropLast) (t := q.getLast hq0) hd0
      have e3 := l_dotted (i := 0) (s := ⟨#[]⟩) (l := l ++ q.dropLast) (t := q.getLast hq0)
      have e4 := l_dotted (i := i) (s := s) (l := q.dropLast) (t := q.getLast hq0)
      rw [List.append_assoc, ← eq1] at e1 e3
      rw [← eq1] at e2 e4
      rw [ws_app] at e1
      rw [ls_app] at e3
      refine ⟨?_, ?_, ?_, ?_, ?_⟩
      · rw [FormOk]
        refine ⟨?_, (formsOk_app _ _).2 ⟨a1.1, a1.2.1.2⟩⟩
        have : Dat.tailB (l ++ q) = true := by rw [tailB_app hq0]; exact hq.2
        simp [formB, this]; omega
      · rw [depthT, if_pos (by decide), depths_app]; omega
      · rw [numT, nums_app]; omega
      · omega
      · omega
  · rw [if_neg hk]
    have e1 := w_dotted (i := 0) (s := ⟨#[]⟩) (l := l) (t := .mk k i s q) h0
    have e3 := l_dotted (i := 0) (s := ⟨#[]⟩) (l := l) (t := .mk k i s q)
    rw [ls_app, ls_one] at e3
    refine ⟨?_, ?_, ?_, ?_, ?_⟩
    · rw [FormOk]
      refine ⟨?_, (formsOk_app _ _).2 ⟨a1.1, by rw [FormsOk, FormsOk, FormOk]; exact a1.2⟩⟩
      have : Dat.tailB (l ++ [.mk k i s q]) = true := by
        rw [tailB_app (by simp)]
        have h5 : k ≠ 5 := fun e => hk (.inl e)
        have h6 : k ≠ 6 := fun e => hk (.inr e)
        simp [Dat.tailB, Dat.PT.kind, h5, h6]
      simp [formB, this]; omega
    · rw [depthT, if_pos (by decide), depths_app, depthsT, depthsT, Nat.max_zero]; omega
    · rw [numT, nums_app, nums_one, numT]; omega
    · omega
    · omega

/-! ### what is open -/
structure OpFit (h m c : Nat) (o : Op) : Prop where
  low : h < 32
  row : ∃ m' c', FitL (h + 1) m' c' o.list ∧ c' + 1 ≤ c ∧ m' + 1 ≤ m ∧ (o.kind = 3 ∧ o.list = [] ∧ o.dot = -1 ∨ (o.kind = 0 ∨ o.kind = 2) ∧ o.dot = -1 ∨ o.kind = 0 ∧ 1 ≤ o.dot ∧ ((o.list.length : Int) = o.dot ∨ (o.list.length : Int) = o.dot + 1) ∧ m' + 2 ≤ m ∧ c' + 2 ≤ c)
/-- All that is open; but for the last one, none is full. -/
def StFit (m c : Nat) : List Op → Prop
  | [] => True
  | o :: st => fullB (topM st) = false ∧ ∃ m1 c1 m2 c2, m1 + m2 ≤ m ∧ c1 + c2 ≤ c ∧ OpFit st.length m1 c1 o ∧ StFit m2 c2 st
theorem give_fit : ∀ (st : List Op) {m c m' c' mo co : Nat} {out : List PT} {d : PT}, StFit m c st → fullB (topM st) = false → Fit st.length m' c' d → FitL 0 mo co out →
    ∃ m1 c1 m2 c2, m1 + m2 ≤ m + m' + mo ∧ c1 + c2 ≤ c + c' + co ∧ StFit m1 c1 (giveM st out d).1 ∧ FitL 0 m2 c2 (giveM st out d).2
  | [], m, c, m', c', mo, co, out, d, _, _, hd, ho => by
    refine ⟨0, 0, mo + m', co + c', by omega, by omega, ?_, ?_⟩
    · unfold giveM; rw [endedM]; rw [StFit]; trivial
    · unfold giveM; rw [endedM]; simpa using ho.snoc hd
  | o :: st, m, c, m', c', mo, co, out, d, hs, hf, hd, ho => by
    rw [StFit] at hs
    obtain ⟨hfull, m1, c1, m2, c2, h1, h2, ⟨hlow, m3, c3, hrow, h3, h4, hw⟩, hst⟩ := hs
    by_cases hk : o.kind = 3
    · have hq := fit_quote (h := st.length) (by simpa using hd)
      have ih := give_fit st hst hfull hq ho
      have e : giveM (o :: st) out d = giveM st out (quoteD d) := by unfold giveM; rw [endedM, if_pos hk]
      rw [e]
      obtain ⟨a, b, x, y, i1, i2, i3, i4⟩ := ih
      exact ⟨a, b, x, y, by omega, by omega, i3, i4⟩
    · have e : giveM (o :: st) out d = (⟨o.kind, o.list ++ [d], o.dot⟩ :: st, out) := by unfold giveM; rw [endedM, if_neg hk]; simp
      rw [e]
      have hd' : Fit (st.length + 1) m' c' d := by simpa using hd
      refine ⟨m1 + m' + m2, c1 + c' + c2, mo, co, by omega, by omega, ?_, ho⟩
      rw [StFit]
      refine ⟨hfull, m1 + m', c1 + c', m2, c2, by omega, by omega, ⟨hlow, m3 + m', c3 + c', hrow.snoc hd', by omega, by omega, ?_⟩, hst⟩
      simp only
      rcases hw with hw | hw | ⟨w1, w2, w3, w4, w5⟩
      · exact absurd hw.1 hk
      · exact .inr (.inl hw)
      · refine .inr (.inr ⟨w1, w2, .inr ?_, by omega, by omega⟩)
        have hnf : fullB o = false := hf
        unfold fullB at hnf
        simp only [Bool.and_eq_false_iff, decide_eq_false_iff_not] at hnf
        rw [List.length_append]
        simp only [List.length_cons, List.length_nil]
        omega
theorem closed_fit {h m c : Nat} {o : Op} (ho : OpFit h m c o) (hk : o.kind ≠ 3) (hd : ¬ (0 ≤ o.dot ∧ fullB o = false)) : Fit h (m + 1) (c + 1) (closedM o) := by
  obtain ⟨hlow, m3, c3, hrow, h3, h4, hw⟩ := ho
  unfold closedM
  rcases hw with hw | hw | ⟨w1, w2, w3, w4, w5⟩
  · exact absurd hw.1 hk
  · by_cases h2 : o.kind = 2
    · rw [if_pos h2]
      exact (fit_items hrow (.inr rfl)).le (by omega) (by omega)
    · rw [if_neg h2, if_pos (by omega)]
      exact (fit_items hrow (.inl rfl)).le (by omega) (by omega)
  · rw [if_neg (by omega), if_neg (by omega)]
    have hfl : fullB o = true := by
      cases hb : fullB o with
      | true => rfl
      | false => exact absurd ⟨by omega, hb⟩ hd
    unfold fullB at hfl
    simp only [Bool.and_eq_true, decide_eq_true_eq] at hfl
    have hlt : o.dot.toNat < o.list.length := by omega
    have e1 : o.list.getD o.dot.toNat (.mk 0 0 ⟨#[]⟩ []) = o.list[o.dot.toNat] := by simp [List.getD, List.getElem?_eq_getElem hlt]
    have e2 : o.list = o.list.take o.dot.toNat ++ [o.list[o.dot.toNat]] := by
      rw [← List.take_succ_eq_append_getElem hlt, List.take_of_length_le (by omega)]
    rw [e1]
    rw [e2] at hrow
    refine (fit_make hrow ?_).le (by omega) (by omega)
    intro e
    have := congrArg List.length e
    simp only [List.length_take, List.length_nil] at this
    omega

/-! ### tokens -/
/-- A token of so many bytes says no more than so much. -/
def TkFine (t : Tk) (n : Nat) : Prop := 1 ≤ n ∧ (t.kind = 0 ∨ t.kind = 1 ∨ t.kind = 2 ∨ t.kind = 3 ∨ t.kind = 4 ∨ 5 ≤ t.kind ∧ t.kind ≤ 9 ∧ Fit 0 1 n (leafD t))
def spans (ts : List TkP) : Nat := (ts.map fun p => p.b - p.a).sum
theorem run_fit (N : Nat) : ∀ (ts : List TkP) (st : List Op) (out : List PT) {m c mo co : Nat} {l : List PT}, (∀ p ∈ ts, TkFine p.t (p.b - p.a)) → StFit m c st → FitL 0 mo co out → runM N st out ts = (l, 0, 0) → FitL 0 (m + mo + ts.length) (c + co + spans ts) l
  | [], st, out, m, c, mo, co, l, _, hs, ho, h => by
    rw [run_nil] at h
    split at h
    · have : out = l := congrArg Prod.fst h
      subst this
      exact ho.le (by omega) (by omega)
    · cases h
  | p :: ts, st, out, m, c, mo, co, l, hf, hs, ho, h => by
    have hp := hf p (List.mem_cons_self ..)
    have hf' := fun q hq => hf q (List.mem_cons_of_mem _ hq)
    have hsp : spans (p :: ts) = (p.b - p.a) + spans ts := by simp [spans]
    obtain ⟨hp1, hp2⟩ := hp
    have hm : mayM st p.t.kind = 0 := by
      by_cases hm : mayM st p.t.kind = 0
      · exact hm
      · rw [run_bad hm] at h
        have : mayM st p.t.kind = 0 := congrArg (fun q => q.2.2) h
        exact this
    rw [run_next hm] at h
    by_cases ho3 : p.t.kind = 0 ∨ p.t.kind = 2 ∨ p.t.kind = 3
    · have hst : stepM st out p.t = (⟨p.t.kind, [], -1⟩ :: st, out) := by unfold stepM; rw [if_pos ho3]
      rw [hst] at h
      have hmay := hm
      unfold mayM at hmay
      rw [if_neg (by omega), if_neg (by omega)] at hmay
      split at hmay
      · cases hmay
      · rename_i hfull
        split at hmay
        · cases hmay
        · rename_i hlow
          have h32 : st.length < 32 := by
            rcases Nat.lt_or_ge st.length 32 with h | h
            · exact h
            · exact absurd ⟨ho3, h⟩ hlow
          have hs2 : StFit (m + 1) (c + 1) (⟨p.t.kind, [], -1⟩ :: st) := by
            rw [StFit]
            refine ⟨by simpa using hfull, 1, 1, m, c, by omega, by omega, ⟨h32, 0, 0, FitL.none (by omega), by omega, by omega, ?_⟩, hs⟩
            simp only
            by_cases h3 : p.t.kind = 3
            · exact .inl ⟨h3, trivial, trivial⟩
            · exact .inr (.inl ⟨by omega, trivial⟩)
          have := run_fit N ts _ out hf' hs2 ho h
          exact this.le (by simp only [List.length_cons]; omega) (by omega)
    by_cases h4 : p.t.kind = 4
    · have hst : stepM st out p.t = (⟨(topM st).kind, (topM st).list, ((topM st).list.length : Int)⟩ :: st.tail, out) := by unfold stepM; rw [if_neg ho3, if_pos h4]
      rw [hst] at h
      have hmay := hm
      unfold mayM at hmay
      rw [if_neg (by omega), if_pos h4] at hmay
      split at hmay
      · cases hmay
      · rename_i hno
        match st, hs, h, hno with
        | [], _, _, hno => exact absurd (.inl (by simp [topM])) hno
        | o :: st, hs, h, hno =>
          simp only [topM, List.headD_cons, List.tail_cons] at h hno
          rw [StFit] at hs
          obtain ⟨hfull, m1, c1, m2, c2, h1, h2, ⟨hlow, m3, c3, hrow, h3, h4', hw⟩, hst2⟩ := hs
          have hk0 : o.kind = 0 := by
            rcases Classical.em (o.kind = 0) with e | e
            · exact e
            · exact absurd (.inl e) hno
          have hd0 : ¬ 0 ≤ o.dot := fun e => hno (.inr (.inl e))
          have hl0 : o.list ≠ [] := fun e => hno (.inr (.inr e))
          have hlen : 1 ≤ o.list.length := List.length_pos_iff.2 hl0
          have hs2 : StFit (m + 1) (c + 1) (⟨o.kind, o.list, (o.list.length : Int)⟩ :: st) := by
            rw [StFit]
            refine ⟨hfull, m1 + 1, c1 + 1, m2, c2, by omega, by omega, ⟨hlow, m3, c3, hrow, by omega, by omega, ?_⟩, hst2⟩
            exact .inr (.inr ⟨hk0, by simp only []; omega, .inl rfl, by omega, by omega⟩)
          have := run_fit N ts _ out hf' hs2 ho h
          exact this.le (by simp only [List.length_cons]; omega) (by omega)
    by_cases h1 : p.t.kind = 1
    · have hst : stepM st out p.t = giveM st.tail out (closedM (topM st)) := by unfold stepM; rw [if_neg ho3, if_neg h4, if_pos h1]
      rw [hst] at h
      have hmay := hm
      unfold mayM at hmay
      rw [if_pos h1] at hmay
      split at hmay
      · cases hmay
      · rename_i hno
        match st, hs, h, hno with
        | [], _, _, hno => exact absurd (.inl (by simp [topM])) hno
        | o :: st, hs, h, hno =>
          simp only [topM, List.headD_cons, List.tail_cons] at h hno
          rw [StFit] at hs
          obtain ⟨hfull, m1, c1, m2, c2, h1', h2, hop, hst2⟩ := hs
          have hk3 : o.kind ≠ 3 := fun e => hno (.inr (.inl e))
          have hdd : ¬ (0 ≤ o.dot ∧ fullB o = false) := fun e => hno (.inr (.inr e))
          have hcl := closed_fit hop hk3 hdd
          obtain ⟨a, b, x, y, i1, i2, i3, i4⟩ := give_fit st hst2 hfull hcl ho
          have := run_fit N ts _ _ hf' i3 i4 h
          exact this.le (by simp only [List.length_cons]; omega) (by omega)
    · have hst : stepM st out p.t = giveM st out (leafD p.t) := by unfold stepM; rw [if_neg ho3, if_neg h4, if_neg h1]
      rw [hst] at h
      have hmay := hm
      unfold mayM at hmay
      rw [if_neg h1, if_neg h4] at hmay
      split at hmay
      · cases hmay
      · rename_i hfull
        have hleaf : Fit 0 1 (p.b - p.a) (leafD p.t) := by
          rcases hp2 with e | e | e | e | e | e
          · exact absurd (.inl e) ho3
          · exact absurd e h1
          · exact absurd (.inr (.inl e)) ho3
          · exact absurd (.inr (.inr e)) ho3
          · exact absurd e h4
          · exact e.2.2
        have hst32 : st.length ≤ 32 := by
          match st, hs with
          | [], _ => simp
          | o :: st, hs =>
            rw [StFit] at hs
            obtain ⟨_, _, _, _, _, _, _, hop, _⟩ := hs
            have := hop.low
            simp only [List.length_cons]; omega
        have hdep : depthT (leafD p.t) = 0 := by
          unfold leafD
          rw [depthT, if_neg]
          have : kindT p.t.kind ≤ 4 := by unfold kindT; split <;> (try split) <;> (try split) <;> (try split) <;> omega
          unfold nestB
          simp; omega
        have hleaf' : Fit st.length 1 (p.b - p.a) (leafD p.t) := ⟨hleaf.form, by rw [hdep]; omega, hleaf.num, hleaf.len, hleaf.tok⟩
        obtain ⟨a, b, x, y, i1, i2, i3, i4⟩ := give_fit st hs (by simpa using hfull) hleaf' ho
        have := run_fit N ts _ _ hf' i3 i4 h
        exact this.le (by simp only [List.length_cons]; omega) (by omega)

/-! ### each token of a source is such -/
theorem decN_lt : ∀ (l : List UInt8) (a : Nat), digsB l = true → decN a l < (a + 1) * 10 ^ l.length
  | [], a, _ => by simp [decN]
  | c :: r, a, h => by
    unfold digsB at h
    rw [List.all_cons, Bool.and_eq_true] at h
    have h1 := (dig8_iff c).1 h.1
    have ih := decN_lt r (a * 10 + (c.toNat - 48)) h.2
    have e : decN a (c :: r) = decN (a * 10 + (c.toNat - 48)) r := rfl
    rw [e]
    refine Nat.lt_of_lt_of_le ih ?_
    rw [List.length_cons, Nat.pow_succ, Nat.mul_comm (10 ^ r.length) 10, ← Nat.mul_assoc]
    exact Nat.mul_le_mul_right _ (by omega)
theorem digits_len {l : List UInt8} (h : digsB l = true) (h0 : l ≠ []) : (Lib.decDigits (decN 0 l)).length ≤ l.length := by
  have h1 := decN_lt l 0 h
  have h2 := List.length_pos_iff.2 h0
  have := Dat.decDigits_len (decN 0 l) (l.length - 1) (by rw [show l.length - 1 + 1 = l.length by omega]; simpa using h1)
  omega
theorem itoa_short {w : List UInt8} (h : numB w = true) : (Lib.itoa (numV w)).length ≤ w.length := by
  rcases num_ways h with ⟨r, rfl, h0, hd, hv⟩ | ⟨r, rfl, h0, hd, hv⟩ | ⟨c, r, rfl, _, _, hd, hv⟩
  · have := digits_len hd h0
    rw [hv]
    unfold Lib.itoa
    rw [if_neg (by omega)]
    simp only [Int.toNat_natCast, List.length_cons]
    omega
  · have := digits_len hd h0
    rw [hv]
    unfold Lib.itoa
    split
    · simp only [Int.natAbs_neg, Int.natAbs_natCast, List.length_cons]
      omega
    · rename_i hneg
      have e0 : decN 0 r = 0 := by omega
      rw [e0]
      have : (Lib.decDigits (-((0 : Nat) : Int)).toNat).length = 1 := by decide +kernel
      rw [this]
      simp
  · have h0 : (c :: r) ≠ [] := by simp
    have := digits_len hd h0
    rw [hv]
    unfold Lib.itoa
    rw [if_neg (by omega)]
    simpa using this
end Go.Proofs.YthfjlcflpneffaaGreatDoor
