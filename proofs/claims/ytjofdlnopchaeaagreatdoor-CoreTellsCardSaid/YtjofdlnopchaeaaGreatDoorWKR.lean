/-
Texts K81, K82, one behind the other (a claim bears sixty files). Conditions: as each says.
-/
import Derived.Test.YtjofdlnopchaeaaGreatDoorWKJ

/-
The document's expression of a datum (trees alone), and that of an expression's datum it is the expression. No condition.
-/
namespace Go.Proofs.YtjofdlnopchaeaaGreatDoor.Core
open Go.ChangeShapes Go.WideShapes Go.ChangeAt Go.RowKit Go.Deep
open Dat (PT ok64 sameB)
set_option maxRecDepth 100000

/-- What is no expression. -/
def badE : PE := .mk (-1) ⟨#[]⟩ [] PT0 []
open Classical in
/-- Which kind a word says; 11: none. -/
noncomputable def kindD (d : PT) : Nat := ((List.range 11).find? fun (k : Nat) => decide (k ≠ 1) && sameB d (symT (wordS (k : Int)))).getD 11
mutual
/-- The document's expression of a datum. -/
noncomputable def exprT : PT → PE
  | .mk k _ s l =>
    if k = 4 then .mk 1 s [] PT0 []
    else if k = 5 then
      match l with
      | w :: .mk dk di ds dl :: others =>
        if kindD w = 0 then .mk 0 ⟨#[]⟩ [] (.mk dk di ds dl) []
        else if kindD w = 2 ∨ kindD w = 7 then .mk (kindD w : Nat) ds [] PT0 (exprTs others)
        else if kindD w = 5 then .mk 5 ⟨#[]⟩ (dl.map txt) PT0 (exprTs others)
        else if kindD w = 8 ∨ kindD w = 9 ∨ kindD w = 10 then
          match exprBs dl with
          | some (ns, ks) => .mk (kindD w : Nat) ⟨#[]⟩ ns PT0 (ks ++ exprTs others)
          | none => badE
        else if kindD w = 11 then badE
        else .mk (kindD w : Nat) ⟨#[]⟩ [] PT0 (exprT (.mk dk di ds dl) :: exprTs others)
      | _ => badE
    else badE
noncomputable def exprTs : List PT → List PE
  | [] => []
  | d :: l => exprT d :: exprTs l
noncomputable def exprBs : List PT → Option (List ByteArray × List PE)
  | [] => some ([], [])
  | .mk _ _ _ [.mk _ _ s _, b] :: l => (exprBs l).map fun x => (s :: x.1, exprT b :: x.2)
  | _ :: _ => none
end
theorem sym_ne {a b : ByteArray} (h : a ≠ b) : sameB (symT a) (symT b) = false := by
  unfold symT
  rw [Bool.eq_false_iff]
  intro h2
  exact h ((Dat.sameB_mk _ _ _ _ _ _ _ _).1 h2).2.2.1
theorem kindD_word {k : Nat} (hk : k < 11) (h1 : k ≠ 1) : kindD (symT (wordS (k : Int))) = k := by
  have hinj : ∀ a b : Fin 11, a.val ≠ b.val → wordS (a.val : Int) ≠ wordS (b.val : Int) := by decide +kernel
  unfold kindD
  have hf : (List.range 11).find? (fun (j : Nat) => decide (j ≠ 1) && sameB (symT (wordS (k : Int))) (symT (wordS (j : Int)))) = some k := by
    rw [List.find?_eq_some_iff_append]
    refine ⟨by simp [h1, Dat.sameB_refl], List.range k, (List.range' (k + 1) (10 - k)), ?_, fun j hj => ?_⟩
    · rw [List.range_eq_range', List.range_eq_range', show (11 : Nat) = k + (1 + (10 - k)) by omega, ← List.range'_append_1, ← List.range'_append_1]
      simp
    · have hj2 := List.mem_range.1 hj
      rw [sym_ne (hinj ⟨k, hk⟩ ⟨j, by omega⟩ (by show k ≠ j; omega))]
      simp
  rw [hf]
  rfl
theorem exprBs_bind : ∀ (ns : List ByteArray) (l : List PT), ns.length ≤ l.length → exprBs (bindT ns l) = some (ns, (exprTs l).take ns.length)
  | [], l, _ => by simp [bindT, exprBs]
  | n :: ns, [], h => by simp at h
  | n :: ns, d :: l, h => by
    rw [bindT]
    unfold listT symT
    rw [exprBs, exprBs_bind ns l (by simpa using h), exprTs]
    simp
theorem exprTs_drop : ∀ (l : List PT) (n : Nat), exprTs (l.drop n) = (exprTs l).drop n
  | [], n => by simp [exprTs]
  | d :: l, 0 => rfl
  | d :: l, n + 1 => by rw [List.drop_succ_cons, exprTs_drop l n, exprTs, List.drop_succ_cons]
mutual
/-- The document's expression of an expression's datum is the expression. -/
theorem expr_data : ∀ t : PE, okE t → exprT (dataT t) = t
  | .mk k nm ns d l, ho => by
    rw [okE] at ho
    have ih := exprs_data l ho.2.2.2
    have h := ho.1
    obtain ⟨dk, di, ds, dl⟩ := d
    obtain rfl := form_nil h
    unfold formE fieldsB nameOkB namesOkB constOkB kidsB at h
    simp only [Bool.and_eq_true] at h
    obtain ⟨hk, ⟨hn, hs⟩, hc⟩ := h
    have nmE : ¬ (k = 1 ∨ k = 2) → k ≠ 7 → nm = ⟨#[]⟩ := fun h1 h2 => by
      rw [if_neg h1, if_neg h2] at hn
      have h3 : nm.toList = [] := of_decide_eq_true hn
      exact Classical.byContradiction fun hne => by
        have := text_ne hne
        rw [h3] at this
        exact absurd this (by decide +kernel)
    have nsE : ¬ (k = 5 ∨ k = 8 ∨ k = 9 ∨ k = 10) → ns = [] := fun h1 => by
      rw [if_neg h1] at hs
      exact List.length_eq_zero_iff.1 (of_decide_eq_true hs)
    have dE : k ≠ 0 → (.mk dk di ds [] : PT) = PT0 := fun h1 => by
      rw [if_neg h1] at hc
      unfold PT0 at hc ⊢
      obtain ⟨rfl, rfl, rfl, _⟩ := (Dat.sameB_mk _ _ _ _ _ _ _ _).1 hc
      rfl
    have hlen := dataTs_len l
    have hw : ∀ j : Nat, j < 11 → j ≠ 1 → kindD (symT (wordS (j : Int))) = j := fun j h1 h2 => kindD_word h1 h2
    have hl5 : ∀ m, exprT (listT m) = exprT (.mk 5 0 ⟨#[]⟩ m) := fun m => rfl
    by_cases h0 : k = 0
    · subst h0
      obtain rfl := nmE (by omega) (by omega)
      obtain rfl := nsE (by omega)
      have hl : l = [] := by simpa using hk
      subst hl
      rw [dataT, if_pos rfl, hl5, exprT]
      have := hw 0 (by omega) (by omega)
      simp only [Int.cast_ofNat_Int] at this
      simp [this]
    rw [dE h0]
    by_cases h1 : k = 1
    · subst h1
      obtain rfl := nsE (by omega)
      have hl : l = [] := by simpa using hk
      subst hl
      rw [dataT, if_neg h0, if_pos rfl]
      simp [exprT, symT]
    have w2 : kindD (symT (wordS 2)) = 2 := hw 2 (by omega) (by omega)
    have w3 : kindD (symT (wordS 3)) = 3 := hw 3 (by omega) (by omega)
    have w4 : kindD (symT (wordS 4)) = 4 := hw 4 (by omega) (by omega)
    have w5 : kindD (symT (wordS 5)) = 5 := hw 5 (by omega) (by omega)
    have w6 : kindD (symT (wordS 6)) = 6 := hw 6 (by omega) (by omega)
    have w7 : kindD (symT (wordS 7)) = 7 := hw 7 (by omega) (by omega)
    have w8 : kindD (symT (wordS 8)) = 8 := hw 8 (by omega) (by omega)
    have w9 : kindD (symT (wordS 9)) = 9 := hw 9 (by omega) (by omega)
    have w10 : kindD (symT (wordS 10)) = 10 := hw 10 (by omega) (by omega)
    by_cases h27 : k = 2 ∨ k = 7
    · obtain rfl := nsE (by omega)
      rw [dataT, if_neg h0, if_neg h1, if_pos h27]
      show exprT (.mk 5 0 ⟨#[]⟩ (symT (wordS k) :: .mk 4 0 nm [] :: dataTs l)) = _
      rw [exprT]
      rcases h27 with rfl | rfl
      · simp [w2, ih]
      · simp [w7, ih]
    obtain rfl := nmE (by omega) (by omega)
    by_cases h5 : k = 5
    · subst h5
      rw [dataT, if_neg h0, if_neg h1, if_neg (by omega), if_pos rfl]
      show exprT (.mk 5 0 ⟨#[]⟩ (symT (wordS 5) :: .mk 5 0 ⟨#[]⟩ (ns.map symT) :: dataTs l)) = _
      rw [exprT]
      have := txt_sym ns
      rw [List.map_map] at this
      simp [w5, ih, this]
    by_cases h8 : k = 8 ∨ k = 9 ∨ k = 10
    · have hl : l.length = ns.length + 1 := by
        rcases h8 with rfl | rfl | rfl
        · simpa using hk
        · simpa using hk
        · simp at hk; exact hk.1.2
      have hb := exprBs_bind ns (dataTs l) (by omega)
      rw [ih] at hb
      have hd := exprTs_drop (dataTs l) ns.length
      rw [ih] at hd
      rw [dataT, if_neg h0, if_neg h1, if_neg (by omega), if_neg h5, if_pos h8]
      show exprT (.mk 5 0 ⟨#[]⟩ (symT (wordS k) :: .mk 5 0 ⟨#[]⟩ (bindT ns (dataTs l)) :: (dataTs l).drop ns.length)) = _
      rw [exprT]
      rcases h8 with rfl | rfl | rfl
      · simp [w8, hb, hd]
      · simp [w9, hb, hd]
      · simp [w10, hb, hd]
    obtain rfl := nsE (by omega)
    rw [dataT, if_neg h0, if_neg h1, if_neg (by omega), if_neg h5, if_neg h8]
    have hkk : k = 3 ∨ k = 4 ∨ k = 6 := Classical.byContradiction fun hne => by
      have h2 : ¬ k = 2 := fun h => h27 (.inl h)
      have h7 : ¬ k = 7 := fun h => h27 (.inr h)
      have h3 : ¬ k = 3 := fun h => hne (.inl h)
      have h4 : ¬ k = 4 := fun h => hne (.inr (.inl h))
      have h6 : ¬ k = 6 := fun h => hne (.inr (.inr h))
      have h9 : ¬ (k = 8 ∨ k = 9) := fun h => h8 (by omega)
      have h10 : ¬ k = 10 := fun h => h8 (by omega)
      simp [h0, h1, h2, h3, h4, h5, h6, h7, h9, h10] at hk
    have hll : 1 ≤ l.length := by
      rcases hkk with rfl | rfl | rfl
      · simp at hk; omega
      · simp at hk; omega
      · simp at hk; omega
    cases hdl : dataTs l with
    | nil => rw [hdl] at hlen; simp at hlen; omega
    | cons d1 others =>
      rw [hdl, exprTs] at ih
      obtain ⟨a1, a2, a3, a4⟩ := d1
      show exprT (.mk 5 0 ⟨#[]⟩ (symT (wordS k) :: .mk a1 a2 a3 a4 :: others)) = _
      rw [exprT]
      rcases hkk with rfl | rfl | rfl
      · simp [w3, ih]
      · simp [w4, ih]
      · simp [w6, ih]
theorem exprs_data : ∀ l : List PE, okEs l → exprTs (dataTs l) = l
  | [], _ => by rw [dataTs, exprTs]
  | t :: l, ho => by
    rw [okEs] at ho
    rw [dataTs, exprTs, expr_data t ho.1, exprs_data l ho.2]
end
/-- What is made of a datum, and the document's expression of it: where the one may be and has this datum, so it is with the other, and they are one. -/
theorem make_agree {d : PT} {n : Nat} {r : Option PE} (h : MadeR 0 d n r) :
    (∀ t, r = some t → checkE t = 0 → dataT t = d → exprT d = t) ∧ (checkE (exprT d) = 0 → dataT (exprT d) = d → r = some (exprT d)) := by
  refine ⟨fun t _ hc hd => ?_, fun hc hd => ?_⟩
  · rw [← hd]
    exact expr_data t (okE_of_check hc)
  · have h2 : MadeR 0 (dataT (exprT d)) n r := by rw [hd]; exact h
    exact (made_back (exprT d) (okE_of_check hc) (by have := nodes_few hc; omega) h2).1
end Go.Proofs.YtjofdlnopchaeaaGreatDoor.Core

/-
The document's expression of a datum (trees alone), loop by loop. No condition.
-/
namespace Go.Proofs.YtjofdlnopchaeaaGreatDoor.Core
open Go.ChangeShapes Go.WideShapes Go.ChangeAt Go.RowKit Go.Deep
open Dat (PT ok64 sameB numT numsT)
set_option maxRecDepth 100000

open Classical in
/-- Which kind has been found when so many were looked at. -/
noncomputable def kdn (d : PT) : Nat → Int
  | 0 => -1
  | j + 1 => if j ≠ 1 ∧ sameB d (symT (wordS (j : Int))) = true then (j : Int) else kdn d j
theorem word_inj : ∀ a b : Fin 11, a.val ≠ b.val → wordS (a.val : Int) ≠ wordS (b.val : Int) := by decide +kernel
theorem same_eq {a b : PT} (h : sameB a b = true) : a = b := by simpa [sameB] using h
theorem kdn_word {k : Nat} (hk : k < 11) (h1 : k ≠ 1) : ∀ j : Nat, k < j → j ≤ 11 → kdn (symT (wordS (k : Int))) j = k
  | 0, h, _ => by omega
  | j + 1, h, hj => by
    rw [kdn]
    by_cases e : j = k
    · subst e
      rw [if_pos ⟨h1, Dat.sameB_refl _⟩]
    · rw [if_neg (fun hh => by
        have := sym_ne (word_inj ⟨k, hk⟩ ⟨j, by omega⟩ (fun e2 => e e2.symm))
        rw [this] at hh
        cases hh.2)]
      exact kdn_word hk h1 j (by omega) (by omega)
theorem kdn_none {d : PT} : ∀ j : Nat, (∀ k : Nat, k < j → k ≠ 1 → sameB d (symT (wordS (k : Int))) = false) → kdn d j = -1
  | 0, _ => rfl
  | j + 1, h => by
    rw [kdn, if_neg (fun hh => by rw [h j (by omega) hh.1] at hh; cases hh.2)]
    exact kdn_none j fun k hk => h k (by omega)
/-- The kind that is found last is the kind. -/
theorem kdn_all (d : PT) : (kindD d = 11 ∧ kdn d 11 = -1) ∨ (kindD d < 11 ∧ kindD d ≠ 1 ∧ kdn d 11 = (kindD d : Int)) := by
  by_cases h : ∃ k, k < 11 ∧ k ≠ 1 ∧ sameB d (symT (wordS ((k : Nat) : Int))) = true
  · obtain ⟨k, hk, h1, hs⟩ := h
    obtain rfl := same_eq hs
    rw [kindD_word hk h1]
    exact .inr ⟨hk, h1, kdn_word hk h1 11 hk (Nat.le_refl _)⟩
  · have hn : ∀ k, k < 11 → k ≠ 1 → sameB d (symT (wordS ((k : Nat) : Int))) = false := fun k hk h1 => by
      rw [Bool.eq_false_iff]
      exact fun e => h ⟨k, hk, h1, e⟩
    refine .inl ⟨?_, kdn_none 11 hn⟩
    unfold kindD
    rw [List.find?_eq_none.2 (fun k hk => ?_)]
    · rfl
    · have hk' := List.mem_range.1 hk
      by_cases h1 : k = 1
      · simp [h1]
      · simp [hn k hk' h1]
theorem exprTs_snoc : ∀ (l : List PT) (d : PT), exprTs (l ++ [d]) = exprTs l ++ [exprT d]
  | [], d => by simp [exprTs]
  | u :: l, d => by rw [List.cons_append, exprTs, exprTs, exprTs_snoc l d, List.cons_append]
theorem exprTs_len : ∀ l : List PT, (exprTs l).length = l.length
  | [] => by simp [exprTs]
  | u :: l => by rw [exprTs, List.length_cons, exprTs_len l, List.length_cons]
theorem exprBs_snoc : ∀ (l : List PT) (k i : Int) (s : ByteArray) (k1 i1 : Int) (s1 : ByteArray) (l1 : List PT) (y : PT), exprBs (l ++ [.mk k i s [.mk k1 i1 s1 l1, y]]) = (exprBs l).map fun x => (x.1 ++ [s1], x.2 ++ [exprT y])
  | [], k, i, s, k1, i1, s1, l1, y => by simp [exprBs]
  | .mk _ _ _ [] :: l, k, i, s, k1, i1, s1, l1, y => by simp [exprBs]
  | .mk _ _ _ [_] :: l, k, i, s, k1, i1, s1, l1, y => by simp [exprBs]
  | .mk _ _ _ (_ :: _ :: _ :: _) :: l, k, i, s, k1, i1, s1, l1, y => by simp [exprBs]
  | .mk _ _ _ [.mk _ _ _ _, b] :: l, k, i, s, k1, i1, s1, l1, y => by
    rw [List.cons_append, exprBs, exprBs, exprBs_snoc l]
    cases exprBs l with
    | none => rfl
    | some x => simp
theorem exprBs_bad : ∀ (l : List PT) (k i : Int) (s : ByteArray) (m : List PT), .mk k i s m ∈ l → m.length ≠ 2 → exprBs l = none
  | [], _, _, _, _, h, _ => by cases h
  | .mk _ _ _ [] :: l, k, i, s, m, h, hm => by simp [exprBs]
  | .mk _ _ _ [_] :: l, k, i, s, m, h, hm => by simp [exprBs]
  | .mk _ _ _ (_ :: _ :: _ :: _) :: l, k, i, s, m, h, hm => by simp [exprBs]
  | .mk _ _ _ [.mk _ _ _ _, b] :: l, k, i, s, m, h, hm => by
    rw [exprBs]
    rcases List.mem_cons.1 h with e | h
    · simp only [PT.mk.injEq] at e
      obtain ⟨_, _, _, rfl⟩ := e
      exact absurd rfl hm
    · rw [exprBs_bad l k i s m h hm]; rfl
theorem exprBs_len : ∀ {l : List PT} {x : List ByteArray × List PE}, exprBs l = some x → x.1.length = l.length ∧ x.2.length = l.length
  | [], x, h => by
    simp only [exprBs, Option.some.injEq] at h
    subst h
    exact ⟨rfl, rfl⟩
  | .mk _ _ _ [] :: l, x, h => by simp [exprBs] at h
  | .mk _ _ _ [_] :: l, x, h => by simp [exprBs] at h
  | .mk _ _ _ (_ :: _ :: _ :: _) :: l, x, h => by simp [exprBs] at h
  | .mk _ _ _ [.mk _ _ _ _, b] :: l, x, h => by
    rw [exprBs] at h
    cases hb : exprBs l with
    | none => rw [hb] at h; cases h
    | some z =>
      rw [hb] at h
      simp only [Option.map_some, Option.some.injEq] at h
      subst h
      have := exprBs_len hb
      exact ⟨by simp [this.1], by simp [this.2]⟩
end Go.Proofs.YtjofdlnopchaeaaGreatDoor.Core
