/-
What is open, step by step: how large it is; pure. No condition.
-/
import Derived.Test.YthfjlcflpneffaaGreatDoorB5
namespace Go.Proofs.YthfjlcflpneffaaGreatDoor
open Go.ChangeShapes Go.WideShapes Go.ChangeAt Go.RowKit
open Dat (PT makeT nestB numT numsT)

theorem len_nums : ∀ l : List PT, l.length ≤ numsT l
  | [] => Nat.zero_le _
  | .mk k i s q :: l => by
    have := len_nums l
    rw [numsT, numT, List.length_cons]; omega
theorem st_nums : ∀ {st : List Op} {m c : Nat}, StFit m c st → st.length ≤ 32 ∧ ∀ o ∈ st, (o.kind = 0 ∨ o.kind = 2 ∨ o.kind = 3) ∧ (-1 ≤ o.dot ∧ o.dot ≤ m) ∧ o.list.length ≤ m ∧ numsT o.list ≤ 2 * m ∧ (0 ≤ o.dot → o.kind = 0)
  | [], _, _, _ => ⟨by simp, fun o h => by cases h⟩
  | o :: st, m, c, h => by
    rw [StFit] at h
    obtain ⟨_, m1, c1, m2, c2, h1, h2, ⟨hlow, m3, c3, hrow, h3, h4, hw⟩, hst⟩ := h
    obtain ⟨i1, i2⟩ := st_nums hst
    refine ⟨by simp only [List.length_cons]; omega, fun p hp => ?_⟩
    rcases List.mem_cons.1 hp with rfl | hp
    · have hn := hrow.num
      have hl := len_nums p.list
      refine ⟨by omega, ⟨by omega, by omega⟩, by omega, by omega, fun hd => by omega⟩
    · obtain ⟨a1, a2, a3, a4, a5⟩ := i2 p hp
      exact ⟨a1, ⟨a2.1, by omega⟩, by omega, by omega, a5⟩
theorem fitL_len {h m c : Nat} {l : List PT} (hl : FitL h m c l) : l.length ≤ m := by
  have := hl.num
  have := len_nums l
  omega
theorem step_fit {st : List Op} {out : List PT} {m c mo co n : Nat} {t : Tk} (hp : TkFine t n) (hs : StFit m c st) (ho : FitL 0 mo co out) (hm : mayM st t.kind = 0) :
    ∃ m1 c1 m2 c2, m1 + m2 ≤ m + mo + 1 ∧ StFit m1 c1 (stepM st out t).1 ∧ FitL 0 m2 c2 (stepM st out t).2 := by
  obtain ⟨_, hp2⟩ := hp
  by_cases ho3 : t.kind = 0 ∨ t.kind = 2 ∨ t.kind = 3
  · have hst : stepM st out t = (⟨t.kind, [], -1⟩ :: st, out) := by unfold stepM; rw [if_pos ho3]
    rw [hst]
    unfold mayM at hm
    rw [if_neg (by omega), if_neg (by omega)] at hm
    split at hm
    · cases hm
    · rename_i hfull
      split at hm
      · cases hm
      · rename_i hlow
        have h32 : st.length < 32 := by
          rcases Nat.lt_or_ge st.length 32 with h | h
          · exact h
          · exact absurd ⟨ho3, h⟩ hlow
        refine ⟨m + 1, c + 1, mo, co, by omega, ?_, ho⟩
        rw [StFit]
        refine ⟨by simpa using hfull, 1, 1, m, c, by omega, by omega, ⟨h32, 0, 0, FitL.none (by omega), by omega, by omega, ?_⟩, hs⟩
        simp only
        by_cases h3 : t.kind = 3
        · exact .inl ⟨h3, trivial, trivial⟩
        · exact .inr (.inl ⟨by omega, trivial⟩)
  by_cases h4 : t.kind = 4
  · have hst : stepM st out t = (⟨(topM st).kind, (topM st).list, ((topM st).list.length : Int)⟩ :: st.tail, out) := by unfold stepM; rw [if_neg ho3, if_pos h4]
    rw [hst]
    unfold mayM at hm
    rw [if_neg (by omega), if_pos h4] at hm
    split at hm
    · cases hm
    · rename_i hno
      match st, hs, hno with
      | [], _, hno => exact absurd (.inl (by simp [topM])) hno
      | o :: st, hs, hno =>
        simp only [topM, List.headD_cons, List.tail_cons] at hno ⊢
        rw [StFit] at hs
        obtain ⟨hfull, m1, c1, m2, c2, h1, h2, ⟨hlow, m3, c3, hrow, h3, h4', hw⟩, hst2⟩ := hs
        have hk0 : o.kind = 0 := by
          rcases Classical.em (o.kind = 0) with e | e
          · exact e
          · exact absurd (.inl e) hno
        have hd0 : ¬ 0 ≤ o.dot := fun e => hno (.inr (.inl e))
        have hl0 : o.list ≠ [] := fun e => hno (.inr (.inr e))
        have hlen : 1 ≤ o.list.length := List.length_pos_iff.2 hl0
        refine ⟨m + 1, c + 1, mo, co, by omega, ?_, ho⟩
        rw [StFit]
        refine ⟨hfull, m1 + 1, c1 + 1, m2, c2, by omega, by omega, ⟨hlow, m3, c3, hrow, by omega, by omega, ?_⟩, hst2⟩
        exact .inr (.inr ⟨hk0, by simp only []; omega, .inl rfl, by omega, by omega⟩)
  by_cases h1 : t.kind = 1
  · have hst : stepM st out t = giveM st.tail out (closedM (topM st)) := by unfold stepM; rw [if_neg ho3, if_neg h4, if_pos h1]
    rw [hst]
    unfold mayM at hm
    rw [if_pos h1] at hm
    split at hm
    · cases hm
    · rename_i hno
      match st, hs, hno with
      | [], _, hno => exact absurd (.inl (by simp [topM])) hno
      | o :: st, hs, hno =>
        simp only [topM, List.headD_cons, List.tail_cons] at hno ⊢
        rw [StFit] at hs
        obtain ⟨hfull, m1, c1, m2, c2, h1', h2, hop, hst2⟩ := hs
        have hk3 : o.kind ≠ 3 := fun e => hno (.inr (.inl e))
        have hdd : ¬ (0 ≤ o.dot ∧ fullB o = false) := fun e => hno (.inr (.inr e))
        have hcl := closed_fit hop hk3 hdd
        obtain ⟨a, b, x, y, i1, i2, i3, i4⟩ := give_fit st hst2 hfull hcl ho
        exact ⟨a, b, x, y, by omega, i3, i4⟩
  · have hst : stepM st out t = giveM st out (leafD t) := by unfold stepM; rw [if_neg ho3, if_neg h4, if_neg h1]
    rw [hst]
    unfold mayM at hm
    rw [if_neg h1, if_neg h4] at hm
    split at hm
    · cases hm
    · rename_i hfull
      have hleaf : Fit 0 1 n (leafD t) := by
        rcases hp2 with e | e | e | e | e | e
        · exact absurd (.inl e) ho3
        · exact absurd e h1
        · exact absurd (.inr (.inl e)) ho3
        · exact absurd (.inr (.inr e)) ho3
        · exact absurd e h4
        · exact e.2.2
      have hst32 := (st_nums hs).1
      have hdep : depthT (leafD t) = 0 := by
        unfold leafD
        rw [depthT, if_neg]
        have : kindT t.kind ≤ 4 := by unfold kindT; split <;> (try split) <;> (try split) <;> (try split) <;> omega
        unfold nestB
        simp; omega
      have hleaf' : Fit st.length 1 n (leafD t) := ⟨hleaf.form, by rw [hdep]; omega, hleaf.num, hleaf.len, hleaf.tok⟩
      obtain ⟨a, b, x, y, i1, i2, i3, i4⟩ := give_fit st hs (by simpa using hfull) hleaf' ho
      exact ⟨a, b, x, y, by omega, i3, i4⟩
end Go.Proofs.YthfjlcflpneffaaGreatDoor
