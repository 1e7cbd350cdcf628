/-
Two sources, one behind the other: their data; pure. No condition.
-/
import Derived.Test.YthfjlcflpneffaaGreatDoorC2
namespace Go.Proofs.YthfjlcflpneffaaGreatDoor
open Go.ChangeShapes Go.WideShapes Go.ChangeAt Go.RowKit
open Dat (PT makeT RepS NewS samesB)

def TkP.shift (D : Nat) (p : TkP) : TkP := ⟨p.t, p.a + D, p.b + D⟩
theorem run_line2 (N N' : Nat) (t : List UInt8) : ∀ (n cnt : Nat) (l : List UInt8), l.length ≤ n → gapS false l = l → (runT N cnt l).2.2 = 0 → l ≠ [] →
    ∃ ps : List TkP, ps.map (·.t) = (runT N cnt l).1.map (·.t) ∧ runT N' cnt (l ++ 10 :: t) = (ps ++ (runT N' (cnt + (runT N cnt l).1.length) (gapS false t)).1, (runT N' (cnt + (runT N cnt l).1.length) (gapS false t)).2)
  | _, cnt, [], _, _, _, h0 => absurd rfl h0
  | n + 1, cnt, c :: r, hn, hg, h, _ => by
    obtain ⟨hc, ho⟩ := runT_stop (by simp) h
    have hlt := rest_lt ho
    have hlen := oneT_len ho
    have hz : Behind (c :: r) (oneT (c :: r)).2.1 ((c :: r).drop (oneT (c :: r)).2.1 ++ 10 :: t) := by
      cases hd : (c :: r).drop (oneT (c :: r)).2.1 with
      | nil => exact .inl (by intro c hc; simp at hc; subst hc; decide +kernel)
      | cons a b => exact .inr (by rw [hd]; rfl)
    have ha := oneT_app ho _ hz
    rw [← List.append_assoc, List.take_append_drop] at ha
    have hr : restT ((c :: r) ++ 10 :: t) = if restT (c :: r) = [] then gapS false t else restT (c :: r) ++ 10 :: t := by
      unfold restT
      rw [ha, List.drop_append_of_le_length hlen.2, gapS_line]
    rw [runT_rest N cnt _ (by simp) hc ho] at h ⊢
    simp only at h
    rw [runT_rest N' cnt ((c :: r) ++ 10 :: t) (by simp) hc (by rw [ha]; exact ho), ha, hr]
    by_cases hr0 : restT (c :: r) = []
    · rw [if_pos hr0, hr0]
      refine ⟨[⟨(oneT (c :: r)).1, N' - ((c :: r) ++ 10 :: t).length, N' - ((c :: r) ++ 10 :: t).length + (oneT (c :: r)).2.1⟩], ?_, ?_⟩
      rotate_left
      · simp only [runT, List.cons_append, List.nil_append, List.length_cons, List.length_nil]
      · simp [runT]
    · rw [if_neg hr0]
      obtain ⟨ps, i1, i2⟩ := run_line2 N N' t n (cnt + 1) (restT (c :: r)) (by simp only [List.length_cons] at hn hlt; omega) (gapS_idem _ _) h hr0
      refine ⟨⟨(oneT (c :: r)).1, N' - ((c :: r) ++ 10 :: t).length, N' - ((c :: r) ++ 10 :: t).length + (oneT (c :: r)).2.1⟩ :: ps, ?_, ?_⟩
      rotate_left
      · rw [i2]
        simp only [List.length_cons, List.cons_append]
        rw [show cnt + ((runT N (cnt + 1) (restT (c :: r))).1.length + 1) = cnt + 1 + (runT N (cnt + 1) (restT (c :: r))).1.length by omega]
      · simp [i1]
theorem run_moved (N D : Nat) : ∀ (n cnt cnt' : Nat) (l : List UInt8), l.length ≤ n → l.length ≤ N → cnt + l.length < 2048 → cnt' + l.length < 2048 → (runT (N + D) cnt' l).1 = (runT N cnt l).1.map (TkP.shift D)
  | _, cnt, cnt', [], _, _, _, _ => by simp [runT]
  | n + 1, cnt, cnt', c :: r, hn, hN, h1, h2 => by
    have hc : cnt ≠ 2048 := by omega
    have hc' : cnt' ≠ 2048 := by omega
    by_cases he : (oneT (c :: r)).2.2 = 0
    · have hlt := rest_lt he
      rw [runT_rest N cnt _ (by simp) hc he, runT_rest (N + D) cnt' _ (by simp) hc' he, List.map_cons,
        run_moved N D n (cnt + 1) (cnt' + 1) (restT (c :: r)) (by simp at hn hlt; omega) (by omega) (by omega) (by omega)]
      have e : N + D - (c :: r).length = N - (c :: r).length + D := by omega
      rw [e]
      simp only [TkP.shift, List.cons.injEq, and_true, TkP.mk.injEq, true_and]
      omega
    · simp [runT_bad _ _ c r hc he, runT_bad _ _ c r hc' he]
theorem give_more (st : List Op) (x out : List PT) (d : PT) : giveM st (x ++ out) d = ((giveM st out d).1, x ++ (giveM st out d).2) := by unfold giveM; simp
theorem step_more (st : List Op) (x out : List PT) (t : Tk) : stepM st (x ++ out) t = ((stepM st out t).1, x ++ (stepM st out t).2) := by
  unfold stepM
  split
  · rfl
  · split
    · rfl
    · split <;> exact give_more ..
theorem runM_moved (N D : Nat) (x : List PT) : ∀ (ts : List TkP) (st : List Op) (out : List PT), runM (N + D) st (x ++ out) (ts.map (TkP.shift D)) = if (runM N st out ts).2.2 = 0 then (x ++ (runM N st out ts).1, 0, 0) else ([], (runM N st out ts).2.1 + D, (runM N st out ts).2.2)
  | [], st, out => by
    rw [List.map_nil, run_nil, run_nil]
    by_cases h : st = [] <;> simp [h]
  | p :: ts, st, out => by
    rw [List.map_cons]
    have e : (TkP.shift D p).t = p.t := rfl
    by_cases hm : mayM st p.t.kind = 0
    · rw [run_next (t := p) hm, run_next (by rw [e]; exact hm), e, step_more]
      exact runM_moved N D x ts _ _
    · rw [run_bad (t := p) hm, run_bad (by rw [e]; exact hm), e, if_neg hm]
      rfl
theorem runM_front {N N' : Nat} {q : List TkP} : ∀ (ts ps : List TkP), ps.map (·.t) = ts.map (·.t) → ∀ (st : List Op) (out : List PT) {l : List PT}, runM N st out ts = (l, 0, 0) → runM N' st out (ps ++ q) = runM N' [] l q
  | [], ps, h, st, out, l, hr => by
    obtain rfl : ps = [] := by simpa using h
    rw [run_nil] at hr
    split at hr
    · rename_i h0
      subst h0
      have : out = l := congrArg Prod.fst hr
      subst this
      rfl
    · cases hr
  | t :: ts, ps, h, st, out, l, hr => by
    obtain ⟨p, ps', rfl, hp, hps⟩ := map_cons (x := t.t) (q := ts.map (·.t)) (by simpa using h)
    have hm : mayM st t.t.kind = 0 := by
      by_cases hm : mayM st t.t.kind = 0
      · exact hm
      · rw [run_bad hm] at hr
        have : mayM st t.t.kind = 0 := congrArg (fun q => q.2.2) hr
        exact this
    rw [run_next hm] at hr
    rw [List.cons_append, run_next (by rw [hp]; exact hm), hp]
    exact runM_front ts ps' hps _ _ hr
theorem read_join {s t : List UInt8} {l : List PT} (h : readT s = (l, 0, 0)) (h1 : s.length ≤ 500) (h2 : t.length ≤ 500) :
    readT (s ++ 10 :: t) = if (readT t).2.2 = 0 then (l ++ (readT t).1, 0, 0) else ([], (readT t).2.1 + (s.length + 1), (readT t).2.2) := by
  have he : (toksT s).2.2 = 0 := by
    by_cases he : (toksT s).2.2 = 0
    · exact he
    · unfold readT at h
      rw [if_pos he] at h
      exact absurd (congrArg (fun q => q.2.2) h : (toksT s).2.2 = 0) he
  have hrs : runM s.length [] [] (toksT s).1 = (l, 0, 0) := by
    unfold readT at h
    rwa [if_neg (by simpa using he)] at h
  obtain ⟨_, k0, k1, _⟩ := toks_ok he
  have hgs := gapS_le false s
  have hgt := gapS_le false t
  have hlen := run_length s.length _ 0 (gapS false s) (Nat.le_refl _)
  rw [k1] at hrs
  have hNl : (s ++ 10 :: t).length = t.length + (s.length + 1) := by simp; omega
  obtain ⟨ps, p1, p2⟩ : ∃ ps : List TkP, ps.map (·.t) = (runT s.length 0 (gapS false s)).1.map (·.t) ∧ runT (t.length + (s.length + 1)) 0 (gapS false (s ++ 10 :: t)) = (ps ++ (runT (t.length + (s.length + 1)) (0 + (runT s.length 0 (gapS false s)).1.length) (gapS false t)).1, (runT (t.length + (s.length + 1)) (0 + (runT s.length 0 (gapS false s)).1.length) (gapS false t)).2) := by
    rw [gapS_line]
    by_cases hs : gapS false s = []
    · rw [if_pos hs, hs]; exact ⟨[], by simp [runT], by simp [runT]⟩
    · rw [if_neg hs]
      exact run_line2 s.length _ t _ 0 (gapS false s) (Nat.le_refl _) (gapS_idem _ _) k0 hs
  generalize (runT s.length 0 (gapS false s)).1 = ts1 at *
  obtain ⟨c1, c2⟩ := run_cnt (t.length + (s.length + 1)) t.length _ (0 + ts1.length) 0 (gapS false t) (Nat.le_refl _) (by omega) (by omega)
  have c3 := run_moved t.length (s.length + 1) _ 0 (0 + ts1.length) (gapS false t) (Nat.le_refl _) hgt (by omega) (by omega)
  have ht : toksT t = if (runT t.length 0 (gapS false t)).2.2 = 0 then ((runT t.length 0 (gapS false t)).1, 0, 0) else ([], (runT t.length 0 (gapS false t)).2) := toks_of (by omega)
  have hst := toks_of (l := s ++ 10 :: t) (by omega)
  rw [hNl, p2] at hst
  simp only at hst
  rw [c1] at hst
  by_cases hz : (runT t.length 0 (gapS false t)).2.2 = 0
  · rw [if_pos hz] at ht hst
    have r1 : readT (s ++ 10 :: t) = runM (t.length + (s.length + 1)) [] [] (ps ++ (runT t.length 0 (gapS false t)).1.map (TkP.shift (s.length + 1))) := by
      unfold readT; rw [hst, if_neg (by simp), c3, hNl]
    have r2 : readT t = runM t.length [] [] (runT t.length 0 (gapS false t)).1 := by unfold readT; rw [ht, if_neg (by simp)]
    have r3 := runM_moved t.length (s.length + 1) l (runT t.length 0 (gapS false t)).1 [] []
    rw [List.append_nil] at r3
    rw [r1, runM_front ts1 ps p1 [] [] hrs, r3, ← r2]
  · rw [if_neg hz] at ht hst
    have hp := run_place t.length (s.length + 1) _ 0 (0 + ts1.length) (gapS false t) (Nat.le_refl _) hgt (by omega) (by omega) hz
    have r2 : readT t = ([], (runT t.length 0 (gapS false t)).2) := by unfold readT; rw [ht, if_pos hz]
    have r1 : readT (s ++ 10 :: t) = ([], (runT (t.length + (s.length + 1)) (0 + ts1.length) (gapS false t)).2) := by unfold readT; rw [hst, if_pos (by rw [c1]; exact hz)]
    rw [r1, r2, if_neg hz]
    exact Prod.ext rfl (Prod.ext hp c1)
end Go.Proofs.YthfjlcflpneffaaGreatDoor
