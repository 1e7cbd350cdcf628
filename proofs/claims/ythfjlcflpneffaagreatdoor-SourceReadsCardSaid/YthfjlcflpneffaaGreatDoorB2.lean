/-
Data out of the tokens of their texts, pure; how deep data are, how many. No condition.
-/
import Derived.Test.YthfjlcflpneffaaGreatDoorB1
namespace Go.Proofs.YthfjlcflpneffaaGreatDoor
open Go.ChangeShapes Go.WideShapes Go.ChangeAt Go.RowKit
open Dat (PT makeT textT textsT FormOk FormsOk joinT tailJ formB shapeT nestB checkB chk chkL numT numsT)

mutual
def depthT : PT → Nat
  | .mk k _ _ l => if nestB k then 1 + depthsT l else 0
def depthsT : List PT → Nat
  | [] => 0
  | t :: l => max (depthT t) (depthsT l)
end
theorem depths_app : ∀ l m : List PT, depthsT (l ++ m) = max (depthsT l) (depthsT m)
  | [], m => by simp [depthsT]
  | t :: l, m => by rw [List.cons_append, depthsT, depthsT, depths_app l m, Nat.max_assoc]

def GivesOk (t : PT) : Prop := ∀ (N n : Nat) (ps r : List TkP), ps.map (·.t) = tkD t → n + depthT t ≤ 32 → Gives N n (ps ++ r) t r
def FailsOk (t : PT) : Prop := ∀ (N n : Nat) (ps r : List TkP), ps.map (·.t) = tkD t → n ≤ 32 → 32 < n + depthT t → ∃ a, Fails N n (ps ++ r) a 43

theorem map_cons {ps : List TkP} {x : Tk} {q : List Tk} (h : ps.map (·.t) = x :: q) : ∃ p ps', ps = p :: ps' ∧ p.t = x ∧ ps'.map (·.t) = q := by
  match ps with
  | [] => cases h
  | p :: ps' => simp only [List.map_cons, List.cons.injEq] at h; exact ⟨p, ps', rfl, h.1, h.2⟩
theorem map_app {ps : List TkP} {x q : List Tk} (h : ps.map (·.t) = x ++ q) : ∃ p p', ps = p ++ p' ∧ p.map (·.t) = x ∧ p'.map (·.t) = q := by
  obtain ⟨p, p', e, h1, h2⟩ := List.map_eq_append_iff.1 h
  exact ⟨p, p', e, h1, h2⟩
theorem head_of {t : PT} (hf : FormOk t) {ps r : List TkP} (h : ps.map (·.t) = tkD t) : (∀ u q, ps ++ r = u :: q → u.t.kind ≠ 1) ∧ (∀ u q, ps ++ r = u :: q → u.t.kind ≠ 4) := by
  obtain ⟨x, q, hx, h1, h4⟩ := tk_head hf
  rw [hx] at h
  obtain ⟨p, ps', rfl, hp, _⟩ := map_cons h
  refine ⟨fun u q e => ?_, fun u q e => ?_⟩
  · simp only [List.cons_append, List.cons.injEq] at e; rw [← e.1, hp]; exact h1
  · simp only [List.cons_append, List.cons.injEq] at e; rw [← e.1, hp]; exact h4

theorem leaf_tk {k i : Int} {s : ByteArray} {l : List PT} (hn : nestB k = false) : tkD (.mk k i s l) = [⟨k + 5, s.data.toList, i⟩] := by
  simp only [nestB, Bool.or_eq_false_iff, decide_eq_false_iff_not] at hn
  rw [tkD, tkS, if_neg hn.1.1, if_neg hn.1.2, if_neg hn.2]
theorem leaf_back {k i : Int} {s : ByteArray} {l : List PT} (hn : nestB k = false) (h : formB k i s.data.toList l = true) : leafD ⟨k + 5, s.data.toList, i⟩ = .mk k i s l := by
  have hl := Dat.form_leaf hn h
  have hk := form_kind h
  simp only [nestB, Bool.or_eq_false_iff, decide_eq_false_iff_not] at hn
  subst hl
  have e : kindT (k + 5) = k := by unfold kindT; split <;> (try split) <;> (try split) <;> (try split) <;> omega
  unfold leafD
  rw [e]
theorem gives_leafs {k i : Int} {s : ByteArray} {l : List PT} (hn : nestB k = false) (h : formB k i s.data.toList l = true) : GivesOk (.mk k i s l) := by
  intro N n ps r hp _
  rw [leaf_tk hn] at hp
  obtain ⟨p, ps', rfl, hpt, hp'⟩ := map_cons hp
  obtain rfl : ps' = [] := by simpa using hp'
  have hk := form_kind h
  have e : leafD p.t = .mk k i s l := by rw [hpt]; exact leaf_back hn h
  rw [← e]
  have ek : p.t.kind = k + 5 := by rw [hpt]
  exact gives_leaf (t := p) (r := r) (by omega) (by omega) (by omega) (by omega) (by omega)

/-- A row within brackets. -/
theorem row_gives {N n : Nat} {k : Int} (hk : k = 0 ∨ k = 2) {q : List TkP} {D : PT} {rest : List TkP} : ∀ (l : List PT), (∀ t ∈ l, GivesOk t) → FormsOk l → ∀ (acc : List PT) (ps : List TkP), ps.map (·.t) = (tksT l).flatten → n + 1 + depthsT l ≤ 32 →
    GivesIn N n k (acc ++ l) q D rest → GivesIn N n k acc (ps ++ q) D rest
  | [], _, _, acc, ps, hp, _, h => by
    simp only [tksT, List.flatten_nil, List.map_eq_nil_iff] at hp
    subst hp
    simpa using h
  | t :: l, ih, hf, acc, ps, hp, hd, h => by
    rw [tksT, List.flatten_cons] at hp
    obtain ⟨p1, p2, rfl, h1, h2⟩ := map_app hp
    rw [FormsOk] at hf
    rw [depthsT] at hd
    have hh := head_of hf.1 (r := p2 ++ q) h1
    have g1 := ih t (List.mem_cons_self ..) N (n + 1) p1 (p2 ++ q) h1 (by omega)
    rw [List.append_assoc]
    refine in_item hk hh.1 (fun _ _ => hh.2) g1 ?_
    exact row_gives hk l (fun u hu => ih u (List.mem_cons_of_mem _ hu)) hf.2 (acc ++ [t]) p2 h2 (by omega) (by simpa using h)
theorem row_passes {N n : Nat} {k : Int} (hk : k = 0 ∨ k = 2) {q : List TkP} {a : Nat} {e : Int} : ∀ (l : List PT), (∀ t ∈ l, GivesOk t) → FormsOk l → ∀ (acc : List PT) (ps : List TkP), ps.map (·.t) = (tksT l).flatten → n + 1 + depthsT l ≤ 32 →
    FailsIn N n k (acc ++ l) q a e → FailsIn N n k acc (ps ++ q) a e
  | [], _, _, acc, ps, hp, _, h => by
    simp only [tksT, List.flatten_nil, List.map_eq_nil_iff] at hp
    subst hp
    simpa using h
  | t :: l, ih, hf, acc, ps, hp, hd, h => by
    rw [tksT, List.flatten_cons] at hp
    obtain ⟨p1, p2, rfl, h1, h2⟩ := map_app hp
    rw [FormsOk] at hf
    rw [depthsT] at hd
    have hh := head_of hf.1 (r := p2 ++ q) h1
    have g1 := ih t (List.mem_cons_self ..) N (n + 1) p1 (p2 ++ q) h1 (by omega)
    rw [List.append_assoc]
    refine in_item_fails hk hh.1 (fun _ _ => hh.2) g1 ?_
    exact row_passes hk l (fun u hu => ih u (List.mem_cons_of_mem _ hu)) hf.2 (acc ++ [t]) p2 h2 (by omega) (by simpa using h)
theorem row_fails {N n : Nat} {k : Int} (hk : k = 0 ∨ k = 2) (hn : n < 32) {q : List TkP} : ∀ (l : List PT), (∀ t ∈ l, GivesOk t ∧ FailsOk t) → FormsOk l → ∀ (acc : List PT) (ps : List TkP), ps.map (·.t) = (tksT l).flatten → 32 < n + 1 + depthsT l →
    ∃ a, FailsIn N n k acc (ps ++ q) a 43
  | [], _, _, acc, ps, hp, hd => by rw [depthsT] at hd; omega
  | t :: l, ih, hf, acc, ps, hp, hd => by
    rw [tksT, List.flatten_cons] at hp
    obtain ⟨p1, p2, rfl, h1, h2⟩ := map_app hp
    rw [FormsOk] at hf
    rw [depthsT] at hd
    have hh := head_of hf.1 (r := p2 ++ q) h1
    have hit := ih t (List.mem_cons_self ..)
    rw [List.append_assoc]
    by_cases h3 : n + 1 + depthT t ≤ 32
    · have g1 := hit.1 N (n + 1) p1 (p2 ++ q) h1 h3
      obtain ⟨a, ha⟩ := row_fails hk hn l (fun u hu => ih u (List.mem_cons_of_mem _ hu)) hf.2 (acc ++ [t]) p2 h2 (q := q) (by omega)
      exact ⟨a, in_item_fails hk hh.1 (fun _ _ => hh.2) g1 ha⟩
    · obtain ⟨a, ha⟩ := hit.2 N (n + 1) p1 (p2 ++ q) h1 (by omega) (by omega)
      exact ⟨a, in_fails hk hh.1 (fun _ _ => hh.2) ha⟩

theorem items_both {k i : Int} {s : ByteArray} {l : List PT} (hk : k = 5 ∨ k = 7) (ih : ∀ t ∈ l, GivesOk t ∧ FailsOk t) (hf : FormsOk l) (hi : i = 0) (hs : s.data.toList = []) : GivesOk (.mk k i s l) ∧ FailsOk (.mk k i s l) := by
  have hnest : nestB k = true := by unfold nestB; rcases hk with rfl | rfl <;> rfl
  have es : s = ⟨#[]⟩ := Go.WideShapes.bytes_inj (by rw [hs])
  subst hi es
  obtain ⟨kk, hkk, hkd⟩ : ∃ kk : Int, (kk = 0 ∨ kk = 2) ∧ (if kk = 2 then (7 : Int) else 5) = k ∧ tkD (.mk k 0 ⟨#[]⟩ l) = ⟨kk, [], 0⟩ :: ((tksT l).flatten ++ [⟨1, [], 0⟩]) := by
    rcases hk with rfl | rfl
    · exact ⟨0, .inl rfl, rfl, by rw [tkD, tkS, if_pos rfl]⟩
    · exact ⟨2, .inr rfl, rfl, by rw [tkD, tkS, if_neg (by decide), if_neg (by decide), if_pos rfl]⟩
  refine ⟨fun N n ps r hp hd => ?_, fun N n ps r hp hn hd => ?_⟩
  · rw [hkd.2] at hp
    rw [depthT, if_pos hnest] at hd
    obtain ⟨p, ps1, rfl, e1, h1⟩ := map_cons hp
    obtain ⟨p2, p3, rfl, h2, h3⟩ := map_app h1
    obtain ⟨c, p4, rfl, e4, h4⟩ := map_cons h3
    obtain rfl : p4 = [] := by simpa using h4
    have ek : p.t.kind = kk := by rw [e1]
    rw [List.cons_append, List.append_assoc]
    refine gives_open (by rw [ek]; exact hkk) (by omega) ?_
    rw [ek]
    refine row_gives hkk l (fun t ht => (ih t ht).1) hf [] p2 h2 (by omega) ?_
    rw [← hkd.1]
    exact in_close hkk (by rw [e4])
  · rw [hkd.2] at hp
    rw [depthT, if_pos hnest] at hd
    obtain ⟨p, ps1, rfl, e1, h1⟩ := map_cons hp
    obtain ⟨p2, p3, rfl, h2, h3⟩ := map_app h1
    have ek : p.t.kind = kk := by rw [e1]
    rw [List.cons_append, List.append_assoc]
    by_cases hn2 : n < 32
    · obtain ⟨a, ha⟩ := row_fails hkk hn2 l ih hf [] p2 h2 (N := N) (q := p3 ++ r) (by omega)
      exact ⟨a, fails_open (by rw [ek]; exact hkk) hn2 (by rw [ek]; exact ha)⟩
    · exact ⟨p.a, fails_deep (by rw [ek]; rcases hkk with h | h <;> simp [h]) (by omega)⟩
theorem dotted_both {l : List PT} {t : PT} (ih : ∀ u ∈ l, GivesOk u ∧ FailsOk u) (it : GivesOk t ∧ FailsOk t) (hf : FormsOk l) (h0 : l ≠ []) (ht : t.kind ≠ 5 ∧ t.kind ≠ 6) :
    GivesOk (.mk 6 0 ⟨#[]⟩ (l ++ [t])) ∧ FailsOk (.mk 6 0 ⟨#[]⟩ (l ++ [t])) := by
  have hk : tkD (.mk 6 0 ⟨#[]⟩ (l ++ [t])) = ⟨0, [], 0⟩ :: ((tksT l).flatten ++ (⟨4, [], 0⟩ :: (tkD t ++ [⟨1, [], 0⟩]))) := by
    rw [tkD, tkS, if_neg (by decide), if_pos rfl, tksT_app]
    simp [tksT]
  have hm : makeT l t = .mk 6 0 ⟨#[]⟩ (l ++ [t]) := by
    obtain ⟨k, i, s, m⟩ := t
    rw [makeT, if_neg h0, if_neg (by intro h; rcases h with h | h; exact ht.1 h; exact ht.2 h)]
  have hdep : depthT (.mk 6 0 ⟨#[]⟩ (l ++ [t])) = 1 + max (depthsT l) (depthT t) := by
    rw [depthT, if_pos (by decide), depths_app, depthsT, depthsT, Nat.max_zero]
  refine ⟨fun N n ps r hp hd => ?_, fun N n ps r hp hn hd => ?_⟩
  · rw [hk] at hp
    rw [hdep] at hd
    obtain ⟨p, ps1, rfl, e1, h1⟩ := map_cons hp
    obtain ⟨p2, p3, rfl, h2, h3⟩ := map_app h1
    obtain ⟨d, p4, rfl, e4, h4⟩ := map_cons h3
    obtain ⟨p5, p6, rfl, h5, h6⟩ := map_app h4
    obtain ⟨c, p7, rfl, e7, h7⟩ := map_cons h6
    obtain rfl : p7 = [] := by simpa using h7
    have ek : p.t.kind = 0 := by rw [e1]
    rw [List.cons_append, List.append_assoc, List.cons_append, List.append_assoc]
    refine gives_open (.inl ek) (by omega) ?_
    rw [ek]
    refine row_gives (.inl rfl) l (fun t ht => (ih t ht).1) hf [] p2 h2 (by omega) ?_
    rw [← hm]
    exact in_dot h0 (by rw [e4]) (it.1 N (n + 1) p5 (c :: r) h5 (by omega)) (by rw [e7])
  · rw [hk] at hp
    rw [hdep] at hd
    obtain ⟨p, ps1, rfl, e1, h1⟩ := map_cons hp
    obtain ⟨p2, p3, rfl, h2, h3⟩ := map_app h1
    obtain ⟨d, p4, rfl, e4, h4⟩ := map_cons h3
    obtain ⟨p5, p6, rfl, h5, h6⟩ := map_app h4
    have ek : p.t.kind = 0 := by rw [e1]
    rw [List.cons_append, List.append_assoc, List.cons_append, List.append_assoc]
    by_cases hn2 : n < 32
    · by_cases h32 : n + 1 + depthsT l ≤ 32
      · obtain ⟨a, ha⟩ := it.2 N (n + 1) p5 (p6 ++ r) h5 (by omega) (by omega)
        exact ⟨a, fails_open (.inl ek) hn2 (by rw [ek]; exact row_passes (.inl rfl) l (fun t ht => (ih t ht).1) hf [] p2 h2 h32 (in_dot_fails h0 (by rw [e4]) ha))⟩
      · obtain ⟨a, ha⟩ := row_fails (.inl rfl) hn2 l ih hf [] p2 h2 (N := N) (q := d :: (p5 ++ (p6 ++ r))) (by omega)
        exact ⟨a, fails_open (.inl ek) hn2 (by rw [ek]; exact ha)⟩
    · exact ⟨p.a, fails_deep (.inl ek) (by omega)⟩
theorem both_step {k i : Int} {s : ByteArray} {l : List PT} (ih : ∀ t ∈ l, GivesOk t ∧ FailsOk t) (hf : FormsOk l) (h : formB k i s.data.toList l = true) : GivesOk (.mk k i s l) ∧ FailsOk (.mk k i s l) := by
  cases hn : nestB k with
  | false => exact ⟨gives_leafs hn h, fun N n ps r _ h1 h2 => by rw [depthT, if_neg (by simp [hn])] at h2; omega⟩
  | true =>
    simp only [nestB, Bool.or_eq_true, decide_eq_true_eq] at hn
    by_cases h6 : k = 6
    · subst h6
      simp [formB] at h
      obtain ⟨⟨⟨h1, h2⟩, h3⟩, h4⟩ := h
      have hl : l ≠ [] := by rintro rfl; simp at h3
      have e := (List.dropLast_concat_getLast hl).symm
      have es : s = ⟨#[]⟩ := Go.WideShapes.bytes_inj (by simpa using h2)
      have ht : (l.getLast hl).kind ≠ 5 ∧ (l.getLast hl).kind ≠ 6 := by
        simpa [Dat.tailB, List.getLast?_eq_some_getLast hl] using h4
      have h0 : l.dropLast ≠ [] := by intro e0; have := congrArg List.length e0; simp at this; omega
      subst h1 es
      rw [e] at ih hf ⊢
      exact dotted_both (fun u hu => ih u (List.mem_append_left _ hu)) (ih _ (by simp)) ((formsOk_app _ _).1 hf).1 h0 ht
    · have hk : k = 5 ∨ k = 7 := by omega
      have : i = 0 ∧ s.data.toList = [] := by rcases hk with rfl | rfl <;> simpa [formB] using h
      exact items_both hk ih hf this.1 this.2
mutual
theorem both_any : ∀ t : PT, FormOk t → GivesOk t ∧ FailsOk t
  | .mk k i s l, h => by rw [FormOk] at h; exact both_step (both_all l h.2) h.2 h.1
theorem both_all : ∀ l : List PT, FormsOk l → ∀ t ∈ l, GivesOk t ∧ FailsOk t
  | [], _, t, h => by cases h
  | u :: l, hf, t, h => by
    rw [FormsOk] at hf
    exact (List.mem_cons.1 h).elim (fun e => e ▸ both_any u hf.1) (fun h => both_all l hf.2 t h)
end

/-! ### what may be -/
mutual
theorem chk_back (deep n : Nat) : ∀ t : PT, deep ≤ 32 → n ≤ 4096 → (chk deep n t).2 = 0 → (chk deep n t).1 = n + numT t ∧ deep + depthT t ≤ 32
  | .mk k i s l, hd, hn, h => by
    rw [chk] at h ⊢
    rw [numT, depthT]
    split at h
    · cases h
    split at h
    · cases h
    split at h
    · rename_i h1 h2 h3
      rw [if_neg h1, if_neg h2, if_pos h3]
      cases hk : nestB k with
      | false =>
        have := Dat.form_leaf hk h3
        subst this
        simp [chkL, numsT]; omega
      | true =>
        rw [hk] at h2
        have hd2 : deep ≠ 32 := by simpa using h2
        have := chkL_back (deep + 1) (n + 1) l (by omega) (by omega) h
        simp; omega
    · cases h
theorem chkL_back (deep n : Nat) : ∀ l : List PT, deep ≤ 32 → n ≤ 4096 → (chkL deep n l).2 = 0 → (chkL deep n l).1 = n + numsT l ∧ deep + depthsT l ≤ 32
  | [], hd, _, _ => by simp [chkL, numsT, depthsT]; omega
  | t :: l, hd, hn, h => by
    rw [chkL] at h ⊢
    rw [numsT, depthsT]
    split at h
    · rename_i h0
      rw [if_pos h0]
      have h1 := chk_back deep n t hd hn h0
      have h3 := Dat.chk_le deep n hn t
      have h2 := chkL_back deep _ l hd h3.2 h
      omega
    · rename_i h0
      exact absurd h h0
end
mutual
/-- Data all of whose own fields may be, and that are not too many: what is wrong is how deep they are, if anything. -/
theorem chk_fwd (deep n : Nat) : ∀ t : PT, FormOk t → deep ≤ 32 → n + numT t ≤ 4096 → (deep + depthT t ≤ 32 → chk deep n t = (n + numT t, 0)) ∧ (32 < deep + depthT t → (chk deep n t).2 = 21)
  | .mk k i s l, hf, hd, hn => by
    rw [FormOk] at hf
    rw [numT] at hn ⊢
    have hn4 : n ≠ 4096 := by omega
    have e : chk deep n (.mk k i s l) = if (nestB k && decide (deep = 32)) = true then (n + 1, 21) else chkL (deep + 1) (n + 1) l := by
      rw [chk, if_neg hn4, if_pos hf.1]
    rw [e]
    cases hk : nestB k with
    | false =>
      have := Dat.form_leaf hk hf.1
      subst this
      rw [depthT, if_neg (by simp [hk]), if_neg (by simp)]
      simp [chkL, numsT]; omega
    | true =>
      rw [depthT, if_pos hk]
      by_cases h32 : deep = 32
      · rw [if_pos (by simp [h32])]
        exact ⟨fun h => by omega, fun _ => rfl⟩
      · rw [if_neg (by simp [h32])]
        have := chkL_fwd (deep + 1) (n + 1) l hf.2 (by omega) (by omega)
        refine ⟨fun h => ?_, fun h => this.2 (by omega)⟩
        rw [this.1 (by omega)]
        exact Prod.ext (by simp only []; omega) rfl
theorem chkL_fwd (deep n : Nat) : ∀ l : List PT, FormsOk l → deep ≤ 32 → n + numsT l ≤ 4096 → (deep + depthsT l ≤ 32 → chkL deep n l = (n + numsT l, 0)) ∧ (32 < deep + depthsT l → (chkL deep n l).2 = 21)
  | [], _, hd, _ => by simp [chkL, numsT, depthsT]; omega
  | t :: l, hf, hd, hn => by
    rw [FormsOk] at hf
    rw [numsT] at hn ⊢
    rw [depthsT, chkL]
    have h1 := chk_fwd deep n t hf.1 hd (by omega)
    by_cases h2 : deep + depthT t ≤ 32
    · rw [h1.1 h2]
      simp only [if_true]
      have h3 := chkL_fwd deep (n + numT t) l hf.2 hd (by omega)
      refine ⟨fun h => ?_, fun h => h3.2 (by omega)⟩
      rw [h3.1 (by omega)]
      exact Prod.ext (by simp only []; omega) rfl
    · have h4 := h1.2 (by omega)
      rw [if_neg (by rw [h4]; decide)]
      exact ⟨fun h => by omega, fun _ => h4⟩
end
theorem check_back {t : PT} (h : checkB t = 0) : FormOk t ∧ numT t ≤ 4096 ∧ depthT t ≤ 32 := by
  have h1 := chk_back 0 0 t (by omega) (by omega) h
  have h2 := Dat.chk_le 0 0 (by omega) t
  exact ⟨(Dat.check_ok t h).1, by omega, by omega⟩
theorem check_fwd {t : PT} (hf : FormOk t) (hn : numT t ≤ 4096) : (depthT t ≤ 32 → checkB t = 0) ∧ (32 < depthT t → checkB t = 21) := by
  have := chk_fwd 0 0 t hf (by omega) (by omega)
  exact ⟨fun h => by unfold checkB; rw [this.1 (by omega)], fun h => this.2 (by omega)⟩

/-! ### sources -/
theorem source_gives {N : Nat} {q : List TkP} : ∀ (l : List PT), (∀ t ∈ l, checkB t = 0) → ∀ (out : List PT) (ps : List TkP), ps.map (·.t) = (tksT l).flatten → runM N [] out (ps ++ q) = runM N [] (out ++ l) q
  | [], _, out, ps, hp => by
    simp only [tksT, List.flatten_nil, List.map_eq_nil_iff] at hp
    subst hp
    simp
  | t :: l, h, out, ps, hp => by
    rw [tksT, List.flatten_cons] at hp
    obtain ⟨p1, p2, rfl, h1, h2⟩ := map_app hp
    have hc := check_back (h t (List.mem_cons_self ..))
    have g := (both_any t hc.1).1 N 0 p1 (p2 ++ q) h1 (by omega)
    have hne : p1 ++ (p2 ++ q) ≠ [] := by
      intro e
      have : p1 = [] := (List.append_eq_nil_iff.1 e).1
      subst this
      exact tkD_ne t h1.symm
    rw [List.append_assoc, source_next hne g, source_gives l (fun u hu => h u (List.mem_cons_of_mem _ hu)) (out ++ [t]) p2 h2]
    simp
end Go.Proofs.YthfjlcflpneffaaGreatDoor
