/-
Signs of quoting ahead of a datum's text; pure. No condition.
-/
import Derived.Test.YthfjlcflpneffaaGreatDoorC3
import Derived.Test.YthfjlcflpneffaaGreatDoorWA
namespace Go.Proofs.YthfjlcflpneffaaGreatDoor
open Go.ChangeShapes Go.WideShapes Go.ChangeAt Go.RowKit
open Dat (PT makeT RepS NewS samesB textT textsT FormOk FormsOk nestB checkB numT numsT formB)

/-- A datum behind so many signs of quoting. -/
def quoteN : Nat → PT → PT
  | 0, t => t
  | n + 1, t => quoteD (quoteN n t)
theorem depth_quote (t : PT) : depthT (quoteD t) = 1 + depthT t := by
  unfold quoteD
  simp only [depthT, depthsT]
  rw [if_pos (by decide), if_neg (by decide)]
  omega
theorem num_quote (t : PT) : numT (quoteD t) = 2 + numT t := by
  unfold quoteD
  simp only [numT, numsT]
  omega
theorem form_quote {t : PT} (h : FormOk t) : FormOk (quoteD t) := by
  have hq : formB 4 0 quoteS.data.toList [] = true := by decide +kernel
  unfold quoteD
  simp only [FormOk, FormsOk]
  exact ⟨by simp [formB], ⟨hq, trivial⟩, h, trivial⟩
theorem quotes_facts {t : PT} (h : FormOk t) : ∀ n, FormOk (quoteN n t) ∧ depthT (quoteN n t) = n + depthT t ∧ numT (quoteN n t) = 2 * n + numT t
  | 0 => ⟨h, by simp [quoteN], by simp [quoteN]⟩
  | n + 1 => by
    obtain ⟨a, b, c⟩ := quotes_facts h n
    refine ⟨form_quote a, ?_, ?_⟩
    · rw [quoteN, depth_quote, b]; omega
    · rw [quoteN, num_quote, c]; omega
mutual
theorem num_tok : ∀ t : PT, FormOk t → numT t ≤ (tkD t).length
  | .mk k i s l, h => by
    rw [FormOk] at h
    have ih := nums_tok l h.2
    rw [numT]
    cases hn : nestB k with
    | false =>
      have := Dat.form_leaf hn h.1
      subst this
      rw [leaf_tk hn]; simp [numsT]
    | true =>
      simp only [nestB, Bool.or_eq_true, decide_eq_true_eq] at hn
      by_cases h6 : k = 6
      · subst h6
        have h1 := h.1
        simp [formB] at h1
        have hl : l ≠ [] := by rintro rfl; simp at h1
        have e := (List.dropLast_concat_getLast hl).symm
        have := l_dotted (i := i) (s := s) (l := l.dropLast) (t := l.getLast hl)
        rw [← e] at this
        rw [this]; unfold lsT; omega
      · rw [l_items (by omega)]; unfold lsT; omega
theorem nums_tok : ∀ l : List PT, FormsOk l → numsT l ≤ (tksT l).flatten.length
  | [], _ => by simp [numsT]
  | t :: l, h => by
    rw [FormsOk] at h
    rw [numsT, tksT, List.flatten_cons, List.length_append]
    have := num_tok t h.1
    have := nums_tok l h.2
    omega
end
def q39 (n : Nat) (l : List UInt8) : List UInt8 := List.replicate n 39 ++ l
def tq (n : Nat) : List Tk := List.replicate n ⟨3, [], 0⟩
theorem quotes_scan {l : List UInt8} {ts : List Tk} (h : Scans l ts []) (hg : gapS false l = l) : ∀ n, Scans (q39 n l) (tq n ++ ts) [] ∧ gapS false (q39 n l) = q39 n l
  | 0 => ⟨by simpa [q39, tq] using h, by simpa [q39] using hg⟩
  | n + 1 => by
    obtain ⟨i1, i2⟩ := quotes_scan h hg n
    have e1 : q39 (n + 1) l = 39 :: q39 n l := by simp [q39, List.replicate_succ]
    have e2 : tq (n + 1) ++ ts = ⟨3, [], 0⟩ :: (tq n ++ ts) := by simp [tq, List.replicate_succ]
    rw [e1, e2]
    refine ⟨.cons (one_39 _) ?_, one_nogap (by rw [one_39])⟩
    rw [List.drop_succ_cons, List.drop_zero, i2]
    exact i1
theorem quotes_gives {t : PT} (hf : FormOk t) (N : Nat) : ∀ (n h : Nat) (ps r : List TkP), ps.map (·.t) = tq n ++ tkD t → h + n + depthT t ≤ 32 → Gives N h (ps ++ r) (quoteN n t) r
  | 0, h, ps, r, hp, hd => (both_any t hf).1 N h ps r (by simpa [tq] using hp) (by omega)
  | n + 1, h, ps, r, hp, hd => by
    have e2 : tq (n + 1) ++ tkD t = ⟨3, [], 0⟩ :: (tq n ++ tkD t) := by simp [tq, List.replicate_succ]
    rw [e2] at hp
    obtain ⟨p, ps', rfl, hpt, hp'⟩ := map_cons hp
    rw [List.cons_append]
    exact gives_quote (by rw [hpt]) (by omega) (quotes_gives hf N n (h + 1) ps' r hp' (by omega))
theorem quotes_fails {t : PT} (hf : FormOk t) (N : Nat) : ∀ (n h : Nat) (ps r : List TkP), ps.map (·.t) = tq n ++ tkD t → h ≤ 32 → 32 < h + n + depthT t → ∃ a, Fails N h (ps ++ r) a 43
  | 0, h, ps, r, hp, h32, hd => (both_any t hf).2 N h ps r (by simpa [tq] using hp) h32 (by omega)
  | n + 1, h, ps, r, hp, h32, hd => by
    have e2 : tq (n + 1) ++ tkD t = ⟨3, [], 0⟩ :: (tq n ++ tkD t) := by simp [tq, List.replicate_succ]
    rw [e2] at hp
    obtain ⟨p, ps', rfl, hpt, hp'⟩ := map_cons hp
    rw [List.cons_append]
    by_cases hh : h < 32
    · obtain ⟨a, ha⟩ := quotes_fails hf N n (h + 1) ps' r hp' (by omega) (by omega)
      exact ⟨a, fails_quote (by rw [hpt]) hh ha⟩
    · exact ⟨p.a, fails_deep (by rw [hpt]; simp) (by omega)⟩
/-- What is read of a datum's text behind signs of quoting. -/
theorem read_quotes {t : PT} (hf : FormOk t) (n : Nat) (hl : (textT false t).length ≤ 500) (hn : n ≤ 40) :
    (n + depthT t ≤ 32 → readT (q39 n (textT false t)) = ([quoteN n t], 0, 0)) ∧ (32 < n + depthT t → ∃ a, readT (q39 n (textT false t)) = ([], a, 43)) ∧ checkB (quoteN n t) = if n + depthT t ≤ 32 then 0 else 21 := by
  have hs0 := scan_any t hf [] (by intro c hc; simp at hc)
  rw [List.append_nil] at hs0
  have hg0 := hs0.nogap (tkD_ne t)
  rw [show gapS false [] = [] from rfl] at hs0
  obtain ⟨h1, h2⟩ := quotes_scan hs0 hg0 n
  rw [← h2] at h1
  have hlen : (q39 n (textT false t)).length = n + (textT false t).length := by simp [q39]
  have htl := h1.len
  rw [h2] at htl
  obtain ⟨ps, e1, e2⟩ := read_scan h1 (by omega) (by simp only [List.length_nil] at htl; omega)
  have hne : ps ≠ [] := by
    rintro rfl
    have := congrArg List.length e1
    have h0 : tkD t ≠ [] := tkD_ne t
    have := List.length_pos_iff.2 h0
    simp at *
    omega
  obtain ⟨f1, f2, f3⟩ := quotes_facts hf n
  have hnum := num_tok t hf
  have htk := hs0.len
  simp only [List.length_nil] at htk
  have hc := check_fwd f1 (by omega)
  refine ⟨fun hd => ?_, fun hd => ?_, ?_⟩
  · have g := quotes_gives hf (q39 n (textT false t)).length n 0 ps [] e1 (by omega)
    rw [List.append_nil] at g
    rw [e2, source_next hne g, run_nil, if_pos rfl]
    rfl
  · obtain ⟨a, g⟩ := quotes_fails hf (q39 n (textT false t)).length n 0 ps [] e1 (by omega) (by omega)
    rw [List.append_nil] at g
    exact ⟨a, by rw [e2, source_fails hne g]⟩
  · by_cases h : n + depthT t ≤ 32
    · rw [if_pos h]; exact hc.1 (by omega)
    · rw [if_neg h]; exact hc.2 (by omega)

/-! ### data in memory, apart from a block -/
mutual
theorem InD.rep {w : World} {S : Nat → Prop} : ∀ (t : PT) {b o : Nat}, InD w S t b o → Dat.RepD w w.heap.size t b o
  | .mk k i s l, b, o, h => by
    rw [inD_mk] at h
    rw [Dat.repD_mk]
    obtain ⟨h1, h2, h3, c0, c1, c2, v, c3, a, c, e, hl, hm, hn, hr⟩ := h
    refine ⟨h1, h2, h3, c0, c1, c2, v, c3, a, c, e, hl, hm, hn, ?_⟩
    rcases hr with hr | ⟨b', o', ha, hs, hr⟩
    · exact .inl hr
    · match l, hr with
      | [], _ => exact .inl rfl
      | .mk k2 i2 s2 m2 :: l, hr =>
        have hlt : b' < w.heap.size := by
          have h0 := hr
          rw [InAt, inD_mk] at h0
          exact World.block_lt_of_cell? _ _ h0.1.2.2.2.1
        exact .inr ⟨b', o', ha, hlt, InAt.rep _ hr⟩
theorem InAt.rep {w : World} {S : Nat → Prop} : ∀ (l : List PT) {b o : Nat}, InAt w S l b o → Dat.RepAt w w.heap.size l b o
  | [], _, _, _ => by rw [Dat.RepAt]; trivial
  | t :: l, b, o, h => by
    rw [InAt] at h
    rw [Dat.RepAt]
    exact ⟨InD.rep t h.1, InAt.rep l h.2⟩
end
theorem InS.rep {w : World} {S : Nat → Prop} {l : List PT} {v : Value} (h : InS w S l v) : RepS w w.heap.size l v := by
  obtain ⟨a, c, e, hl, hm, hn, hr⟩ := h
  refine ⟨a, c, e, hl, hm, hn, ?_⟩
  rcases hr with hr | ⟨b', o', ha, hs, hr⟩
  · exact .inl hr
  · match l, hr with
    | [], _ => exact .inl rfl
    | .mk k2 i2 s2 m2 :: l, hr =>
      have hlt : b' < w.heap.size := by
        have h0 := hr
        rw [InAt, inD_mk] at h0
        exact World.block_lt_of_cell? _ _ h0.1.2.2.2.1
      exact .inr ⟨b', o', ha, hlt, InAt.rep _ hr⟩
mutual
theorem ins_d {w : World} {B : Nat} : ∀ (t : PT) {b o : Nat}, Dat.RepD w B t b o → InD w (· < B) t b o
  | .mk k i s l, b, o, h => by
    rw [inD_mk]
    rw [Dat.repD_mk] at h
    obtain ⟨h1, h2, h3, c0, c1, c2, v, c3, a, c, e, hl, hm, hn, hr⟩ := h
    refine ⟨h1, h2, h3, c0, c1, c2, v, c3, a, c, e, hl, hm, hn, hr.imp id ?_⟩
    rintro ⟨b', o', ha, hs, hr⟩
    exact ⟨b', o', ha, hs, ins_at l hr⟩
theorem ins_at {w : World} {B : Nat} : ∀ (l : List PT) {b o : Nat}, Dat.RepAt w B l b o → InAt w (· < B) l b o
  | [], _, _, _ => by rw [InAt]; trivial
  | t :: l, b, o, h => by
    rw [Dat.RepAt] at h
    rw [InAt]
    exact ⟨ins_d t h.1, ins_at l h.2⟩
end
theorem ins_of {w : World} {B : Nat} {l : List PT} {v : Value} (h : RepS w B l v) : InS w (· < B) l v := by
  obtain ⟨a, c, e, hl, hm, hn, hr⟩ := h
  refine ⟨a, c, e, hl, hm, hn, hr.imp id ?_⟩
  rintro ⟨b', o', ha, hs, hr⟩
  exact ⟨b', o', ha, hs, ins_at l hr⟩
end Go.Proofs.YthfjlcflpneffaaGreatDoor
