/-
What is read may be, and is read again from what is written of it, if it was not long: pure. No condition.
-/
import Derived.Test.YthfjlcflpneffaaGreatDoorB4
namespace Go.Proofs.YthfjlcflpneffaaGreatDoor
open Go.ChangeShapes Go.WideShapes Go.ChangeAt Go.RowKit
open Dat (PT makeT textT textsT FormOk FormsOk joinT tailJ formB shapeT nestB checkB numT numsT toldT)

theorem leaf_fit {k i : Int} {x : List UInt8} {n : Nat} (hk : 0 ≤ k ∧ k ≤ 4) (h : formB k i x [] = true) (hw : (shapeT false k i x []).length + 1 ≤ 8 * n) : Fit 0 1 n (.mk k i ⟨x.toArray⟩ []) := by
  have hn : nestB k = false := by unfold nestB; simp; omega
  refine ⟨?_, ?_, ?_, ?_, ?_⟩
  · rw [FormOk, FormsOk]; exact ⟨h, trivial⟩
  · rw [depthT, if_neg (by simp [hn])]; omega
  · simp [numT, numsT]
  · unfold wT; rw [textT, textsT]; exact hw
  · rw [leaf_tk hn]; simp
theorem kindT_5 : kindT 5 = 0 ∧ kindT 6 = 1 ∧ kindT 7 = 2 ∧ kindT 8 = 3 ∧ kindT 9 = 4 := by decide
theorem fine_hash {r : List UInt8} {t : Tk} {n : Nat} (h : hashT r = (t, n, 0)) : TkFine t n := by
  rcases hash_ways r with ⟨q, rfl⟩ | ⟨c, q, rfl⟩ | ⟨h1, h2⟩
  · rw [hashT] at h
    cases h
    exact ⟨by omega, .inr (.inr (.inl rfl))⟩
  · rw [hashT_char] at h
    generalize hx : (c :: q).take (max 1 (wordL (c :: q)).length) = x at h
    have hm : 1 ≤ max 1 (wordL (c :: q)).length := Nat.le_max_left ..
    generalize max 1 (wordL (c :: q)).length = mm at h hm
    cases hv : charV x with
    | none => rw [hv] at h; simp at h
    | some v =>
      rw [hv] at h
      cases h
      have hb : v ≤ 255 := by
        unfold charV at hv
        split at hv
        · obtain ⟨a, _, rfl⟩ := Option.map_eq_some_iff.1 hv
          have := a.toNat_lt; omega
        · split at hv
          · cases hv; omega
          · split at hv
            · cases hv; omega
            · split at hv
              · generalize x.drop 1 = y at hv
                match y, hv with
                | [], hv => simp [twoV] at hv
                | [_], hv => simp [twoV] at hv
                | a :: b :: _, hv =>
                  rw [twoV] at hv
                  cases ha : hexV a with
                  | none => rw [ha] at hv; simp at hv
                  | some p =>
                    cases hb : hexV b with
                    | none => rw [ha, hb] at hv; simp at hv
                    | some q =>
                      rw [ha, hb] at hv
                      simp only [Option.some.injEq] at hv
                      have := hexV_lt ha
                      have := hexV_lt hb
                      omega
              · cases hv
      refine ⟨by omega, .inr (.inr (.inr (.inr (.inr ⟨by simp, by simp, ?_⟩))))⟩
      unfold leafD
      simp only [kindT_5]
      refine leaf_fit (by decide) (by simp [formB]; omega) ?_
      have : (shapeT false 2 (v : Int) [] []).length ≤ 9 := by
        rw [shapeT, if_neg (by decide), if_neg (by decide), if_pos rfl]
        exact Dat.charS_len _ _
      omega
  · rw [hashT_else h1 h2] at h
    split at h
    · cases h
      refine ⟨by omega, .inr (.inr (.inr (.inr (.inr ⟨by simp, by simp, ?_⟩))))⟩
      exact leaf_fit (k := 0) (i := 1) (x := []) (by decide) (by decide) (by decide)
    · split at h
      · cases h
        refine ⟨by omega, .inr (.inr (.inr (.inr (.inr ⟨by simp, by simp, ?_⟩))))⟩
        exact leaf_fit (k := 0) (i := 0) (x := []) (by decide) (by decide) (by decide)
      · simp at h
theorem fine_word {w : List UInt8} (h0 : w ≠ []) (hb : bytesB w = true) (h : (wordT w).2 = 0) : TkFine (wordT w).1 w.length := by
  have hl : 1 ≤ w.length := List.length_pos_iff.2 h0
  refine ⟨hl, ?_⟩
  unfold wordT at h ⊢
  by_cases h46 : w = [46]
  · rw [if_pos h46]; exact .inr (.inr (.inr (.inr (.inl rfl))))
  · rw [if_neg h46] at h ⊢
    by_cases hn : numB w = true
    · rw [if_pos hn] at h ⊢
      by_cases hok : okNum (numV w)
      · rw [if_pos hok]
        refine .inr (.inr (.inr (.inr (.inr ⟨by simp, by simp, ?_⟩))))
        have := itoa_short hn
        refine leaf_fit (k := 1) (i := numV w) (x := []) (by decide) ?_ ?_
        · unfold okNum at hok; simp [formB]; exact hok
        · have e : shapeT false 1 (numV w) [] [] = Lib.itoa (numV w) := by rw [shapeT, if_neg (by decide), if_pos rfl]
          rw [e]; omega
      · rw [if_neg hok] at h; cases h
    · rw [if_neg hn] at h ⊢
      by_cases h64 : 64 < w.length
      · rw [if_pos h64] at h; cases h
      · rw [if_neg h64]
        refine .inr (.inr (.inr (.inr (.inr ⟨by simp, by simp, ?_⟩))))
        refine leaf_fit (k := 4) (i := 0) (x := w) (by decide) ?_ ?_
        · have hn' : numB w = false := by simpa using hn
          have he : w.isEmpty = false := by simpa using h0
          have h46' : (w == [46]) = false := by simpa using h46
          have : nameB w = true := by unfold nameB; rw [he, hn', hb, h46']; simp; omega
          simp [formB, this]
        · have e : shapeT false 4 0 w [] = w := by rw [shapeT, if_neg (by decide), if_neg (by decide), if_neg (by decide), if_neg (by decide), if_pos rfl]
          rw [e]; omega
theorem fine_one {l : List UInt8} (hl : l.length ≤ 4096) {t : Tk} {n : Nat} (h : oneT l = (t, n, 0)) : TkFine t n := by
  match l, hl with
  | [], _ => simp [oneT] at h
  | c :: r, hl =>
    rw [oneT_cons] at h
    split at h
    · cases h; exact ⟨by omega, .inl rfl⟩
    split at h
    · cases h; exact ⟨by omega, .inr (.inl rfl)⟩
    split at h
    · cases h; exact ⟨by omega, .inr (.inr (.inr (.inl rfl)))⟩
    split at h
    · exact fine_hash h
    split at h
    · cases ht : txt r with
      | none => rw [ht] at h; simp at h
      | some tk =>
        obtain ⟨x, k⟩ := tk
        rw [ht] at h
        cases h
        have h1 := txt_short ht
        have h2 := txt_len ht
        simp only [List.length_cons] at hl
        refine ⟨by omega, .inr (.inr (.inr (.inr (.inr ⟨by simp, by simp, ?_⟩))))⟩
        refine leaf_fit (k := 3) (i := 0) (x := x) (by decide) (by simp [formB]; omega) ?_
        have e : shapeT false 3 0 x [] = Dat.quoteS false x := by rw [shapeT, if_neg (by decide), if_neg (by decide), if_neg (by decide), if_pos rfl]
        have := Dat.quoteS_len false x
        rw [e]; omega
    split at h
    · simp at h
    · rename_i hw
      have e : (wordT (wordL (c :: r))).1 = t ∧ (wordL (c :: r)).length = n ∧ (wordT (wordL (c :: r))).2 = 0 := by simpa using h
      have := fine_word hw (wordL_bytes _) e.2.2
      rwa [e.1, e.2.1] at this
theorem run_fine (N : Nat) : ∀ (n cnt : Nat) (l : List UInt8), l.length ≤ n → l.length ≤ 4096 → (∀ p ∈ (runT N cnt l).1, TkFine p.t (p.b - p.a)) ∧ spans (runT N cnt l).1 ≤ l.length ∧ (cnt ≤ 2048 → cnt + (runT N cnt l).1.length ≤ 2048)
  | _, cnt, [], _, _ => by simp [runT, spans]
  | n + 1, cnt, c :: r, hn, hl => by
    by_cases hc : cnt = 2048
    · subst hc; rw [runT_many]; simp [spans]
    · by_cases he : (oneT (c :: r)).2.2 = 0
      · have hlt := rest_lt he
        have hlen := oneT_len he
        have hg := gapS_le false ((c :: r).drop (oneT (c :: r)).2.1)
        obtain ⟨i1, i2, i3⟩ := run_fine N n (cnt + 1) (restT (c :: r)) (by simp at hn hlt; omega) (by omega)
        have hrl : (restT (c :: r)).length + (oneT (c :: r)).2.1 ≤ (c :: r).length := by
          unfold restT; rw [List.length_drop] at hg; omega
        rw [runT_rest N cnt _ (by simp) hc he]
        have hf : TkFine (oneT (c :: r)).1 (oneT (c :: r)).2.1 := fine_one hl (Prod.ext rfl (Prod.ext rfl he))
        refine ⟨fun p hp => ?_, ?_, fun h => ?_⟩
        · rcases List.mem_cons.1 hp with rfl | hp
          · simpa using hf
          · exact i1 p hp
        · simp only [spans, List.map_cons, List.sum_cons, Nat.add_sub_cancel_left] at i2 ⊢
          omega
        · have := i3 (by omega)
          simp only [List.length_cons]; omega
      · rw [runT_bad N cnt c r hc he]; simp [spans]
theorem read_fit {s : List UInt8} {l : List PT} (h : readT s = (l, 0, 0)) : ∃ m, FitL 0 m s.length l ∧ m ≤ 2048 ∧ m ≤ s.length := by
  unfold readT at h
  by_cases he : (toksT s).2.2 = 0
  · rw [if_neg (by simpa using he)] at h
    obtain ⟨h1, h2, h3, _⟩ := toks_ok he
    have hg := gapS_le false s
    obtain ⟨f1, f2, f3⟩ := run_fine s.length _ 0 (gapS false s) (Nat.le_refl _) (by omega)
    have f4 := run_length s.length _ 0 (gapS false s) (Nat.le_refl _)
    rw [← h3] at f1 f2 f3 f4
    have := run_fit s.length (toksT s).1 [] [] (m := 0) (c := 0) (mo := 0) (co := 0) f1 (by rw [StFit]; trivial) (FitL.none (by omega)) h
    exact ⟨(toksT s).1.length, this.le (by omega) (by omega), by have := f3 (by omega); omega, by omega⟩
  · rw [if_pos he] at h
    have : (toksT s).2.2 = 0 := congrArg (fun q => q.2.2) h
    exact absurd this he
theorem fit_mem {h m c : Nat} : ∀ {l : List PT}, FormsOk l → h + depthsT l ≤ 32 → ∀ t ∈ l, FormOk t ∧ h + depthT t ≤ 32 ∧ numT t + l.length ≤ numsT l + l.length
  | [], _, _, t, ht => by cases ht
  | u :: l, hf, hd, t, ht => by
    rw [FormsOk] at hf
    rw [depthsT] at hd
    rw [numsT]
    rcases List.mem_cons.1 ht with rfl | ht
    · exact ⟨hf.1, by omega, by omega⟩
    · obtain ⟨a, b, c'⟩ := fit_mem (h := h) (m := m) (c := c) hf.2 (by omega) t ht
      exact ⟨a, b, by omega⟩
theorem read_checks {s : List UInt8} {l : List PT} (h : readT s = (l, 0, 0)) : ∀ t ∈ l, checkB t = 0 := by
  obtain ⟨m, hf, hm, _⟩ := read_fit h
  intro t ht
  obtain ⟨a, b, c⟩ := fit_mem (h := 0) (m := 0) (c := 0) hf.form hf.deep t ht
  have h1 := hf.num
  have h2 : 1 ≤ l.length := List.length_pos_iff.2 (List.ne_nil_of_mem ht)
  exact (check_fwd a (by omega)).1 (by omega)
theorem lines_len : ∀ {l : List PT}, (∀ t ∈ l, checkB t = 0) → (linesM l).length = wsT l
  | [], _ => by simp [linesM, wsT]
  | t :: l, h => by
    rw [lines_cons, ws_cons, told_ok (h t (List.mem_cons_self ..)), List.length_append, List.length_cons, lines_len fun u hu => h u (List.mem_cons_of_mem _ hu)]
    unfold wT; omega
theorem read_again {s : List UInt8} {l : List PT} (h : readT s = (l, 0, 0)) (hs : s.length ≤ 300) : readT (linesM l) = (l, 0, 0) := by
  have hc := read_checks h
  obtain ⟨m, hf, _, hm⟩ := read_fit h
  have h1 := lines_len hc
  have h2 := hf.len
  have h3 : (tksT l).flatten.length ≤ 3 * m := hf.tok
  exact read_lines hc (by omega) (by omega)
end Go.Proofs.YthfjlcflpneffaaGreatDoor
