/-
What is written of data is read again, pure. No condition.
-/
import Derived.Test.YthfjlcflpneffaaGreatDoorB2
import Derived.Test.YthfjlcflpneffaaGreatDoorWB
namespace Go.Proofs.YthfjlcflpneffaaGreatDoor
open Go.ChangeShapes Go.WideShapes Go.ChangeAt Go.RowKit
open Dat (PT makeT textT textsT FormOk FormsOk joinT tailJ formB shapeT nestB checkB numT numsT toldT)

theorem told_ok {t : PT} (h : checkB t = 0) : toldT false t = textT false t := by unfold toldT; rw [if_pos h]
theorem lines_cons (t : PT) (l : List PT) : linesM (t :: l) = toldT false t ++ 10 :: linesM l := by simp [linesM]
theorem gap_line (r : List UInt8) : gapS false (10 :: r) = gapS false r := by rw [gapS, if_neg (by decide), if_pos (by decide)]
theorem lines_scan : ∀ l : List PT, (∀ t ∈ l, checkB t = 0) → Scans (gapS false (linesM l)) (tksT l).flatten []
  | [], _ => by simp only [linesM, List.flatMap_nil, tksT, List.flatten_nil, gapS]; exact .nil _
  | t :: l, h => by
    have hc := h t (List.mem_cons_self ..)
    have hs := scan_any t (check_back hc).1 (10 :: linesM l) (stops_cons (by decide))
    have ih := lines_scan l fun u hu => h u (List.mem_cons_of_mem _ hu)
    rw [lines_cons, told_ok hc, hs.nogap (tkD_ne t), tksT, List.flatten_cons]
    rw [gap_line] at hs
    exact hs.trans ih
theorem first_ok : ∀ {l : List PT}, firstM l = 0 → ∀ t ∈ l, checkB t = 0
  | [], _, t, h => by cases h
  | u :: l, hf, t, h => by
    rw [firstM] at hf
    split at hf
    · rename_i hc; exact absurd hf hc
    · rename_i hc
      rcases List.mem_cons.1 h with rfl | h
      · simpa using hc
      · exact first_ok hf t h
theorem ok_first : ∀ {l : List PT}, (∀ t ∈ l, checkB t = 0) → firstM l = 0
  | [], _ => rfl
  | u :: l, h => by
    rw [firstM, if_neg (by simp [h u (List.mem_cons_self ..)])]
    exact ok_first fun t ht => h t (List.mem_cons_of_mem _ ht)
/-- All that a source says whose tokens are so many. -/
theorem read_scan {s : List UInt8} {ts : List Tk} (h : Scans (gapS false s) ts []) (h1 : s.length ≤ 4096) (h2 : ts.length ≤ 2048) : ∃ ps : List TkP, ps.map (·.t) = ts ∧ readT s = runM s.length [] [] ps := by
  obtain ⟨ps, e1, e2⟩ := h.run (N := s.length) 0 (by omega)
  refine ⟨ps, e1, ?_⟩
  have e3 : runT s.length 0 (gapS false s) = (ps, 0, 0) := by rw [e2]; simp [runT]
  have e4 : toksT s = (ps, 0, 0) := by rw [toks_of h1, e3]; simp
  unfold readT
  rw [e4, if_neg (by simp)]
theorem read_lines {l : List PT} (h : ∀ t ∈ l, checkB t = 0) (h1 : (linesM l).length ≤ 4096) (h2 : (tksT l).flatten.length ≤ 2048) : readT (linesM l) = (l, 0, 0) := by
  obtain ⟨ps, e1, e2⟩ := read_scan (lines_scan l h) h1 h2
  have e3 := source_gives (N := (linesM l).length) (q := []) l h [] ps e1
  rw [e2]
  rw [List.append_nil] at e3
  rw [e3, run_nil, if_pos rfl]
  simp
theorem lines_tokens {l : List PT} (h : ∀ t ∈ l, checkB t = 0) : (tksT l).flatten.length ≤ (linesM l).length := by
  have h1 := (lines_scan l h).len
  have h2 := gapS_le false (linesM l)
  simp only [List.length_nil] at h1
  omega
/-- Read again, or refused as too long. -/
theorem read_back {l : List PT} (h : ∀ t ∈ l, checkB t = 0) : readT (linesM l) = (l, 0, 0) ∨ 2048 < (linesM l).length ∧ ∃ a e, readT (linesM l) = ([], a, e) ∧ (e = 34 ∨ e = 35) := by
  by_cases h1 : (linesM l).length ≤ 4096
  · by_cases h2 : (tksT l).flatten.length ≤ 2048
    · exact .inl (read_lines h h1 h2)
    · right
      have h3 := lines_tokens h
      have h4 := (lines_scan l h).many (N := (linesM l).length) 0 (by omega) (by omega)
      refine ⟨by omega, (runT (linesM l).length 0 (gapS false (linesM l))).2.1, 34, ?_, .inl rfl⟩
      have e4 : toksT (linesM l) = ([], (runT (linesM l).length 0 (gapS false (linesM l))).2.1, 34) := by
        rw [toks_of h1, if_neg (by rw [h4]; decide)]
        exact Prod.ext rfl (Prod.ext rfl h4)
      unfold readT
      rw [e4, if_pos (by simp)]
  · right
    refine ⟨by omega, 0, 35, ?_, .inr rfl⟩
    have e4 : toksT (linesM l) = ([], 0, 35) := by unfold toksT; rw [if_pos (by omega)]
    unfold readT
    rw [e4, if_pos (by simp)]
end Go.Proofs.YthfjlcflpneffaaGreatDoor
