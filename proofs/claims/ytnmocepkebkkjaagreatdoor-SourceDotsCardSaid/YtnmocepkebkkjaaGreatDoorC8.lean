/-
Items, a dot and a tail in brackets: what is read of them; pure. No condition.
-/
import Derived.Test.YtnmocepkebkkjaaGreatDoorC5
namespace Go.Proofs.YtnmocepkebkkjaaGreatDoor
open Go.ChangeShapes Go.WideShapes Go.ChangeAt Go.RowKit
open Dat (PT makeT RepS NewS samesB textT textsT FormOk FormsOk nestB checkB numT numsT formB)

def spaced (l : List PT) : List UInt8 := l.flatMap fun t => textT false t ++ [32]
theorem spaced_take {l : List PT} {j : Nat} (h : j < l.length) : spaced (l.take (j + 1)) = spaced (l.take j) ++ (textT false l[j] ++ [32]) := by
  unfold spaced
  rw [List.take_succ_eq_append_getElem h, List.flatMap_append]
  simp only [List.flatMap_cons, List.flatMap_nil, List.append_nil]
theorem spaced_scan : ∀ (l : List PT), FormsOk l → ∀ r, Scans (gapS false (spaced l ++ r)) (tksT l).flatten (gapS false r)
  | [], _, r => by simp only [spaced, List.flatMap_nil, List.nil_append, tksT, List.flatten_nil]; exact .nil _
  | t :: l, h, r => by
    rw [FormsOk] at h
    have e : spaced (t :: l) ++ r = textT false t ++ 32 :: (spaced l ++ r) := by simp [spaced]
    have hs := scan_any t h.1
    have hst : Stops (32 :: (spaced l ++ r)) := stops_cons (by decide)
    rw [e, hs.nogap hst, tksT, List.flatten_cons]
    have h1 := hs _ hst
    rw [gap_blank] at h1
    exact h1.trans (spaced_scan l h.2 r)
def dotsT (l : List PT) (t : PT) : List UInt8 := 40 :: (spaced l ++ (46 :: 32 :: (textT false t ++ [41])))
theorem dots_scan {l : List PT} {t : PT} (hl : FormsOk l) (ht : FormOk t) : Scans (gapS false (dotsT l t)) (⟨0, [], 0⟩ :: ((tksT l).flatten ++ (⟨4, [], 0⟩ :: (tkD t ++ [⟨1, [], 0⟩])))) [] := by
  have s41 : Stops [41] := stops_cons (by decide)
  have s32 : Stops (32 :: (textT false t ++ [41])) := stops_cons (by decide)
  have k1 := spaced_scan l hl (46 :: 32 :: (textT false t ++ [41]))
  rw [one_nogap (by rw [one_dot _ s32])] at k1
  have hs := scan_any t ht
  have k2 := hs [41] s41
  rw [one_nogap (by rw [one_41])] at k2
  unfold dotsT
  rw [one_nogap (by rw [one_40])]
  refine .cons (one_40 _) ?_
  rw [List.drop_succ_cons, List.drop_zero]
  refine k1.trans (.cons (one_dot _ s32) ?_)
  rw [List.drop_succ_cons, List.drop_zero, gap_blank, hs.nogap s41]
  refine k2.trans (.cons (one_41 []) ?_)
  exact .nil _
theorem read_dots {l : List PT} {t : PT} (hl : FormsOk l) (ht : FormOk t) (h0 : l ≠ []) (hn : (dotsT l t).length ≤ 1000) :
    (1 + max (depthsT l) (depthT t) ≤ 32 → readT (dotsT l t) = ([makeT l t], 0, 0)) ∧ (32 < 1 + max (depthsT l) (depthT t) → ∃ a, readT (dotsT l t) = ([], a, 43)) ∧
      checkB (.mk 7 0 ⟨#[]⟩ (l ++ [t])) = if 1 + max (depthsT l) (depthT t) ≤ 32 then 0 else 21 := by
  have hs := dots_scan hl ht
  have hlen := hs.len
  have hgl := gapS_le false (dotsT l t)
  simp only [List.length_cons, List.length_append, List.length_nil] at hlen
  obtain ⟨ps, hp, e2⟩ := read_scan hs (by omega) (by simp only [List.length_cons, List.length_append, List.length_nil]; omega)
  have hnum := nums_tok l hl
  have hnum2 := num_tok t ht
  obtain ⟨p, ps1, rfl, e1, h1⟩ := map_cons hp
  obtain ⟨p2, p3, rfl, h2, h3⟩ := map_app h1
  obtain ⟨d, p4, rfl, e4, h4⟩ := map_cons h3
  obtain ⟨p5, p6, rfl, h5, h6⟩ := map_app h4
  obtain ⟨c, p7, rfl, e7, h7⟩ := map_cons h6
  obtain rfl : p7 = [] := by simpa using h7
  have ek : p.t.kind = 0 := by rw [e1]
  have ih := both_all l hl
  have it := both_any t ht
  refine ⟨fun hd => ?_, fun hd => ?_, ?_⟩
  · have g : Gives (dotsT l t).length 0 (p :: (p2 ++ d :: (p5 ++ [c]))) (makeT l t) [] := by
      refine gives_open (.inl ek) (by omega) ?_
      rw [ek]
      refine row_gives (.inl rfl) l (fun t ht => (ih t ht).1) hl [] p2 h2 (by omega) ?_
      exact in_dot h0 (by rw [e4]) (it.1 _ 1 p5 [c] h5 (by omega)) (by rw [e7])
    rw [e2, source_next (by simp) g, run_nil, if_pos rfl]
    rfl
  · have g : ∃ a, Fails (dotsT l t).length 0 (p :: (p2 ++ d :: (p5 ++ [c]))) a 43 := by
      by_cases h32 : 0 + 1 + depthsT l ≤ 32
      · obtain ⟨a, ha⟩ := it.2 (dotsT l t).length 1 p5 [c] h5 (by omega) (by omega)
        exact ⟨a, fails_open (.inl ek) (by omega) (by rw [ek]; exact row_passes (.inl rfl) l (fun t ht => (ih t ht).1) hl [] p2 h2 h32 (in_dot_fails h0 (by rw [e4]) ha))⟩
      · obtain ⟨a, ha⟩ := row_fails (.inl rfl) (by omega) l ih hl [] p2 h2 (N := (dotsT l t).length) (n := 0) (q := d :: (p5 ++ [c])) (by omega)
        exact ⟨a, fails_open (.inl ek) (by omega) (by rw [ek]; exact ha)⟩
    obtain ⟨a, ha⟩ := g
    exact ⟨a, by rw [e2, source_fails (by simp) ha]⟩
  · have hf : FormOk (.mk 7 0 ⟨#[]⟩ (l ++ [t])) := by
      rw [FormOk]
      exact ⟨by simp [formB], (formsOk_app _ _).2 ⟨hl, by rw [FormsOk, FormsOk]; exact ⟨ht, trivial⟩⟩⟩
    have hdp : depthT (.mk 7 0 ⟨#[]⟩ (l ++ [t])) = 1 + max (depthsT l) (depthT t) := by
      rw [depthT, if_pos (by decide), depths_app, depthsT, depthsT, Nat.max_zero]
    have hnn : numT (.mk 7 0 ⟨#[]⟩ (l ++ [t])) ≤ 4096 := by
      rw [numT, Dat.numsT_append]
      simp only [numsT]
      omega
    have hc := check_fwd hf hnn
    rw [hdp] at hc
    by_cases h : 1 + max (depthsT l) (depthT t) ≤ 32
    · rw [if_pos h]; exact hc.1 h
    · rw [if_neg h]; exact hc.2 (by omega)
end Go.Proofs.YtnmocepkebkkjaaGreatDoor
