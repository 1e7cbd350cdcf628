/-
Constants: package heap's Const and the document's, for every datum. No condition.
-/
import Derived.Test.YtjplfgenobmbnaaDoorQ18
import Derived.Test.YtjplfgenobmbnaaDoorWR
namespace Go.Proofs.YtjplfgenobmbnaaDoor.Hp
open Go.ChangeShapes Go.WideShapes Go.ChangeAt Go.RowKit Go.Deep
open Dat (PT ok64 RepV RepS RowX infoDatum NewV NewS makeT make_any MakeOk numT numsT checkB formB)
set_option maxRecDepth 100000

/-- The value of a datum, and whether it is one. -/
def constT : PT → PV × Bool
  | .mk k i s l => if checkB (.mk k i s l) = 0 then (if k = 0 ∨ k = 1 ∨ k = 2 then (⟨k, i, ⟨#[]⟩⟩, true) else if k = 4 then (⟨3, 0, s⟩, true) else if k = 5 ∧ l = [] then (⟨4, 0, ⟨#[]⟩⟩, true) else (⟨0, 0, ⟨#[]⟩⟩, false)) else (⟨0, 0, ⟨#[]⟩⟩, false)
theorem constT_eq (k i : Int) (s : ByteArray) (l : List PT) : constT (.mk k i s l) = if checkB (.mk k i s l) = 0 then (if k = 0 ∨ k = 1 ∨ k = 2 then (⟨k, i, ⟨#[]⟩⟩, true) else if k = 4 then (⟨3, 0, s⟩, true) else if k = 5 ∧ l = [] then (⟨4, 0, ⟨#[]⟩⟩, true) else (⟨0, 0, ⟨#[]⟩⟩, false)) else (⟨0, 0, ⟨#[]⟩⟩, false) := rfl
theorem form_of {k i : Int} {s : ByteArray} {l : List PT} (h : checkB (.mk k i s l) = 0) : formB k i s.data.toList l = true := by
  unfold checkB at h
  rw [Dat.chk] at h
  split at h
  · rename_i h0; cases h0
  · split at h
    · cases h
    · split at h
      · assumption
      · cases h
def VB (u : PV) (b : Bool) : Ending := .returned (.tuple #[.agg #[.int .i64 u.k, .int .i64 u.i, .string u.s], .bool b])
theorem res_vb {fn : Func} {t p : Tmp} (h : fn.results = #[.cell p 28, .tmp t]) (tmps : Array Value) (w : World) (g : Nat) (a b c : Value)
    (hp : tmps.getD p undef = .pointer (some ⟨g, 0, none⟩)) (hg : w.heap[g]? = some (.cells #[a, b, c] 28 (0, 0))) : (results fn tmps).run Tryd.prog w = .ok (.tuple #[.agg #[a, b, c], tmps.getD t undef]) w := res_ve h tmps w g a b c hp hg
theorem ok_num' (k n : Int) (hk0 : 0 ≤ k) (hk1 : k ≤ 8) (h0 : -9223372036854775808 ≤ n) (h1 : n ≤ 9223372036854775807) : okV ⟨k, n, ⟨#[]⟩⟩ := ⟨⟨by show _ ≤ k; omega, by show k ≤ _; omega⟩, ⟨h0, h1⟩, (by decide : (⟨#[]⟩ : ByteArray).size ≤ maxLen)⟩
theorem kinds6 (k : Int) : k = 0 ∨ k = 1 ∨ k = 2 ∨ k = 4 ∨ k = 5 ∨ (k ≠ 0 ∧ k ≠ 1 ∧ k ≠ 2 ∧ k ≠ 4 ∧ k ≠ 5) := by omega
theorem empty_data {s : ByteArray} (h : s.data.toList.isEmpty = true) : s = ⟨#[]⟩ := by
  obtain ⟨⟨l⟩⟩ := s
  simp at h
  subst h
  rfl
set_option maxHeartbeats 2000000 in
theorem const_any (k i : Int) (s : ByteArray) (l : List PT) (x : Value) (w : World) (hx : RepV w w.heap.size (.mk k i s l) x) :
    Calls Tryd.prog 6 #[.agg #[.int .i64 k, .int .i64 i, .string s, x]] w fun e w' => e = VB (constT (.mk k i s l)).1 (constT (.mk k i s l)).2 ∧ Below w.heap.size w w' := by
  have hx2 := hx.2.2.2
  obtain ⟨a, c, rfl, hl1, hl2, _⟩ := hx.2.2.2
  obtain ⟨Z0, Z1, B0⟩ := two_new w (.cells #[.int .i64 k, .int .i64 i, .string s, .slice a l.length c] 24) (.cells #[.int .i64 0, .int .i64 0, .string ⟨#[]⟩] 28)
  have hs0 : ((w.alloc (.cells #[.int .i64 k, .int .i64 i, .string s, .slice a l.length c] 24)).alloc (.cells #[.int .i64 0, .int .i64 0, .string ⟨#[]⟩] 28)).heap.size = w.heap.size + 1 + 1 := by rw [size_new, size_new]
  have KC0 := Dat.check_any (.mk k i s l) (.slice a l.length c) _ w.heap.size ⟨hx.1, hx.2.1, hx.2.2.1, hx2.below B0 (Nat.le_refl _)⟩ B0.size
  have KC := Lib.hid KC0
  have HF := Lib.hid (form_of (k := k) (i := i) (s := s) (l := l))
  have HC : Hid (constT (.mk k i s l) = if checkB (.mk k i s l) = 0 then (if k = 0 ∨ k = 1 ∨ k = 2 then (⟨k, i, ⟨#[]⟩⟩, true) else if k = 4 then (⟨3, 0, s⟩, true) else if k = 5 ∧ l = [] then (⟨4, 0, ⟨#[]⟩⟩, true) else (⟨0, 0, ⟨#[]⟩⟩, false)) else (⟨0, 0, ⟨#[]⟩⟩, false)) := Lib.hid rfl
  generalize constT (.mk k i s l) = r at HC
  generalize checkB (.mk k i s l) = q at KC HF HC
  have HZ0 := Lib.hid Z0
  have HZ1 := Lib.hid Z1
  have HB0 := Lib.hid B0
  have HS0 := Lib.hid hs0
  unfold maxLen at hl2
  clear hx hx2 Z0 Z1 B0 hs0 KC0
  -- what is behind Check
  have AFT : Hid (∀ w1, Below ((w.alloc (.cells #[.int .i64 k, .int .i64 i, .string s, .slice a l.length c] 24)).alloc (.cells #[.int .i64 0, .int .i64 0, .string ⟨#[]⟩] 28)).heap.size ((w.alloc (.cells #[.int .i64 k, .int .i64 i, .string s, .slice a l.length c] 24)).alloc (.cells #[.int .i64 0, .int .i64 0, .string ⟨#[]⟩] 28)) w1 →
      w1.heap[w.heap.size]? = some (.cells #[.int .i64 k, .int .i64 i, .string s, .slice a l.length c] 24 (0, 0)) ∧ w1.heap[w.heap.size + 1]? = some (.cells #[.int .i64 0, .int .i64 0, .string ⟨#[]⟩] 28 (0, 0)) ∧ Below w.heap.size w w1 ∧ w.heap.size + 1 < w1.heap.size) := Lib.hid fun w1 hb => ⟨(hb.block _ (by rw [HS0.out]; omega)).trans HZ0.out, (hb.block _ (by rw [HS0.out]; omega)).trans HZ1.out, HB0.out.trans (hb.mono HB0.out.size), by have := hb.size; rw [HS0.out] at this; omega⟩
  by_cases hq : q = 0
  · have HR := Lib.hid (HC.out.trans (if_pos hq))
    have HFF := Lib.hid (HF.out hq)
    subst hq
    clear HC HF
    rcases kinds6 k with rfl | rfl | rfl | rfl | rfl | hk
    · -- a truth
      have hi01 : i = 0 ∨ i = 1 := by
        have := HFF.out
        simp [formB] at this
        omega
      rcases hi01 with rfl | rfl
      all_goals
        go_enter Tryd.func6, Tryd.ntmps6
        go_wp2_with fail
        refine KC.out.mono ?_
        rintro e w1 ⟨rfl, hb1⟩
        obtain ⟨e0, e1, hB, hlt⟩ := AFT.out w1 hb1
        obtain ⟨⟨x0, x1, x2, x3⟩, -⟩ := look4 e0
        have E1 := Lib.hid e1
        have BB := Lib.hid hB
        clear e0 e1 hB hb1
        go_wp2_with fail
        refine (truth_any _ _).mono ?_
        rintro e w2 ⟨rfl, hb2⟩
        have e2 := (hb2.block (w.heap.size + 1) hlt).trans E1.out
        obtain ⟨⟨y0, y1, y2⟩, f0, f1, f2⟩ := look3 e2
        have B2 := Lib.hid (BB.out.trans (hb2.mono BB.out.size))
        have E2 := Lib.hid e2
        clear hb2 e2
        go_wp2
        exact bodyPost_ret (res_vb (t := 3) (p := 2) rfl _ _ (w.heap.size + 1) _ _ _ rfl (put3 E2.out _ _ _)) rfl ⟨by rw [HR.out]; rfl, put3_below B2.out (Nat.le_succ _) _ _ _⟩
    · go_enter Tryd.func6, Tryd.ntmps6
      go_wp2_with fail
      refine KC.out.mono ?_
      rintro e w1 ⟨rfl, hb1⟩
      obtain ⟨e0, e1, hB, hlt⟩ := AFT.out w1 hb1
      obtain ⟨⟨x0, x1, x2, x3⟩, -⟩ := look4 e0
      obtain ⟨⟨z0, z1, z2⟩, g0, g1, g2⟩ := look3 e1
      have E1 := Lib.hid e1
      have BB := Lib.hid hB
      clear e0 e1 hB hb1
      go_wp2_with fail
      refine (number_any i _).mono ?_
      rintro e w2 ⟨rfl, hb2⟩
      have e2 := (hb2.block (w.heap.size + 1) hlt).trans E1.out
      obtain ⟨⟨y0, y1, y2⟩, f0, f1, f2⟩ := look3 e2
      have B2 := Lib.hid (BB.out.trans (hb2.mono BB.out.size))
      have E2 := Lib.hid e2
      clear hb2 e2
      go_wp2
      exact bodyPost_ret (res_vb (t := 3) (p := 2) rfl _ _ (w.heap.size + 1) _ _ _ rfl (put3 E2.out _ _ _)) rfl ⟨by rw [HR.out]; rfl, put3_below B2.out (Nat.le_succ _) _ _ _⟩
    · go_enter Tryd.func6, Tryd.ntmps6
      go_wp2_with fail
      refine KC.out.mono ?_
      rintro e w1 ⟨rfl, hb1⟩
      obtain ⟨e0, e1, hB, hlt⟩ := AFT.out w1 hb1
      obtain ⟨⟨x0, x1, x2, x3⟩, -⟩ := look4 e0
      obtain ⟨⟨z0, z1, z2⟩, g0, g1, g2⟩ := look3 e1
      have E1 := Lib.hid e1
      have BB := Lib.hid hB
      clear e0 e1 hB hb1
      go_wp2_with fail
      refine (char_any i _).mono ?_
      rintro e w2 ⟨rfl, hb2⟩
      have e2 := (hb2.block (w.heap.size + 1) hlt).trans E1.out
      obtain ⟨⟨y0, y1, y2⟩, f0, f1, f2⟩ := look3 e2
      have B2 := Lib.hid (BB.out.trans (hb2.mono BB.out.size))
      have E2 := Lib.hid e2
      clear hb2 e2
      go_wp2
      exact bodyPost_ret (res_vb (t := 3) (p := 2) rfl _ _ (w.heap.size + 1) _ _ _ rfl (put3 E2.out _ _ _)) rfl ⟨by rw [HR.out]; rfl, put3_below B2.out (Nat.le_succ _) _ _ _⟩
    · go_enter Tryd.func6, Tryd.ntmps6
      go_wp2_with fail
      refine KC.out.mono ?_
      rintro e w1 ⟨rfl, hb1⟩
      obtain ⟨e0, e1, hB, hlt⟩ := AFT.out w1 hb1
      obtain ⟨⟨x0, x1, x2, x3⟩, -⟩ := look4 e0
      obtain ⟨⟨z0, z1, z2⟩, g0, g1, g2⟩ := look3 e1
      have E1 := Lib.hid e1
      have BB := Lib.hid hB
      clear e0 e1 hB hb1
      go_wp2
      exact bodyPost_ret (res_vb (t := 3) (p := 2) rfl _ _ (w.heap.size + 1) _ _ _ rfl (put3 E1.out _ _ _)) rfl ⟨by rw [HR.out]; rfl, put3_below BB.out (Nat.le_succ _) _ _ _⟩
    · by_cases hl0 : l = []
      · subst hl0
        have hz : ((([] : List PT).length : Int) == 0) = true := rfl
        go_enter Tryd.func6, Tryd.ntmps6
        go_wp2_with fail
        refine KC.out.mono ?_
        rintro e w1 ⟨rfl, hb1⟩
        obtain ⟨e0, e1, hB, hlt⟩ := AFT.out w1 hb1
        obtain ⟨⟨x0, x1, x2, x3⟩, -⟩ := look4 e0
        obtain ⟨⟨z0, z1, z2⟩, g0, g1, g2⟩ := look3 e1
        have E1 := Lib.hid e1
        have BB := Lib.hid hB
        clear e0 e1 hB hb1
        go_wp2
        exact bodyPost_ret (res_vb (t := 3) (p := 2) rfl _ _ (w.heap.size + 1) _ _ _ rfl (put3 E1.out _ _ _)) rfl ⟨by rw [HR.out]; rfl, put3_below BB.out (Nat.le_succ _) _ _ _⟩
      · have hz : ((l.length : Int) == 0) = false := by
          have := List.length_pos_iff.2 hl0
          simp; omega
        have HR2 : Hid (r = (⟨0, 0, ⟨#[]⟩⟩, false)) := Lib.hid (by rw [HR.out]; simp [hl0])
        clear hl0
        go_enter Tryd.func6, Tryd.ntmps6
        go_wp2_with fail
        refine KC.out.mono ?_
        rintro e w1 ⟨rfl, hb1⟩
        obtain ⟨e0, e1, hB, hlt⟩ := AFT.out w1 hb1
        obtain ⟨⟨x0, x1, x2, x3⟩, -⟩ := look4 e0
        obtain ⟨⟨z0, z1, z2⟩, g0, g1, g2⟩ := look3 e1
        have E1 := Lib.hid e1
        have BB := Lib.hid hB
        clear e0 e1 hB hb1
        go_wp2
        exact bodyPost_ret (res_vb (t := 3) (p := 2) rfl _ _ (w.heap.size + 1) _ _ _ rfl (put3 E1.out _ _ _)) rfl ⟨by rw [HR2.out]; rfl, put3_below BB.out (Nat.le_succ _) _ _ _⟩
    · obtain ⟨h0, h1, h2, h4, h5⟩ := hk
      have b0 : (k == 0) = false := by simpa using h0
      have b1 : (k == 1) = false := by simpa using h1
      have b2 : (k == 2) = false := by simpa using h2
      have b4 : (k == 4) = false := by simpa using h4
      have b5 : (k == 5) = false := by simpa using h5
      have HR2 : Hid (r = (⟨0, 0, ⟨#[]⟩⟩, false)) := Lib.hid (by rw [HR.out]; simp [h0, h1, h2, h4, h5])
      clear h0 h1 h2 h4 h5
      go_enter Tryd.func6, Tryd.ntmps6
      go_wp2_with fail
      refine KC.out.mono ?_
      rintro e w1 ⟨rfl, hb1⟩
      obtain ⟨e0, e1, hB, hlt⟩ := AFT.out w1 hb1
      obtain ⟨⟨x0, x1, x2, x3⟩, -⟩ := look4 e0
      obtain ⟨⟨z0, z1, z2⟩, g0, g1, g2⟩ := look3 e1
      have E1 := Lib.hid e1
      have BB := Lib.hid hB
      clear e0 e1 hB hb1
      go_wp2
      exact bodyPost_ret (res_vb (t := 3) (p := 2) rfl _ _ (w.heap.size + 1) _ _ _ rfl (put3 E1.out _ _ _)) rfl ⟨by rw [HR2.out]; rfl, put3_below BB.out (Nat.le_succ _) _ _ _⟩
  · have HR2 : Hid (r = (⟨0, 0, ⟨#[]⟩⟩, false)) := Lib.hid (HC.out.trans (if_neg hq))
    have hq1 : (q == 0) = false := by simpa using hq
    have hq2 : (q != 0) = true := by simpa using hq
    clear hq HC HF
    go_enter Tryd.func6, Tryd.ntmps6
    go_wp2_with fail
    refine KC.out.mono ?_
    rintro e w1 ⟨rfl, hb1⟩
    obtain ⟨e0, e1, hB, hlt⟩ := AFT.out w1 hb1
    obtain ⟨⟨x0, x1, x2, x3⟩, -⟩ := look4 e0
    obtain ⟨⟨z0, z1, z2⟩, g0, g1, g2⟩ := look3 e1
    have E1 := Lib.hid e1
    have BB := Lib.hid hB
    clear e0 e1 hB hb1
    go_wp2
    exact bodyPost_ret (res_vb (t := 3) (p := 2) rfl _ _ (w.heap.size + 1) _ _ _ rfl (put3 E1.out _ _ _)) rfl ⟨by rw [HR2.out]; rfl, put3_below BB.out (Nat.le_succ _) _ _ _⟩
set_option maxHeartbeats 2000000 in
theorem rconst_any (k i : Int) (s : ByteArray) (l : List PT) (x : Value) (w : World) (hx : RepV w w.heap.size (.mk k i s l) x) :
    Calls Tryd.prog 7 #[.agg #[.int .i64 k, .int .i64 i, .string s, x]] w fun e w' => e = VB (constT (.mk k i s l)).1 (constT (.mk k i s l)).2 ∧ Below w.heap.size w w' := by
  have hx2 := hx.2.2.2
  obtain ⟨a, c, rfl, hl1, hl2, _⟩ := hx.2.2.2
  obtain ⟨Z0, Z1, B0⟩ := two_new w (.cells #[.int .i64 k, .int .i64 i, .string s, .slice a l.length c] 24) (.cells #[.int .i64 0, .int .i64 0, .string ⟨#[]⟩] 28)
  have hs0 : ((w.alloc (.cells #[.int .i64 k, .int .i64 i, .string s, .slice a l.length c] 24)).alloc (.cells #[.int .i64 0, .int .i64 0, .string ⟨#[]⟩] 28)).heap.size = w.heap.size + 1 + 1 := by rw [size_new, size_new]
  have KC0 := Dat.rcheck_any (.mk k i s l) (.slice a l.length c) _ w.heap.size ⟨hx.1, hx.2.1, hx.2.2.1, hx2.below B0 (Nat.le_refl _)⟩ B0.size
  have KC := Lib.hid KC0
  have HF := Lib.hid (form_of (k := k) (i := i) (s := s) (l := l))
  have HC : Hid (constT (.mk k i s l) = if checkB (.mk k i s l) = 0 then (if k = 0 ∨ k = 1 ∨ k = 2 then (⟨k, i, ⟨#[]⟩⟩, true) else if k = 4 then (⟨3, 0, s⟩, true) else if k = 5 ∧ l = [] then (⟨4, 0, ⟨#[]⟩⟩, true) else (⟨0, 0, ⟨#[]⟩⟩, false)) else (⟨0, 0, ⟨#[]⟩⟩, false)) := Lib.hid rfl
  generalize constT (.mk k i s l) = r at HC
  generalize checkB (.mk k i s l) = q at KC HF HC
  have HZ0 := Lib.hid Z0
  have HZ1 := Lib.hid Z1
  have HB0 := Lib.hid B0
  have HS0 := Lib.hid hs0
  unfold maxLen at hl2
  clear hx hx2 Z0 Z1 B0 hs0 KC0
  -- what is behind Check
  have AFT : Hid (∀ w1, Below ((w.alloc (.cells #[.int .i64 k, .int .i64 i, .string s, .slice a l.length c] 24)).alloc (.cells #[.int .i64 0, .int .i64 0, .string ⟨#[]⟩] 28)).heap.size ((w.alloc (.cells #[.int .i64 k, .int .i64 i, .string s, .slice a l.length c] 24)).alloc (.cells #[.int .i64 0, .int .i64 0, .string ⟨#[]⟩] 28)) w1 →
      w1.heap[w.heap.size]? = some (.cells #[.int .i64 k, .int .i64 i, .string s, .slice a l.length c] 24 (0, 0)) ∧ w1.heap[w.heap.size + 1]? = some (.cells #[.int .i64 0, .int .i64 0, .string ⟨#[]⟩] 28 (0, 0)) ∧ Below w.heap.size w w1 ∧ w.heap.size + 1 < w1.heap.size) := Lib.hid fun w1 hb => ⟨(hb.block _ (by rw [HS0.out]; omega)).trans HZ0.out, (hb.block _ (by rw [HS0.out]; omega)).trans HZ1.out, HB0.out.trans (hb.mono HB0.out.size), by have := hb.size; rw [HS0.out] at this; omega⟩
  by_cases hq : q = 0
  · have HR := Lib.hid (HC.out.trans (if_pos hq))
    subst hq
    clear HC HF
    rcases kinds6 k with rfl | rfl | rfl | rfl | rfl | hk
    · go_enter Tryd.func7, Tryd.ntmps7
      go_wp2_with fail
      refine KC.out.mono ?_
      rintro e w1 ⟨rfl, hb1⟩
      obtain ⟨e0, e1, hB, hlt⟩ := AFT.out w1 hb1
      obtain ⟨⟨x0, x1, x2, x3⟩, -⟩ := look4 e0
      obtain ⟨⟨z0, z1, z2⟩, g0, g1, g2⟩ := look3 e1
      have E1 := Lib.hid e1
      have BB := Lib.hid hB
      clear e0 e1 hB hb1
      go_wp2
      exact bodyPost_ret (res_vb (t := 3) (p := 2) rfl _ _ (w.heap.size + 1) _ _ _ rfl (put3 E1.out _ _ _)) rfl ⟨by rw [HR.out]; rfl, put3_below BB.out (Nat.le_succ _) _ _ _⟩
    · go_enter Tryd.func7, Tryd.ntmps7
      go_wp2_with fail
      refine KC.out.mono ?_
      rintro e w1 ⟨rfl, hb1⟩
      obtain ⟨e0, e1, hB, hlt⟩ := AFT.out w1 hb1
      obtain ⟨⟨x0, x1, x2, x3⟩, -⟩ := look4 e0
      obtain ⟨⟨z0, z1, z2⟩, g0, g1, g2⟩ := look3 e1
      have E1 := Lib.hid e1
      have BB := Lib.hid hB
      clear e0 e1 hB hb1
      go_wp2
      exact bodyPost_ret (res_vb (t := 3) (p := 2) rfl _ _ (w.heap.size + 1) _ _ _ rfl (put3 E1.out _ _ _)) rfl ⟨by rw [HR.out]; rfl, put3_below BB.out (Nat.le_succ _) _ _ _⟩
    · go_enter Tryd.func7, Tryd.ntmps7
      go_wp2_with fail
      refine KC.out.mono ?_
      rintro e w1 ⟨rfl, hb1⟩
      obtain ⟨e0, e1, hB, hlt⟩ := AFT.out w1 hb1
      obtain ⟨⟨x0, x1, x2, x3⟩, -⟩ := look4 e0
      obtain ⟨⟨z0, z1, z2⟩, g0, g1, g2⟩ := look3 e1
      have E1 := Lib.hid e1
      have BB := Lib.hid hB
      clear e0 e1 hB hb1
      go_wp2
      exact bodyPost_ret (res_vb (t := 3) (p := 2) rfl _ _ (w.heap.size + 1) _ _ _ rfl (put3 E1.out _ _ _)) rfl ⟨by rw [HR.out]; rfl, put3_below BB.out (Nat.le_succ _) _ _ _⟩
    · go_enter Tryd.func7, Tryd.ntmps7
      go_wp2_with fail
      refine KC.out.mono ?_
      rintro e w1 ⟨rfl, hb1⟩
      obtain ⟨e0, e1, hB, hlt⟩ := AFT.out w1 hb1
      obtain ⟨⟨x0, x1, x2, x3⟩, -⟩ := look4 e0
      obtain ⟨⟨z0, z1, z2⟩, g0, g1, g2⟩ := look3 e1
      have E1 := Lib.hid e1
      have BB := Lib.hid hB
      clear e0 e1 hB hb1
      go_wp2
      exact bodyPost_ret (res_vb (t := 3) (p := 2) rfl _ _ (w.heap.size + 1) _ _ _ rfl (put3 E1.out _ _ _)) rfl ⟨by rw [HR.out]; rfl, put3_below BB.out (Nat.le_succ _) _ _ _⟩
    · by_cases hl0 : l = []
      · subst hl0
        have hz : ((([] : List PT).length : Int) == 0) = true := rfl
        go_enter Tryd.func7, Tryd.ntmps7
        go_wp2_with fail
        refine KC.out.mono ?_
        rintro e w1 ⟨rfl, hb1⟩
        obtain ⟨e0, e1, hB, hlt⟩ := AFT.out w1 hb1
        obtain ⟨⟨x0, x1, x2, x3⟩, -⟩ := look4 e0
        obtain ⟨⟨z0, z1, z2⟩, g0, g1, g2⟩ := look3 e1
        have E1 := Lib.hid e1
        have BB := Lib.hid hB
        clear e0 e1 hB hb1
        go_wp2
        exact bodyPost_ret (res_vb (t := 3) (p := 2) rfl _ _ (w.heap.size + 1) _ _ _ rfl (put3 E1.out _ _ _)) rfl ⟨by rw [HR.out]; rfl, put3_below BB.out (Nat.le_succ _) _ _ _⟩
      · have hz : ((l.length : Int) == 0) = false := by
          have := List.length_pos_iff.2 hl0
          simp; omega
        have HR2 : Hid (r = (⟨0, 0, ⟨#[]⟩⟩, false)) := Lib.hid (by rw [HR.out]; simp [hl0])
        clear hl0
        go_enter Tryd.func7, Tryd.ntmps7
        go_wp2_with fail
        refine KC.out.mono ?_
        rintro e w1 ⟨rfl, hb1⟩
        obtain ⟨e0, e1, hB, hlt⟩ := AFT.out w1 hb1
        obtain ⟨⟨x0, x1, x2, x3⟩, -⟩ := look4 e0
        obtain ⟨⟨z0, z1, z2⟩, g0, g1, g2⟩ := look3 e1
        have E1 := Lib.hid e1
        have BB := Lib.hid hB
        clear e0 e1 hB hb1
        go_wp2
        exact bodyPost_ret (res_vb (t := 3) (p := 2) rfl _ _ (w.heap.size + 1) _ _ _ rfl (put3 E1.out _ _ _)) rfl ⟨by rw [HR2.out]; rfl, put3_below BB.out (Nat.le_succ _) _ _ _⟩
    · obtain ⟨h0, h1, h2, h4, h5⟩ := hk
      have b0 : (k == 0) = false := by simpa using h0
      have b1 : (k == 1) = false := by simpa using h1
      have b2 : (k == 2) = false := by simpa using h2
      have b4 : (k == 4) = false := by simpa using h4
      have b5 : (k == 5) = false := by simpa using h5
      have HR2 : Hid (r = (⟨0, 0, ⟨#[]⟩⟩, false)) := Lib.hid (by rw [HR.out]; simp [h0, h1, h2, h4, h5])
      clear h0 h1 h2 h4 h5
      go_enter Tryd.func7, Tryd.ntmps7
      go_wp2_with fail
      refine KC.out.mono ?_
      rintro e w1 ⟨rfl, hb1⟩
      obtain ⟨e0, e1, hB, hlt⟩ := AFT.out w1 hb1
      obtain ⟨⟨x0, x1, x2, x3⟩, -⟩ := look4 e0
      obtain ⟨⟨z0, z1, z2⟩, g0, g1, g2⟩ := look3 e1
      have E1 := Lib.hid e1
      have BB := Lib.hid hB
      clear e0 e1 hB hb1
      go_wp2
      exact bodyPost_ret (res_vb (t := 3) (p := 2) rfl _ _ (w.heap.size + 1) _ _ _ rfl (put3 E1.out _ _ _)) rfl ⟨by rw [HR2.out]; rfl, put3_below BB.out (Nat.le_succ _) _ _ _⟩
  · have HR2 : Hid (r = (⟨0, 0, ⟨#[]⟩⟩, false)) := Lib.hid (HC.out.trans (if_neg hq))
    have hq1 : (q == 0) = false := by simpa using hq
    have hq2 : (q != 0) = true := by simpa using hq
    clear hq HC HF
    go_enter Tryd.func7, Tryd.ntmps7
    go_wp2_with fail
    refine KC.out.mono ?_
    rintro e w1 ⟨rfl, hb1⟩
    obtain ⟨e0, e1, hB, hlt⟩ := AFT.out w1 hb1
    obtain ⟨⟨x0, x1, x2, x3⟩, -⟩ := look4 e0
    obtain ⟨⟨z0, z1, z2⟩, g0, g1, g2⟩ := look3 e1
    have E1 := Lib.hid e1
    have BB := Lib.hid hB
    clear e0 e1 hB hb1
    go_wp2
    exact bodyPost_ret (res_vb (t := 3) (p := 2) rfl _ _ (w.heap.size + 1) _ _ _ rfl (put3 E1.out _ _ _)) rfl ⟨by rw [HR2.out]; rfl, put3_below BB.out (Nat.le_succ _) _ _ _⟩

/-- A constant is a value of every heap, is no thing, and shows the datum. -/
theorem const_facts {k i : Int} {s : ByteArray} {l : List PT} (hs : s.size ≤ maxLen) (h : (constT (.mk k i s l)).2 = true) (n : Nat) :
    hasB n (constT (.mk k i s l)).1 = true ∧ 0 ≤ (constT (.mk k i s l)).1.k ∧ (constT (.mk k i s l)).1.k ≤ 7 ∧ okV (constT (.mk k i s l)).1 ∧ shownT (constT (.mk k i s l)).1 = .mk k i s l := by
  have e0 : (⟨#[]⟩ : ByteArray).toList = [] := by kernel_rfl
  rw [constT_eq] at h ⊢
  by_cases hq : checkB (.mk k i s l) = 0
  · have hf := form_of hq
    rw [if_pos hq] at h ⊢
    by_cases h012 : k = 0 ∨ k = 1 ∨ k = 2
    · rw [if_pos h012] at h ⊢
      have hsl : s = ⟨#[]⟩ ∧ l = [] ∧ ((k = 0 ∧ 0 ≤ i ∧ i ≤ 1) ∨ (k = 1 ∧ -1152921504606846976 ≤ i ∧ i ≤ 1152921504606846975) ∨ (k = 2 ∧ 0 ≤ i ∧ i ≤ 255)) := by
        rcases h012 with rfl | rfl | rfl
        all_goals
          simp only [formB] at hf
          simp at hf
          refine ⟨empty_data (by simpa using hf.1.2), by simpa using hf.2, ?_⟩
          simp
          exact hf.1.1
      obtain ⟨rfl, rfl, hb⟩ := hsl
      rcases hb with ⟨rfl, h1, h2⟩ | ⟨rfl, h1, h2⟩ | ⟨rfl, h1, h2⟩
      all_goals
        refine ⟨by simp [hasB, numB, e0, h1, h2], by dsimp only; decide, by dsimp only; decide, ok_num' _ _ (by decide) (by decide) (by omega) (by omega), by simp [shownT]⟩
    · rw [if_neg h012] at h ⊢
      by_cases h4 : k = 4
      · subst h4
        rw [if_pos rfl] at h ⊢
        simp only [formB] at hf
        simp at hf
        obtain ⟨⟨rfl, hn⟩, hl⟩ := hf
        obtain rfl : l = [] := by simpa using hl
        exact ⟨by simp [hasB, hn], by dsimp only; decide, by dsimp only; decide, ⟨⟨by dsimp only; decide, by dsimp only; decide⟩, ⟨by dsimp only; decide, by dsimp only; decide⟩, hs⟩, by simp [shownT]⟩
      · rw [if_neg h4] at h ⊢
        by_cases h5 : k = 5 ∧ l = []
        · obtain ⟨rfl, rfl⟩ := h5
          rw [if_pos ⟨rfl, rfl⟩] at h ⊢
          simp only [formB] at hf
          simp at hf
          obtain ⟨rfl, hse⟩ := hf
          obtain rfl := empty_data (by simpa using hse)
          exact ⟨by simp [hasB, numB, e0], by decide, by decide, ⟨⟨by decide, by decide⟩, ⟨by decide, by decide⟩, by decide⟩, by simp [shownT]⟩
        · rw [if_neg h5] at h; cases h
  · rw [if_neg hq] at h; cases h
end Go.Proofs.YtjplfgenobmbnaaDoor.Hp
