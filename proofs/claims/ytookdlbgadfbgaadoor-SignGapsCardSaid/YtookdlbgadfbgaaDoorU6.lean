/-
The law SignGaps of layer 3: its walk. Where the two errors of strconv are as the program lays them.
-/
import Derived.Test.YtookdlbgadfbgaaDoorU7
namespace Go.Proofs.YtookdlbgadfbgaaDoor
open Go.ChangeShapes Go.WideShapes Go.ChangeAt Go.RowKit

theorem heap_alloc_new (w : World) (o : Obj) : (w.alloc o).heap[w.heap.size]? = some o := by
  rw [World.alloc]; simp
theorem tm_bound (a b : Int) (hb : 0 < b) : -b < a.tmod b ∧ a.tmod b < b := by
  refine ⟨?_, Int.tmod_lt_of_pos a hb⟩
  rcases Int.lt_or_le a 0 with h | h
  · have h1 := Int.tmod_lt_of_pos (-a) hb
    rw [Int.neg_tmod] at h1
    omega
  · have := Int.tmod_nonneg b h
    omega

def gapTexts : List (List UInt8) := [[32], [10], [13, 9], [59, 120, 10], [59, 34, 40, 10, 32]]
theorem gap_texts {g : List UInt8} (h : g ∈ gapTexts) : GapText g := by
  simp only [gapTexts, List.mem_cons, List.not_mem_nil, or_false] at h
  have st : ∀ c r, nby8 c = false → Stops (c :: r) := fun c r hc d hd => by simp at hd; subst hd; exact hc
  rcases h with rfl | rfl | rfl | rfl | rfl
  · exact ⟨by simp, fun m => by simp [gapS, gapB], st _ _ (by decide +kernel)⟩
  · exact ⟨by simp, fun m => by simp [gapS, gapB], st _ _ (by decide +kernel)⟩
  · exact ⟨by simp, fun m => by simp [gapS, gapB], st _ _ (by decide +kernel)⟩
  · exact ⟨by simp, fun m => by simp [gapS], st _ _ (by decide +kernel)⟩
  · exact ⟨by simp, fun m => by simp [gapS, gapB], st _ _ (by decide +kernel)⟩

theorem fits_get {s : List UInt8} : ∀ {ts : List TkP} {e : Nat}, Fits s e ts → ∀ k (h : k < ts.length), ts[k].a < ts[k].b ∧ ts[k].b ≤ s.length
  | q :: ts, e, hf, 0, _ => by rw [Fits] at hf; exact ⟨hf.2.1, hf.2.2.1⟩
  | q :: ts, e, hf, k + 1, h => by
    rw [Fits] at hf
    simpa using fits_get hf.2.2.2.2.2 k (by simpa using h)

theorem put_list (s g : ByteArray) (p : Nat) (_ : p ≤ s.size) : (s.extract 0 p ++ g ++ s.extract p s.size).data.toList = s.data.toList.take p ++ (g.data.toList ++ s.data.toList.drop p) := by
  have h1 : (s.extract 0 p).data.toList = s.data.toList.take p := by rw [extract_list, List.drop_zero, Nat.sub_zero]
  have h2 : (s.extract p s.size).data.toList = s.data.toList.drop p := by rw [extract_list, List.take_of_length_le (by rw [List.length_drop, len_data]; omega)]
  rw [ByteArray.data_append, ByteArray.data_append, Array.toList_append, Array.toList_append, h1, h2, List.append_assoc]

set_option maxRecDepth 100000 in
theorem gaps_err (s : ByteArray) (x y : Int) (w : World) (hs : s.size ≤ maxLen) (hE : ErrsOk w) (hr : (toksT s.data.toList).2.2 ≠ 0) :
    Calls Tryd.prog 6 #[.string s, .int .i64 x, .int .i64 y] w fun e w' => e = .returned (.bool true) ∧ Below w.heap.size w w' := by
  have HE := Lib.hid (fun W (h : Below w.heap.size w W) => hE.below h hE.two)
  have HF := Lib.hid (fun W h => fixed_any W h)
  have C1 := tokens_any s w hs hE
  generalize toksT s.data.toList = q at C1 hr
  obtain ⟨ts, pl, er⟩ := q
  simp only at C1 hr
  have H1 := Lib.hid C1
  have hr' : (er != 0) = true := by simpa using hr
  clear C1 hE hr
  go_enter Tryd.func6, Tryd.ntmps6
  go_wp2_with fail
  refine H1.out.mono ?_
  rintro e w1 ⟨⟨v, rfl, o1⟩, hb1⟩
  have B1 := Lib.hid hb1
  clear o1 hb1
  go_wp2_with fail
  refine (HF.out w1 (HE.out w1 B1.out)).mono ?_
  rintro e w2 ⟨rfl, hb2⟩
  have B2 := Lib.hid (B1.out.trans (hb2.mono B1.out.size))
  clear hb2
  go_wp2_with fail
  refine (HF.out w2 (HE.out w2 B2.out)).mono ?_
  rintro e w3 ⟨rfl, hb3⟩
  have B3 := Lib.hid (B2.out.trans (hb3.mono B2.out.size))
  clear hb3
  go_wp2
  go_ret
  exact ⟨rfl, B3.out⟩

/-- The gaps' row, and the place of the one that is taken. -/
abbrev gapC : Array Value := #[.string ⟨#[32]⟩, .string ⟨#[10]⟩, .string ⟨#[13, 9]⟩, .string ⟨#[59, 120, 10]⟩, .string ⟨#[59, 34, 40, 10, 32]⟩]
theorem gap_at (i : Nat) (h : i < 5) : ∃ g : ByteArray, gapC[i]? = some (.string g) ∧ g.data.toList ∈ gapTexts ∧ g.size ≤ 5 := by
  match i, h with
  | 0, _ => exact ⟨_, rfl, by simp [gapTexts], by decide⟩
  | 1, _ => exact ⟨_, rfl, by simp [gapTexts], by decide⟩
  | 2, _ => exact ⟨_, rfl, by simp [gapTexts], by decide⟩
  | 3, _ => exact ⟨_, rfl, by simp [gapTexts], by decide⟩
  | 4, _ => exact ⟨_, rfl, by simp [gapTexts], by decide⟩

set_option maxRecDepth 100000 in
set_option maxHeartbeats 2000000 in
theorem gaps_main (s : ByteArray) (x y : Int) (w : World) (hE : ErrsOk w) (hr : (toksT s.data.toList).2.2 = 0) (hn0 : (toksT s.data.toList).1 ≠ []) :
    Calls Tryd.prog 6 #[.string s, .int .i64 x, .int .i64 y] w fun e w' => e = .returned (.bool true) ∧ Below w.heap.size w w' := by
  have HE := Lib.hid (fun W (h : Below w.heap.size w W) => hE.below h hE.two)
  have HF := Lib.hid (fun W h => fixed_any W h)
  obtain ⟨hsz, _, _, _⟩ := toks_ok hr
  rw [len_data] at hsz
  have C1 := tokens_any s w (by unfold maxLen; omega) hE
  have hfit := toks_fits hr
  have hlen := toks_len hr
  have hput := fun (g : List UInt8) (hg : GapText g) p hp hl => toks_put (s := s.data.toList) (g := g) hg hr p hp hl
  have hTA : ∀ (u : ByteArray) W, u.size ≤ 4096 → Below w.heap.size w W → Calls Tryd.prog 8 #[.string u] W fun e w' => ToksOk (toksT u.data.toList) W.heap.size e w' ∧ Below W.heap.size W w' := fun u W hu hb => tokens_any u W (by unfold maxLen; omega) (HE.out W hb)
  generalize toksT s.data.toList = q at C1 hr hn0 hfit hlen hput
  obtain ⟨ts, pl, er⟩ := q
  simp only at C1 hr hn0 hfit hlen hput
  subst hr
  have hpos := List.length_pos_iff.2 hn0
  obtain ⟨n1, hn1⟩ : ∃ n1, ts.length = n1 + 1 := ⟨ts.length - 1, by omega⟩
  -- which gap
  obtain ⟨r, hrr⟩ : ∃ r, r = y.tmod 5 := ⟨_, rfl⟩
  have hrb := tm_bound y 5 (by decide)
  rw [← hrr] at hrb
  obtain ⟨i, hi⟩ : ∃ i : Nat, (i : Int) = (r + 5) % 5 := ⟨((r + 5) % 5).toNat, by omega⟩
  have hi5 : i < 5 := by omega
  obtain ⟨g, hg1, hg2, hg3⟩ := gap_at i hi5
  -- which token
  obtain ⟨q, hqq⟩ : ∃ q, q = x.tmod (ts.length : Int) := ⟨_, rfl⟩
  have hqb := tm_bound x (ts.length : Int) (by omega)
  rw [← hqq] at hqb
  obtain ⟨k, hk⟩ : ∃ k : Nat, (k : Int) = (q + (ts.length : Int)) % (ts.length : Int) := ⟨((q + (ts.length : Int)) % (ts.length : Int)).toNat, by
    have := Int.emod_nonneg (q + (ts.length : Int)) (b := (ts.length : Int)) (by omega)
    omega⟩
  have hkl : k < ts.length := by
    have := Int.emod_lt_of_pos (q + (ts.length : Int)) (b := (ts.length : Int)) (by omega)
    omega
  obtain ⟨ka, kb⟩ := fits_get hfit k hkl
  have hln : n1 < ts.length := by omega
  obtain ⟨la, lb⟩ := fits_get hfit n1 hln
  rw [len_data] at kb lb
  -- the place, and what comes of it
  have key : ∀ p, p = ts[k].a ∨ p = ts[n1].b → p ≤ s.size ∧ ((s.extract 0 p ++ g ++ s.extract p s.size).size ≤ 4096 → ∀ W, Below w.heap.size w W → Calls Tryd.prog 8 #[.string (s.extract 0 p ++ g ++ s.extract p s.size)] W fun e w' => (∃ us pl', ToksOk (us, pl', 0) W.heap.size e w' ∧ us.map (·.t) = ts.map (·.t) ∧ us.length ≤ 4096) ∧ Below W.heap.size W w') := by
    intro p hp
    have hps : p ≤ s.size := by rcases hp with rfl | rfl <;> omega
    refine ⟨hps, fun hz W hb => ?_⟩
    have hl := put_list s g p hps
    have hsp : (∃ k, ∃ h : k < ts.length, p = ts[k].a) ∨ (∃ q, ts.getLast? = some q ∧ p = q.b) := by
      rcases hp with rfl | rfl
      · exact .inl ⟨k, hkl, rfl⟩
      · refine .inr ⟨ts[n1], ?_, rfl⟩
        rw [List.getLast?_eq_getElem?, hn1, Nat.add_sub_cancel, List.getElem?_eq_getElem hln]
    obtain ⟨p1, p2⟩ := hput g.data.toList (gap_texts hg2) p hsp (by rw [← hl, len_data]; exact hz)
    have hlu := toks_len p1
    have C := hTA (s.extract 0 p ++ g ++ s.extract p s.size) W hz hb
    rw [hl] at C
    refine C.mono ?_
    rintro e w' ⟨h1, h2⟩
    refine ⟨⟨(toksT (s.data.toList.take p ++ (g.data.toList ++ s.data.toList.drop p))).1, (toksT (s.data.toList.take p ++ (g.data.toList ++ s.data.toList.drop p))).2.1, ?_, p2, hlu⟩, h2⟩
    unfold ToksOk at h1 ⊢
    simp only
    rw [p1] at h1
    exact h1
  obtain ⟨pa, hpa⟩ : ∃ p, p = ts[k].a := ⟨_, rfl⟩
  obtain ⟨pb, hpb⟩ : ∃ p, p = ts[n1].b := ⟨_, rfl⟩
  obtain ⟨p, hpy, hpn⟩ : ∃ p, (y < 0 → p = pb) ∧ (¬ y < 0 → p = pa) := by
    by_cases h : y < 0
    · exact ⟨pb, fun _ => rfl, fun n => absurd h n⟩
    · exact ⟨pa, fun n => absurd n h, fun _ => rfl⟩
  obtain ⟨hps, hk2⟩ := key p (by
    by_cases h : y < 0
    · exact .inr ((hpy h).trans hpb)
    · exact .inl ((hpn h).trans hpa))
  obtain ⟨t, ht⟩ : ∃ t, s.extract 0 p ++ g ++ s.extract p s.size = t := ⟨_, rfl⟩
  rw [ht] at hk2
  have htz : t.size ≤ 10000 := by rw [← ht]; simp; omega
  have HT := Lib.hid ht
  have HK := Lib.hid hk2
  have HPA := Lib.hid hpa
  have HPB := Lib.hid hpb
  have hpi : (p : Int) ≤ (s.size : Int) := by omega
  have H1 := Lib.hid C1
  clear hk2 hpa hpb ht
  have hi' : (y.tmod 5 % 5).toNat = i := by omega
  have hk' : (q + (ts.length : Int)) % (ts.length : Int) = (k : Int) := hk.symm
  have hn4 : (ts.length : Int) ≤ 4096 := by omega
  have hnp : 0 < (ts.length : Int) := by omega
  have hnz : ¬((ts.length : Int) = 0) := by omega
  have hN1 := Lib.hid hn1
  rw [hqq] at hqb hk'
  rw [hrr] at hrb
  obtain ⟨hy1, hy2⟩ := hrb
  obtain ⟨hx1, hx2⟩ := hqb
  clear key C1 hE hput hTA hfit hg2 ka kb la lb hi hk hlen hn1 hpos hrr hqq
  have hgv : ∀ h, ([.string ⟨#[32]⟩, .string ⟨#[10]⟩, .string ⟨#[13, 9]⟩, .string ⟨#[59, 120, 10]⟩, .string ⟨#[59, 34, 40, 10, 32]⟩] : List Value)[i]'h = .string g := fun h => by
    have h2 := (Array.getElem?_eq_some_iff.1 hg1).2
    simpa [gapC] using h2
  have HGV := Lib.hid hgv
  clear hgv
  by_cases hy : y < 0
  all_goals
    first
      | (have e := hpy hy; subst e)
      | (have e := hpn hy; subst e)
    clear hpy hpn
    go_enter Tryd.func6, Tryd.ntmps6
    go_wp2_with fail
    refine H1.out.mono ?_
    rintro e w1 ⟨⟨v, rfl, o1⟩, hb1⟩
    have B1 := Lib.hid hb1
    have O1 := Lib.hid o1
    obtain ⟨a, c, rfl⟩ := TokOwn.shape o1
    clear o1 hb1
    go_wp2_with fail
    refine (HF.out w1 (HE.out w1 B1.out)).mono ?_
    rintro e w2 ⟨rfl, hb2⟩
    have B2 := Lib.hid (B1.out.trans (hb2.mono B1.out.size))
    have A2 := Lib.hid (O1.out.at.below hb2 (Nat.le_refl _))
    clear hb2
    have hc : (w2.alloc (.cells gapC 9)).cell? ⟨w2.heap.size, (y.tmod 5 % 5).toNat, none⟩ = some (.string g) := by
      rw [hi', Lib.cell_of_heap (heap_alloc_new w2 _)]; exact hg1
    have hc' : 0 ≤ y → (w2.alloc (.cells gapC 9)).cell? ⟨w2.heap.size, (y % 5).toNat, none⟩ = some (.string g) := fun h0 => by
      have h5 := Int.tmod_eq_emod_of_nonneg (b := 5) h0
      rw [h5] at hi'
      rw [show (y % 5).toNat = i by omega, Lib.cell_of_heap (heap_alloc_new w2 _)]; exact hg1
    first
      | (have hc'' := hc' (by omega))
      | skip
    clear hc'
    obtain ⟨_, _, e, hc1, hc2, hcl⟩ := A2.out
    cases e
    rcases hcl with h0 | ⟨o1, oo, rfl, hlt, hcell⟩
    · exact absurd h0 hn0
    unfold maxLen at hc2
    obtain ⟨_, _, _, x3, _⟩ := cells_item hcell k hkl
    obtain ⟨_, _, _, _, x4⟩ := cells_item hcell n1 hln
    rw [← HPA.out] at x3
    rw [← HPB.out, show n1 = ts.length - 1 by have := hN1.out; omega] at x4
    clear hcell
    go_wp2
    try simp only [HGV.out]
    go_quiet (fail)
    simp only [HT.out]
    have BD : ∀ n, Below w2.heap.size w2 ((w2.alloc (.cells gapC 9)).drewN n) := fun n => below_drewN ((Below.refl w2.heap.size w2).alloc (Nat.le_refl _) _) n
    have BD := Lib.hid BD
    have hb2w : w.heap.size ≤ w2.heap.size := B2.out.size
    by_cases hz : t.size ≤ 4096
    · have HC := Lib.hid (HK.out hz)
      have hz' : (t.size : Int) ≤ 4096 := by omega
      go_wp2_with fail
      · go_ret
        exact ⟨rfl, B2.out.trans ((BD.out _).mono hb2w)⟩
      all_goals
        refine (HC.out _ (B2.out.trans ((BD.out _).mono hb2w))).mono ?_
        rintro e w3 ⟨⟨us, pl', ⟨v3, rfl, o3⟩, hmap, hlu⟩, hb3⟩
        have B3 := Lib.hid ((BD.out _).trans (hb3.mono (BD.out _).size))
        have A3 := Lib.hid (A2.out.below B3.out (Nat.le_refl _))
        have O3 := Lib.hid o3.at
        clear o3 hb3
        go_wp2_with fail
        refine (alike_any us ts hmap _ _ w3 O3.out A3.out hlu).mono ?_
        rintro e w4 ⟨rfl, hb4⟩
        have B4 := Lib.hid (B3.out.trans (hb4.mono B3.out.size))
        clear hb4
        go_wp2
        go_ret
        exact ⟨rfl, B2.out.trans (B4.out.mono hb2w)⟩
    · have hz' : 4096 < (t.size : Int) := by omega
      go_wp2
      go_ret
      exact ⟨rfl, B2.out.trans ((BD.out _).mono hb2w)⟩
set_option maxRecDepth 100000 in
set_option maxHeartbeats 2000000 in
theorem gaps_none (s : ByteArray) (x y : Int) (w : World) (hE : ErrsOk w) (hr : (toksT s.data.toList).2.2 = 0) (hn0 : (toksT s.data.toList).1 = []) :
    Calls Tryd.prog 6 #[.string s, .int .i64 x, .int .i64 y] w fun e w' => e = .returned (.bool true) ∧ Below w.heap.size w w' := by
  have HE := Lib.hid (fun W (h : Below w.heap.size w W) => hE.below h hE.two)
  have HF := Lib.hid (fun W h => fixed_any W h)
  obtain ⟨hsz, _, _, _⟩ := toks_ok hr
  rw [len_data] at hsz
  have C1 := tokens_any s w (by unfold maxLen; omega) hE
  generalize toksT s.data.toList = q at C1 hr hn0
  obtain ⟨ts, pl, er⟩ := q
  simp only at C1 hr hn0
  subst hr hn0
  have hrb := tm_bound y 5 (by decide)
  obtain ⟨hy1, hy2⟩ := hrb
  obtain ⟨i, hi⟩ : ∃ i : Nat, i = (y.tmod 5 % 5).toNat := ⟨_, rfl⟩
  have hi5 : i < 5 := by omega
  obtain ⟨g, hg1, hg2, hg3⟩ := gap_at i hi5
  have hi' : (y.tmod 5 % 5).toNat = i := hi.symm
  have H1 := Lib.hid C1
  have hgv : ∀ h, ([.string ⟨#[32]⟩, .string ⟨#[10]⟩, .string ⟨#[13, 9]⟩, .string ⟨#[59, 120, 10]⟩, .string ⟨#[59, 34, 40, 10, 32]⟩] : List Value)[i]'h = .string g := fun h => by
    have h2 := (Array.getElem?_eq_some_iff.1 hg1).2
    simpa [gapC] using h2
  have HGV := Lib.hid hgv
  clear hgv hE C1 hi
  by_cases hy : y < 0
  all_goals
    go_enter Tryd.func6, Tryd.ntmps6
    go_wp2_with fail
    refine H1.out.mono ?_
    rintro e w1 ⟨⟨v, rfl, o1⟩, hb1⟩
    have B1 := Lib.hid hb1
    obtain ⟨a, c, rfl⟩ := TokOwn.shape o1
    clear o1 hb1
    go_wp2_with fail
    refine (HF.out w1 (HE.out w1 B1.out)).mono ?_
    rintro e w2 ⟨rfl, hb2⟩
    have B2 := Lib.hid (B1.out.trans (hb2.mono B1.out.size))
    clear hb2
    have hc : (w2.alloc (.cells gapC 9)).cell? ⟨w2.heap.size, (y.tmod 5 % 5).toNat, none⟩ = some (.string g) := by
      rw [hi', Lib.cell_of_heap (heap_alloc_new w2 _)]; exact hg1
    have hc' : 0 ≤ y → (w2.alloc (.cells gapC 9)).cell? ⟨w2.heap.size, (y % 5).toNat, none⟩ = some (.string g) := fun h0 => by
      have h5 := Int.tmod_eq_emod_of_nonneg (b := 5) h0
      rw [h5] at hi'
      rw [show (y % 5).toNat = i by omega, Lib.cell_of_heap (heap_alloc_new w2 _)]; exact hg1
    first
      | (have hc'' := hc' (by omega))
      | skip
    clear hc'
    go_wp2
    try simp only [HGV.out]
    go_quiet (fail)
    have BD : ∀ n, Below w2.heap.size w2 ((w2.alloc (.cells gapC 9)).drewN n) := fun n => below_drewN ((Below.refl w2.heap.size w2).alloc (Nat.le_refl _) _) n
    have BD := Lib.hid BD
    have hb2w : w.heap.size ≤ w2.heap.size := B2.out.size
    go_wp2
    all_goals
      go_ret
      exact ⟨rfl, B2.out.trans ((BD.out _).mono hb2w)⟩

theorem gaps_walk (s : ByteArray) (x y : Int) (w : World) (hs : s.size ≤ maxLen) (hE : ErrsOk w) :
    Calls Tryd.prog 6 #[.string s, .int .i64 x, .int .i64 y] w fun e w' => e = .returned (.bool true) ∧ Below w.heap.size w w' := by
  by_cases hr : (toksT s.data.toList).2.2 = 0
  · by_cases h0 : (toksT s.data.toList).1 = []
    · exact gaps_none s x y w hE hr h0
    · exact gaps_main s x y w hE hr h0
  · exact gaps_err s x y w hs hE hr
end Go.Proofs.YtookdlbgadfbgaaDoor
