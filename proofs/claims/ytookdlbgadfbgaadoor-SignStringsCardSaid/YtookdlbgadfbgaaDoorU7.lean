/-
The law SignJoins of layer 3: its walk. Where the two errors of strconv are as the program lays them.
-/
import Derived.Test.YtookdlbgadfbgaaDoorU5
import Derived.Lib.AppendZeros
namespace Go.Proofs.YtookdlbgadfbgaaDoor
open Go.ChangeShapes Go.WideShapes Go.ChangeAt Go.RowKit

theorem append_list (s t : ByteArray) : (s ++ (⟨#[10]⟩ : ByteArray) ++ t).data.toList = s.data.toList ++ 10 :: t.data.toList := by
  simp [ByteArray.data_append]

/-- append of a row of tokens to one of the call's own. -/
theorem wpList_append_toks {ops : Array Oper} {rest : List Oper} {o : Oper} {a : Act} {w : World} {Q : Exit → Act → World → Prop} (hgd : Region.wanted o (yielded ops a.tmps) = true) (s x : Operand)
    (ho : o.op = .call { callee := .builtin .append, args := #[s, x], argTypes := #[22, 22] }) (base : Nat) (ts us : List TkP) (v u : Value) (hs : a.eval s = v) (hx : a.eval x = u)
    (hown : TokOwn w base ts v) (hsrc : TokAt w us u) (hna : ∀ n c, u = .slice none n c → c = 0) (hlen : ts.length + us.length ≤ 1000000) (hbase : base ≤ w.heap.size)
    (h : ∀ v' w', TokOwn w' base (ts ++ us) v' → Below base w w' → w.heap.size ≤ w'.heap.size → (∀ k, k < w.heap.size → some k ≠ v.ownBlock → w'.heap[k]? = w.heap[k]?) → wpList Tryd.prog ops Q rest (a.put o.dst v') w') : wpList Tryd.prog ops Q (o :: rest) a w := by
  obtain ⟨i0, hi, hz0, hz1, hz2⟩ := info_parts infoTok
  have hlow : ∀ k, v.ownBlock = some k → base ≤ k := fun k hk => (World.ownsRow.lt (w := w) hown k hk).1
  obtain ⟨ad, c, rfl, hlc, hcm, hr⟩ := hsrc
  refine BigFrame.wpList_want hgd fun _ hK => ?_
  rcases hr with rfl | ⟨b', o', rfl, hlt, hc⟩
  · match ad with
    | none =>
      obtain rfl := hna _ _ rfl
      refine Lib.wp_append_run w s x 22 22 ho v _ hs hx _ _ (run_append_owned_none (P := Tryd.prog) (w := w) base 22 o.type 35 i0 5 Tryd.underlying22 hi v ts.length (cellsOf ts) hown) ?_
      exact hK _ _ (h v w (by unfold TokOwn; rw [List.append_nil]; exact hown) (Below.refl _ _) (Nat.le_refl _) (fun _ _ _ => rfl))
    | some ad =>
      refine wp_append_own w s x 22 ho base 35 i0 _ 5 48 Tryd.underlying22 hi hz0 hz1 hz2 rfl (by decide) v ts.length (cellsOf ts) hs hown ad 0 c [] hx rfl (fun j u h => by simp at h) (fun u h => by cases h) (by unfold maxLen; simp at hlen; omega) (by simp at hlen; omega) hbase ?_
      intro v' w' h1 h2 _
      exact hK _ _ (h v' w' (by unfold TokOwn; rw [List.append_nil]; simpa using h1) ((Below.refl base w).grown h2 hbase hlow) h2.size h2.block)
  · refine wp_append_own w s x 22 ho base 35 i0 _ 5 48 Tryd.underlying22 hi hz0 hz1 hz2 rfl (by decide) v ts.length (cellsOf ts) hs hown ⟨b', o', none⟩ us.length c (cellsOf us) hx (cellsOf_len us) (fun j u hj => by rw [add_plain]; exact hc j u hj) (cellsOf_cell us) (by unfold maxLen; omega) (by omega) hbase ?_
    intro v' w' h1 h2 _
    exact hK _ _ (h v' w' (by unfold TokOwn; rw [cellsOf_app, List.length_append]; exact h1) ((Below.refl base w).grown h2 hbase hlow) h2.size h2.block)

theorem TokOwn.none_cap {w : World} {base : Nat} {ts : List TkP} {v : Value} (h : TokOwn w base ts v) : ∀ n c, v = .slice none n c → c = 0 := by
  intro n c e
  rcases h.2 with ⟨rfl, h0⟩ | ⟨g, cap, cur, rfl, _⟩
  · cases e; rfl
  · cases e

theorem run_place_le (N : Nat) : ∀ (n cnt : Nat) (l : List UInt8), l.length ≤ n → (runT N cnt l).2.1 ≤ N
  | _, cnt, [], _ => by simp [runT]
  | n + 1, cnt, c :: r, hn => by
    by_cases hc : cnt = 2048
    · subst hc; rw [runT_many]; exact Nat.sub_le _ _
    · by_cases he : (oneT (c :: r)).2.2 = 0
      · have hlt := rest_lt he
        rw [runT_rest N cnt _ (by simp) hc he]
        exact run_place_le N n (cnt + 1) _ (by simp at hlt hn; omega)
      · rw [runT_bad _ _ c r hc he]; exact Nat.sub_le _ _
theorem toks_place (l : List UInt8) : (toksT l).2.1 ≤ l.length := by
  unfold toksT
  split
  · exact Nat.zero_le _
  · split
    · exact Nat.zero_le _
    · exact run_place_le _ _ _ _ (Nat.le_refl _)

set_option maxRecDepth 100000 in
set_option maxHeartbeats 2000000 in
theorem joins_small (s t : ByteArray) (w : World) (hs : s.size ≤ maxLen) (ht : t.size ≤ maxLen) (hE : ErrsOk w)
    (hno : (toksT s.data.toList).2.2 ≠ 0 ∨ (toksT s.data.toList).2.2 = 0 ∧ (2000 < s.size ∨ s.size ≤ 2000 ∧ (2000 < t.size ∨ t.size ≤ 2000 ∧ 1000 < (toksT s.data.toList).1.length + t.size))) :
    Calls Tryd.prog 7 #[.string s, .string t] w fun e w' => e = .returned (.bool true) ∧ Below w.heap.size w w' := by
  have HE := Lib.hid (fun W (h : Below w.heap.size w W) => hE.below h hE.two)
  have HF := Lib.hid (fun W h => fixed_any W h)
  have C1 := tokens_any s w hs hE
  have HT : Hid (∀ W, Below w.heap.size w W → Calls Tryd.prog 8 #[.string t] W fun e w' => ToksOk (toksT t.data.toList) W.heap.size e w' ∧ Below W.heap.size W w') := Lib.hid (fun W hb => tokens_any t W ht (HE.out W hb))
  have hlen : (toksT s.data.toList).2.2 = 0 → (toksT s.data.toList).1.length ≤ 4096 := toks_len
  generalize toksT s.data.toList = q at C1 hno hlen
  obtain ⟨ts, pl, er⟩ := q
  simp only at C1 hno hlen
  have H1 := Lib.hid C1
  unfold maxLen at hs ht
  clear C1 hE
  rcases hno with hno | ⟨hno, h2 | ⟨h2, h3 | ⟨h3, h4⟩⟩⟩
  · have hr' : (er != 0) = true := by simpa using hno
    clear hno hlen
    go_enter Tryd.func7, Tryd.ntmps7
    go_wp2_with fail
    refine H1.out.mono ?_
    rintro e w1 ⟨⟨v, rfl, o1⟩, hb1⟩
    have B1 := Lib.hid hb1
    clear o1 hb1
    go_wp2_with fail
    refine (HT.out w1 B1.out).mono ?_
    rintro e w2 ⟨⟨v2, rfl, _⟩, hb2⟩
    have B2 := Lib.hid (B1.out.trans (hb2.mono B1.out.size))
    clear hb2
    go_wp2_with fail
    refine (HF.out w2 (HE.out w2 B2.out)).mono ?_
    rintro e w3 ⟨rfl, hb3⟩
    have B3 := Lib.hid (B2.out.trans (hb3.mono B2.out.size))
    clear hb3
    go_wp2_with fail
    refine (HF.out w3 (HE.out w3 B3.out)).mono ?_
    rintro e w4 ⟨rfl, hb4⟩
    have B4 := Lib.hid (B3.out.trans (hb4.mono B3.out.size))
    clear hb4
    go_wp2
    go_ret
    exact ⟨rfl, B4.out⟩
  all_goals
    have hlen' := hlen hno
    have hr' : (er != 0) = false := by simpa using hno
    clear hno hlen
    go_enter Tryd.func7, Tryd.ntmps7
    go_wp2_with fail
    refine H1.out.mono ?_
    rintro e w1 ⟨⟨v, rfl, o1⟩, hb1⟩
    have B1 := Lib.hid hb1
    obtain ⟨a, c, rfl⟩ := TokOwn.shape o1
    clear o1 hb1
    go_wp2_with fail
    refine (HT.out w1 B1.out).mono ?_
    rintro e w2 ⟨⟨v2, rfl, _⟩, hb2⟩
    have B2 := Lib.hid (B1.out.trans (hb2.mono B1.out.size))
    clear hb2
    go_wp2_with fail
    refine (HF.out w2 (HE.out w2 B2.out)).mono ?_
    rintro e w3 ⟨rfl, hb3⟩
    have B3 := Lib.hid (B2.out.trans (hb3.mono B2.out.size))
    clear hb3
    go_wp2_with fail
    refine (HF.out w3 (HE.out w3 B3.out)).mono ?_
    rintro e w4 ⟨rfl, hb4⟩
    have B4 := Lib.hid (B3.out.trans (hb4.mono B3.out.size))
    clear hb4
    go_wp2
    go_ret
    exact ⟨rfl, B4.out⟩

set_option maxRecDepth 100000 in
set_option maxHeartbeats 2000000 in
theorem joins_great (s t : ByteArray) (w : World) (hE : ErrsOk w) (hr : (toksT s.data.toList).2.2 = 0) (h2 : s.size ≤ 2000) (h3 : t.size ≤ 2000) (h4 : (toksT s.data.toList).1.length + t.size ≤ 1000) :
    Calls Tryd.prog 7 #[.string s, .string t] w fun e w' => e = .returned (.bool true) ∧ Below w.heap.size w w' := by
  have HE := Lib.hid (fun W (h : Below w.heap.size w W) => hE.below h hE.two)
  have HF := Lib.hid (fun W h => fixed_any W h)
  have C1 := tokens_any s w (by unfold maxLen; omega) hE
  have CT : ∀ W, Below w.heap.size w W → Calls Tryd.prog 8 #[.string t] W fun e w' => ToksOk (toksT t.data.toList) W.heap.size e w' ∧ Below W.heap.size W w' := fun W hb => tokens_any t W (by unfold maxLen; omega) (HE.out W hb)
  have CJ : ∀ W, Below w.heap.size w W → Calls Tryd.prog 8 #[.string (s ++ (⟨#[10]⟩ : ByteArray) ++ t)] W fun e w' => ToksOk (toksT (s.data.toList ++ 10 :: t.data.toList)) W.heap.size e w' ∧ Below W.heap.size W w' := fun W hb => by
    have := tokens_any (s ++ (⟨#[10]⟩ : ByteArray) ++ t) W (by unfold maxLen; rw [← len_data, append_list, List.length_append, List.length_cons, len_data, len_data]; omega) (HE.out W hb)
    rwa [append_list] at this
  obtain ⟨j1, j2⟩ := toks_join (s := s.data.toList) (t := t.data.toList) hr (by rw [len_data]; exact h2) (by rw [len_data]; exact h3) (by rw [len_data]; exact h4)
  have hlt : (toksT t.data.toList).2.2 = 0 → (toksT t.data.toList).1.length ≤ 4096 := toks_len
  have hlj : (toksT (s.data.toList ++ 10 :: t.data.toList)).2.2 = 0 → (toksT (s.data.toList ++ 10 :: t.data.toList)).1.length ≤ 4096 := toks_len
  have het : (toksT t.data.toList).2.2 ≠ 0 → (toksT t.data.toList).1 = [] := toks_err
  have hpl : (toksT t.data.toList).2.1 ≤ t.size := by have := toks_place t.data.toList; rwa [len_data] at this
  rw [len_data] at j1
  generalize toksT s.data.toList = q at C1 hr h4 j1 j2
  generalize toksT t.data.toList = q2 at CT j1 j2 hlt het hpl
  generalize toksT (s.data.toList ++ 10 :: t.data.toList) = q3 at CJ j1 j2 hlj
  obtain ⟨ts, pl, er⟩ := q
  obtain ⟨us, pt, et⟩ := q2
  simp only at C1 hr h4 CT j1 j2 hlt het hpl
  subst hr
  have H1 := Lib.hid C1
  have HT := Lib.hid CT
  have h2' : (s.size : Int) ≤ 2000 := by omega
  have h3' : (t.size : Int) ≤ 2000 := by omega
  have h4' : (ts.length : Int) + (t.size : Int) ≤ 1000 := by omega
  clear C1 CT hE
  by_cases hz : et = 0
  · obtain ⟨k1, k2⟩ := j2 hz
    obtain ⟨vs, pv, ev⟩ := q3
    simp only at k1 k2 CJ hlj
    subst k1 hz
    have hlu := hlt rfl
    have hlv := hlj rfl
    have K2 := Lib.hid k2
    have HJ := Lib.hid CJ
    clear CJ j1 j2 k2 hlt hlj het
    go_enter Tryd.func7, Tryd.ntmps7
    go_wp2_with fail
    refine H1.out.mono ?_
    rintro e w1 ⟨⟨v, rfl, o1⟩, hb1⟩
    have B1 := Lib.hid hb1
    have O1 := Lib.hid o1
    obtain ⟨a, c, rfl⟩ := TokOwn.shape o1
    clear o1 hb1
    go_wp2_with fail
    refine (HT.out w1 B1.out).mono ?_
    rintro e w2 ⟨⟨v2, rfl, o2⟩, hb2⟩
    have B2 := Lib.hid (B1.out.trans (hb2.mono B1.out.size))
    have O1 := Lib.hid (O1.out.moved hb2)
    have O2 := Lib.hid o2
    obtain ⟨a2, c2, rfl⟩ := TokOwn.shape o2
    clear hb2 o2
    go_wp2_with fail
    refine (HF.out w2 (HE.out w2 B2.out)).mono ?_
    rintro e w3 ⟨rfl, hb3⟩
    have B3 := Lib.hid (B2.out.trans (hb3.mono B2.out.size))
    have O1 := Lib.hid (O1.out.moved hb3)
    have O2 := Lib.hid (O2.out.moved hb3)
    clear hb3
    go_wp2_with fail
    refine (HJ.out w3 B3.out).mono ?_
    rintro e w4 ⟨⟨v4, rfl, o4⟩, hb4⟩
    have B4 := Lib.hid (B3.out.trans (hb4.mono B3.out.size))
    have O1 := Lib.hid (O1.out.moved hb4)
    have O2 := Lib.hid (O2.out.moved hb4)
    have O4 := Lib.hid o4
    obtain ⟨a4, c4, rfl⟩ := TokOwn.shape o4
    clear hb4 o4
    have OW : Hid (TokOwn (w4.alloc (.cells #[] 35)) w4.heap.size [] (.slice (some ⟨w4.heap.size, 0, none⟩) 0 0)) := Lib.hid (by
      have := World.ownsRow_made (base := w4.heap.size) (e := 35) (size := 5) w4 #[] 0 (by simp) (Nat.zero_le _) rfl
      unfold TokOwn
      simpa [cellsOf] using this)
    have BA : Hid (Below w4.heap.size w4 (w4.alloc (.cells #[] 35))) := Lib.hid ((Below.refl _ _).alloc (Nat.le_refl _) _)
    have A1 : Hid (TokAt (w4.alloc (.cells #[] 35)) ts (.slice a ts.length c)) := Lib.hid (O1.out.at.below BA.out (Nat.le_refl _))
    have N1 := Lib.hid O1.out.none_cap
    have N2 := Lib.hid O2.out.none_cap
    have hb4 : w4.heap.size ≤ (w4.alloc (.cells #[] 35)).heap.size := by simp
    have hl1 : ([] : List TkP).length + ts.length ≤ 1000000 := by simp; omega
    have hl2 : ([] ++ ts).length + us.length ≤ 1000000 := by simp; omega
    go_wp2_with (at_builtin; refine wpList_append_toks rfl _ _ rfl w4.heap.size [] ts _ _ rfl rfl OW.out A1.out N1.out hl1 hb4 ?_)
    intro v5 w5 o5 hb5 hs5 _
    have B5 := Lib.hid (BA.out.trans hb5)
    have O5 := Lib.hid o5
    have A2 : Hid (TokAt w5 us (.slice a2 us.length c2)) := Lib.hid (O2.out.at.below B5.out (Nat.le_refl _))
    have hb5' : w4.heap.size ≤ w5.heap.size := B5.out.size
    clear o5 hb5 hs5
    go_wp2_with (at_builtin; refine wpList_append_toks rfl _ _ rfl w4.heap.size ([] ++ ts) us _ _ rfl rfl O5.out A2.out N2.out hl2 hb5' ?_)
    intro v6 w6 o6 hb6 hs6 _
    have B6 := Lib.hid (B5.out.trans hb6)
    have A6 : Hid (TokAt w6 (ts ++ us) v6) := Lib.hid (by have := o6.at; simpa using this)
    have A4 : Hid (TokAt w6 vs (.slice a4 vs.length c4)) := Lib.hid (O4.out.at.below B6.out (Nat.le_refl _))
    clear o6 hb6 hs6
    go_wp2_with fail
    refine (alike_any vs (ts ++ us) (by rw [K2.out, List.map_append]) _ _ w6 A4.out A6.out hlv).mono ?_
    rintro e w7 ⟨rfl, hb7⟩
    go_wp2
    go_ret
    exact ⟨rfl, (B4.out.trans (B6.out.mono B4.out.size)).trans (hb7.mono (by have := B4.out.size; have := B6.out.size; omega))⟩
  · have hz' : (et != 0) = true := by simpa using hz
    have hq := j1 hz
    subst hq
    have hus := het hz
    subst hus
    have HJ := Lib.hid CJ
    clear CJ j1 j2 hlt hlj het hz
    go_enter Tryd.func7, Tryd.ntmps7
    go_wp2_with fail
    refine H1.out.mono ?_
    rintro e w1 ⟨⟨v, rfl, o1⟩, hb1⟩
    have B1 := Lib.hid hb1
    obtain ⟨a, c, rfl⟩ := TokOwn.shape o1
    clear o1 hb1
    go_wp2_with fail
    refine (HT.out w1 B1.out).mono ?_
    rintro e w2 ⟨⟨v2, rfl, o2⟩, hb2⟩
    have B2 := Lib.hid (B1.out.trans (hb2.mono B1.out.size))
    obtain ⟨a2, c2, rfl⟩ := TokOwn.shape o2
    clear hb2 o2
    go_wp2_with fail
    refine (HF.out w2 (HE.out w2 B2.out)).mono ?_
    rintro e w3 ⟨rfl, hb3⟩
    have B3 := Lib.hid (B2.out.trans (hb3.mono B2.out.size))
    clear hb3
    go_wp2_with fail
    refine (HJ.out w3 B3.out).mono ?_
    rintro e w4 ⟨⟨v4, rfl, o4⟩, hb4⟩
    have B4 := Lib.hid (B3.out.trans (hb4.mono B3.out.size))
    obtain ⟨a4, c4, rfl⟩ := TokOwn.shape o4
    clear hb4 o4
    go_wp2
    go_ret
    exact ⟨rfl, B4.out⟩

theorem joins_walk (s t : ByteArray) (w : World) (hs : s.size ≤ maxLen) (ht : t.size ≤ maxLen) (hE : ErrsOk w) :
    Calls Tryd.prog 7 #[.string s, .string t] w fun e w' => e = .returned (.bool true) ∧ Below w.heap.size w w' := by
  by_cases hr : (toksT s.data.toList).2.2 = 0
  · by_cases h2 : s.size ≤ 2000
    · by_cases h3 : t.size ≤ 2000
      · by_cases h4 : (toksT s.data.toList).1.length + t.size ≤ 1000
        · exact joins_great s t w hE hr h2 h3 h4
        · exact joins_small s t w hs ht hE (.inr ⟨hr, .inr ⟨h2, .inr ⟨h3, by omega⟩⟩⟩)
      · exact joins_small s t w hs ht hE (.inr ⟨hr, .inr ⟨h2, .inl (by omega)⟩⟩)
    · exact joins_small s t w hs ht hE (.inr ⟨hr, .inl (by omega)⟩)
  · exact joins_small s t w hs ht hE (.inl hr)
end Go.Proofs.YtookdlbgadfbgaaDoor
