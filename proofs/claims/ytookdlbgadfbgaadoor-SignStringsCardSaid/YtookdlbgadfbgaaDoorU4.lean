/-
The law SignStrings of layer 3: package data's Text at a string; its text is one token that says it; the walk. Where the two errors of strconv are as the program lays them.
-/
import Derived.Test.YtookdlbgadfbgaaDoorU7
import Derived.Test.YtookdlbgadfbgaaDoorDS
namespace Go.Proofs.YtookdlbgadfbgaaDoor
open Go.ChangeShapes Go.WideShapes Go.ChangeAt Go.RowKit

theorem hexV_hexd (n : Nat) (h : n < 16) : hexV (Dat.hexd n) = some n := by
  have : ∀ m : Fin 16, hexV (Dat.hexd m.val) = some m.val := by decide +kernel
  exact this ⟨n, h⟩
theorem escV_q (c : UInt8) (r : List UInt8) : escV (Dat.qbyteT c ++ r) = some (c, (Dat.qbyteT c).length) := by
  have hc := c.toNat_lt
  have h0 : (120 : UInt8) ≠ 34 := by decide
  unfold Dat.qbyteT
  by_cases h1 : c.toNat = 34 ∨ c.toNat = 92
  · rw [if_pos h1]
    have h2 : c = 34 ∨ c = 92 := h1.imp (fun h => UInt8.toNat_inj.1 h) (fun h => UInt8.toNat_inj.1 h)
    simp [escV, h2]
  · rw [if_neg h1]
    by_cases h2 : c.toNat = 10
    · rw [if_pos h2]
      have : c = 10 := UInt8.toNat_inj.1 h2
      subst this
      simp [escV]
    · rw [if_neg h2]
      by_cases h3 : 32 ≤ c.toNat ∧ c.toNat ≤ 126
      · rw [if_pos h3]
        have h4 : c ≠ 92 := fun h => h1 (.inr (by rw [h]; rfl))
        simp [escV, h4]
      · rw [if_neg h3]
        have a1 := hexV_hexd (c.toNat / 16) (by omega)
        have a2 := hexV_hexd (c.toNat % 16) (by omega)
        have a3 : UInt8.ofNat (16 * (c.toNat / 16) + c.toNat % 16) = c := by
          rw [show 16 * (c.toNat / 16) + c.toNat % 16 = c.toNat by omega]; simp
        simp [escV, Dat.hexT, twoV, a1, a2, a3]

theorem q_head (c : UInt8) : ∃ d q, Dat.qbyteT c = d :: q ∧ d ≠ 34 := by
  unfold Dat.qbyteT
  split
  · exact ⟨92, _, rfl, by decide⟩
  · split
    · exact ⟨92, _, rfl, by decide⟩
    · split
      · rename_i h _ _
        exact ⟨c, [], rfl, fun e => h (.inl (by rw [e]; rfl))⟩
      · exact ⟨92, _, rfl, by decide⟩

theorem txt_q : ∀ (s r : List UInt8), txt (Dat.qbytesT s ++ 34 :: r) = some (s, (Dat.qbytesT s).length + 1)
  | [], r => by simp [Dat.qbytesT, txt]
  | c :: s, r => by
    obtain ⟨d, q, hd, hne⟩ := q_head c
    have he := escV_q c (Dat.qbytesT s ++ 34 :: r)
    have ih := txt_q s r
    have e1 : Dat.qbytesT (c :: s) = d :: (q ++ Dat.qbytesT s) := by simp [Dat.qbytesT, hd]
    rw [hd] at he
    rw [e1, List.cons_append, List.append_assoc, txt, if_neg hne]
    rw [List.cons_append] at he
    rw [he]
    have e2 : (q ++ (Dat.qbytesT s ++ 34 :: r)).drop ((d :: q).length - 1) = Dat.qbytesT s ++ 34 :: r := by simp
    simp only [e2, ih]
    simp
    omega

theorem one_quote (s : List UInt8) : oneT (Dat.quoteT s) = (⟨8, s, 0⟩, (Dat.quoteT s).length, 0) := by
  have h := txt_q s []
  have e : Dat.quoteT s = 34 :: (Dat.qbytesT s ++ [34]) := rfl
  rw [e, oneT, if_neg (by decide), if_neg (by decide), if_neg (by decide), if_neg (by decide), if_pos rfl, h]
  simp
  omega

theorem toks_quote (s : List UInt8) (h : s.length ≤ 1000) : toksT (Dat.quoteT s) = ([⟨⟨8, s, 0⟩, 0, (Dat.quoteT s).length⟩], 0, 0) ∧ (Dat.quoteT s).length ≤ 4002 := by
  have hl : (Dat.quoteT s).length ≤ 4002 := by
    have := Dat.qbytesT_len s
    have e : Dat.quoteT s = 34 :: (Dat.qbytesT s ++ [34]) := rfl
    rw [e]; simp; omega
  have := toks_alone (one_quote s) (by
    have e : Dat.quoteT s = 34 :: (Dat.qbytesT s ++ [34]) := rfl
    rw [e]; simp [gapS, gapB]) (by omega)
  rw [List.take_of_length_le (Nat.le_refl _)] at this
  exact ⟨this, hl⟩

theorem rep_str (s : ByteArray) (hs : s.size ≤ maxLen) (w : World) (B : Nat) : Dat.RepV w B (.mk 3 0 s []) (.slice none 0 0) :=
  ⟨by unfold Dat.ok64; omega, by unfold Dat.ok64; omega, hs, none, 0, rfl, Nat.le_refl _, Nat.zero_le _, fun _ => rfl, .inl rfl⟩
theorem check_str (s : ByteArray) (hs : s.size ≤ 1000) : Dat.checkB (.mk 3 0 s []) = 0 := by
  have h : s.size ≤ 4096 := by omega
  simp [Dat.checkB, Dat.chk, Dat.chkL, Dat.nestB, Dat.formB, h]

set_option maxRecDepth 100000 in
theorem tell_str (s : ByteArray) (hs : s.size ≤ 1000) (w : World) :
    Calls Tryd.prog 18 #[.agg #[.int .i64 3, .int .i64 0, .string s, .slice none 0 0], .bool false] w fun e w' => e = .returned (.tuple #[.string ⟨(Dat.quoteT s.data.toList).toArray⟩, .int .i64 0]) ∧ Below w.heap.size w w' := by
  have C := fun W => Dat.check_any (.mk 3 0 s []) _ W W.heap.size (rep_str s (by unfold maxLen; omega) W W.heap.size) (Nat.le_refl _)
  rw [check_str s hs] at C
  have HC := Lib.hid C
  clear C
  go_enter Tryd.func18, Tryd.ntmps18
  go_wp2_with fail
  refine (HC.out _).mono ?_
  rintro e w1 ⟨rfl, hb1⟩
  have g0 := Dat.box_cell hb1 0 _ rfl
  have g1 := Dat.box_cell hb1 1 _ rfl
  have g2 := Dat.box_cell hb1 2 _ rfl
  have g3 := Dat.box_cell hb1 3 _ rfl
  have hsz := hb1.size
  simp at g0 g1 g2 g3
  have hsz' : w.heap.size < w1.heap.size := by simp at hsz; omega
  clear hsz
  have hbr : Below w.heap.size w w1 := ((Below.refl w.heap.size w).alloc (Nat.le_refl _) _).trans (hb1.mono (by simp))
  clear hb1
  go_wp2_with fail
  have hT0 : Dat.IsTeller w1.heap.size false [] (w1.alloc (.cells #[.pointer none, .slice none 0 0, .bool false] 53)) :=
    .inl ⟨.slice none 0 0, heap_alloc_new w1 _, World.ownsRow_nil _ _ _ _, by simp [Value.ownBlock]⟩
  refine (Dat.datum_plain false 3 0 s none 0 0 (Dat.quoteS false s.data.toList) (.inr ⟨rfl, rfl⟩) _ w1.heap.size [] (by unfold maxLen; omega) hT0 (by simp; omega)).mono ?_
  rintro e w2 ⟨rfl, hT2, hb2⟩
  go_wp2_with fail
  refine (Dat.string_any _ false _ _ hT2).mono ?_
  rintro e w3 ⟨rfl, hb3⟩
  go_wp2
  go_ret2
  exact ⟨rfl, ((hbr.alloc (by omega) _).trans (hb2.mono (by omega))).trans (hb3.mono (by omega))⟩

set_option maxRecDepth 100000 in
theorem text_str (s : ByteArray) (hs : s.size ≤ 1000) (w : World) :
    Calls Tryd.prog 12 #[.agg #[.int .i64 3, .int .i64 0, .string s, .slice none 0 0]] w fun e w' => e = .returned (.tuple #[.string ⟨(Dat.quoteT s.data.toList).toArray⟩, .int .i64 0]) ∧ Below w.heap.size w w' := by
  have HC := Lib.hid (fun W => tell_str s hs W)
  generalize (Dat.quoteT s.data.toList).toArray = tx at HC ⊢
  go_enter Tryd.func12, Tryd.ntmps12
  go_wp2_with fail
  refine (HC.out _).mono ?_
  rintro e w1 ⟨rfl, hb1⟩
  go_wp2
  go_ret2
  exact ⟨rfl, ((Below.refl w.heap.size w).alloc (Nat.le_refl _) _).trans (hb1.mono (by simp))⟩

set_option maxRecDepth 100000 in
set_option maxHeartbeats 2000000 in
theorem strings_walk (s : ByteArray) (w : World) (_ : s.size ≤ maxLen) (hE : ErrsOk w) :
    Calls Tryd.prog 4 #[.string s] w fun e w' => e = .returned (.bool true) ∧ Below w.heap.size w w' := by
  have HE := Lib.hid (fun W (h : Below w.heap.size w W) => hE.below h hE.two)
  have HF := Lib.hid (fun W h => fixed_any W h)
  by_cases hz : s.size ≤ 1000
  · have C := fun W => text_str s hz W
    obtain ⟨q, hq⟩ : ∃ q : ByteArray, q = ⟨(Dat.quoteT s.data.toList).toArray⟩ := ⟨_, rfl⟩
    rw [← hq] at C
    have hqd : q.data.toList = Dat.quoteT s.data.toList := by rw [hq]
    obtain ⟨ht, hl⟩ := toks_quote s.data.toList (by rw [len_data]; exact hz)
    rw [← hqd, len_data] at ht hl
    have CT := fun W h => tokens_any q W (by unfold maxLen; omega) (HE.out W h)
    rw [ht] at CT
    have H1 := Lib.hid C
    have H2 := Lib.hid CT
    have hz' : (s.size : Int) ≤ 1000 := by omega
    have hl' : (q.size : Int) ≤ 4002 := by omega
    clear C CT ht hq hqd
    go_enter Tryd.func4, Tryd.ntmps4
    go_wp2_with fail
    refine (H1.out w).mono ?_
    rintro e w1 ⟨rfl, hb1⟩
    have B1 := Lib.hid hb1
    clear hb1
    go_wp2_with fail
    refine (H2.out w1 B1.out).mono ?_
    rintro e w2 ⟨⟨v, rfl, o2⟩, hb2⟩
    have B2 := Lib.hid (B1.out.trans (hb2.mono B1.out.size))
    have A2 := Lib.hid o2.at
    clear o2 hb2
    go_wp2_with fail
    refine (HF.out w2 (HE.out w2 B2.out)).mono ?_
    rintro e w3 ⟨rfl, hb3⟩
    have B3 := Lib.hid (B2.out.trans (hb3.mono B2.out.size))
    have A3 := Lib.hid (A2.out.below hb3 (Nat.le_refl _))
    clear hb3
    obtain ⟨a, c, e, hc1, hc2, hcl⟩ := A3.out
    subst e
    rcases hcl with h0 | ⟨o1, oo, rfl, hlt, hcell⟩
    · cases h0
    unfold maxLen at hc2
    obtain ⟨x0, x1, x2, x3, x4⟩ := cells_item hcell 0 (by simp)
    clear hcell
    simp at x0 x1 x2 x3 x4
    go_wp2
    go_ret
    exact ⟨rfl, B3.out⟩
  · have hz' : 1000 < (s.size : Int) := by omega
    clear hE
    go_enter Tryd.func4, Tryd.ntmps4
    go_wp2_with fail
    refine (HF.out w (HE.out w (Below.refl _ _))).mono ?_
    rintro e w1 ⟨rfl, hb1⟩
    go_wp2
    go_ret
    exact ⟨rfl, hb1⟩
end Go.Proofs.YtookdlbgadfbgaaDoor
