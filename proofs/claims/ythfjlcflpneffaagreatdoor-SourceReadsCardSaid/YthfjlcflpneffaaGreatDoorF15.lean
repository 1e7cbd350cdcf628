/-
The document's Read, for every string; the walk of the law SourceReads.
-/
import Derived.Test.YthfjlcflpneffaaGreatDoorF14
import Derived.Test.YthfjlcflpneffaaGreatDoorC2
namespace Go.Proofs.YthfjlcflpneffaaGreatDoor
open Go.ChangeShapes Go.WideShapes Go.ChangeAt Go.RowKit
open Dat (PT makeT RepS RepV NewS samesB)

set_option maxRecDepth 100000 in
theorem rread_bad (s : ByteArray) (w : World) (hs : s.size ≤ maxLen) (ts : List TkP) (a : Nat) (er : Int) (hq : toksT s.data.toList = (ts, a, er)) (hne : (er != 0) = true) :
    Calls Tryz.prog 10 #[.string s] w (GotRR s.data.toList w) := by
  have HT := Lib.hid (rtokens_any s w hs)
  rw [hq] at HT
  have HRD : Hid (readT s.data.toList = ([], a, er)) := Lib.hid (by
    unfold readT; rw [hq, if_pos (by simpa using hne)])
  clear hq
  unfold maxLen at hs
  go_enter Tryz.func10, Tryz.ntmps10
  go_wp2_with fail
  refine HT.out.mono ?_
  rintro e w1 ⟨⟨v, rfl, hown⟩, hb1⟩
  obtain ⟨a0, k0, rfl⟩ := hown.shape
  have HB1 := Lib.hid hb1
  clear hown hb1 HT
  go_wp2
  go_ret3
  refine ⟨HB1.out, .slice none 0 0, ?_, ?_⟩
  · rw [HRD.out]; try rfl
  · rw [HRD.out]
    exact ⟨none, 0, rfl, Nat.le_refl _, Nat.zero_le _, fun _ => rfl, .inl rfl⟩
theorem rread_any (s : ByteArray) (w : World) (hs : s.size ≤ maxLen) : Calls Tryz.prog 10 #[.string s] w (GotRR s.data.toList w) := by
  generalize hq : toksT s.data.toList = q
  obtain ⟨ts, a, er⟩ := q
  by_cases h : er = 0
  · subst h
    have ha : a = 0 := by
      have := (toks_ok (s := s.data.toList) (by rw [hq])).2.2.2
      rwa [hq] at this
    subst ha
    exact rread_good s w hs ts hq
  · exact rread_bad s w hs ts a er hq (by simpa using h)

set_option maxRecDepth 100000 in
theorem reads_walk (s : ByteArray) (w : World) (hs : s.size ≤ maxLen) (hT : LaidOk w) (h2 : 2 ≤ w.heap.size) :
    Calls Tryz.prog 3 #[.string s] w fun e w' => e = .returned (.bool true) ∧ Below w.heap.size w w' := by
  have K1 := Lib.hid (read_any s w hs hT.1)
  have K2 := Lib.hid (fun W => rread_any s W hs)
  have K3 := Lib.hid (fun W (h : Below w.heap.size w W) => fixed4_any W ⟨hT.1.below h hT.1.two, Dat.tabOk_below hT.2 h h2⟩ (Nat.le_trans h2 h.size))
  unfold GotR at K1
  unfold GotRR at K2
  generalize readT s.data.toList = q at K1 K2
  obtain ⟨l, at_, er⟩ := q
  simp only at K1 K2
  have KS := Lib.hid (fun va vb W (ha : RepS W W.heap.size l va) (hb : RepS W W.heap.size l vb) => Dat.sameAll_any l l va vb W W.heap.size ha hb (Nat.le_refl _))
  rw [show samesB l l = true from same_self l] at KS
  clear hT h2 hs
  go_enter Tryz.func3, Tryz.ntmps3
  go_wp2_with fail
  refine K1.out.mono ?_
  rintro e w1 ⟨hb1, u, rfl, hn⟩
  have HN := Lib.hid hn.rep
  obtain ⟨a1, c1, rfl, _⟩ := hn
  have B1 := Lib.hid hb1
  clear hb1
  go_wp2_with fail
  refine (K2.out _).mono ?_
  rintro e w2 ⟨hb2, u2, rfl, hn2⟩
  have HN2 := Lib.hid hn2
  obtain ⟨a2, c2, rfl, _⟩ := hn2
  have B12 := Lib.hid hb2
  have B2 := Lib.hid (B1.out.trans (hb2.mono B1.out.size))
  clear hb2
  go_wp2_with fail
  refine (K3.out _ B2.out).mono ?_
  rintro e w3 ⟨rfl, hb3⟩
  have B13 := Lib.hid (B12.out.trans (hb3.mono B12.out.size))
  have B23 := Lib.hid hb3
  have B3 := Lib.hid (B2.out.trans (hb3.mono B2.out.size))
  clear hb3
  go_wp2_with fail
  refine (KS.out _ _ w3 ((HN.out.below B13.out (Nat.le_refl _)).move B13.out.size fun _ _ _ => rfl) ((HN2.out.below B23.out (Nat.le_refl _)).move B23.out.size fun _ _ _ => rfl)).mono ?_
  rintro e w4 ⟨rfl, hb4⟩
  have B4 := Lib.hid (B3.out.trans (hb4.mono B3.out.size))
  clear hb4
  go_wp2
  go_ret
  exact ⟨rfl, B4.out⟩
end Go.Proofs.YthfjlcflpneffaaGreatDoor
