/-
The walk of the law SourceAgain, for every string.
-/
import Derived.Test.YthfjlcflpneffaaGreatDoorB5
import Derived.Test.YthfjlcflpneffaaGreatDoorC1
namespace Go.Proofs.YthfjlcflpneffaaGreatDoor
open Go.ChangeShapes Go.WideShapes Go.ChangeAt Go.RowKit
open Dat (PT makeT RepS NewS samesB)

theorem run_err (N : Nat) : ∀ (ts : List TkP) (st : List Op) (out : List PT), ((runM N st out ts).2.2 ≠ 0 → (runM N st out ts).1 = []) ∧ ((runM N st out ts).2.2 = 0 → (runM N st out ts).2.1 = 0) ∧ ((∀ p ∈ ts, p.a ≤ N) → (runM N st out ts).2.1 ≤ N)
  | [], st, out => by rw [run_nil]; split <;> simp
  | p :: ts, st, out => by
    by_cases hm : mayM st p.t.kind = 0
    · rw [run_next hm]
      obtain ⟨h1, h2, h3⟩ := run_err N ts (stepM st out p.t).1 (stepM st out p.t).2
      exact ⟨h1, h2, fun h => h3 fun q hq => h q (List.mem_cons_of_mem _ hq)⟩
    · rw [run_bad hm]
      exact ⟨fun _ => rfl, fun h => absurd h hm, fun h => h p (List.mem_cons_self ..)⟩
theorem run_places (N : Nat) : ∀ (n cnt : Nat) (l : List UInt8), l.length ≤ n → ∀ p ∈ (runT N cnt l).1, p.a ≤ N
  | _, cnt, [], _, p, hp => by simp [runT] at hp
  | n + 1, cnt, c :: r, hn, p, hp => by
    by_cases hc : cnt = 2048
    · subst hc; rw [runT_many] at hp; cases hp
    · by_cases he : (oneT (c :: r)).2.2 = 0
      · have hlt := rest_lt he
        rw [runT_rest N cnt _ (by simp) hc he] at hp
        rcases List.mem_cons.1 hp with rfl | hp
        · simp
        · exact run_places N n (cnt + 1) (restT (c :: r)) (by simp at hn hlt; omega) p hp
      · rw [runT_bad N cnt c r hc he] at hp; cases hp
theorem read_err (s : List UInt8) : ((readT s).2.2 ≠ 0 → (readT s).1 = []) ∧ ((readT s).2.2 = 0 → (readT s).2.1 = 0) ∧ (readT s).2.1 ≤ s.length := by
  unfold readT
  by_cases he : (toksT s).2.2 = 0
  · rw [if_neg (by simpa using he)]
    obtain ⟨h1, h2, h3⟩ := run_err s.length (toksT s).1 [] []
    obtain ⟨_, _, e, _⟩ := toks_ok he
    exact ⟨h1, h2, h3 (by rw [e]; exact run_places s.length _ 0 _ (Nat.le_refl _))⟩
  · rw [if_pos he]
    exact ⟨fun _ => rfl, fun h => absurd h he, toks_place s⟩

set_option maxRecDepth 100000 in
theorem again_bad (s : ByteArray) (w : World) (hs : s.size ≤ maxLen) (hT : LaidOk w) (h2 : 2 ≤ w.heap.size) (h0 : ((readT s.data.toList).2.2 != 0) = true) :
    Calls Tryz.prog 5 #[.string s] w fun e w' => e = .returned (.bool true) ∧ Below w.heap.size w w' := by
  have K1 := read_any s w hs hT.1
  have K3 := Lib.hid (fun W (h : Below w.heap.size w W) => fixed4_any W ⟨hT.1.below h hT.1.two, Dat.tabOk_below hT.2 h h2⟩ (Nat.le_trans h2 h.size))
  obtain ⟨r1, _, r3⟩ := read_err s.data.toList
  have r4 := r1 (by simpa using h0)
  have e0 : s.data.toList.length = s.size := Array.length_toList
  rw [e0] at r3
  unfold GotR at K1
  rw [r4] at K1
  generalize (readT s.data.toList).2.2 = er at K1 h0
  generalize (readT s.data.toList).2.1 = at_ at K1 r3
  have H1 := Lib.hid K1
  have b1 : ¬ (at_ : Int) < 0 := by omega
  have b2 : ¬ (s.size : Int) < (at_ : Int) := by omega
  clear K1 hT r1 r4 e0 r3 h2
  go_enter Tryz.func5, Tryz.ntmps5
  go_wp2_with fail
  refine H1.out.mono ?_
  rintro e w1 ⟨hb1, u, rfl, hn⟩
  obtain ⟨a1, c1, rfl, _⟩ := hn
  have B1 := Lib.hid hb1
  clear hb1
  go_wp2_with fail
  refine (K3.out _ B1.out).mono ?_
  rintro e w3 ⟨rfl, hb3⟩
  have B3 := Lib.hid (B1.out.trans (hb3.mono B1.out.size))
  clear hb3
  go_wp2
  go_ret
  exact ⟨rfl, B3.out⟩

set_option maxRecDepth 100000 in
set_option maxHeartbeats 1000000 in
theorem again_good (s : ByteArray) (w : World) (hs : s.size ≤ maxLen) (hT : LaidOk w) (h2 : 2 ≤ w.heap.size) (l : List PT) (h0 : readT s.data.toList = (l, 0, 0)) :
    Calls Tryz.prog 5 #[.string s] w fun e w' => e = .returned (.bool true) ∧ Below w.heap.size w w' := by
  have K1 := read_any s w hs hT.1
  unfold GotR at K1
  rw [h0] at K1
  have K3 := Lib.hid (fun W (h : Below w.heap.size w W) => fixed4_any W ⟨hT.1.below h hT.1.two, Dat.tabOk_below hT.2 h h2⟩ (Nat.le_trans h2 h.size))
  have e0 : s.data.toList.length = s.size := Array.length_toList
  have hc := read_checks h0
  have hll : l.length ≤ 4096 := by
    obtain ⟨m, hf, hm, _⟩ := read_fit h0
    have := hf.num
    omega
  have hlen : (linesM l).length ≤ 140737488355328 := by have := lines_bound l; omega
  have hw : writeM l = (linesM l, 0) := by unfold writeM; rw [ok_first hc, if_neg (by simp)]
  have KW := Lib.hid (fun (v : Value) W (hb : Below w.heap.size w W) (hv : RepS W W.heap.size l v) => write_any l v W W.heap.size hv (Nat.le_refl _) (Nat.le_trans h2 hb.size) (Dat.tabOk_below hT.2 hb h2) hlen)
  have HC := Lib.hid hc
  have RB : Hid (readT (linesM l) = (l, 0, 0) ∨ 300 < s.size ∧ ∃ a e, readT (linesM l) = ([], a, e) ∧ (e = 34 ∨ e = 35)) := Lib.hid (by
    by_cases h3 : s.size ≤ 300
    · exact .inl (read_again h0 (by omega))
    · rcases read_back hc with h | ⟨_, h⟩
      · exact .inl h
      · exact .inr ⟨by omega, h⟩)
  obtain ⟨x, hx⟩ : ∃ x : ByteArray, x = ⟨(linesM l).toArray⟩ := ⟨_, rfl⟩
  have hxs : x.size ≤ maxLen := by rw [hx, size_mk]; unfold maxLen; omega
  have HXL : Hid (x.data.toList = linesM l) := Lib.hid (by rw [hx])
  have K4 := Lib.hid (fun W (h : Below w.heap.size w W) => read_any x W hxs (hT.1.below h hT.1.two))
  rw [hw] at KW
  simp only at KW
  rw [← hx] at KW
  have H1 := Lib.hid K1
  have hxs2 : x.size ≤ 140737488355328 := by rw [hx, size_mk]; exact hlen
  clear K1 hT hc h0 hw hx e0 hxs hlen h2
  go_enter Tryz.func5, Tryz.ntmps5
  go_wp2_with fail
  refine H1.out.mono ?_
  rintro e w1 ⟨hb1, u, rfl, hn⟩
  have HN := Lib.hid hn.rep
  obtain ⟨a1, c1, rfl, hcc, hcm, _, hor⟩ := hn.rep
  have HOR := Lib.hid hor
  have B1 := Lib.hid hb1
  clear hb1 hn hor

  unfold maxLen at hcm
  go_wp2_with fail
  refine (K3.out _ B1.out).mono ?_
  rintro e w3 ⟨rfl, hb3⟩
  have B13 := Lib.hid hb3
  have B3 := Lib.hid (B1.out.trans (hb3.mono B1.out.size))
  clear hb3
  go_wp2
  go_loopw [6] (fun i wr => ∃ j : Nat, j ≤ l.length ∧ i = .int .i64 j ∧ Below w3.heap.size w3 wr) (fun i _ => l.length - (intOf i).toNat)
  case atStart => exact ⟨0, Nat.zero_le _, rfl, Below.refl _ _⟩
  case round =>
    obtain ⟨j, hj, rfl, hbr⟩ := hrel
    have BW := Lib.hid (B13.out.trans (hbr.mono B13.out.size))
    have BR := Lib.hid (B3.out.trans (hbr.mono B3.out.size))
    by_cases hlt : j < l.length
    · obtain ⟨b, o, ea, hb, hr⟩ := HOR.out.resolve_left (by rintro rfl; cases hlt)
      subst ea
      obtain ⟨k', i', s', m, v', hjl, ok1, ok2, hs', d0, d1, d2, d3, hv'⟩ := Dat.repAt_item (hr.below BW.out (Nat.le_refl _) hb) hlt
      have HCJ : Dat.checkB (.mk k' i' s' m) = 0 := by rw [← hjl]; exact HC.out _ (List.getElem_mem hlt)
      have KC := Dat.check_any (.mk k' i' s' m) v' wr w1.heap.size ⟨ok1, ok2, hs', hv'⟩ BW.out.size
      rw [HCJ] at KC
      have HKC := Lib.hid KC
      obtain ⟨a', c', rfl, _⟩ := hv'
      have hbb : b < wr.heap.size := by have := BW.out.size; omega
      have HBR := Lib.hid hbr
      clear KC hjl HCJ hr hbr
      go_wp2_with fail
      refine HKC.out.mono ?_
      rintro e w4 ⟨rfl, hb4⟩
      have HB4 := Lib.hid (HBR.out.trans (hb4.mono HBR.out.size))
      clear hb4
      go_wp2
      go_roundw
      case rel => exact ⟨j + 1, by omega, by go_num, HB4.out⟩
      case measure => simp [intOf]; omega
    · have hje : j = l.length := by omega
      subst hje
      clear hbr
      go_wp2_with fail
      refine (KW.out _ wr BR.out ((HN.out.below BW.out (Nat.le_refl _)).move BW.out.size fun _ _ _ => rfl)).mono ?_
      rintro e w4 ⟨rfl, hb4⟩
      have B4 := Lib.hid (BR.out.trans (hb4.mono BR.out.size))
      have BW4 := Lib.hid (BW.out.trans (hb4.mono BW.out.size))
      clear hb4
      go_wp2_with fail
      refine (K4.out _ B4.out).mono ?_
      rintro e w5 ⟨hb5, u5, he, hn5⟩
      rw [HXL.out] at he hn5
      have B5 := Lib.hid (B4.out.trans (hb5.mono B4.out.size))
      have BW5 := Lib.hid (BW4.out.trans (hb5.mono BW4.out.size))
      clear hb5
      rcases RB.out with hr | ⟨hm, at_, er, hr, her⟩
      · rw [hr] at he hn5
        subst he
        have HU := Lib.hid hn5
        obtain ⟨a5, c5, rfl, _⟩ := hn5
        have KS := Dat.sameAll_any l l _ _ w5 w5.heap.size ((HN.out.below BW5.out (Nat.le_refl _)).move BW5.out.size fun _ _ _ => rfl) HU.out.rep (Nat.le_refl _)
        rw [same_self] at KS
        have HS := Lib.hid KS
        clear KS
        go_wp2_with fail
        refine HS.out.mono ?_
        rintro e w6 ⟨rfl, hb6⟩
        have B6 := Lib.hid (B5.out.trans (hb6.mono B5.out.size))
        clear hb6
        go_wp2
        go_ret
        exact ⟨rfl, B6.out⟩
      · rw [hr] at he hn5
        subst he
        obtain ⟨a5, c5, rfl, _⟩ := hn5
        have hgt : (300 : Int) < (s.size : Int) := by omega
        rcases her with rfl | rfl
        · go_wp2
          go_ret
          exact ⟨rfl, B5.out⟩
        · go_wp2
          go_ret
          exact ⟨rfl, B5.out⟩
theorem again_walk (s : ByteArray) (w : World) (hs : s.size ≤ maxLen) (hT : LaidOk w) (h2 : 2 ≤ w.heap.size) :
    Calls Tryz.prog 5 #[.string s] w fun e w' => e = .returned (.bool true) ∧ Below w.heap.size w w' := by
  by_cases h : (readT s.data.toList).2.2 = 0
  · exact again_good s w hs hT h2 (readT s.data.toList).1 (Prod.ext rfl (Prod.ext ((read_err _).2.1 h) h))
  · exact again_bad s w hs hT h2 (by simpa using h)
end Go.Proofs.YthfjlcflpneffaaGreatDoor
