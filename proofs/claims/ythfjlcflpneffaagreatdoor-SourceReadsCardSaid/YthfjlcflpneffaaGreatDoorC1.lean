/-
The walk of the law SourceBack: for every row of data whose texts come to at most 2^47 bytes.
-/
import Derived.Test.YthfjlcflpneffaaGreatDoorB3
import Derived.Test.YthfjlcflpneffaaGreatDoorWC
namespace Go.Proofs.YthfjlcflpneffaaGreatDoor
open Go.ChangeShapes Go.WideShapes Go.ChangeAt Go.RowKit
open Dat (PT makeT RepS NewS samesB)

theorem lines_bound : ∀ l : List PT, (linesM l).length ≤ l.length * 67244033
  | [] => by simp [linesM]
  | t :: r => by
    have h := lines_bound r
    have h1 : (Dat.toldT false t).length ≤ 67244032 := by
      unfold Dat.toldT
      split
      · rename_i hc
        have h2 := Dat.check_ok t hc
        have h3 := Dat.textT_len false t h2.1
        omega
      · simp
    unfold linesM at h ⊢
    simp only [List.flatMap_cons, List.length_append, List.length_cons, List.length_nil]
    omega
theorem same_self (l : List PT) : samesB l l = true := by simp [samesB]
theorem size_mk (l : List UInt8) : (⟨l.toArray⟩ : ByteArray).size = l.length := by simp [ByteArray.size]

set_option maxRecDepth 100000 in
theorem back_bad (l : List PT) (v : Value) (w : World) (hv : RepS w w.heap.size l v) (hT : LaidOk w) (h2 : 2 ≤ w.heap.size) (hl : l.length ≤ 1048576) (h0 : (firstM l != 0) = true) :
    Calls Tryz.prog 4 #[v] w fun e w' => e = .returned (.bool true) ∧ Below w.heap.size w w' := by
  have hlen : (linesM l).length ≤ 140737488355328 := by have := lines_bound l; omega
  have K1 := write_any l v w w.heap.size hv (Nat.le_refl _) h2 hT.2 hlen
  have hw : writeM l = ([], firstM l) := by unfold writeM; rw [if_pos (by simpa using h0)]
  rw [hw] at K1
  have K3 := Lib.hid (fun W (h : Below w.heap.size w W) => fixed4_any W ⟨hT.1.below h hT.1.two, Dat.tabOk_below hT.2 h h2⟩ (Nat.le_trans h2 h.size))
  simp only at K1
  generalize firstM l = er at K1 h0
  have H1 := Lib.hid K1
  obtain ⟨a, c, rfl, _⟩ := hv
  clear K1 hT hlen hw
  go_enter Tryz.func4, Tryz.ntmps4
  go_wp2_with fail
  refine H1.out.mono ?_
  rintro e w1 ⟨rfl, hb1⟩
  have B1 := Lib.hid hb1
  clear hb1
  go_wp2_with fail
  refine (K3.out _ B1.out).mono ?_
  rintro e w3 ⟨rfl, hb3⟩
  have B3 := Lib.hid (B1.out.trans (hb3.mono B1.out.size))
  clear hb3
  go_wp2
  go_ret
  exact ⟨rfl, B3.out⟩

set_option maxRecDepth 100000 in
theorem back_good (l : List PT) (v : Value) (w : World) (hv : RepS w w.heap.size l v) (hT : LaidOk w) (h2 : 2 ≤ w.heap.size) (hl : l.length ≤ 1048576) (h0 : firstM l = 0) :
    Calls Tryz.prog 4 #[v] w fun e w' => e = .returned (.bool true) ∧ Below w.heap.size w w' := by
  have hlen : (linesM l).length ≤ 140737488355328 := by have := lines_bound l; omega
  have K1 := write_any l v w w.heap.size hv (Nat.le_refl _) h2 hT.2 hlen
  have hw : writeM l = (linesM l, 0) := by unfold writeM; rw [h0, if_neg (by simp)]
  rw [hw] at K1
  have K3 := Lib.hid (fun W (h : Below w.heap.size w W) => fixed4_any W ⟨hT.1.below h hT.1.two, Dat.tabOk_below hT.2 h h2⟩ (Nat.le_trans h2 h.size))
  have hsz : (⟨(linesM l).toArray⟩ : ByteArray).size ≤ maxLen := by rw [size_mk]; unfold maxLen; have := lines_bound l; omega
  have K4 := Lib.hid (fun W (h : Below w.heap.size w W) => read_any ⟨(linesM l).toArray⟩ W hsz (hT.1.below h hT.1.two))
  have HV := Lib.hid hv
  have RB := Lib.hid (read_back (first_ok h0))
  have SZ := Lib.hid (size_mk (linesM l))
  simp only at K1
  have hx : ∃ x : ByteArray, x = ⟨(linesM l).toArray⟩ := ⟨_, rfl⟩
  obtain ⟨x, hx⟩ := hx
  have hxl : x.data.toList = linesM l := by rw [hx]
  rw [← hx] at K1 K4 SZ
  have hxs : x.size ≤ 140737488355328 := by rw [hx, size_mk]; exact hlen
  have H1 := Lib.hid K1
  obtain ⟨a, c, rfl, _⟩ := hv
  have HXL := Lib.hid hxl
  clear K1 hT hw h0 hsz hlen hx hxl
  go_enter Tryz.func4, Tryz.ntmps4
  go_wp2_with fail
  refine H1.out.mono ?_
  rintro e w1 ⟨rfl, hb1⟩
  have B1 := Lib.hid hb1
  clear hb1
  go_wp2_with fail
  refine (K3.out _ B1.out).mono ?_
  rintro e w3 ⟨rfl, hb3⟩
  have B3 := Lib.hid (B1.out.trans (hb3.mono B1.out.size))
  clear hb3
  go_wp2_with fail
  refine (K4.out _ B3.out).mono ?_
  rintro e w4 ⟨hb4, u, he, hn⟩
  rw [HXL.out] at he hn
  have B4 := Lib.hid (B3.out.trans (hb4.mono B3.out.size))
  rcases RB.out with hr | ⟨hm, at_, er, hr, her⟩
  · rw [hr] at he hn
    subst he
    have HU := Lib.hid hn
    obtain ⟨a1, c1, rfl, _⟩ := hn
    have KS := Dat.sameAll_any l l _ _ w4 w4.heap.size ((HV.out.below B4.out (Nat.le_refl _)).move B4.out.size fun _ _ _ => rfl) HU.out.rep (Nat.le_refl _)
    rw [same_self] at KS
    have HS := Lib.hid KS
    clear KS hb4
    go_wp2_with fail
    refine HS.out.mono ?_
    rintro e w5 ⟨rfl, hb5⟩
    have B5 := Lib.hid (B4.out.trans (hb5.mono B4.out.size))
    clear hb5
    go_wp2
    go_ret
    exact ⟨rfl, B5.out⟩
  · rw [hr] at he hn
    subst he
    obtain ⟨a1, c1, rfl, _⟩ := hn
    have hgt : (2048 : Int) < (x.size : Int) := by rw [SZ.out]; omega
    clear hb4
    rcases her with rfl | rfl
    · go_wp2
      go_ret
      exact ⟨rfl, B4.out⟩
    · go_wp2
      go_ret
      exact ⟨rfl, B4.out⟩

theorem back_walk (l : List PT) (v : Value) (w : World) (hv : RepS w w.heap.size l v) (hT : LaidOk w) (h2 : 2 ≤ w.heap.size) (hl : l.length ≤ 1048576) :
    Calls Tryz.prog 4 #[v] w fun e w' => e = .returned (.bool true) ∧ Below w.heap.size w w' := by
  by_cases h : firstM l = 0
  · exact back_good l v w hv hT h2 hl h
  · exact back_bad l v w hv hT h2 hl (by simpa using h)
end Go.Proofs.YthfjlcflpneffaaGreatDoor
