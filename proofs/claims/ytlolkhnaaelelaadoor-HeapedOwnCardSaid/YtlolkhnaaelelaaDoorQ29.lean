/-
The walk of the law HeapedOwn, for every row of values. Where the table of what is reckoned is as the program lays it.
-/
import Derived.Test.YtlolkhnaaelelaaDoorQ28
import Derived.Test.YtlolkhnaaelelaaDoorQ20
import Derived.Test.YtlolkhnaaelelaaDoorQ26
import Derived.Test.YtlolkhnaaelelaaDoorQ27
namespace Go.Proofs.YtlolkhnaaelelaaDoor.Hp
open Go.ChangeShapes Go.WideShapes Go.ChangeAt Go.RowKit Go.Deep
open Dat (PT ok64 RepV RepS RowX infoDatum NewV NewS makeT make_any MakeOk numT numsT)
set_option maxRecDepth 100000

/-- A cell of a caller's own block is written. -/
theorem Ctx.putc {w W : World} {hb g i : Nat} {T : List (Int × List PV)} {F : Nat → Prop} {cur : Array Value} {t : TypeId} (h : Ctx w hb T F W) (hl : Loc F W g (.cells cur t (0, 0))) (hg : w.heap.size ≤ g) (y : Value) :
    Ctx w hb T F (W.setCell ⟨g, i, none⟩ y) ∧ (∃ cur' : Array Value, Loc F (W.setCell ⟨g, i, none⟩ y) g (.cells cur' t (0, 0)) ∧ cur'.size = cur.size) ∧ ∀ R o, R ≠ g → Loc F W R o → Loc F (W.setCell ⟨g, i, none⟩ y) R o := by
  have ot : ∀ b, b ≠ g → (W.setCell ⟨g, i, none⟩ y).heap[b]? = W.heap[b]? := fun b hb => Below.heap_setCell _ _ _ _ hb
  refine ⟨⟨h.1.move (fun b hb _ => ot b (fun e => hl.2 (e ▸ hb))) (fun _ h => h), fun b hb => ?_, h.2.2.setCell (p := ⟨g, i, none⟩) hg _⟩, ⟨_, ⟨heap_setCell_same _ g i cur t y hl.1, hl.2⟩, by simp⟩, fun R o hR hL => ⟨(ot R hR).trans hL.1, hL.2⟩⟩
  rw [size_put]
  exact h.2.1 b hb
/-- A row of one's own: if there is anything in it, it is a block of one's own. -/
def OwnR (F : Nat → Prop) (W : World) (l : List PV) (g n : Nat) : Prop := l ≠ [] → ∃ cur : Array Value, Loc F W g (.cells cur 36 (0, 0)) ∧ cur.size = n * 3
theorem OwnR.below {F : Nat → Prop} {W W' : World} {l : List PV} {g n : Nat} (h : OwnR F W l g n) (hb : Below W.heap.size W W') : OwnR F W' l g n := fun h0 => by
  obtain ⟨cur, h1, h2⟩ := h h0
  exact ⟨cur, h1.below hb, h2⟩
theorem own_cells {F : Nat → Prop} {W : World} {l : List PV} {g n j : Nat} (h : OwnR F W l g n) (hj : j < l.length) (hn : l.length ≤ n) : (∃ y0 y1 y2, W.cell? ⟨g, j * 3, none⟩ = some y0 ∧ W.cell? ⟨g, j * 3 + 1, none⟩ = some y1 ∧ W.cell? ⟨g, j * 3 + 2, none⟩ = some y2) ∧ W.frozen? ⟨g, j * 3, none⟩ = false ∧ W.frozen? ⟨g, j * 3 + 1, none⟩ = false ∧ W.frozen? ⟨g, j * 3 + 2, none⟩ = false := by
  obtain ⟨cur, h1, h2⟩ := h (by rintro rfl; cases hj)
  refine ⟨⟨cur[j * 3]'(by omega), cur[j * 3 + 1]'(by omega), cur[j * 3 + 2]'(by omega), ?_, ?_, ?_⟩, Lib.frozen_of_heap h1.1 _, Lib.frozen_of_heap h1.1 _, Lib.frozen_of_heap h1.1 _⟩
  all_goals (rw [Lib.cell_of_heap h1.1]; exact Array.getElem?_eq_getElem (by omega))
theorem own_put {w W : World} {hb g n o : Nat} {T : List (Int × List PV)} {F : Nat → Prop} {l : List PV} (h : Ctx w hb T F W) (ho : OwnR F W l g n) (h0 : l ≠ []) (hg : w.heap.size ≤ g) (x0 x1 x2 : Value) :
    Ctx w hb T F (((W.setCell ⟨g, o, none⟩ x0).setCell ⟨g, o + 1, none⟩ x1).setCell ⟨g, o + 2, none⟩ x2) ∧ OwnR F (((W.setCell ⟨g, o, none⟩ x0).setCell ⟨g, o + 1, none⟩ x1).setCell ⟨g, o + 2, none⟩ x2) l g n ∧
      ∀ R b, R ≠ g → Loc F W R b → Loc F (((W.setCell ⟨g, o, none⟩ x0).setCell ⟨g, o + 1, none⟩ x1).setCell ⟨g, o + 2, none⟩ x2) R b := by
  obtain ⟨cur, h1, h2⟩ := ho h0
  obtain ⟨c1, ⟨cur1, l1, s1⟩, k1⟩ := h.putc (i := o) h1 hg x0
  obtain ⟨c2, ⟨cur2, l2, s2⟩, k2⟩ := c1.putc (i := o + 1) l1 hg x1
  obtain ⟨c3, ⟨cur3, l3, s3⟩, k3⟩ := c2.putc (i := o + 2) l2 hg x2
  exact ⟨c3, fun _ => ⟨cur3, l3, by omega⟩, fun R b hR hL => k3 R b hR (k2 R b hR (k1 R b hR hL))⟩
theorem own_of {W : World} {F : Nat → Prop} {l : List PV} {g : Nat} {a : Option Addr} {c : Nat} (h : PartsM W l g (.slice a l.length c)) (hg : l ≠ [] → ¬ F g) : OwnR F W l g c ∧ (l ≠ [] → a = some ⟨g, 0, none⟩) := by
  refine ⟨fun h0 => ?_, fun h0 => ?_⟩
  all_goals
    rcases h with h | ⟨_, ho, cap, cur, e, h1, h2, h3, h4, h5⟩
    · exact absurd h.1 h0
  · cases e
    exact ⟨cur, ⟨h3, hg h0⟩, h4⟩
  · cases e
    rfl
set_option maxHeartbeats 4000000 in
theorem own_walk (l : List PV) (v : Value) (w : World) (hP : InP w (· < w.heap.size) l v) (hR : RecOk w) :
    Calls Tryd.prog 5 #[v] w fun e w' => e = .returned (.bool true) ∧ Below w.heap.size w w' := by
  have HP := Lib.hid hP
  have HR := Lib.hid hR
  have HOK := Lib.hid (okV_all hP)
  obtain ⟨a, c, rfl, hlc, hcm, _, _⟩ := hP
  unfold maxLen at hcm
  clear hR
  go_enter Tryd.func5, Tryd.ntmps5
  go_wp2_with fail
  refine (new_any _).mono ?_
  rintro e w1 ⟨rfl, h1, hb1, hlt1⟩
  have C1 : Hid (Ctx w w.heap.size [] (· = w.heap.size) w1) := Lib.hid ⟨h1, fun b e => ⟨by omega, by omega⟩, hb1⟩
  have KF := Lib.hid (fixed_any w1 (C1.out.rec HR.out))
  clear h1 hb1 hlt1
  go_wp2_with fail
  refine KF.out.mono ?_
  rintro e w2 ⟨rfl, hb2⟩
  have C2 := Lib.hid (C1.out.below hb2)
  clear hb2 C1 KF
  by_cases h40 : l.length ≤ 40
  · have HO : Hid ((w2.alloc (.cells #[] 36)).ownsRow w2.heap.size 36 3 (.slice (some ⟨w2.heap.size, 0, none⟩) 0 0) 0 []) :=
      Lib.hid ⟨rfl, .inr ⟨w2.heap.size, 0, #[], rfl, Nat.le_refl _, heap_alloc_new w2 _, Nat.le_refl _, Nat.zero_le _, rfl, rfl⟩⟩
    have HPW := Lib.hid (HP.out.belowP (C2.out.below (al w2 (.cells #[] 36))).2.2)
    have hl6 : l.length ≤ 1000000 := by omega
    have hsz : w2.heap.size ≤ (w2.alloc (.cells #[] 36)).heap.size := by rw [size_new]; omega
    go_wp2_with (at_builtin; refine wpList_append_vals rfl _ _ rfl w2.heap.size (· < w.heap.size) l _ _ rfl rfl HO.out HPW.out hl6 hsz ?_; intro v1 w3 ho hb3)
    obtain ⟨g, hp, hg⟩ := parts_of_own ho HOK.out
    have C3 := Lib.hid (C2.out.below ((al w2 (.cells #[] 36)).trans hb3))
    obtain ⟨ra, rc, rfl, hrl, hrm⟩ := hp.slice
    have hwg : w.heap.size < w2.heap.size := (C2.out.2.1 _ rfl).2
    have hgF : l ≠ [] → ¬ g = w.heap.size := fun h0 => by have := (hg h0).1; omega
    obtain ⟨hown, hra⟩ := own_of (F := (· = w.heap.size)) hp hgF
    have HOWN := Lib.hid hown
    have HRA := Lib.hid hra
    have HG := Lib.hid hg
    have KM := Lib.hid (fun q hq => make_vec_any l _ _ w.heap.size [] (· = w.heap.size) w3 C3.out.1 C3.out.lt hp.inP (by omega) (by decide) q hq)
    unfold maxLen at hrm
    clear ho hb3 C2 HO HPW hown hra hg hp hgF hsz hl6
    by_cases hall : l.all (hasB ([] : List (Int × List PV)).length) = true
    · have KM1 := Lib.hid (KM.out _ (if_pos hall).symm)
      have HALL := Lib.hid hall
      clear hall KM
      go_wp2_with fail
      refine KM1.out.mono ?_
      rintro e w4 hd
      obtain ⟨rfl, F4, c4, s4, l4⟩ := C3.out.use hd
      have C4 : Hid (Ctx w w.heap.size [(1, l)] F4 w4) := Lib.hid c4
      have OW4 : Hid (OwnR F4 w4 l g rc) := Lib.hid (fun h0 => by
        obtain ⟨cur, q1, q2⟩ := HOWN.out h0
        exact ⟨cur, l4 _ _ q1, q2⟩)
      have hgw : l ≠ [] → w.heap.size ≤ g ∧ g < w4.heap.size := fun h0 => by have := HG.out h0; omega
      clear hd c4 l4 KM1 C3 HOWN HG
      unfold VE
      have LP := Lib.hid (C4.out.loc (.cells #[.int .i64 8, .int .i64 0, .string ⟨#[]⟩] 36))
      have A5 := al w4 (.cells #[.int .i64 8, .int .i64 0, .string ⟨#[]⟩] 36)
      have C5 := Lib.hid (C4.out.below A5)
      have OW5 := Lib.hid (OW4.out.below A5)
      have HGW := Lib.hid hgw
      clear A5 C4 OW4 hgw
      go_wp2
      generalize w4.alloc (.cells #[.int .i64 8, .int .i64 0, .string ⟨#[]⟩] 36) = w5 at *
      generalize w4.heap.size = Bp at *
      go_loopw [7] (fun x wr => ∃ j : Nat, j ≤ l.length ∧ x = .int .i64 j ∧ Ctx w w.heap.size [(1, l)] F4 wr ∧ OwnR F4 wr l g rc ∧ Loc F4 wr Bp (.cells #[.int .i64 8, .int .i64 0, .string ⟨#[]⟩] 36)) (fun x _ => l.length - (intOf x).toNat)
      case atStart => exact ⟨0, Nat.zero_le _, rfl, C5.out, OW5.out, LP.out⟩
      case round =>
        obtain ⟨j, hj, rfl, c6, o6, p6⟩ := hrel
        have C6 := Lib.hid c6
        have O6 := Lib.hid o6
        have P6 := Lib.hid p6
        clear c6 o6 p6 C5 OW5 LP
        by_cases hlt : j < l.length
        · have hne : l ≠ [] := by rintro rfl; cases hlt
          obtain rfl := HRA.out hne
          have KN := Lib.hid (num_any 77 wr)
          have hi0 : (0 : Int) ≤ (j : Int) := by omega
          have hi1 : (j : Int) < (l.length : Int) := by omega
          go_wp2_with fail
          refine KN.out.mono ?_
          rintro e w6 ⟨rfl, hb6⟩
          have C7 := Lib.hid (C6.out.below hb6)
          have O7 := Lib.hid (O6.out.below hb6)
          have P7 := Lib.hid (P6.out.below hb6)
          obtain ⟨⟨y0, y1, y2, z0, z1, z2⟩, f0, f1, f2⟩ := own_cells O7.out hlt hrl
          clear hb6 KN C6 O6 P6
          go_wp2
          obtain ⟨q1, q2, q3⟩ := own_put (o := j * 3) C7.out O7.out hne (HGW.out hne).1 (.int .i64 1) (.int .i64 77) (.string ⟨#[]⟩)
          exact ⟨⟨j + 1, by omega, by go_num, q1, q2, q3 _ _ (by have := (HGW.out hne).2; omega) P7.out⟩, by simp [intOf]; omega⟩
        · have KT := Lib.hid (thing_any 0 ⟨#[]⟩ 1 l w.heap.size [(1, l)] F4 wr C6.out.1 C6.out.lt (by decide) (by
            have e0 : (⟨#[]⟩ : ByteArray).toList = [] := by kernel_rfl
            simp [hasB, numB, e0]) (by decide) rfl (by omega))
          have hBp : Bp < wr.heap.size := lt_of_block P6.out.1
          obtain ⟨⟨p0, p1, p2⟩, -⟩ := look3 P6.out.1
          have hwr : w.heap.size ≤ wr.heap.size := C6.out.2.2.size
          clear O6
          go_wp2_with fail
          refine KT.out.mono ?_
          rintro e w7 ⟨⟨pv, g2, rfl, hp7, hg7⟩, hb7⟩
          obtain ⟨ta, tc, rfl, htl, htm⟩ := hp7.slice
          obtain ⟨hown7, hta⟩ := own_of hp7 (fun h0 hf => by have := C6.out.lt _ hf; have := (hg7 h0).1; omega)
          have C7 := Lib.hid (C6.out.below hb7)
          have P7 := Lib.hid (P6.out.below hb7)
          have HTA := Lib.hid hta
          have HG7 := Lib.hid hg7
          have LT := Lib.hid (C7.out.loc (.cells #[.int .i64 1, .slice ta l.length tc] 43))
          have A8 := al w7 (.cells #[.int .i64 1, .slice ta l.length tc] 43)
          have C8 := Lib.hid (C7.out.below A8)
          have P8 := Lib.hid (P7.out.below A8)
          have O8 := Lib.hid (hown7.below A8)
          have hs7 : wr.heap.size ≤ w7.heap.size := hb7.size
          have KS := Lib.hid (sameThing_any 1 l _ _ (· = g2) (· < w.heap.size) _ (hp7.inP.belowP A8) (HP.out.belowP C8.out.2.2))
          unfold maxLen at htm
          clear hown7 hta hg7 hp7 hb7 C7 P7 A8 C6 P6 p0 p1 p2 KT
          go_wp2_with fail
          generalize w7.alloc (.cells #[.int .i64 1, .slice ta l.length tc] 43) = w8 at *
          generalize w7.heap.size = Bt at *
          refine KS.out.mono ?_
          rintro e w9 ⟨rfl, hb9⟩
          have C9 := Lib.hid (C8.out.below hb9)
          have P9 := Lib.hid (P8.out.below hb9)
          have O9 := Lib.hid (O8.out.below hb9)
          have LT9 := Lib.hid (LT.out.below hb9)
          clear hb9 C8 P8 O8 LT KS
          go_wp2
          go_loopw [10] (fun x wr => ∃ j : Nat, j ≤ l.length ∧ x = .int .i64 j ∧ Ctx w w.heap.size [(1, l)] F4 wr ∧ OwnR F4 wr l g2 tc ∧ Loc F4 wr Bp (.cells #[.int .i64 8, .int .i64 0, .string ⟨#[]⟩] 36) ∧ Loc F4 wr Bt (.cells #[.int .i64 1, .slice ta l.length tc] 43)) (fun x _ => l.length - (intOf x).toNat)
          case atStart => exact ⟨0, Nat.zero_le _, rfl, C9.out, O9.out, P9.out, LT9.out⟩
          case round =>
            obtain ⟨i, hi, rfl, c6, o6, p6, t6⟩ := hrel
            have C6 := Lib.hid c6
            have O6 := Lib.hid o6
            have P6 := Lib.hid p6
            have T6 := Lib.hid t6
            clear c6 o6 p6 t6 C9 O9 P9 LT9
            obtain ⟨⟨x0, x1⟩, -⟩ := look2 T6.out.1
            by_cases hlt2 : i < l.length
            · have hne : l ≠ [] := by rintro rfl; cases hlt2
              obtain rfl := HTA.out hne
              have hi0 : (0 : Int) ≤ (i : Int) := by omega
              have hi1 : (i : Int) < (l.length : Int) := by omega
              go_wp2
              have BD : Below wr.heap.size wr wr.drew := (Below.refl _ wr).drew
              have KN := Lib.hid (num_any 78 wr.drew)
              have CD := Lib.hid (C6.out.below BD)
              have OD := Lib.hid (O6.out.below BD)
              have PD := Lib.hid (P6.out.below BD)
              have TD := Lib.hid (T6.out.below BD)
              clear BD C6 O6 P6
              go_region_with
                (go_at_call 19
                 refine KN.out.mono ?_
                 rintro e w10 ⟨rfl, hb10⟩
                 have C10 := Lib.hid (CD.out.below hb10)
                 have O10 := Lib.hid (OD.out.below hb10)
                 have P10 := Lib.hid (PD.out.below hb10)
                 have T10 := Lib.hid (TD.out.below hb10)
                 obtain ⟨⟨y0, y1, y2, z0, z1, z2⟩, f0, f1, f2⟩ := own_cells O10.out hlt2 htl
                 obtain ⟨⟨t0, t1⟩, -⟩ := look2 T10.out.1
                 clear hb10)
              all_goals
                go_wp2
                obtain ⟨q1, q2, q3⟩ := own_put (o := i * 3) C10.out O10.out hne (by have := (HG7.out hne).1; omega) (.int .i64 1) (.int .i64 78) (.string ⟨#[]⟩)
                exact ⟨⟨i + 1, by omega, by go_num, q1, q2, q3 _ _ (by have := (HG7.out hne).1; omega) P10.out, q3 _ _ (by have := (HG7.out hne).2; omega) T10.out⟩, by simp [intOf]; omega⟩
            · have KT := Lib.hid (thing_any 0 ⟨#[]⟩ 1 l w.heap.size [(1, l)] F4 wr C6.out.1 C6.out.lt (by decide) (by
                have e0 : (⟨#[]⟩ : ByteArray).toList = [] := by kernel_rfl
                simp [hasB, numB, e0]) (by decide) rfl (by omega))
              obtain ⟨⟨p0, p1, p2⟩, -⟩ := look3 P6.out.1
              clear O6 P6 T6
              go_wp2_with fail
              refine KT.out.mono ?_
              rintro e w11 ⟨⟨pu, g3, rfl, hp11, _⟩, hb11⟩
              obtain ⟨ua, uc, rfl, hul, hum⟩ := hp11.slice
              have C11 := Lib.hid (C6.out.below hb11)
              have A12 := al w11 (.cells #[.int .i64 1, .slice ua l.length uc] 43)
              have C12 := Lib.hid (C11.out.below A12)
              have KS := Lib.hid (sameThing_any 1 l _ _ (· = g3) (· < w.heap.size) _ (hp11.inP.belowP A12) (HP.out.belowP C12.out.2.2))
              unfold maxLen at hum
              clear hp11 hb11 C11 A12 C6 p0 p1 p2 x0 x1 KT
              go_wp2_with fail
              generalize w11.alloc (.cells #[.int .i64 1, .slice ua l.length uc] 43) = w12 at *
              refine KS.out.mono ?_
              rintro e w13 ⟨rfl, hb13⟩
              have HB := Lib.hid (C12.out.below hb13).2.2
              clear hb13
              go_wp2
              go_ret
              exact ⟨rfl, HB.out⟩
    · have KM1 := Lib.hid (KM.out _ (if_neg hall).symm)
      clear hall KM
      go_wp2_with fail
      refine KM1.out.mono ?_
      rintro e w4 hd
      obtain ⟨rfl, F4, c4, s4, l4⟩ := C3.out.use hd
      have C4 : Hid (Ctx w w.heap.size [] F4 w4) := Lib.hid c4
      clear hd c4 l4 KM1 C3 s4
      unfold VE
      have A5 := al w4 (.cells #[.int .i64 0, .int .i64 0, .string ⟨#[]⟩] 36)
      have C5 := Lib.hid (C4.out.below A5)
      have KN := Lib.hid (count_any _ _ _ _ C5.out.1)
      clear A5
      go_wp2_with fail
      refine KN.out.mono ?_
      rintro e w6 ⟨rfl, rfl⟩
      go_wp2
      go_ret
      exact ⟨rfl, C5.out.2.2⟩
  · have KF2 := Lib.hid (fixed_any w2 (C2.out.rec HR.out))
    go_wp2_with fail
    refine KF2.out.mono ?_
    rintro e w3 ⟨rfl, hb3⟩
    have HB := Lib.hid (C2.out.below hb3).2.2
    clear hb3
    go_wp2
    go_ret
    exact ⟨rfl, HB.out⟩
end Go.Proofs.YtlolkhnaaelelaaDoor.Hp
