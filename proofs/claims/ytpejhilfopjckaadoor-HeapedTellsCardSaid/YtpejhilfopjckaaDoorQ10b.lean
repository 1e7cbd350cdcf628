/-
Package heap's done, of the primitives that read a place of a thing, put a part, make a thing that is filled. No condition but that the heap lies in memory.
-/
import Derived.Test.YtpejhilfopjckaaDoorQGe
import Derived.Test.YtpejhilfopjckaaDoorQGc
namespace Go.Proofs.YtpejhilfopjckaaDoor.Hp
open Go.ChangeShapes Go.WideShapes Go.ChangeAt Go.RowKit Go.Deep
open Dat (PT ok64 RepV RepS RowX infoDatum)
set_option maxRecDepth 100000

set_option maxHeartbeats 1000000 in
theorem done_vref (k i k' i' : Int) (s s' : ByteArray) (hb : Nat) (T : List (Int × List PV)) (F : Nat → Prop) (w0 : World) (h0 : 0 ≤ i) (h1 : i < T.length) :
    DoneOk ⟨#[118, 101, 99, 116, 111, 114, 45, 114, 101, 102]⟩ hb T F [⟨k, i, s⟩, ⟨k', i', s'⟩] ((partT T ⟨k, i, s⟩ i').1, (partT T ⟨k, i, s⟩ i').2, T) w0 := by
  intro w S v _ hH hF hP
  generalize hpp : partT T ⟨k, i, s⟩ i' = p
  obtain ⟨⟨pk, pi, ps⟩, pe⟩ := p
  have HPP := Lib.hid hpp
  clear hpp
  obtain ⟨b, o, c, rfl, hc1, hc2, hbl, ⟨c0, c1, c2⟩, ok, ⟨d0, d1, d2⟩, ok'⟩ := two_args hP
  have mv := new_cells w (.cells #[.int .i64 0, .int .i64 0, .string ⟨#[]⟩] 36) b hbl
  replace c0 := (mv _).trans c0
  replace c1 := (mv _).trans c1
  replace c2 := (mv _).trans c2
  replace d0 := (mv _).trans d0
  replace d1 := (mv _).trans d1
  replace d2 := (mv _).trans d2
  have Z := Lib.hid (heap_alloc_new w (.cells #[.int .i64 0, .int .i64 0, .string ⟨#[]⟩] 36))
  have B0 := Lib.hid ((Below.refl w.heap.size w).alloc (Nat.le_refl _) (.cells #[.int .i64 0, .int .i64 0, .string ⟨#[]⟩] 36))
  have hbs : b < (w.alloc (.cells #[.int .i64 0, .int .i64 0, .string ⟨#[]⟩] 36)).heap.size := by rw [size_new]; omega
  have HH := Lib.hid hH
  have HF := Lib.hid hF
  have Hok := Lib.hid ok
  have Hok1 := Lib.hid ok'
  unfold maxLen at hc2
  clear hH hF hP mv ok ok'
  go_enter Tryd.func29, Tryd.ntmps29
  go_wp2
  generalize w.alloc (.cells #[.int .i64 0, .int .i64 0, .string ⟨#[]⟩] 36) = w1 at *
  have B1 : Hid (Below w.heap.size w w1.drew) := Lib.hid B0.out.drew
  have Z1 : Hid (w1.drew.heap[w.heap.size]? = some (.cells #[.int .i64 0, .int .i64 0, .string ⟨#[]⟩] 36 (0, 0))) := Lib.hid Z.out
  obtain ⟨tb, cap, _, _, _, hct, hcp1, hcp2, _⟩ := (HH.out.below B1.out).thing i.toNat (by omega)
  have HCT := Lib.hid hct
  have KT := Lib.hid (thingOf_any k i s hb tb T.length cap w1.drew hct h0 h1 hcp1 hcp2)
  clear hct hcp1 hcp2
  go_region_with (first
    | (go_at_call 50
       refine KT.out.mono ?_
       rintro e wa ⟨rfl, hba⟩
       have HBA := Lib.hid (B1.out.trans (hba.mono B1.out.size))
       have d0a := (hba.cell (p := ⟨b, o + 3, none⟩) hbs).trans d0
       have d1a := (hba.cell (p := ⟨b, o + 4, none⟩) hbs).trans d1
       have d2a := (hba.cell (p := ⟨b, o + 5, none⟩) hbs).trans d2
       have Z2 := Lib.hid ((hba.block w.heap.size (lt_of_block Z1.out)).trans Z1.out)
       have HC2 := Lib.hid ((hba.cell (p := ⟨hb, 0, none⟩) (World.block_lt_of_cell? _ _ HCT.out)).trans HCT.out)
       have KP := Lib.hid (ppart_any T ⟨k, i, s⟩ i' hb F wa (HH.out.below HBA.out) h0 h1 tb cap HC2.out)
       clear hba)
    | (go_at_call 51
       refine KP.out.mono ?_
       rintro e w2 ⟨rfl, hb2⟩
       obtain ⟨e3, Q, E⟩ := after_call (u := ⟨pk, pi, ps⟩) (err := pe) (r := (⟨pk, pi, ps⟩, pe, T)) HBA.out (Nat.le_refl _) HF.out Z2.out ⟨F, (HH.out.below HBA.out).below hb2, Stp.of_below hb2⟩ rfl
       rw [HPP.out]
       clear hb2
       obtain ⟨⟨y0, y1, y2⟩, f0, f1, f2⟩ := look3 e3
       have HQ := Lib.hid Q
       have HE := Lib.hid E
       clear e3 Q E
       unfold VE))
  all_goals
    go_wp2
    have Q := HQ.out
    have E := HE.out
    clear HQ HE
    generalize ((w2.setCell ⟨w.heap.size, 0, none⟩ (.int .i64 pk)).setCell ⟨w.heap.size, 1, none⟩ (.int .i64 pi)).setCell ⟨w.heap.size, 2, none⟩ (.string ps) = W at E Q ⊢
    exact bodyPost_ret (res_ve (t := 7) (p := 6) rfl _ _ w.heap.size _ _ _ rfl E) rfl Q
set_option maxHeartbeats 1000000 in
theorem done_mkvec (k i k' i' : Int) (s s' : ByteArray) (hb : Nat) (T : List (Int × List PV)) (F : Nat → Prop) (w0 : World) (hT : T.length ≤ 100000) :
    DoneOk ⟨#[109, 97, 107, 101, 45, 118, 101, 99, 116, 111, 114]⟩ hb T F [⟨k, i, s⟩, ⟨k', i', s'⟩] (fillT T 1 i ⟨k', i', s'⟩) w0 := by
  intro w S v _ hH hF hP
  generalize hpp : fillT T 1 i ⟨k', i', s'⟩ = p
  obtain ⟨⟨pk, pi, ps⟩, pe, pT⟩ := p
  have HPP := Lib.hid hpp
  clear hpp
  obtain ⟨b, o, c, rfl, hc1, hc2, hbl, ⟨c0, c1, c2⟩, ok, ⟨d0, d1, d2⟩, ok'⟩ := two_args hP
  have mv := new_cells w (.cells #[.int .i64 0, .int .i64 0, .string ⟨#[]⟩] 36) b hbl
  replace c0 := (mv _).trans c0
  replace c1 := (mv _).trans c1
  replace c2 := (mv _).trans c2
  replace d0 := (mv _).trans d0
  replace d1 := (mv _).trans d1
  replace d2 := (mv _).trans d2
  have Z := Lib.hid (heap_alloc_new w (.cells #[.int .i64 0, .int .i64 0, .string ⟨#[]⟩] 36))
  have B0 := Lib.hid ((Below.refl w.heap.size w).alloc (Nat.le_refl _) (.cells #[.int .i64 0, .int .i64 0, .string ⟨#[]⟩] 36))
  have hbs : b < (w.alloc (.cells #[.int .i64 0, .int .i64 0, .string ⟨#[]⟩] 36)).heap.size := by rw [size_new]; omega
  have HH := Lib.hid hH
  have HF := Lib.hid hF
  have Hok := Lib.hid ok
  have Hok1 := Lib.hid ok'
  unfold maxLen at hc2
  clear hH hF hP mv ok ok'
  go_enter Tryd.func29, Tryd.ntmps29
  go_wp2
  generalize w.alloc (.cells #[.int .i64 0, .int .i64 0, .string ⟨#[]⟩] 36) = w1 at *
  have B1 : Hid (Below w.heap.size w w1.drew) := Lib.hid B0.out.drew
  have Z1 : Hid (w1.drew.heap[w.heap.size]? = some (.cells #[.int .i64 0, .int .i64 0, .string ⟨#[]⟩] 36 (0, 0))) := Lib.hid Z.out
  have KF := Lib.hid (filled_any 1 i k' i' s' Hok1.out hb T F w1.drew (HH.out.below B1.out) (fun b h => Nat.lt_of_lt_of_le (HF.out b h) B1.out.size) ⟨by decide, by decide⟩ (by decide) hT)
  go_region_with
    (go_at_call 49
     refine KF.out.mono ?_
     rintro e w2 ⟨rfl, F', q1, q2⟩
     rw [HPP.out] at q1 ⊢
     obtain ⟨e3, Q, E⟩ := after_call (u := ⟨pk, pi, ps⟩) (err := pe) (r := (⟨pk, pi, ps⟩, pe, pT)) B1.out (Nat.le_refl _) HF.out Z1.out ⟨F', q1, q2⟩ rfl
     clear q1 q2
     obtain ⟨⟨y0, y1, y2⟩, f0, f1, f2⟩ := look3 e3
     have HQ := Lib.hid Q
     have HE := Lib.hid E
     clear e3 Q E
     unfold VE)
  all_goals
    go_wp2
    have Q := HQ.out
    have E := HE.out
    clear HQ HE
    generalize ((w2.setCell ⟨w.heap.size, 0, none⟩ (.int .i64 pk)).setCell ⟨w.heap.size, 1, none⟩ (.int .i64 pi)).setCell ⟨w.heap.size, 2, none⟩ (.string ps) = W at E Q ⊢
    exact bodyPost_ret (res_ve (t := 7) (p := 6) rfl _ _ w.heap.size _ _ _ rfl E) rfl Q
end Go.Proofs.YtpejhilfopjckaaDoor.Hp
