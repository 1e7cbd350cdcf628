/-
Package heap's done of what reckons, and of eq?. Where the table of what is reckoned is as the program lays it.
-/
import Derived.Test.YtpejhilfopjckaaDoorQ12
import Derived.Test.YtpejhilfopjckaaDoorQ13
namespace Go.Proofs.YtpejhilfopjckaaDoor.Hp
open Go.ChangeShapes Go.WideShapes Go.ChangeAt Go.RowKit Go.Deep
open Dat (PT ok64 RepV RepS RowX infoDatum)
set_option maxRecDepth 100000
set_option maxHeartbeats 1000000 in
theorem done_eqq (k i k' i' : Int) (s s' : ByteArray) (hb : Nat) (T : List (Int × List PV)) (F : Nat → Prop) (w0 : World) (hR : RecOk w0) (r : Bool) (hr : r = decide (k = k' ∧ i = i' ∧ s = s')) :
    DoneOk ⟨#[101, 113, 63]⟩ hb T F [⟨k, i, s⟩, ⟨k', i', s'⟩] (⟨0, if r then 1 else 0, ⟨#[]⟩⟩, 0, T) w0 := by
  intro w S v hw hH hF hP
  have Z := Lib.hid (heap_alloc_new w (.cells #[.int .i64 0, .int .i64 0, .string ⟨#[]⟩] 36))
  have B0 := Lib.hid ((Below.refl w.heap.size w).alloc (Nat.le_refl _) (.cells #[.int .i64 0, .int .i64 0, .string ⟨#[]⟩] 36))
  have hs : (w.alloc (.cells #[.int .i64 0, .int .i64 0, .string ⟨#[]⟩] 36)).heap.size = w.heap.size + 1 := size_new _ _
  have KS := Lib.hid (sure_eqq k i k' i' s s' v S hb T F _ (hH.below B0.out) (fun b h => by rw [hs]; have := hF b h; omega) (hP.belowP B0.out) r hr)
  have HF := Lib.hid hF
  have KO := Lib.hid (op_none ⟨#[101, 113, 63]⟩ _ ((hR.at hw).at B0.out) (by kernel_rfl) (by kernel_rfl) (by kernel_rfl) (by kernel_rfl) (by kernel_rfl))
  generalize (if r then 1 else 0 : Int) = q at *
  clear hw hH hF hP hR hs hr
  go_enter Tryd.func29, Tryd.ntmps29
  go_wp2_with fail
  refine KO.out.mono ?_
  rintro e w1 ⟨rfl, rfl⟩
  go_wp2_with fail
  refine KS.out.mono ?_
  rintro e w2 ⟨rfl, F', q1, q2⟩
  obtain ⟨e3, Q, E⟩ := after_call (u := ⟨0, q, ⟨#[]⟩⟩) (err := 0) (r := (⟨0, q, ⟨#[]⟩⟩, 0, T)) B0.out (Nat.le_refl _) HF.out Z.out ⟨F', q1, q2⟩ rfl
  obtain ⟨⟨y0, y1, y2⟩, f0, f1, f2⟩ := look3 e3
  have HQ := Lib.hid Q
  have HE := Lib.hid E
  clear e3 Q E q1 q2
  go_wp2
  have Q := HQ.out
  have E := HE.out
  clear HQ HE
  generalize ((w2.setCell ⟨w.heap.size, 0, none⟩ (.int .i64 0)).setCell ⟨w.heap.size, 1, none⟩ (.int .i64 q)).setCell ⟨w.heap.size, 2, none⟩ (.string ⟨#[]⟩) = W at E Q ⊢
  exact bodyPost_ret (res_ve (t := 7) (p := 6) rfl _ _ w.heap.size _ _ _ rfl E) rfl Q
set_option maxHeartbeats 1000000 in
theorem done_add (k i k' i' : Int) (s s' : ByteArray) (hb : Nat) (T : List (Int × List PV)) (F : Nat → Prop) (w0 : World) (hR : RecOk w0) (ha : Num i) (hb' : Num i') :
    DoneOk ⟨#[43]⟩ hb T F [⟨k, i, s⟩, ⟨k', i', s'⟩] ((recT 0 i i').1, (recT 0 i i').2, T) w0 := by
  intro w S v hw hH hF hP
  generalize hpp : recT 0 i i' = p
  obtain ⟨⟨pk, pi, ps⟩, pe⟩ := p
  obtain ⟨b, o, c, rfl, hc1, hc2, hbl, ⟨c0, c1, c2⟩, ok, ⟨d0, d1, d2⟩, ok'⟩ := two_args hP
  have mv := new_cells w (.cells #[.int .i64 0, .int .i64 0, .string ⟨#[]⟩] 36) b hbl
  replace c0 := (mv _).trans c0
  replace c1 := (mv _).trans c1
  replace c2 := (mv _).trans c2
  replace d0 := (mv _).trans d0
  replace d1 := (mv _).trans d1
  replace d2 := (mv _).trans d2
  have Z := Lib.hid (heap_alloc_new w (.cells #[.int .i64 0, .int .i64 0, .string ⟨#[]⟩] 36))
  have B0 := Lib.hid ((Below.refl w.heap.size w).alloc (Nat.le_refl _) (.cells #[.int .i64 0, .int .i64 0, .string ⟨#[]⟩] 36))
  have KR := Lib.hid (fun W => hpp ▸ reckon_any 0 i i' W (by decide) (by decide) ha hb')
  have KO := Lib.hid (oper_add _ ((hR.at hw).at B0.out))
  have HH := Lib.hid hH
  have HF := Lib.hid hF
  unfold maxLen at hc2
  clear hw hH hF hP hR mv ok ok' hpp ha hb'
  go_enter Tryd.func29, Tryd.ntmps29
  go_wp2_with fail
  refine KO.out.mono ?_
  rintro e w1 ⟨rfl, rfl⟩
  go_wp2
  clear KO
  generalize w.alloc (.cells #[.int .i64 0, .int .i64 0, .string ⟨#[]⟩] 36) = w1 at *
  have B1 : Hid (Below w.heap.size w w1.drew) := Lib.hid B0.out.drew
  have Z1 : Hid (w1.drew.heap[w.heap.size]? = some (.cells #[.int .i64 0, .int .i64 0, .string ⟨#[]⟩] 36 (0, 0))) := Lib.hid Z.out
  go_region_with
    (go_at_call 54
     refine (KR.out _).mono ?_
     rintro e w2 ⟨rfl, hb2⟩
     obtain ⟨e3, Q, E⟩ := after_call (u := ⟨pk, pi, ps⟩) (err := pe) (r := (⟨pk, pi, ps⟩, pe, T)) B1.out (Nat.le_refl _) HF.out Z1.out ⟨F, (HH.out.below B1.out).below hb2, Stp.of_below hb2⟩ rfl
     clear hb2
     unfold VE
     obtain ⟨⟨y0, y1, y2⟩, f0, f1, f2⟩ := look3 e3
     have HQ := Lib.hid Q
     have HE := Lib.hid E
     clear e3 Q E)
  all_goals
  go_wp2
  have Q := HQ.out
  have E := HE.out
  clear HQ HE
  generalize ((w2.setCell ⟨w.heap.size, 0, none⟩ (.int .i64 pk)).setCell ⟨w.heap.size, 1, none⟩ (.int .i64 pi)).setCell ⟨w.heap.size, 2, none⟩ (.string ps) = W at E Q ⊢
  exact bodyPost_ret (res_ve (t := 7) (p := 6) rfl _ _ w.heap.size _ _ _ rfl E) rfl Q
set_option maxHeartbeats 1000000 in
theorem done_sub (k i k' i' : Int) (s s' : ByteArray) (hb : Nat) (T : List (Int × List PV)) (F : Nat → Prop) (w0 : World) (hR : RecOk w0) (ha : Num i) (hb' : Num i') :
    DoneOk ⟨#[45]⟩ hb T F [⟨k, i, s⟩, ⟨k', i', s'⟩] ((recT 1 i i').1, (recT 1 i i').2, T) w0 := by
  intro w S v hw hH hF hP
  generalize hpp : recT 1 i i' = p
  obtain ⟨⟨pk, pi, ps⟩, pe⟩ := p
  obtain ⟨b, o, c, rfl, hc1, hc2, hbl, ⟨c0, c1, c2⟩, ok, ⟨d0, d1, d2⟩, ok'⟩ := two_args hP
  have mv := new_cells w (.cells #[.int .i64 0, .int .i64 0, .string ⟨#[]⟩] 36) b hbl
  replace c0 := (mv _).trans c0
  replace c1 := (mv _).trans c1
  replace c2 := (mv _).trans c2
  replace d0 := (mv _).trans d0
  replace d1 := (mv _).trans d1
  replace d2 := (mv _).trans d2
  have Z := Lib.hid (heap_alloc_new w (.cells #[.int .i64 0, .int .i64 0, .string ⟨#[]⟩] 36))
  have B0 := Lib.hid ((Below.refl w.heap.size w).alloc (Nat.le_refl _) (.cells #[.int .i64 0, .int .i64 0, .string ⟨#[]⟩] 36))
  have KR := Lib.hid (fun W => hpp ▸ reckon_any 1 i i' W (by decide) (by decide) ha hb')
  have KO := Lib.hid (oper_sub _ ((hR.at hw).at B0.out))
  have HH := Lib.hid hH
  have HF := Lib.hid hF
  unfold maxLen at hc2
  clear hw hH hF hP hR mv ok ok' hpp ha hb'
  go_enter Tryd.func29, Tryd.ntmps29
  go_wp2_with fail
  refine KO.out.mono ?_
  rintro e w1 ⟨rfl, rfl⟩
  go_wp2
  clear KO
  generalize w.alloc (.cells #[.int .i64 0, .int .i64 0, .string ⟨#[]⟩] 36) = w1 at *
  have B1 : Hid (Below w.heap.size w w1.drew) := Lib.hid B0.out.drew
  have Z1 : Hid (w1.drew.heap[w.heap.size]? = some (.cells #[.int .i64 0, .int .i64 0, .string ⟨#[]⟩] 36 (0, 0))) := Lib.hid Z.out
  go_region_with
    (go_at_call 54
     refine (KR.out _).mono ?_
     rintro e w2 ⟨rfl, hb2⟩
     obtain ⟨e3, Q, E⟩ := after_call (u := ⟨pk, pi, ps⟩) (err := pe) (r := (⟨pk, pi, ps⟩, pe, T)) B1.out (Nat.le_refl _) HF.out Z1.out ⟨F, (HH.out.below B1.out).below hb2, Stp.of_below hb2⟩ rfl
     clear hb2
     unfold VE
     obtain ⟨⟨y0, y1, y2⟩, f0, f1, f2⟩ := look3 e3
     have HQ := Lib.hid Q
     have HE := Lib.hid E
     clear e3 Q E)
  all_goals
  go_wp2
  have Q := HQ.out
  have E := HE.out
  clear HQ HE
  generalize ((w2.setCell ⟨w.heap.size, 0, none⟩ (.int .i64 pk)).setCell ⟨w.heap.size, 1, none⟩ (.int .i64 pi)).setCell ⟨w.heap.size, 2, none⟩ (.string ps) = W at E Q ⊢
  exact bodyPost_ret (res_ve (t := 7) (p := 6) rfl _ _ w.heap.size _ _ _ rfl E) rfl Q
set_option maxHeartbeats 1000000 in
theorem done_mul (k i k' i' : Int) (s s' : ByteArray) (hb : Nat) (T : List (Int × List PV)) (F : Nat → Prop) (w0 : World) (hR : RecOk w0) (ha : Num i) (hb' : Num i') :
    DoneOk ⟨#[42]⟩ hb T F [⟨k, i, s⟩, ⟨k', i', s'⟩] ((recT 2 i i').1, (recT 2 i i').2, T) w0 := by
  intro w S v hw hH hF hP
  generalize hpp : recT 2 i i' = p
  obtain ⟨⟨pk, pi, ps⟩, pe⟩ := p
  obtain ⟨b, o, c, rfl, hc1, hc2, hbl, ⟨c0, c1, c2⟩, ok, ⟨d0, d1, d2⟩, ok'⟩ := two_args hP
  have mv := new_cells w (.cells #[.int .i64 0, .int .i64 0, .string ⟨#[]⟩] 36) b hbl
  replace c0 := (mv _).trans c0
  replace c1 := (mv _).trans c1
  replace c2 := (mv _).trans c2
  replace d0 := (mv _).trans d0
  replace d1 := (mv _).trans d1
  replace d2 := (mv _).trans d2
  have Z := Lib.hid (heap_alloc_new w (.cells #[.int .i64 0, .int .i64 0, .string ⟨#[]⟩] 36))
  have B0 := Lib.hid ((Below.refl w.heap.size w).alloc (Nat.le_refl _) (.cells #[.int .i64 0, .int .i64 0, .string ⟨#[]⟩] 36))
  have KR := Lib.hid (fun W => hpp ▸ reckon_any 2 i i' W (by decide) (by decide) ha hb')
  have KO := Lib.hid (oper_mul _ ((hR.at hw).at B0.out))
  have HH := Lib.hid hH
  have HF := Lib.hid hF
  unfold maxLen at hc2
  clear hw hH hF hP hR mv ok ok' hpp ha hb'
  go_enter Tryd.func29, Tryd.ntmps29
  go_wp2_with fail
  refine KO.out.mono ?_
  rintro e w1 ⟨rfl, rfl⟩
  go_wp2
  clear KO
  generalize w.alloc (.cells #[.int .i64 0, .int .i64 0, .string ⟨#[]⟩] 36) = w1 at *
  have B1 : Hid (Below w.heap.size w w1.drew) := Lib.hid B0.out.drew
  have Z1 : Hid (w1.drew.heap[w.heap.size]? = some (.cells #[.int .i64 0, .int .i64 0, .string ⟨#[]⟩] 36 (0, 0))) := Lib.hid Z.out
  go_region_with
    (go_at_call 54
     refine (KR.out _).mono ?_
     rintro e w2 ⟨rfl, hb2⟩
     obtain ⟨e3, Q, E⟩ := after_call (u := ⟨pk, pi, ps⟩) (err := pe) (r := (⟨pk, pi, ps⟩, pe, T)) B1.out (Nat.le_refl _) HF.out Z1.out ⟨F, (HH.out.below B1.out).below hb2, Stp.of_below hb2⟩ rfl
     clear hb2
     unfold VE
     obtain ⟨⟨y0, y1, y2⟩, f0, f1, f2⟩ := look3 e3
     have HQ := Lib.hid Q
     have HE := Lib.hid E
     clear e3 Q E)
  all_goals
  go_wp2
  have Q := HQ.out
  have E := HE.out
  clear HQ HE
  generalize ((w2.setCell ⟨w.heap.size, 0, none⟩ (.int .i64 pk)).setCell ⟨w.heap.size, 1, none⟩ (.int .i64 pi)).setCell ⟨w.heap.size, 2, none⟩ (.string ps) = W at E Q ⊢
  exact bodyPost_ret (res_ve (t := 7) (p := 6) rfl _ _ w.heap.size _ _ _ rfl E) rfl Q
set_option maxHeartbeats 1000000 in
theorem done_quotient (k i k' i' : Int) (s s' : ByteArray) (hb : Nat) (T : List (Int × List PV)) (F : Nat → Prop) (w0 : World) (hR : RecOk w0) (ha : Num i) (hb' : Num i') :
    DoneOk ⟨#[113, 117, 111, 116, 105, 101, 110, 116]⟩ hb T F [⟨k, i, s⟩, ⟨k', i', s'⟩] ((recT 3 i i').1, (recT 3 i i').2, T) w0 := by
  intro w S v hw hH hF hP
  generalize hpp : recT 3 i i' = p
  obtain ⟨⟨pk, pi, ps⟩, pe⟩ := p
  obtain ⟨b, o, c, rfl, hc1, hc2, hbl, ⟨c0, c1, c2⟩, ok, ⟨d0, d1, d2⟩, ok'⟩ := two_args hP
  have mv := new_cells w (.cells #[.int .i64 0, .int .i64 0, .string ⟨#[]⟩] 36) b hbl
  replace c0 := (mv _).trans c0
  replace c1 := (mv _).trans c1
  replace c2 := (mv _).trans c2
  replace d0 := (mv _).trans d0
  replace d1 := (mv _).trans d1
  replace d2 := (mv _).trans d2
  have Z := Lib.hid (heap_alloc_new w (.cells #[.int .i64 0, .int .i64 0, .string ⟨#[]⟩] 36))
  have B0 := Lib.hid ((Below.refl w.heap.size w).alloc (Nat.le_refl _) (.cells #[.int .i64 0, .int .i64 0, .string ⟨#[]⟩] 36))
  have KR := Lib.hid (fun W => hpp ▸ reckon_any 3 i i' W (by decide) (by decide) ha hb')
  have KO := Lib.hid (oper_quotient _ ((hR.at hw).at B0.out))
  have HH := Lib.hid hH
  have HF := Lib.hid hF
  unfold maxLen at hc2
  clear hw hH hF hP hR mv ok ok' hpp ha hb'
  go_enter Tryd.func29, Tryd.ntmps29
  go_wp2_with fail
  refine KO.out.mono ?_
  rintro e w1 ⟨rfl, rfl⟩
  go_wp2
  clear KO
  generalize w.alloc (.cells #[.int .i64 0, .int .i64 0, .string ⟨#[]⟩] 36) = w1 at *
  have B1 : Hid (Below w.heap.size w w1.drew) := Lib.hid B0.out.drew
  have Z1 : Hid (w1.drew.heap[w.heap.size]? = some (.cells #[.int .i64 0, .int .i64 0, .string ⟨#[]⟩] 36 (0, 0))) := Lib.hid Z.out
  go_region_with
    (go_at_call 54
     refine (KR.out _).mono ?_
     rintro e w2 ⟨rfl, hb2⟩
     obtain ⟨e3, Q, E⟩ := after_call (u := ⟨pk, pi, ps⟩) (err := pe) (r := (⟨pk, pi, ps⟩, pe, T)) B1.out (Nat.le_refl _) HF.out Z1.out ⟨F, (HH.out.below B1.out).below hb2, Stp.of_below hb2⟩ rfl
     clear hb2
     unfold VE
     obtain ⟨⟨y0, y1, y2⟩, f0, f1, f2⟩ := look3 e3
     have HQ := Lib.hid Q
     have HE := Lib.hid E
     clear e3 Q E)
  all_goals
  go_wp2
  have Q := HQ.out
  have E := HE.out
  clear HQ HE
  generalize ((w2.setCell ⟨w.heap.size, 0, none⟩ (.int .i64 pk)).setCell ⟨w.heap.size, 1, none⟩ (.int .i64 pi)).setCell ⟨w.heap.size, 2, none⟩ (.string ps) = W at E Q ⊢
  exact bodyPost_ret (res_ve (t := 7) (p := 6) rfl _ _ w.heap.size _ _ _ rfl E) rfl Q
set_option maxHeartbeats 1000000 in
theorem done_remainder (k i k' i' : Int) (s s' : ByteArray) (hb : Nat) (T : List (Int × List PV)) (F : Nat → Prop) (w0 : World) (hR : RecOk w0) (ha : Num i) (hb' : Num i') :
    DoneOk ⟨#[114, 101, 109, 97, 105, 110, 100, 101, 114]⟩ hb T F [⟨k, i, s⟩, ⟨k', i', s'⟩] ((recT 4 i i').1, (recT 4 i i').2, T) w0 := by
  intro w S v hw hH hF hP
  generalize hpp : recT 4 i i' = p
  obtain ⟨⟨pk, pi, ps⟩, pe⟩ := p
  obtain ⟨b, o, c, rfl, hc1, hc2, hbl, ⟨c0, c1, c2⟩, ok, ⟨d0, d1, d2⟩, ok'⟩ := two_args hP
  have mv := new_cells w (.cells #[.int .i64 0, .int .i64 0, .string ⟨#[]⟩] 36) b hbl
  replace c0 := (mv _).trans c0
  replace c1 := (mv _).trans c1
  replace c2 := (mv _).trans c2
  replace d0 := (mv _).trans d0
  replace d1 := (mv _).trans d1
  replace d2 := (mv _).trans d2
  have Z := Lib.hid (heap_alloc_new w (.cells #[.int .i64 0, .int .i64 0, .string ⟨#[]⟩] 36))
  have B0 := Lib.hid ((Below.refl w.heap.size w).alloc (Nat.le_refl _) (.cells #[.int .i64 0, .int .i64 0, .string ⟨#[]⟩] 36))
  have KR := Lib.hid (fun W => hpp ▸ reckon_any 4 i i' W (by decide) (by decide) ha hb')
  have KO := Lib.hid (oper_remainder _ ((hR.at hw).at B0.out))
  have HH := Lib.hid hH
  have HF := Lib.hid hF
  unfold maxLen at hc2
  clear hw hH hF hP hR mv ok ok' hpp ha hb'
  go_enter Tryd.func29, Tryd.ntmps29
  go_wp2_with fail
  refine KO.out.mono ?_
  rintro e w1 ⟨rfl, rfl⟩
  go_wp2
  clear KO
  generalize w.alloc (.cells #[.int .i64 0, .int .i64 0, .string ⟨#[]⟩] 36) = w1 at *
  have B1 : Hid (Below w.heap.size w w1.drew) := Lib.hid B0.out.drew
  have Z1 : Hid (w1.drew.heap[w.heap.size]? = some (.cells #[.int .i64 0, .int .i64 0, .string ⟨#[]⟩] 36 (0, 0))) := Lib.hid Z.out
  go_region_with
    (go_at_call 54
     refine (KR.out _).mono ?_
     rintro e w2 ⟨rfl, hb2⟩
     obtain ⟨e3, Q, E⟩ := after_call (u := ⟨pk, pi, ps⟩) (err := pe) (r := (⟨pk, pi, ps⟩, pe, T)) B1.out (Nat.le_refl _) HF.out Z1.out ⟨F, (HH.out.below B1.out).below hb2, Stp.of_below hb2⟩ rfl
     clear hb2
     unfold VE
     obtain ⟨⟨y0, y1, y2⟩, f0, f1, f2⟩ := look3 e3
     have HQ := Lib.hid Q
     have HE := Lib.hid E
     clear e3 Q E)
  all_goals
  go_wp2
  have Q := HQ.out
  have E := HE.out
  clear HQ HE
  generalize ((w2.setCell ⟨w.heap.size, 0, none⟩ (.int .i64 pk)).setCell ⟨w.heap.size, 1, none⟩ (.int .i64 pi)).setCell ⟨w.heap.size, 2, none⟩ (.string ps) = W at E Q ⊢
  exact bodyPost_ret (res_ve (t := 7) (p := 6) rfl _ _ w.heap.size _ _ _ rfl E) rfl Q
end Go.Proofs.YtpejhilfopjckaaDoor.Hp
