/-
Package heap's sure, done of <. Where the table of what is reckoned is as the program lays it.
-/
import Derived.Test.YtpejhilfopjckaaDoorQ14
namespace Go.Proofs.YtpejhilfopjckaaDoor.Hp
open Go.ChangeShapes Go.WideShapes Go.ChangeAt Go.RowKit Go.Deep
open Dat (PT ok64 RepV RepS RowX infoDatum)
set_option maxRecDepth 100000

set_option maxHeartbeats 1000000 in
theorem sure_lt (k i k' i' : Int) (s s' : ByteArray) (v : Value) (S : Nat → Prop) (hb : Nat) (T : List (Int × List PV)) (F : Nat → Prop) (w : World) (hH : HeapM w hb T F) (_hF : ∀ b, F b → b < w.heap.size) (hP : InP w S [⟨k, i, s⟩, ⟨k', i', s'⟩] v) (r : Bool) (hr : r = decide (i < i')) :
    Calls Tryd.prog 55 #[.pointer (some ⟨hb, 0, none⟩), .string ⟨#[60]⟩, v] w fun e w' => SureOk w hb F ⟨0, if r then 1 else 0, ⟨#[]⟩⟩ T e w' := by
  obtain ⟨b, o, c, rfl, hc1, hc2, hbl, ⟨c0, c1, c2⟩, ok, ⟨d0, d1, d2⟩, ok'⟩ := two_args hP
  have mv := new_cells w (.cells #[.int .i64 0, .int .i64 0, .string ⟨#[]⟩] 36) b hbl
  replace c0 := (mv _).trans c0
  replace c1 := (mv _).trans c1
  replace c2 := (mv _).trans c2
  replace d0 := (mv _).trans d0
  replace d1 := (mv _).trans d1
  replace d2 := (mv _).trans d2
  have Z := Lib.hid (heap_alloc_new w (.cells #[.int .i64 0, .int .i64 0, .string ⟨#[]⟩] 36))
  have B0 := Lib.hid ((Below.refl w.heap.size w).alloc (Nat.le_refl _) (.cells #[.int .i64 0, .int .i64 0, .string ⟨#[]⟩] 36))
  have HH := Lib.hid hH
  have HR := Lib.hid hr
  unfold maxLen at hc2
  clear hH _hF hP mv ok ok' hr
  rcases (show (i < i') ∨ ¬ (i < i') from Classical.em _) with h | h
  · obtain rfl : r = true := by rw [HR.out]; simp [h]
    clear HR
    go_enter Tryd.func55, Tryd.ntmps55
    go_wp2
    generalize w.alloc (.cells #[.int .i64 0, .int .i64 0, .string ⟨#[]⟩] 36) = w1 at *
    go_still_tail 8, (by kernel_rfl)
    change wpList _ _ _ _ _ w1.drew
    have B1 : Hid (Below w.heap.size w w1.drew) := Lib.hid B0.out.drew
    have Z1 : Hid (w1.drew.heap[w.heap.size]? = some (.cells #[.int .i64 0, .int .i64 0, .string ⟨#[]⟩] 36 (0, 0))) := Lib.hid Z.out
    go_wp2_with (go_at_call 75; refine (truth_any true _).mono ?_; rintro e w2 ⟨rfl, hb2⟩; obtain ⟨⟨y0, y1, y2⟩, f0, f1, f2⟩ := look3 ((hb2.block w.heap.size (lt_of_block Z1.out)).trans Z1.out); have E := Lib.hid (put3 ((hb2.block w.heap.size (lt_of_block Z1.out)).trans Z1.out) (.int .i64 0) (.int .i64 1) (.string ⟨#[]⟩)); have B2 := Lib.hid (put3_below (B1.out.trans (hb2.mono B1.out.size)) (Nat.le_refl w.heap.size) (.int .i64 0) (.int .i64 1) (.string ⟨#[]⟩)); clear hb2)
    exact bodyPost_ret (res_v rfl _ _ w.heap.size _ _ _ rfl E.out) rfl ⟨rfl, F, HH.out.below B2.out, Stp.of_below B2.out⟩
  · obtain rfl : r = false := by rw [HR.out]; simp [h]
    have hd : decide (i < i') = false := decide_eq_false h
    clear HR h
    go_enter Tryd.func55, Tryd.ntmps55
    go_wp2
    generalize w.alloc (.cells #[.int .i64 0, .int .i64 0, .string ⟨#[]⟩] 36) = w1 at *
    go_still_tail 8, (by kernel_rfl)
    change wpList _ _ _ _ _ w1.drew
    have B1 : Hid (Below w.heap.size w w1.drew) := Lib.hid B0.out.drew
    have Z1 : Hid (w1.drew.heap[w.heap.size]? = some (.cells #[.int .i64 0, .int .i64 0, .string ⟨#[]⟩] 36 (0, 0))) := Lib.hid Z.out
    go_wp2_with (go_at_call 75; refine (truth_any false _).mono ?_; rintro e w2 ⟨rfl, hb2⟩; obtain ⟨⟨y0, y1, y2⟩, f0, f1, f2⟩ := look3 ((hb2.block w.heap.size (lt_of_block Z1.out)).trans Z1.out); have E := Lib.hid (put3 ((hb2.block w.heap.size (lt_of_block Z1.out)).trans Z1.out) (.int .i64 0) (.int .i64 0) (.string ⟨#[]⟩)); have B2 := Lib.hid (put3_below (B1.out.trans (hb2.mono B1.out.size)) (Nat.le_refl w.heap.size) (.int .i64 0) (.int .i64 0) (.string ⟨#[]⟩)); clear hb2)
    exact bodyPost_ret (res_v rfl _ _ w.heap.size _ _ _ rfl E.out) rfl ⟨rfl, F, HH.out.below B2.out, Stp.of_below B2.out⟩
set_option maxHeartbeats 1000000 in
theorem done_lt (k i k' i' : Int) (s s' : ByteArray) (hb : Nat) (T : List (Int × List PV)) (F : Nat → Prop) (w0 : World) (hR : RecOk w0) (r : Bool) (hr : r = decide (i < i')) :
    DoneOk ⟨#[60]⟩ hb T F [⟨k, i, s⟩, ⟨k', i', s'⟩] (⟨0, if r then 1 else 0, ⟨#[]⟩⟩, 0, T) w0 := by
  intro w S v hw hH hF hP
  have Z := Lib.hid (heap_alloc_new w (.cells #[.int .i64 0, .int .i64 0, .string ⟨#[]⟩] 36))
  have B0 := Lib.hid ((Below.refl w.heap.size w).alloc (Nat.le_refl _) (.cells #[.int .i64 0, .int .i64 0, .string ⟨#[]⟩] 36))
  have hs : (w.alloc (.cells #[.int .i64 0, .int .i64 0, .string ⟨#[]⟩] 36)).heap.size = w.heap.size + 1 := size_new _ _
  have KS := Lib.hid (sure_lt k i k' i' s s' v S hb T F _ (hH.below B0.out) (fun b h => by rw [hs]; have := hF b h; omega) (hP.belowP B0.out) r hr)
  have HF := Lib.hid hF
  have KO := Lib.hid (op_none ⟨#[60]⟩ _ ((hR.at hw).at B0.out) (by kernel_rfl) (by kernel_rfl) (by kernel_rfl) (by kernel_rfl) (by kernel_rfl))
  generalize (if r then 1 else 0 : Int) = q at *
  clear hw hH hF hP hR hs hr
  go_enter Tryd.func29, Tryd.ntmps29
  go_wp2_with fail
  refine KO.out.mono ?_
  rintro e w1 ⟨rfl, rfl⟩
  go_wp2_with fail
  refine KS.out.mono ?_
  rintro e w2 ⟨rfl, F', q1, q2⟩
  obtain ⟨e3, Q, E⟩ := after_call (u := ⟨0, q, ⟨#[]⟩⟩) (err := 0) (r := (⟨0, q, ⟨#[]⟩⟩, 0, T)) B0.out (Nat.le_refl _) HF.out Z.out ⟨F', q1, q2⟩ rfl
  obtain ⟨⟨y0, y1, y2⟩, f0, f1, f2⟩ := look3 e3
  have HQ := Lib.hid Q
  have HE := Lib.hid E
  clear e3 Q E q1 q2
  go_wp2
  have Q := HQ.out
  have E := HE.out
  clear HQ HE
  generalize ((w2.setCell ⟨w.heap.size, 0, none⟩ (.int .i64 0)).setCell ⟨w.heap.size, 1, none⟩ (.int .i64 q)).setCell ⟨w.heap.size, 2, none⟩ (.string ⟨#[]⟩) = W at E Q ⊢
  exact bodyPost_ret (res_ve (t := 7) (p := 6) rfl _ _ w.heap.size _ _ _ rfl E) rfl Q
end Go.Proofs.YtpejhilfopjckaaDoor.Hp
