/-
Texts Q31, Q33, one behind the other (a claim bears sixty files). Conditions: as each says.
-/
import Derived.Test.YtpejhilfopjckaaDoorQ12

/-
Package heap's sure, done of what answers one value always: void, %unset. Where the table of what is reckoned is as the program lays it.
-/
namespace Go.Proofs.YtpejhilfopjckaaDoor.Hp
open Go.ChangeShapes Go.WideShapes Go.ChangeAt Go.RowKit Go.Deep
open Dat (PT ok64 RepV RepS RowX infoDatum)
set_option maxRecDepth 100000

set_option maxHeartbeats 1000000 in
theorem sure_void (l : List PV) (v : Value) (S : Nat → Prop) (hb : Nat) (T : List (Int × List PV)) (F : Nat → Prop) (w : World) (hH : HeapM w hb T F) (_hP : InP w S l v) :
    Calls Tryd.prog 55 #[.pointer (some ⟨hb, 0, none⟩), .string ⟨#[118, 111, 105, 100]⟩, v] w fun e w' => SureOk w hb F ⟨5, 0, ⟨#[]⟩⟩ T e w' := by
  have HH := Lib.hid hH
  clear hH _hP
  go_enter Tryd.func55, Tryd.ntmps55
  go_wp2
  exact bodyPost_ret (res_v rfl _ _ w.heap.size _ _ _ rfl (heap_alloc_new w _)) rfl ⟨rfl, F, HH.out.below ((Below.refl w.heap.size w).alloc (Nat.le_refl _) _), Stp.of_below ((Below.refl w.heap.size w).alloc (Nat.le_refl _) _)⟩
set_option maxHeartbeats 1000000 in
theorem done_void (l : List PV) (hb : Nat) (T : List (Int × List PV)) (F : Nat → Prop) (w0 : World) (hR : RecOk w0) :
    DoneOk ⟨#[118, 111, 105, 100]⟩ hb T F l (⟨5, 0, ⟨#[]⟩⟩, 0, T) w0 := by
  intro w S v hw hH hF hP
  have Z := Lib.hid (heap_alloc_new w (.cells #[.int .i64 0, .int .i64 0, .string ⟨#[]⟩] 36))
  have B0 := Lib.hid ((Below.refl w.heap.size w).alloc (Nat.le_refl _) (.cells #[.int .i64 0, .int .i64 0, .string ⟨#[]⟩] 36))
  have KS := Lib.hid (sure_void l v S hb T F _ (hH.below B0.out) (hP.belowP B0.out))
  have HF := Lib.hid hF
  have KO := Lib.hid (op_none ⟨#[118, 111, 105, 100]⟩ _ ((hR.at hw).at B0.out) (by kernel_rfl) (by kernel_rfl) (by kernel_rfl) (by kernel_rfl) (by kernel_rfl))
  clear hw hH hF hP hR
  go_enter Tryd.func29, Tryd.ntmps29
  go_wp2_with fail
  refine KO.out.mono ?_
  rintro e w1 ⟨rfl, rfl⟩
  go_wp2_with fail
  refine KS.out.mono ?_
  rintro e w2 ⟨rfl, F', q1, q2⟩
  obtain ⟨e3, Q, E⟩ := after_call (u := ⟨5, 0, ⟨#[]⟩⟩) (err := 0) (r := (⟨5, 0, ⟨#[]⟩⟩, 0, T)) B0.out (Nat.le_refl _) HF.out Z.out ⟨F', q1, q2⟩ rfl
  obtain ⟨⟨y0, y1, y2⟩, f0, f1, f2⟩ := look3 e3
  have HQ := Lib.hid Q
  have HE := Lib.hid E
  clear e3 Q E q1 q2
  go_wp2
  have Q := HQ.out
  have E := HE.out
  clear HQ HE
  generalize ((w2.setCell ⟨w.heap.size, 0, none⟩ (.int .i64 5)).setCell ⟨w.heap.size, 1, none⟩ (.int .i64 0)).setCell ⟨w.heap.size, 2, none⟩ (.string ⟨#[]⟩) = W at E Q ⊢
  exact bodyPost_ret (res_ve (t := 7) (p := 6) rfl _ _ w.heap.size _ _ _ rfl E) rfl Q
set_option maxHeartbeats 1000000 in
theorem sure_unset (l : List PV) (v : Value) (S : Nat → Prop) (hb : Nat) (T : List (Int × List PV)) (F : Nat → Prop) (w : World) (hH : HeapM w hb T F) (_hP : InP w S l v) :
    Calls Tryd.prog 55 #[.pointer (some ⟨hb, 0, none⟩), .string ⟨#[37, 117, 110, 115, 101, 116]⟩, v] w fun e w' => SureOk w hb F ⟨7, 0, ⟨#[]⟩⟩ T e w' := by
  have HH := Lib.hid hH
  clear hH _hP
  go_enter Tryd.func55, Tryd.ntmps55
  go_wp2
  exact bodyPost_ret (res_v rfl _ _ w.heap.size _ _ _ rfl (heap_alloc_new w _)) rfl ⟨rfl, F, HH.out.below ((Below.refl w.heap.size w).alloc (Nat.le_refl _) _), Stp.of_below ((Below.refl w.heap.size w).alloc (Nat.le_refl _) _)⟩
set_option maxHeartbeats 1000000 in
theorem done_unset (l : List PV) (hb : Nat) (T : List (Int × List PV)) (F : Nat → Prop) (w0 : World) (hR : RecOk w0) :
    DoneOk ⟨#[37, 117, 110, 115, 101, 116]⟩ hb T F l (⟨7, 0, ⟨#[]⟩⟩, 0, T) w0 := by
  intro w S v hw hH hF hP
  have Z := Lib.hid (heap_alloc_new w (.cells #[.int .i64 0, .int .i64 0, .string ⟨#[]⟩] 36))
  have B0 := Lib.hid ((Below.refl w.heap.size w).alloc (Nat.le_refl _) (.cells #[.int .i64 0, .int .i64 0, .string ⟨#[]⟩] 36))
  have KS := Lib.hid (sure_unset l v S hb T F _ (hH.below B0.out) (hP.belowP B0.out))
  have HF := Lib.hid hF
  have KO := Lib.hid (op_none ⟨#[37, 117, 110, 115, 101, 116]⟩ _ ((hR.at hw).at B0.out) (by kernel_rfl) (by kernel_rfl) (by kernel_rfl) (by kernel_rfl) (by kernel_rfl))
  clear hw hH hF hP hR
  go_enter Tryd.func29, Tryd.ntmps29
  go_wp2_with fail
  refine KO.out.mono ?_
  rintro e w1 ⟨rfl, rfl⟩
  go_wp2_with fail
  refine KS.out.mono ?_
  rintro e w2 ⟨rfl, F', q1, q2⟩
  obtain ⟨e3, Q, E⟩ := after_call (u := ⟨7, 0, ⟨#[]⟩⟩) (err := 0) (r := (⟨7, 0, ⟨#[]⟩⟩, 0, T)) B0.out (Nat.le_refl _) HF.out Z.out ⟨F', q1, q2⟩ rfl
  obtain ⟨⟨y0, y1, y2⟩, f0, f1, f2⟩ := look3 e3
  have HQ := Lib.hid Q
  have HE := Lib.hid E
  clear e3 Q E q1 q2
  go_wp2
  have Q := HQ.out
  have E := HE.out
  clear HQ HE
  generalize ((w2.setCell ⟨w.heap.size, 0, none⟩ (.int .i64 7)).setCell ⟨w.heap.size, 1, none⟩ (.int .i64 0)).setCell ⟨w.heap.size, 2, none⟩ (.string ⟨#[]⟩) = W at E Q ⊢
  exact bodyPost_ret (res_ve (t := 7) (p := 6) rfl _ _ w.heap.size _ _ _ rfl E) rfl Q
end Go.Proofs.YtpejhilfopjckaaDoor.Hp

/-
Package heap's sure, done of %box. Where the table of what is reckoned is as the program lays it.
-/
namespace Go.Proofs.YtpejhilfopjckaaDoor.Hp
open Go.ChangeShapes Go.WideShapes Go.ChangeAt Go.RowKit Go.Deep
open Dat (PT ok64 RepV RepS RowX infoDatum)
set_option maxRecDepth 100000

set_option maxHeartbeats 1000000 in
theorem sure_box (l : List PV) (v : Value) (S : Nat → Prop) (hb : Nat) (T : List (Int × List PV)) (F : Nat → Prop) (w : World) (hH : HeapM w hb T F) (hF : ∀ b, F b → b < w.heap.size) (hP : InP w S l v) (hl : l.length ≤ 1000) (hT : T.length ≤ 100000) :
    Calls Tryd.prog 55 #[.pointer (some ⟨hb, 0, none⟩), .string ⟨#[37, 98, 111, 120]⟩, v] w fun e w' => SureOk w hb F ⟨8, T.length, ⟨#[]⟩⟩ (T ++ [(3, l)]) e w' := by
  have Z := heap_alloc_new w (.cells #[.int .i64 0, .int .i64 0, .string ⟨#[]⟩] 36)
  have B0 := (Below.refl w.heap.size w).alloc (Nat.le_refl _) (.cells #[.int .i64 0, .int .i64 0, .string ⟨#[]⟩] 36)
  have hPV := hP
  obtain ⟨va, vc, rfl, -⟩ := hPV
  have KC := Lib.hid (clone_any l _ S _ (hP.belowP B0) (by omega))
  have HH := Lib.hid hH
  have HF := Lib.hid hF
  have HZ := Lib.hid Z
  have HB0 := Lib.hid B0
  have hs : (w.alloc (.cells #[.int .i64 0, .int .i64 0, .string ⟨#[]⟩] 36)).heap.size = w.heap.size + 1 := size_new _ _
  have HS := Lib.hid hs
  clear hH hF hP Z B0 hs
  go_enter Tryd.func55, Tryd.ntmps55
  go_wp2_with fail
  refine KC.out.mono ?_
  rintro e w1 ⟨⟨pv, g, rfl, hp, hg⟩, hb1⟩
  have B1 := HB0.out.trans (hb1.mono HB0.out.size)
  have hlt : w.heap.size + 1 ≤ w1.heap.size := by have := hb1.size; rw [HS.out] at this; exact this
  have hgg : l ≠ [] → w.heap.size + 1 ≤ g ∧ g < w1.heap.size := fun h => by have := hg h; rw [HS.out] at this; exact this
  have KA := Lib.hid (add_any 3 l g pv hb T F w1 (HH.out.below B1) (fun b h => by have := HF.out b h; omega) ⟨by decide, by decide⟩ hp (fun h => ⟨fun hf => by have := HF.out g hf; have := (hgg h).1; omega, (hgg h).2⟩) hT)
  have HGG := Lib.hid hgg
  have HB1 := Lib.hid B1
  have HZ1 := Lib.hid ((hb1.block w.heap.size (by rw [HS.out]; omega)).trans HZ.out)
  clear hp hg hb1 B1 hgg
  go_wp2_with fail
  refine KA.out.mono ?_
  rintro e w2 hA
  obtain ⟨rfl, F', q1, q2, q3⟩ := hA.doOk (w := w) HB1.out (fun h => by have := (HGG.out h).1; omega)
  obtain ⟨q4, q5⟩ := q3 w.heap.size (by omega) (fun hf => by have := HF.out _ hf; omega) (fun h e => by have := (HGG.out h).1; omega)
  have E2 := q5.trans HZ1.out
  have HQ := Lib.hid (put_res q1 q2 q4 (Nat.le_refl _) (.int .i64 8) (.int .i64 T.length) (.string ⟨#[]⟩))
  have HE := Lib.hid (put3 E2 (.int .i64 8) (.int .i64 T.length) (.string ⟨#[]⟩))
  obtain ⟨⟨y0, y1, y2⟩, f0, f1, f2⟩ := look3 E2
  clear hA q1 q2 q3 q4 q5 E2
  go_wp2
  have hE := HE.out
  have hQ := HQ.out
  clear HE HQ
  generalize ((w2.setCell ⟨w.heap.size, 0, none⟩ (.int .i64 8)).setCell ⟨w.heap.size, 1, none⟩ (.int .i64 T.length)).setCell ⟨w.heap.size, 2, none⟩ (.string ⟨#[]⟩) = W at hE hQ ⊢
  exact bodyPost_ret (res_v rfl _ _ w.heap.size _ _ _ rfl hE) rfl ⟨rfl, F', hQ.1, hQ.2⟩
set_option maxHeartbeats 1000000 in
theorem done_box (l : List PV) (hb : Nat) (T : List (Int × List PV)) (F : Nat → Prop) (w0 : World) (hR : RecOk w0) (hl : l.length ≤ 1000) (hT : T.length ≤ 100000) :
    DoneOk ⟨#[37, 98, 111, 120]⟩ hb T F l (⟨8, T.length, ⟨#[]⟩⟩, 0, T ++ [(3, l)]) w0 := by
  intro w S v hw hH hF hP
  have Z := Lib.hid (heap_alloc_new w (.cells #[.int .i64 0, .int .i64 0, .string ⟨#[]⟩] 36))
  have B0 := Lib.hid ((Below.refl w.heap.size w).alloc (Nat.le_refl _) (.cells #[.int .i64 0, .int .i64 0, .string ⟨#[]⟩] 36))
  have hs : (w.alloc (.cells #[.int .i64 0, .int .i64 0, .string ⟨#[]⟩] 36)).heap.size = w.heap.size + 1 := size_new _ _
  have KS := Lib.hid (sure_box l v S hb T F _ (hH.below B0.out) (fun b h => by rw [hs]; have := hF b h; omega) (hP.belowP B0.out) hl hT)
  have HF := Lib.hid hF
  have KO := Lib.hid (op_none ⟨#[37, 98, 111, 120]⟩ _ ((hR.at hw).at B0.out) (by kernel_rfl) (by kernel_rfl) (by kernel_rfl) (by kernel_rfl) (by kernel_rfl))
  clear hw hH hF hP hR hs
  go_enter Tryd.func29, Tryd.ntmps29
  go_wp2_with fail
  refine KO.out.mono ?_
  rintro e w1 ⟨rfl, rfl⟩
  go_wp2_with fail
  refine KS.out.mono ?_
  rintro e w2 ⟨rfl, F', q1, q2⟩
  obtain ⟨e3, Q, E⟩ := after_call (u := ⟨8, T.length, ⟨#[]⟩⟩) (err := 0) (r := (⟨8, T.length, ⟨#[]⟩⟩, 0, T ++ [(3, l)])) B0.out (Nat.le_refl _) HF.out Z.out ⟨F', q1, q2⟩ rfl
  obtain ⟨⟨y0, y1, y2⟩, f0, f1, f2⟩ := look3 e3
  have HQ := Lib.hid Q
  have HE := Lib.hid E
  clear e3 Q E q1 q2
  go_wp2
  have Q := HQ.out
  have E := HE.out
  clear HQ HE
  generalize ((w2.setCell ⟨w.heap.size, 0, none⟩ (.int .i64 8)).setCell ⟨w.heap.size, 1, none⟩ (.int .i64 T.length)).setCell ⟨w.heap.size, 2, none⟩ (.string ⟨#[]⟩) = W at E Q ⊢
  exact bodyPost_ret (res_ve (t := 7) (p := 6) rfl _ _ w.heap.size _ _ _ rfl E) rfl Q
end Go.Proofs.YtpejhilfopjckaaDoor.Hp
