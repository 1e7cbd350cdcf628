/-
Package heap's sure, done of the ten primitives that ask what a value is. Where the table of what is reckoned is as the program lays it.
-/
import Derived.Test.YtpejhilfopjckaaDoorQ12
import Derived.Test.YtpejhilfopjckaaDoorQ13
namespace Go.Proofs.YtpejhilfopjckaaDoor.Hp
open Go.ChangeShapes Go.WideShapes Go.ChangeAt Go.RowKit Go.Deep
open Dat (PT ok64 RepV RepS RowX infoDatum)
set_option maxRecDepth 100000

set_option maxHeartbeats 1000000 in
theorem sure_null_q (k i : Int) (s : ByteArray) (v : Value) (S : Nat → Prop) (hb : Nat) (T : List (Int × List PV)) (F : Nat → Prop) (w : World) (hH : HeapM w hb T F) (hP : InP w S [⟨k, i, s⟩] v) (hi : InT T ⟨k, i, s⟩) (n : Int) (hn : n = if isB T ⟨k, i, s⟩ 5 then 1 else 0) :
    Calls Tryd.prog 55 #[.pointer (some ⟨hb, 0, none⟩), .string ⟨#[110, 117, 108, 108, 63]⟩, v] w fun e w' => SureOk w hb F ⟨0, n, ⟨#[]⟩⟩ T e w' := by
  obtain ⟨b, o, c, rfl, hc1, hc2, hbl, ⟨c0, c1, c2⟩, ok⟩ := one_arg hP
  have mv := new_cells w (.cells #[.int .i64 0, .int .i64 0, .string ⟨#[]⟩] 36) b hbl
  replace c0 := (mv _).trans c0
  replace c1 := (mv _).trans c1
  replace c2 := (mv _).trans c2
  have Z := Lib.hid (heap_alloc_new w (.cells #[.int .i64 0, .int .i64 0, .string ⟨#[]⟩] 36))
  have B0 := Lib.hid ((Below.refl w.heap.size w).alloc (Nat.le_refl _) (.cells #[.int .i64 0, .int .i64 0, .string ⟨#[]⟩] 36))
  have hs0 := size_new w (.cells #[.int .i64 0, .int .i64 0, .string ⟨#[]⟩] 36)
  have KI0 := is_any k i s 5 (by decide) (by decide) hb T F _ (hH.below B0.out) hi
  generalize isB T ⟨k, i, s⟩ 5 = r at KI0 hn
  have HN := Lib.hid hn
  have KI := Lib.hid KI0
  have HH := Lib.hid hH
  unfold maxLen at hc2
  clear hH hP mv ok KI0 hn
  go_enter Tryd.func55, Tryd.ntmps55
  go_wp2_with fail
  generalize w.alloc (.cells #[.int .i64 0, .int .i64 0, .string ⟨#[]⟩] 36) = w0 at *
  refine (asked_null_q _).mono ?_
  rintro e w1 ⟨rfl, rfl⟩
  go_wp2_with fail
  refine KI.out.mono ?_
  rintro e w2 ⟨rfl, hb2⟩
  have B2 := Lib.hid (B0.out.trans (hb2.mono B0.out.size))
  have Z2 := Lib.hid ((hb2.block w.heap.size (by omega)).trans Z.out)
  have hs2 : w.heap.size + 1 ≤ w2.heap.size := by have := hb2.size; omega
  have KT := Lib.hid (truth_any r w2)
  clear hb2 c0 c1 c2 KI
  go_wp2_with fail
  refine KT.out.mono ?_
  rintro e w3 ⟨he, hb3⟩
  rw [← HN.out] at he
  subst he
  have B3 := Lib.hid (B2.out.trans (hb3.mono B2.out.size))
  have Z3 := Lib.hid ((hb3.block w.heap.size (by omega)).trans Z2.out)
  obtain ⟨⟨y0, y1, y2⟩, f0, f1, f2⟩ := look3 Z3.out
  clear hb3
  go_wp2
  have hE := put3 Z3.out (.int .i64 0) (.int .i64 n) (.string ⟨#[]⟩)
  have hB := put3_below B3.out (Nat.le_refl _) (.int .i64 0) (.int .i64 n) (.string ⟨#[]⟩)
  generalize ((w3.setCell ⟨w.heap.size, 0, none⟩ (.int .i64 0)).setCell ⟨w.heap.size, 1, none⟩ (.int .i64 n)).setCell ⟨w.heap.size, 2, none⟩ (.string ⟨#[]⟩) = W at hE hB ⊢
  exact bodyPost_ret (res_v rfl _ _ w.heap.size _ _ _ rfl hE) rfl ⟨rfl, F, HH.out.below hB, Stp.of_below hB⟩
set_option maxHeartbeats 1000000 in
theorem done_null_q (k i : Int) (s : ByteArray) (hb : Nat) (T : List (Int × List PV)) (F : Nat → Prop) (w0 : World) (hR : RecOk w0) (hi : InT T ⟨k, i, s⟩) :
    DoneOk ⟨#[110, 117, 108, 108, 63]⟩ hb T F [⟨k, i, s⟩] (⟨0, if isB T ⟨k, i, s⟩ 5 then 1 else 0, ⟨#[]⟩⟩, 0, T) w0 := by
  intro w S v hw hH hF hP
  have Z := Lib.hid (heap_alloc_new w (.cells #[.int .i64 0, .int .i64 0, .string ⟨#[]⟩] 36))
  have B0 := Lib.hid ((Below.refl w.heap.size w).alloc (Nat.le_refl _) (.cells #[.int .i64 0, .int .i64 0, .string ⟨#[]⟩] 36))
  have KS0 := sure_null_q k i s v S hb T F _ (hH.below B0.out) (hP.belowP B0.out) hi _ rfl
  generalize (if isB T ⟨k, i, s⟩ 5 = true then (1 : Int) else 0) = n at KS0 ⊢
  have KS := Lib.hid KS0
  have HF := Lib.hid hF
  have KO := Lib.hid (op_none ⟨#[110, 117, 108, 108, 63]⟩ _ ((hR.at hw).at B0.out) (by kernel_rfl) (by kernel_rfl) (by kernel_rfl) (by kernel_rfl) (by kernel_rfl))
  clear hw hH hF hP hR KS0
  go_enter Tryd.func29, Tryd.ntmps29
  go_wp2_with fail
  refine KO.out.mono ?_
  rintro e w1 ⟨rfl, rfl⟩
  go_wp2_with fail
  refine KS.out.mono ?_
  rintro e w2 ⟨rfl, F', q1, q2⟩
  obtain ⟨e3, Q, E⟩ := after_call (u := ⟨0, n, ⟨#[]⟩⟩) (err := 0) (r := (⟨0, n, ⟨#[]⟩⟩, 0, T)) B0.out (Nat.le_refl _) HF.out Z.out ⟨F', q1, q2⟩ rfl
  obtain ⟨⟨y0, y1, y2⟩, f0, f1, f2⟩ := look3 e3
  have HQ := Lib.hid Q
  have HE := Lib.hid E
  clear e3 Q E q1 q2
  go_wp2
  have Q := HQ.out
  have E := HE.out
  clear HQ HE
  generalize ((w2.setCell ⟨w.heap.size, 0, none⟩ (.int .i64 0)).setCell ⟨w.heap.size, 1, none⟩ (.int .i64 n)).setCell ⟨w.heap.size, 2, none⟩ (.string ⟨#[]⟩) = W at E Q ⊢
  exact bodyPost_ret (res_ve (t := 7) (p := 6) rfl _ _ w.heap.size _ _ _ rfl E) rfl Q
set_option maxHeartbeats 1000000 in
theorem sure_symbol_q (k i : Int) (s : ByteArray) (v : Value) (S : Nat → Prop) (hb : Nat) (T : List (Int × List PV)) (F : Nat → Prop) (w : World) (hH : HeapM w hb T F) (hP : InP w S [⟨k, i, s⟩] v) (hi : InT T ⟨k, i, s⟩) (n : Int) (hn : n = if isB T ⟨k, i, s⟩ 4 then 1 else 0) :
    Calls Tryd.prog 55 #[.pointer (some ⟨hb, 0, none⟩), .string ⟨#[115, 121, 109, 98, 111, 108, 63]⟩, v] w fun e w' => SureOk w hb F ⟨0, n, ⟨#[]⟩⟩ T e w' := by
  obtain ⟨b, o, c, rfl, hc1, hc2, hbl, ⟨c0, c1, c2⟩, ok⟩ := one_arg hP
  have mv := new_cells w (.cells #[.int .i64 0, .int .i64 0, .string ⟨#[]⟩] 36) b hbl
  replace c0 := (mv _).trans c0
  replace c1 := (mv _).trans c1
  replace c2 := (mv _).trans c2
  have Z := Lib.hid (heap_alloc_new w (.cells #[.int .i64 0, .int .i64 0, .string ⟨#[]⟩] 36))
  have B0 := Lib.hid ((Below.refl w.heap.size w).alloc (Nat.le_refl _) (.cells #[.int .i64 0, .int .i64 0, .string ⟨#[]⟩] 36))
  have hs0 := size_new w (.cells #[.int .i64 0, .int .i64 0, .string ⟨#[]⟩] 36)
  have KI0 := is_any k i s 4 (by decide) (by decide) hb T F _ (hH.below B0.out) hi
  generalize isB T ⟨k, i, s⟩ 4 = r at KI0 hn
  have HN := Lib.hid hn
  have KI := Lib.hid KI0
  have HH := Lib.hid hH
  unfold maxLen at hc2
  clear hH hP mv ok KI0 hn
  go_enter Tryd.func55, Tryd.ntmps55
  go_wp2_with fail
  generalize w.alloc (.cells #[.int .i64 0, .int .i64 0, .string ⟨#[]⟩] 36) = w0 at *
  refine (asked_symbol_q _).mono ?_
  rintro e w1 ⟨rfl, rfl⟩
  go_wp2_with fail
  refine KI.out.mono ?_
  rintro e w2 ⟨rfl, hb2⟩
  have B2 := Lib.hid (B0.out.trans (hb2.mono B0.out.size))
  have Z2 := Lib.hid ((hb2.block w.heap.size (by omega)).trans Z.out)
  have hs2 : w.heap.size + 1 ≤ w2.heap.size := by have := hb2.size; omega
  have KT := Lib.hid (truth_any r w2)
  clear hb2 c0 c1 c2 KI
  go_wp2_with fail
  refine KT.out.mono ?_
  rintro e w3 ⟨he, hb3⟩
  rw [← HN.out] at he
  subst he
  have B3 := Lib.hid (B2.out.trans (hb3.mono B2.out.size))
  have Z3 := Lib.hid ((hb3.block w.heap.size (by omega)).trans Z2.out)
  obtain ⟨⟨y0, y1, y2⟩, f0, f1, f2⟩ := look3 Z3.out
  clear hb3
  go_wp2
  have hE := put3 Z3.out (.int .i64 0) (.int .i64 n) (.string ⟨#[]⟩)
  have hB := put3_below B3.out (Nat.le_refl _) (.int .i64 0) (.int .i64 n) (.string ⟨#[]⟩)
  generalize ((w3.setCell ⟨w.heap.size, 0, none⟩ (.int .i64 0)).setCell ⟨w.heap.size, 1, none⟩ (.int .i64 n)).setCell ⟨w.heap.size, 2, none⟩ (.string ⟨#[]⟩) = W at hE hB ⊢
  exact bodyPost_ret (res_v rfl _ _ w.heap.size _ _ _ rfl hE) rfl ⟨rfl, F, HH.out.below hB, Stp.of_below hB⟩
set_option maxHeartbeats 1000000 in
theorem done_symbol_q (k i : Int) (s : ByteArray) (hb : Nat) (T : List (Int × List PV)) (F : Nat → Prop) (w0 : World) (hR : RecOk w0) (hi : InT T ⟨k, i, s⟩) :
    DoneOk ⟨#[115, 121, 109, 98, 111, 108, 63]⟩ hb T F [⟨k, i, s⟩] (⟨0, if isB T ⟨k, i, s⟩ 4 then 1 else 0, ⟨#[]⟩⟩, 0, T) w0 := by
  intro w S v hw hH hF hP
  have Z := Lib.hid (heap_alloc_new w (.cells #[.int .i64 0, .int .i64 0, .string ⟨#[]⟩] 36))
  have B0 := Lib.hid ((Below.refl w.heap.size w).alloc (Nat.le_refl _) (.cells #[.int .i64 0, .int .i64 0, .string ⟨#[]⟩] 36))
  have KS0 := sure_symbol_q k i s v S hb T F _ (hH.below B0.out) (hP.belowP B0.out) hi _ rfl
  generalize (if isB T ⟨k, i, s⟩ 4 = true then (1 : Int) else 0) = n at KS0 ⊢
  have KS := Lib.hid KS0
  have HF := Lib.hid hF
  have KO := Lib.hid (op_none ⟨#[115, 121, 109, 98, 111, 108, 63]⟩ _ ((hR.at hw).at B0.out) (by kernel_rfl) (by kernel_rfl) (by kernel_rfl) (by kernel_rfl) (by kernel_rfl))
  clear hw hH hF hP hR KS0
  go_enter Tryd.func29, Tryd.ntmps29
  go_wp2_with fail
  refine KO.out.mono ?_
  rintro e w1 ⟨rfl, rfl⟩
  go_wp2_with fail
  refine KS.out.mono ?_
  rintro e w2 ⟨rfl, F', q1, q2⟩
  obtain ⟨e3, Q, E⟩ := after_call (u := ⟨0, n, ⟨#[]⟩⟩) (err := 0) (r := (⟨0, n, ⟨#[]⟩⟩, 0, T)) B0.out (Nat.le_refl _) HF.out Z.out ⟨F', q1, q2⟩ rfl
  obtain ⟨⟨y0, y1, y2⟩, f0, f1, f2⟩ := look3 e3
  have HQ := Lib.hid Q
  have HE := Lib.hid E
  clear e3 Q E q1 q2
  go_wp2
  have Q := HQ.out
  have E := HE.out
  clear HQ HE
  generalize ((w2.setCell ⟨w.heap.size, 0, none⟩ (.int .i64 0)).setCell ⟨w.heap.size, 1, none⟩ (.int .i64 n)).setCell ⟨w.heap.size, 2, none⟩ (.string ⟨#[]⟩) = W at E Q ⊢
  exact bodyPost_ret (res_ve (t := 7) (p := 6) rfl _ _ w.heap.size _ _ _ rfl E) rfl Q
set_option maxHeartbeats 1000000 in
theorem sure_char_q (k i : Int) (s : ByteArray) (v : Value) (S : Nat → Prop) (hb : Nat) (T : List (Int × List PV)) (F : Nat → Prop) (w : World) (hH : HeapM w hb T F) (hP : InP w S [⟨k, i, s⟩] v) (hi : InT T ⟨k, i, s⟩) (n : Int) (hn : n = if isB T ⟨k, i, s⟩ 3 then 1 else 0) :
    Calls Tryd.prog 55 #[.pointer (some ⟨hb, 0, none⟩), .string ⟨#[99, 104, 97, 114, 63]⟩, v] w fun e w' => SureOk w hb F ⟨0, n, ⟨#[]⟩⟩ T e w' := by
  obtain ⟨b, o, c, rfl, hc1, hc2, hbl, ⟨c0, c1, c2⟩, ok⟩ := one_arg hP
  have mv := new_cells w (.cells #[.int .i64 0, .int .i64 0, .string ⟨#[]⟩] 36) b hbl
  replace c0 := (mv _).trans c0
  replace c1 := (mv _).trans c1
  replace c2 := (mv _).trans c2
  have Z := Lib.hid (heap_alloc_new w (.cells #[.int .i64 0, .int .i64 0, .string ⟨#[]⟩] 36))
  have B0 := Lib.hid ((Below.refl w.heap.size w).alloc (Nat.le_refl _) (.cells #[.int .i64 0, .int .i64 0, .string ⟨#[]⟩] 36))
  have hs0 := size_new w (.cells #[.int .i64 0, .int .i64 0, .string ⟨#[]⟩] 36)
  have KI0 := is_any k i s 3 (by decide) (by decide) hb T F _ (hH.below B0.out) hi
  generalize isB T ⟨k, i, s⟩ 3 = r at KI0 hn
  have HN := Lib.hid hn
  have KI := Lib.hid KI0
  have HH := Lib.hid hH
  unfold maxLen at hc2
  clear hH hP mv ok KI0 hn
  go_enter Tryd.func55, Tryd.ntmps55
  go_wp2_with fail
  generalize w.alloc (.cells #[.int .i64 0, .int .i64 0, .string ⟨#[]⟩] 36) = w0 at *
  refine (asked_char_q _).mono ?_
  rintro e w1 ⟨rfl, rfl⟩
  go_wp2_with fail
  refine KI.out.mono ?_
  rintro e w2 ⟨rfl, hb2⟩
  have B2 := Lib.hid (B0.out.trans (hb2.mono B0.out.size))
  have Z2 := Lib.hid ((hb2.block w.heap.size (by omega)).trans Z.out)
  have hs2 : w.heap.size + 1 ≤ w2.heap.size := by have := hb2.size; omega
  have KT := Lib.hid (truth_any r w2)
  clear hb2 c0 c1 c2 KI
  go_wp2_with fail
  refine KT.out.mono ?_
  rintro e w3 ⟨he, hb3⟩
  rw [← HN.out] at he
  subst he
  have B3 := Lib.hid (B2.out.trans (hb3.mono B2.out.size))
  have Z3 := Lib.hid ((hb3.block w.heap.size (by omega)).trans Z2.out)
  obtain ⟨⟨y0, y1, y2⟩, f0, f1, f2⟩ := look3 Z3.out
  clear hb3
  go_wp2
  have hE := put3 Z3.out (.int .i64 0) (.int .i64 n) (.string ⟨#[]⟩)
  have hB := put3_below B3.out (Nat.le_refl _) (.int .i64 0) (.int .i64 n) (.string ⟨#[]⟩)
  generalize ((w3.setCell ⟨w.heap.size, 0, none⟩ (.int .i64 0)).setCell ⟨w.heap.size, 1, none⟩ (.int .i64 n)).setCell ⟨w.heap.size, 2, none⟩ (.string ⟨#[]⟩) = W at hE hB ⊢
  exact bodyPost_ret (res_v rfl _ _ w.heap.size _ _ _ rfl hE) rfl ⟨rfl, F, HH.out.below hB, Stp.of_below hB⟩
set_option maxHeartbeats 1000000 in
theorem done_char_q (k i : Int) (s : ByteArray) (hb : Nat) (T : List (Int × List PV)) (F : Nat → Prop) (w0 : World) (hR : RecOk w0) (hi : InT T ⟨k, i, s⟩) :
    DoneOk ⟨#[99, 104, 97, 114, 63]⟩ hb T F [⟨k, i, s⟩] (⟨0, if isB T ⟨k, i, s⟩ 3 then 1 else 0, ⟨#[]⟩⟩, 0, T) w0 := by
  intro w S v hw hH hF hP
  have Z := Lib.hid (heap_alloc_new w (.cells #[.int .i64 0, .int .i64 0, .string ⟨#[]⟩] 36))
  have B0 := Lib.hid ((Below.refl w.heap.size w).alloc (Nat.le_refl _) (.cells #[.int .i64 0, .int .i64 0, .string ⟨#[]⟩] 36))
  have KS0 := sure_char_q k i s v S hb T F _ (hH.below B0.out) (hP.belowP B0.out) hi _ rfl
  generalize (if isB T ⟨k, i, s⟩ 3 = true then (1 : Int) else 0) = n at KS0 ⊢
  have KS := Lib.hid KS0
  have HF := Lib.hid hF
  have KO := Lib.hid (op_none ⟨#[99, 104, 97, 114, 63]⟩ _ ((hR.at hw).at B0.out) (by kernel_rfl) (by kernel_rfl) (by kernel_rfl) (by kernel_rfl) (by kernel_rfl))
  clear hw hH hF hP hR KS0
  go_enter Tryd.func29, Tryd.ntmps29
  go_wp2_with fail
  refine KO.out.mono ?_
  rintro e w1 ⟨rfl, rfl⟩
  go_wp2_with fail
  refine KS.out.mono ?_
  rintro e w2 ⟨rfl, F', q1, q2⟩
  obtain ⟨e3, Q, E⟩ := after_call (u := ⟨0, n, ⟨#[]⟩⟩) (err := 0) (r := (⟨0, n, ⟨#[]⟩⟩, 0, T)) B0.out (Nat.le_refl _) HF.out Z.out ⟨F', q1, q2⟩ rfl
  obtain ⟨⟨y0, y1, y2⟩, f0, f1, f2⟩ := look3 e3
  have HQ := Lib.hid Q
  have HE := Lib.hid E
  clear e3 Q E q1 q2
  go_wp2
  have Q := HQ.out
  have E := HE.out
  clear HQ HE
  generalize ((w2.setCell ⟨w.heap.size, 0, none⟩ (.int .i64 0)).setCell ⟨w.heap.size, 1, none⟩ (.int .i64 n)).setCell ⟨w.heap.size, 2, none⟩ (.string ⟨#[]⟩) = W at E Q ⊢
  exact bodyPost_ret (res_ve (t := 7) (p := 6) rfl _ _ w.heap.size _ _ _ rfl E) rfl Q
set_option maxHeartbeats 1000000 in
theorem sure_integer_q (k i : Int) (s : ByteArray) (v : Value) (S : Nat → Prop) (hb : Nat) (T : List (Int × List PV)) (F : Nat → Prop) (w : World) (hH : HeapM w hb T F) (hP : InP w S [⟨k, i, s⟩] v) (hi : InT T ⟨k, i, s⟩) (n : Int) (hn : n = if isB T ⟨k, i, s⟩ 2 then 1 else 0) :
    Calls Tryd.prog 55 #[.pointer (some ⟨hb, 0, none⟩), .string ⟨#[105, 110, 116, 101, 103, 101, 114, 63]⟩, v] w fun e w' => SureOk w hb F ⟨0, n, ⟨#[]⟩⟩ T e w' := by
  obtain ⟨b, o, c, rfl, hc1, hc2, hbl, ⟨c0, c1, c2⟩, ok⟩ := one_arg hP
  have mv := new_cells w (.cells #[.int .i64 0, .int .i64 0, .string ⟨#[]⟩] 36) b hbl
  replace c0 := (mv _).trans c0
  replace c1 := (mv _).trans c1
  replace c2 := (mv _).trans c2
  have Z := Lib.hid (heap_alloc_new w (.cells #[.int .i64 0, .int .i64 0, .string ⟨#[]⟩] 36))
  have B0 := Lib.hid ((Below.refl w.heap.size w).alloc (Nat.le_refl _) (.cells #[.int .i64 0, .int .i64 0, .string ⟨#[]⟩] 36))
  have hs0 := size_new w (.cells #[.int .i64 0, .int .i64 0, .string ⟨#[]⟩] 36)
  have KI0 := is_any k i s 2 (by decide) (by decide) hb T F _ (hH.below B0.out) hi
  generalize isB T ⟨k, i, s⟩ 2 = r at KI0 hn
  have HN := Lib.hid hn
  have KI := Lib.hid KI0
  have HH := Lib.hid hH
  unfold maxLen at hc2
  clear hH hP mv ok KI0 hn
  go_enter Tryd.func55, Tryd.ntmps55
  go_wp2_with fail
  generalize w.alloc (.cells #[.int .i64 0, .int .i64 0, .string ⟨#[]⟩] 36) = w0 at *
  refine (asked_integer_q _).mono ?_
  rintro e w1 ⟨rfl, rfl⟩
  go_wp2_with fail
  refine KI.out.mono ?_
  rintro e w2 ⟨rfl, hb2⟩
  have B2 := Lib.hid (B0.out.trans (hb2.mono B0.out.size))
  have Z2 := Lib.hid ((hb2.block w.heap.size (by omega)).trans Z.out)
  have hs2 : w.heap.size + 1 ≤ w2.heap.size := by have := hb2.size; omega
  have KT := Lib.hid (truth_any r w2)
  clear hb2 c0 c1 c2 KI
  go_wp2_with fail
  refine KT.out.mono ?_
  rintro e w3 ⟨he, hb3⟩
  rw [← HN.out] at he
  subst he
  have B3 := Lib.hid (B2.out.trans (hb3.mono B2.out.size))
  have Z3 := Lib.hid ((hb3.block w.heap.size (by omega)).trans Z2.out)
  obtain ⟨⟨y0, y1, y2⟩, f0, f1, f2⟩ := look3 Z3.out
  clear hb3
  go_wp2
  have hE := put3 Z3.out (.int .i64 0) (.int .i64 n) (.string ⟨#[]⟩)
  have hB := put3_below B3.out (Nat.le_refl _) (.int .i64 0) (.int .i64 n) (.string ⟨#[]⟩)
  generalize ((w3.setCell ⟨w.heap.size, 0, none⟩ (.int .i64 0)).setCell ⟨w.heap.size, 1, none⟩ (.int .i64 n)).setCell ⟨w.heap.size, 2, none⟩ (.string ⟨#[]⟩) = W at hE hB ⊢
  exact bodyPost_ret (res_v rfl _ _ w.heap.size _ _ _ rfl hE) rfl ⟨rfl, F, HH.out.below hB, Stp.of_below hB⟩
set_option maxHeartbeats 1000000 in
theorem done_integer_q (k i : Int) (s : ByteArray) (hb : Nat) (T : List (Int × List PV)) (F : Nat → Prop) (w0 : World) (hR : RecOk w0) (hi : InT T ⟨k, i, s⟩) :
    DoneOk ⟨#[105, 110, 116, 101, 103, 101, 114, 63]⟩ hb T F [⟨k, i, s⟩] (⟨0, if isB T ⟨k, i, s⟩ 2 then 1 else 0, ⟨#[]⟩⟩, 0, T) w0 := by
  intro w S v hw hH hF hP
  have Z := Lib.hid (heap_alloc_new w (.cells #[.int .i64 0, .int .i64 0, .string ⟨#[]⟩] 36))
  have B0 := Lib.hid ((Below.refl w.heap.size w).alloc (Nat.le_refl _) (.cells #[.int .i64 0, .int .i64 0, .string ⟨#[]⟩] 36))
  have KS0 := sure_integer_q k i s v S hb T F _ (hH.below B0.out) (hP.belowP B0.out) hi _ rfl
  generalize (if isB T ⟨k, i, s⟩ 2 = true then (1 : Int) else 0) = n at KS0 ⊢
  have KS := Lib.hid KS0
  have HF := Lib.hid hF
  have KO := Lib.hid (op_none ⟨#[105, 110, 116, 101, 103, 101, 114, 63]⟩ _ ((hR.at hw).at B0.out) (by kernel_rfl) (by kernel_rfl) (by kernel_rfl) (by kernel_rfl) (by kernel_rfl))
  clear hw hH hF hP hR KS0
  go_enter Tryd.func29, Tryd.ntmps29
  go_wp2_with fail
  refine KO.out.mono ?_
  rintro e w1 ⟨rfl, rfl⟩
  go_wp2_with fail
  refine KS.out.mono ?_
  rintro e w2 ⟨rfl, F', q1, q2⟩
  obtain ⟨e3, Q, E⟩ := after_call (u := ⟨0, n, ⟨#[]⟩⟩) (err := 0) (r := (⟨0, n, ⟨#[]⟩⟩, 0, T)) B0.out (Nat.le_refl _) HF.out Z.out ⟨F', q1, q2⟩ rfl
  obtain ⟨⟨y0, y1, y2⟩, f0, f1, f2⟩ := look3 e3
  have HQ := Lib.hid Q
  have HE := Lib.hid E
  clear e3 Q E q1 q2
  go_wp2
  have Q := HQ.out
  have E := HE.out
  clear HQ HE
  generalize ((w2.setCell ⟨w.heap.size, 0, none⟩ (.int .i64 0)).setCell ⟨w.heap.size, 1, none⟩ (.int .i64 n)).setCell ⟨w.heap.size, 2, none⟩ (.string ⟨#[]⟩) = W at E Q ⊢
  exact bodyPost_ret (res_ve (t := 7) (p := 6) rfl _ _ w.heap.size _ _ _ rfl E) rfl Q
set_option maxHeartbeats 1000000 in
theorem sure_boolean_q (k i : Int) (s : ByteArray) (v : Value) (S : Nat → Prop) (hb : Nat) (T : List (Int × List PV)) (F : Nat → Prop) (w : World) (hH : HeapM w hb T F) (hP : InP w S [⟨k, i, s⟩] v) (hi : InT T ⟨k, i, s⟩) (n : Int) (hn : n = if isB T ⟨k, i, s⟩ 1 then 1 else 0) :
    Calls Tryd.prog 55 #[.pointer (some ⟨hb, 0, none⟩), .string ⟨#[98, 111, 111, 108, 101, 97, 110, 63]⟩, v] w fun e w' => SureOk w hb F ⟨0, n, ⟨#[]⟩⟩ T e w' := by
  obtain ⟨b, o, c, rfl, hc1, hc2, hbl, ⟨c0, c1, c2⟩, ok⟩ := one_arg hP
  have mv := new_cells w (.cells #[.int .i64 0, .int .i64 0, .string ⟨#[]⟩] 36) b hbl
  replace c0 := (mv _).trans c0
  replace c1 := (mv _).trans c1
  replace c2 := (mv _).trans c2
  have Z := Lib.hid (heap_alloc_new w (.cells #[.int .i64 0, .int .i64 0, .string ⟨#[]⟩] 36))
  have B0 := Lib.hid ((Below.refl w.heap.size w).alloc (Nat.le_refl _) (.cells #[.int .i64 0, .int .i64 0, .string ⟨#[]⟩] 36))
  have hs0 := size_new w (.cells #[.int .i64 0, .int .i64 0, .string ⟨#[]⟩] 36)
  have KI0 := is_any k i s 1 (by decide) (by decide) hb T F _ (hH.below B0.out) hi
  generalize isB T ⟨k, i, s⟩ 1 = r at KI0 hn
  have HN := Lib.hid hn
  have KI := Lib.hid KI0
  have HH := Lib.hid hH
  unfold maxLen at hc2
  clear hH hP mv ok KI0 hn
  go_enter Tryd.func55, Tryd.ntmps55
  go_wp2_with fail
  generalize w.alloc (.cells #[.int .i64 0, .int .i64 0, .string ⟨#[]⟩] 36) = w0 at *
  refine (asked_boolean_q _).mono ?_
  rintro e w1 ⟨rfl, rfl⟩
  go_wp2_with fail
  refine KI.out.mono ?_
  rintro e w2 ⟨rfl, hb2⟩
  have B2 := Lib.hid (B0.out.trans (hb2.mono B0.out.size))
  have Z2 := Lib.hid ((hb2.block w.heap.size (by omega)).trans Z.out)
  have hs2 : w.heap.size + 1 ≤ w2.heap.size := by have := hb2.size; omega
  have KT := Lib.hid (truth_any r w2)
  clear hb2 c0 c1 c2 KI
  go_wp2_with fail
  refine KT.out.mono ?_
  rintro e w3 ⟨he, hb3⟩
  rw [← HN.out] at he
  subst he
  have B3 := Lib.hid (B2.out.trans (hb3.mono B2.out.size))
  have Z3 := Lib.hid ((hb3.block w.heap.size (by omega)).trans Z2.out)
  obtain ⟨⟨y0, y1, y2⟩, f0, f1, f2⟩ := look3 Z3.out
  clear hb3
  go_wp2
  have hE := put3 Z3.out (.int .i64 0) (.int .i64 n) (.string ⟨#[]⟩)
  have hB := put3_below B3.out (Nat.le_refl _) (.int .i64 0) (.int .i64 n) (.string ⟨#[]⟩)
  generalize ((w3.setCell ⟨w.heap.size, 0, none⟩ (.int .i64 0)).setCell ⟨w.heap.size, 1, none⟩ (.int .i64 n)).setCell ⟨w.heap.size, 2, none⟩ (.string ⟨#[]⟩) = W at hE hB ⊢
  exact bodyPost_ret (res_v rfl _ _ w.heap.size _ _ _ rfl hE) rfl ⟨rfl, F, HH.out.below hB, Stp.of_below hB⟩
set_option maxHeartbeats 1000000 in
theorem done_boolean_q (k i : Int) (s : ByteArray) (hb : Nat) (T : List (Int × List PV)) (F : Nat → Prop) (w0 : World) (hR : RecOk w0) (hi : InT T ⟨k, i, s⟩) :
    DoneOk ⟨#[98, 111, 111, 108, 101, 97, 110, 63]⟩ hb T F [⟨k, i, s⟩] (⟨0, if isB T ⟨k, i, s⟩ 1 then 1 else 0, ⟨#[]⟩⟩, 0, T) w0 := by
  intro w S v hw hH hF hP
  have Z := Lib.hid (heap_alloc_new w (.cells #[.int .i64 0, .int .i64 0, .string ⟨#[]⟩] 36))
  have B0 := Lib.hid ((Below.refl w.heap.size w).alloc (Nat.le_refl _) (.cells #[.int .i64 0, .int .i64 0, .string ⟨#[]⟩] 36))
  have KS0 := sure_boolean_q k i s v S hb T F _ (hH.below B0.out) (hP.belowP B0.out) hi _ rfl
  generalize (if isB T ⟨k, i, s⟩ 1 = true then (1 : Int) else 0) = n at KS0 ⊢
  have KS := Lib.hid KS0
  have HF := Lib.hid hF
  have KO := Lib.hid (op_none ⟨#[98, 111, 111, 108, 101, 97, 110, 63]⟩ _ ((hR.at hw).at B0.out) (by kernel_rfl) (by kernel_rfl) (by kernel_rfl) (by kernel_rfl) (by kernel_rfl))
  clear hw hH hF hP hR KS0
  go_enter Tryd.func29, Tryd.ntmps29
  go_wp2_with fail
  refine KO.out.mono ?_
  rintro e w1 ⟨rfl, rfl⟩
  go_wp2_with fail
  refine KS.out.mono ?_
  rintro e w2 ⟨rfl, F', q1, q2⟩
  obtain ⟨e3, Q, E⟩ := after_call (u := ⟨0, n, ⟨#[]⟩⟩) (err := 0) (r := (⟨0, n, ⟨#[]⟩⟩, 0, T)) B0.out (Nat.le_refl _) HF.out Z.out ⟨F', q1, q2⟩ rfl
  obtain ⟨⟨y0, y1, y2⟩, f0, f1, f2⟩ := look3 e3
  have HQ := Lib.hid Q
  have HE := Lib.hid E
  clear e3 Q E q1 q2
  go_wp2
  have Q := HQ.out
  have E := HE.out
  clear HQ HE
  generalize ((w2.setCell ⟨w.heap.size, 0, none⟩ (.int .i64 0)).setCell ⟨w.heap.size, 1, none⟩ (.int .i64 n)).setCell ⟨w.heap.size, 2, none⟩ (.string ⟨#[]⟩) = W at E Q ⊢
  exact bodyPost_ret (res_ve (t := 7) (p := 6) rfl _ _ w.heap.size _ _ _ rfl E) rfl Q
set_option maxHeartbeats 1000000 in
theorem sure_eof_object_q (k i : Int) (s : ByteArray) (v : Value) (S : Nat → Prop) (hb : Nat) (T : List (Int × List PV)) (F : Nat → Prop) (w : World) (hH : HeapM w hb T F) (hP : InP w S [⟨k, i, s⟩] v) (hi : InT T ⟨k, i, s⟩) (n : Int) (hn : n = if isB T ⟨k, i, s⟩ 6 then 1 else 0) :
    Calls Tryd.prog 55 #[.pointer (some ⟨hb, 0, none⟩), .string ⟨#[101, 111, 102, 45, 111, 98, 106, 101, 99, 116, 63]⟩, v] w fun e w' => SureOk w hb F ⟨0, n, ⟨#[]⟩⟩ T e w' := by
  obtain ⟨b, o, c, rfl, hc1, hc2, hbl, ⟨c0, c1, c2⟩, ok⟩ := one_arg hP
  have mv := new_cells w (.cells #[.int .i64 0, .int .i64 0, .string ⟨#[]⟩] 36) b hbl
  replace c0 := (mv _).trans c0
  replace c1 := (mv _).trans c1
  replace c2 := (mv _).trans c2
  have Z := Lib.hid (heap_alloc_new w (.cells #[.int .i64 0, .int .i64 0, .string ⟨#[]⟩] 36))
  have B0 := Lib.hid ((Below.refl w.heap.size w).alloc (Nat.le_refl _) (.cells #[.int .i64 0, .int .i64 0, .string ⟨#[]⟩] 36))
  have hs0 := size_new w (.cells #[.int .i64 0, .int .i64 0, .string ⟨#[]⟩] 36)
  have KI0 := is_any k i s 6 (by decide) (by decide) hb T F _ (hH.below B0.out) hi
  generalize isB T ⟨k, i, s⟩ 6 = r at KI0 hn
  have HN := Lib.hid hn
  have KI := Lib.hid KI0
  have HH := Lib.hid hH
  unfold maxLen at hc2
  clear hH hP mv ok KI0 hn
  go_enter Tryd.func55, Tryd.ntmps55
  go_wp2_with fail
  generalize w.alloc (.cells #[.int .i64 0, .int .i64 0, .string ⟨#[]⟩] 36) = w0 at *
  refine (asked_eof_object_q _).mono ?_
  rintro e w1 ⟨rfl, rfl⟩
  go_wp2_with fail
  refine KI.out.mono ?_
  rintro e w2 ⟨rfl, hb2⟩
  have B2 := Lib.hid (B0.out.trans (hb2.mono B0.out.size))
  have Z2 := Lib.hid ((hb2.block w.heap.size (by omega)).trans Z.out)
  have hs2 : w.heap.size + 1 ≤ w2.heap.size := by have := hb2.size; omega
  have KT := Lib.hid (truth_any r w2)
  clear hb2 c0 c1 c2 KI
  go_wp2_with fail
  refine KT.out.mono ?_
  rintro e w3 ⟨he, hb3⟩
  rw [← HN.out] at he
  subst he
  have B3 := Lib.hid (B2.out.trans (hb3.mono B2.out.size))
  have Z3 := Lib.hid ((hb3.block w.heap.size (by omega)).trans Z2.out)
  obtain ⟨⟨y0, y1, y2⟩, f0, f1, f2⟩ := look3 Z3.out
  clear hb3
  go_wp2
  have hE := put3 Z3.out (.int .i64 0) (.int .i64 n) (.string ⟨#[]⟩)
  have hB := put3_below B3.out (Nat.le_refl _) (.int .i64 0) (.int .i64 n) (.string ⟨#[]⟩)
  generalize ((w3.setCell ⟨w.heap.size, 0, none⟩ (.int .i64 0)).setCell ⟨w.heap.size, 1, none⟩ (.int .i64 n)).setCell ⟨w.heap.size, 2, none⟩ (.string ⟨#[]⟩) = W at hE hB ⊢
  exact bodyPost_ret (res_v rfl _ _ w.heap.size _ _ _ rfl hE) rfl ⟨rfl, F, HH.out.below hB, Stp.of_below hB⟩
set_option maxHeartbeats 1000000 in
theorem done_eof_object_q (k i : Int) (s : ByteArray) (hb : Nat) (T : List (Int × List PV)) (F : Nat → Prop) (w0 : World) (hR : RecOk w0) (hi : InT T ⟨k, i, s⟩) :
    DoneOk ⟨#[101, 111, 102, 45, 111, 98, 106, 101, 99, 116, 63]⟩ hb T F [⟨k, i, s⟩] (⟨0, if isB T ⟨k, i, s⟩ 6 then 1 else 0, ⟨#[]⟩⟩, 0, T) w0 := by
  intro w S v hw hH hF hP
  have Z := Lib.hid (heap_alloc_new w (.cells #[.int .i64 0, .int .i64 0, .string ⟨#[]⟩] 36))
  have B0 := Lib.hid ((Below.refl w.heap.size w).alloc (Nat.le_refl _) (.cells #[.int .i64 0, .int .i64 0, .string ⟨#[]⟩] 36))
  have KS0 := sure_eof_object_q k i s v S hb T F _ (hH.below B0.out) (hP.belowP B0.out) hi _ rfl
  generalize (if isB T ⟨k, i, s⟩ 6 = true then (1 : Int) else 0) = n at KS0 ⊢
  have KS := Lib.hid KS0
  have HF := Lib.hid hF
  have KO := Lib.hid (op_none ⟨#[101, 111, 102, 45, 111, 98, 106, 101, 99, 116, 63]⟩ _ ((hR.at hw).at B0.out) (by kernel_rfl) (by kernel_rfl) (by kernel_rfl) (by kernel_rfl) (by kernel_rfl))
  clear hw hH hF hP hR KS0
  go_enter Tryd.func29, Tryd.ntmps29
  go_wp2_with fail
  refine KO.out.mono ?_
  rintro e w1 ⟨rfl, rfl⟩
  go_wp2_with fail
  refine KS.out.mono ?_
  rintro e w2 ⟨rfl, F', q1, q2⟩
  obtain ⟨e3, Q, E⟩ := after_call (u := ⟨0, n, ⟨#[]⟩⟩) (err := 0) (r := (⟨0, n, ⟨#[]⟩⟩, 0, T)) B0.out (Nat.le_refl _) HF.out Z.out ⟨F', q1, q2⟩ rfl
  obtain ⟨⟨y0, y1, y2⟩, f0, f1, f2⟩ := look3 e3
  have HQ := Lib.hid Q
  have HE := Lib.hid E
  clear e3 Q E q1 q2
  go_wp2
  have Q := HQ.out
  have E := HE.out
  clear HQ HE
  generalize ((w2.setCell ⟨w.heap.size, 0, none⟩ (.int .i64 0)).setCell ⟨w.heap.size, 1, none⟩ (.int .i64 n)).setCell ⟨w.heap.size, 2, none⟩ (.string ⟨#[]⟩) = W at E Q ⊢
  exact bodyPost_ret (res_ve (t := 7) (p := 6) rfl _ _ w.heap.size _ _ _ rfl E) rfl Q
set_option maxHeartbeats 1000000 in
theorem sure_pair_q (k i : Int) (s : ByteArray) (v : Value) (S : Nat → Prop) (hb : Nat) (T : List (Int × List PV)) (F : Nat → Prop) (w : World) (hH : HeapM w hb T F) (hP : InP w S [⟨k, i, s⟩] v) (hi : InT T ⟨k, i, s⟩) (n : Int) (hn : n = if isB T ⟨k, i, s⟩ 7 then 1 else 0) :
    Calls Tryd.prog 55 #[.pointer (some ⟨hb, 0, none⟩), .string ⟨#[112, 97, 105, 114, 63]⟩, v] w fun e w' => SureOk w hb F ⟨0, n, ⟨#[]⟩⟩ T e w' := by
  obtain ⟨b, o, c, rfl, hc1, hc2, hbl, ⟨c0, c1, c2⟩, ok⟩ := one_arg hP
  have mv := new_cells w (.cells #[.int .i64 0, .int .i64 0, .string ⟨#[]⟩] 36) b hbl
  replace c0 := (mv _).trans c0
  replace c1 := (mv _).trans c1
  replace c2 := (mv _).trans c2
  have Z := Lib.hid (heap_alloc_new w (.cells #[.int .i64 0, .int .i64 0, .string ⟨#[]⟩] 36))
  have B0 := Lib.hid ((Below.refl w.heap.size w).alloc (Nat.le_refl _) (.cells #[.int .i64 0, .int .i64 0, .string ⟨#[]⟩] 36))
  have hs0 := size_new w (.cells #[.int .i64 0, .int .i64 0, .string ⟨#[]⟩] 36)
  have KI0 := is_any k i s 7 (by decide) (by decide) hb T F _ (hH.below B0.out) hi
  generalize isB T ⟨k, i, s⟩ 7 = r at KI0 hn
  have HN := Lib.hid hn
  have KI := Lib.hid KI0
  have HH := Lib.hid hH
  unfold maxLen at hc2
  clear hH hP mv ok KI0 hn
  go_enter Tryd.func55, Tryd.ntmps55
  go_wp2_with fail
  generalize w.alloc (.cells #[.int .i64 0, .int .i64 0, .string ⟨#[]⟩] 36) = w0 at *
  refine (asked_pair_q _).mono ?_
  rintro e w1 ⟨rfl, rfl⟩
  go_wp2_with fail
  refine KI.out.mono ?_
  rintro e w2 ⟨rfl, hb2⟩
  have B2 := Lib.hid (B0.out.trans (hb2.mono B0.out.size))
  have Z2 := Lib.hid ((hb2.block w.heap.size (by omega)).trans Z.out)
  have hs2 : w.heap.size + 1 ≤ w2.heap.size := by have := hb2.size; omega
  have KT := Lib.hid (truth_any r w2)
  clear hb2 c0 c1 c2 KI
  go_wp2_with fail
  refine KT.out.mono ?_
  rintro e w3 ⟨he, hb3⟩
  rw [← HN.out] at he
  subst he
  have B3 := Lib.hid (B2.out.trans (hb3.mono B2.out.size))
  have Z3 := Lib.hid ((hb3.block w.heap.size (by omega)).trans Z2.out)
  obtain ⟨⟨y0, y1, y2⟩, f0, f1, f2⟩ := look3 Z3.out
  clear hb3
  go_wp2
  have hE := put3 Z3.out (.int .i64 0) (.int .i64 n) (.string ⟨#[]⟩)
  have hB := put3_below B3.out (Nat.le_refl _) (.int .i64 0) (.int .i64 n) (.string ⟨#[]⟩)
  generalize ((w3.setCell ⟨w.heap.size, 0, none⟩ (.int .i64 0)).setCell ⟨w.heap.size, 1, none⟩ (.int .i64 n)).setCell ⟨w.heap.size, 2, none⟩ (.string ⟨#[]⟩) = W at hE hB ⊢
  exact bodyPost_ret (res_v rfl _ _ w.heap.size _ _ _ rfl hE) rfl ⟨rfl, F, HH.out.below hB, Stp.of_below hB⟩
set_option maxHeartbeats 1000000 in
theorem done_pair_q (k i : Int) (s : ByteArray) (hb : Nat) (T : List (Int × List PV)) (F : Nat → Prop) (w0 : World) (hR : RecOk w0) (hi : InT T ⟨k, i, s⟩) :
    DoneOk ⟨#[112, 97, 105, 114, 63]⟩ hb T F [⟨k, i, s⟩] (⟨0, if isB T ⟨k, i, s⟩ 7 then 1 else 0, ⟨#[]⟩⟩, 0, T) w0 := by
  intro w S v hw hH hF hP
  have Z := Lib.hid (heap_alloc_new w (.cells #[.int .i64 0, .int .i64 0, .string ⟨#[]⟩] 36))
  have B0 := Lib.hid ((Below.refl w.heap.size w).alloc (Nat.le_refl _) (.cells #[.int .i64 0, .int .i64 0, .string ⟨#[]⟩] 36))
  have KS0 := sure_pair_q k i s v S hb T F _ (hH.below B0.out) (hP.belowP B0.out) hi _ rfl
  generalize (if isB T ⟨k, i, s⟩ 7 = true then (1 : Int) else 0) = n at KS0 ⊢
  have KS := Lib.hid KS0
  have HF := Lib.hid hF
  have KO := Lib.hid (op_none ⟨#[112, 97, 105, 114, 63]⟩ _ ((hR.at hw).at B0.out) (by kernel_rfl) (by kernel_rfl) (by kernel_rfl) (by kernel_rfl) (by kernel_rfl))
  clear hw hH hF hP hR KS0
  go_enter Tryd.func29, Tryd.ntmps29
  go_wp2_with fail
  refine KO.out.mono ?_
  rintro e w1 ⟨rfl, rfl⟩
  go_wp2_with fail
  refine KS.out.mono ?_
  rintro e w2 ⟨rfl, F', q1, q2⟩
  obtain ⟨e3, Q, E⟩ := after_call (u := ⟨0, n, ⟨#[]⟩⟩) (err := 0) (r := (⟨0, n, ⟨#[]⟩⟩, 0, T)) B0.out (Nat.le_refl _) HF.out Z.out ⟨F', q1, q2⟩ rfl
  obtain ⟨⟨y0, y1, y2⟩, f0, f1, f2⟩ := look3 e3
  have HQ := Lib.hid Q
  have HE := Lib.hid E
  clear e3 Q E q1 q2
  go_wp2
  have Q := HQ.out
  have E := HE.out
  clear HQ HE
  generalize ((w2.setCell ⟨w.heap.size, 0, none⟩ (.int .i64 0)).setCell ⟨w.heap.size, 1, none⟩ (.int .i64 n)).setCell ⟨w.heap.size, 2, none⟩ (.string ⟨#[]⟩) = W at E Q ⊢
  exact bodyPost_ret (res_ve (t := 7) (p := 6) rfl _ _ w.heap.size _ _ _ rfl E) rfl Q
set_option maxHeartbeats 1000000 in
theorem sure_vector_q (k i : Int) (s : ByteArray) (v : Value) (S : Nat → Prop) (hb : Nat) (T : List (Int × List PV)) (F : Nat → Prop) (w : World) (hH : HeapM w hb T F) (hP : InP w S [⟨k, i, s⟩] v) (hi : InT T ⟨k, i, s⟩) (n : Int) (hn : n = if isB T ⟨k, i, s⟩ 8 then 1 else 0) :
    Calls Tryd.prog 55 #[.pointer (some ⟨hb, 0, none⟩), .string ⟨#[118, 101, 99, 116, 111, 114, 63]⟩, v] w fun e w' => SureOk w hb F ⟨0, n, ⟨#[]⟩⟩ T e w' := by
  obtain ⟨b, o, c, rfl, hc1, hc2, hbl, ⟨c0, c1, c2⟩, ok⟩ := one_arg hP
  have mv := new_cells w (.cells #[.int .i64 0, .int .i64 0, .string ⟨#[]⟩] 36) b hbl
  replace c0 := (mv _).trans c0
  replace c1 := (mv _).trans c1
  replace c2 := (mv _).trans c2
  have Z := Lib.hid (heap_alloc_new w (.cells #[.int .i64 0, .int .i64 0, .string ⟨#[]⟩] 36))
  have B0 := Lib.hid ((Below.refl w.heap.size w).alloc (Nat.le_refl _) (.cells #[.int .i64 0, .int .i64 0, .string ⟨#[]⟩] 36))
  have hs0 := size_new w (.cells #[.int .i64 0, .int .i64 0, .string ⟨#[]⟩] 36)
  have KI0 := is_any k i s 8 (by decide) (by decide) hb T F _ (hH.below B0.out) hi
  generalize isB T ⟨k, i, s⟩ 8 = r at KI0 hn
  have HN := Lib.hid hn
  have KI := Lib.hid KI0
  have HH := Lib.hid hH
  unfold maxLen at hc2
  clear hH hP mv ok KI0 hn
  go_enter Tryd.func55, Tryd.ntmps55
  go_wp2_with fail
  generalize w.alloc (.cells #[.int .i64 0, .int .i64 0, .string ⟨#[]⟩] 36) = w0 at *
  refine (asked_vector_q _).mono ?_
  rintro e w1 ⟨rfl, rfl⟩
  go_wp2_with fail
  refine KI.out.mono ?_
  rintro e w2 ⟨rfl, hb2⟩
  have B2 := Lib.hid (B0.out.trans (hb2.mono B0.out.size))
  have Z2 := Lib.hid ((hb2.block w.heap.size (by omega)).trans Z.out)
  have hs2 : w.heap.size + 1 ≤ w2.heap.size := by have := hb2.size; omega
  have KT := Lib.hid (truth_any r w2)
  clear hb2 c0 c1 c2 KI
  go_wp2_with fail
  refine KT.out.mono ?_
  rintro e w3 ⟨he, hb3⟩
  rw [← HN.out] at he
  subst he
  have B3 := Lib.hid (B2.out.trans (hb3.mono B2.out.size))
  have Z3 := Lib.hid ((hb3.block w.heap.size (by omega)).trans Z2.out)
  obtain ⟨⟨y0, y1, y2⟩, f0, f1, f2⟩ := look3 Z3.out
  clear hb3
  go_wp2
  have hE := put3 Z3.out (.int .i64 0) (.int .i64 n) (.string ⟨#[]⟩)
  have hB := put3_below B3.out (Nat.le_refl _) (.int .i64 0) (.int .i64 n) (.string ⟨#[]⟩)
  generalize ((w3.setCell ⟨w.heap.size, 0, none⟩ (.int .i64 0)).setCell ⟨w.heap.size, 1, none⟩ (.int .i64 n)).setCell ⟨w.heap.size, 2, none⟩ (.string ⟨#[]⟩) = W at hE hB ⊢
  exact bodyPost_ret (res_v rfl _ _ w.heap.size _ _ _ rfl hE) rfl ⟨rfl, F, HH.out.below hB, Stp.of_below hB⟩
set_option maxHeartbeats 1000000 in
theorem done_vector_q (k i : Int) (s : ByteArray) (hb : Nat) (T : List (Int × List PV)) (F : Nat → Prop) (w0 : World) (hR : RecOk w0) (hi : InT T ⟨k, i, s⟩) :
    DoneOk ⟨#[118, 101, 99, 116, 111, 114, 63]⟩ hb T F [⟨k, i, s⟩] (⟨0, if isB T ⟨k, i, s⟩ 8 then 1 else 0, ⟨#[]⟩⟩, 0, T) w0 := by
  intro w S v hw hH hF hP
  have Z := Lib.hid (heap_alloc_new w (.cells #[.int .i64 0, .int .i64 0, .string ⟨#[]⟩] 36))
  have B0 := Lib.hid ((Below.refl w.heap.size w).alloc (Nat.le_refl _) (.cells #[.int .i64 0, .int .i64 0, .string ⟨#[]⟩] 36))
  have KS0 := sure_vector_q k i s v S hb T F _ (hH.below B0.out) (hP.belowP B0.out) hi _ rfl
  generalize (if isB T ⟨k, i, s⟩ 8 = true then (1 : Int) else 0) = n at KS0 ⊢
  have KS := Lib.hid KS0
  have HF := Lib.hid hF
  have KO := Lib.hid (op_none ⟨#[118, 101, 99, 116, 111, 114, 63]⟩ _ ((hR.at hw).at B0.out) (by kernel_rfl) (by kernel_rfl) (by kernel_rfl) (by kernel_rfl) (by kernel_rfl))
  clear hw hH hF hP hR KS0
  go_enter Tryd.func29, Tryd.ntmps29
  go_wp2_with fail
  refine KO.out.mono ?_
  rintro e w1 ⟨rfl, rfl⟩
  go_wp2_with fail
  refine KS.out.mono ?_
  rintro e w2 ⟨rfl, F', q1, q2⟩
  obtain ⟨e3, Q, E⟩ := after_call (u := ⟨0, n, ⟨#[]⟩⟩) (err := 0) (r := (⟨0, n, ⟨#[]⟩⟩, 0, T)) B0.out (Nat.le_refl _) HF.out Z.out ⟨F', q1, q2⟩ rfl
  obtain ⟨⟨y0, y1, y2⟩, f0, f1, f2⟩ := look3 e3
  have HQ := Lib.hid Q
  have HE := Lib.hid E
  clear e3 Q E q1 q2
  go_wp2
  have Q := HQ.out
  have E := HE.out
  clear HQ HE
  generalize ((w2.setCell ⟨w.heap.size, 0, none⟩ (.int .i64 0)).setCell ⟨w.heap.size, 1, none⟩ (.int .i64 n)).setCell ⟨w.heap.size, 2, none⟩ (.string ⟨#[]⟩) = W at E Q ⊢
  exact bodyPost_ret (res_ve (t := 7) (p := 6) rfl _ _ w.heap.size _ _ _ rfl E) rfl Q
set_option maxHeartbeats 1000000 in
theorem sure_string_q (k i : Int) (s : ByteArray) (v : Value) (S : Nat → Prop) (hb : Nat) (T : List (Int × List PV)) (F : Nat → Prop) (w : World) (hH : HeapM w hb T F) (hP : InP w S [⟨k, i, s⟩] v) (hi : InT T ⟨k, i, s⟩) (n : Int) (hn : n = if isB T ⟨k, i, s⟩ 9 then 1 else 0) :
    Calls Tryd.prog 55 #[.pointer (some ⟨hb, 0, none⟩), .string ⟨#[115, 116, 114, 105, 110, 103, 63]⟩, v] w fun e w' => SureOk w hb F ⟨0, n, ⟨#[]⟩⟩ T e w' := by
  obtain ⟨b, o, c, rfl, hc1, hc2, hbl, ⟨c0, c1, c2⟩, ok⟩ := one_arg hP
  have mv := new_cells w (.cells #[.int .i64 0, .int .i64 0, .string ⟨#[]⟩] 36) b hbl
  replace c0 := (mv _).trans c0
  replace c1 := (mv _).trans c1
  replace c2 := (mv _).trans c2
  have Z := Lib.hid (heap_alloc_new w (.cells #[.int .i64 0, .int .i64 0, .string ⟨#[]⟩] 36))
  have B0 := Lib.hid ((Below.refl w.heap.size w).alloc (Nat.le_refl _) (.cells #[.int .i64 0, .int .i64 0, .string ⟨#[]⟩] 36))
  have hs0 := size_new w (.cells #[.int .i64 0, .int .i64 0, .string ⟨#[]⟩] 36)
  have KI0 := is_any k i s 9 (by decide) (by decide) hb T F _ (hH.below B0.out) hi
  generalize isB T ⟨k, i, s⟩ 9 = r at KI0 hn
  have HN := Lib.hid hn
  have KI := Lib.hid KI0
  have HH := Lib.hid hH
  unfold maxLen at hc2
  clear hH hP mv ok KI0 hn
  go_enter Tryd.func55, Tryd.ntmps55
  go_wp2_with fail
  generalize w.alloc (.cells #[.int .i64 0, .int .i64 0, .string ⟨#[]⟩] 36) = w0 at *
  refine (asked_string_q _).mono ?_
  rintro e w1 ⟨rfl, rfl⟩
  go_wp2_with fail
  refine KI.out.mono ?_
  rintro e w2 ⟨rfl, hb2⟩
  have B2 := Lib.hid (B0.out.trans (hb2.mono B0.out.size))
  have Z2 := Lib.hid ((hb2.block w.heap.size (by omega)).trans Z.out)
  have hs2 : w.heap.size + 1 ≤ w2.heap.size := by have := hb2.size; omega
  have KT := Lib.hid (truth_any r w2)
  clear hb2 c0 c1 c2 KI
  go_wp2_with fail
  refine KT.out.mono ?_
  rintro e w3 ⟨he, hb3⟩
  rw [← HN.out] at he
  subst he
  have B3 := Lib.hid (B2.out.trans (hb3.mono B2.out.size))
  have Z3 := Lib.hid ((hb3.block w.heap.size (by omega)).trans Z2.out)
  obtain ⟨⟨y0, y1, y2⟩, f0, f1, f2⟩ := look3 Z3.out
  clear hb3
  go_wp2
  have hE := put3 Z3.out (.int .i64 0) (.int .i64 n) (.string ⟨#[]⟩)
  have hB := put3_below B3.out (Nat.le_refl _) (.int .i64 0) (.int .i64 n) (.string ⟨#[]⟩)
  generalize ((w3.setCell ⟨w.heap.size, 0, none⟩ (.int .i64 0)).setCell ⟨w.heap.size, 1, none⟩ (.int .i64 n)).setCell ⟨w.heap.size, 2, none⟩ (.string ⟨#[]⟩) = W at hE hB ⊢
  exact bodyPost_ret (res_v rfl _ _ w.heap.size _ _ _ rfl hE) rfl ⟨rfl, F, HH.out.below hB, Stp.of_below hB⟩
set_option maxHeartbeats 1000000 in
theorem done_string_q (k i : Int) (s : ByteArray) (hb : Nat) (T : List (Int × List PV)) (F : Nat → Prop) (w0 : World) (hR : RecOk w0) (hi : InT T ⟨k, i, s⟩) :
    DoneOk ⟨#[115, 116, 114, 105, 110, 103, 63]⟩ hb T F [⟨k, i, s⟩] (⟨0, if isB T ⟨k, i, s⟩ 9 then 1 else 0, ⟨#[]⟩⟩, 0, T) w0 := by
  intro w S v hw hH hF hP
  have Z := Lib.hid (heap_alloc_new w (.cells #[.int .i64 0, .int .i64 0, .string ⟨#[]⟩] 36))
  have B0 := Lib.hid ((Below.refl w.heap.size w).alloc (Nat.le_refl _) (.cells #[.int .i64 0, .int .i64 0, .string ⟨#[]⟩] 36))
  have KS0 := sure_string_q k i s v S hb T F _ (hH.below B0.out) (hP.belowP B0.out) hi _ rfl
  generalize (if isB T ⟨k, i, s⟩ 9 = true then (1 : Int) else 0) = n at KS0 ⊢
  have KS := Lib.hid KS0
  have HF := Lib.hid hF
  have KO := Lib.hid (op_none ⟨#[115, 116, 114, 105, 110, 103, 63]⟩ _ ((hR.at hw).at B0.out) (by kernel_rfl) (by kernel_rfl) (by kernel_rfl) (by kernel_rfl) (by kernel_rfl))
  clear hw hH hF hP hR KS0
  go_enter Tryd.func29, Tryd.ntmps29
  go_wp2_with fail
  refine KO.out.mono ?_
  rintro e w1 ⟨rfl, rfl⟩
  go_wp2_with fail
  refine KS.out.mono ?_
  rintro e w2 ⟨rfl, F', q1, q2⟩
  obtain ⟨e3, Q, E⟩ := after_call (u := ⟨0, n, ⟨#[]⟩⟩) (err := 0) (r := (⟨0, n, ⟨#[]⟩⟩, 0, T)) B0.out (Nat.le_refl _) HF.out Z.out ⟨F', q1, q2⟩ rfl
  obtain ⟨⟨y0, y1, y2⟩, f0, f1, f2⟩ := look3 e3
  have HQ := Lib.hid Q
  have HE := Lib.hid E
  clear e3 Q E q1 q2
  go_wp2
  have Q := HQ.out
  have E := HE.out
  clear HQ HE
  generalize ((w2.setCell ⟨w.heap.size, 0, none⟩ (.int .i64 0)).setCell ⟨w.heap.size, 1, none⟩ (.int .i64 n)).setCell ⟨w.heap.size, 2, none⟩ (.string ⟨#[]⟩) = W at E Q ⊢
  exact bodyPost_ret (res_ve (t := 7) (p := 6) rfl _ _ w.heap.size _ _ _ rfl E) rfl Q
set_option maxHeartbeats 1000000 in
theorem sure_procedure_q (k i : Int) (s : ByteArray) (v : Value) (S : Nat → Prop) (hb : Nat) (T : List (Int × List PV)) (F : Nat → Prop) (w : World) (hH : HeapM w hb T F) (hP : InP w S [⟨k, i, s⟩] v) (hi : InT T ⟨k, i, s⟩) (n : Int) (hn : n = if isB T ⟨k, i, s⟩ 11 then 1 else 0) :
    Calls Tryd.prog 55 #[.pointer (some ⟨hb, 0, none⟩), .string ⟨#[112, 114, 111, 99, 101, 100, 117, 114, 101, 63]⟩, v] w fun e w' => SureOk w hb F ⟨0, n, ⟨#[]⟩⟩ T e w' := by
  obtain ⟨b, o, c, rfl, hc1, hc2, hbl, ⟨c0, c1, c2⟩, ok⟩ := one_arg hP
  have mv := new_cells w (.cells #[.int .i64 0, .int .i64 0, .string ⟨#[]⟩] 36) b hbl
  replace c0 := (mv _).trans c0
  replace c1 := (mv _).trans c1
  replace c2 := (mv _).trans c2
  have Z := Lib.hid (heap_alloc_new w (.cells #[.int .i64 0, .int .i64 0, .string ⟨#[]⟩] 36))
  have B0 := Lib.hid ((Below.refl w.heap.size w).alloc (Nat.le_refl _) (.cells #[.int .i64 0, .int .i64 0, .string ⟨#[]⟩] 36))
  have hs0 := size_new w (.cells #[.int .i64 0, .int .i64 0, .string ⟨#[]⟩] 36)
  have KI0 := is_any k i s 11 (by decide) (by decide) hb T F _ (hH.below B0.out) hi
  generalize isB T ⟨k, i, s⟩ 11 = r at KI0 hn
  have HN := Lib.hid hn
  have KI := Lib.hid KI0
  have HH := Lib.hid hH
  unfold maxLen at hc2
  clear hH hP mv ok KI0 hn
  go_enter Tryd.func55, Tryd.ntmps55
  go_wp2_with fail
  generalize w.alloc (.cells #[.int .i64 0, .int .i64 0, .string ⟨#[]⟩] 36) = w0 at *
  refine (asked_procedure_q _).mono ?_
  rintro e w1 ⟨rfl, rfl⟩
  go_wp2_with fail
  refine KI.out.mono ?_
  rintro e w2 ⟨rfl, hb2⟩
  have B2 := Lib.hid (B0.out.trans (hb2.mono B0.out.size))
  have Z2 := Lib.hid ((hb2.block w.heap.size (by omega)).trans Z.out)
  have hs2 : w.heap.size + 1 ≤ w2.heap.size := by have := hb2.size; omega
  have KT := Lib.hid (truth_any r w2)
  clear hb2 c0 c1 c2 KI
  go_wp2_with fail
  refine KT.out.mono ?_
  rintro e w3 ⟨he, hb3⟩
  rw [← HN.out] at he
  subst he
  have B3 := Lib.hid (B2.out.trans (hb3.mono B2.out.size))
  have Z3 := Lib.hid ((hb3.block w.heap.size (by omega)).trans Z2.out)
  obtain ⟨⟨y0, y1, y2⟩, f0, f1, f2⟩ := look3 Z3.out
  clear hb3
  go_wp2
  have hE := put3 Z3.out (.int .i64 0) (.int .i64 n) (.string ⟨#[]⟩)
  have hB := put3_below B3.out (Nat.le_refl _) (.int .i64 0) (.int .i64 n) (.string ⟨#[]⟩)
  generalize ((w3.setCell ⟨w.heap.size, 0, none⟩ (.int .i64 0)).setCell ⟨w.heap.size, 1, none⟩ (.int .i64 n)).setCell ⟨w.heap.size, 2, none⟩ (.string ⟨#[]⟩) = W at hE hB ⊢
  exact bodyPost_ret (res_v rfl _ _ w.heap.size _ _ _ rfl hE) rfl ⟨rfl, F, HH.out.below hB, Stp.of_below hB⟩
set_option maxHeartbeats 1000000 in
theorem done_procedure_q (k i : Int) (s : ByteArray) (hb : Nat) (T : List (Int × List PV)) (F : Nat → Prop) (w0 : World) (hR : RecOk w0) (hi : InT T ⟨k, i, s⟩) :
    DoneOk ⟨#[112, 114, 111, 99, 101, 100, 117, 114, 101, 63]⟩ hb T F [⟨k, i, s⟩] (⟨0, if isB T ⟨k, i, s⟩ 11 then 1 else 0, ⟨#[]⟩⟩, 0, T) w0 := by
  intro w S v hw hH hF hP
  have Z := Lib.hid (heap_alloc_new w (.cells #[.int .i64 0, .int .i64 0, .string ⟨#[]⟩] 36))
  have B0 := Lib.hid ((Below.refl w.heap.size w).alloc (Nat.le_refl _) (.cells #[.int .i64 0, .int .i64 0, .string ⟨#[]⟩] 36))
  have KS0 := sure_procedure_q k i s v S hb T F _ (hH.below B0.out) (hP.belowP B0.out) hi _ rfl
  generalize (if isB T ⟨k, i, s⟩ 11 = true then (1 : Int) else 0) = n at KS0 ⊢
  have KS := Lib.hid KS0
  have HF := Lib.hid hF
  have KO := Lib.hid (op_none ⟨#[112, 114, 111, 99, 101, 100, 117, 114, 101, 63]⟩ _ ((hR.at hw).at B0.out) (by kernel_rfl) (by kernel_rfl) (by kernel_rfl) (by kernel_rfl) (by kernel_rfl))
  clear hw hH hF hP hR KS0
  go_enter Tryd.func29, Tryd.ntmps29
  go_wp2_with fail
  refine KO.out.mono ?_
  rintro e w1 ⟨rfl, rfl⟩
  go_wp2_with fail
  refine KS.out.mono ?_
  rintro e w2 ⟨rfl, F', q1, q2⟩
  obtain ⟨e3, Q, E⟩ := after_call (u := ⟨0, n, ⟨#[]⟩⟩) (err := 0) (r := (⟨0, n, ⟨#[]⟩⟩, 0, T)) B0.out (Nat.le_refl _) HF.out Z.out ⟨F', q1, q2⟩ rfl
  obtain ⟨⟨y0, y1, y2⟩, f0, f1, f2⟩ := look3 e3
  have HQ := Lib.hid Q
  have HE := Lib.hid E
  clear e3 Q E q1 q2
  go_wp2
  have Q := HQ.out
  have E := HE.out
  clear HQ HE
  generalize ((w2.setCell ⟨w.heap.size, 0, none⟩ (.int .i64 0)).setCell ⟨w.heap.size, 1, none⟩ (.int .i64 n)).setCell ⟨w.heap.size, 2, none⟩ (.string ⟨#[]⟩) = W at E Q ⊢
  exact bodyPost_ret (res_ve (t := 7) (p := 6) rfl _ _ w.heap.size _ _ _ rfl E) rfl Q
end Go.Proofs.YtpejhilfopjckaaDoor.Hp
