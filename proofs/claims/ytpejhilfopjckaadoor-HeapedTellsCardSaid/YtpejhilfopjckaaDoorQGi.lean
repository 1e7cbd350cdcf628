/-
Texts Q34, Q36, one behind the other (a claim bears sixty files). Conditions: as each says.
-/
import Derived.Test.YtpejhilfopjckaaDoorQ14

/-
Package heap's sure, done of =, char->integer. Where the table of what is reckoned is as the program lays it.
-/
namespace Go.Proofs.YtpejhilfopjckaaDoor.Hp
open Go.ChangeShapes Go.WideShapes Go.ChangeAt Go.RowKit Go.Deep
open Dat (PT ok64 RepV RepS RowX infoDatum)
set_option maxRecDepth 100000

set_option maxHeartbeats 1000000 in
theorem sure_numeq (k i k' i' : Int) (s s' : ByteArray) (v : Value) (S : Nat → Prop) (hb : Nat) (T : List (Int × List PV)) (F : Nat → Prop) (w : World) (hH : HeapM w hb T F) (_hF : ∀ b, F b → b < w.heap.size) (hP : InP w S [⟨k, i, s⟩, ⟨k', i', s'⟩] v) (r : Bool) (hr : r = decide (k = k' ∧ i = i' ∧ s = s')) :
    Calls Tryd.prog 55 #[.pointer (some ⟨hb, 0, none⟩), .string ⟨#[61]⟩, v] w fun e w' => SureOk w hb F ⟨0, if r then 1 else 0, ⟨#[]⟩⟩ T e w' := by
  obtain ⟨b, o, c, rfl, hc1, hc2, hbl, ⟨c0, c1, c2⟩, ok, ⟨d0, d1, d2⟩, ok'⟩ := two_args hP
  have mv := new_cells w (.cells #[.int .i64 0, .int .i64 0, .string ⟨#[]⟩] 36) b hbl
  replace c0 := (mv _).trans c0
  replace c1 := (mv _).trans c1
  replace c2 := (mv _).trans c2
  replace d0 := (mv _).trans d0
  replace d1 := (mv _).trans d1
  replace d2 := (mv _).trans d2
  have Z := Lib.hid (heap_alloc_new w (.cells #[.int .i64 0, .int .i64 0, .string ⟨#[]⟩] 36))
  have B0 := Lib.hid ((Below.refl w.heap.size w).alloc (Nat.le_refl _) (.cells #[.int .i64 0, .int .i64 0, .string ⟨#[]⟩] 36))
  have HH := Lib.hid hH
  have HR := Lib.hid hr
  unfold maxLen at hc2
  clear hH _hF hP mv ok ok' hr
  have ways : (k = k' ∧ i = i' ∧ s = s') ∨ ¬ k = k' ∨ (k = k' ∧ ¬ i = i') ∨ (k = k' ∧ i = i' ∧ ¬ s.toList = s'.toList) := by
    by_cases h1 : k = k'
    · by_cases h2 : i = i'
      · by_cases h3 : s = s'
        · exact .inl ⟨h1, h2, h3⟩
        · refine .inr (.inr (.inr ⟨h1, h2, fun e => h3 ?_⟩))
          rw [ByteArray.toList_eq, ByteArray.toList_eq] at e
          exact ByteArray.ext (Array.toList_inj.1 e)
      · exact .inr (.inr (.inl ⟨h1, h2⟩))
    · exact .inr (.inl h1)
  rcases ways with ⟨rfl, rfl, rfl⟩ | h | ⟨rfl, h⟩ | ⟨rfl, rfl, h⟩
  · obtain rfl : r = true := by rw [HR.out]; simp
    clear HR
    go_enter Tryd.func55, Tryd.ntmps55
    go_wp2
    generalize w.alloc (.cells #[.int .i64 0, .int .i64 0, .string ⟨#[]⟩] 36) = w1 at *
    go_still_tail 6, (by kernel_rfl)
    change wpList _ _ _ _ _ w1.drew
    have B1 : Hid (Below w.heap.size w w1.drew) := Lib.hid B0.out.drew
    have Z1 : Hid (w1.drew.heap[w.heap.size]? = some (.cells #[.int .i64 0, .int .i64 0, .string ⟨#[]⟩] 36 (0, 0))) := Lib.hid Z.out
    go_wp2_with (go_at_call 75; refine (truth_any true _).mono ?_; rintro e w2 ⟨rfl, hb2⟩; obtain ⟨⟨y0, y1, y2⟩, f0, f1, f2⟩ := look3 ((hb2.block w.heap.size (lt_of_block Z1.out)).trans Z1.out); have E := Lib.hid (put3 ((hb2.block w.heap.size (lt_of_block Z1.out)).trans Z1.out) (.int .i64 0) (.int .i64 1) (.string ⟨#[]⟩)); have B2 := Lib.hid (put3_below (B1.out.trans (hb2.mono B1.out.size)) (Nat.le_refl w.heap.size) (.int .i64 0) (.int .i64 1) (.string ⟨#[]⟩)); clear hb2)
    exact bodyPost_ret (res_v rfl _ _ w.heap.size _ _ _ rfl E.out) rfl ⟨rfl, F, HH.out.below B2.out, Stp.of_below B2.out⟩
  · obtain rfl : r = false := by rw [HR.out]; simp [h]
    clear HR
    go_enter Tryd.func55, Tryd.ntmps55
    go_wp2
    generalize w.alloc (.cells #[.int .i64 0, .int .i64 0, .string ⟨#[]⟩] 36) = w1 at *
    go_still_tail 6, (by kernel_rfl)
    change wpList _ _ _ _ _ w1.drew
    have B1 : Hid (Below w.heap.size w w1.drew) := Lib.hid B0.out.drew
    have Z1 : Hid (w1.drew.heap[w.heap.size]? = some (.cells #[.int .i64 0, .int .i64 0, .string ⟨#[]⟩] 36 (0, 0))) := Lib.hid Z.out
    go_wp2_with (go_at_call 75; refine (truth_any false _).mono ?_; rintro e w2 ⟨rfl, hb2⟩; obtain ⟨⟨y0, y1, y2⟩, f0, f1, f2⟩ := look3 ((hb2.block w.heap.size (lt_of_block Z1.out)).trans Z1.out); have E := Lib.hid (put3 ((hb2.block w.heap.size (lt_of_block Z1.out)).trans Z1.out) (.int .i64 0) (.int .i64 0) (.string ⟨#[]⟩)); have B2 := Lib.hid (put3_below (B1.out.trans (hb2.mono B1.out.size)) (Nat.le_refl w.heap.size) (.int .i64 0) (.int .i64 0) (.string ⟨#[]⟩)); clear hb2)
    exact bodyPost_ret (res_v rfl _ _ w.heap.size _ _ _ rfl E.out) rfl ⟨rfl, F, HH.out.below B2.out, Stp.of_below B2.out⟩
  · obtain rfl : r = false := by rw [HR.out]; simp [h]
    clear HR
    go_enter Tryd.func55, Tryd.ntmps55
    go_wp2
    generalize w.alloc (.cells #[.int .i64 0, .int .i64 0, .string ⟨#[]⟩] 36) = w1 at *
    go_still_tail 6, (by kernel_rfl)
    change wpList _ _ _ _ _ w1.drew
    have B1 : Hid (Below w.heap.size w w1.drew) := Lib.hid B0.out.drew
    have Z1 : Hid (w1.drew.heap[w.heap.size]? = some (.cells #[.int .i64 0, .int .i64 0, .string ⟨#[]⟩] 36 (0, 0))) := Lib.hid Z.out
    go_wp2_with (go_at_call 75; refine (truth_any false _).mono ?_; rintro e w2 ⟨rfl, hb2⟩; obtain ⟨⟨y0, y1, y2⟩, f0, f1, f2⟩ := look3 ((hb2.block w.heap.size (lt_of_block Z1.out)).trans Z1.out); have E := Lib.hid (put3 ((hb2.block w.heap.size (lt_of_block Z1.out)).trans Z1.out) (.int .i64 0) (.int .i64 0) (.string ⟨#[]⟩)); have B2 := Lib.hid (put3_below (B1.out.trans (hb2.mono B1.out.size)) (Nat.le_refl w.heap.size) (.int .i64 0) (.int .i64 0) (.string ⟨#[]⟩)); clear hb2)
    exact bodyPost_ret (res_v rfl _ _ w.heap.size _ _ _ rfl E.out) rfl ⟨rfl, F, HH.out.below B2.out, Stp.of_below B2.out⟩
  · obtain rfl : r = false := by
      rw [HR.out]
      simp only [true_and, decide_eq_false_iff_not]
      rintro rfl
      exact h rfl
    clear HR
    have h' : (s.toList == s'.toList) = false := by simpa using h
    go_enter Tryd.func55, Tryd.ntmps55
    go_wp2
    generalize w.alloc (.cells #[.int .i64 0, .int .i64 0, .string ⟨#[]⟩] 36) = w1 at *
    go_still_tail 6, (by kernel_rfl)
    change wpList _ _ _ _ _ w1.drew
    have B1 : Hid (Below w.heap.size w w1.drew) := Lib.hid B0.out.drew
    have Z1 : Hid (w1.drew.heap[w.heap.size]? = some (.cells #[.int .i64 0, .int .i64 0, .string ⟨#[]⟩] 36 (0, 0))) := Lib.hid Z.out
    go_wp2_with (go_at_call 75; refine (truth_any false _).mono ?_; rintro e w2 ⟨rfl, hb2⟩; obtain ⟨⟨y0, y1, y2⟩, f0, f1, f2⟩ := look3 ((hb2.block w.heap.size (lt_of_block Z1.out)).trans Z1.out); have E := Lib.hid (put3 ((hb2.block w.heap.size (lt_of_block Z1.out)).trans Z1.out) (.int .i64 0) (.int .i64 0) (.string ⟨#[]⟩)); have B2 := Lib.hid (put3_below (B1.out.trans (hb2.mono B1.out.size)) (Nat.le_refl w.heap.size) (.int .i64 0) (.int .i64 0) (.string ⟨#[]⟩)); clear hb2)
    exact bodyPost_ret (res_v rfl _ _ w.heap.size _ _ _ rfl E.out) rfl ⟨rfl, F, HH.out.below B2.out, Stp.of_below B2.out⟩
set_option maxHeartbeats 1000000 in
theorem done_numeq (k i k' i' : Int) (s s' : ByteArray) (hb : Nat) (T : List (Int × List PV)) (F : Nat → Prop) (w0 : World) (hR : RecOk w0) (r : Bool) (hr : r = decide (k = k' ∧ i = i' ∧ s = s')) :
    DoneOk ⟨#[61]⟩ hb T F [⟨k, i, s⟩, ⟨k', i', s'⟩] (⟨0, if r then 1 else 0, ⟨#[]⟩⟩, 0, T) w0 := by
  intro w S v hw hH hF hP
  have Z := Lib.hid (heap_alloc_new w (.cells #[.int .i64 0, .int .i64 0, .string ⟨#[]⟩] 36))
  have B0 := Lib.hid ((Below.refl w.heap.size w).alloc (Nat.le_refl _) (.cells #[.int .i64 0, .int .i64 0, .string ⟨#[]⟩] 36))
  have hs : (w.alloc (.cells #[.int .i64 0, .int .i64 0, .string ⟨#[]⟩] 36)).heap.size = w.heap.size + 1 := size_new _ _
  have KS := Lib.hid (sure_numeq k i k' i' s s' v S hb T F _ (hH.below B0.out) (fun b h => by rw [hs]; have := hF b h; omega) (hP.belowP B0.out) r hr)
  have HF := Lib.hid hF
  have KO := Lib.hid (op_none ⟨#[61]⟩ _ ((hR.at hw).at B0.out) (by kernel_rfl) (by kernel_rfl) (by kernel_rfl) (by kernel_rfl) (by kernel_rfl))
  generalize (if r then 1 else 0 : Int) = q at *
  clear hw hH hF hP hR hs hr
  go_enter Tryd.func29, Tryd.ntmps29
  go_wp2_with fail
  refine KO.out.mono ?_
  rintro e w1 ⟨rfl, rfl⟩
  go_wp2_with fail
  refine KS.out.mono ?_
  rintro e w2 ⟨rfl, F', q1, q2⟩
  obtain ⟨e3, Q, E⟩ := after_call (u := ⟨0, q, ⟨#[]⟩⟩) (err := 0) (r := (⟨0, q, ⟨#[]⟩⟩, 0, T)) B0.out (Nat.le_refl _) HF.out Z.out ⟨F', q1, q2⟩ rfl
  obtain ⟨⟨y0, y1, y2⟩, f0, f1, f2⟩ := look3 e3
  have HQ := Lib.hid Q
  have HE := Lib.hid E
  clear e3 Q E q1 q2
  go_wp2
  have Q := HQ.out
  have E := HE.out
  clear HQ HE
  generalize ((w2.setCell ⟨w.heap.size, 0, none⟩ (.int .i64 0)).setCell ⟨w.heap.size, 1, none⟩ (.int .i64 q)).setCell ⟨w.heap.size, 2, none⟩ (.string ⟨#[]⟩) = W at E Q ⊢
  exact bodyPost_ret (res_ve (t := 7) (p := 6) rfl _ _ w.heap.size _ _ _ rfl E) rfl Q
set_option maxHeartbeats 1000000 in
theorem sure_c2i (k i : Int) (s : ByteArray) (v : Value) (S : Nat → Prop) (hb : Nat) (T : List (Int × List PV)) (F : Nat → Prop) (w : World) (hH : HeapM w hb T F) (hP : InP w S [⟨k, i, s⟩] v)  :
    Calls Tryd.prog 55 #[.pointer (some ⟨hb, 0, none⟩), .string ⟨#[99, 104, 97, 114, 45, 62, 105, 110, 116, 101, 103, 101, 114]⟩, v] w fun e w' => SureOk w hb F ⟨1, i, ⟨#[]⟩⟩ T e w' := by
  obtain ⟨b, o, c, rfl, hc1, hc2, hbl, ⟨c0, c1, c2⟩, ok⟩ := one_arg hP
  have mv := new_cells w (.cells #[.int .i64 0, .int .i64 0, .string ⟨#[]⟩] 36) b hbl
  replace c0 := (mv _).trans c0
  replace c1 := (mv _).trans c1
  replace c2 := (mv _).trans c2
  have Z := Lib.hid (heap_alloc_new w (.cells #[.int .i64 0, .int .i64 0, .string ⟨#[]⟩] 36))
  have B0 := Lib.hid ((Below.refl w.heap.size w).alloc (Nat.le_refl _) (.cells #[.int .i64 0, .int .i64 0, .string ⟨#[]⟩] 36))
  have hs0 := size_new w (.cells #[.int .i64 0, .int .i64 0, .string ⟨#[]⟩] 36)
  have HH := Lib.hid hH
  unfold maxLen at hc2
  clear hH hP mv ok
  go_enter Tryd.func55, Tryd.ntmps55
  go_wp2_with fail
  generalize w.alloc (.cells #[.int .i64 0, .int .i64 0, .string ⟨#[]⟩] 36) = w0 at *
  refine (number_any i _).mono ?_
  rintro e w3 ⟨rfl, hb3⟩
  have B3 := Lib.hid (B0.out.trans (hb3.mono B0.out.size))
  have Z3 := Lib.hid ((hb3.block w.heap.size (by omega)).trans Z.out)
  obtain ⟨⟨y0, y1, y2⟩, f0, f1, f2⟩ := look3 Z3.out
  clear hb3
  go_wp2
  have hE := put3 Z3.out (.int .i64 1) (.int .i64 i) (.string ⟨#[]⟩)
  have hB := put3_below B3.out (Nat.le_refl _) (.int .i64 1) (.int .i64 i) (.string ⟨#[]⟩)
  generalize ((w3.setCell ⟨w.heap.size, 0, none⟩ (.int .i64 1)).setCell ⟨w.heap.size, 1, none⟩ (.int .i64 i)).setCell ⟨w.heap.size, 2, none⟩ (.string ⟨#[]⟩) = W at hE hB ⊢
  exact bodyPost_ret (res_v rfl _ _ w.heap.size _ _ _ rfl hE) rfl ⟨rfl, F, HH.out.below hB, Stp.of_below hB⟩
set_option maxHeartbeats 1000000 in
theorem done_c2i (k i : Int) (s : ByteArray) (hb : Nat) (T : List (Int × List PV)) (F : Nat → Prop) (w0 : World) (hR : RecOk w0) :
    DoneOk ⟨#[99, 104, 97, 114, 45, 62, 105, 110, 116, 101, 103, 101, 114]⟩ hb T F [⟨k, i, s⟩] (⟨1, i, ⟨#[]⟩⟩, 0, T) w0 := by
  intro w S v hw hH hF hP
  have Z := Lib.hid (heap_alloc_new w (.cells #[.int .i64 0, .int .i64 0, .string ⟨#[]⟩] 36))
  have B0 := Lib.hid ((Below.refl w.heap.size w).alloc (Nat.le_refl _) (.cells #[.int .i64 0, .int .i64 0, .string ⟨#[]⟩] 36))
  have KS0 := sure_c2i k i s v S hb T F _ (hH.below B0.out) (hP.belowP B0.out)
  have KS := Lib.hid KS0
  have HF := Lib.hid hF
  have KO := Lib.hid (op_none ⟨#[99, 104, 97, 114, 45, 62, 105, 110, 116, 101, 103, 101, 114]⟩ _ ((hR.at hw).at B0.out) (by kernel_rfl) (by kernel_rfl) (by kernel_rfl) (by kernel_rfl) (by kernel_rfl))
  clear hw hH hF hP hR KS0
  go_enter Tryd.func29, Tryd.ntmps29
  go_wp2_with fail
  refine KO.out.mono ?_
  rintro e w1 ⟨rfl, rfl⟩
  go_wp2_with fail
  refine KS.out.mono ?_
  rintro e w2 ⟨rfl, F', q1, q2⟩
  obtain ⟨e3, Q, E⟩ := after_call (u := ⟨1, i, ⟨#[]⟩⟩) (err := 0) (r := (⟨1, i, ⟨#[]⟩⟩, 0, T)) B0.out (Nat.le_refl _) HF.out Z.out ⟨F', q1, q2⟩ rfl
  obtain ⟨⟨y0, y1, y2⟩, f0, f1, f2⟩ := look3 e3
  have HQ := Lib.hid Q
  have HE := Lib.hid E
  clear e3 Q E q1 q2
  go_wp2
  have Q := HQ.out
  have E := HE.out
  clear HQ HE
  generalize ((w2.setCell ⟨w.heap.size, 0, none⟩ (.int .i64 1)).setCell ⟨w.heap.size, 1, none⟩ (.int .i64 i)).setCell ⟨w.heap.size, 2, none⟩ (.string ⟨#[]⟩) = W at E Q ⊢
  exact bodyPost_ret (res_ve (t := 7) (p := 6) rfl _ _ w.heap.size _ _ _ rfl E) rfl Q
end Go.Proofs.YtpejhilfopjckaaDoor.Hp

/-
Package heap: what vector-length, string-length and integer->char make. No condition but that the heap lies in memory.
-/
namespace Go.Proofs.YtpejhilfopjckaaDoor.Hp
open Go.ChangeShapes Go.WideShapes Go.ChangeAt Go.RowKit Go.Deep
open Dat (PT ok64 RepV RepS RowX infoDatum)
set_option maxRecDepth 100000

set_option maxHeartbeats 1000000 in
theorem charOf_any (n : Int) (w : World) (u : PV) (err : Int) (hu : Hid ((u, err) = if 0 ≤ n ∧ n ≤ 255 then ((⟨2, n, ⟨#[]⟩⟩ : PV), (0 : Int)) else (⟨0, 0, ⟨#[]⟩⟩, 83))) :
    Calls Tryd.prog 53 #[.int .i64 n] w fun e w' => e = VE u err ∧ Below w.heap.size w w' := by
  have Z := Lib.hid (heap_alloc_new w (.cells #[.int .i64 0, .int .i64 0, .string ⟨#[]⟩] 36))
  have B0 := Lib.hid ((Below.refl w.heap.size w).alloc (Nat.le_refl _) (.cells #[.int .i64 0, .int .i64 0, .string ⟨#[]⟩] 36))
  have hs0 := size_new w (.cells #[.int .i64 0, .int .i64 0, .string ⟨#[]⟩] 36)
  by_cases h0 : 0 ≤ n
  · have d0 : decide (n < 0) = false := decide_eq_false (by omega)
    by_cases h1 : n ≤ 255
    · have d1 : decide (255 < n) = false := decide_eq_false (by omega)
      have HE := Lib.hid (hu.out.trans (if_pos ⟨h0, h1⟩))
      have KC := Lib.hid (char_any n)
      clear hu
      go_enter Tryd.func53, Tryd.ntmps53
      go_wp2_with fail
      generalize w.alloc (.cells #[.int .i64 0, .int .i64 0, .string ⟨#[]⟩] 36) = w0 at *
      refine (KC.out _).mono ?_
      rintro e w3 ⟨rfl, hb3⟩
      have B3 := Lib.hid (B0.out.trans (hb3.mono B0.out.size))
      have Z3 := Lib.hid ((hb3.block w.heap.size (by omega)).trans Z.out)
      obtain ⟨⟨y0, y1, y2⟩, f0, f1, f2⟩ := look3 Z3.out
      clear hb3
      go_wp2
      obtain ⟨rfl, rfl⟩ := Prod.mk.inj HE.out
      exact bodyPost_ret (res_ve (t := 3) (p := 2) rfl _ _ w.heap.size _ _ _ rfl (put3 Z3.out _ _ _)) rfl ⟨rfl, put3_below B3.out (Nat.le_refl _) _ _ _⟩
    · have d1 : decide (255 < n) = true := decide_eq_true (by omega)
      have HE := Lib.hid (hu.out.trans (if_neg (by omega)))
      clear hu
      go_enter Tryd.func53, Tryd.ntmps53
      go_upto_region 1 with fail
      generalize w.alloc (.cells #[.int .i64 0, .int .i64 0, .string ⟨#[]⟩] 36) = w0 at *
      obtain ⟨⟨y0, y1, y2⟩, f0, f1, f2⟩ := look3 Z.out
      go_wp2
      obtain ⟨rfl, rfl⟩ := Prod.mk.inj HE.out
      exact bodyPost_ret (res_ve (t := 3) (p := 2) rfl _ _ w.heap.size _ _ _ rfl (put3 Z.out _ _ _)) rfl ⟨rfl, put3_below B0.out (Nat.le_refl _) _ _ _⟩
  · have d0 : decide (n < 0) = true := decide_eq_true (by omega)
    have HE := Lib.hid (hu.out.trans (if_neg (by omega)))
    clear hu
    go_enter Tryd.func53, Tryd.ntmps53
    go_upto_region 1 with fail
    generalize w.alloc (.cells #[.int .i64 0, .int .i64 0, .string ⟨#[]⟩] 36) = w0 at *
    obtain ⟨⟨y0, y1, y2⟩, f0, f1, f2⟩ := look3 Z.out
    go_wp2
    obtain ⟨rfl, rfl⟩ := Prod.mk.inj HE.out
    exact bodyPost_ret (res_ve (t := 3) (p := 2) rfl _ _ w.heap.size _ _ _ rfl (put3 Z.out _ _ _)) rfl ⟨rfl, put3_below B0.out (Nat.le_refl _) _ _ _⟩
set_option maxHeartbeats 1000000 in
theorem sure_vlen (k i : Int) (s : ByteArray) (v : Value) (S : Nat → Prop) (hb : Nat) (T : List (Int × List PV)) (F : Nat → Prop) (w : World) (hH : HeapM w hb T F) (hP : InP w S [⟨k, i, s⟩] v) (h0 : 0 ≤ i) (hj : i.toNat < T.length) :
    Calls Tryd.prog 55 #[.pointer (some ⟨hb, 0, none⟩), .string ⟨#[118, 101, 99, 116, 111, 114, 45, 108, 101, 110, 103, 116, 104]⟩, v] w fun e w' => SureOk w hb F ⟨1, (T[i.toNat].2.length : Int), ⟨#[]⟩⟩ T e w' := by
  obtain ⟨b, o, c, rfl, hc1, hc2, hbl, ⟨c0, c1, c2⟩, ok⟩ := one_arg hP
  have mv := new_cells w (.cells #[.int .i64 0, .int .i64 0, .string ⟨#[]⟩] 36) b hbl
  replace c0 := (mv _).trans c0
  replace c1 := (mv _).trans c1
  replace c2 := (mv _).trans c2
  have Z := Lib.hid (heap_alloc_new w (.cells #[.int .i64 0, .int .i64 0, .string ⟨#[]⟩] 36))
  have B0 := Lib.hid ((Below.refl w.heap.size w).alloc (Nat.le_refl _) (.cells #[.int .i64 0, .int .i64 0, .string ⟨#[]⟩] 36))
  have hs0 := size_new w (.cells #[.int .i64 0, .int .i64 0, .string ⟨#[]⟩] 36)
  have HH := Lib.hid hH
  unfold maxLen at hc2
  clear hH hP mv ok
  obtain ⟨n, HN⟩ : ∃ n, Hid (n = (T[i.toNat].2.length : Int)) := ⟨_, Lib.hid rfl⟩
  go_enter Tryd.func55, Tryd.ntmps55
  go_wp2_with fail
  generalize w.alloc (.cells #[.int .i64 0, .int .i64 0, .string ⟨#[]⟩] 36) = w0 at *
  obtain ⟨tb, cap, g, pv, mm, t0, t1, t2, -, t3, -⟩ := (HH.out.below B0.out).thing i.toNat hj
  rw [← HN.out] at t3
  have T3 := Lib.hid t3
  have hlt : i < (T.length : Int) := by omega
  refine (thingOf_any k i s hb tb T.length cap w0 t0 h0 hlt t1 t2).mono ?_
  rintro e w1 ⟨rfl, hb1⟩
  have B1 := Lib.hid (B0.out.trans (hb1.mono B0.out.size))
  have Z1 := Lib.hid ((hb1.block w.heap.size (by omega)).trans Z.out)
  have t4 := (hb1.cell (p := ⟨tb, i.toNat * 4 + 1, none⟩) (World.block_lt_of_cell? _ _ T3.out)).trans T3.out
  have hs1 : w.heap.size < w1.heap.size := lt_of_block Z1.out
  have KN := Lib.hid (number_any n)
  clear hb1 t0 t1 t2 t3
  go_wp2_with fail
  refine (KN.out _).mono ?_
  rintro e w3 ⟨rfl, hb3⟩
  have B3 := Lib.hid (B1.out.trans (hb3.mono B1.out.size))
  have Z3 := Lib.hid ((hb3.block w.heap.size hs1).trans Z1.out)
  obtain ⟨⟨y0, y1, y2⟩, f0, f1, f2⟩ := look3 Z3.out
  clear hb3
  go_wp2
  exact bodyPost_ret (res_v rfl _ _ w.heap.size _ _ _ rfl (put3 Z3.out _ _ _)) rfl (by rw [← HN.out]; exact ⟨rfl, F, HH.out.below (put3_below B3.out (Nat.le_refl _) _ _ _), Stp.of_below (put3_below B3.out (Nat.le_refl _) _ _ _)⟩)
set_option maxHeartbeats 1000000 in
theorem sure_slen (k i : Int) (s : ByteArray) (v : Value) (S : Nat → Prop) (hb : Nat) (T : List (Int × List PV)) (F : Nat → Prop) (w : World) (hH : HeapM w hb T F) (hP : InP w S [⟨k, i, s⟩] v) (h0 : 0 ≤ i) (hj : i.toNat < T.length) :
    Calls Tryd.prog 55 #[.pointer (some ⟨hb, 0, none⟩), .string ⟨#[115, 116, 114, 105, 110, 103, 45, 108, 101, 110, 103, 116, 104]⟩, v] w fun e w' => SureOk w hb F ⟨1, (T[i.toNat].2.length : Int), ⟨#[]⟩⟩ T e w' := by
  obtain ⟨b, o, c, rfl, hc1, hc2, hbl, ⟨c0, c1, c2⟩, ok⟩ := one_arg hP
  have mv := new_cells w (.cells #[.int .i64 0, .int .i64 0, .string ⟨#[]⟩] 36) b hbl
  replace c0 := (mv _).trans c0
  replace c1 := (mv _).trans c1
  replace c2 := (mv _).trans c2
  have Z := Lib.hid (heap_alloc_new w (.cells #[.int .i64 0, .int .i64 0, .string ⟨#[]⟩] 36))
  have B0 := Lib.hid ((Below.refl w.heap.size w).alloc (Nat.le_refl _) (.cells #[.int .i64 0, .int .i64 0, .string ⟨#[]⟩] 36))
  have hs0 := size_new w (.cells #[.int .i64 0, .int .i64 0, .string ⟨#[]⟩] 36)
  have HH := Lib.hid hH
  unfold maxLen at hc2
  clear hH hP mv ok
  obtain ⟨n, HN⟩ : ∃ n, Hid (n = (T[i.toNat].2.length : Int)) := ⟨_, Lib.hid rfl⟩
  go_enter Tryd.func55, Tryd.ntmps55
  go_wp2_with fail
  generalize w.alloc (.cells #[.int .i64 0, .int .i64 0, .string ⟨#[]⟩] 36) = w0 at *
  obtain ⟨tb, cap, g, pv, mm, t0, t1, t2, -, t3, -⟩ := (HH.out.below B0.out).thing i.toNat hj
  rw [← HN.out] at t3
  have T3 := Lib.hid t3
  have hlt : i < (T.length : Int) := by omega
  refine (thingOf_any k i s hb tb T.length cap w0 t0 h0 hlt t1 t2).mono ?_
  rintro e w1 ⟨rfl, hb1⟩
  have B1 := Lib.hid (B0.out.trans (hb1.mono B0.out.size))
  have Z1 := Lib.hid ((hb1.block w.heap.size (by omega)).trans Z.out)
  have t4 := (hb1.cell (p := ⟨tb, i.toNat * 4 + 1, none⟩) (World.block_lt_of_cell? _ _ T3.out)).trans T3.out
  have hs1 : w.heap.size < w1.heap.size := lt_of_block Z1.out
  have KN := Lib.hid (number_any n)
  clear hb1 t0 t1 t2 t3
  go_wp2_with fail
  refine (KN.out _).mono ?_
  rintro e w3 ⟨rfl, hb3⟩
  have B3 := Lib.hid (B1.out.trans (hb3.mono B1.out.size))
  have Z3 := Lib.hid ((hb3.block w.heap.size hs1).trans Z1.out)
  obtain ⟨⟨y0, y1, y2⟩, f0, f1, f2⟩ := look3 Z3.out
  clear hb3
  go_wp2
  exact bodyPost_ret (res_v rfl _ _ w.heap.size _ _ _ rfl (put3 Z3.out _ _ _)) rfl (by rw [← HN.out]; exact ⟨rfl, F, HH.out.below (put3_below B3.out (Nat.le_refl _) _ _ _), Stp.of_below (put3_below B3.out (Nat.le_refl _) _ _ _)⟩)
set_option maxHeartbeats 1000000 in
theorem done_vlen (k i : Int) (s : ByteArray) (hb : Nat) (T : List (Int × List PV)) (F : Nat → Prop) (w0 : World) (hR : RecOk w0) (h0 : 0 ≤ i) (hj : i.toNat < T.length) :
    DoneOk ⟨#[118, 101, 99, 116, 111, 114, 45, 108, 101, 110, 103, 116, 104]⟩ hb T F [⟨k, i, s⟩] (⟨1, (T[i.toNat].2.length : Int), ⟨#[]⟩⟩, 0, T) w0 := by
  intro w S v hw hH hF hP
  have Z := Lib.hid (heap_alloc_new w (.cells #[.int .i64 0, .int .i64 0, .string ⟨#[]⟩] 36))
  have B0 := Lib.hid ((Below.refl w.heap.size w).alloc (Nat.le_refl _) (.cells #[.int .i64 0, .int .i64 0, .string ⟨#[]⟩] 36))
  have KS0 := sure_vlen k i s v S hb T F _ (hH.below B0.out) (hP.belowP B0.out) h0 hj
  generalize (T[i.toNat].2.length : Int) = n at *
  have KS := Lib.hid KS0
  have HF := Lib.hid hF
  have KO := Lib.hid (op_none ⟨#[118, 101, 99, 116, 111, 114, 45, 108, 101, 110, 103, 116, 104]⟩ _ ((hR.at hw).at B0.out) (by kernel_rfl) (by kernel_rfl) (by kernel_rfl) (by kernel_rfl) (by kernel_rfl))
  clear hw hH hF hP hR KS0
  go_enter Tryd.func29, Tryd.ntmps29
  go_wp2_with fail
  refine KO.out.mono ?_
  rintro e w1 ⟨rfl, rfl⟩
  go_wp2_with fail
  refine KS.out.mono ?_
  rintro e w2 ⟨rfl, F', q1, q2⟩
  obtain ⟨e3, Q, E⟩ := after_call (u := ⟨1, n, ⟨#[]⟩⟩) (err := 0) (r := (⟨1, n, ⟨#[]⟩⟩, 0, T)) B0.out (Nat.le_refl _) HF.out Z.out ⟨F', q1, q2⟩ rfl
  obtain ⟨⟨y0, y1, y2⟩, f0, f1, f2⟩ := look3 e3
  have HQ := Lib.hid Q
  have HE := Lib.hid E
  clear e3 Q E q1 q2
  go_wp2
  exact bodyPost_ret (res_ve (t := 7) (p := 6) rfl _ _ w.heap.size _ _ _ rfl HE.out) rfl HQ.out
set_option maxHeartbeats 1000000 in
theorem done_slen (k i : Int) (s : ByteArray) (hb : Nat) (T : List (Int × List PV)) (F : Nat → Prop) (w0 : World) (hR : RecOk w0) (h0 : 0 ≤ i) (hj : i.toNat < T.length) :
    DoneOk ⟨#[115, 116, 114, 105, 110, 103, 45, 108, 101, 110, 103, 116, 104]⟩ hb T F [⟨k, i, s⟩] (⟨1, (T[i.toNat].2.length : Int), ⟨#[]⟩⟩, 0, T) w0 := by
  intro w S v hw hH hF hP
  have Z := Lib.hid (heap_alloc_new w (.cells #[.int .i64 0, .int .i64 0, .string ⟨#[]⟩] 36))
  have B0 := Lib.hid ((Below.refl w.heap.size w).alloc (Nat.le_refl _) (.cells #[.int .i64 0, .int .i64 0, .string ⟨#[]⟩] 36))
  have KS0 := sure_slen k i s v S hb T F _ (hH.below B0.out) (hP.belowP B0.out) h0 hj
  generalize (T[i.toNat].2.length : Int) = n at *
  have KS := Lib.hid KS0
  have HF := Lib.hid hF
  have KO := Lib.hid (op_none ⟨#[115, 116, 114, 105, 110, 103, 45, 108, 101, 110, 103, 116, 104]⟩ _ ((hR.at hw).at B0.out) (by kernel_rfl) (by kernel_rfl) (by kernel_rfl) (by kernel_rfl) (by kernel_rfl))
  clear hw hH hF hP hR KS0
  go_enter Tryd.func29, Tryd.ntmps29
  go_wp2_with fail
  refine KO.out.mono ?_
  rintro e w1 ⟨rfl, rfl⟩
  go_wp2_with fail
  refine KS.out.mono ?_
  rintro e w2 ⟨rfl, F', q1, q2⟩
  obtain ⟨e3, Q, E⟩ := after_call (u := ⟨1, n, ⟨#[]⟩⟩) (err := 0) (r := (⟨1, n, ⟨#[]⟩⟩, 0, T)) B0.out (Nat.le_refl _) HF.out Z.out ⟨F', q1, q2⟩ rfl
  obtain ⟨⟨y0, y1, y2⟩, f0, f1, f2⟩ := look3 e3
  have HQ := Lib.hid Q
  have HE := Lib.hid E
  clear e3 Q E q1 q2
  go_wp2
  exact bodyPost_ret (res_ve (t := 7) (p := 6) rfl _ _ w.heap.size _ _ _ rfl HE.out) rfl HQ.out
set_option maxHeartbeats 1000000 in
theorem done_i2c (k i : Int) (s : ByteArray) (hb : Nat) (T : List (Int × List PV)) (F : Nat → Prop) (w0 : World) (r : PV × Int × List (Int × List PV)) (hr : Hid (r = if 0 ≤ i ∧ i ≤ 255 then (⟨2, i, ⟨#[]⟩⟩, 0, T) else (⟨0, 0, ⟨#[]⟩⟩, 83, T))) :
    DoneOk ⟨#[105, 110, 116, 101, 103, 101, 114, 45, 62, 99, 104, 97, 114]⟩ hb T F [⟨k, i, s⟩] r w0 := by
  intro w S v _ hH hF hP
  obtain ⟨b, o, c, rfl, hc1, hc2, hbl, ⟨c0, c1, c2⟩, ok⟩ := one_arg hP
  have mv := new_cells w (.cells #[.int .i64 0, .int .i64 0, .string ⟨#[]⟩] 36) b hbl
  replace c0 := (mv _).trans c0
  replace c1 := (mv _).trans c1
  replace c2 := (mv _).trans c2
  have Z := Lib.hid (heap_alloc_new w (.cells #[.int .i64 0, .int .i64 0, .string ⟨#[]⟩] 36))
  have B0 := Lib.hid ((Below.refl w.heap.size w).alloc (Nat.le_refl _) (.cells #[.int .i64 0, .int .i64 0, .string ⟨#[]⟩] 36))
  have HH := Lib.hid hH
  have HF := Lib.hid hF
  obtain ⟨⟨uk, ui, us⟩, err, HU, HR⟩ : ∃ (u : PV) (err : Int), Hid ((u, err) = if 0 ≤ i ∧ i ≤ 255 then ((⟨2, i, ⟨#[]⟩⟩ : PV), (0 : Int)) else (⟨0, 0, ⟨#[]⟩⟩, 83)) ∧ Hid (r = (u, err, T)) := by
    rw [hr.out]
    by_cases h : 0 ≤ i ∧ i ≤ 255
    · exact ⟨⟨2, i, ⟨#[]⟩⟩, 0, Lib.hid (if_pos h).symm, Lib.hid (if_pos h)⟩
    · exact ⟨⟨0, 0, ⟨#[]⟩⟩, 83, Lib.hid (if_neg h).symm, Lib.hid (if_neg h)⟩
  have KC := Lib.hid (fun W => charOf_any i W ⟨uk, ui, us⟩ err HU)
  unfold maxLen at hc2
  clear hH hF hP mv ok hr HU
  go_enter Tryd.func29, Tryd.ntmps29
  go_wp2_with fail
  generalize w.alloc (.cells #[.int .i64 0, .int .i64 0, .string ⟨#[]⟩] 36) = w1 at *
  refine (KC.out _).mono ?_
  rintro e w2 ⟨he, hb2⟩
  unfold VE at he
  subst he
  obtain ⟨e3, Q, E⟩ := after_call (u := ⟨uk, ui, us⟩) (err := err) (r := r) B0.out (Nat.le_refl _) HF.out Z.out ⟨F, (HH.out.below B0.out).below hb2, Stp.of_below hb2⟩ HR.out
  obtain ⟨⟨y0, y1, y2⟩, f0, f1, f2⟩ := look3 e3
  have HQ := Lib.hid Q
  have HE := Lib.hid E
  clear e3 Q E hb2
  go_wp2
  exact bodyPost_ret (res_ve (t := 7) (p := 6) rfl _ _ w.heap.size _ _ _ rfl HE.out) rfl HQ.out
end Go.Proofs.YtpejhilfopjckaaDoor.Hp
