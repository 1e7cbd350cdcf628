/-
Package heap's sure, done of what never fails: cons, eq?; done of what reckons. Where the table of what is reckoned is as the program lays it.
-/
import Derived.Test.YtpejhilfopjckaaDoorQGe
namespace Go.Proofs.YtpejhilfopjckaaDoor.Hp
open Go.ChangeShapes Go.WideShapes Go.ChangeAt Go.RowKit Go.Deep
open Dat (PT ok64 RepV RepS RowX infoDatum)
set_option maxRecDepth 100000

/-- What is behind sure: a value, and the heap. -/
def SureOk (w : World) (hb : Nat) (F : Nat → Prop) (u : PV) (T : List (Int × List PV)) (e : Ending) (w' : World) : Prop := e = .returned (.agg #[.int .i64 u.k, .int .i64 u.i, .string u.s]) ∧ ∃ F', HeapM w' hb T F' ∧ Stp F w F' w'
theorem RecOk.at {w0 w : World} (h : RecOk w0) (hb : Below w0.heap.size w0 w) : RecOk w := h.below hb (by obtain ⟨T, fr, h⟩ := h; have := lt_of_block h; omega)
set_option maxHeartbeats 1000000 in
theorem sure_cons (l : List PV) (v : Value) (S : Nat → Prop) (hb : Nat) (T : List (Int × List PV)) (F : Nat → Prop) (w : World) (hH : HeapM w hb T F) (hF : ∀ b, F b → b < w.heap.size) (hP : InP w S l v) (hl : l.length ≤ 1000) (hT : T.length ≤ 100000) :
    Calls Tryd.prog 55 #[.pointer (some ⟨hb, 0, none⟩), .string ⟨#[99, 111, 110, 115]⟩, v] w fun e w' => SureOk w hb F ⟨8, T.length, ⟨#[]⟩⟩ (T ++ [(0, l)]) e w' := by
  have Z := heap_alloc_new w (.cells #[.int .i64 0, .int .i64 0, .string ⟨#[]⟩] 36)
  have B0 := (Below.refl w.heap.size w).alloc (Nat.le_refl _) (.cells #[.int .i64 0, .int .i64 0, .string ⟨#[]⟩] 36)
  have hPV := hP
  obtain ⟨va, vc, rfl, -⟩ := hPV
  have KC := Lib.hid (clone_any l _ S _ (hP.belowP B0) (by omega))
  have HH := Lib.hid hH
  have HF := Lib.hid hF
  have HZ := Lib.hid Z
  have HB0 := Lib.hid B0
  have hs : (w.alloc (.cells #[.int .i64 0, .int .i64 0, .string ⟨#[]⟩] 36)).heap.size = w.heap.size + 1 := size_new _ _
  have HS := Lib.hid hs
  clear hH hF hP Z B0 hs
  go_enter Tryd.func55, Tryd.ntmps55
  go_wp2_with fail
  refine KC.out.mono ?_
  rintro e w1 ⟨⟨pv, g, rfl, hp, hg⟩, hb1⟩
  have B1 := HB0.out.trans (hb1.mono HB0.out.size)
  have hlt : w.heap.size + 1 ≤ w1.heap.size := by have := hb1.size; rw [HS.out] at this; exact this
  have hgg : l ≠ [] → w.heap.size + 1 ≤ g ∧ g < w1.heap.size := fun h => by have := hg h; rw [HS.out] at this; exact this
  have KA := Lib.hid (add_any 0 l g pv hb T F w1 (HH.out.below B1) (fun b h => by have := HF.out b h; omega) ⟨by decide, by decide⟩ hp (fun h => ⟨fun hf => by have := HF.out g hf; have := (hgg h).1; omega, (hgg h).2⟩) hT)
  have HGG := Lib.hid hgg
  have HB1 := Lib.hid B1
  have HZ1 := Lib.hid ((hb1.block w.heap.size (by rw [HS.out]; omega)).trans HZ.out)
  clear hp hg hb1 B1 hgg
  go_wp2_with fail
  refine KA.out.mono ?_
  rintro e w2 hA
  obtain ⟨rfl, F', q1, q2, q3⟩ := hA.doOk (w := w) HB1.out (fun h => by have := (HGG.out h).1; omega)
  obtain ⟨q4, q5⟩ := q3 w.heap.size (by omega) (fun hf => by have := HF.out _ hf; omega) (fun h e => by have := (HGG.out h).1; omega)
  have E2 := q5.trans HZ1.out
  have HQ := Lib.hid (put_res q1 q2 q4 (Nat.le_refl _) (.int .i64 8) (.int .i64 T.length) (.string ⟨#[]⟩))
  have HE := Lib.hid (put3 E2 (.int .i64 8) (.int .i64 T.length) (.string ⟨#[]⟩))
  obtain ⟨⟨y0, y1, y2⟩, f0, f1, f2⟩ := look3 E2
  clear hA q1 q2 q3 q4 q5 E2
  go_wp2
  have hE := HE.out
  have hQ := HQ.out
  clear HE HQ
  generalize ((w2.setCell ⟨w.heap.size, 0, none⟩ (.int .i64 8)).setCell ⟨w.heap.size, 1, none⟩ (.int .i64 T.length)).setCell ⟨w.heap.size, 2, none⟩ (.string ⟨#[]⟩) = W at hE hQ ⊢
  exact bodyPost_ret (res_v rfl _ _ w.heap.size _ _ _ rfl hE) rfl ⟨rfl, F', hQ.1, hQ.2⟩
set_option maxHeartbeats 1000000 in
theorem done_cons (l : List PV) (hb : Nat) (T : List (Int × List PV)) (F : Nat → Prop) (w0 : World) (hR : RecOk w0) (hl : l.length ≤ 1000) (hT : T.length ≤ 100000) :
    DoneOk ⟨#[99, 111, 110, 115]⟩ hb T F l (⟨8, T.length, ⟨#[]⟩⟩, 0, T ++ [(0, l)]) w0 := by
  intro w S v hw hH hF hP
  have Z := Lib.hid (heap_alloc_new w (.cells #[.int .i64 0, .int .i64 0, .string ⟨#[]⟩] 36))
  have B0 := Lib.hid ((Below.refl w.heap.size w).alloc (Nat.le_refl _) (.cells #[.int .i64 0, .int .i64 0, .string ⟨#[]⟩] 36))
  have hs : (w.alloc (.cells #[.int .i64 0, .int .i64 0, .string ⟨#[]⟩] 36)).heap.size = w.heap.size + 1 := size_new _ _
  have KS := Lib.hid (sure_cons l v S hb T F _ (hH.below B0.out) (fun b h => by rw [hs]; have := hF b h; omega) (hP.belowP B0.out) hl hT)
  have HF := Lib.hid hF
  have KO := Lib.hid (op_none ⟨#[99, 111, 110, 115]⟩ _ ((hR.at hw).at B0.out) (by kernel_rfl) (by kernel_rfl) (by kernel_rfl) (by kernel_rfl) (by kernel_rfl))
  clear hw hH hF hP hR hs
  go_enter Tryd.func29, Tryd.ntmps29
  go_wp2_with fail
  refine KO.out.mono ?_
  rintro e w1 ⟨rfl, rfl⟩
  go_wp2_with fail
  refine KS.out.mono ?_
  rintro e w2 ⟨rfl, F', q1, q2⟩
  obtain ⟨e3, Q, E⟩ := after_call (u := ⟨8, T.length, ⟨#[]⟩⟩) (err := 0) (r := (⟨8, T.length, ⟨#[]⟩⟩, 0, T ++ [(0, l)])) B0.out (Nat.le_refl _) HF.out Z.out ⟨F', q1, q2⟩ rfl
  obtain ⟨⟨y0, y1, y2⟩, f0, f1, f2⟩ := look3 e3
  have HQ := Lib.hid Q
  have HE := Lib.hid E
  clear e3 Q E q1 q2
  go_wp2
  have Q := HQ.out
  have E := HE.out
  clear HQ HE
  generalize ((w2.setCell ⟨w.heap.size, 0, none⟩ (.int .i64 8)).setCell ⟨w.heap.size, 1, none⟩ (.int .i64 T.length)).setCell ⟨w.heap.size, 2, none⟩ (.string ⟨#[]⟩) = W at E Q ⊢
  exact bodyPost_ret (res_ve (t := 7) (p := 6) rfl _ _ w.heap.size _ _ _ rfl E) rfl Q

set_option maxHeartbeats 1000000 in
theorem sure_eqq (k i k' i' : Int) (s s' : ByteArray) (v : Value) (S : Nat → Prop) (hb : Nat) (T : List (Int × List PV)) (F : Nat → Prop) (w : World) (hH : HeapM w hb T F) (_hF : ∀ b, F b → b < w.heap.size) (hP : InP w S [⟨k, i, s⟩, ⟨k', i', s'⟩] v) (r : Bool) (hr : r = decide (k = k' ∧ i = i' ∧ s = s')) :
    Calls Tryd.prog 55 #[.pointer (some ⟨hb, 0, none⟩), .string ⟨#[101, 113, 63]⟩, v] w fun e w' => SureOk w hb F ⟨0, if r then 1 else 0, ⟨#[]⟩⟩ T e w' := by
  obtain ⟨b, o, c, rfl, hc1, hc2, hbl, ⟨c0, c1, c2⟩, ok, ⟨d0, d1, d2⟩, ok'⟩ := two_args hP
  have mv := new_cells w (.cells #[.int .i64 0, .int .i64 0, .string ⟨#[]⟩] 36) b hbl
  replace c0 := (mv _).trans c0
  replace c1 := (mv _).trans c1
  replace c2 := (mv _).trans c2
  replace d0 := (mv _).trans d0
  replace d1 := (mv _).trans d1
  replace d2 := (mv _).trans d2
  have Z := Lib.hid (heap_alloc_new w (.cells #[.int .i64 0, .int .i64 0, .string ⟨#[]⟩] 36))
  have B0 := Lib.hid ((Below.refl w.heap.size w).alloc (Nat.le_refl _) (.cells #[.int .i64 0, .int .i64 0, .string ⟨#[]⟩] 36))
  have HH := Lib.hid hH
  have HR := Lib.hid hr
  unfold maxLen at hc2
  clear hH _hF hP mv ok ok' hr
  have ways : (k = k' ∧ i = i' ∧ s = s') ∨ ¬ k = k' ∨ (k = k' ∧ ¬ i = i') ∨ (k = k' ∧ i = i' ∧ ¬ s.toList = s'.toList) := by
    by_cases h1 : k = k'
    · by_cases h2 : i = i'
      · by_cases h3 : s = s'
        · exact .inl ⟨h1, h2, h3⟩
        · refine .inr (.inr (.inr ⟨h1, h2, fun e => h3 ?_⟩))
          rw [ByteArray.toList_eq, ByteArray.toList_eq] at e
          exact ByteArray.ext (Array.toList_inj.1 e)
      · exact .inr (.inr (.inl ⟨h1, h2⟩))
    · exact .inr (.inl h1)
  rcases ways with ⟨rfl, rfl, rfl⟩ | h | ⟨rfl, h⟩ | ⟨rfl, rfl, h⟩
  · obtain rfl : r = true := by rw [HR.out]; simp
    clear HR
    go_enter Tryd.func55, Tryd.ntmps55
    go_wp2
    generalize w.alloc (.cells #[.int .i64 0, .int .i64 0, .string ⟨#[]⟩] 36) = w1 at *
    go_still_tail 6, (by kernel_rfl)
    change wpList _ _ _ _ _ w1.drew
    have B1 : Hid (Below w.heap.size w w1.drew) := Lib.hid B0.out.drew
    have Z1 : Hid (w1.drew.heap[w.heap.size]? = some (.cells #[.int .i64 0, .int .i64 0, .string ⟨#[]⟩] 36 (0, 0))) := Lib.hid Z.out
    go_wp2_with (go_at_call 75; refine (truth_any true _).mono ?_; rintro e w2 ⟨rfl, hb2⟩; obtain ⟨⟨y0, y1, y2⟩, f0, f1, f2⟩ := look3 ((hb2.block w.heap.size (lt_of_block Z1.out)).trans Z1.out); have E := Lib.hid (put3 ((hb2.block w.heap.size (lt_of_block Z1.out)).trans Z1.out) (.int .i64 0) (.int .i64 1) (.string ⟨#[]⟩)); have B2 := Lib.hid (put3_below (B1.out.trans (hb2.mono B1.out.size)) (Nat.le_refl w.heap.size) (.int .i64 0) (.int .i64 1) (.string ⟨#[]⟩)); clear hb2)
    exact bodyPost_ret (res_v rfl _ _ w.heap.size _ _ _ rfl E.out) rfl ⟨rfl, F, HH.out.below B2.out, Stp.of_below B2.out⟩
  · obtain rfl : r = false := by rw [HR.out]; simp [h]
    clear HR
    go_enter Tryd.func55, Tryd.ntmps55
    go_wp2
    generalize w.alloc (.cells #[.int .i64 0, .int .i64 0, .string ⟨#[]⟩] 36) = w1 at *
    go_still_tail 6, (by kernel_rfl)
    change wpList _ _ _ _ _ w1.drew
    have B1 : Hid (Below w.heap.size w w1.drew) := Lib.hid B0.out.drew
    have Z1 : Hid (w1.drew.heap[w.heap.size]? = some (.cells #[.int .i64 0, .int .i64 0, .string ⟨#[]⟩] 36 (0, 0))) := Lib.hid Z.out
    go_wp2_with (go_at_call 75; refine (truth_any false _).mono ?_; rintro e w2 ⟨rfl, hb2⟩; obtain ⟨⟨y0, y1, y2⟩, f0, f1, f2⟩ := look3 ((hb2.block w.heap.size (lt_of_block Z1.out)).trans Z1.out); have E := Lib.hid (put3 ((hb2.block w.heap.size (lt_of_block Z1.out)).trans Z1.out) (.int .i64 0) (.int .i64 0) (.string ⟨#[]⟩)); have B2 := Lib.hid (put3_below (B1.out.trans (hb2.mono B1.out.size)) (Nat.le_refl w.heap.size) (.int .i64 0) (.int .i64 0) (.string ⟨#[]⟩)); clear hb2)
    exact bodyPost_ret (res_v rfl _ _ w.heap.size _ _ _ rfl E.out) rfl ⟨rfl, F, HH.out.below B2.out, Stp.of_below B2.out⟩
  · obtain rfl : r = false := by rw [HR.out]; simp [h]
    clear HR
    go_enter Tryd.func55, Tryd.ntmps55
    go_wp2
    generalize w.alloc (.cells #[.int .i64 0, .int .i64 0, .string ⟨#[]⟩] 36) = w1 at *
    go_still_tail 6, (by kernel_rfl)
    change wpList _ _ _ _ _ w1.drew
    have B1 : Hid (Below w.heap.size w w1.drew) := Lib.hid B0.out.drew
    have Z1 : Hid (w1.drew.heap[w.heap.size]? = some (.cells #[.int .i64 0, .int .i64 0, .string ⟨#[]⟩] 36 (0, 0))) := Lib.hid Z.out
    go_wp2_with (go_at_call 75; refine (truth_any false _).mono ?_; rintro e w2 ⟨rfl, hb2⟩; obtain ⟨⟨y0, y1, y2⟩, f0, f1, f2⟩ := look3 ((hb2.block w.heap.size (lt_of_block Z1.out)).trans Z1.out); have E := Lib.hid (put3 ((hb2.block w.heap.size (lt_of_block Z1.out)).trans Z1.out) (.int .i64 0) (.int .i64 0) (.string ⟨#[]⟩)); have B2 := Lib.hid (put3_below (B1.out.trans (hb2.mono B1.out.size)) (Nat.le_refl w.heap.size) (.int .i64 0) (.int .i64 0) (.string ⟨#[]⟩)); clear hb2)
    exact bodyPost_ret (res_v rfl _ _ w.heap.size _ _ _ rfl E.out) rfl ⟨rfl, F, HH.out.below B2.out, Stp.of_below B2.out⟩
  · obtain rfl : r = false := by
      rw [HR.out]
      simp only [true_and, decide_eq_false_iff_not]
      rintro rfl
      exact h rfl
    clear HR
    have h' : (s.toList == s'.toList) = false := by simpa using h
    go_enter Tryd.func55, Tryd.ntmps55
    go_wp2
    generalize w.alloc (.cells #[.int .i64 0, .int .i64 0, .string ⟨#[]⟩] 36) = w1 at *
    go_still_tail 6, (by kernel_rfl)
    change wpList _ _ _ _ _ w1.drew
    have B1 : Hid (Below w.heap.size w w1.drew) := Lib.hid B0.out.drew
    have Z1 : Hid (w1.drew.heap[w.heap.size]? = some (.cells #[.int .i64 0, .int .i64 0, .string ⟨#[]⟩] 36 (0, 0))) := Lib.hid Z.out
    go_wp2_with (go_at_call 75; refine (truth_any false _).mono ?_; rintro e w2 ⟨rfl, hb2⟩; obtain ⟨⟨y0, y1, y2⟩, f0, f1, f2⟩ := look3 ((hb2.block w.heap.size (lt_of_block Z1.out)).trans Z1.out); have E := Lib.hid (put3 ((hb2.block w.heap.size (lt_of_block Z1.out)).trans Z1.out) (.int .i64 0) (.int .i64 0) (.string ⟨#[]⟩)); have B2 := Lib.hid (put3_below (B1.out.trans (hb2.mono B1.out.size)) (Nat.le_refl w.heap.size) (.int .i64 0) (.int .i64 0) (.string ⟨#[]⟩)); clear hb2)
    exact bodyPost_ret (res_v rfl _ _ w.heap.size _ _ _ rfl E.out) rfl ⟨rfl, F, HH.out.below B2.out, Stp.of_below B2.out⟩
end Go.Proofs.YtpejhilfopjckaaDoor.Hp
