/-
The document's tell of any value, as the function tellF says; its Tell. No condition but that the heap lies in memory and its things are such as calls make.
-/
import Derived.Test.YtpejhilfopjckaaDoorQ92
import Derived.Test.YtpejhilfopjckaaDoorQGo
namespace Go.Proofs.YtpejhilfopjckaaDoor.Hp
open Go.ChangeShapes Go.WideShapes Go.ChangeAt Go.RowKit Go.Deep
open Dat (PT ok64 RepV RepS RowX infoDatum NewV NewS makeT MakeOk numT numsT)
set_option maxRecDepth 100000

theorem rtell_step {hb : Nat} {T : List (Int × List PV)} {F : Nat → Prop} (hW : WfT T) (f : Nat) (HV : RValF hb T F f) : RValF hb T F (f + 1) := by
  rintro ⟨k, i, s⟩ m n w hhas hok hm hn hf hH hFb
  dsimp only
  by_cases hfail : 200 ≤ n ∨ 32 < m
  · rw [tellF, if_pos hfail]
    exact rtell_fail k i s hb m n hfail w
  have hn' : n < 200 := by omega
  have hm' : m ≤ 32 := by omega
  by_cases h8 : k = 8
  · subst h8
    have hix : 0 ≤ i ∧ i < (T.length : Int) := by
      unfold hasB numB at hhas
      simp at hhas
      omega
    have hj : i.toNat < T.length := by omega
    have hT : T[i.toNat]? = some T[i.toNat] := List.getElem?_eq_getElem hj
    rw [tellF_thing hn' hm' hT]
    obtain ⟨w1, w2, w3, w4, w5⟩ := hW _ (List.getElem_mem hj)
    generalize T[i.toNat] = t at hT w1 w2 w3 w4 w5
    obtain ⟨kd, l⟩ := t
    dsimp only at w1 w2 w3 w4 w5 ⊢
    have hkd : kd = 0 ∨ kd = 1 ∨ kd = 2 ∨ kd = 3 ∨ kd = 4 := by omega
    rcases hkd with rfl | rfl | rfl | rfl | rfl
    · exact rtell_row i s hb m n T F hm' hn' hix.1 l 0 (.inl rfl) w3 hT f (by omega) HV hW w4 w hH hFb _ rfl
    · exact rtell_row i s hb m n T F hm' hn' hix.1 l 1 (.inr rfl) w3 hT f (by omega) HV hW w4 w hH hFb _ rfl
    · exact rtell_str i s hb m n T F hm' hn' hix.1 l hT w4 w hH hFb _ rfl
    · exact rtell_box i s hb m n T F hm' hn' hix.1 l hT w4 w hH hFb _ rfl
    · exact rtell_proc i s hb m n T F hm' hn' hix.1 l hT w4 w hH hFb _ rfl
  · have hk : 0 ≤ k ∧ k ≤ 7 := by
      unfold hasB at hhas
      dsimp only at hhas
      rcases kind9 k with h | h | h | h | h | h | h | h | h | h
      all_goals first | omega | skip
      rw [if_neg (by omega), if_neg (by omega), if_neg (by omega), if_neg (by omega), if_neg (by omega), if_neg (by omega)] at hhas
      cases hhas
    rw [tellF, if_neg hfail, if_pos h8]
    exact rtell_leaf k i s hk.1 hk.2 hok hb m n hm' hn' w
theorem rtell_all {hb : Nat} {T : List (Int × List PV)} {F : Nat → Prop} (hW : WfT T) : ∀ f : Nat, RValF hb T F f
  | 0 => fun v m n w _ _ _ hn hf _ _ => rtell_fail v.k v.i v.s hb m n (by omega) w
  | f + 1 => rtell_step hW f (rtell_all hW f)
theorem RTelRes.is {W : World} {C : Nat} {T : List (Int × List PV)} {v : PV} (hv : hasB T.length v = true) {k i sn : Int} {s : ByteArray} {x : Value} {ok : Bool} (h : RTelRes W C (tellF T 200 v 0 0) k i s x sn ok) : ∃ l, (tellT T v).1 = .mk k i s l ∧ (tellT T v).2 = ok ∧ NewV W C (.mk k i s l) x := by
  unfold tellT
  rw [if_pos hv]
  cases hr : tellF T 200 v 0 0 with
  | none =>
    rw [hr] at h
    obtain ⟨rfl, rfl, rfl, rfl, rfl⟩ := h
    exact ⟨[], rfl, rfl, new_zero _ _⟩
  | some p =>
    obtain ⟨d, n⟩ := p
    rw [hr] at h
    obtain ⟨rfl, -, l, rfl, hn⟩ := h
    exact ⟨l, rfl, rfl, hn⟩
theorem RTelRes.zero {W : World} {C : Nat} {r : Option (PT × Nat)} {k i sn : Int} {s : ByteArray} {x : Value} (h : RTelRes W C r k i s x sn false) : k = 0 ∧ i = 0 ∧ s = ⟨#[]⟩ ∧ x = .slice none 0 0 := by
  match r, h with
  | none, h => exact h.2
  | some (d, n), h => exact absurd h.1 (by decide)
theorem newV_put {W : World} {C C' R : Nat} {d : PT} {x : Value} (h : NewV W C d x) (hC : C' ≤ C) (hR : R < C) (y0 y1 y2 y3 : Value) : NewV ((((W.setCell ⟨R, 0, none⟩ y0).setCell ⟨R, 1, none⟩ y1).setCell ⟨R, 2, none⟩ y2).setCell ⟨R, 3, none⟩ y3) C' d x :=
  h.move hC fun b o v hb hv => (World.cell?_of_block (w := W) (a := ⟨b, o, none⟩) (put4_other _ _ _ _ (show b ≠ R by omega))).trans hv
set_option maxHeartbeats 2000000 in
theorem rtells_any (k i : Int) (s : ByteArray) (hb : Nat) (T : List (Int × List PV)) (F : Nat → Prop) (w : World) (hW : WfT T) (hH : HeapR w hb T F) (hF : ∀ b, F b → b < w.heap.size) (ho : okV ⟨k, i, s⟩) :
    Calls Tryd.prog 16 #[.pointer (some ⟨hb, 0, none⟩), .agg #[.int .i64 k, .int .i64 i, .string s]] w fun e w' => TellIs w.heap.size (tellT T ⟨k, i, s⟩) e w' ∧ Below w.heap.size w w' := by
  obtain ⟨Z0, Z1, B0⟩ := two_new w (.cells #[.int .i64 k, .int .i64 i, .string s] 36) (.cells #[.int .i64 0, .int .i64 0, .string ⟨#[]⟩, .slice none 0 0] 50)
  have hs0 : ((w.alloc (.cells #[.int .i64 k, .int .i64 i, .string s] 36)).alloc (.cells #[.int .i64 0, .int .i64 0, .string ⟨#[]⟩, .slice none 0 0] 50)).heap.size = w.heap.size + 1 + 1 := by rw [size_new, size_new]
  have KM0 := rmay_any k i s hb T.length _ ho.2.2 (LenM.below hH.len B0)
  have HH := Lib.hid hH
  have HF := Lib.hid hF
  have HS0 := Lib.hid hs0
  have HB0 := Lib.hid B0
  have HZ0 := Lib.hid Z0
  have HZ1 := Lib.hid Z1
  have HO := Lib.hid ho
  have HWF := Lib.hid hW
  clear hH hF hs0 B0 ho hW
  obtain ⟨⟨x0, x1, x2⟩, -⟩ := look3 Z0
  clear Z0 Z1
  by_cases hv : hasB T.length ⟨k, i, s⟩ = true
  · have HV := Lib.hid hv
    rw [hv] at KM0
    have KM := Lib.hid KM0
    clear hv KM0
    go_enter Tryd.func16, Tryd.ntmps16
    go_wp2_with fail
    generalize (w.alloc (.cells #[.int .i64 k, .int .i64 i, .string s] 36)).alloc (.cells #[.int .i64 0, .int .i64 0, .string ⟨#[]⟩, .slice none 0 0] 50) = w0 at *
    refine KM.out.mono ?_
    rintro e w1 ⟨rfl, hb1⟩
    have B1 := Lib.hid (HB0.out.trans (hb1.mono HB0.out.size))
    have hs1 : w.heap.size + 1 + 1 ≤ w1.heap.size := by have := hb1.size; have := HS0.out; omega
    obtain ⟨⟨u0, u1, u2⟩, -⟩ := look3 ((hb1.block w.heap.size (by rw [HS0.out]; omega)).trans HZ0.out)
    have Y1 := Lib.hid ((hb1.block (w.heap.size + 1) (by rw [HS0.out]; omega)).trans HZ1.out)
    have KT0 := rtell_all (hb := hb) (F := F) HWF.out 200 ⟨k, i, s⟩ 0 0 w1 HV.out HO.out (by omega) (by omega) (by omega) (HH.out.below B1.out) (fun b hf => by have := HF.out b hf; omega)
    rw [show ((0 : Nat) : Int) = 0 from rfl] at KT0
    have KT := Lib.hid KT0
    clear hb1 x0 x1 x2 KT0 KM
    go_wp2_with fail
    refine KT.out.mono ?_
    rintro e w3 ⟨dk, di, ds, za, zn, zc, sn, ok, rfl, hres, hb3⟩
    obtain ⟨l, ht1, ht2, hN⟩ := hres.is HV.out
    have hz : ok = false → dk = 0 ∧ di = 0 ∧ ds = ⟨#[]⟩ ∧ Value.slice za zn zc = .slice none 0 0 := by rintro rfl; exact hres.zero
    have hs3 := hb3.size
    have A3 := (Below.refl w3.heap.size w3).alloc (Nat.le_refl _) (.cells #[.int .i64 dk, .int .i64 di, .string ds, .slice za zn zc] 50)
    have Z3 := heap_alloc_new w3 (.cells #[.int .i64 dk, .int .i64 di, .string ds, .slice za zn zc] 50)
    have s3 := size_new w3 (.cells #[.int .i64 dk, .int .i64 di, .string ds, .slice za zn zc] 50)
    have E3 := (A3.block (w.heap.size + 1) (by omega)).trans ((hb3.block (w.heap.size + 1) (by omega)).trans Y1.out)
    have hN3 : NewV (w3.alloc (.cells #[.int .i64 dk, .int .i64 di, .string ds, .slice za zn zc] 50)) w1.heap.size (.mk dk di ds l) (.slice za zn zc) := hN.move (Nat.le_refl _) fun b o v hb hv => cell_below A3 hv
    have HB3 := Lib.hid ((B1.out.trans (hb3.mono B1.out.size)).trans (A3.mono (by omega)))
    obtain ⟨⟨p0, p1, p2, p3⟩, -⟩ := look4 Z3
    obtain ⟨⟨y0, y1, y2, y3⟩, f0, f1, f2, f3⟩ := look4 E3
    have HHZ := Lib.hid Z3
    have HE3 := Lib.hid E3
    have HT1 := Lib.hid ht1
    have HT2 := Lib.hid ht2
    have HN3 := Lib.hid hN3
    clear u0 u1 u2 hres hN A3 Z3 s3 E3 hN3 hb3 ht1 ht2
    cases ok
    · obtain ⟨rfl, rfl, rfl, hz4⟩ := hz rfl
      cases hz4
      go_upto_region 4 with fail
      generalize w3.alloc (.cells #[.int .i64 0, .int .i64 0, .string ⟨#[]⟩, .slice none 0 0] 50) = w4 at *
      have HE := Lib.hid (put4 HE3.out (.int .i64 0) (.int .i64 0) (.string ⟨#[]⟩) (.slice none 0 0))
      have HBE := Lib.hid (put4_below HB3.out (Nat.le_succ _) (.int .i64 0) (.int .i64 0) (.string ⟨#[]⟩) (.slice none 0 0))
      have HNE := Lib.hid (newV_put HN3.out (C' := w.heap.size) (R := w.heap.size + 1) (by omega) (by omega) (.int .i64 0) (.int .i64 0) (.string ⟨#[]⟩) (.slice none 0 0))
      go_wp2
      exact bodyPost_ret (res_db (t := 5) (p := 4) rfl _ _ (w.heap.size + 1) _ _ _ _ rfl HE.out) rfl ⟨⟨0, 0, ⟨#[]⟩, l, none, 0, 0, HT1.out, by rw [HT2.out]; rfl, HNE.out⟩, HBE.out⟩
    · clear hz
      go_upto_region 4 with fail
      generalize w3.alloc (.cells #[.int .i64 dk, .int .i64 di, .string ds, .slice za zn zc] 50) = w4 at *
      have HE := Lib.hid (put4 HE3.out (.int .i64 dk) (.int .i64 di) (.string ds) (.slice za zn zc))
      have HBE := Lib.hid (put4_below HB3.out (Nat.le_succ _) (.int .i64 dk) (.int .i64 di) (.string ds) (.slice za zn zc))
      go_wp2
      exact bodyPost_ret (res_db (t := 5) (p := 4) rfl _ _ (w.heap.size + 1) _ _ _ _ rfl HE.out) rfl ⟨⟨dk, di, ds, l, za, zn, zc, HT1.out, by rw [HT2.out]; rfl, newV_put HN3.out (by omega) (by omega) _ _ _ _⟩, HBE.out⟩
  · have hv' : hasB T.length ⟨k, i, s⟩ = false := by simpa using hv
    rw [hv'] at KM0
    have KM := Lib.hid KM0
    have HT : Hid (tellT T ⟨k, i, s⟩ = (zeroD, false)) := Lib.hid (by unfold tellT; rw [hv']; rfl)
    clear hv hv' KM0
    go_enter Tryd.func16, Tryd.ntmps16
    go_wp2_with fail
    generalize (w.alloc (.cells #[.int .i64 k, .int .i64 i, .string s] 36)).alloc (.cells #[.int .i64 0, .int .i64 0, .string ⟨#[]⟩, .slice none 0 0] 50) = w0 at *
    refine KM.out.mono ?_
    rintro e w1 ⟨rfl, hb1⟩
    have B1 := HB0.out.trans (hb1.mono HB0.out.size)
    have Y1 := (hb1.block (w.heap.size + 1) (by rw [HS0.out]; omega)).trans HZ1.out
    obtain ⟨⟨y0, y1, y2, y3⟩, f0, f1, f2, f3⟩ := look4 Y1
    have HE := Lib.hid (put4 Y1 (.int .i64 0) (.int .i64 0) (.string ⟨#[]⟩) (.slice none 0 0))
    have HB6 := Lib.hid (put4_below B1 (Nat.le_succ _) (.int .i64 0) (.int .i64 0) (.string ⟨#[]⟩) (.slice none 0 0))
    clear hb1 B1 Y1 x0 x1 x2
    go_wp2
    exact bodyPost_ret (res_db (t := 5) (p := 4) rfl _ _ (w.heap.size + 1) _ _ _ _ rfl HE.out) rfl ⟨⟨0, 0, ⟨#[]⟩, [], none, 0, 0, by rw [HT.out]; rfl, by rw [HT.out]; rfl, new_zero _ _⟩, HB6.out⟩
end Go.Proofs.YtpejhilfopjckaaDoor.Hp
