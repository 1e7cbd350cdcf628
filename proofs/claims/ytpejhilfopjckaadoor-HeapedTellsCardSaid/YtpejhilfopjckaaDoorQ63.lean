/-
The document's reckoned and filled. No condition but that its heap lies in memory, and a bound on how many things there are.
-/
import Derived.Test.YtpejhilfopjckaaDoorQ62
import Derived.Test.YtpejhilfopjckaaDoorQGc
namespace Go.Proofs.YtpejhilfopjckaaDoor.Hp
open Go.ChangeShapes Go.WideShapes Go.ChangeAt Go.RowKit Go.Deep
open Dat (PT ok64 RepV RepS RowX infoDatum)
set_option maxRecDepth 100000

theorem rword_any (op a b : Int) (w : World) (h0 : 0 ≤ op) (h4 : op ≤ 4) (ha : Num a) (hb : Num b) :
    Calls Tryd.prog 56 #[.int .i64 op, .int .i64 (8 * a), .int .i64 (8 * b)] w fun e w' => e = .returned (.tuple #[.int .i64 (wordT op a b).1, .int .i64 (wordT op a b).2]) ∧ ∃ n, w' = w.drewN n := by
  have ans : ∀ v, v = opv op a b → ¬ ((op = 3 ∨ op = 4) ∧ b = 0) → isAns v (wordT op a b).1 (wordT op a b).2 := fun v hv hn => by
    subst hv
    unfold wordT
    rw [if_neg hn]
    by_cases h : -1152921504606846976 ≤ opv op a b ∧ opv op a b ≤ 1152921504606846975
    · rw [if_pos h]; exact .inl ⟨h, rfl, rfl⟩
    · rw [if_neg h]; exact .inr ⟨h, rfl, rfl⟩
  have h5 : op = 0 ∨ op = 1 ∨ op = 2 ∨ op = 3 ∨ op = 4 := by omega
  rcases h5 with rfl | rfl | rfl | rfl | rfl
  · exact rrk_add a b _ _ w ha hb (ans _ (by simp [opv]) (by omega))
  · exact rrk_sub a b _ _ w ha hb (ans _ (by simp [opv]) (by omega))
  · exact rrk_mul a b _ _ w ha hb (ans _ (by simp [opv]) (by omega))
  · by_cases hz : b = 0
    · have := rrk_zero 3 a b w ha hb (.inl rfl) (by simpa using hz)
      rwa [show wordT 3 a b = (0, 11) from if_pos ⟨.inl rfl, hz⟩]
    · exact rrk_quo a b _ _ w ha hb (by simpa using hz) hz (ans _ (by rw [num_tdiv a b ha]; simp [opv]) (by omega))
  · by_cases hz : b = 0
    · have := rrk_zero 4 a b w ha hb (.inr rfl) (by simpa using hz)
      rwa [show wordT 4 a b = (0, 11) from if_pos ⟨.inr rfl, hz⟩]
    · exact rrk_rem a b _ _ w ha hb (by simpa using hz) hz (ans _ (by simp [opv]) (by omega))
set_option maxHeartbeats 1000000 in
theorem rreckoned_any (op a b : Int) (ka kb : Int) (sa sb : ByteArray) (w : World) (h0 : 0 ≤ op) (h4 : op ≤ 4) (ha : Num a) (hb : Num b) :
    Calls Tryd.prog 32 #[.int .i64 op, .agg #[.int .i64 ka, .int .i64 a, .string sa], .agg #[.int .i64 kb, .int .i64 b, .string sb]] w fun e w' => e = VE (recT op a b).1 (recT op a b).2 ∧ Below w.heap.size w w' := by
  obtain ⟨Z0, Z1, Z2, B0⟩ := three_new w (.cells #[.int .i64 ka, .int .i64 a, .string sa] 36) (.cells #[.int .i64 kb, .int .i64 b, .string sb] 36) (.cells #[.int .i64 0, .int .i64 0, .string ⟨#[]⟩] 36)
  have KR := Lib.hid (fun W => rword_any op a b W h0 h4 ha hb)
  have cases3 : (wordT op a b = (0, 11) ∧ recT op a b = (⟨0, 0, ⟨#[]⟩⟩, 82)) ∨ (wordT op a b = (8 * opv op a b, 0) ∧ recT op a b = (⟨1, opv op a b, ⟨#[]⟩⟩, 0) ∧ Num (opv op a b)) ∨ (wordT op a b = (0, 10) ∧ recT op a b = (⟨0, 0, ⟨#[]⟩⟩, 81)) := by
    unfold wordT recT
    by_cases hz : (op = 3 ∨ op = 4) ∧ b = 0
    · rw [if_pos hz, if_pos hz]; exact .inl ⟨rfl, rfl⟩
    · rw [if_neg hz, if_neg hz]
      by_cases h : -1152921504606846976 ≤ opv op a b ∧ opv op a b ≤ 1152921504606846975
      · rw [if_pos h, if_pos h]; exact .inr (.inl ⟨rfl, rfl, h⟩)
      · rw [if_neg h, if_neg h]; exact .inr (.inr ⟨rfl, rfl⟩)
  have HZ := Lib.hid Z2
  have HB0 := Lib.hid B0
  obtain ⟨⟨z0, z1, z2⟩, -⟩ := look3 Z0
  obtain ⟨⟨q0, q1, q2⟩, -⟩ := look3 Z1
  obtain ⟨a0, a1⟩ := id ha
  obtain ⟨b0, b1⟩ := id hb
  clear Z0 Z1 Z2 B0 ha hb
  rcases cases3 with ⟨e1, e2⟩ | ⟨e1, e2, hn⟩ | ⟨e1, e2⟩
  · rw [e1] at KR
    have HR := Lib.hid e2
    clear e1 e2
    generalize recT op a b = r at *
    generalize opv op a b = q at *
    go_enter Tryd.func32, Tryd.ntmps32
    go_wp2_with fail
    generalize ((w.alloc (.cells #[.int .i64 ka, .int .i64 a, .string sa] 36)).alloc (.cells #[.int .i64 kb, .int .i64 b, .string sb] 36)).alloc (.cells #[.int .i64 0, .int .i64 0, .string ⟨#[]⟩] 36) = w0 at *
    refine (KR.out _).mono ?_
    rintro e w1 ⟨rfl, nd, rfl⟩
    obtain ⟨⟨y0, y1, y2⟩, f0, f1, f2⟩ := look3 (W := w0.drewN nd) HZ.out
    go_wp2
    exact bodyPost_ret (res_ve (t := 7) (p := 6) rfl _ _ (w.heap.size + 1 + 1) _ _ _ rfl (put3 (W := w0.drewN nd) HZ.out _ _ _)) rfl ⟨by rw [HR.out]; rfl, put3_below (Dat.below_drewN HB0.out nd) (by omega) _ _ _⟩
  · rw [e1] at KR
    have HR := Lib.hid e2
    have KV := Lib.hid (fun W => rvalue_8 (opv op a b) W hn)
    have KN := Lib.hid (fun W => rnum_any (opv op a b) W)
    clear e1 e2 hn
    generalize recT op a b = r at *
    generalize opv op a b = q at *
    go_enter Tryd.func32, Tryd.ntmps32
    go_wp2_with fail
    generalize ((w.alloc (.cells #[.int .i64 ka, .int .i64 a, .string sa] 36)).alloc (.cells #[.int .i64 kb, .int .i64 b, .string sb] 36)).alloc (.cells #[.int .i64 0, .int .i64 0, .string ⟨#[]⟩] 36) = w0 at *
    refine (KR.out _).mono ?_
    rintro e w1 ⟨rfl, nd, rfl⟩
    go_wp2_with fail
    refine (KV.out _).mono ?_
    rintro e w1 ⟨rfl, rfl⟩
    go_wp2_with fail
    refine (KN.out _).mono ?_
    rintro e w1 ⟨rfl, hb1⟩
    have E1 := (hb1.block (w.heap.size + 1 + 1) (lt_of_block (w := w0.drewN nd) HZ.out)).trans HZ.out
    have HE1 := Lib.hid E1
    have HB1 := Lib.hid ((Dat.below_drewN HB0.out nd).trans (hb1.mono HB0.out.size))
    obtain ⟨⟨y0, y1, y2⟩, f0, f1, f2⟩ := look3 E1
    clear E1 hb1
    go_wp2
    exact bodyPost_ret (res_ve (t := 7) (p := 6) rfl _ _ (w.heap.size + 1 + 1) _ _ _ rfl (put3 HE1.out _ _ _)) rfl ⟨by rw [HR.out]; rfl, put3_below HB1.out (by omega) _ _ _⟩
  · rw [e1] at KR
    have HR := Lib.hid e2
    clear e1 e2
    generalize recT op a b = r at *
    generalize opv op a b = q at *
    go_enter Tryd.func32, Tryd.ntmps32
    go_wp2_with fail
    generalize ((w.alloc (.cells #[.int .i64 ka, .int .i64 a, .string sa] 36)).alloc (.cells #[.int .i64 kb, .int .i64 b, .string sb] 36)).alloc (.cells #[.int .i64 0, .int .i64 0, .string ⟨#[]⟩] 36) = w0 at *
    refine (KR.out _).mono ?_
    rintro e w1 ⟨rfl, nd, rfl⟩
    obtain ⟨⟨y0, y1, y2⟩, f0, f1, f2⟩ := look3 (W := w0.drewN nd) HZ.out
    go_wp2
    exact bodyPost_ret (res_ve (t := 7) (p := 6) rfl _ _ (w.heap.size + 1 + 1) _ _ _ rfl (put3 (W := w0.drewN nd) HZ.out _ _ _)) rfl ⟨by rw [HR.out]; rfl, put3_below (Dat.below_drewN HB0.out nd) (by omega) _ _ _⟩
theorem repl_cells (v : PV) : ∀ d e : Nat, vCells (repl (d + e) v) = vCells (repl d v) ++ vCells (repl e v) := fun d e => by
  rw [← vCells_append]
  unfold repl
  rw [List.replicate_append_replicate]
theorem putR_res {w W : World} {R hb : Nat} {T : List (Int × List PV)} {F F' : Nat → Prop} (h : HeapR W hb T F') (hs : Stp F w F' W) (hF : ¬ F' R) (hR : w.heap.size ≤ R) (y0 y1 y2 : Value) :
    HeapR (((W.setCell ⟨R, 0, none⟩ y0).setCell ⟨R, 1, none⟩ y1).setCell ⟨R, 2, none⟩ y2) hb T F' ∧ Stp F w F' (((W.setCell ⟨R, 0, none⟩ y0).setCell ⟨R, 1, none⟩ y1).setCell ⟨R, 2, none⟩ y2) := by
  refine ⟨h.move (fun b hb _ => put3_other _ _ _ (fun e => hF (e ▸ hb))) fun _ h => h, ⟨⟨hs.1.1.trans (put3_below (Below.refl 0 W) (Nat.zero_le _) _ _ _), fun b hb hn => ?_⟩, hs.2⟩⟩
  rw [put3_other _ _ _ (by omega)]
  exact hs.1.2 b hb hn
theorem SureR.use {w w' : World} {hb R0 : Nat} {F : Nat → Prop} {u : PV} {T : List (Int × List PV)} {e : Ending} (h : SureR w hb F u T e w') (hR : R0 < w.heap.size) (hn : ¬ F R0) :
    e = .returned (.agg #[.int .i64 u.k, .int .i64 u.i, .string u.s]) ∧ ∃ F', HeapR w' hb T F' ∧ Stp F w F' w' ∧ ¬ F' R0 ∧ w'.heap[R0]? = w.heap[R0]? := by
  obtain ⟨h1, F', h2, h3⟩ := h
  refine ⟨h1, F', h2, h3, fun hf => ?_, h3.1.2 R0 hR hn⟩
  rcases h3.2 R0 hf with h | h
  · exact hn h
  · omega
set_option maxHeartbeats 2000000 in
theorem rfilled_any (kind n : Int) (uk ui : Int) (us : ByteArray) (hu : okV ⟨uk, ui, us⟩) (hb : Nat) (T : List (Int × List PV)) (F : Nat → Prop) (w : World) (h : HeapR w hb T F) (hF : ∀ b, F b → b < w.heap.size) (hk : ok64 kind) (hT : T.length ≤ 100000) :
    Calls Tryd.prog 34 #[.pointer (some ⟨hb, 0, none⟩), .int .i64 kind, .int .i64 n, .agg #[.int .i64 uk, .int .i64 ui, .string us]] w
      fun e w' => DoR w hb F (fillT T kind n ⟨uk, ui, us⟩).1 (fillT T kind n ⟨uk, ui, us⟩).2.1 (fillT T kind n ⟨uk, ui, us⟩).2.2 e w' := by
  obtain ⟨i0, hi, hz0, hz1, hz2⟩ := info_parts infoVal
  obtain ⟨Z0, Z1, B0⟩ := two_new w (.cells #[.int .i64 uk, .int .i64 ui, .string us] 36) (.cells #[.int .i64 0, .int .i64 0, .string ⟨#[]⟩] 36)
  have HH := Lib.hid h
  have HF := Lib.hid hF
  by_cases hin : 0 ≤ n ∧ n ≤ 1000
  · obtain ⟨m, rfl⟩ : ∃ m : Nat, n = m := ⟨n.toNat, by omega⟩
    have hm : m ≤ 1000 := by omega
    have HR : Hid (fillT T kind m ⟨uk, ui, us⟩ = (⟨8, T.length, ⟨#[]⟩⟩, 0, T ++ [(kind, repl m ⟨uk, ui, us⟩)])) := Lib.hid (by unfold fillT; rw [if_pos hin]; simp)
    generalize fillT T kind m ⟨uk, ui, us⟩ = r at HR
    have HZ0 := Lib.hid Z0
    have HZ1 := Lib.hid Z1
    have HB0 := Lib.hid B0
    have m0 : ¬ (m : Int) < 0 := by omega
    have m1 : ¬ (1000 : Int) < (m : Int) := by omega
    clear Z0 Z1 B0 h hF hin
    go_enter Tryd.func34, Tryd.ntmps34
    go_wp2
    have HU : Hid (∀ v ∈ repl m (⟨uk, ui, us⟩ : PV), okV v) := Lib.hid (fun v hv => by rw [List.eq_of_mem_replicate hv]; exact hu)
    have hB1 : Below (w.heap.size + 2) ((w.alloc (.cells #[.int .i64 uk, .int .i64 ui, .string us] 36)).alloc (.cells #[.int .i64 0, .int .i64 0, .string ⟨#[]⟩] 36)) (((w.alloc (.cells #[.int .i64 uk, .int .i64 ui, .string us] 36)).alloc (.cells #[.int .i64 0, .int .i64 0, .string ⟨#[]⟩] 36)).alloc (.cells #[] 36)) := (Below.refl _ _).alloc (by rw [size_new, size_new]; omega) _
    have hsz : ((w.alloc (.cells #[.int .i64 uk, .int .i64 ui, .string us] 36)).alloc (.cells #[.int .i64 0, .int .i64 0, .string ⟨#[]⟩] 36)).heap.size = w.heap.size + 2 := by rw [size_new, size_new]
    have hO : (((w.alloc (.cells #[.int .i64 uk, .int .i64 ui, .string us] 36)).alloc (.cells #[.int .i64 0, .int .i64 0, .string ⟨#[]⟩] 36)).alloc (.cells #[] 36)).ownsRow (w.heap.size + 2) 36 3 (.slice (some ⟨w.heap.size + 1 + 1, 0, none⟩) 0 0) 0 (vCells (repl 0 ⟨uk, ui, us⟩)) :=
      ⟨rfl, .inr ⟨w.heap.size + 1 + 1, 0, #[], rfl, by omega, by have := heap_alloc_new ((w.alloc (.cells #[.int .i64 uk, .int .i64 ui, .string us] 36)).alloc (.cells #[.int .i64 0, .int .i64 0, .string ⟨#[]⟩] 36)) (.cells #[] 36); rwa [hsz] at this, Nat.le_refl _, Nat.zero_le _, rfl, rfl⟩⟩
    generalize ((w.alloc (.cells #[.int .i64 uk, .int .i64 ui, .string us] 36)).alloc (.cells #[.int .i64 0, .int .i64 0, .string ⟨#[]⟩] 36)) = w1 at *
    generalize w1.alloc (.cells #[] 36) = w2 at *
    generalize Value.slice (some ⟨w.heap.size + 1 + 1, 0, none⟩) 0 0 = p0 at *
    go_loopw [10, 11] (fun p x wr => ∃ j : Nat, j ≤ m ∧ x = .int .i64 j ∧ wr.ownsRow (w.heap.size + 2) 36 3 p j (vCells (repl j ⟨uk, ui, us⟩)) ∧ Below (w.heap.size + 2) w1 wr) (fun _ x _ => m - (intOf x).toNat)
    case atStart => exact ⟨0, Nat.zero_le _, rfl, hO, hB1⟩
    case round =>
      obtain ⟨j, hj, rfl, ho, hbr⟩ := hrel
      clear hO hB1
      have hsr : w.heap.size + 2 ≤ wr.heap.size := by have := hbr.size; omega
      have HO := Lib.hid ho
      have HBR := Lib.hid hbr
      have E0 := (hbr.block w.heap.size (by omega)).trans HZ0.out
      have E1 := (hbr.block (w.heap.size + 1) (by omega)).trans HZ1.out
      obtain ⟨⟨x0, x1, x2⟩, -⟩ := look3 E0
      clear ho hbr E0
      by_cases hlt : j < m
      · have hi1 : (j : Int) < (m : Int) := by omega
        have HN := Lib.hid (repl_cells ⟨uk, ui, us⟩ j 1)
        go_wp2_with (at_builtin; refine wpList_append_own _ rfl _ _ 30 rfl (w.heap.size + 2) 36 i0 _ 3 32 Tryd.underlying30 hi hz0 hz1 hz2 rfl (by decide) _ j _ rfl (HO.out.alloc _) ⟨wr.heap.size, 0, none⟩ 1 1 [.int .i64 uk, .int .i64 ui, .string us] rfl rfl (World.news_of_block (heap_alloc_new wr _)) (by intro u hu; simp only [List.mem_cons, List.not_mem_nil, or_false] at hu; rcases hu with rfl | rfl | rfl <;> rfl) (by unfold maxLen; omega) (by omega) (by rw [size_new]; omega) ?_; intro v' w3 ho3 hg3 _)
        exact ⟨⟨j + 1, by omega, by go_num, by rw [HN.out]; exact ho3, HBR.out.trans (((Below.refl _ wr).alloc hsr _).grown hg3 (by rw [size_new]; omega) (fun k hk => (HO.out.lt k hk).1))⟩, by simp [intOf]; omega⟩
      · obtain rfl : j = m := by omega
        have hi1 : ¬ (j : Int) < (j : Int) := by omega
        obtain ⟨g, hp, hg⟩ := parts_of_own (l := repl j ⟨uk, ui, us⟩) (by rw [repl_length]; exact HO.out) HU.out
        obtain ⟨a', c', rfl, _, _⟩ := hp.slice
        have B2 : Below w.heap.size w wr := HB0.out.trans (HBR.out.mono (by omega))
        have KA := Lib.hid (radd_any kind (repl j ⟨uk, ui, us⟩) _ _ hb T F wr (HH.out.below B2) (fun b hf => by have := HF.out b hf; omega) hk hp.inP (by rw [repl_length]; omega) hT)
        have HB2 := Lib.hid B2
        have HE1 := Lib.hid E1
        have hR0 : w.heap.size + 1 < wr.heap.size := by omega
        clear hp hg B2 E1
        go_wp2_with fail
        refine KA.out.mono ?_
        rintro e w4 hA
        obtain ⟨rfl, F', q1, q2, q3, q4⟩ := hA.use hR0 (fun hf => by have := HF.out _ hf; omega)
        have E4 := q4.trans HE1.out
        have Q := putR_res q1 ((Stp.of_below HB2.out).trans q2) q3 (by omega) (.int .i64 8) (.int .i64 T.length) (.string ⟨#[]⟩)
        have HQ := Lib.hid Q
        have HE4 := Lib.hid (put3 E4 (.int .i64 8) (.int .i64 T.length) (.string ⟨#[]⟩))
        obtain ⟨⟨y0, y1, y2⟩, f0, f1, f2⟩ := look3 E4
        clear Q q1 q2 q3 q4 E4 hA KA
        go_wp2
        exact bodyPost_ret (res_ve (t := 9) (p := 8) rfl _ _ (w.heap.size + 1) _ _ _ rfl HE4.out) rfl (by rw [HR.out]; exact ⟨rfl, F', HQ.out.1, HQ.out.2⟩)
  · have HR : Hid (fillT T kind n ⟨uk, ui, us⟩ = (⟨0, 0, ⟨#[]⟩⟩, 83, T)) := Lib.hid (if_neg hin)
    generalize fillT T kind n ⟨uk, ui, us⟩ = r at HR
    obtain ⟨⟨y0, y1, y2⟩, f0, f1, f2⟩ := look3 Z1
    have HZ1 := Lib.hid Z1
    have HB0 := Lib.hid B0
    clear Z0 Z1 B0 h hF
    by_cases m0 : n < 0
    · go_enter Tryd.func34, Tryd.ntmps34
      go_wp2
      exact bodyPost_ret (res_ve (t := 9) (p := 8) rfl _ _ (w.heap.size + 1) _ _ _ rfl HZ1.out) rfl (by rw [HR.out]; exact DoR.of HH.out rfl HB0.out)
    · have m1 : (1000 : Int) < n := by omega
      go_enter Tryd.func34, Tryd.ntmps34
      go_wp2
      exact bodyPost_ret (res_ve (t := 9) (p := 8) rfl _ _ (w.heap.size + 1) _ _ _ rfl HZ1.out) rfl (by rw [HR.out]; exact DoR.of HH.out rfl HB0.out)
end Go.Proofs.YtpejhilfopjckaaDoor.Hp
