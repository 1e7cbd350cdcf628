/-
The document's small functions on values: which may be, a thing's kind, what is reckoned, a thing that is filled. No condition but that its heap lies in memory.
-/
import Derived.Test.YtpejhilfopjckaaDoorQ61
import Derived.Test.YtpejhilfopjckaaDoorQGe
import Derived.Test.YtpejhilfopjckaaDoorWR
namespace Go.Proofs.YtpejhilfopjckaaDoor.Hp
open Go.ChangeShapes Go.WideShapes Go.ChangeAt Go.RowKit Go.Deep
open Dat (PT ok64 RepV RepS RowX infoDatum)
set_option maxRecDepth 100000

theorem numB_off {i : Int} {s : ByteArray} {a b : Int} (h : ¬ s.toList = []) : numB i s a b = false := by unfold numB; simp [h]
theorem numB_on {i : Int} {s : ByteArray} {a b : Int} (h : s.toList = []) : numB i s a b = decide (a ≤ i ∧ i ≤ b) := by unfold numB; simp [h]
set_option maxHeartbeats 2000000 in
theorem rmay_any (k i : Int) (s : ByteArray) (hb n : Nat) (w : World) (hs : s.size ≤ maxLen) (hl : LenM w hb n) :
    Calls Tryd.prog 25 #[.pointer (some ⟨hb, 0, none⟩), .agg #[.int .i64 k, .int .i64 i, .string s]] w fun e w' => e = .returned (.bool (hasB n ⟨k, i, s⟩)) ∧ Below w.heap.size w w' := by
  have HR : Hid (hasB n ⟨k, i, s⟩ = if k = 0 then numB i s 0 1 else if k = 1 then numB i s (-1152921504606846976) 1152921504606846975 else if k = 2 then numB i s 0 255
  else if k = 3 then decide (i = 0) && nameB s.data.toList else if k = 4 ∨ k = 5 ∨ k = 6 ∨ k = 7 then numB i s 0 0 else if k = 8 then numB i s 0 ((n : Int) - 1) else false) := Lib.hid rfl
  generalize hasB n ⟨k, i, s⟩ = r at HR
  obtain ⟨a, c, hc, hm⟩ := hl
  have hlt : hb < w.heap.size := World.block_lt_of_cell? _ _ hc
  have B0 := Lib.hid ((Below.refl w.heap.size w).alloc (Nat.le_refl _) (.cells #[.int .i64 k, .int .i64 i, .string s] 36))
  have hc0 := (B0.out.cell (p := ⟨hb, 0, none⟩) hlt).trans hc
  have Z := heap_alloc_new w (.cells #[.int .i64 k, .int .i64 i, .string s] 36)
  have HS := Lib.hid hs
  unfold maxLen at hm
  have KM := Lib.hid (fun W => rname_any s W hs)
  by_cases h3 : k = 3
  · subst h3
    by_cases hi : i = 0
    · subst hi
      go_enter Tryd.func25, Tryd.ntmps25
      go_wp2_with (go_at_call 45; ((with_reducible refine (KM.out _).mono ?_); rintro e w1 ⟨rfl, rfl⟩))
      go_ret
      exact ⟨ret_bool (by rw [HR.out]; rfl), B0.out⟩
    · have hi' : (i == 0) = false := by simpa using hi
      go_enter Tryd.func25, Tryd.ntmps25
      go_wp2
      go_ret
      exact ⟨ret_bool (by rw [HR.out]; simp [hi]), B0.out⟩
  · have hk3 : (k != 3) = true := by simpa using h3
    by_cases h0 : s.toList = []
    · have N := Lib.hid (fun a b => numB_on (i := i) (a := a) (b := b) h0)
      rcases kind9 k with rfl | rfl | rfl | rfl | rfl | rfl | rfl | rfl | rfl | hk
      · have HN : Hid (r = decide (0 ≤ i ∧ i ≤ 1)) := Lib.hid (by rw [HR.out]; simp [N.out])
        clear N HR
        by_cases i0 : i = 0
        · subst i0
          go_enter Tryd.func25, Tryd.ntmps25
          go_wp2
          go_ret
          exact ⟨ret_bool (by rw [HN.out]; rfl), B0.out⟩
        · have hi' : (i == 0) = false := by simpa using i0
          go_enter Tryd.func25, Tryd.ntmps25
          go_wp2
          go_ret
          refine ⟨ret_bool ?_, B0.out⟩
          rw [HN.out, Bool.eq_iff_iff]
          simp <;> omega
      · have HN : Hid (r = decide (-1152921504606846976 ≤ i ∧ i ≤ 1152921504606846975)) := Lib.hid (by rw [HR.out]; simp [N.out])
        clear N HR
        by_cases hn : -1152921504606846976 ≤ i ∧ i ≤ 1152921504606846975
        · have KI := Lib.hid (fun W => ris_yes i W hn.1 hn.2)
          go_enter Tryd.func25, Tryd.ntmps25
          go_wp2_with (go_at_call 44; ((with_reducible refine (KI.out _).mono ?_); rintro e w1 ⟨rfl, rfl⟩))
          go_ret
          exact ⟨ret_bool (by rw [HN.out, decide_eq_true hn]), B0.out⟩
        · have KI := Lib.hid (fun W => ris_no i W (by omega))
          go_enter Tryd.func25, Tryd.ntmps25
          go_wp2_with (go_at_call 44; ((with_reducible refine (KI.out _).mono ?_); rintro e w1 ⟨rfl, rfl⟩))
          go_ret
          exact ⟨ret_bool (by rw [HN.out, decide_eq_false hn]), B0.out⟩
      · have HN : Hid (r = decide (0 ≤ i ∧ i ≤ 255)) := Lib.hid (by rw [HR.out]; simp [N.out])
        clear N HR
        by_cases i0 : 0 ≤ i
        · have d0 : decide (0 ≤ i) = true := decide_eq_true i0
          go_enter Tryd.func25, Tryd.ntmps25
          go_wp2
          go_ret
          exact ⟨ret_bool (by rw [HN.out, Bool.eq_iff_iff]; simp [i0]), B0.out⟩
        · have d0 : decide (0 ≤ i) = false := decide_eq_false i0
          go_enter Tryd.func25, Tryd.ntmps25
          go_wp2
          go_ret
          exact ⟨ret_bool (by rw [HN.out, Bool.eq_iff_iff]; simp <;> omega), B0.out⟩
      · exact absurd rfl h3
      iterate 4
        · have HN : Hid (r = decide (i = 0)) := Lib.hid (by
            rw [HR.out, Bool.eq_iff_iff]
            simp [N.out]
            omega)
          clear N HR
          go_enter Tryd.func25, Tryd.ntmps25
          go_wp2
          go_ret
          exact ⟨ret_bool (by rw [HN.out, Bool.eq_iff_iff]; simp), B0.out⟩
      · have HN : Hid (r = decide (0 ≤ i ∧ i < (n : Int))) := Lib.hid (by
          rw [HR.out, Bool.eq_iff_iff]
          simp [N.out]
          omega)
        clear N HR
        by_cases i0 : 0 ≤ i
        · have d0 : decide (0 ≤ i) = true := decide_eq_true i0
          go_enter Tryd.func25, Tryd.ntmps25
          go_wp2
          generalize w.alloc (.cells #[.int .i64 8, .int .i64 i, .string s] 36) = w0 at hc0 B0 Z ⊢
          have z0 : w0.cell? ⟨w.heap.size, 0, none⟩ = some (.int .i64 8) := by rw [Lib.cell_of_heap Z]; rfl
          have z1 : w0.cell? ⟨w.heap.size, 1, none⟩ = some (.int .i64 i) := by rw [Lib.cell_of_heap Z]; rfl
          clear Z
          go_quiet (fail)
          go_wp2
          go_ret
          refine ⟨ret_bool ?_, Dat.below_drewN B0.out _⟩
          rw [HN.out, Bool.eq_iff_iff]
          simp [*]
        · have d0 : decide (0 ≤ i) = false := decide_eq_false i0
          go_enter Tryd.func25, Tryd.ntmps25
          go_wp2
          generalize w.alloc (.cells #[.int .i64 8, .int .i64 i, .string s] 36) = w0 at hc0 B0 Z ⊢
          have z0 : w0.cell? ⟨w.heap.size, 0, none⟩ = some (.int .i64 8) := by rw [Lib.cell_of_heap Z]; rfl
          have z1 : w0.cell? ⟨w.heap.size, 1, none⟩ = some (.int .i64 i) := by rw [Lib.cell_of_heap Z]; rfl
          clear Z
          go_quiet (fail)
          go_wp2
          go_ret
          refine ⟨ret_bool ?_, Dat.below_drewN B0.out _⟩
          rw [HN.out, Bool.eq_iff_iff]
          simp [*]
      · have b0 : (k == 0) = false := by simp; omega
        have b1 : (k == 1) = false := by simp; omega
        have b2 : (k == 2) = false := by simp; omega
        have b3 : (k == 3) = false := by simp; omega
        have b4 : (k == 4) = false := by simp; omega
        have b5 : (k == 5) = false := by simp; omega
        have b6 : (k == 6) = false := by simp; omega
        have b7 : (k == 7) = false := by simp; omega
        have b8 : (k == 8) = false := by simp; omega
        have HR2 : Hid (r = false) := Lib.hid (by rw [HR.out, if_neg (by omega), if_neg (by omega), if_neg (by omega), if_neg (by omega), if_neg (by omega), if_neg (by omega)])
        clear hk h3
        go_enter Tryd.func25, Tryd.ntmps25
        go_wp2
        go_ret
        exact ⟨ret_bool HR2.out.symm, B0.out⟩
    · have HR2 : Hid (r = false) := Lib.hid (by
        rw [HR.out]
        simp only [numB_off h0, if_neg h3, ite_self])
      have hE : s.toList.isEmpty = false := by simpa using h0
      clear HR
      go_enter Tryd.func25, Tryd.ntmps25
      go_wp2
      go_ret
      exact ⟨ret_bool HR2.out.symm, B0.out⟩
/-- A value's kind of thing. -/
def kindR (T : List (Int × List PV)) (v : PV) : Int := if v.k = 8 then (match T[v.i.toNat]? with | some t => t.1 | none => 0) else -1
set_option maxHeartbeats 1000000 in
theorem rkind_any (k i : Int) (s : ByteArray) (hb : Nat) (T : List (Int × List PV)) (F : Nat → Prop) (w : World) (h : HeapR w hb T F) (hi : InT T ⟨k, i, s⟩) :
    Calls Tryd.prog 31 #[.pointer (some ⟨hb, 0, none⟩), .agg #[.int .i64 k, .int .i64 i, .string s]] w fun e w' => e = .returned (.int .i64 (kindR T ⟨k, i, s⟩)) ∧ Below w.heap.size w w' := by
  have Z := heap_alloc_new w (.cells #[.int .i64 k, .int .i64 i, .string s] 36)
  have B0 := Lib.hid ((Below.refl w.heap.size w).alloc (Nat.le_refl _) (.cells #[.int .i64 k, .int .i64 i, .string s] 36))
  by_cases h8 : k = 8
  · obtain ⟨h0, hlt⟩ := hi h8
    dsimp only at hlt h0
    subst h8
    have hj : i.toNat < T.length := by omega
    have HR : Hid (kindR T ⟨8, i, s⟩ = T[i.toNat].1) := Lib.hid (by simp [kindR, List.getElem?_eq_getElem hj])
    obtain ⟨tb, cap, g, pv, c0, c1, c2, t0, t1, ok1, hp, htb, hg⟩ := (h.below B0.out).thing i.toNat hj
    generalize kindR T ⟨8, i, s⟩ = r at HR
    generalize T[i.toNat].1 = q at t0 HR
    unfold maxLen at c2
    clear h hp
    go_enter Tryd.func31, Tryd.ntmps31
    go_wp2
    generalize w.alloc (.cells #[.int .i64 8, .int .i64 i, .string s] 36) = w0 at *
    have z1 : w0.cell? ⟨w.heap.size, 1, none⟩ = some (.int .i64 i) := by rw [Lib.cell_of_heap Z]; rfl
    clear Z
    go_quiet (fail)
    go_wp2
    go_ret
    exact ⟨congrArg (fun x => Ending.returned (.int .i64 x)) HR.out.symm, Dat.below_drewN B0.out _⟩
  · have h8' : (k != 8) = true := by simpa using h8
    have HR : Hid (kindR T ⟨k, i, s⟩ = -1) := Lib.hid (if_neg h8)
    generalize kindR T ⟨k, i, s⟩ = r at HR
    go_enter Tryd.func31, Tryd.ntmps31
    go_wp2
    go_ret
    exact ⟨congrArg (fun x => Ending.returned (.int .i64 x)) HR.out.symm, B0.out⟩
theorem rnum_any (n : Int) (w : World) : Calls Tryd.prog 35 #[.int .i64 n] w fun e w' => e = .returned (.agg #[.int .i64 1, .int .i64 n, .string ⟨#[]⟩]) ∧ Below w.heap.size w w' := by
  go_enter Tryd.func35, Tryd.ntmps35
  go_wp2
  exact bodyPost_ret (res_v rfl _ _ w.heap.size _ _ _ rfl (heap_alloc_new w _)) rfl ⟨rfl, (Below.refl _ _).alloc (Nat.le_refl _) _⟩
theorem rtruth_any (b : Bool) (w : World) : Calls Tryd.prog 33 #[.bool b] w fun e w' => e = .returned (.agg #[.int .i64 0, .int .i64 (if b then 1 else 0), .string ⟨#[]⟩]) ∧ Below w.heap.size w w' := by
  cases b
  · go_enter Tryd.func33, Tryd.ntmps33
    go_wp2
    exact bodyPost_ret (res_v rfl _ _ w.heap.size _ _ _ rfl (heap_alloc_new w _)) rfl ⟨rfl, (Below.refl _ _).alloc (Nat.le_refl _) _⟩
  · go_enter Tryd.func33, Tryd.ntmps33
    go_wp2
    exact bodyPost_ret (res_v rfl _ _ w.heap.size _ _ _ rfl (heap_alloc_new w _)) rfl ⟨rfl, (Below.refl _ _).alloc (Nat.le_refl _) _⟩
end Go.Proofs.YtpejhilfopjckaaDoor.Hp
