/-
Package heap's reckon, done of what reckons; charOf. Where the table of what is reckoned is as the program lays it.
-/
import Derived.Test.YtlolkhnaaelelaaDoorQ9
namespace Go.Proofs.YtlolkhnaaelelaaDoor.Hp
open Go.ChangeShapes Go.WideShapes Go.ChangeAt Go.RowKit Go.Deep
open Dat (PT ok64 RepV RepS RowX infoDatum)
set_option maxRecDepth 100000

/-- What is reckoned of two numbers. -/
def recT (op a b : Int) : PV × Int :=
  if (op = 3 ∨ op = 4) ∧ b = 0 then (⟨0, 0, ⟨#[]⟩⟩, 82) else if -1152921504606846976 ≤ opv op a b ∧ opv op a b ≤ 1152921504606846975 then (⟨1, opv op a b, ⟨#[]⟩⟩, 0) else (⟨0, 0, ⟨#[]⟩⟩, 81)
/-- What package word's Reckon answers. -/
def wordT (op a b : Int) : Int × Int :=
  if (op = 3 ∨ op = 4) ∧ b = 0 then (0, 11) else if -1152921504606846976 ≤ opv op a b ∧ opv op a b ≤ 1152921504606846975 then (8 * opv op a b, 0) else (0, 10)
theorem word_any (op a b : Int) (w : World) (h0 : 0 ≤ op) (h4 : op ≤ 4) (ha : Num a) (hb : Num b) :
    Calls Tryd.prog 73 #[.int .i64 op, .int .i64 (8 * a), .int .i64 (8 * b)] w fun e w' => e = .returned (.tuple #[.int .i64 (wordT op a b).1, .int .i64 (wordT op a b).2]) ∧ w = w' := by
  have ans : ∀ v, v = opv op a b → ¬ ((op = 3 ∨ op = 4) ∧ b = 0) → isAns v (wordT op a b).1 (wordT op a b).2 := fun v hv hn => by
    subst hv
    unfold wordT
    rw [if_neg hn]
    by_cases h : -1152921504606846976 ≤ opv op a b ∧ opv op a b ≤ 1152921504606846975
    · rw [if_pos h]; exact .inl ⟨h, rfl, rfl⟩
    · rw [if_neg h]; exact .inr ⟨h, rfl, rfl⟩
  have h5 : op = 0 ∨ op = 1 ∨ op = 2 ∨ op = 3 ∨ op = 4 := by omega
  rcases h5 with rfl | rfl | rfl | rfl | rfl
  · exact rk_add a b _ _ w ha hb (ans _ (by simp [opv]) (by omega))
  · exact rk_sub a b _ _ w ha hb (ans _ (by simp [opv]) (by omega))
  · exact rk_mul a b _ _ w ha hb (ans _ (by simp [opv]) (by omega))
  · by_cases hz : b = 0
    · have := rk_zero 3 a b w (.inl rfl) (by simpa using hz)
      rwa [show wordT 3 a b = (0, 11) from if_pos ⟨.inl rfl, hz⟩]
    · exact rk_quo a b _ _ w (by simpa using hz) hz (ans _ (by rw [num_tdiv a b ha]; simp [opv]) (by omega))
  · by_cases hz : b = 0
    · have := rk_zero 4 a b w (.inr rfl) (by simpa using hz)
      rwa [show wordT 4 a b = (0, 11) from if_pos ⟨.inr rfl, hz⟩]
    · exact rk_rem a b _ _ w (by simpa using hz) hz (ans _ (by simp [opv]) (by omega))
set_option maxHeartbeats 1000000 in
theorem reckon_any (op a b : Int) (w : World) (h0 : 0 ≤ op) (h4 : op ≤ 4) (ha : Num a) (hb : Num b) :
    Calls Tryd.prog 55 #[.int .i64 op, .int .i64 a, .int .i64 b] w fun e w' => e = VE (recT op a b).1 (recT op a b).2 ∧ Below w.heap.size w w' := by
  have KA := Lib.hid (fun W => int_ok a W ha.1 ha.2)
  have KB := Lib.hid (fun W => int_ok b W hb.1 hb.2)
  have KR := Lib.hid (fun W => word_any op a b W h0 h4 ha hb)
  have Z := Lib.hid (heap_alloc_new w (.cells #[.int .i64 0, .int .i64 0, .string ⟨#[]⟩] 36))
  have B0 := Lib.hid ((Below.refl w.heap.size w).alloc (Nat.le_refl _) (.cells #[.int .i64 0, .int .i64 0, .string ⟨#[]⟩] 36))
  have HA := Lib.hid ha
  have HB := Lib.hid hb
  have cases3 : (wordT op a b = (0, 11) ∧ recT op a b = (⟨0, 0, ⟨#[]⟩⟩, 82)) ∨ (wordT op a b = (8 * opv op a b, 0) ∧ recT op a b = (⟨1, opv op a b, ⟨#[]⟩⟩, 0)) ∨ (wordT op a b = (0, 10) ∧ recT op a b = (⟨0, 0, ⟨#[]⟩⟩, 81)) := by
    unfold wordT recT
    by_cases hz : (op = 3 ∨ op = 4) ∧ b = 0
    · rw [if_pos hz, if_pos hz]; exact .inl ⟨rfl, rfl⟩
    · rw [if_neg hz, if_neg hz]
      by_cases h : -1152921504606846976 ≤ opv op a b ∧ opv op a b ≤ 1152921504606846975
      · rw [if_pos h, if_pos h]; exact .inr (.inl ⟨rfl, rfl⟩)
      · rw [if_neg h, if_neg h]; exact .inr (.inr ⟨rfl, rfl⟩)
  have KV := Lib.hid (fun W => value_8 (opv op a b) W)
  clear ha hb
  rcases cases3 with ⟨e1, e2⟩ | ⟨e1, e2⟩ | ⟨e1, e2⟩
  · rw [e1] at KR
    have HR := Lib.hid e2
    clear e1 e2
    generalize recT op a b = r at *
    generalize opv op a b = q at *
    go_enter Tryd.func55, Tryd.ntmps55
    go_wp2_with fail
    refine (KA.out _).mono ?_
    rintro e w1 ⟨rfl, rfl⟩
    go_wp2_with fail
    refine (KB.out _).mono ?_
    rintro e w1 ⟨rfl, rfl⟩
    go_wp2_with fail
    refine (KR.out _).mono ?_
    rintro e w1 ⟨rfl, rfl⟩
    go_wp2
    exact bodyPost_ret (res_ve (t := 7) (p := 6) rfl _ _ w.heap.size _ _ _ rfl Z.out) rfl ⟨by rw [HR.out]; rfl, B0.out⟩
  · rw [e1] at KR
    have HR := Lib.hid e2
    clear e1 e2
    generalize recT op a b = r at *
    generalize opv op a b = q at *
    go_enter Tryd.func55, Tryd.ntmps55
    go_wp2_with fail
    refine (KA.out _).mono ?_
    rintro e w1 ⟨rfl, rfl⟩
    go_wp2_with fail
    refine (KB.out _).mono ?_
    rintro e w1 ⟨rfl, rfl⟩
    go_wp2_with fail
    refine (KR.out _).mono ?_
    rintro e w1 ⟨rfl, rfl⟩
    go_wp2_with fail
    refine (KV.out _).mono ?_
    rintro e w1 ⟨rfl, rfl⟩
    go_wp2_with fail
    refine (number_any q _).mono ?_
    rintro e w2 ⟨rfl, hb2⟩
    obtain ⟨⟨y0, y1, y2⟩, f0, f1, f2⟩ := look3 ((hb2.block w.heap.size (by rw [size_new]; omega)).trans Z.out)
    have HE := Lib.hid (put3 ((hb2.block w.heap.size (by rw [size_new]; omega)).trans Z.out) (.int .i64 1) (.int .i64 q) (.string ⟨#[]⟩))
    have HB2 := Lib.hid (put3_below (B0.out.trans (hb2.mono B0.out.size)) (Nat.le_refl _) (.int .i64 1) (.int .i64 q) (.string ⟨#[]⟩))
    clear hb2
    go_wp2
    exact bodyPost_ret (res_ve (t := 7) (p := 6) rfl _ _ w.heap.size _ _ _ rfl HE.out) rfl ⟨by rw [HR.out]; rfl, HB2.out⟩
  · rw [e1] at KR
    have HR := Lib.hid e2
    clear e1 e2
    generalize recT op a b = r at *
    generalize opv op a b = q at *
    go_enter Tryd.func55, Tryd.ntmps55
    go_wp2_with fail
    refine (KA.out _).mono ?_
    rintro e w1 ⟨rfl, rfl⟩
    go_wp2_with fail
    refine (KB.out _).mono ?_
    rintro e w1 ⟨rfl, rfl⟩
    go_wp2_with fail
    refine (KR.out _).mono ?_
    rintro e w1 ⟨rfl, rfl⟩
    go_wp2
    exact bodyPost_ret (res_ve (t := 7) (p := 6) rfl _ _ w.heap.size _ _ _ rfl Z.out) rfl ⟨by rw [HR.out]; rfl, B0.out⟩
end Go.Proofs.YtlolkhnaaelelaaDoor.Hp
