/-
Package core's hasKids: has an expression as many kids as its kind takes? No condition.
-/
import Derived.Test.YtkjgdnfkpebejaaWKC

namespace Go.Proofs.Ytkjgdnfkpebejaa.Core
open Go.ChangeShapes Go.WideShapes Go.ChangeAt Go.RowKit Go.Deep
open Dat (PT ok64 RepV RepS checkB sameB)
set_option maxRecDepth 100000

theorem inEs_take {w : World} {S : Nat → Prop} : ∀ {l : List PE} {b o : Nat} (n : Nat), InEs w S l b o → InEs w S (l.take n) b o
  | [], _, _, n, _ => by rw [List.take_nil, InEs]; trivial
  | t :: l, b, o, 0, _ => by rw [List.take_zero, InEs]; trivial
  | t :: l, b, o, n + 1, h => by
    rw [InEs] at h
    rw [List.take_succ_cons, InEs]
    exact ⟨h.1, inEs_take n h.2⟩
theorem InK.take {w : World} {S : Nat → Prop} {l : List PE} {a : Option Addr} {n c : Nat} (h : InK w S l (.slice a l.length c)) (hn : n ≤ l.length) : InK w S (l.take n) (.slice a n c) := by
  obtain ⟨a', c', e, hl, hm, ha, hr⟩ := h
  cases e
  refine ⟨a, c, by rw [List.length_take, Nat.min_eq_left hn], by rw [List.length_take]; omega, hm, ha, ?_⟩
  rcases hr with rfl | ⟨b, o, e, hs, hr⟩
  · exact .inl (by simp)
  · exact .inr ⟨b, o, e, hs, inEs_take n hr⟩
theorem wrap_top {n n' : Nat} (h : n' = 9223372036854775807) : ((n : Int) == wrap64 ((n' : Int) + 1)) = false := by
  rw [beq_eq_false_iff_ne]
  unfold wrap64
  omega
theorem hasKids_0 (nm : ByteArray) (ns : List ByteArray) (ck ci : Int) (cs : ByteArray) (cl : List PT) (l : List PE) (an ad ak : Option Addr) (cn cd c : Nat) (w : World) (_ : ns.length ≤ cn) (_ : cn ≤ maxLen) (_ : l.length ≤ c) (_ : c ≤ maxLen) :
    Calls Try.prog 50 #[.agg #[.int .i64 0, .string nm, .slice an ns.length cn, .int .i64 ck, .int .i64 ci, .string cs, .slice ad cl.length cd, .slice ak l.length c]] w fun e w' => e = .returned (.bool (kidsB 0 nm ns.length l)) ∧ Below w.heap.size w w' := by
  unfold maxLen at *
  have HB0 := Lib.hid (fun (o : Obj) n => Dat.below_drewN ((Below.refl w.heap.size w).alloc (Nat.le_refl _) o) n)
  have HR : Hid (kidsB 0 nm ns.length l = decide (l.length = 0)) := Lib.hid (by simp [kidsB])
  generalize l.length = n at *
  generalize ns.length = n' at *
  generalize kidsB 0 nm n' l = r at *
  go_enter Try.func50, Try.ntmps50
  go_wp2
  go_quiet (fail)
  go_wp2
  all_goals
    go_ret
    refine ⟨ret_bool ?_, HB0.out _ _⟩
    rw [HR.out]
    rw [Bool.eq_iff_iff]
    simp [*] <;> omega
theorem hasKids_1 (nm : ByteArray) (ns : List ByteArray) (ck ci : Int) (cs : ByteArray) (cl : List PT) (l : List PE) (an ad ak : Option Addr) (cn cd c : Nat) (w : World) (_ : ns.length ≤ cn) (_ : cn ≤ maxLen) (_ : l.length ≤ c) (_ : c ≤ maxLen) :
    Calls Try.prog 50 #[.agg #[.int .i64 1, .string nm, .slice an ns.length cn, .int .i64 ck, .int .i64 ci, .string cs, .slice ad cl.length cd, .slice ak l.length c]] w fun e w' => e = .returned (.bool (kidsB 1 nm ns.length l)) ∧ Below w.heap.size w w' := by
  unfold maxLen at *
  have HB0 := Lib.hid (fun (o : Obj) n => Dat.below_drewN ((Below.refl w.heap.size w).alloc (Nat.le_refl _) o) n)
  have HR : Hid (kidsB 1 nm ns.length l = decide (l.length = 0)) := Lib.hid (by simp [kidsB])
  generalize l.length = n at *
  generalize ns.length = n' at *
  generalize kidsB 1 nm n' l = r at *
  go_enter Try.func50, Try.ntmps50
  go_wp2
  go_quiet (fail)
  go_wp2
  all_goals
    go_ret
    refine ⟨ret_bool ?_, HB0.out _ _⟩
    rw [HR.out]
    rw [Bool.eq_iff_iff]
    simp [*] <;> omega
theorem hasKids_2 (nm : ByteArray) (ns : List ByteArray) (ck ci : Int) (cs : ByteArray) (cl : List PT) (l : List PE) (an ad ak : Option Addr) (cn cd c : Nat) (w : World) (_ : ns.length ≤ cn) (_ : cn ≤ maxLen) (_ : l.length ≤ c) (_ : c ≤ maxLen) :
    Calls Try.prog 50 #[.agg #[.int .i64 2, .string nm, .slice an ns.length cn, .int .i64 ck, .int .i64 ci, .string cs, .slice ad cl.length cd, .slice ak l.length c]] w fun e w' => e = .returned (.bool (kidsB 2 nm ns.length l)) ∧ Below w.heap.size w w' := by
  unfold maxLen at *
  have HB0 := Lib.hid (fun (o : Obj) n => Dat.below_drewN ((Below.refl w.heap.size w).alloc (Nat.le_refl _) o) n)
  have HR : Hid (kidsB 2 nm ns.length l = decide (l.length = 1)) := Lib.hid (by simp [kidsB])
  generalize l.length = n at *
  generalize ns.length = n' at *
  generalize kidsB 2 nm n' l = r at *
  go_enter Try.func50, Try.ntmps50
  go_wp2
  go_quiet (fail)
  go_wp2
  all_goals
    go_ret
    refine ⟨ret_bool ?_, HB0.out _ _⟩
    rw [HR.out]
    rw [Bool.eq_iff_iff]
    simp [*] <;> omega
theorem hasKids_3 (nm : ByteArray) (ns : List ByteArray) (ck ci : Int) (cs : ByteArray) (cl : List PT) (l : List PE) (an ad ak : Option Addr) (cn cd c : Nat) (w : World) (_ : ns.length ≤ cn) (_ : cn ≤ maxLen) (_ : l.length ≤ c) (_ : c ≤ maxLen) :
    Calls Try.prog 50 #[.agg #[.int .i64 3, .string nm, .slice an ns.length cn, .int .i64 ck, .int .i64 ci, .string cs, .slice ad cl.length cd, .slice ak l.length c]] w fun e w' => e = .returned (.bool (kidsB 3 nm ns.length l)) ∧ Below w.heap.size w w' := by
  unfold maxLen at *
  have HB0 := Lib.hid (fun (o : Obj) n => Dat.below_drewN ((Below.refl w.heap.size w).alloc (Nat.le_refl _) o) n)
  have HR : Hid (kidsB 3 nm ns.length l = decide (l.length = 3)) := Lib.hid (by simp [kidsB])
  generalize l.length = n at *
  generalize ns.length = n' at *
  generalize kidsB 3 nm n' l = r at *
  go_enter Try.func50, Try.ntmps50
  go_wp2
  go_quiet (fail)
  go_wp2
  all_goals
    go_ret
    refine ⟨ret_bool ?_, HB0.out _ _⟩
    rw [HR.out]
    rw [Bool.eq_iff_iff]
    simp [*] <;> omega
theorem hasKids_4 (nm : ByteArray) (ns : List ByteArray) (ck ci : Int) (cs : ByteArray) (cl : List PT) (l : List PE) (an ad ak : Option Addr) (cn cd c : Nat) (w : World) (_ : ns.length ≤ cn) (_ : cn ≤ maxLen) (_ : l.length ≤ c) (_ : c ≤ maxLen) :
    Calls Try.prog 50 #[.agg #[.int .i64 4, .string nm, .slice an ns.length cn, .int .i64 ck, .int .i64 ci, .string cs, .slice ad cl.length cd, .slice ak l.length c]] w fun e w' => e = .returned (.bool (kidsB 4 nm ns.length l)) ∧ Below w.heap.size w w' := by
  unfold maxLen at *
  have HB0 := Lib.hid (fun (o : Obj) n => Dat.below_drewN ((Below.refl w.heap.size w).alloc (Nat.le_refl _) o) n)
  have HR : Hid (kidsB 4 nm ns.length l = decide (2 ≤ l.length)) := Lib.hid (by simp [kidsB])
  generalize l.length = n at *
  generalize ns.length = n' at *
  generalize kidsB 4 nm n' l = r at *
  go_enter Try.func50, Try.ntmps50
  go_wp2
  go_quiet (fail)
  go_wp2
  all_goals
    go_ret
    refine ⟨ret_bool ?_, HB0.out _ _⟩
    rw [HR.out]
    rw [Bool.eq_iff_iff]
    simp [*] <;> omega
theorem hasKids_5 (nm : ByteArray) (ns : List ByteArray) (ck ci : Int) (cs : ByteArray) (cl : List PT) (l : List PE) (an ad ak : Option Addr) (cn cd c : Nat) (w : World) (_ : ns.length ≤ cn) (_ : cn ≤ maxLen) (_ : l.length ≤ c) (_ : c ≤ maxLen) :
    Calls Try.prog 50 #[.agg #[.int .i64 5, .string nm, .slice an ns.length cn, .int .i64 ck, .int .i64 ci, .string cs, .slice ad cl.length cd, .slice ak l.length c]] w fun e w' => e = .returned (.bool (kidsB 5 nm ns.length l)) ∧ Below w.heap.size w w' := by
  unfold maxLen at *
  have HB0 := Lib.hid (fun (o : Obj) n => Dat.below_drewN ((Below.refl w.heap.size w).alloc (Nat.le_refl _) o) n)
  have HR : Hid (kidsB 5 nm ns.length l = (decide (ns.length ≤ 6) && decide (l.length = 1))) := Lib.hid (by simp [kidsB])
  generalize l.length = n at *
  generalize ns.length = n' at *
  generalize kidsB 5 nm n' l = r at *
  go_enter Try.func50, Try.ntmps50
  go_wp2
  go_quiet (fail)
  go_wp2
  all_goals
    go_ret
    refine ⟨ret_bool ?_, HB0.out _ _⟩
    rw [HR.out]
    rw [Bool.eq_iff_iff]
    simp [*] <;> omega
theorem hasKids_6 (nm : ByteArray) (ns : List ByteArray) (ck ci : Int) (cs : ByteArray) (cl : List PT) (l : List PE) (an ad ak : Option Addr) (cn cd c : Nat) (w : World) (_ : ns.length ≤ cn) (_ : cn ≤ maxLen) (_ : l.length ≤ c) (_ : c ≤ maxLen) :
    Calls Try.prog 50 #[.agg #[.int .i64 6, .string nm, .slice an ns.length cn, .int .i64 ck, .int .i64 ci, .string cs, .slice ad cl.length cd, .slice ak l.length c]] w fun e w' => e = .returned (.bool (kidsB 6 nm ns.length l)) ∧ Below w.heap.size w w' := by
  unfold maxLen at *
  have HB0 := Lib.hid (fun (o : Obj) n => Dat.below_drewN ((Below.refl w.heap.size w).alloc (Nat.le_refl _) o) n)
  have HR : Hid (kidsB 6 nm ns.length l = (decide (1 ≤ l.length) && decide (l.length ≤ 7))) := Lib.hid (by simp [kidsB])
  generalize l.length = n at *
  generalize ns.length = n' at *
  generalize kidsB 6 nm n' l = r at *
  go_enter Try.func50, Try.ntmps50
  go_wp2
  go_quiet (fail)
  go_wp2
  all_goals
    go_ret
    refine ⟨ret_bool ?_, HB0.out _ _⟩
    rw [HR.out]
    rw [Bool.eq_iff_iff]
    simp [*] <;> omega
theorem hasKids_8 (nm : ByteArray) (ns : List ByteArray) (ck ci : Int) (cs : ByteArray) (cl : List PT) (l : List PE) (an ad ak : Option Addr) (cn cd c : Nat) (w : World) (hln : ns.length ≤ cn) (hmn : cn ≤ maxLen) (hl : l.length ≤ c) (hm : c ≤ maxLen) :
    Calls Try.prog 50 #[.agg #[.int .i64 8, .string nm, .slice an ns.length cn, .int .i64 ck, .int .i64 ci, .string cs, .slice ad cl.length cd, .slice ak l.length c]] w fun e w' => e = .returned (.bool (kidsB 8 nm ns.length l)) ∧ Below w.heap.size w w' := by
  unfold maxLen at hmn hm
  have HB0 := Lib.hid (fun (o : Obj) n => Dat.below_drewN ((Below.refl w.heap.size w).alloc (Nat.le_refl _) o) n)
  have HR : Hid (kidsB 8 nm ns.length l = decide (l.length = ns.length + 1)) := Lib.hid (by simp [kidsB])
  generalize l.length = n at *
  generalize ns.length = n' at *
  generalize kidsB 8 nm n' l = r at *
  by_cases hb : n' < 9223372036854775807
  · go_enter Try.func50, Try.ntmps50
    go_wp2
    go_quiet (fail)
    go_wp2
    all_goals
      go_ret
      refine ⟨ret_bool ?_, HB0.out _ _⟩
      rw [HR.out]
      rw [Bool.eq_iff_iff]
      simp [*] <;> omega
  · have HR2 : Hid (r = false) := Lib.hid (by rw [HR.out]; simp; omega)
    have hq := wrap_top (n := n) (n' := n') (by omega)
    clear hb
    go_enter Try.func50, Try.ntmps50
    go_wp2
    go_quiet (fail)
    go_wp2
    go_ret
    exact ⟨ret_bool HR2.out.symm, HB0.out _ _⟩
theorem hasKids_9 (nm : ByteArray) (ns : List ByteArray) (ck ci : Int) (cs : ByteArray) (cl : List PT) (l : List PE) (an ad ak : Option Addr) (cn cd c : Nat) (w : World) (hln : ns.length ≤ cn) (hmn : cn ≤ maxLen) (hl : l.length ≤ c) (hm : c ≤ maxLen) :
    Calls Try.prog 50 #[.agg #[.int .i64 9, .string nm, .slice an ns.length cn, .int .i64 ck, .int .i64 ci, .string cs, .slice ad cl.length cd, .slice ak l.length c]] w fun e w' => e = .returned (.bool (kidsB 9 nm ns.length l)) ∧ Below w.heap.size w w' := by
  unfold maxLen at hmn hm
  have HB0 := Lib.hid (fun (o : Obj) n => Dat.below_drewN ((Below.refl w.heap.size w).alloc (Nat.le_refl _) o) n)
  have HR : Hid (kidsB 9 nm ns.length l = decide (l.length = ns.length + 1)) := Lib.hid (by simp [kidsB])
  generalize l.length = n at *
  generalize ns.length = n' at *
  generalize kidsB 9 nm n' l = r at *
  by_cases hb : n' < 9223372036854775807
  · go_enter Try.func50, Try.ntmps50
    go_wp2
    go_quiet (fail)
    go_wp2
    all_goals
      go_ret
      refine ⟨ret_bool ?_, HB0.out _ _⟩
      rw [HR.out]
      rw [Bool.eq_iff_iff]
      simp [*] <;> omega
  · have HR2 : Hid (r = false) := Lib.hid (by rw [HR.out]; simp; omega)
    have hq := wrap_top (n := n) (n' := n') (by omega)
    clear hb
    go_enter Try.func50, Try.ntmps50
    go_wp2
    go_quiet (fail)
    go_wp2
    go_ret
    exact ⟨ret_bool HR2.out.symm, HB0.out _ _⟩
theorem hasKids_7 (nm : ByteArray) (ns : List ByteArray) (ck ci : Int) (cs : ByteArray) (cl : List PT) (l : List PE) (an ad ak : Option Addr) (cn cd c : Nat) (w : World) (_ : ns.length ≤ cn) (_ : cn ≤ maxLen) (_ : l.length ≤ c) (_ : c ≤ maxLen) :
    Calls Try.prog 50 #[.agg #[.int .i64 7, .string nm, .slice an ns.length cn, .int .i64 ck, .int .i64 ci, .string cs, .slice ad cl.length cd, .slice ak l.length c]] w fun e w' => e = .returned (.bool (kidsB 7 nm ns.length l)) ∧ Below w.heap.size w w' := by
  unfold maxLen at *
  have HB0 := Lib.hid (fun (o : Obj) n => Dat.below_drewN ((Below.refl w.heap.size w).alloc (Nat.le_refl _) o) n)
  have HR : Hid (kidsB 7 nm ns.length l = decide ((l.length : Int) = arityT nm.data.toList)) := Lib.hid (by simp [kidsB])
  have KA := Lib.hid (fun W => ca_any nm W)
  generalize l.length = n at *
  generalize ns.length = n' at *
  generalize kidsB 7 nm n' l = r at *
  generalize arityT nm.data.toList = q at *
  go_enter Try.func50, Try.ntmps50
  go_wp2
  go_quiet (fail)
  go_wp2_with fail
  refine (KA.out _).mono ?_
  rintro e w1 ⟨rfl, rfl⟩
  go_wp2
  go_ret
  refine ⟨ret_bool ?_, HB0.out _ _⟩
  rw [HR.out]
  rw [Bool.eq_iff_iff]
  simp
theorem hasKids_10 (nm : ByteArray) (ns : List ByteArray) (ck ci : Int) (cs : ByteArray) (cl : List PT) (l : List PE) (an ad ak : Option Addr) (cn cd c : Nat) (w : World) (hln : ns.length ≤ cn) (hmn : cn ≤ maxLen) (hl : l.length ≤ c) (hm : c ≤ maxLen) (S : Nat → Prop) (hk : InK w S l (.slice ak l.length c)) :
    Calls Try.prog 50 #[.agg #[.int .i64 10, .string nm, .slice an ns.length cn, .int .i64 ck, .int .i64 ci, .string cs, .slice ad cl.length cd, .slice ak l.length c]] w fun e w' => e = .returned (.bool (kidsB 10 nm ns.length l)) ∧ Below w.heap.size w w' := by
  unfold maxLen at hmn hm
  have HB0 := Lib.hid (fun (o : Obj) n => Dat.below_drewN ((Below.refl w.heap.size w).alloc (Nat.le_refl _) o) n)
  have HR : Hid (kidsB 10 nm ns.length l = (decide (1 ≤ ns.length) && decide (l.length = ns.length + 1) && funsB (l.take ns.length))) := Lib.hid (by simp [kidsB])
  by_cases h0 : 1 ≤ ns.length ∧ l.length = ns.length + 1
  · have HF := Lib.hid (fun W (hW : Below w.heap.size w W) => areFunctions_any (l.take ns.length) S (.slice ak ns.length c) W ((hk.take (by omega)).below hW))
    obtain ⟨h1, h2⟩ := h0
    have HR2 : Hid (kidsB 10 nm ns.length l = funsB (l.take ns.length)) := Lib.hid (by rw [HR.out]; simp [h1, h2])
    have hq1 : ((l.length : Int) == (ns.length : Int) + 1) = true := by simp; omega
    have hge : ns.length ≤ l.length := by omega
    have hlt : ns.length < 9223372036854775807 := by omega
    clear HR h2 hk
    generalize l.length = n at *
    generalize funsB (l.take ns.length) = r at *
    generalize kidsB 10 nm ns.length l = r' at *
    generalize ns.length = n' at *
    go_enter Try.func50, Try.ntmps50
    go_wp2
    go_quiet (fail)
    go_wp2_with fail
    refine (HF.out _ (HB0.out _ _)).mono ?_
    rintro e w1 ⟨rfl, hb1⟩
    have HB1 := Lib.hid ((HB0.out _ _).trans (hb1.mono (HB0.out _ _).size))
    clear hb1
    go_wp2
    go_ret
    exact ⟨ret_bool HR2.out.symm, HB1.out⟩
  · have HR2 : Hid (kidsB 10 nm ns.length l = false) := Lib.hid (by rw [HR.out]; simp; intro h1 h2; exact absurd ⟨h1, h2⟩ h0)
    clear HR hk
    generalize kidsB 10 nm ns.length l = r' at *
    generalize l.length = n at *
    generalize ns.length = n' at *
    by_cases hb : n' = 9223372036854775807
    · have hq := wrap_top (n := n) (n' := n') hb
      have h1 : 1 ≤ n' := by omega
      clear h0 hb
      go_enter Try.func50, Try.ntmps50
      go_wp2
      go_quiet (fail)
      go_wp2
      go_ret
      exact ⟨ret_bool HR2.out.symm, HB0.out _ _⟩
    have hlt : n' < 9223372036854775807 := by omega
    clear hb
    by_cases h1 : 1 ≤ n'
    · have hq1 : ((n : Int) == (n' : Int) + 1) = false := by simp; omega
      clear h0
      go_enter Try.func50, Try.ntmps50
      go_wp2
      go_quiet (fail)
      go_wp2
      go_ret
      exact ⟨ret_bool HR2.out.symm, HB0.out _ _⟩
    · obtain rfl : n' = 0 := by omega
      clear h0 h1
      go_enter Try.func50, Try.ntmps50
      go_wp2
      go_quiet (fail)
      go_wp2
      go_ret
      exact ⟨ret_bool HR2.out.symm, HB0.out _ _⟩
theorem hasKids_no (k : Int) (hk : k < 0 ∨ 10 < k) (nm : ByteArray) (ns : List ByteArray) (ck ci : Int) (cs : ByteArray) (cl : List PT) (l : List PE) (an ad ak : Option Addr) (cn cd c : Nat) (w : World) (_ : ns.length ≤ cn) (_ : cn ≤ maxLen) (_ : l.length ≤ c) (_ : c ≤ maxLen) :
    Calls Try.prog 50 #[.agg #[.int .i64 k, .string nm, .slice an ns.length cn, .int .i64 ck, .int .i64 ci, .string cs, .slice ad cl.length cd, .slice ak l.length c]] w fun e w' => e = .returned (.bool (kidsB k nm ns.length l)) ∧ Below w.heap.size w w' := by
  unfold maxLen at *
  have HB0 := Lib.hid (fun (o : Obj) n => Dat.below_drewN ((Below.refl w.heap.size w).alloc (Nat.le_refl _) o) n)
  have HR : Hid (kidsB k nm ns.length l = false) := Lib.hid (by
    unfold kidsB
    simp only [show ¬(k = 0 ∨ k = 1) by omega, show ¬k = 2 by omega, show ¬k = 3 by omega, show ¬k = 4 by omega, show ¬k = 5 by omega, show ¬k = 6 by omega, show ¬k = 7 by omega, show ¬(k = 8 ∨ k = 9) by omega, show ¬k = 10 by omega, if_false])
  have b0 : (k == 0) = false := by simp; omega
  have b1 : (k == 1) = false := by simp; omega
  have b2 : (k == 2) = false := by simp; omega
  have b3 : (k == 3) = false := by simp; omega
  have b4 : (k == 4) = false := by simp; omega
  have b5 : (k == 5) = false := by simp; omega
  have b6 : (k == 6) = false := by simp; omega
  have b7 : (k == 7) = false := by simp; omega
  have b8 : (k == 8) = false := by simp; omega
  have b9 : (k == 9) = false := by simp; omega
  have b10 : (k == 10) = false := by simp; omega
  clear hk
  generalize kidsB k nm ns.length l = r' at *
  generalize l.length = n at *
  generalize ns.length = n' at *
  go_enter Try.func50, Try.ntmps50
  go_wp2
  go_quiet (fail)
  go_wp2
  go_ret
  exact ⟨ret_bool HR.out.symm, HB0.out _ _⟩
theorem kind_or (k : Int) : k = 0 ∨ k = 1 ∨ k = 2 ∨ k = 3 ∨ k = 4 ∨ k = 5 ∨ k = 6 ∨ k = 7 ∨ k = 8 ∨ k = 9 ∨ k = 10 ∨ (k < 0 ∨ 10 < k) := by omega
theorem hasKids_any (k : Int) (nm : ByteArray) (ns : List ByteArray) (ck ci : Int) (cs : ByteArray) (cl : List PT) (l : List PE) (S : Nat → Prop) (vn vd vk : Value) (w : World) (h : InF w S (.mk k nm ns (.mk ck ci cs cl) l) vn vd vk) :
    Calls Try.prog 50 #[(PE.mk k nm ns (.mk ck ci cs cl) l).val vn vd vk] w fun e w' => e = .returned (.bool (kidsB k nm ns.length l)) ∧ Below w.heap.size w w' := by
  have HI := Lib.hid h
  obtain ⟨⟨_, _, an, cn, rfl, hln, hmn, _⟩, ⟨_, _, _, ad, cd, rfl, _⟩, ak, c, rfl, hl, hm, _⟩ := h
  rcases kind_or k with rfl | rfl | rfl | rfl | rfl | rfl | rfl | rfl | rfl | rfl | rfl | hk
  · exact hasKids_0 nm ns ck ci cs cl l an ad ak cn cd c w hln hmn hl hm
  · exact hasKids_1 nm ns ck ci cs cl l an ad ak cn cd c w hln hmn hl hm
  · exact hasKids_2 nm ns ck ci cs cl l an ad ak cn cd c w hln hmn hl hm
  · exact hasKids_3 nm ns ck ci cs cl l an ad ak cn cd c w hln hmn hl hm
  · exact hasKids_4 nm ns ck ci cs cl l an ad ak cn cd c w hln hmn hl hm
  · exact hasKids_5 nm ns ck ci cs cl l an ad ak cn cd c w hln hmn hl hm
  · exact hasKids_6 nm ns ck ci cs cl l an ad ak cn cd c w hln hmn hl hm
  · exact hasKids_7 nm ns ck ci cs cl l an ad ak cn cd c w hln hmn hl hm
  · exact hasKids_8 nm ns ck ci cs cl l an ad ak cn cd c w hln hmn hl hm
  · exact hasKids_9 nm ns ck ci cs cl l an ad ak cn cd c w hln hmn hl hm
  · exact hasKids_10 nm ns ck ci cs cl l an ad ak cn cd c w hln hmn hl hm S HI.out.2.2
  · exact hasKids_no k hk nm ns ck ci cs cl l an ad ak cn cd c w hln hmn hl hm
end Go.Proofs.Ytkjgdnfkpebejaa.Core
