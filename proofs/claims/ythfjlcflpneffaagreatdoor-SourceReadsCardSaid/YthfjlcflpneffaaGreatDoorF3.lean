/-
The document's may where something is open, in memory: what it answers. No condition but small numbers.
-/
import Derived.Test.YthfjlcflpneffaaGreatDoorF2
namespace Go.Proofs.YthfjlcflpneffaaGreatDoor
open Go.ChangeShapes Go.WideShapes Go.ChangeAt Go.RowKit
open Dat (PT makeT RepS RepV)

set_option maxRecDepth 100000 in
set_option maxHeartbeats 1000000 in
theorem may_some (o : Op) (st : List Op) (n cap g : Nat) (al : Option Addr) (cl : Nat) (k : Int) (hk : 0 ≤ k ∧ k ≤ 9) (s : ByteArray) (i a b : Int) (w : World) (hn : st.length = n) (hn2 : n ≤ 32) (_hcap : n + 1 ≤ cap) (_hcm : cap ≤ maxLen)
    (hok : o.kind = 0 ∨ o.kind = 2 ∨ o.kind = 3) (hod : -1 ≤ o.dot ∧ o.dot ≤ 5000) (hll : o.list.length ≤ 5000)
    (c0 : w.cell? ⟨g, n * 3, none⟩ = some (.int .i64 o.kind)) (c1 : w.cell? ⟨g, n * 3 + 1, none⟩ = some (.slice al o.list.length cl)) (c2 : w.cell? ⟨g, n * 3 + 2, none⟩ = some (.int .i64 o.dot)) :
    Calls Tryz.prog 22 #[.slice (some ⟨g, 0, none⟩) (n + 1) cap, .agg #[.int .i64 k, .string s, .int .i64 i, .int .i64 a, .int .i64 b]] w fun e w' => e = .returned (.int .i64 (mayM (o :: st) k)) ∧ Below w.heap.size w w' := by
  have HB := Lib.hid (fun (x y : Obj) => ((Below.refl w.heap.size w).alloc (Nat.le_refl _) x).alloc (by rw [size_new]; omega) y)
  obtain ⟨ok, ol, od⟩ := o
  simp only at hok hod hll c0 c1 c2
  have hkm1 : (ok == -1) = false := by simp; omega
  have hg : g < w.heap.size := World.block_lt_of_cell? _ _ c0
  obtain ⟨r1, r2⟩ := hod
  unfold maxLen at _hcm
  have HM : Hid (∀ q : Int, mayM (⟨ok, ol, od⟩ :: st) q = if q = 1 then (if ok = 3 ∨ 0 ≤ od ∧ ¬ ((ol.length : Int) = od + 1) then 40 else 0) else if q = 4 then (if ok ≠ 0 ∨ 0 ≤ od ∨ ol.length = 0 then 42 else 0) else if 0 ≤ od ∧ (ol.length : Int) = od + 1 then 42 else if (q = 0 ∨ q = 2 ∨ q = 3) ∧ 32 ≤ n + 1 then 43 else 0) := Lib.hid (by
    intro q
    unfold mayM topM fullB
    simp only [List.headD_cons, List.length_cons, hn, List.length_eq_zero_iff]
    have : ok ≠ -1 := by omega
    simp only [this, false_or]
    by_cases h0 : 0 ≤ od <;> by_cases h1 : (ol.length : Int) = od + 1 <;> simp [h0, h1])
  have hkk : k = 0 ∨ k = 1 ∨ k = 2 ∨ k = 3 ∨ k = 4 ∨ 5 ≤ k := by omega
  generalize hL : ol.length = L at *
  clear hL hn
  rcases hkk with rfl | rfl | rfl | rfl | rfl | h5
  · rw [HM.out 0]
    clear hk HM
    go_enter Tryz.func22, Tryz.ntmps22
    go_wp2
    all_goals
      go_ret
      first
        | exact ⟨rfl, HB.out _ _⟩
        | (exfalso; simp only [beq_iff_eq, beq_eq_false_iff_ne, ne_eq] at *; omega)
  · rw [HM.out 1]
    clear hk HM
    go_enter Tryz.func22, Tryz.ntmps22
    go_wp2
    all_goals
      go_ret
      first
        | exact ⟨rfl, HB.out _ _⟩
        | (exfalso; simp only [beq_iff_eq, beq_eq_false_iff_ne, ne_eq, Bool.not_eq_true', Bool.not_eq_false'] at *; omega)
  · rw [HM.out 2]
    clear hk HM
    go_enter Tryz.func22, Tryz.ntmps22
    go_wp2
    all_goals
      go_ret
      first
        | exact ⟨rfl, HB.out _ _⟩
        | (exfalso; simp only [beq_iff_eq, beq_eq_false_iff_ne, ne_eq] at *; omega)
  · rw [HM.out 3]
    clear hk HM
    go_enter Tryz.func22, Tryz.ntmps22
    go_wp2
    all_goals
      go_ret
      first
        | exact ⟨rfl, HB.out _ _⟩
        | (exfalso; simp only [beq_iff_eq, beq_eq_false_iff_ne, ne_eq] at *; omega)
  · rw [HM.out 4]
    clear hk HM
    go_enter Tryz.func22, Tryz.ntmps22
    go_wp2
    all_goals
      go_ret
      first
        | exact ⟨rfl, HB.out _ _⟩
        | (exfalso; simp only [beq_iff_eq, beq_eq_false_iff_ne, ne_eq] at *; omega)
  · have e : mayM (⟨ok, ol, od⟩ :: st) k = if 0 ≤ od ∧ (L : Int) = od + 1 then 42 else 0 := by
      rw [HM.out k, if_neg (by omega), if_neg (by omega)]
      by_cases h : 0 ≤ od ∧ (L : Int) = od + 1
      · rw [if_pos h, if_pos h]
      · rw [if_neg h, if_neg h, if_neg (by omega)]
    rw [e]
    have b0 : (k == 0) = false := by simp; omega
    have b1 : (k == 1) = false := by simp; omega
    have b2 : (k == 2) = false := by simp; omega
    have b3 : (k == 3) = false := by simp; omega
    have b4 : (k == 4) = false := by simp; omega
    clear hk HM e h5
    go_enter Tryz.func22, Tryz.ntmps22
    go_wp2
    all_goals
      go_ret
      first
        | exact ⟨rfl, HB.out _ _⟩
        | (exfalso; simp only [beq_iff_eq, beq_eq_false_iff_ne, ne_eq] at *; omega)
end Go.Proofs.YthfjlcflpneffaaGreatDoor
