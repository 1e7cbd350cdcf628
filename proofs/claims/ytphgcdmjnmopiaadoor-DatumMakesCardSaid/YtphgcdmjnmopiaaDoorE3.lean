/-
How many data there are: the document's left and Huge, for every row of data. No condition.
-/
import Derived.Test.YtphgcdmjnmopiaaDoorD17
namespace Go.Proofs.YtphgcdmjnmopiaaDoor
open Go.ChangeShapes Go.WideShapes Go.ChangeAt Go.RowKit

mutual
/-- How many data a datum is. -/
def numT : PT → Nat
  | .mk _ _ _ l => 1 + numsT l
def numsT : List PT → Nat
  | [] => 0
  | t :: l => numT t + numsT l
end
theorem numsT_take : ∀ (l : List PT) (j : Nat) (h : j < l.length), numsT (l.take (j + 1)) = numsT (l.take j) + numT l[j]
  | t :: l, 0, _ => by simp [numsT]
  | t :: l, j + 1, h => by
    have := numsT_take l j (by simpa using h)
    simp only [List.take_succ_cons, numsT, List.getElem_cons_succ]
    omega
theorem numsT_le : ∀ (l : List PT) (j : Nat), numsT (l.take j) ≤ numsT l
  | [], j => by simp [numsT]
  | t :: l, 0 => by simp [numsT]
  | t :: l, j + 1 => by
    have := numsT_le l j
    simp only [List.take_succ_cons, numsT]
    omega

def LeftOk (t : PT) : Prop := ∀ (w : World) (B n : Nat) (v : Value), RepV w B t v → B ≤ w.heap.size → n ≤ 1000000 →
  Calls Tryd.prog 35 #[t.val v, .int .i64 (n : Int)] w fun e w' => e = .returned (.int .i64 ((n - numT t : Nat) : Int)) ∧ Below w.heap.size w w'

theorem left_zero (k i : Int) (s : ByteArray) (a : Option Addr) (m c : Nat) (w : World) :
    Calls Tryd.prog 35 #[.agg #[.int .i64 k, .int .i64 i, .string s, .slice a m c], .int .i64 ((0 : Nat) : Int)] w fun e w' => e = .returned (.int .i64 ((0 : Nat) : Int)) ∧ Below w.heap.size w w' := by
  go_enter Tryd.func35, Tryd.ntmps35
  go_wp2
  refine wp_loop_rounds 1 ?_
  rw [rounds_succ]
  go_wp2
  all_goals
    go_ret
    exact ⟨rfl, (Below.refl w.heap.size w).alloc (Nat.le_refl _) _⟩

theorem left_none (k i : Int) (s : ByteArray) (a : Option Addr) (c n : Nat) (hn : 0 < n) (hn2 : n ≤ 1000000) (w : World) :
    Calls Tryd.prog 35 #[.agg #[.int .i64 k, .int .i64 i, .string s, .slice a 0 c], .int .i64 (n : Int)] w fun e w' => e = .returned (.int .i64 ((n - 1 : Nat) : Int)) ∧ Below w.heap.size w w' := by
  have hn' : (0 : Int) < n := by omega
  have hc : ((n - 1 : Nat) : Int) = (n : Int) - 1 := by omega
  rw [hc]
  have hn3 : (n : Int) ≤ 1000000 := by omega
  clear hc
  go_enter Tryd.func35, Tryd.ntmps35
  go_wp2
  refine wp_loop_rounds 1 ?_
  rw [rounds_succ]
  go_wp2
  all_goals
    go_ret
    exact ⟨rfl, (Below.refl w.heap.size w).alloc (Nat.le_refl _) _⟩
theorem left_loop (k i : Int) (s : ByteArray) (l : List PT) (ih : ∀ t ∈ l, LeftOk t) (b o c n : Nat) (w : World) (B : Nat) (hB : B ≤ w.heap.size) (hn : 0 < n) (hn2 : n ≤ 1000000) (hl : l.length ≤ c) (hm : c ≤ maxLen) (hb : b < B) (hr : RepAt w B l b o) :
    Calls Tryd.prog 35 #[.agg #[.int .i64 k, .int .i64 i, .string s, .slice (some ⟨b, o, none⟩) l.length c], .int .i64 (n : Int)] w fun e w' => e = .returned (.int .i64 ((n - (1 + numsT l) : Nat) : Int)) ∧ Below w.heap.size w w' := by
  have IH := Lib.hid ih
  have HR := Lib.hid hr
  unfold maxLen at hm
  clear ih hr
  have hn' : (0 : Int) < n := by omega
  have hn3 : (n : Int) ≤ 1000000 := by omega
  have hb0 := fun o1 : Obj => ((Below.refl w.heap.size w).alloc (Nat.le_refl _) o1)
  have X3 := Lib.hid (new_cell w #[.int .i64 k, .int .i64 i, .string s, .slice (some ⟨b, o, none⟩) l.length c] 24 3 _ rfl)
  go_enter Tryd.func35, Tryd.ntmps35
  go_wp2
  go_loopw [1, 5] (fun nx ix wr => ∃ j : Nat, j ≤ l.length ∧ ix = .int .i64 j ∧ nx = .int .i64 ((n - (1 + numsT (l.take j)) : Nat) : Int) ∧ wr.cell? ⟨w.heap.size, 3, none⟩ = some (.slice (some ⟨b, o, none⟩) l.length c) ∧ Below w.heap.size w wr) (fun _ i _ => l.length - (intOf i).toNat)
  case atStart => exact ⟨0, Nat.zero_le _, rfl, by simp only [List.take_zero, numsT]; congr 1; omega, X3.out, hb0 _⟩
  case round =>
    obtain ⟨j, hj, rfl, rfl, hx3, hbr⟩ := hrel
    have hsx : w.heap.size < wr.heap.size := World.block_lt_of_cell? _ _ hx3
    have hN := Lib.hid (numsT_le l j)
    by_cases hz : n - (1 + numsT (l.take j)) = 0
    · have hfin : ((n - (1 + numsT l) : Nat) : Int) = 0 := by have := hN.out; omega
      have hzz : ((n - (1 + numsT (l.take j)) : Nat) : Int) = 0 := by omega
      have HFI := Lib.hid hfin
      rw [hzz]
      clear hfin hzz hz
      by_cases hlt : j < l.length
      · go_wp2
        go_ret
        exact ⟨ret_i64 HFI.out.symm, hbr⟩
      · have hge : ¬ (j : Int) < (l.length : Int) := by omega
        go_wp2
        go_ret
        exact ⟨ret_i64 HFI.out.symm, hbr⟩
    · by_cases hlt : j < l.length
      · obtain ⟨k1, i1, s1, n1, v1, hj1, ok1, ok2, hs1, d0, d1, d2, d3, hv1⟩ := repAt_item (HR.out.below hbr hB hb) hlt
        have hnt := numsT_take l j hlt
        rw [hj1] at hnt
        have hL : LeftOk (.mk k1 i1 s1 n1) := by
          have := IH.out l[j] (List.getElem_mem _)
          rwa [hj1] at this
        generalize hq : n - (1 + numsT (l.take j)) = q at *
        have HQ := Lib.hid hq
        have HNT := Lib.hid hnt
        have HV1 := Lib.hid hv1
        have hbs1 : b < wr.heap.size := World.block_lt_of_cell? _ _ d0
        obtain ⟨a1, c1', rfl, _⟩ := hv1
        have hq0 : (0 : Int) < q := by omega
        have hqn : q ≤ 1000000 := by omega
        have HC := Lib.hid (hL wr B q (.slice a1 n1.length c1') ⟨ok1, ok2, hs1, HV1.out⟩ (by omega) hqn)
        clear hq hnt hj1 hL hz
        go_wp2_with fail
        refine (HC.out).mono ?_
        rintro e w3 ⟨rfl, hb4⟩
        go_wp2
        go_roundw
        case rel => exact ⟨j + 1, by omega, by go_num, by rw [HNT.out]; congr 2; have := HQ.out; omega, (hb4.cell (p := ⟨w.heap.size, 3, none⟩) (by show w.heap.size < _; omega)).trans hx3, hbr.trans (hb4.mono (by omega))⟩
        case measure => simp [intOf]; omega
      · obtain rfl : j = l.length := by omega
        rw [List.take_length] at hz ⊢
        generalize hq : n - (1 + numsT l) = q at hz ⊢
        have HQ := Lib.hid hq
        have hq0 : (0 : Int) < q := by omega
        clear hz hq
        go_wp2
        go_ret
        exact ⟨ret_i64 (by rw [HQ.out]), hbr⟩

theorem left_step (k i : Int) (s : ByteArray) (l : List PT) (ih : ∀ t ∈ l, LeftOk t) : LeftOk (.mk k i s l) := by
  intro w B n v hv hB hn
  obtain ⟨a, c, rfl, hl, hm, hna, hr⟩ := hv.2.2.2
  show Calls Tryd.prog 35 #[.agg #[.int .i64 k, .int .i64 i, .string s, .slice a l.length c], .int .i64 (n : Int)] w _
  rw [numT]
  by_cases hz : n = 0
  · subst hz
    rw [Nat.zero_sub]
    exact left_zero k i s a l.length c w
  · rcases hr with rfl | ⟨b, o, rfl, hb, hr⟩
    · rw [numsT]
      exact left_none k i s a c n (by omega) hn w
    · exact left_loop k i s l ih b o c n w B hB (by omega) hn hl hm hb hr

mutual
theorem left_any : ∀ t : PT, LeftOk t
  | .mk k i s l => left_step k i s l (left_all l)
theorem left_all : ∀ l : List PT, ∀ t ∈ l, LeftOk t
  | [], t, h => by cases h
  | u :: l, t, h => (List.mem_cons.1 h).elim (fun e => e ▸ left_any u) (fun h => left_all l t h)
end

/-- Are more than 100000 data come to? -/
def hugeB (l : List PT) : Bool := decide (100001 ≤ numsT l)

theorem huge_any (l : List PT) (v : Value) (w : World) (B : Nat) (hv : RepS w B l v) (hB : B ≤ w.heap.size) :
    Calls Tryd.prog 17 #[v] w fun e w' => e = .returned (.bool (hugeB l)) ∧ Below w.heap.size w w' := by
  obtain ⟨a, c, rfl, hl, hm, hna, hr⟩ := hv
  unfold maxLen at hm
  rcases hr with rfl | ⟨b, o, rfl, hb, hr⟩
  · have hf : hugeB [] = false := by simp [hugeB, numsT]
    rw [hf]
    go_enter Tryd.func17, Tryd.ntmps17
    go_wp2
    refine wp_loop_rounds 1 ?_
    rw [rounds_succ]
    go_wp2
    go_ret
    exact ⟨rfl, Below.refl _ _⟩
  · have HR := Lib.hid hr
    clear hr
    go_enter Tryd.func17, Tryd.ntmps17
    go_wp2
    go_loopw [3, 4] (fun nx ix wr => ∃ j : Nat, j ≤ l.length ∧ ix = .int .i64 j ∧ nx = .int .i64 ((100001 - numsT (l.take j) : Nat) : Int) ∧ Below w.heap.size w wr) (fun _ i _ => l.length - (intOf i).toNat)
    case atStart => exact ⟨0, Nat.zero_le _, rfl, rfl, Below.refl _ _⟩
    case round =>
      obtain ⟨j, hj, rfl, rfl, hbr⟩ := hrel
      have hsz := hbr.size
      have hN := Lib.hid (numsT_le l j)
      by_cases hz : 100001 - numsT (l.take j) = 0
      · have hfin : hugeB l = true := by have := hN.out; simp only [hugeB, decide_eq_true_eq]; omega
        have hzz : ((100001 - numsT (l.take j) : Nat) : Int) = 0 := by omega
        rw [hzz]
        have HFI := Lib.hid hfin
        clear hfin hzz hz
        by_cases hlt : j < l.length
        · go_wp2
          go_ret
          exact ⟨ret_bool HFI.out.symm, hbr⟩
        · have hge : ¬ (j : Int) < (l.length : Int) := by omega
          go_wp2
          go_ret
          exact ⟨ret_bool HFI.out.symm, hbr⟩
      · by_cases hlt : j < l.length
        · obtain ⟨k1, i1, s1, n1, v1, hj1, ok1, ok2, hs1, d0, d1, d2, d3, hv1⟩ := repAt_item (HR.out.below hbr hB hb) hlt
          have hnt := numsT_take l j hlt
          rw [hj1] at hnt
          generalize hq : 100001 - numsT (l.take j) = q at *
          have HQ := Lib.hid hq
          have HNT := Lib.hid hnt
          have HV1 := Lib.hid hv1
          have hbs1 : b < wr.heap.size := World.block_lt_of_cell? _ _ d0
          obtain ⟨a1, c1', rfl, _⟩ := hv1
          have hq0 : (0 : Int) < q := by omega
          have hqn : q ≤ 1000000 := by omega
          have HC := Lib.hid (left_any (.mk k1 i1 s1 n1) wr B q (.slice a1 n1.length c1') ⟨ok1, ok2, hs1, HV1.out⟩ (by omega) hqn)
          clear hq hnt hj1 hz
          go_wp2_with fail
          refine (HC.out).mono ?_
          rintro e w3 ⟨rfl, hb4⟩
          go_wp2
          go_roundw
          case rel => exact ⟨j + 1, by omega, by go_num, by rw [HNT.out]; congr 2; have := HQ.out; omega, hbr.trans (hb4.mono (by omega))⟩
          case measure => simp [intOf]; omega
        · obtain rfl : j = l.length := by omega
          rw [List.take_length] at hz ⊢
          have hfin : hugeB l = false := by simp only [hugeB, decide_eq_false_iff_not]; omega
          have HFI := Lib.hid hfin
          generalize 100001 - numsT l = q at *
          have hq0 : (0 : Int) < q := by omega
          have hqb : ((q : Int) == 0) = false := by simp; omega
          clear hz hfin
          go_wp2
          go_ret
          exact ⟨ret_bool HFI.out.symm, hbr⟩
end Go.Proofs.YtphgcdmjnmopiaaDoor
