/-
Texts E0, E1, E2, E3, L3a, one behind the other (a claim bears sixty files). Conditions: as each says.
-/
import Derived.Test.YtkjgdnfkpebejaaWD
import Derived.StillTailTactics
import Derived.Deep.RegionHeld3

/-
Small lemmas.
-/
namespace Go.Proofs.Ytkjgdnfkpebejaa.Dat
open Go.ChangeShapes Go.WideShapes Go.ChangeAt Go.RowKit
theorem new_cell (w : World) (cs : Array Value) (T : TypeId) (j : Nat) (v : Value) (hv : cs[j]? = some v) : (w.alloc (.cells cs T)).cell? ⟨w.heap.size, j, none⟩ = some v := by
  rw [Lib.cell_of_heap (heap_alloc_new w _)]; exact hv

theorem rep_none (W : World) (B : Nat) : RepS W B [] (.slice none 0 0) := ⟨none, 0, rfl, Nat.le_refl _, Nat.zero_le _, fun _ => rfl, .inl rfl⟩
theorem ok_small {n : Int} (h : -1000 ≤ n ∧ n ≤ 1000) : ok64 n := by unfold ok64; omega
end Go.Proofs.Ytkjgdnfkpebejaa.Dat

/-
When two data are the same: package data's Equal, and the document's Same, for every two data; how many data there are: the document's Huge. No condition.
-/
namespace Go.Proofs.Ytkjgdnfkpebejaa.Dat
open Go.ChangeShapes Go.WideShapes Go.ChangeAt Go.RowKit
set_option maxRecDepth 100000

open Classical in
/-- Are two data the same? -/
noncomputable def sameB (t u : PT) : Bool := decide (t = u)
open Classical in
noncomputable def samesB (l m : List PT) : Bool := decide (l = m)

theorem sameB_mk (k i : Int) (s : ByteArray) (l : List PT) (k' i' : Int) (s' : ByteArray) (l' : List PT) : sameB (.mk k i s l) (.mk k' i' s' l') = true ↔ k = k' ∧ i = i' ∧ s = s' ∧ l = l' := by
  simp [sameB]
theorem samesB_len {l m : List PT} (h : l.length ≠ m.length) : samesB l m = false := by
  simp only [samesB, decide_eq_false_iff_not]
  intro e
  exact h (by rw [e])
theorem samesB_at {l m : List PT} {j : Nat} (h1 : j < l.length) (h2 : j < m.length) (h : l[j] ≠ m[j]) : samesB l m = false := by
  simp only [samesB, decide_eq_false_iff_not]
  rintro rfl
  exact h rfl
theorem take_snoc_eq {l m : List PT} {j : Nat} (h1 : j < l.length) (h2 : j < m.length) (ht : l.take j = m.take j) (h : l[j] = m[j]) : l.take (j + 1) = m.take (j + 1) := by
  rw [List.take_succ_eq_append_getElem h1, List.take_succ_eq_append_getElem h2, ht, h]

end Go.Proofs.Ytkjgdnfkpebejaa.Dat

/-
When two data are the same: the document's Same, for every two data; how many data there are: the document's Huge. No condition.
-/
namespace Go.Proofs.Ytkjgdnfkpebejaa.Dat
open Go.ChangeShapes Go.WideShapes Go.ChangeAt Go.RowKit
set_option maxRecDepth 100000

def SameOk (t : PT) : Prop := ∀ (u : PT) (w : World) (B : Nat) (va vb : Value), RepV w B t va → RepV w B u vb → B ≤ w.heap.size →
  Calls Try.prog 32 #[t.val va, u.val vb] w fun e w' => e = .returned (.bool (sameB t u)) ∧ Below w.heap.size w w'

/-- Two rows of different fields. -/
theorem same_not (k i : Int) (s : ByteArray) (k' i' : Int) (s' : ByteArray) (a b : Option Addr) (n c n' c' : Nat) (h : k ≠ k' ∨ k = k' ∧ i ≠ i' ∨ k = k' ∧ i = i' ∧ ¬ s = s' ∨ k = k' ∧ i = i' ∧ s = s' ∧ n ≠ n') (w : World) :
    Calls Try.prog 32 #[.agg #[.int .i64 k, .int .i64 i, .string s, .slice a n c], .agg #[.int .i64 k', .int .i64 i', .string s', .slice b n' c']] w fun e w' => e = .returned (.bool false) ∧ Below w.heap.size w w' := by
  have hb3 := fun o1 o2 : Obj => ((Below.refl w.heap.size w).alloc (Nat.le_refl _) o1).alloc (by simp) o2
  rcases h with h | ⟨rfl, h⟩ | ⟨rfl, rfl, h⟩ | ⟨rfl, rfl, rfl, h⟩
  · have hq : (k != k') = true := by simpa using h
    have hq2 : (k == k') = false := by simpa using h
    clear h
    go_enter Try.func32, Try.ntmps32
    go_wp2
    go_ret
    exact ⟨rfl, hb3 _ _⟩
  · have hq : (i != i') = true := by simpa using h
    have hq2 : (i == i') = false := by simpa using h
    clear h
    go_enter Try.func32, Try.ntmps32
    go_wp2
    go_ret
    exact ⟨rfl, hb3 _ _⟩
  · have hq : ¬ s.toList = s'.toList := by
      rw [ByteArray.toList_eq, ByteArray.toList_eq]
      exact fun hh => h (Go.WideShapes.bytes_inj hh)
    have hq2 : (s.toList == s'.toList) = false := by simpa using hq
    clear h
    go_enter Try.func32, Try.ntmps32
    go_wp2
    go_ret
    exact ⟨rfl, hb3 _ _⟩
  · have hq : ((n : Int) != (n' : Int)) = true := by simp; omega
    have hq2 : ((n : Int) == (n' : Int)) = false := by simp; omega
    clear h
    go_enter Try.func32, Try.ntmps32
    go_wp2
    go_ret
    exact ⟨rfl, hb3 _ _⟩

theorem same_none (k i : Int) (s : ByteArray) (a b : Option Addr) (c c' : Nat) (w : World) :
    Calls Try.prog 32 #[.agg #[.int .i64 k, .int .i64 i, .string s, .slice a 0 c], .agg #[.int .i64 k, .int .i64 i, .string s, .slice b 0 c']] w fun e w' => e = .returned (.bool true) ∧ Below w.heap.size w w' := by
  have hb3 := fun o1 o2 : Obj => ((Below.refl w.heap.size w).alloc (Nat.le_refl _) o1).alloc (by simp) o2
  go_enter Try.func32, Try.ntmps32
  go_wp2
  refine wp_loop_rounds 1 ?_
  rw [rounds_succ]
  go_wp2
  go_ret
  exact ⟨rfl, hb3 _ _⟩

set_option maxRecDepth 100000 in
theorem same_loop (k i : Int) (s : ByteArray) (l m : List PT) (ih : ∀ t ∈ l, SameOk t) (b1 o1 c1 b2 o2 c2 : Nat) (w : World) (B : Nat) (hB : B ≤ w.heap.size) (hlm : l.length = m.length) (h1 : l.length ≤ c1) (m1 : c1 ≤ maxLen)
    (hb1 : b1 < B) (hb2 : b2 < B) (hra : RepAt w B l b1 o1) (hrb : RepAt w B m b2 o2) :
    Calls Try.prog 32 #[.agg #[.int .i64 k, .int .i64 i, .string s, .slice (some ⟨b1, o1, none⟩) l.length c1], .agg #[.int .i64 k, .int .i64 i, .string s, .slice (some ⟨b2, o2, none⟩) m.length c2]] w fun e w' => e = .returned (.bool (samesB l m)) ∧ Below w.heap.size w w' := by
  have IH := Lib.hid ih
  have HRA := Lib.hid hra
  have HRB := Lib.hid hrb
  unfold maxLen at m1
  have hn : ((l.length : Int) != (m.length : Int)) = false := by simp; omega
  have hlm1 : l.length ≤ m.length := by omega
  have hlm2 : m.length ≤ l.length := by omega
  clear ih hra hrb hlm
  have hb0 := fun o1 o2 : Obj => ((Below.refl w.heap.size w).alloc (Nat.le_refl _) o1).alloc (by simp) o2
  go_enter Try.func32, Try.ntmps32
  go_wp2
  have x3 : ∀ o2 : Obj, ((w.alloc (.cells #[.int .i64 k, .int .i64 i, .string s, .slice (some ⟨b1, o1, none⟩) l.length c1] 25)).alloc o2).cell? ⟨w.heap.size, 3, none⟩ = some (.slice (some ⟨b1, o1, none⟩) l.length c1) := fun o2 =>
    (Lib.cell_of_heap (blk_alloc (heap_alloc_new w _)) 3).trans rfl
  have y3 := new_cell (w.alloc (.cells #[.int .i64 k, .int .i64 i, .string s, .slice (some ⟨b1, o1, none⟩) l.length c1] 25)) #[.int .i64 k, .int .i64 i, .string s, .slice (some ⟨b2, o2, none⟩) m.length c2] 25 3 _ rfl
  rw [show (w.alloc (.cells #[.int .i64 k, .int .i64 i, .string s, .slice (some ⟨b1, o1, none⟩) l.length c1] 25)).heap.size = w.heap.size + 1 by simp] at y3
  have X3 := Lib.hid x3
  have Y3 := Lib.hid y3
  clear x3 y3
  go_loopw [5] (fun ix wr => ∃ j : Nat, j ≤ l.length ∧ ix = .int .i64 j ∧ l.take j = m.take j ∧ wr.cell? ⟨w.heap.size, 3, none⟩ = some (.slice (some ⟨b1, o1, none⟩) l.length c1) ∧ wr.cell? ⟨w.heap.size + 1, 3, none⟩ = some (.slice (some ⟨b2, o2, none⟩) m.length c2) ∧ Below w.heap.size w wr) (fun i _ => l.length - (intOf i).toNat)
  case atStart => exact ⟨0, Nat.zero_le _, rfl, rfl, X3.out _, Y3.out, hb0 _ _⟩
  case round =>
    obtain ⟨j, hj, rfl, ht, hx3, hy3, hbr⟩ := hrel
    have HT := Lib.hid ht
    clear ht
    have hsx : w.heap.size < wr.heap.size := World.block_lt_of_cell? _ _ hx3
    have hsy : w.heap.size + 1 < wr.heap.size := World.block_lt_of_cell? _ _ hy3
    by_cases hlt : j < l.length
    · have hltm : j < m.length := by omega
      obtain ⟨k1, i1, s1, n1, v1, hj1, ok1, ok2, hs1, d0, d1, d2, d3, hv1⟩ := repAt_item (HRA.out.below hbr hB hb1) hlt
      obtain ⟨k2, i2, s2, n2, v2, hj2, ok3, ok4, hs2, e0, e1, e2, e3, hv2⟩ := repAt_item (HRB.out.below hbr hB hb2) hltm
      have HV1 := Lib.hid hv1
      have HV2 := Lib.hid hv2
      have hbs1 : b1 < wr.heap.size := World.block_lt_of_cell? _ _ d0
      have hbs2 : b2 < wr.heap.size := World.block_lt_of_cell? _ _ e0
      obtain ⟨a1, c1', rfl, _⟩ := hv1
      obtain ⟨a2, c2', rfl, _⟩ := hv2
      have hL : SameOk (.mk k1 i1 s1 n1) := by
        have := IH.out l[j] (List.getElem_mem _)
        rwa [hj1] at this
      have C := hL (.mk k2 i2 s2 n2) wr.drew B (.slice a1 n1.length c1') (.slice a2 n2.length c2') ⟨ok1, ok2, hs1, HV1.out.below ((Below.refl B wr).drew) (Nat.le_refl _)⟩ ⟨ok3, ok4, hs2, HV2.out.below ((Below.refl B wr).drew) (Nat.le_refl _)⟩ (by show B ≤ wr.heap.size; omega)
      have hbd := hbr.drew
      by_cases hs : sameB (.mk k1 i1 s1 n1) (.mk k2 i2 s2 n2) = true
      · have hnx := take_snoc_eq hlt hltm HT.out (by
          rw [hj1, hj2]
          simpa [sameB] using hs)
        rw [hs] at C
        have HC := Lib.hid C
        have HN := Lib.hid hnx
        clear C hnx hs hj1 hj2
        go_wp2
        go_still_tail 10, (by kernel_rfl)
        change wpList _ _ _ _ _ wr.drew
        have hx3' : wr.drew.cell? ⟨w.heap.size, 3, none⟩ = some (.slice (some ⟨b1, o1, none⟩) l.length c1) := hx3
        have hy3' : wr.drew.cell? ⟨w.heap.size + 1, 3, none⟩ = some (.slice (some ⟨b2, o2, none⟩) m.length c2) := hy3
        have hsy' : w.heap.size + 1 < wr.drew.heap.size := hsy
        clear hx3 hy3 hsx hsy HV1 HV2 d0 d1 d2 d3 e0 e1 e2 e3 hbs1 hbs2
        generalize wr.drew = w2 at HC hbd hx3' hy3' hsy' ⊢
        go_wp2_with fail
        refine (HC.out).mono ?_
        rintro e w3 ⟨rfl, hb4⟩
        go_wp2
        go_roundw
        case rel => exact ⟨j + 1, by omega, by go_num, HN.out, (hb4.cell (p := ⟨w.heap.size, 3, none⟩) (by show w.heap.size < _; omega)).trans hx3', (hb4.cell (p := ⟨w.heap.size + 1, 3, none⟩) (by show w.heap.size + 1 < _; omega)).trans hy3', hbd.trans (hb4.mono (by omega))⟩
        case measure => simp [intOf]; omega
      · have hs' : sameB (.mk k1 i1 s1 n1) (.mk k2 i2 s2 n2) = false := by simpa using hs
        have hnx : samesB l m = false := samesB_at hlt hltm (by
          rw [hj1, hj2]
          simpa [sameB] using hs)
        rw [hs'] at C
        have HC := Lib.hid C
        have HN := Lib.hid hnx
        clear C hnx hs hj1 hj2
        go_wp2
        go_still_tail 10, (by kernel_rfl)
        change wpList _ _ _ _ _ wr.drew
        have hsy' : w.heap.size + 1 < wr.drew.heap.size := hsy
        clear hx3 hy3 hsx hsy HV1 HV2 d0 d1 d2 d3 e0 e1 e2 e3 hbs1 hbs2
        generalize wr.drew = w2 at HC hbd hsy' ⊢
        go_wp2_with fail
        refine (HC.out).mono ?_
        rintro e w3 ⟨rfl, hb4⟩
        go_wp2
        go_ret
        exact ⟨ret_bool HN.out.symm, hbd.trans (hb4.mono (by omega))⟩
    · obtain rfl : j = l.length := by omega
      have hfin : samesB l m = true := by
        have h1 := HT.out
        rw [List.take_length, List.take_of_length_le (by omega)] at h1
        simp [samesB, h1]
      have HFI := Lib.hid hfin
      clear hfin
      go_wp2
      go_ret
      exact ⟨ret_bool HFI.out.symm, hbr⟩

theorem same_step (k i : Int) (s : ByteArray) (l : List PT) (ih : ∀ t ∈ l, SameOk t) : SameOk (.mk k i s l) := by
  intro u w B va vb ha hb hB
  match u with
  | .mk k' i' s' m =>
    have hsame := sameB_mk k i s l k' i' s' m
    obtain ⟨a, c, rfl, hl1, hm1, hn1, hr1⟩ := ha.2.2.2
    obtain ⟨b, d, rfl, _, _, hn2, hr2⟩ := hb.2.2.2
    show Calls Try.prog 32 #[.agg #[.int .i64 k, .int .i64 i, .string s, .slice a l.length c], .agg #[.int .i64 k', .int .i64 i', .string s', .slice b m.length d]] w _
    by_cases h : k = k' ∧ i = i' ∧ s = s' ∧ l.length = m.length
    · obtain ⟨rfl, rfl, rfl, h4⟩ := h
      have hr : sameB (.mk k i s l) (.mk k i s m) = samesB l m := by
        rw [Bool.eq_iff_iff, hsame]
        simp [samesB]
      rw [hr]
      by_cases h0 : l = []
      · subst h0
        obtain rfl : m = [] := List.length_eq_zero_iff.1 h4.symm
        have : samesB [] [] = true := by simp [samesB]
        rw [this]
        exact same_none k i s a b c d w
      · rcases hr1 with rfl | ⟨b1, o1, rfl, hb1, hr1⟩
        · exact absurd rfl h0
        rcases hr2 with rfl | ⟨b2, o2, rfl, hb2, hr2⟩
        · exact absurd (List.length_eq_zero_iff.1 h4) h0
        exact same_loop k i s l m ih b1 o1 c b2 o2 d w B hB h4 hl1 hm1 hb1 hb2 hr1 hr2
    · have hr : sameB (.mk k i s l) (.mk k' i' s' m) = false := by
        rw [← Bool.not_eq_true, hsame]
        rintro ⟨rfl, rfl, rfl, rfl⟩
        exact h ⟨rfl, rfl, rfl, rfl⟩
      rw [hr]
      refine same_not k i s k' i' s' a b l.length c m.length d ?_ w
      by_cases e1 : k = k'
      · by_cases e2 : i = i'
        · by_cases e3 : s = s'
          · exact .inr (.inr (.inr ⟨e1, e2, e3, fun e4 => h ⟨e1, e2, e3, e4⟩⟩))
          · exact .inr (.inr (.inl ⟨e1, e2, e3⟩))
        · exact .inr (.inl ⟨e1, e2⟩)
      · exact .inl e1

mutual
theorem same_any : ∀ t : PT, SameOk t
  | .mk k i s l => same_step k i s l (same_all l)
theorem same_all : ∀ l : List PT, ∀ t ∈ l, SameOk t
  | [], t, h => by cases h
  | u :: l, t, h => (List.mem_cons.1 h).elim (fun e => e ▸ same_any u) (fun h => same_all l t h)
end
end Go.Proofs.Ytkjgdnfkpebejaa.Dat

/-
How many data a datum is. No condition.
-/
namespace Go.Proofs.Ytkjgdnfkpebejaa.Dat
open Go.ChangeShapes Go.WideShapes Go.ChangeAt Go.RowKit
set_option maxRecDepth 100000

mutual
/-- How many data a datum is. -/
def numT : PT → Nat
  | .mk _ _ _ l => 1 + numsT l
def numsT : List PT → Nat
  | [] => 0
  | t :: l => numT t + numsT l
end
theorem numsT_take : ∀ (l : List PT) (j : Nat) (h : j < l.length), numsT (l.take (j + 1)) = numsT (l.take j) + numT l[j]
  | t :: l, 0, _ => by simp [numsT]
  | t :: l, j + 1, h => by
    have := numsT_take l j (by simpa using h)
    simp only [List.take_succ_cons, numsT, List.getElem_cons_succ]
    omega
theorem numsT_le : ∀ (l : List PT) (j : Nat), numsT (l.take j) ≤ numsT l
  | [], j => by simp [numsT]
  | t :: l, 0 => by simp [numsT]
  | t :: l, j + 1 => by
    have := numsT_le l j
    simp only [List.take_succ_cons, numsT]
    omega

end Go.Proofs.Ytkjgdnfkpebejaa.Dat

/-
Data in new blocks, carried through calls; two rows that are one. No condition.
-/
namespace Go.Proofs.Ytkjgdnfkpebejaa.Dat
open Go.ChangeShapes Go.WideShapes Go.ChangeAt Go.RowKit
set_option maxRecDepth 100000
/-- The world W has come of w, and the datum in the first new block is as it was. -/
def St (w : World) (cs : Array Value) (W : World) : Prop := Below w.heap.size w W ∧ W.heap[w.heap.size]? = some (.cells cs 25 (0, 0))
theorem St.first (w : World) (cs : Array Value) : St w cs (w.alloc (.cells cs 25)) := ⟨(Below.refl _ _).alloc (Nat.le_refl _) _, heap_alloc_new w _⟩
theorem St.next {w W W' : World} {cs : Array Value} (h : St w cs W) (hb : Below W.heap.size W W') : St w cs W' :=
  ⟨h.1.trans (hb.mono (Nat.le_of_lt (lt_of_block h.2))), (hb.block _ (lt_of_block h.2)).trans h.2⟩
theorem St.drew {w W : World} {cs : Array Value} (h : St w cs W) : St w cs W.drew := ⟨h.1.drew, h.2⟩
theorem St.cell {w W : World} {cs : Array Value} (h : St w cs W) (j : Nat) (v : Value) (hv : cs[j]? = some v) : W.cell? ⟨w.heap.size, j, none⟩ = some v := by
  rw [Lib.cell_of_heap h.2]; exact hv
theorem St.lt {w W : World} {cs : Array Value} (h : St w cs W) : w.heap.size < W.heap.size := lt_of_block h.2


/-- The world W has come of w, and the data in the first two new blocks are as they were. -/
def St2 (w : World) (cs ds : Array Value) (W : World) : Prop := Below w.heap.size w W ∧ W.heap[w.heap.size]? = some (.cells cs 25 (0, 0)) ∧ W.heap[w.heap.size + 1]? = some (.cells ds 25 (0, 0))
theorem St2.first (w : World) (cs ds : Array Value) : St2 w cs ds ((w.alloc (.cells cs 25)).alloc (.cells ds 25)) := by
  refine ⟨((Below.refl _ _).alloc (Nat.le_refl _) _).alloc (by simp) _, blk_alloc (heap_alloc_new w _), ?_⟩
  have := heap_alloc_new (w.alloc (.cells cs 25)) (.cells ds 25)
  rwa [show (w.alloc (.cells cs 25)).heap.size = w.heap.size + 1 by simp] at this
theorem St2.lt {w W : World} {cs ds : Array Value} (h : St2 w cs ds W) : w.heap.size + 1 < W.heap.size := lt_of_block h.2.2
theorem St2.next {w W W' : World} {cs ds : Array Value} (h : St2 w cs ds W) (hb : Below W.heap.size W W') : St2 w cs ds W' :=
  ⟨h.1.trans (hb.mono (by have := h.lt; omega)), (hb.block _ (lt_of_block h.2.1)).trans h.2.1, (hb.block _ (lt_of_block h.2.2)).trans h.2.2⟩
theorem St2.drew {w W : World} {cs ds : Array Value} (h : St2 w cs ds W) : St2 w cs ds W.drew := ⟨h.1.drew, h.2⟩
theorem St2.cells {w W : World} {x0 x1 x2 x3 y0 y1 y2 y3 : Value} (h : St2 w #[x0, x1, x2, x3] #[y0, y1, y2, y3] W) :
    W.cell? ⟨w.heap.size, 0, none⟩ = some x0 ∧ W.cell? ⟨w.heap.size, 1, none⟩ = some x1 ∧ W.cell? ⟨w.heap.size, 2, none⟩ = some x2 ∧ W.cell? ⟨w.heap.size, 3, none⟩ = some x3 ∧
    W.cell? ⟨w.heap.size + 1, 0, none⟩ = some y0 ∧ W.cell? ⟨w.heap.size + 1, 1, none⟩ = some y1 ∧ W.cell? ⟨w.heap.size + 1, 2, none⟩ = some y2 ∧ W.cell? ⟨w.heap.size + 1, 3, none⟩ = some y3 ∧ St2 w #[x0, x1, x2, x3] #[y0, y1, y2, y3] W := by
  refine ⟨?_, ?_, ?_, ?_, ?_, ?_, ?_, ?_, h⟩
  · rw [Lib.cell_of_heap h.2.1]; rfl
  · rw [Lib.cell_of_heap h.2.1]; rfl
  · rw [Lib.cell_of_heap h.2.1]; rfl
  · rw [Lib.cell_of_heap h.2.1]; rfl
  · rw [Lib.cell_of_heap h.2.2]; rfl
  · rw [Lib.cell_of_heap h.2.2]; rfl
  · rw [Lib.cell_of_heap h.2.2]; rfl
  · rw [Lib.cell_of_heap h.2.2]; rfl

theorem St2.of {w W : World} {cs ds : Array Value} {a0 a1 a2 a3 a4 a5 a6 a7 : Prop} (h : a0 ∧ a1 ∧ a2 ∧ a3 ∧ a4 ∧ a5 ∧ a6 ∧ a7 ∧ St2 w cs ds W) : St2 w cs ds W := h.2.2.2.2.2.2.2.2

theorem sameB_refl (t : PT) : sameB t t = true := by simp [sameB]
theorem sameB_symm (t u : PT) : sameB t u = sameB u t := by simp [sameB, eq_comm]

theorem repS_two {W : World} {B n : Nat} {k i : Int} {s : ByteArray} {l : List PT} {v : Value} {k' i' : Int} {s' : ByteArray} {l' : List PT} {v' : Value} (hn : n < B) (hb : W.heap[n]? = some (.cells #[.int .i64 k, .int .i64 i, .string s, v, .int .i64 k', .int .i64 i', .string s', v'] 25 (0, 0)))
    (h1 : RepV W B (.mk k i s l) v) (h2 : RepV W B (.mk k' i' s' l') v') : RepS W B [.mk k i s l, .mk k' i' s' l'] (.slice (some ⟨n, 0, none⟩) 2 2) := by
  refine ⟨some ⟨n, 0, none⟩, 2, rfl, by simp, by decide, (fun h => by cases h), .inr ⟨n, 0, rfl, hn, ?_⟩⟩
  rw [RepAt, RepAt, RepAt]
  refine ⟨repD_mk.2 ⟨h1.1, h1.2.1, h1.2.2.1, ?_, ?_, ?_, v, ?_, h1.2.2.2⟩, repD_mk.2 ⟨h2.1, h2.2.1, h2.2.2.1, ?_, ?_, ?_, v', ?_, h2.2.2.2⟩, trivial⟩
  all_goals (rw [Lib.cell_of_heap hb]; rfl)
theorem RepV.below {w w' : World} {B C : Nat} {t : PT} {v : Value} (h : RepV w B t v) (hb : Below C w w') (hB : B ≤ C) : RepV w' B t v := by
  match t with
  | .mk k i s l => exact ⟨h.1, h.2.1, h.2.2.1, h.2.2.2.below hb hB⟩
theorem RepV.mono {w : World} {B C : Nat} {t : PT} {v : Value} (h : RepV w B t v) (hB : B ≤ C) : RepV w C t v := by
  match t with
  | .mk k i s l => exact ⟨h.1, h.2.1, h.2.2.1, h.2.2.2.move hB (fun _ _ _ => rfl)⟩


end Go.Proofs.Ytkjgdnfkpebejaa.Dat
