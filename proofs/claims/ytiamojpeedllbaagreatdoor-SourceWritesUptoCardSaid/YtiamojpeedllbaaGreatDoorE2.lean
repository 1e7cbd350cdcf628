/-
When two data are the same: the document's Same, for every two data; how many data there are: the document's Huge. No condition.
-/
import Derived.Test.YtiamojpeedllbaaGreatDoorE1
import Derived.Test.YtiamojpeedllbaaGreatDoorD17
namespace Go.Proofs.YtiamojpeedllbaaGreatDoor.Dat
open Go.ChangeShapes Go.WideShapes Go.ChangeAt Go.RowKit
set_option maxRecDepth 100000

def SameOk (t : PT) : Prop := ∀ (u : PT) (w : World) (B : Nat) (va vb : Value), RepV w B t va → RepV w B u vb → B ≤ w.heap.size →
  Calls Tryz.prog 37 #[t.val va, u.val vb] w fun e w' => e = .returned (.bool (sameB t u)) ∧ Below w.heap.size w w'

/-- Two rows of different fields. -/
theorem same_not (k i : Int) (s : ByteArray) (k' i' : Int) (s' : ByteArray) (a b : Option Addr) (n c n' c' : Nat) (h : k ≠ k' ∨ k = k' ∧ i ≠ i' ∨ k = k' ∧ i = i' ∧ ¬ s = s' ∨ k = k' ∧ i = i' ∧ s = s' ∧ n ≠ n') (w : World) :
    Calls Tryz.prog 37 #[.agg #[.int .i64 k, .int .i64 i, .string s, .slice a n c], .agg #[.int .i64 k', .int .i64 i', .string s', .slice b n' c']] w fun e w' => e = .returned (.bool false) ∧ Below w.heap.size w w' := by
  have hb3 := fun o1 o2 : Obj => ((Below.refl w.heap.size w).alloc (Nat.le_refl _) o1).alloc (by simp) o2
  rcases h with h | ⟨rfl, h⟩ | ⟨rfl, rfl, h⟩ | ⟨rfl, rfl, rfl, h⟩
  · have hq : (k != k') = true := by simpa using h
    have hq2 : (k == k') = false := by simpa using h
    clear h
    go_enter Tryz.func37, Tryz.ntmps37
    go_wp2
    go_ret
    exact ⟨rfl, hb3 _ _⟩
  · have hq : (i != i') = true := by simpa using h
    have hq2 : (i == i') = false := by simpa using h
    clear h
    go_enter Tryz.func37, Tryz.ntmps37
    go_wp2
    go_ret
    exact ⟨rfl, hb3 _ _⟩
  · have hq : ¬ s.toList = s'.toList := by
      rw [ByteArray.toList_eq, ByteArray.toList_eq]
      exact fun hh => h (Go.WideShapes.bytes_inj hh)
    have hq2 : (s.toList == s'.toList) = false := by simpa using hq
    clear h
    go_enter Tryz.func37, Tryz.ntmps37
    go_wp2
    go_ret
    exact ⟨rfl, hb3 _ _⟩
  · have hq : ((n : Int) != (n' : Int)) = true := by simp; omega
    have hq2 : ((n : Int) == (n' : Int)) = false := by simp; omega
    clear h
    go_enter Tryz.func37, Tryz.ntmps37
    go_wp2
    go_ret
    exact ⟨rfl, hb3 _ _⟩

theorem same_none (k i : Int) (s : ByteArray) (a b : Option Addr) (c c' : Nat) (w : World) :
    Calls Tryz.prog 37 #[.agg #[.int .i64 k, .int .i64 i, .string s, .slice a 0 c], .agg #[.int .i64 k, .int .i64 i, .string s, .slice b 0 c']] w fun e w' => e = .returned (.bool true) ∧ Below w.heap.size w w' := by
  have hb3 := fun o1 o2 : Obj => ((Below.refl w.heap.size w).alloc (Nat.le_refl _) o1).alloc (by simp) o2
  go_enter Tryz.func37, Tryz.ntmps37
  go_wp2
  refine wp_loop_rounds 1 ?_
  rw [rounds_succ]
  go_wp2
  go_ret
  exact ⟨rfl, hb3 _ _⟩

set_option maxRecDepth 100000 in
theorem same_loop (k i : Int) (s : ByteArray) (l m : List PT) (ih : ∀ t ∈ l, SameOk t) (b1 o1 c1 b2 o2 c2 : Nat) (w : World) (B : Nat) (hB : B ≤ w.heap.size) (hlm : l.length = m.length) (h1 : l.length ≤ c1) (m1 : c1 ≤ maxLen)
    (hb1 : b1 < B) (hb2 : b2 < B) (hra : RepAt w B l b1 o1) (hrb : RepAt w B m b2 o2) :
    Calls Tryz.prog 37 #[.agg #[.int .i64 k, .int .i64 i, .string s, .slice (some ⟨b1, o1, none⟩) l.length c1], .agg #[.int .i64 k, .int .i64 i, .string s, .slice (some ⟨b2, o2, none⟩) m.length c2]] w fun e w' => e = .returned (.bool (samesB l m)) ∧ Below w.heap.size w w' := by
  have IH := Lib.hid ih
  have HRA := Lib.hid hra
  have HRB := Lib.hid hrb
  unfold maxLen at m1
  have hn : ((l.length : Int) != (m.length : Int)) = false := by simp; omega
  have hlm1 : l.length ≤ m.length := by omega
  have hlm2 : m.length ≤ l.length := by omega
  clear ih hra hrb hlm
  have hb0 := fun o1 o2 : Obj => ((Below.refl w.heap.size w).alloc (Nat.le_refl _) o1).alloc (by simp) o2
  go_enter Tryz.func37, Tryz.ntmps37
  go_wp2
  have x3 : ∀ o2 : Obj, ((w.alloc (.cells #[.int .i64 k, .int .i64 i, .string s, .slice (some ⟨b1, o1, none⟩) l.length c1] 28)).alloc o2).cell? ⟨w.heap.size, 3, none⟩ = some (.slice (some ⟨b1, o1, none⟩) l.length c1) := fun o2 =>
    (Lib.cell_of_heap (blk_alloc (heap_alloc_new w _)) 3).trans rfl
  have y3 := new_cell (w.alloc (.cells #[.int .i64 k, .int .i64 i, .string s, .slice (some ⟨b1, o1, none⟩) l.length c1] 28)) #[.int .i64 k, .int .i64 i, .string s, .slice (some ⟨b2, o2, none⟩) m.length c2] 28 3 _ rfl
  rw [show (w.alloc (.cells #[.int .i64 k, .int .i64 i, .string s, .slice (some ⟨b1, o1, none⟩) l.length c1] 28)).heap.size = w.heap.size + 1 by simp] at y3
  have X3 := Lib.hid x3
  have Y3 := Lib.hid y3
  clear x3 y3
  go_loopw [5] (fun ix wr => ∃ j : Nat, j ≤ l.length ∧ ix = .int .i64 j ∧ l.take j = m.take j ∧ wr.cell? ⟨w.heap.size, 3, none⟩ = some (.slice (some ⟨b1, o1, none⟩) l.length c1) ∧ wr.cell? ⟨w.heap.size + 1, 3, none⟩ = some (.slice (some ⟨b2, o2, none⟩) m.length c2) ∧ Below w.heap.size w wr) (fun i _ => l.length - (intOf i).toNat)
  case atStart => exact ⟨0, Nat.zero_le _, rfl, rfl, X3.out _, Y3.out, hb0 _ _⟩
  case round =>
    obtain ⟨j, hj, rfl, ht, hx3, hy3, hbr⟩ := hrel
    have HT := Lib.hid ht
    clear ht
    have hsx : w.heap.size < wr.heap.size := World.block_lt_of_cell? _ _ hx3
    have hsy : w.heap.size + 1 < wr.heap.size := World.block_lt_of_cell? _ _ hy3
    by_cases hlt : j < l.length
    · have hltm : j < m.length := by omega
      obtain ⟨k1, i1, s1, n1, v1, hj1, ok1, ok2, hs1, d0, d1, d2, d3, hv1⟩ := repAt_item (HRA.out.below hbr hB hb1) hlt
      obtain ⟨k2, i2, s2, n2, v2, hj2, ok3, ok4, hs2, e0, e1, e2, e3, hv2⟩ := repAt_item (HRB.out.below hbr hB hb2) hltm
      have HV1 := Lib.hid hv1
      have HV2 := Lib.hid hv2
      have hbs1 : b1 < wr.heap.size := World.block_lt_of_cell? _ _ d0
      have hbs2 : b2 < wr.heap.size := World.block_lt_of_cell? _ _ e0
      obtain ⟨a1, c1', rfl, _⟩ := hv1
      obtain ⟨a2, c2', rfl, _⟩ := hv2
      have hL : SameOk (.mk k1 i1 s1 n1) := by
        have := IH.out l[j] (List.getElem_mem _)
        rwa [hj1] at this
      have C := hL (.mk k2 i2 s2 n2) wr.drew B (.slice a1 n1.length c1') (.slice a2 n2.length c2') ⟨ok1, ok2, hs1, HV1.out.below ((Below.refl B wr).drew) (Nat.le_refl _)⟩ ⟨ok3, ok4, hs2, HV2.out.below ((Below.refl B wr).drew) (Nat.le_refl _)⟩ (by show B ≤ wr.heap.size; omega)
      have hbd := hbr.drew
      by_cases hs : sameB (.mk k1 i1 s1 n1) (.mk k2 i2 s2 n2) = true
      · have hnx := take_snoc_eq hlt hltm HT.out (by
          rw [hj1, hj2]
          simpa [sameB] using hs)
        rw [hs] at C
        have HC := Lib.hid C
        have HN := Lib.hid hnx
        clear C hnx hs hj1 hj2
        go_wp2
        go_still_tail 10, (by kernel_rfl)
        change wpList _ _ _ _ _ wr.drew
        have hx3' : wr.drew.cell? ⟨w.heap.size, 3, none⟩ = some (.slice (some ⟨b1, o1, none⟩) l.length c1) := hx3
        have hy3' : wr.drew.cell? ⟨w.heap.size + 1, 3, none⟩ = some (.slice (some ⟨b2, o2, none⟩) m.length c2) := hy3
        have hsy' : w.heap.size + 1 < wr.drew.heap.size := hsy
        clear hx3 hy3 hsx hsy HV1 HV2 d0 d1 d2 d3 e0 e1 e2 e3 hbs1 hbs2
        generalize wr.drew = w2 at HC hbd hx3' hy3' hsy' ⊢
        go_wp2_with fail
        refine (HC.out).mono ?_
        rintro e w3 ⟨rfl, hb4⟩
        go_wp2
        go_roundw
        case rel => exact ⟨j + 1, by omega, by go_num, HN.out, (hb4.cell (p := ⟨w.heap.size, 3, none⟩) (by show w.heap.size < _; omega)).trans hx3', (hb4.cell (p := ⟨w.heap.size + 1, 3, none⟩) (by show w.heap.size + 1 < _; omega)).trans hy3', hbd.trans (hb4.mono (by omega))⟩
        case measure => simp [intOf]; omega
      · have hs' : sameB (.mk k1 i1 s1 n1) (.mk k2 i2 s2 n2) = false := by simpa using hs
        have hnx : samesB l m = false := samesB_at hlt hltm (by
          rw [hj1, hj2]
          simpa [sameB] using hs)
        rw [hs'] at C
        have HC := Lib.hid C
        have HN := Lib.hid hnx
        clear C hnx hs hj1 hj2
        go_wp2
        go_still_tail 10, (by kernel_rfl)
        change wpList _ _ _ _ _ wr.drew
        have hsy' : w.heap.size + 1 < wr.drew.heap.size := hsy
        clear hx3 hy3 hsx hsy HV1 HV2 d0 d1 d2 d3 e0 e1 e2 e3 hbs1 hbs2
        generalize wr.drew = w2 at HC hbd hsy' ⊢
        go_wp2_with fail
        refine (HC.out).mono ?_
        rintro e w3 ⟨rfl, hb4⟩
        go_wp2
        go_ret
        exact ⟨ret_bool HN.out.symm, hbd.trans (hb4.mono (by omega))⟩
    · obtain rfl : j = l.length := by omega
      have hfin : samesB l m = true := by
        have h1 := HT.out
        rw [List.take_length, List.take_of_length_le (by omega)] at h1
        simp [samesB, h1]
      have HFI := Lib.hid hfin
      clear hfin
      go_wp2
      go_ret
      exact ⟨ret_bool HFI.out.symm, hbr⟩

theorem same_step (k i : Int) (s : ByteArray) (l : List PT) (ih : ∀ t ∈ l, SameOk t) : SameOk (.mk k i s l) := by
  intro u w B va vb ha hb hB
  match u with
  | .mk k' i' s' m =>
    have hsame := sameB_mk k i s l k' i' s' m
    obtain ⟨a, c, rfl, hl1, hm1, hn1, hr1⟩ := ha.2.2.2
    obtain ⟨b, d, rfl, _, _, hn2, hr2⟩ := hb.2.2.2
    show Calls Tryz.prog 37 #[.agg #[.int .i64 k, .int .i64 i, .string s, .slice a l.length c], .agg #[.int .i64 k', .int .i64 i', .string s', .slice b m.length d]] w _
    by_cases h : k = k' ∧ i = i' ∧ s = s' ∧ l.length = m.length
    · obtain ⟨rfl, rfl, rfl, h4⟩ := h
      have hr : sameB (.mk k i s l) (.mk k i s m) = samesB l m := by
        rw [Bool.eq_iff_iff, hsame]
        simp [samesB]
      rw [hr]
      by_cases h0 : l = []
      · subst h0
        obtain rfl : m = [] := List.length_eq_zero_iff.1 h4.symm
        have : samesB [] [] = true := by simp [samesB]
        rw [this]
        exact same_none k i s a b c d w
      · rcases hr1 with rfl | ⟨b1, o1, rfl, hb1, hr1⟩
        · exact absurd rfl h0
        rcases hr2 with rfl | ⟨b2, o2, rfl, hb2, hr2⟩
        · exact absurd (List.length_eq_zero_iff.1 h4) h0
        exact same_loop k i s l m ih b1 o1 c b2 o2 d w B hB h4 hl1 hm1 hb1 hb2 hr1 hr2
    · have hr : sameB (.mk k i s l) (.mk k' i' s' m) = false := by
        rw [← Bool.not_eq_true, hsame]
        rintro ⟨rfl, rfl, rfl, rfl⟩
        exact h ⟨rfl, rfl, rfl, rfl⟩
      rw [hr]
      refine same_not k i s k' i' s' a b l.length c m.length d ?_ w
      by_cases e1 : k = k'
      · by_cases e2 : i = i'
        · by_cases e3 : s = s'
          · exact .inr (.inr (.inr ⟨e1, e2, e3, fun e4 => h ⟨e1, e2, e3, e4⟩⟩))
          · exact .inr (.inr (.inl ⟨e1, e2, e3⟩))
        · exact .inr (.inl ⟨e1, e2⟩)
      · exact .inl e1

mutual
theorem same_any : ∀ t : PT, SameOk t
  | .mk k i s l => same_step k i s l (same_all l)
theorem same_all : ∀ l : List PT, ∀ t ∈ l, SameOk t
  | [], t, h => by cases h
  | u :: l, t, h => (List.mem_cons.1 h).elim (fun e => e ▸ same_any u) (fun h => same_all l t h)
end
end Go.Proofs.YtiamojpeedllbaaGreatDoor.Dat
