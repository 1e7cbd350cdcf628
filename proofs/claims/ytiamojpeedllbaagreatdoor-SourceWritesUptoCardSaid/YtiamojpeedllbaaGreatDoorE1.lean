/-
When two data are the same: package data's Equal, and the document's Same, for every two data; how many data there are: the document's Huge. No condition.
-/
import Derived.Test.YtiamojpeedllbaaGreatDoorD11
import Derived.StillTailTactics
namespace Go.Proofs.YtiamojpeedllbaaGreatDoor.Dat
open Go.ChangeShapes Go.WideShapes Go.ChangeAt Go.RowKit
set_option maxRecDepth 100000

open Classical in
/-- Are two data the same? -/
noncomputable def sameB (t u : PT) : Bool := decide (t = u)
open Classical in
noncomputable def samesB (l m : List PT) : Bool := decide (l = m)

theorem sameB_mk (k i : Int) (s : ByteArray) (l : List PT) (k' i' : Int) (s' : ByteArray) (l' : List PT) : sameB (.mk k i s l) (.mk k' i' s' l') = true ↔ k = k' ∧ i = i' ∧ s = s' ∧ l = l' := by
  simp [sameB]
theorem samesB_len {l m : List PT} (h : l.length ≠ m.length) : samesB l m = false := by
  simp only [samesB, decide_eq_false_iff_not]
  intro e
  exact h (by rw [e])
theorem samesB_at {l m : List PT} {j : Nat} (h1 : j < l.length) (h2 : j < m.length) (h : l[j] ≠ m[j]) : samesB l m = false := by
  simp only [samesB, decide_eq_false_iff_not]
  rintro rfl
  exact h rfl
theorem take_snoc_eq {l m : List PT} {j : Nat} (h1 : j < l.length) (h2 : j < m.length) (ht : l.take j = m.take j) (h : l[j] = m[j]) : l.take (j + 1) = m.take (j + 1) := by
  rw [List.take_succ_eq_append_getElem h1, List.take_succ_eq_append_getElem h2, ht, h]

def EqOk (t : PT) : Prop := ∀ (u : PT) (w : World) (B : Nat) (va vb : Value), RepV w B t va → RepV w B u vb → B ≤ w.heap.size →
  Calls Tryz.prog 22 #[t.val va, u.val vb] w fun e w' => e = .returned (.bool (sameB t u)) ∧ Below w.heap.size w w'

theorem equalFunc_any (l m : List PT) (ih : ∀ t ∈ l, EqOk t) (w : World) (B : Nat) (va vb : Value) (ha : RepS w B l va) (hb : RepS w B m vb) (hB : B ≤ w.heap.size) :
    Calls Tryz.prog 44 #[va, vb, .func (.func 22) #[] #[]] w fun e w' => e = .returned (.bool (samesB l m)) ∧ Below w.heap.size w w' := by
  have HA := Lib.hid ha
  have HM := Lib.hid hb
  have IH := Lib.hid ih
  obtain ⟨a, c, rfl, hla, hma, _, hra⟩ := ha
  obtain ⟨b, d, rfl, hlb, hmb, _, hrb⟩ := hb
  unfold maxLen at hma hmb
  clear ih
  by_cases hl : l.length = m.length
  · rcases hra with rfl | ⟨b1, o1, rfl, hb1, hra⟩
    · have hm0 : m = [] := List.length_eq_zero_iff.1 hl.symm
      subst hm0
      have hs : samesB [] [] = true := by simp [samesB]
      have HS := Lib.hid hs
      clear hs hrb hl
      go_enter Tryz.func44, Tryz.ntmps44
      go_wp2
      refine wp_loop_rounds 1 ?_
      rw [rounds_succ]
      go_wp2
      go_ret
      exact ⟨ret_bool HS.out.symm, Below.refl _ _⟩
    · rcases hrb with rfl | ⟨b2, o2, rfl, hb2, hrb⟩
      · have hl0 : l = [] := List.length_eq_zero_iff.1 hl
        subst hl0
        have hs : samesB [] [] = true := by simp [samesB]
        have HS := Lib.hid hs
        clear hs hra hl
        go_enter Tryz.func44, Tryz.ntmps44
        go_wp2
        refine wp_loop_rounds 1 ?_
        rw [rounds_succ]
        go_wp2
        go_ret
        exact ⟨ret_bool HS.out.symm, Below.refl _ _⟩
      · have HRA := Lib.hid hra
        have HRB := Lib.hid hrb
        have hn : ((l.length : Int) != (m.length : Int)) = false := by simp; omega
        have HLM := Lib.hid hl
        have hlm1 : l.length ≤ m.length := by omega
        have hlm2 : m.length ≤ l.length := by omega
        clear hra hrb hl
        go_enter Tryz.func44, Tryz.ntmps44
        go_wp2
        go_loopw [17] (fun i wr => ∃ j : Nat, j ≤ l.length ∧ i = .int .i64 j ∧ l.take j = m.take j ∧ Below w.heap.size w wr) (fun i _ => l.length - (intOf i).toNat)
        case atStart => exact ⟨0, Nat.zero_le _, rfl, rfl, Below.refl _ _⟩
        case round =>
          obtain ⟨j, hj, rfl, ht, hbr⟩ := hrel
          have HT := Lib.hid ht
          clear ht
          have hsz := hbr.size
          by_cases hlt : j < l.length
          · have hltm : j < m.length := by omega
            obtain ⟨k1, i1, s1, n1, v1, hj1, ok1, ok2, hs1, d0, d1, d2, d3, hv1⟩ := repAt_item (HRA.out.below hbr hB hb1) hlt
            obtain ⟨k2, i2, s2, n2, v2, hj2, ok3, ok4, hs2, e0, e1, e2, e3, hv2⟩ := repAt_item (HRB.out.below hbr hB hb2) hltm
            have HV1 := Lib.hid hv1
            have HV2 := Lib.hid hv2
            have hbs1 : b1 < wr.heap.size := World.block_lt_of_cell? _ _ d0
            have hbs2 : b2 < wr.heap.size := World.block_lt_of_cell? _ _ e0
            obtain ⟨a1, c1, rfl, _⟩ := hv1
            obtain ⟨a2, c2, rfl, _⟩ := hv2
            have hL : EqOk (.mk k1 i1 s1 n1) := by
              have := IH.out l[j] (List.getElem_mem _)
              rwa [hj1] at this
            have C := fun o1 o2 : Obj => hL (.mk k2 i2 s2 n2) ((wr.alloc o1).alloc o2) B (.slice a1 n1.length c1) (.slice a2 n2.length c2)
              ⟨ok1, ok2, hs1, HV1.out.below (((Below.refl wr.heap.size wr).alloc (Nat.le_refl _) _).alloc (by simp) _) (by omega)⟩ ⟨ok3, ok4, hs2, HV2.out.below (((Below.refl wr.heap.size wr).alloc (Nat.le_refl _) _).alloc (by simp) _) (by omega)⟩ (by simp; omega)
            have hb3 := fun o1 o2 : Obj => (hbr.alloc (by omega) o1).alloc (by simp; omega) o2
            by_cases hs : sameB (.mk k1 i1 s1 n1) (.mk k2 i2 s2 n2) = true
            · have hnx := take_snoc_eq hlt hltm HT.out (by
                rw [hj1, hj2]
                simpa [sameB] using hs)
              rw [hs] at C
              have HC := Lib.hid C
              have HN := Lib.hid hnx
              clear C hnx hs hj1 hj2
              go_wp2_with fail
              refine (HC.out _ _).mono ?_
              rintro e w2 ⟨rfl, hb4⟩
              go_wp2
              go_roundw
              case rel => exact ⟨j + 1, by omega, by go_num, HN.out, (hb3 _ _).trans (hb4.mono (by simp; omega))⟩
              case measure => simp [intOf]; omega
            · have hs' : sameB (.mk k1 i1 s1 n1) (.mk k2 i2 s2 n2) = false := by simpa using hs
              have hnx : samesB l m = false := samesB_at hlt hltm (by
                rw [hj1, hj2]
                simpa [sameB] using hs)
              rw [hs'] at C
              have HC := Lib.hid C
              have HN := Lib.hid hnx
              clear C hnx hs hj1 hj2
              go_wp2_with fail
              refine (HC.out _ _).mono ?_
              rintro e w2 ⟨rfl, hb4⟩
              go_wp2
              go_ret
              exact ⟨ret_bool HN.out.symm, (hb3 _ _).trans (hb4.mono (by simp; omega))⟩
          · obtain rfl : j = l.length := by omega
            have hfin : samesB l m = true := by
              have h1 := HT.out
              rw [List.take_length, List.take_of_length_le (by omega)] at h1
              simp [samesB, h1]
            have HFI := Lib.hid hfin
            clear hfin
            go_wp2
            go_ret
            exact ⟨ret_bool HFI.out.symm, hbr⟩
  · have hn : ((l.length : Int) != (m.length : Int)) = true := by simp; omega
    have HS := Lib.hid (samesB_len hl)
    clear hl
    go_enter Tryz.func44, Tryz.ntmps44
    go_wp2
    go_ret
    exact ⟨ret_bool HS.out.symm, Below.refl _ _⟩

theorem eq_step (k i : Int) (s : ByteArray) (l : List PT) (ih : ∀ t ∈ l, EqOk t) : EqOk (.mk k i s l) := by
  intro u w B va vb ha hb hB
  match u with
  | .mk k' i' s' m =>
    have HA := Lib.hid ha
    have HM := Lib.hid hb
    have hsame := sameB_mk k i s l k' i' s' m
    obtain ⟨a, c, rfl, _⟩ := ha.2.2.2
    obtain ⟨b, d, rfl, _⟩ := hb.2.2.2
    have C := fun o1 o2 : Obj => equalFunc_any l m ih ((w.alloc o1).alloc o2) B (.slice a l.length c) (.slice b m.length d)
      (HA.out.2.2.2.below (((Below.refl w.heap.size w).alloc (Nat.le_refl _) _).alloc (by simp) _) hB) (HM.out.2.2.2.below (((Below.refl w.heap.size w).alloc (Nat.le_refl _) _).alloc (by simp) _) hB) (by simp; omega)
    have hb3 := fun o1 o2 : Obj => ((Below.refl w.heap.size w).alloc (Nat.le_refl _) o1).alloc (by simp) o2
    clear ha hb ih
    show Calls Tryz.prog 22 #[.agg #[.int .i64 k, .int .i64 i, .string s, .slice a l.length c], .agg #[.int .i64 k', .int .i64 i', .string s', .slice b m.length d]] w _
    by_cases h1 : k = k'
    · subst h1
      by_cases h2 : i = i'
      · subst h2
        by_cases h3 : s = s'
        · subst h3
          have hr : sameB (.mk k i s l) (.mk k i s m) = samesB l m := by
            rw [Bool.eq_iff_iff, hsame]
            simp [samesB]
          have HR := Lib.hid hr
          have HC := Lib.hid C
          clear C hsame hr
          go_enter Tryz.func22, Tryz.ntmps22
          go_wp2_with fail
          refine (HC.out _ _).mono ?_
          rintro e w2 ⟨rfl, hb4⟩
          go_wp2
          go_ret
          exact ⟨ret_bool HR.out.symm, (hb3 _ _).trans (hb4.mono (by simp; omega))⟩
        · have hr : sameB (.mk k i s l) (.mk k i s' m) = false := by
            rw [← Bool.not_eq_true, hsame]
            exact fun h => h3 h.2.2.1
          have HR := Lib.hid hr
          have hq : ¬ s.toList = s'.toList := by
            rw [ByteArray.toList_eq, ByteArray.toList_eq]
            exact fun h => h3 (Go.WideShapes.bytes_inj h)
          have hq2 : (s.toList == s'.toList) = false := by simpa using hq
          clear C hsame hr
          go_enter Tryz.func22, Tryz.ntmps22
          go_wp2
          go_ret
          exact ⟨ret_bool HR.out.symm, hb3 _ _⟩
      · have hr : sameB (.mk k i s l) (.mk k i' s' m) = false := by
          rw [← Bool.not_eq_true, hsame]
          exact fun h => h2 h.2.1
        have HR := Lib.hid hr
        have hq : (i == i') = false := by simpa using h2
        clear C hsame hr
        go_enter Tryz.func22, Tryz.ntmps22
        go_wp2
        go_ret
        exact ⟨ret_bool HR.out.symm, hb3 _ _⟩
    · have hr : sameB (.mk k i s l) (.mk k' i' s' m) = false := by
        rw [← Bool.not_eq_true, hsame]
        exact fun h => h1 h.1
      have HR := Lib.hid hr
      have hq : (k == k') = false := by simpa using h1
      clear C hsame hr
      go_enter Tryz.func22, Tryz.ntmps22
      go_wp2
      go_ret
      exact ⟨ret_bool HR.out.symm, hb3 _ _⟩

mutual
theorem eq_any : ∀ t : PT, EqOk t
  | .mk k i s l => eq_step k i s l (eq_all l)
theorem eq_all : ∀ l : List PT, ∀ t ∈ l, EqOk t
  | [], t, h => by cases h
  | u :: l, t, h => (List.mem_cons.1 h).elim (fun e => e ▸ eq_any u) (fun h => eq_all l t h)
end
end Go.Proofs.YtiamojpeedllbaaGreatDoor.Dat
