/-
What is wrong first in a datum: package data's Check, for every datum. No condition.
-/
import Derived.Test.YthfjlcflpneffaaGreatDoorD10
namespace Go.Proofs.YthfjlcflpneffaaGreatDoor.Dat
open Go.ChangeShapes Go.WideShapes Go.ChangeAt Go.RowKit
set_option maxRecDepth 100000

/-- A datum's value. -/
def PT.val : PT → Value → Value
  | .mk k i s _, v => .agg #[.int .i64 k, .int .i64 i, .string s, v]
/-- A datum by value: its own fields in range, its items where the slice leads. -/
def RepV (w : World) (B : Nat) : PT → Value → Prop
  | .mk k i s l, v => ok64 k ∧ ok64 i ∧ s.size ≤ maxLen ∧ RepS w B l v

def LookOk (t : PT) : Prop := ∀ (w : World) (B tb n deep : Nat) (v : Value), RepV w B t v → B ≤ tb → n ≤ 4096 → deep ≤ 32 → w.heap[tb]? = some (.cells #[.int .i64 (n : Int)] 70 (0, 0)) →
  Calls Tryz.prog 30 #[.pointer (some ⟨tb, 0, none⟩), t.val v, .int .i64 (deep : Int)] w fun e w' =>
    e = .returned (.int .i64 (chk deep n t).2) ∧ w'.heap[tb]? = some (.cells #[.int .i64 ((chk deep n t).1 : Int)] 70 (0, 0)) ∧ Below tb w w'

theorem blk_alloc {w : World} {o : Obj} {b : Nat} {x : Obj} (h : w.heap[b]? = some x) : (w.alloc o).heap[b]? = some x := (Below.heap_alloc w o b (lt_of_block h)).trans h

theorem size_setCell (w : World) (a : Addr) (v : Value) : (w.setCell a v).heap.size = w.heap.size := by simp [World.setCell]

/-- The box of a datum, behind a call that has made memory. -/
theorem box_cell {W w1 : World} {cs : Array Value} {T : TypeId} (hb : Below (W.alloc (.cells cs T)).heap.size (W.alloc (.cells cs T)) w1) (j : Nat) (v : Value) (hv : cs[j]? = some v) : w1.cell? ⟨W.heap.size, j, none⟩ = some v := by
  have h : w1.heap[W.heap.size]? = some (.cells cs T (0, 0)) := (hb.block W.heap.size (by simp)).trans (heap_alloc_new W _)
  rw [World.cell?]
  simp [h, hv]

theorem look_many (k i : Int) (s : ByteArray) (v : Value) (deep : Nat) (w : World) (tb : Nat) (hc : w.heap[tb]? = some (.cells #[.int .i64 ((4096 : Nat) : Int)] 70 (0, 0))) :
    Calls Tryz.prog 30 #[.pointer (some ⟨tb, 0, none⟩), .agg #[.int .i64 k, .int .i64 i, .string s, v], .int .i64 (deep : Int)] w fun e w' =>
      e = .returned (.int .i64 22) ∧ w'.heap[tb]? = some (.cells #[.int .i64 ((4096 : Nat) : Int)] 70 (0, 0)) ∧ Below tb w w' := by
  have c0 := cell_of_one hc
  have hlt := lt_of_block hc
  have HB := Lib.hid hc
  clear hc
  go_enter Tryz.func30, Tryz.ntmps30
  go_wp2
  go_ret
  exact ⟨rfl, blk_alloc HB.out, (Below.refl _ _).alloc (by omega) _⟩

theorem look_deep (k i : Int) (s : ByteArray) (v : Value) (n : Nat) (w : World) (tb : Nat) (hn : n < 4096) (hk : nestB k = true) (hc : w.heap[tb]? = some (.cells #[.int .i64 (n : Int)] 70 (0, 0))) :
    Calls Tryz.prog 30 #[.pointer (some ⟨tb, 0, none⟩), .agg #[.int .i64 k, .int .i64 i, .string s, v], .int .i64 ((32 : Nat) : Int)] w fun e w' =>
      e = .returned (.int .i64 21) ∧ w'.heap[tb]? = some (.cells #[.int .i64 ((n + 1 : Nat) : Int)] 70 (0, 0)) ∧ Below tb w w' := by
  have c0 := cell_of_one hc
  have f0 := free_of_one hc
  have hlt := lt_of_block hc
  have HB := Lib.hid hc
  have H := Lib.hid (fun W => hasItems_any k _ hk.symm W)
  clear hc hk
  have hn' : ((n : Int) == 4096) = false := by simp; omega
  go_enter Tryz.func30, Tryz.ntmps30
  go_wp2_with (go_at_call 44; ((with_reducible refine (H.out _).mono ?_); rintro e w' ⟨rfl, rfl⟩))
  go_ret
  exact ⟨rfl, blk_alloc (one_setCell HB.out), ((Below.refl tb w).setCell (p := ⟨tb, 0, none⟩) (Nat.le_refl _) _).alloc (by simp; omega) _⟩

theorem look_form (k i : Int) (s : ByteArray) (l : List PT) (v : Value) (deep n : Nat) (w : World) (B tb : Nat) (hs : s.size ≤ maxLen) (hv : RepS w B l v) (hB : B ≤ tb) (hn : n < 4096) (hk : nestB k = false ∨ nestB k = true ∧ deep < 32)
    (hf : formB k i s.data.toList l = false) (hc : w.heap[tb]? = some (.cells #[.int .i64 (n : Int)] 70 (0, 0))) :
    Calls Tryz.prog 30 #[.pointer (some ⟨tb, 0, none⟩), .agg #[.int .i64 k, .int .i64 i, .string s, v], .int .i64 (deep : Int)] w fun e w' =>
      e = .returned (.int .i64 20) ∧ w'.heap[tb]? = some (.cells #[.int .i64 ((n + 1 : Nat) : Int)] 70 (0, 0)) ∧ Below tb w w' := by
  have c0 := cell_of_one hc
  have f0 := free_of_one hc
  have hlt := lt_of_block hc
  have HB := Lib.hid hc
  have C : ∀ W, Below tb w W → Calls Tryz.prog 45 #[.agg #[.int .i64 k, .int .i64 i, .string s, v]] W fun e w' => e = .returned (.bool false) ∧ Below W.heap.size W w' := fun W hb => by
    have := isFormed_any k i s l v B W hs (hv.below hb hB)
    rwa [hf] at this
  have HF := Lib.hid C
  clear hc hf C hv
  have hn' : ((n : Int) == 4096) = false := by simp; omega
  rcases hk with hk | ⟨hk, hd⟩
  · have H := Lib.hid (fun W => hasItems_any k _ hk.symm W)
    clear hk
    go_enter Tryz.func30, Tryz.ntmps30
    go_wp2_with (first | (go_at_call 44; ((with_reducible refine (H.out _).mono ?_); rintro e w' ⟨rfl, rfl⟩)) | (go_at_call 45; ((with_reducible refine (HF.out _ (((Below.refl tb w).setCell (p := ⟨tb, 0, none⟩) (Nat.le_refl _) _).alloc (by simp; omega) _)).mono ?_); rintro e w' ⟨rfl, hb⟩)))
    go_ret
    exact ⟨rfl, (hb.block tb (by simp; omega)).trans (blk_alloc (one_setCell HB.out)), (((Below.refl tb w).setCell (p := ⟨tb, 0, none⟩) (Nat.le_refl _) _).alloc (by simp; omega) _).trans (hb.mono (by simp; omega))⟩
  · have H := Lib.hid (fun W => hasItems_any k _ hk.symm W)
    clear hk
    have hd' : ((deep : Int) == 32) = false := by simp; omega
    go_enter Tryz.func30, Tryz.ntmps30
    go_wp2_with (first | (go_at_call 44; ((with_reducible refine (H.out _).mono ?_); rintro e w' ⟨rfl, rfl⟩)) | (go_at_call 45; ((with_reducible refine (HF.out _ (((Below.refl tb w).setCell (p := ⟨tb, 0, none⟩) (Nat.le_refl _) _).alloc (by simp; omega) _)).mono ?_); rintro e w' ⟨rfl, hb⟩)))
    go_ret
    exact ⟨rfl, (hb.block tb (by simp; omega)).trans (blk_alloc (one_setCell HB.out)), (((Below.refl tb w).setCell (p := ⟨tb, 0, none⟩) (Nat.le_refl _) _).alloc (by simp; omega) _).trans (hb.mono (by simp; omega))⟩

theorem ret_i64 {a b : Int} (h : a = b) : Ending.returned (.int .i64 a) = .returned (.int .i64 b) := by rw [h]

/-- An item of a list, as a value in memory: its four cells. -/
theorem repAt_item {w : World} {B : Nat} {l : List PT} {b o j : Nat} (h : RepAt w B l b o) (hj : j < l.length) :
    ∃ k i s m v, l[j] = .mk k i s m ∧ ok64 k ∧ ok64 i ∧ s.size ≤ maxLen ∧ w.cell? ⟨b, o + j * 4, none⟩ = some (.int .i64 k) ∧ w.cell? ⟨b, o + j * 4 + 1, none⟩ = some (.int .i64 i) ∧ w.cell? ⟨b, o + j * 4 + 2, none⟩ = some (.string s) ∧
      w.cell? ⟨b, o + j * 4 + 3, none⟩ = some v ∧ RepS w B m v := by
  have hr := repAt_get h j hj
  match hl : l[j] with
  | .mk k i s m =>
    rw [hl, repD_mk] at hr
    obtain ⟨h1, h2, h3, c0, c1, c2, v, c3, hv⟩ := hr
    exact ⟨k, i, s, m, v, rfl, h1, h2, h3, c0, c1, c2, c3, hv⟩

theorem look_loop (k i : Int) (s : ByteArray) (l : List PT) (ih : ∀ t ∈ l, LookOk t) (b o c : Nat) (deep n : Nat) (w : World) (B tb : Nat) (hs : s.size ≤ maxLen) (hl : l.length ≤ c) (hm : c ≤ maxLen) (hb : b < B) (hr : RepAt w B l b o) (hB : B ≤ tb) (hn : n < 4096) (hk : nestB k = true) (hd : deep < 32)
    (hf : formB k i s.data.toList l = true) (hc : w.heap[tb]? = some (.cells #[.int .i64 (n : Int)] 70 (0, 0))) :
    Calls Tryz.prog 30 #[.pointer (some ⟨tb, 0, none⟩), .agg #[.int .i64 k, .int .i64 i, .string s, .slice (some ⟨b, o, none⟩) l.length c], .int .i64 (deep : Int)] w fun e w' =>
      e = .returned (.int .i64 (chkL (deep + 1) (n + 1) l).2) ∧ w'.heap[tb]? = some (.cells #[.int .i64 ((chkL (deep + 1) (n + 1) l).1 : Int)] 70 (0, 0)) ∧ Below tb w w' := by
  have c0 := cell_of_one hc
  have f0 := free_of_one hc
  have hlt := lt_of_block hc
  have HB := Lib.hid hc
  have hv : RepS w B l (.slice (some ⟨b, o, none⟩) l.length c) := ⟨_, c, rfl, hl, hm, (fun h => by cases h), .inr ⟨b, o, rfl, hb, hr⟩⟩
  have C : ∀ W, Below tb w W → Calls Tryz.prog 45 #[.agg #[.int .i64 k, .int .i64 i, .string s, .slice (some ⟨b, o, none⟩) l.length c]] W fun e w' => e = .returned (.bool true) ∧ Below W.heap.size W w' := fun W hb => by
    have := isFormed_any k i s l _ B W hs (hv.below hb hB)
    rwa [hf] at this
  have HF := Lib.hid C
  have H := Lib.hid (fun W => hasItems_any k _ hk.symm W)
  have HR := Lib.hid hr
  have IH := Lib.hid ih
  unfold maxLen at hm
  clear hc hf C hv hk hr ih
  have hn' : ((n : Int) == 4096) = false := by simp; omega
  have hd' : ((deep : Int) == 32) = false := by simp; omega
  go_enter Tryz.func30, Tryz.ntmps30
  go_wp2_with (go_at_call 44; ((with_reducible refine (H.out _).mono ?_); rintro e w' ⟨rfl, rfl⟩))
  refine (HF.out _ (((Below.refl tb w).setCell (p := ⟨tb, 0, none⟩) (Nat.le_refl _) _).alloc (by simp; omega) _)).mono ?_
  rintro e w1 ⟨rfl, hb1⟩
  have hbox := box_cell hb1 3 _ rfl
  simp only [size_setCell] at hbox
  have hB1 : Below tb w w1 := (((Below.refl tb w).setCell (p := ⟨tb, 0, none⟩) (Nat.le_refl _) _).alloc (by simp; omega) _).trans (hb1.mono (by simp; omega))
  have hblk : w1.heap[tb]? = some (.cells #[.int .i64 ((n : Int) + 1)] 70 (0, 0)) := (hb1.block tb (by simp; omega)).trans (blk_alloc (one_setCell HB.out))
  have hsz : w.heap.size < w1.heap.size := by have := hb1.size; simp at this; omega
  have HK := Lib.hid hblk
  clear hblk hb1
  go_wp2
  go_loopw [35] (fun i wr => ∃ j : Nat, j ≤ l.length ∧ i = .int .i64 j ∧ (chkL (deep + 1) (n + 1) (l.take j)).2 = 0 ∧ wr.heap[tb]? = some (.cells #[.int .i64 ((chkL (deep + 1) (n + 1) (l.take j)).1 : Int)] 70 (0, 0)) ∧ Below tb w wr ∧ w.heap.size < wr.heap.size)
    (fun i _ => l.length - (intOf i).toNat)
  case atStart => exact ⟨0, Nat.zero_le _, rfl, rfl, HK.out, hB1, hsz⟩
  case round =>
    obtain ⟨j, hj, rfl, h0, hcell, hbr, hszr⟩ := hrel
    by_cases hlt' : j < l.length
    · obtain ⟨k', i', s', m, v', hjl, ok1, ok2, hs', d0, d1, d2, d3, hv'⟩ := repAt_item (HR.out.below hbr hB hb) hlt'
      have hle := chkL_le (deep + 1) (n + 1) (by omega) (l.take j)
      have hstep := chkL_take (deep + 1) (n + 1) l j hlt' h0
      have hbs : b < wr.heap.size := World.block_lt_of_cell? _ _ d0
      have HC := Lib.hid hcell
      have H0 := Lib.hid h0
      have HS := Lib.hid hstep
      have HJ := Lib.hid hjl
      have HV := Lib.hid hv'
      obtain ⟨a', c', rfl, _⟩ := hv'
      clear hcell h0 hstep hjl
      go_wp2_with fail
      have hL : LookOk (.mk k' i' s' m) := by
        have := IH.out l[j] (List.getElem_mem _)
        rwa [HJ.out] at this
      have C := fun o : Obj => hL (wr.alloc o) B tb (chkL (deep + 1) (n + 1) (l.take j)).1 (deep + 1) _ ⟨ok1, ok2, hs', HV.out.below (((Below.refl tb wr)).alloc (by omega) _) hB⟩ hB hle.2 (by omega) (blk_alloc HC.out)
      rw [← HJ.out, ← HS.out, HJ.out] at C
      by_cases hz : (chkL (deep + 1) (n + 1) (l.take (j + 1))).2 = 0
      · have HZ := Lib.hid hz
        clear hz
        refine (C _).mono ?_
        rintro e w2 ⟨he, hc2, hb2⟩
        rw [HZ.out] at he
        subst he
        have HC2 := Lib.hid hc2
        clear hc2
        go_wp2
        go_roundw
        case rel => exact ⟨j + 1, by omega, by go_num, HZ.out, HC2.out, (hbr.trans (((Below.refl tb wr)).alloc (by omega) _)).trans hb2, by have := hb2.size; simp at this; omega⟩
        case measure => simp [intOf]; omega
      · have HW := Lib.hid (chkL_whole (deep + 1) (n + 1) l (j + 1) hz)
        have hzb : ((chkL (deep + 1) (n + 1) (l.take (j + 1))).2 != 0) = true := by simpa using hz
        rw [← HW.out] at C hzb
        refine (C _).mono ?_
        rintro e w2 ⟨he, hc2, hb2⟩
        subst he
        have HC2 := Lib.hid hc2
        clear hc2 hz
        go_wp2
        go_ret
        exact ⟨rfl, HC2.out, (hbr.trans (((Below.refl tb wr)).alloc (by omega) _)).trans hb2⟩
    · obtain rfl : j = l.length := by omega
      rw [List.take_length] at h0 hcell
      have HC := Lib.hid hcell
      have H0 := Lib.hid h0
      clear hcell h0
      go_wp2
      go_ret
      exact ⟨ret_i64 H0.out.symm, HC.out, hbr⟩

theorem look_none (k i : Int) (s : ByteArray) (a : Option Addr) (c : Nat) (deep n : Nat) (w : World) (B tb : Nat) (hs : s.size ≤ maxLen) (hv : RepS w B [] (.slice a 0 c)) (hB : B ≤ tb) (hn : n < 4096) (hk : nestB k = false ∨ nestB k = true ∧ deep < 32)
    (hf : formB k i s.data.toList [] = true) (hc : w.heap[tb]? = some (.cells #[.int .i64 (n : Int)] 70 (0, 0))) :
    Calls Tryz.prog 30 #[.pointer (some ⟨tb, 0, none⟩), .agg #[.int .i64 k, .int .i64 i, .string s, .slice a 0 c], .int .i64 (deep : Int)] w fun e w' =>
      e = .returned (.int .i64 0) ∧ w'.heap[tb]? = some (.cells #[.int .i64 ((n + 1 : Nat) : Int)] 70 (0, 0)) ∧ Below tb w w' := by
  have c0 := cell_of_one hc
  have f0 := free_of_one hc
  have hlt := lt_of_block hc
  have HB := Lib.hid hc
  have C : ∀ W, Below tb w W → Calls Tryz.prog 45 #[.agg #[.int .i64 k, .int .i64 i, .string s, .slice a 0 c]] W fun e w' => e = .returned (.bool true) ∧ Below W.heap.size W w' := fun W hb => by
    have := isFormed_any k i s [] _ B W hs (hv.below hb hB)
    rwa [hf] at this
  have HF := Lib.hid C
  clear hc hf C hv
  have hn' : ((n : Int) == 4096) = false := by simp; omega
  rcases hk with hk | ⟨hk, hd⟩
  · have H := Lib.hid (fun W => hasItems_any k _ hk.symm W)
    clear hk
    go_enter Tryz.func30, Tryz.ntmps30
    go_wp2_with (go_at_call 44; ((with_reducible refine (H.out _).mono ?_); rintro e w' ⟨rfl, rfl⟩))
    refine (HF.out _ (((Below.refl tb w).setCell (p := ⟨tb, 0, none⟩) (Nat.le_refl _) _).alloc (by simp; omega) _)).mono ?_
    rintro e w1 ⟨rfl, hb1⟩
    have hbox := box_cell hb1 3 _ rfl
    simp only [size_setCell] at hbox
    go_wp2
    refine wp_loop_rounds 1 ?_
    rw [rounds_succ]
    go_wp2
    go_ret
    exact ⟨rfl, (hb1.block tb (by simp; omega)).trans (blk_alloc (one_setCell HB.out)), (((Below.refl tb w).setCell (p := ⟨tb, 0, none⟩) (Nat.le_refl _) _).alloc (by simp; omega) _).trans (hb1.mono (by simp; omega))⟩
  · have H := Lib.hid (fun W => hasItems_any k _ hk.symm W)
    clear hk
    have hd' : ((deep : Int) == 32) = false := by simp; omega
    go_enter Tryz.func30, Tryz.ntmps30
    go_wp2_with (go_at_call 44; ((with_reducible refine (H.out _).mono ?_); rintro e w' ⟨rfl, rfl⟩))
    refine (HF.out _ (((Below.refl tb w).setCell (p := ⟨tb, 0, none⟩) (Nat.le_refl _) _).alloc (by simp; omega) _)).mono ?_
    rintro e w1 ⟨rfl, hb1⟩
    have hbox := box_cell hb1 3 _ rfl
    simp only [size_setCell] at hbox
    go_wp2
    refine wp_loop_rounds 1 ?_
    rw [rounds_succ]
    go_wp2
    go_ret
    exact ⟨rfl, (hb1.block tb (by simp; omega)).trans (blk_alloc (one_setCell HB.out)), (((Below.refl tb w).setCell (p := ⟨tb, 0, none⟩) (Nat.le_refl _) _).alloc (by simp; omega) _).trans (hb1.mono (by simp; omega))⟩

theorem look_step (k i : Int) (s : ByteArray) (l : List PT) (ih : ∀ t ∈ l, LookOk t) : LookOk (.mk k i s l) := by
  intro w B tb n deep v hv hB hn hd hc
  obtain ⟨ok1, ok2, hs, hv⟩ := hv
  rw [chk]
  by_cases h1 : n = 4096
  · subst h1
    rw [if_pos rfl]
    exact look_many k i s v deep w tb hc
  rw [if_neg h1]
  by_cases h2 : (nestB k && decide (deep = 32)) = true
  · rw [if_pos h2]
    simp only [Bool.and_eq_true, decide_eq_true_eq] at h2
    obtain ⟨hk, rfl⟩ := h2
    exact look_deep k i s v n w tb (by omega) hk hc
  rw [if_neg h2]
  have hk : nestB k = false ∨ nestB k = true ∧ deep < 32 := by
    cases hb : nestB k
    · exact .inl rfl
    · right
      simp [hb] at h2
      exact ⟨rfl, by omega⟩
  by_cases h3 : formB k i s.data.toList l = true
  · rw [if_pos h3]
    by_cases h0 : l = []
    · subst h0
      obtain ⟨a, c, rfl, hl, hm, hna, hr⟩ := hv
      rw [chkL]
      exact look_none k i s a c deep n w B tb hs ⟨a, c, rfl, hl, hm, hna, hr⟩ hB (by omega) hk h3 hc
    · obtain ⟨a, c, rfl, hl, hm, hna, hr⟩ := hv
      rcases hr with rfl | ⟨b, o, rfl, hb, hr⟩
      · exact absurd rfl h0
      · rcases hk with hk | ⟨hk, hd'⟩
        · exact absurd (form_leaf hk h3) h0
        · exact look_loop k i s l ih b o c deep n w B tb hs hl hm hb hr hB (by omega) hk hd' h3 hc
  · rw [if_neg h3]
    exact look_form k i s l v deep n w B tb hs hv hB (by omega) hk (by simpa using h3) hc

mutual
theorem look_any : ∀ t : PT, LookOk t
  | .mk k i s l => look_step k i s l (look_all l)
theorem look_all : ∀ l : List PT, ∀ t ∈ l, LookOk t
  | [], t, h => by cases h
  | u :: l, t, h => (List.mem_cons.1 h).elim (fun e => e ▸ look_any u) (fun h => look_all l t h)
end

/-- Check. -/
def checkB (t : PT) : Int := (chk 0 0 t).2

theorem check_any (t : PT) (v : Value) (w : World) (B : Nat) (hv : RepV w B t v) (hB : B ≤ w.heap.size) :
    Calls Tryz.prog 14 #[t.val v] w fun e w' => e = .returned (.int .i64 (checkB t)) ∧ Below w.heap.size w w' := by
  match t with
  | .mk k i s l =>
    have L := look_any (.mk k i s l)
    have HV := Lib.hid hv
    obtain ⟨a, c, rfl, _⟩ := hv.2.2.2
    clear hv
    show Calls Tryz.prog 14 #[.agg #[.int .i64 k, .int .i64 i, .string s, .slice a l.length c]] w _
    go_enter Tryz.func14, Tryz.ntmps14
    go_wp2_with fail
    refine (L _ B (w.heap.size + 1) 0 0 _ ⟨HV.out.1, HV.out.2.1, HV.out.2.2.1, HV.out.2.2.2.below (((Below.refl w.heap.size w).alloc (Nat.le_refl _) _).alloc (by simp) _) hB⟩ (by omega) (by omega) (by omega) ?_).mono ?_
    · have h := heap_alloc_new (w.alloc (.cells #[.int .i64 k, .int .i64 i, .string s, .slice a l.length c] 34)) (.cells #[.int .i64 0] 70)
      rw [show (w.alloc (.cells #[.int .i64 k, .int .i64 i, .string s, .slice a l.length c] 34)).heap.size = w.heap.size + 1 by simp] at h
      exact h
    rintro e w1 ⟨rfl, hc1, hb1⟩
    go_wp2
    go_ret
    exact ⟨rfl, (((Below.refl w.heap.size w).alloc (Nat.le_refl _) _).alloc (by simp) _).trans (hb1.mono (by simp))⟩
end Go.Proofs.YthfjlcflpneffaaGreatDoor.Dat
