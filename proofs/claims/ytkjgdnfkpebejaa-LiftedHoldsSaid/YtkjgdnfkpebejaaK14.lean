/-
What is wrong first in an expression: package core's Check, for every expression. No condition.
-/
import Derived.Test.YtkjgdnfkpebejaaK13

namespace Go.Proofs.Ytkjgdnfkpebejaa.Core
open Go.ChangeShapes Go.WideShapes Go.ChangeAt Go.RowKit Go.Deep
open Dat (PT ok64 RepV RepS checkB sameB)
set_option maxRecDepth 100000

theorem InF.belowT {w W : World} {S : Nat → Prop} {t : PE} {vn vd vk : Value} {B : Nat} (h : InF w S t vn vd vk) (hS : ∀ b, S b → b < B) (hb : Below B w W) : InF W S t vn vd vk :=
  h.move (fun _ h _ => h) fun b o v hs hc => by rw [World.cell?_of_block (w := w) (a := ⟨b, o, none⟩) (hb.block b (hS b hs))]; exact hc
theorem InK.belowT {w W : World} {S : Nat → Prop} {l : List PE} {v : Value} {B : Nat} (h : InK w S l v) (hS : ∀ b, S b → b < B) (hb : Below B w W) : InK W S l v :=
  h.move (fun _ h _ => h) fun b o v hs hc => by rw [World.cell?_of_block (w := w) (a := ⟨b, o, none⟩) (hb.block b (hS b hs))]; exact hc
theorem InN.belowT {w W : World} {S : Nat → Prop} {l : List ByteArray} {v : Value} {B : Nat} (h : InN w S l v) (hS : ∀ b, S b → b < B) (hb : Below B w W) : InN W S l v :=
  h.move (fun _ h _ => h) fun b o v hs hc => by rw [World.cell?_of_block (w := w) (a := ⟨b, o, none⟩) (hb.block b (hS b hs))]; exact hc
def LookEOk (t : PE) : Prop := ∀ (w : World) (S : Nat → Prop) (tb n deep : Nat) (vn vd vk : Value), InF w S t vn vd vk → (∀ b, S b → b < tb) → n ≤ 4096 → deep ≤ 250 → w.heap[tb]? = some (.cells #[.int .i64 (n : Int)] 66 (0, 0)) →
  Calls Try.prog 33 #[.pointer (some ⟨tb, 0, none⟩), t.val vn vd vk, .int .i64 (deep : Int)] w fun e w' =>
    e = .returned (.int .i64 (chkE deep n t).2) ∧ w'.heap[tb]? = some (.cells #[.int .i64 ((chkE deep n t).1 : Int)] 66 (0, 0)) ∧ Below tb w w'
theorem lookE_step (k : Int) (nm : ByteArray) (ns : List ByteArray) (ck ci : Int) (cs : ByteArray) (cl : List PT) (l : List PE) (ih : ∀ t ∈ l, LookEOk t) : LookEOk (.mk k nm ns (.mk ck ci cs cl) l) := by
  intro w S tb n deep vn vd vk h hS hn hd hc
  have HI := Lib.hid h
  have HK := Lib.hid h.2.2
  have IH := Lib.hid ih
  obtain ⟨⟨_, _, an, cn, rfl, hln, hmn, _⟩, ⟨_, _, _, ad, cd, rfl, hld, hmd, _⟩, ak, c, rfl, hl, hm, _⟩ := h
  unfold maxLen at hmn hm hmd
  show Calls Try.prog 33 #[.pointer (some ⟨tb, 0, none⟩), .agg #[.int .i64 k, .string nm, .slice an ns.length cn, .int .i64 ck, .int .i64 ci, .string cs, .slice ad cl.length cd, .slice ak l.length c], .int .i64 (deep : Int)] w _
  have c0 := cell_of_one hc
  have f0 := free_of_one hc
  have hlt := lt_of_block hc
  have HB := Lib.hid hc
  clear hc ih
  by_cases h1 : n = 4096
  · subst h1
    have HR : Hid (chkE deep 4096 (.mk k nm ns (.mk ck ci cs cl) l) = (4096, 62)) := Lib.hid (by rw [chkE, if_pos rfl])
    go_enter Try.func33, Try.ntmps33
    go_wp2
    go_ret
    exact ⟨Dat.ret_i64 (by rw [HR.out]), by rw [HR.out]; exact Dat.blk_alloc HB.out, (Below.refl _ _).alloc (by omega) _⟩
  have hn' : ((n : Int) == 4096) = false := by simp; omega
  by_cases h2 : deep = 250
  · subst h2
    have HR : Hid (chkE 250 n (.mk k nm ns (.mk ck ci cs cl) l) = (n + 1, 61)) := Lib.hid (by rw [chkE, if_neg h1, if_pos rfl])
    clear h1
    go_enter Try.func33, Try.ntmps33
    go_wp2
    go_ret
    exact ⟨Dat.ret_i64 (by rw [HR.out]), by rw [HR.out]; exact Dat.blk_alloc (one_setCell HB.out), ((Below.refl tb w).setCell (p := ⟨tb, 0, none⟩) (Nat.le_refl _) _).alloc (by simp; omega) _⟩
  have hd' : ((deep : Int) == 250) = false := by simp; omega
  generalize hw0 : (w.setCell ⟨tb, 0, none⟩ (.int .i64 ((n : Int) + 1))).alloc (.cells #[.int .i64 k, .string nm, .slice an ns.length cn, .int .i64 ck, .int .i64 ci, .string cs, .slice ad cl.length cd, .slice ak l.length c] 28) = w0
  have HW0 := Lib.hid hw0
  have HB0 : Hid (Below tb w w0) := Lib.hid (by rw [← hw0]; exact ((Below.refl tb w).setCell (p := ⟨tb, 0, none⟩) (Nat.le_refl _) _).alloc (by simp; omega) _)
  have HT0 : Hid (w0.heap[tb]? = some (.cells #[.int .i64 ((n : Int) + 1)] 66 (0, 0))) := Lib.hid (by rw [← hw0]; exact Dat.blk_alloc (one_setCell HB.out))
  have HG0 : Hid (w0.heap[w.heap.size]? = some (.cells #[.int .i64 k, .string nm, .slice an ns.length cn, .int .i64 ck, .int .i64 ci, .string cs, .slice ad cl.length cd, .slice ak l.length c] 28 (0, 0))) := Lib.hid (by
    have := heap_alloc_new (w.setCell ⟨tb, 0, none⟩ (.int .i64 ((n : Int) + 1))) (.cells #[.int .i64 k, .string nm, .slice an ns.length cn, .int .i64 ck, .int .i64 ci, .string cs, .slice ad cl.length cd, .slice ak l.length c] 28)
    rwa [size_put, hw0] at this)
  have HZ0 : Hid (tb < w0.heap.size) := Lib.hid (lt_of_block HT0.out)
  have KK : Hid (∀ W, Below w0.heap.size w0 W → Calls Try.prog 50 #[.agg #[.int .i64 k, .string nm, .slice an ns.length cn, .int .i64 ck, .int .i64 ci, .string cs, .slice ad cl.length cd, .slice ak l.length c]] W fun e w' => e = .returned (.bool (kidsB k nm ns.length l)) ∧ Below w0.heap.size w0 w') := Lib.hid fun W hb =>
    (hasKids_any k nm ns ck ci cs cl l S _ _ _ W (HI.out.belowT hS (HB0.out.trans (hb.mono (Nat.le_of_lt HZ0.out))))).mono fun _ _ h => And.intro h.1 (hb.trans (h.2.mono hb.size))
  have KF : Hid (∀ W, Below w0.heap.size w0 W → Calls Try.prog 51 #[.agg #[.int .i64 k, .string nm, .slice an ns.length cn, .int .i64 ck, .int .i64 ci, .string cs, .slice ad cl.length cd, .slice ak l.length c]] W fun e w' => e = .returned (.bool (fieldsB k nm ns (.mk ck ci cs cl))) ∧ Below w0.heap.size w0 w') := Lib.hid fun W hb =>
    (hasFields_any k nm ns ck ci cs cl l S _ _ _ W (HI.out.belowT hS (HB0.out.trans (hb.mono (Nat.le_of_lt HZ0.out)))) (fun b h => by have := hS b h; have := HZ0.out; have := hb.size; omega)).mono fun _ _ h => And.intro h.1 (hb.trans (h.2.mono hb.size))
  have BOX : Hid (∀ W, Below w0.heap.size w0 W → W.heap[w.heap.size]? = some (.cells #[.int .i64 k, .string nm, .slice an ns.length cn, .int .i64 ck, .int .i64 ci, .string cs, .slice ad cl.length cd, .slice ak l.length c] 28 (0, 0))) := Lib.hid fun W hb => (hb.block _ (lt_of_block HG0.out)).trans HG0.out
  have BZ : Hid (Below w0.heap.size w0 w0) := Lib.hid (Below.refl _ _)
  clear hw0
  by_cases h3 : formE (.mk k nm ns (.mk ck ci cs cl) l) = true
  rotate_left
  · have HR : Hid (chkE deep n (.mk k nm ns (.mk ck ci cs cl) l) = (n + 1, 60)) := Lib.hid (by rw [chkE, if_neg h1, if_neg h2, if_neg h3])
    have FIN : Hid (∀ W, Below w0.heap.size w0 W → W.heap[tb]? = some (.cells #[.int .i64 (((chkE deep n (.mk k nm ns (.mk ck ci cs cl) l)).1 : Nat) : Int)] 66 (0, 0)) ∧ Below tb w W) := Lib.hid fun W hb => by
      rw [HR.out]
      exact ⟨(hb.block tb HZ0.out).trans HT0.out, HB0.out.trans (hb.mono (Nat.le_of_lt HZ0.out))⟩
    have HR2 : Hid ((chkE deep n (.mk k nm ns (.mk ck ci cs cl) l)).2 = 60) := Lib.hid (by rw [HR.out])
    unfold formE at h3
    clear h1 h2
    cases hk : kidsB k nm ns.length l
    · rw [hk] at KK
      clear h3 hk KF
      go_enter Try.func33, Try.ntmps33
      go_wp2_with fail
      rw [HW0.out]
      refine (KK.out _ BZ.out).mono ?_
      rintro e w1 ⟨rfl, hb1⟩
      have F1 := Lib.hid (FIN.out _ hb1)
      clear hb1
      go_wp2
      go_ret
      exact ⟨Dat.ret_i64 HR2.out.symm, F1.out⟩
    · have hf : fieldsB k nm ns (.mk ck ci cs cl) = false := by simpa [hk] using h3
      rw [hk] at KK
      rw [hf] at KF
      clear h3 hk hf
      go_enter Try.func33, Try.ntmps33
      go_wp2_with fail
      rw [HW0.out]
      refine (KK.out _ BZ.out).mono ?_
      rintro e w1 ⟨rfl, hb1⟩
      have HB1 := Lib.hid hb1
      have g1 := BOX.out _ hb1
      have d0 : w1.cell? ⟨w.heap.size, 0, none⟩ = some (.int .i64 k) := by rw [Lib.cell_of_heap g1]; rfl
      have d1 : w1.cell? ⟨w.heap.size, 1, none⟩ = some (.string nm) := by rw [Lib.cell_of_heap g1]; rfl
      have d2 : w1.cell? ⟨w.heap.size, 2, none⟩ = some (.slice an ns.length cn) := by rw [Lib.cell_of_heap g1]; rfl
      have d3 : w1.cell? ⟨w.heap.size, 3, none⟩ = some (.int .i64 ck) := by rw [Lib.cell_of_heap g1]; rfl
      have d4 : w1.cell? ⟨w.heap.size, 4, none⟩ = some (.int .i64 ci) := by rw [Lib.cell_of_heap g1]; rfl
      have d5 : w1.cell? ⟨w.heap.size, 5, none⟩ = some (.string cs) := by rw [Lib.cell_of_heap g1]; rfl
      have d6 : w1.cell? ⟨w.heap.size, 6, none⟩ = some (.slice ad cl.length cd) := by rw [Lib.cell_of_heap g1]; rfl
      have d7 : w1.cell? ⟨w.heap.size, 7, none⟩ = some (.slice ak l.length c) := by rw [Lib.cell_of_heap g1]; rfl
      clear hb1 g1
      go_wp2_with fail
      refine (KF.out _ HB1.out).mono ?_
      rintro e w2 ⟨rfl, hb2⟩
      have F1 := Lib.hid (FIN.out _ hb2)
      clear hb2
      go_wp2
      go_ret
      exact ⟨Dat.ret_i64 HR2.out.symm, F1.out⟩
  have HR : Hid (chkE deep n (.mk k nm ns (.mk ck ci cs cl) l) = chkEs (deep + 1) (n + 1) l) := Lib.hid (by rw [chkE, if_neg h1, if_neg h2, if_pos h3])
  unfold formE at h3
  rw [Bool.and_eq_true] at h3
  obtain ⟨hk, hf⟩ := h3
  rw [hk] at KK
  rw [hf] at KF
  have hn1 : n + 1 ≤ 4096 := by omega
  have hd1 : deep + 1 ≤ 250 := by omega
  clear hk hf h1 h2
  go_enter Try.func33, Try.ntmps33
  go_wp2_with fail
  rw [HW0.out]
  refine (KK.out _ BZ.out).mono ?_
  rintro e w1 ⟨rfl, hb1⟩
  have HB1 := Lib.hid hb1
  have g1 := BOX.out _ hb1
  have d0 : w1.cell? ⟨w.heap.size, 0, none⟩ = some (.int .i64 k) := by rw [Lib.cell_of_heap g1]; rfl
  have d1 : w1.cell? ⟨w.heap.size, 1, none⟩ = some (.string nm) := by rw [Lib.cell_of_heap g1]; rfl
  have d2 : w1.cell? ⟨w.heap.size, 2, none⟩ = some (.slice an ns.length cn) := by rw [Lib.cell_of_heap g1]; rfl
  have d3 : w1.cell? ⟨w.heap.size, 3, none⟩ = some (.int .i64 ck) := by rw [Lib.cell_of_heap g1]; rfl
  have d4 : w1.cell? ⟨w.heap.size, 4, none⟩ = some (.int .i64 ci) := by rw [Lib.cell_of_heap g1]; rfl
  have d5 : w1.cell? ⟨w.heap.size, 5, none⟩ = some (.string cs) := by rw [Lib.cell_of_heap g1]; rfl
  have d6 : w1.cell? ⟨w.heap.size, 6, none⟩ = some (.slice ad cl.length cd) := by rw [Lib.cell_of_heap g1]; rfl
  have d7 : w1.cell? ⟨w.heap.size, 7, none⟩ = some (.slice ak l.length c) := by rw [Lib.cell_of_heap g1]; rfl
  clear hb1 g1
  go_wp2_with fail
  refine (KF.out _ HB1.out).mono ?_
  rintro e w2 ⟨rfl, hb2⟩
  have e7 : w2.cell? ⟨w.heap.size, 7, none⟩ = some (.slice ak l.length c) := by rw [Lib.cell_of_heap (BOX.out _ hb2)]; rfl
  have HB2 := Lib.hid (HB0.out.trans (hb2.mono (Nat.le_of_lt HZ0.out)))
  have HT2 := Lib.hid ((hb2.block tb HZ0.out).trans HT0.out)
  have hz2 : tb < w2.heap.size := lt_of_block HT2.out
  clear hb2 d0 d1 d2 d3 d4 d5 d6 d7
  go_wp2
  go_loopw [35] (fun i wr => ∃ j : Nat, j ≤ l.length ∧ i = .int .i64 j ∧ (chkEs (deep + 1) (n + 1) (l.take j)).2 = 0 ∧ wr.heap[tb]? = some (.cells #[.int .i64 ((chkEs (deep + 1) (n + 1) (l.take j)).1 : Int)] 66 (0, 0)) ∧ Below tb w wr)
    (fun i _ => l.length - (intOf i).toNat)
  case atStart => exact ⟨0, Nat.zero_le _, rfl, by rw [List.take_zero, chkEs], by rw [List.take_zero, chkEs]; exact HT2.out, HB2.out⟩
  case round =>
    obtain ⟨j, hj, rfl, h0, hcell, hbr⟩ := hrel
    have HC := Lib.hid hcell
    have H0 := Lib.hid h0
    have HBR := Lib.hid hbr
    have hzr : tb < wr.heap.size := lt_of_block hcell
    by_cases hlt' : j < l.length
    · obtain ⟨b, o, c', ea, _, _, hS1, hE1⟩ := (HK.out.belowT hS HBR.out).item j hlt'
      cases ea
      have hle := chkEs_le (deep + 1) (n + 1) hn1 (l.take j)
      have hstep := chkEs_take (deep + 1) (n + 1) l j hlt' h0
      have hIHj := IH.out l[j] (List.getElem_mem hlt')
      have HS := Lib.hid hstep
      clear hcell h0 hbr hstep
      generalize l[j] = t at hE1 hIHj HS
      obtain ⟨tk, tn, tns, ⟨tck, tci, tcs, tcl⟩, tl⟩ := t
      obtain ⟨tvn, tvd, tvk, hF1, a0, a1, a2, a3, a4, a5, a6, a7⟩ := hE1.cells
      have hbb := World.block_lt_of_cell? _ _ a0
      have KC := Lib.hid (fun o : Obj => hIHj (wr.alloc o) S tb (chkEs (deep + 1) (n + 1) (l.take j)).1 (deep + 1) tvn tvd tvk (hF1.belowT hS ((Below.refl tb wr).alloc (Nat.le_of_lt hzr) o)) hS hle.2 hd1 (Dat.blk_alloc HC.out))
      have HBA := Lib.hid (fun o : Obj => HBR.out.alloc (Nat.le_of_lt hzr) o)
      rw [← HS.out] at KC
      obtain ⟨⟨_, _, hn1'⟩, ⟨_, _, _, hd1'⟩, hk1'⟩ := hF1
      obtain ⟨_, _, rfl, -⟩ := hn1'
      obtain ⟨_, _, rfl, -⟩ := hd1'
      obtain ⟨_, _, rfl, -⟩ := hk1'
      unfold PE.val at KC
      clear hE1 hIHj hle HS
      by_cases hz : (chkEs (deep + 1) (n + 1) (l.take (j + 1))).2 = 0
      · have HZ := Lib.hid hz
        rw [hz] at KC
        clear hz
        go_wp2_with fail
        refine (KC.out _).mono ?_
        rintro e w3 ⟨rfl, hc3, hb3⟩
        have HC3 := Lib.hid hc3
        have HB3 := Lib.hid ((HBA.out _).trans hb3)
        clear hc3 hb3
        go_wp2
        go_roundw
        case rel => exact ⟨j + 1, by omega, by go_num, HZ.out, HC3.out, HB3.out⟩
        case measure => simp [intOf]; omega
      · have HW := Lib.hid (chkEs_whole (deep + 1) (n + 1) l (j + 1) hz)
        have hzb : ((chkEs (deep + 1) (n + 1) (l.take (j + 1))).2 != 0) = true := by simpa using hz
        clear hz
        rw [← HW.out] at KC hzb
        rw [← HR.out] at KC hzb
        generalize hq : chkE deep n (.mk k nm ns (.mk ck ci cs cl) l) = q at KC hzb
        have HQ := Lib.hid hq
        clear hq
        go_wp2_with fail
        refine (KC.out _).mono ?_
        rintro e w3 ⟨rfl, hc3, hb3⟩
        have HC3 := Lib.hid hc3
        have HB3 := Lib.hid ((HBA.out _).trans hb3)
        clear hc3 hb3
        go_wp2
        go_ret
        exact ⟨Dat.ret_i64 (by rw [HQ.out]), by rw [HQ.out]; exact HC3.out, HB3.out⟩
    · obtain rfl : j = l.length := by omega
      rw [List.take_length] at h0 hcell
      have HC2 := Lib.hid hcell
      have H02 : Hid ((chkE deep n (.mk k nm ns (.mk ck ci cs cl) l)).2 = 0) := Lib.hid (by rw [HR.out]; exact h0)
      have HF : Hid (wr.heap[tb]? = some (.cells #[.int .i64 ((chkE deep n (.mk k nm ns (.mk ck ci cs cl) l)).1 : Int)] 66 (0, 0))) := Lib.hid (by rw [HR.out]; exact hcell)
      clear h0 hcell hbr
      go_wp2
      go_ret
      exact ⟨Dat.ret_i64 H02.out.symm, HF.out, HBR.out⟩
mutual
theorem lookE_any : ∀ t : PE, LookEOk t
  | .mk k nm ns (.mk ck ci cs cl) l => lookE_step k nm ns ck ci cs cl l (lookE_all l)
theorem lookE_all : ∀ l : List PE, ∀ t ∈ l, LookEOk t
  | [], t, h => by cases h
  | u :: l, t, h => (List.mem_cons.1 h).elim (fun e => e ▸ lookE_any u) (fun h => lookE_all l t h)
end
theorem checkE_any (t : PE) (S : Nat → Prop) (vn vd vk : Value) (w : World) (h : InF w S t vn vd vk) (hS : ∀ b, S b → b < w.heap.size) :
    Calls Try.prog 18 #[t.val vn vd vk] w fun e w' => e = .returned (.int .i64 (checkE t)) ∧ Below w.heap.size w w' := by
  obtain ⟨k, nm, ns, ⟨ck, ci, cs, cl⟩, l⟩ := t
  have HI := Lib.hid h
  obtain ⟨⟨_, _, an, cn, rfl, _⟩, ⟨_, _, _, ad, cd, rfl, _⟩, ak, c, rfl, _⟩ := h
  show Calls Try.prog 18 #[.agg #[.int .i64 k, .string nm, .slice an ns.length cn, .int .i64 ck, .int .i64 ci, .string cs, .slice ad cl.length cd, .slice ak l.length c]] w _
  obtain ⟨z0, z1, zb⟩ := two_new w (.cells #[.int .i64 k, .string nm, .slice an ns.length cn, .int .i64 ck, .int .i64 ci, .string cs, .slice ad cl.length cd, .slice ak l.length c] 28) (.cells #[.int .i64 0] 66)
  have HB := Lib.hid zb
  have hz : ((w.alloc (.cells #[.int .i64 k, .string nm, .slice an ns.length cn, .int .i64 ck, .int .i64 ci, .string cs, .slice ad cl.length cd, .slice ak l.length c] 28)).alloc (.cells #[.int .i64 0] 66)).heap.size = w.heap.size + 2 := by rw [size_new, size_new]
  have L := Lib.hid (lookE_any (.mk k nm ns (.mk ck ci cs cl) l) _ S (w.heap.size + 1) 0 0 _ _ _ (HI.out.belowT hS zb) (fun b h => by have := hS b h; omega) (by omega) (by omega) z1)
  clear z0 z1 zb hz
  go_enter Try.func18, Try.ntmps18
  go_wp2_with fail
  refine L.out.mono ?_
  rintro e w1 ⟨rfl, hc1, hb1⟩
  have HB1 := Lib.hid (HB.out.trans (hb1.mono (by omega)))
  clear hc1 hb1
  go_wp2
  go_ret
  exact ⟨rfl, HB1.out⟩
end Go.Proofs.Ytkjgdnfkpebejaa.Core
