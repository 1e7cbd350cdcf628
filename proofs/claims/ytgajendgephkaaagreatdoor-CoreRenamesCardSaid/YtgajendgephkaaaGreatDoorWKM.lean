/-
Texts K71, K72, K73, K74, K76, one behind the other (a claim bears sixty files). Conditions: as each says.
-/
import Derived.Test.YtgajendgephkaaaGreatDoorK70
import Derived.Test.YtgajendgephkaaaGreatDoorK48
import Derived.Test.YtgajendgephkaaaGreatDoorWKH
import Derived.Deep.DeepCutAuto
import Derived.Test.YtgajendgephkaaaGreatDoorWKF
import Derived.RegionTactic

namespace Go.Proofs.YtgajendgephkaaaGreatDoor.Core
open Go.ChangeShapes Go.WideShapes Go.ChangeAt Go.RowKit Go.Deep
open Dat (PT ok64 RepV RepS)
set_option maxRecDepth 100000

theorem ret2_i64 {a b a' b' : Int} (h : a = a') (h2 : b = b') : Ending.returned (.tuple #[.int .i64 a, .int .i64 b]) = .returned (.tuple #[.int .i64 a', .int .i64 b']) := by rw [h, h2]
def RChkOk (t : PE) : Prop := ∀ (w : World) (S : Nat → Prop) (n deep : Nat) (vn vd vk : Value), InF w S t vn vd vk → n ≤ 4096 → deep ≤ 250 →
  Calls Tryz.prog 35 #[t.val vn vd vk, .int .i64 (deep : Int), .int .i64 (n : Int)] w fun e w' =>
    e = .returned (.tuple #[.int .i64 ((chkE deep n t).1 : Int), .int .i64 (chkE deep n t).2]) ∧ Below w.heap.size w w'
set_option maxHeartbeats 2000000 in
theorem rchk_step (k : Int) (nm : ByteArray) (ns : List ByteArray) (ck ci : Int) (cs : ByteArray) (cl : List PT) (l : List PE) (ih : ∀ t ∈ l, RChkOk t) : RChkOk (.mk k nm ns (.mk ck ci cs cl) l) := by
  intro w S n deep vn vd vk h hn hd
  have HI := Lib.hid h
  have HK := Lib.hid h.2.2
  have IH := Lib.hid ih
  obtain ⟨⟨-, -, an, cn, rfl, hln, hmn, -⟩, ⟨-, -, -, ad, cd, rfl, hld, hmd, -⟩, ak, c, rfl, hl, hm, -⟩ := h
  unfold maxLen at hmn hm hmd
  show Calls Tryz.prog 35 #[.agg #[.int .i64 k, .string nm, .slice an ns.length cn, .int .i64 ck, .int .i64 ci, .string cs, .slice ad cl.length cd, .slice ak l.length c], .int .i64 (deep : Int), .int .i64 (n : Int)] w _
  have hz0 := heap_alloc_new w (.cells #[.int .i64 k, .string nm, .slice an ns.length cn, .int .i64 ck, .int .i64 ci, .string cs, .slice ad cl.length cd, .slice ak l.length c] 28)
  have hb0 : Below w.heap.size w (w.alloc (.cells #[.int .i64 k, .string nm, .slice an ns.length cn, .int .i64 ck, .int .i64 ci, .string cs, .slice ad cl.length cd, .slice ak l.length c] 28)) := (Below.refl _ _).alloc (Nat.le_refl _) _
  generalize hw0 : w.alloc (.cells #[.int .i64 k, .string nm, .slice an ns.length cn, .int .i64 ck, .int .i64 ci, .string cs, .slice ad cl.length cd, .slice ak l.length c] 28) = w0 at *
  have HW0 := Lib.hid hw0
  have HB0 := Lib.hid hb0
  have HZ0 := Lib.hid hz0
  have KF : Hid (∀ W, Below w.heap.size w W → Calls Tryz.prog 65 #[.agg #[.int .i64 k, .string nm, .slice an ns.length cn, .int .i64 ck, .int .i64 ci, .string cs, .slice ad cl.length cd, .slice ak l.length c]] W fun e w' => e = .returned (.bool (formE (.mk k nm ns (.mk ck ci cs cl) l))) ∧ Below W.heap.size W w') := Lib.hid fun W hW => rform_any k nm ns ck ci cs cl l S _ _ _ W (HI.out.below hW)
  have BOX : Hid (∀ W, Below w0.heap.size w0 W → W.heap[w.heap.size]? = some (.cells #[.int .i64 k, .string nm, .slice an ns.length cn, .int .i64 ck, .int .i64 ci, .string cs, .slice ad cl.length cd, .slice ak l.length c] 28)) := Lib.hid fun W hb => (hb.block _ (lt_of_block HZ0.out)).trans HZ0.out
  clear ih hw0 hz0 hb0
  by_cases h1 : n = 4096
  · subst h1
    have HR : Hid (chkE deep 4096 (.mk k nm ns (.mk ck ci cs cl) l) = (4096, 62)) := Lib.hid (by rw [chkE, if_pos rfl])
    go_enter Tryz.func35, Tryz.ntmps35
    go_wp2
    go_ret2
    exact ⟨by rw [HR.out]; rfl, by rw [HW0.out]; exact HB0.out⟩
  have hn' : ((n : Int) == 4096) = false := by simp; omega
  by_cases h2 : deep = 250
  · subst h2
    have HR : Hid (chkE 250 n (.mk k nm ns (.mk ck ci cs cl) l) = (n + 1, 61)) := Lib.hid (by rw [chkE, if_neg h1, if_pos rfl])
    clear h1
    go_enter Tryz.func35, Tryz.ntmps35
    go_wp2
    go_ret2
    exact ⟨by rw [HR.out]; rfl, by rw [HW0.out]; exact HB0.out⟩
  have hd' : deep < 250 := by omega
  by_cases h3 : formE (.mk k nm ns (.mk ck ci cs cl) l) = true
  rotate_left
  · have HR : Hid (chkE deep n (.mk k nm ns (.mk ck ci cs cl) l) = (n + 1, 60)) := Lib.hid (by rw [chkE, if_neg h1, if_neg h2, if_neg h3])
    rw [Bool.not_eq_true] at h3
    rw [h3] at KF
    clear h1 h2 h3
    go_enter Tryz.func35, Tryz.ntmps35
    go_wp2_with fail
    rw [HW0.out]
    refine (KF.out _ HB0.out).mono ?_
    rintro e w1 ⟨rfl, hb1⟩
    have HB1 := Lib.hid (HB0.out.trans (hb1.mono HB0.out.size))
    clear hb1
    go_wp2
    go_ret2
    exact ⟨by rw [HR.out]; rfl, HB1.out⟩
  have HR : Hid (chkE deep n (.mk k nm ns (.mk ck ci cs cl) l) = chkEs (deep + 1) (n + 1) l) := Lib.hid (by rw [chkE, if_neg h1, if_neg h2, if_pos h3])
  rw [h3] at KF
  have hn1 : n + 1 ≤ 4096 := by omega
  have hd1 : deep + 1 ≤ 250 := by omega
  clear h3 h1 h2
  go_enter Tryz.func35, Tryz.ntmps35
  go_wp2_with fail
  rw [HW0.out]
  refine (KF.out _ HB0.out).mono ?_
  rintro e w1 ⟨rfl, hb1⟩
  have HB1 := Lib.hid (HB0.out.trans (hb1.mono HB0.out.size))
  have HZ1 := Lib.hid (BOX.out _ hb1)
  clear hb1
  go_wp2
  go_loopw [2, 8, 9] (fun s f i wr => ∃ j : Nat, j ≤ l.length ∧ i = .int .i64 j ∧ f = .int .i64 0 ∧ s = .int .i64 ((chkEs (deep + 1) (n + 1) (l.take j)).1 : Int) ∧ (chkEs (deep + 1) (n + 1) (l.take j)).2 = 0 ∧ Below w1.heap.size w1 wr)
    (fun _ _ i _ => l.length - (intOf i).toNat)
  case atStart => exact ⟨0, Nat.zero_le _, rfl, rfl, by rw [List.take_zero, chkEs]; rfl, by rw [List.take_zero, chkEs], Below.refl _ _⟩
  case round =>
    obtain ⟨j, hj, rfl, rfl, rfl, h0, hbr⟩ := hrel
    have H0 := Lib.hid h0
    have HBR := Lib.hid hbr
    have e7 : wr.cell? ⟨w.heap.size, 7, none⟩ = some (.slice ak l.length c) := by rw [Lib.cell_of_heap ((hbr.block w.heap.size (lt_of_block HZ1.out)).trans HZ1.out)]; rfl
    by_cases hlt' : j < l.length
    · obtain ⟨b, o, c', ea, _, _, hS1, hE1⟩ := (HK.out.below (HB1.out.trans (hbr.mono HB1.out.size))).item j hlt'
      cases ea
      have hle := chkEs_le (deep + 1) (n + 1) hn1 (l.take j)
      have hstep := chkEs_take (deep + 1) (n + 1) l j hlt' h0
      have hIHj := IH.out l[j] (List.getElem_mem hlt')
      have HS := Lib.hid hstep
      clear h0 hbr hstep
      generalize l[j] = t at hE1 hIHj HS
      obtain ⟨tk, tn, tns, ⟨tck, tci, tcs, tcl⟩, tl⟩ := t
      obtain ⟨tvn, tvd, tvk, hF1, a0, a1, a2, a3, a4, a5, a6, a7⟩ := hE1.cells
      have KC := Lib.hid (hIHj wr S (chkEs (deep + 1) (n + 1) (l.take j)).1 (deep + 1) tvn tvd tvk hF1 hle.2 hd1)
      rw [← HS.out] at KC
      obtain ⟨⟨_, _, hn1'⟩, ⟨_, _, _, hd1'⟩, hk1'⟩ := hF1
      obtain ⟨_, _, rfl, -⟩ := hn1'
      obtain ⟨_, _, rfl, -⟩ := hd1'
      obtain ⟨_, _, rfl, -⟩ := hk1'
      unfold PE.val at KC
      clear hE1 hIHj HS
      by_cases hz : (chkEs (deep + 1) (n + 1) (l.take (j + 1))).2 = 0
      · have HZ := Lib.hid hz
        rw [hz] at KC
        clear hz
        have hle1 := hle.2
        clear hle
        generalize hq0 : (chkEs (deep + 1) (n + 1) (l.take j)).1 = q0 at *
        generalize hq1 : (chkEs (deep + 1) (n + 1) (l.take (j + 1))).1 = q1 at *
        have HQ0 := Lib.hid hq0
        have HQ1 := Lib.hid hq1
        clear hq0 hq1
        go_wp2_with fail
        refine KC.out.mono ?_
        rintro e w3 ⟨rfl, hb3⟩
        have HB3 := Lib.hid (HBR.out.trans (hb3.mono HBR.out.size))
        clear hb3
        go_wp2
        go_roundw
        case rel => exact ⟨j + 1, by omega, by go_num, rfl, by rw [HQ1.out], HZ.out, HB3.out⟩
        case measure => simp [intOf]; omega
      · have HW := Lib.hid (chkEs_whole (deep + 1) (n + 1) l (j + 1) hz)
        have hzb : ((chkEs (deep + 1) (n + 1) (l.take (j + 1))).2 != 0) = true := by simpa using hz
        clear hz
        rw [← HW.out] at KC hzb
        rw [← HR.out] at KC hzb
        have hle1 := hle.2
        clear hle
        generalize hq : chkE deep n (.mk k nm ns (.mk ck ci cs cl) l) = q at KC hzb
        obtain ⟨qa, qb⟩ := q
        have HQ := Lib.hid hq
        clear hq
        generalize hq0 : (chkEs (deep + 1) (n + 1) (l.take j)).1 = q0 at *
        have HQ0 := Lib.hid hq0
        clear hq0
        have KC' : Hid (Calls Tryz.prog 35 #[.agg #[.int .i64 tk, .string tn, .slice _ tns.length _, .int .i64 tck, .int .i64 tci, .string tcs, .slice _ tcl.length _, .slice _ tl.length _], .int .i64 ((deep + 1 : Nat) : Int), .int .i64 (q0 : Int)] wr fun e w' => e = .returned (.tuple #[.int .i64 (qa : Int), .int .i64 qb]) ∧ Below wr.heap.size wr w') := KC
        have hzb' : (qb != 0) = true := hzb
        clear KC hzb
        go_wp2_with fail
        refine KC'.out.mono ?_
        rintro e w3 ⟨rfl, hb3⟩
        have HB3 := Lib.hid (HBR.out.trans (hb3.mono HBR.out.size))
        clear hb3
        go_wp2
        go_ret2
        exact ⟨ret2_i64 (by rw [HQ.out]) (by rw [HQ.out]), HB1.out.trans (HB3.out.mono HB1.out.size)⟩
    · obtain rfl : j = l.length := by omega
      have HFIN : Hid ((chkE deep n (.mk k nm ns (.mk ck ci cs cl) l)) = ((chkEs (deep + 1) (n + 1) (l.take l.length)).1, 0)) := Lib.hid (by rw [HR.out, ← h0, List.take_length])
      generalize (chkEs (deep + 1) (n + 1) (l.take l.length)).1 = q1 at *
      clear h0 hbr
      go_wp2
      go_ret2
      exact ⟨ret2_i64 (by rw [HFIN.out]) (by rw [HFIN.out]), HB1.out.trans (HBR.out.mono HB1.out.size)⟩
mutual
theorem rchk_any : ∀ t : PE, RChkOk t
  | .mk k nm ns (.mk ck ci cs cl) l => rchk_step k nm ns ck ci cs cl l (rchk_all l)
theorem rchk_all : ∀ l : List PE, ∀ t ∈ l, RChkOk t
  | [], t, h => by cases h
  | u :: l, t, h => (List.mem_cons.1 h).elim (fun e => e ▸ rchk_any u) (fun h => rchk_all l t h)
end
theorem rcheck_any (t : PE) (S : Nat → Prop) (vn vd vk : Value) (w : World) (h : InF w S t vn vd vk) :
    Calls Tryz.prog 18 #[t.val vn vd vk] w fun e w' => e = .returned (.int .i64 (checkE t)) ∧ Below w.heap.size w w' := by
  obtain ⟨k, nm, ns, ⟨ck, ci, cs, cl⟩, l⟩ := t
  have HI := Lib.hid h
  obtain ⟨⟨_, _, an, cn, rfl, _⟩, ⟨_, _, _, ad, cd, rfl, _⟩, ak, c, rfl, _⟩ := h
  show Calls Tryz.prog 18 #[.agg #[.int .i64 k, .string nm, .slice an ns.length cn, .int .i64 ck, .int .i64 ci, .string cs, .slice ad cl.length cd, .slice ak l.length c]] w _
  have HB := Lib.hid ((Below.refl w.heap.size w).alloc (Nat.le_refl _) (.cells #[.int .i64 k, .string nm, .slice an ns.length cn, .int .i64 ck, .int .i64 ci, .string cs, .slice ad cl.length cd, .slice ak l.length c] 28))
  have L : Hid (Calls Tryz.prog 35 #[.agg #[.int .i64 k, .string nm, .slice an ns.length cn, .int .i64 ck, .int .i64 ci, .string cs, .slice ad cl.length cd, .slice ak l.length c], .int .i64 0, .int .i64 0] (w.alloc (.cells #[.int .i64 k, .string nm, .slice an ns.length cn, .int .i64 ck, .int .i64 ci, .string cs, .slice ad cl.length cd, .slice ak l.length c] 28)) fun e w' => e = .returned (.tuple #[.int .i64 ((chkE 0 0 (.mk k nm ns (.mk ck ci cs cl) l)).1 : Int), .int .i64 (checkE (.mk k nm ns (.mk ck ci cs cl) l))]) ∧ Below (w.alloc (.cells #[.int .i64 k, .string nm, .slice an ns.length cn, .int .i64 ck, .int .i64 ci, .string cs, .slice ad cl.length cd, .slice ak l.length c] 28)).heap.size (w.alloc (.cells #[.int .i64 k, .string nm, .slice an ns.length cn, .int .i64 ck, .int .i64 ci, .string cs, .slice ad cl.length cd, .slice ak l.length c] 28)) w') := Lib.hid (rchk_any (.mk k nm ns (.mk ck ci cs cl) l) _ S 0 0 _ _ _ (HI.out.below HB.out) (by omega) (by omega))
  generalize (chkE 0 0 (.mk k nm ns (.mk ck ci cs cl) l)).1 = q0 at *
  generalize checkE (.mk k nm ns (.mk ck ci cs cl) l) = q1 at *
  clear HI
  go_enter Tryz.func18, Tryz.ntmps18
  go_wp2_with fail
  refine L.out.mono ?_
  rintro e w1 ⟨rfl, hb1⟩
  have HB1 := Lib.hid (HB.out.trans (hb1.mono HB.out.size))
  clear hb1
  go_wp2
  go_ret
  exact ⟨rfl, HB1.out⟩
end Go.Proofs.YtgajendgephkaaaGreatDoor.Core

namespace Go.Proofs.YtgajendgephkaaaGreatDoor.Core
open Go.ChangeShapes Go.WideShapes Go.ChangeAt Go.RowKit Go.Deep
open Dat (PT ok64 RowX)
set_option maxRecDepth 100000

theorem inN_lit {W : World} {B : Nat} {s : ByteArray} {ty : TypeId} (hB : W.heap[B]? = some (.cells #[.string s] ty)) (hs : s.size ≤ maxLen) : InN W (fun _ => True) [s] (.slice (some ⟨B, 0, none⟩) 1 1) :=
  ⟨_, 1, rfl, Nat.le_refl _, by decide, (fun h => by cases h), .inr ⟨B, 0, rfl, trivial, fun j hj => by
    obtain rfl : j = 0 := by simpa using hj
    exact ⟨by rw [Lib.cell_of_heap hB]; rfl, hs⟩⟩⟩
def StandOk (t : PE) : Prop := ∀ (w : World) (S : Nat → Prop) (C : Nat) (vn vd vk v : Value) (l : List ByteArray), InF w S t vn vd vk → (∀ b, S b → b < C) → OutT w C l v → C ≤ w.heap.size → l.length + (standL t).length ≤ 100000 →
  Calls Tryz.prog 29 #[t.val vn vd vk, v] w fun e w' => BoundIs C (l ++ standL t) v w e w'
theorem standLs_snoc : ∀ (l : List PE) (t : PE), standLs (l ++ [t]) = standLs l ++ standL t
  | [], t => by simp [standLs]
  | u :: l, t => by simp only [List.cons_append, standLs, standLs_snoc l t, List.append_assoc]
theorem standLs_take (l : List PE) (j : Nat) : (standLs (l.take j)).length ≤ (standLs l).length := by
  induction l generalizing j with
  | nil => simp [standLs]
  | cons t l ih =>
    cases j with
    | zero => simp [standLs]
    | succ j => simp only [List.take_succ_cons, standLs, List.length_append]; have := ih j; omega
set_option maxHeartbeats 1000000 in
theorem stand_step (k : Int) (nm : ByteArray) (ns : List ByteArray) (ck ci : Int) (cs : ByteArray) (cl : List PT) (l : List PE) (ih : ∀ t ∈ l, StandOk t) : StandOk (.mk k nm ns (.mk ck ci cs cl) l) := by
  intro w S C vn vd vk v ls h hS ho hC hlen
  have HIH := Lib.hid ih
  have HSN := Lib.hid h.1.2.1
  have HN := Lib.hid h.1.2.2
  have HK := Lib.hid h.2.2
  have HSL := Lib.hid hS
  obtain ⟨⟨-, -, hn⟩, ⟨-, -, -, hd⟩, hk⟩ := h
  obtain ⟨an, cn, rfl, _⟩ := hn
  obtain ⟨ad, cd, rfl, _⟩ := hd
  obtain ⟨ak, c, rfl, hl, hm, _⟩ := hk
  unfold maxLen at hm
  have HLN := Lib.hid hlen
  show Calls Tryz.prog 29 #[.agg #[.int .i64 k, .string nm, .slice an ns.length cn, .int .i64 ck, .int .i64 ci, .string cs, .slice ad cl.length cd, .slice ak l.length c], v] w _
  have Z0 := Lib.hid (heap_alloc_new w (.cells #[.int .i64 k, .string nm, .slice an ns.length cn, .int .i64 ck, .int .i64 ci, .string cs, .slice ad cl.length cd, .slice ak l.length c] 28))
  have B0 := Lib.hid ((Below.refl C w).alloc hC (.cells #[.int .i64 k, .string nm, .slice an ns.length cn, .int .i64 ck, .int .i64 ci, .string cs, .slice ad cl.length cd, .slice ak l.length c] 28))
  have HS0 := Lib.hid (size_new w (.cells #[.int .i64 k, .string nm, .slice an ns.length cn, .int .i64 ck, .int .i64 ci, .string cs, .slice ad cl.length cd, .slice ak l.length c] 28))
  have HO0 : Hid (OutT (w.alloc (.cells #[.int .i64 k, .string nm, .slice an ns.length cn, .int .i64 ck, .int .i64 ci, .string cs, .slice ad cl.length cd, .slice ak l.length c] 28)) C ls v) := Lib.hid (ho.at fun b e => Below.heap_alloc _ _ _ (World.ownsRow.lt ho b e).2)
  have HKP0 : Hid (KP w v.ownBlock (w.alloc (.cells #[.int .i64 k, .string nm, .slice an ns.length cn, .int .i64 ck, .int .i64 ci, .string cs, .slice ad cl.length cd, .slice ak l.length c] 28))) := Lib.hid ((KP.refl _ _).alloc _)
  have HVL : Hid (∀ b, v.ownBlock = some b → C ≤ b ∧ b < w.heap.size) := Lib.hid (World.ownsRow.lt ho)
  have hHl : w.heap.size < (w.alloc (.cells #[.int .i64 k, .string nm, .slice an ns.length cn, .int .i64 ck, .int .i64 ci, .string cs, .slice ad cl.length cd, .slice ak l.length c] 28)).heap.size := by rw [size_new]; exact Nat.lt_succ_self _
  clear ih ho
  go_enter Tryz.func29, Tryz.ntmps29
  go_upto_region 1 with fail
  generalize w.alloc (.cells #[.int .i64 k, .string nm, .slice an ns.length cn, .int .i64 ck, .int .i64 ci, .string cs, .slice ad cl.length cd, .slice ak l.length c] 28) = w0 at *
  have HC0 : Hid (C ≤ w0.heap.size) := Lib.hid (by omega)
  have x0 : w0.cell? ⟨w.heap.size, 0, none⟩ = some (.int .i64 k) := by rw [Lib.cell_of_heap Z0.out]; rfl
  have x1 : w0.cell? ⟨w.heap.size, 1, none⟩ = some (.string nm) := by rw [Lib.cell_of_heap Z0.out]; rfl
  go_upto_if 8 with fail
  go_cut [1] (fun v1 wx => OutT wx C (ls ++ (if k = 7 then [] else [nm])) v1 ∧ KP w0 v.ownBlock wx ∧ (v1.ownBlock = v.ownBlock ∨ ∀ b, v1.ownBlock = some b → w0.heap.size ≤ b))
  case first =>
    by_cases h7 : k = 7
    · subst h7
      go_wp2
      go_meet
      exact ⟨by simpa using HO0.out, KP.refl _ _, .inl rfl⟩
    · have hq : (k != 7) = true := by simpa using h7
      have HIF : Hid ((if k = 7 then [] else [nm]) = [nm]) := Lib.hid (if_neg h7)
      have hll : ls.length + 1 ≤ 100000 := by
        have := HLN.out
        rw [standL, HIF.out] at this
        simp only [List.length_append, List.length_cons, List.length_nil] at this
        omega
      clear h7
      go_wp2_with (at_builtin; refine wpList_append_ts rfl _ _ rfl C ls v rfl (HO0.out.at fun b e => Below.heap_alloc _ _ _ (World.ownsRow.lt HO0.out b e).2) (fun _ => True) [nm] _ (inN_lit (heap_alloc_new _ _) HSN.out) rfl hll (Nat.le_trans HC0.out (by rw [size_new]; omega)) ?_; intro v1 w1 ho1 hk1 ha1)
      have HO1 : Hid (OutT w1 C (ls ++ (if k = 7 then [] else [nm])) v1) := Lib.hid (by rw [HIF.out]; exact ho1)
      have HK1 := Lib.hid (((KP.refl w0 v.ownBlock).alloc _).trans hk1)
      have HA1 := Lib.hid (own_down ha1 (Nat.le_of_lt (by rw [size_new]; exact Nat.lt_succ_self _)))
      clear ho1 hk1 ha1
      go_wp2
      go_meet
      exact ⟨HO1.out, HK1.out, HA1.out⟩
  case rest =>
  obtain ⟨ho2, hk2, ha2⟩ := hcut
  rename_i v2
  generalize hls : ls ++ (if k = 7 then [] else [nm]) = ls2 at ho2
  have HRS : Hid ((ls2 ++ ns) ++ standLs l = ls ++ standL (.mk k nm ns (.mk ck ci cs cl) l)) := Lib.hid (by rw [← hls, standL]; simp only [List.append_assoc])
  have HLEN : Hid (ls2.length + ns.length + (standLs l).length ≤ 100000) := Lib.hid (by
    have h1 := HLN.out
    have h2 := congrArg List.length HRS.out
    simp only [List.length_append] at h1 h2
    omega)
  have hB2 : Below C w wc := B0.out.trans (hk2.below HC0.out (fun b e => (HVL.out b e.symm).1))
  have ZR2 := Lib.hid ((hk2.2 w.heap.size hHl (fun e => by have := (HVL.out _ e.symm).2; omega)).trans Z0.out)
  have HO2 := Lib.hid ho2
  have HK2 := Lib.hid hk2
  have HA2 := Lib.hid ha2
  have B2 := Lib.hid hB2
  have x2 : wc.cell? ⟨w.heap.size, 2, none⟩ = some (.slice an ns.length cn) := by rw [Lib.cell_of_heap ZR2.out]; rfl
  have hlen1 : ls2.length + ns.length ≤ 100000 := by have := HLEN.out; omega
  have hC2 : C ≤ wc.heap.size := Nat.le_trans HC0.out hk2.1.size
  clear ho2 hk2 ha2 hls hB2 x0 x1
  go_wp2_with (at_builtin; refine wpList_append_ts rfl _ _ rfl C ls2 _ rfl HO2.out S ns _ (HN.out.belowC HSL.out B2.out) rfl hlen1 hC2 ?_; intro v1 w1 ho1 hk1 ha1)
  have HO1 := Lib.hid ho1
  have HK1 := Lib.hid (HK2.out.thru HA2.out hk1)
  have HA1 : Hid (v1.ownBlock = v.ownBlock ∨ ∀ b, v1.ownBlock = some b → w0.heap.size ≤ b) := Lib.hid (by
    rcases ha1 with e | e
    · rw [e]; exact HA2.out
    · exact .inr fun b e2 => Nat.le_trans HK2.out.1.size (e b e2))
  clear ho1 hk1 ha1 x2
  go_loopw [1, 5] (fun vv ix wr => ∃ j : Nat, j ≤ l.length ∧ ix = .int .i64 j ∧ OutT wr C ((ls2 ++ ns) ++ standLs (l.take j)) vv ∧ KP w0 v.ownBlock wr ∧ (vv.ownBlock = v.ownBlock ∨ ∀ b, vv.ownBlock = some b → w0.heap.size ≤ b)) (fun _ i _ => l.length - (intOf i).toNat)
  case atStart => exact ⟨0, Nat.zero_le _, rfl, by rw [List.take_zero, standLs, List.append_nil]; exact HO1.out, HK1.out, HA1.out⟩
  case round =>
    obtain ⟨j, hj, rfl, ho, hkp, ha⟩ := hrel
    have HO := Lib.hid ho
    have HKP := Lib.hid hkp
    have HA := Lib.hid ha
    have ZR := Lib.hid ((hkp.2 w.heap.size hHl (fun e => by have := (HVL.out _ e.symm).2; omega)).trans Z0.out)
    have x7 : wr.cell? ⟨w.heap.size, 7, none⟩ = some (.slice ak l.length c) := by rw [Lib.cell_of_heap ZR.out]; rfl
    by_cases hlt : j < l.length
    · have HBC : Hid (Below C w wr) := Lib.hid (B0.out.trans (hkp.below HC0.out (fun b e => (HVL.out b e.symm).1)))
      obtain ⟨b, o, c', ea, _, _, hS1, hE1⟩ := (HK.out.belowC HSL.out HBC.out).item j hlt
      cases ea
      have HTS : Hid (standLs (l.take (j + 1)) = standLs (l.take j) ++ standL l[j]) := Lib.hid (by rw [List.take_succ_eq_append_getElem hlt, standLs_snoc])
      have hzz : (standLs (l.take j)).length + (standL l[j]).length ≤ (standLs l).length := by rw [← List.length_append, ← HTS.out]; exact standLs_take _ _
      have hIHj := HIH.out l[j] (List.getElem_mem hlt)
      clear ho hkp ha
      generalize standLs (l.take j) = qs at *
      generalize l[j] = t at hE1 hIHj HTS hzz
      obtain ⟨tk, tn, tns, ⟨tck, tci, tcs, tcl⟩, tl⟩ := t
      obtain ⟨tvn, tvd, tvk, hF1, a0, a1, a2, a3, a4, a5, a6, a7⟩ := hE1.cells
      have KC := Lib.hid (hIHj wr S C tvn tvd tvk _ _ hF1 HSL.out HO.out (Nat.le_trans HC0.out HKP.out.1.size) (by have := HLEN.out; simp only [List.length_append]; omega))
      obtain ⟨⟨_, _, hn1'⟩, ⟨_, _, _, hd1'⟩, hk1'⟩ := hF1
      obtain ⟨_, _, rfl, -⟩ := hn1'
      obtain ⟨_, _, rfl, -⟩ := hd1'
      obtain ⟨_, _, rfl, -⟩ := hk1'
      unfold PE.val at KC
      generalize standL (.mk tk tn tns (.mk tck tci tcs tcl) tl) = bt at KC HTS
      clear hE1 hIHj
      go_wp2_with fail
      refine KC.out.mono ?_
      rintro e w5 ⟨v5, rfl, ho5, hk5, ha5⟩
      have HO5 := Lib.hid ho5
      have HK5 := Lib.hid (HKP.out.thru HA.out hk5)
      have HA5 : Hid (v5.ownBlock = v.ownBlock ∨ ∀ b, v5.ownBlock = some b → w0.heap.size ≤ b) := Lib.hid (by
        rcases ha5 with e | e
        · rw [e]; exact HA.out
        · exact .inr fun b e2 => Nat.le_trans HKP.out.1.size (e b e2))
      clear ho5 hk5 ha5 a0 a1 a2 a3 a4 a5 a6 a7 x7
      go_wp2
      go_roundw
      case rel => exact ⟨j + 1, by omega, by go_num, by rw [HTS.out, ← List.append_assoc]; exact HO5.out, HK5.out, HA5.out⟩
      case measure => simp [intOf]; omega
    · obtain rfl : j = l.length := by omega
      rw [List.take_length] at ho
      have HOF := Lib.hid ho
      have HKF := Lib.hid (HKP0.out.trans hkp)
      have HAF := Lib.hid (own_down ha (Nat.le_of_lt hHl))
      clear ho hkp ha
      go_wp2
      go_ret
      exact ⟨_, rfl, by rw [← HRS.out]; exact HOF.out, HKF.out, HAF.out⟩
mutual
theorem rnames_all_any : ∀ t : PE, StandOk t
  | .mk k nm ns (.mk ck ci cs cl) l => stand_step k nm ns ck ci cs cl l (rnames_all l)
theorem rnames_all : ∀ l : List PE, ∀ t ∈ l, StandOk t
  | [], t, h => by cases h
  | u :: l, t, h => (List.mem_cons.1 h).elim (fun e => e ▸ rnames_all_any u) (fun h => rnames_all l t h)
end
end Go.Proofs.YtgajendgephkaaaGreatDoor.Core

namespace Go.Proofs.YtgajendgephkaaaGreatDoor.Core
open Go.ChangeShapes Go.WideShapes Go.ChangeAt Go.RowKit Go.Deep
open Dat (PT ok64)
set_option maxRecDepth 100000

theorem ret_str {a b : ByteArray} (h : a.data.toList = b.data.toList) : Ending.returned (.string a) = .returned (.string b) := by rw [Go.WideShapes.bytes_inj h]

theorem byte_string (c : UInt8) (W : World) : (convert 119 9 (.slice (some ⟨W.heap.size, 0, none⟩) 1 1)).run Tryz.prog (W.alloc (.cells #[.int .u8 (c.toNat : Int)] 5)) = .ok (.string ⟨#[c]⟩) (W.alloc (.cells #[.int .u8 (c.toNat : Int)] 5)) := by
  have := run_convert_bytes_back (P := Tryz.prog) (W.alloc (.cells #[.int .u8 (c.toNat : Int)] 5)) 119 9 5 ⟨W.heap.size, 0, none⟩ 1 [c] Tryz.underlying119 Tryz.underlying5 Tryz.underlying9 (fun j hj => by
    have : j = 0 := by simpa using hj
    subst this
    rw [show (Addr.add ⟨W.heap.size, 0, none⟩ 0) = ⟨W.heap.size, 0, none⟩ from rfl, Lib.cell_of_heap (heap_alloc_new W _)]
    rfl)
  exact this

theorem decDigits_len (u : Nat) (m : Nat) (h : u < 10 ^ (m + 1)) : (Lib.decDigits u).length ≤ m + 1 := by
  induction m generalizing u with
  | zero =>
    rw [Lib.decDigits]
    rw [dif_pos (by omega)]
    simp
  | succ m ih =>
    rw [Lib.decDigits]
    split
    · simp
    · have := ih (u / 10) (by rw [Nat.div_lt_iff_lt_mul (by omega)]; rw [Nat.pow_succ] at h; omega)
      simp
      omega
def dgt (m : Nat) : UInt8 := UInt8.ofNat (48 + m % 10)
theorem dec_last (m : Nat) (h : m / 10 = 0) : Lib.decDigits m = [dgt m] := by
  rw [Lib.decDigits, dif_pos (by omega), dgt, Nat.mod_eq_of_lt (by omega)]
theorem dec_more (m : Nat) (h : m / 10 ≠ 0) : Lib.decDigits m = Lib.decDigits (m / 10) ++ [dgt m] := by
  rw [Lib.decDigits, dif_neg (by omega)]; rfl

theorem byte_string2 (d : Int) (c : UInt8) (hd : d = (c.toNat : Int)) (W : World) : (convert 119 9 (.slice (some ⟨W.heap.size, 0, none⟩) 1 1)).run Tryz.prog (W.alloc (.cells #[.int .u8 d] 5)) = .ok (.string ⟨#[c]⟩) (W.alloc (.cells #[.int .u8 d] 5)) := by
  subst hd
  exact byte_string c W
theorem digit_byte (m : Nat) : (48 : Int) + (m : Int) % 10 = ((dgt m).toNat : Int) := by
  unfold dgt
  simp
  omega

set_option maxRecDepth 100000 in
theorem digits_pos (N : Nat) (h : N ≤ 9223372036854775807) (w : World) : Calls Tryz.prog 73 #[.int .i64 (N : Int)] w fun e w' => e = .returned (.string ⟨(Lib.decDigits N).toArray⟩) ∧ Below w.heap.size w w' := by
  have hn : ¬ (N : Int) < 0 := by omega
  go_enter Tryz.func73, Tryz.ntmps73
  go_wp2
  go_loopw [0, 3, 5] (fun nx sx dx wr => ∃ (m : Nat) (acc : ByteArray), m ≤ 9223372036854775807 ∧ nx = .int .i64 (m : Int) ∧ sx = .string acc ∧ Lib.decDigits N = Lib.decDigits m ++ acc.data.toList ∧ Below w.heap.size w wr) (fun nx _ _ _ => (intOf nx).toNat)
  case atStart => exact ⟨N, ⟨#[]⟩, h, rfl, rfl, by simp, Below.refl _ _⟩
  case round =>
    obtain ⟨m, acc, hm, rfl, rfl, hd, hbr⟩ := hrel
    have HD := Lib.hid hd
    have hm1 : (m : Int) ≤ 9223372036854775807 := by omega
    clear hd
    have kc := byte_string2 _ _ (digit_byte m)
    have hsz : acc.size ≤ 100 := by
      have h1 := decDigits_len N 19 (by omega)
      have h2 := congrArg List.length HD.out
      rw [List.length_append, len_data] at h2
      omega
    by_cases hz : m / 10 = 0
    · have hz1 : ((m : Int) / 10 == 0) = true := by simp; omega
      have hfin : Lib.decDigits N = ((ByteArray.mk #[dgt m]) ++ acc).data.toList := by
        rw [HD.out, dec_last m hz]
        simp only [ByteArray.data_append, Array.toList_append]
      have HFI := Lib.hid hfin
      clear hfin hz
      go_wp2
      go_ret
      refine ⟨ret_str ?_, hbr.alloc (by have := hbr.size; omega) _⟩
      exact HFI.out.symm
    · have hz1 : ((m : Int) / 10 == 0) = false := by simp; omega
      have hnx : Lib.decDigits N = Lib.decDigits (m / 10) ++ ((ByteArray.mk #[dgt m]) ++ acc).data.toList := by
        rw [HD.out, dec_more m hz]
        simp only [ByteArray.data_append, Array.toList_append, List.append_assoc]
      have HNX := Lib.hid hnx
      have hm10 : 10 ≤ m := by omega
      clear hnx hz
      go_wp2
      go_roundw
      case rel => exact ⟨m / 10, _, by omega, rfl, rfl, HNX.out, hbr.alloc (by have := hbr.size; omega) _⟩
      case measure => simp [intOf]; omega

theorem digits_num (n : Nat) (hn : n ≤ 1000000000) (w : World) : Calls Tryz.prog 73 #[.int .i64 (n : Int)] w fun e w' => e = .returned (.string ⟨(Lib.itoa (n : Int)).toArray⟩) ∧ Below w.heap.size w w' := by
  refine (digits_pos n (by omega) w).mono ?_
  rintro e w' ⟨rfl, hb⟩
  rw [Lib.itoa_nonneg]
  exact ⟨rfl, hb⟩
theorem next_any (U : List ByteArray) (S : Nat → Prop) (v : Value) (n : Nat) (w : World) (hv : InN w S U v) (hn : n + restN U n ≤ 100000000) :
    Calls Tryz.prog 50 #[v, .int .i64 (n : Int)] w fun e w' => (∃ i, NumsL U n [i] (i + 1) ∧ e = .returned (.tuple #[.string (numS i), .int .i64 ((i + 1 : Nat) : Int)])) ∧ Below w.heap.size w w' := by
  have HV := Lib.hid hv
  obtain ⟨a, c, rfl, -⟩ := hv
  go_enter Tryz.func50, Tryz.ntmps50
  go_wp2
  go_loopw [1] (fun nx wr => ∃ m : Nat, nx = .int .i64 (m : Int) ∧ NumsL U n [] m ∧ Below w.heap.size w wr) (fun nx _ => restN U (intOf nx).toNat)
  case atStart => exact ⟨n, rfl, .nil _, Below.refl _ _⟩
  case round =>
    obtain ⟨m, rfl, hl, hbr⟩ := hrel
    have hpot : m + restN U m ≤ n + restN U n := by have := hl.pot; simpa using this
    have hm : m ≤ 100000000 := by omega
    have HL := Lib.hid hl
    have HBR := Lib.hid hbr
    have KD : Hid (Calls Tryz.prog 73 #[.int .i64 (m : Int)] wr fun e w' => e = .returned (.string ⟨(Lib.itoa (m : Int)).toArray⟩) ∧ Below wr.heap.size wr w') := Lib.hid (digits_num m (by omega) wr)
    have KH : Hid (∀ W, Below wr.heap.size wr W → Calls Tryz.prog 14 #[.slice a U.length c, .string (numS m)] W fun e w' => e = .returned (.bool (hasB U (numS m))) ∧ W = w') := Lib.hid fun W hW => has_any U S _ (numS m) W (HV.out.below (HBR.out.trans (hW.mono HBR.out.size)))
    have hsz : (⟨(Lib.itoa (m : Int)).toArray⟩ : ByteArray).size ≤ 100 := by
      have := Lib.itoa_length_le (m : Int) (by omega) (by omega)
      show (Lib.itoa (m : Int)).toArray.size ≤ 100
      simp
      omega
    have HAP := Lib.hid (numS_app m)
    generalize (⟨(Lib.itoa (m : Int)).toArray⟩ : ByteArray) = ds at *
    clear hl hbr hpot
    by_cases hu : numS m ∈ U
    · have hhb : hasB U (numS m) = true := by simp [hasB, hu]
      rw [hhb] at KH
      have HL2 := Lib.hid (NumsL.skip HL.out hu)
      have HRN := Lib.hid (restN_lt hu)
      clear hu hhb
      go_wp2_with fail
      refine KD.out.mono ?_
      rintro e w1 ⟨rfl, hb1⟩
      have HB1 := Lib.hid hb1
      clear hb1
      go_upto_region 3 with fail
      rw [HAP.out]
      go_wp2_with fail
      refine (KH.out _ HB1.out).mono ?_
      rintro e w2 ⟨rfl, rfl⟩
      go_wp2
      go_roundw
      case rel => exact ⟨m + 1, by go_num, HL2.out, HBR.out.trans (HB1.out.mono HBR.out.size)⟩
      case measure =>
        have := HRN.out
        simp only [intOf, Int.toNat_natCast, show ((m : Int) + 1).toNat = m + 1 by omega]
        omega
    · have hhb : hasB U (numS m) = false := by simp [hasB, hu]
      rw [hhb] at KH
      have HL2 := Lib.hid (NumsL.take HL.out hu)
      clear hu hhb
      go_wp2_with fail
      refine KD.out.mono ?_
      rintro e w1 ⟨rfl, hb1⟩
      have HB1 := Lib.hid hb1
      clear hb1
      go_upto_region 3 with fail
      rw [HAP.out]
      go_wp2_with fail
      refine (KH.out _ HB1.out).mono ?_
      rintro e w2 ⟨rfl, rfl⟩
      go_wp2
      go_ret2
      exact ⟨⟨m, HL2.out, rfl⟩, HBR.out.trans (HB1.out.mono HBR.out.size)⟩
end Go.Proofs.YtgajendgephkaaaGreatDoor.Core

namespace Go.Proofs.YtgajendgephkaaaGreatDoor.Core
open Go.ChangeShapes Go.WideShapes Go.ChangeAt Go.RowKit Go.Deep
open Dat (PT ok64 RowX)
set_option maxRecDepth 100000

/-- The cells of a row of pairs. -/
def flatP : List (ByteArray × ByteArray) → List Value
  | [] => []
  | p :: l => .string p.1 :: .string p.2 :: flatP l
theorem flatP_len : ∀ l, (flatP l).length = l.length * 2
  | [] => rfl
  | p :: l => by rw [flatP]; simp only [List.length_cons, flatP_len l]; omega
theorem flatP_app : ∀ l m, flatP (l ++ m) = flatP l ++ flatP m
  | [], m => rfl
  | p :: l, m => by rw [List.cons_append, flatP, flatP, flatP_app l m]; rfl
theorem flatP_str : ∀ l, ∀ u ∈ flatP l, ∃ s, u = .string s
  | [], u, h => by cases h
  | p :: l, u, h => by
    rw [flatP] at h
    rcases List.mem_cons.1 h with rfl | h
    · exact ⟨_, rfl⟩
    rcases List.mem_cons.1 h with rfl | h
    · exact ⟨_, rfl⟩
    · exact flatP_str l u h
theorem flatP_get : ∀ (l : List (ByteArray × ByteArray)) (j : Nat) (hj : j < l.length), (flatP l)[j * 2]? = some (.string l[j].1) ∧ (flatP l)[j * 2 + 1]? = some (.string l[j].2)
  | [], j, hj => by cases hj
  | p :: l, 0, _ => by rw [flatP]; exact ⟨rfl, rfl⟩
  | p :: l, j + 1, hj => by
    have := flatP_get l j (by simpa using hj)
    rw [flatP, show (j + 1) * 2 = j * 2 + 2 by omega, show j * 2 + 2 + 1 = (j * 2 + 1) + 2 by omega]
    exact this
/-- Where a row of pairs lies. -/
def InPs (w : World) (S : Nat → Prop) (l : List (ByteArray × ByteArray)) (v : Value) : Prop :=
  ∃ a c, v = .slice a l.length c ∧ l.length ≤ c ∧ c ≤ maxLen ∧ (a = none → c = 0) ∧ (l = [] ∨ ∃ b o, a = some ⟨b, o, none⟩ ∧ S b ∧ ∀ j u, (flatP l)[j]? = some u → w.cell? ⟨b, o + j, none⟩ = some u)
theorem InPs.below {w w' : World} {S : Nat → Prop} {l : List (ByteArray × ByteArray)} {v : Value} (h : InPs w S l v) (hb : Below w.heap.size w w') : InPs w' S l v := by
  obtain ⟨a, c, e, h1, h2, h3, h4⟩ := h
  refine ⟨a, c, e, h1, h2, h3, h4.imp id ?_⟩
  rintro ⟨b, o, ea, hs, hc⟩
  exact ⟨b, o, ea, hs, fun j u hj => cell_below hb (hc j u hj)⟩
theorem inPs_nil {w : World} {S : Nat → Prop} : InPs w S [] (.slice none 0 0) := ⟨none, 0, rfl, Nat.le_refl _, Nat.zero_le _, fun _ => rfl, .inl rfl⟩
/-- A row of pairs of one's own. -/
def OutP (w : World) (C : Nat) (l : List (ByteArray × ByteArray)) (v : Value) : Prop := w.ownsRow C 85 2 v l.length (flatP l)
theorem OutP.at {w w' : World} {C : Nat} {l : List (ByteArray × ByteArray)} {v : Value} (h : OutP w C l v) (hb : ∀ b, v.ownBlock = some b → w'.heap[b]? = w.heap[b]?) : OutP w' C l v := by
  refine ⟨h.1, h.2.imp id ?_⟩
  rintro ⟨g, cap, cur, rfl, h1, h2, h3⟩
  exact ⟨g, cap, cur, rfl, h1, (hb g rfl).trans h2, h3⟩
theorem OutP.slice {w : World} {C : Nat} {l : List (ByteArray × ByteArray)} {v : Value} (h : OutP w C l v) : ∃ a c, v = .slice a l.length c ∧ (∀ b, v.ownBlock = some b → C ≤ b ∧ b < w.heap.size) := by
  have hl := World.ownsRow.lt h
  rcases h.2 with ⟨rfl, h0⟩ | ⟨g, cap, cur, rfl, _⟩
  · exact ⟨none, 0, by rw [h0], hl⟩
  · exact ⟨_, cap, rfl, hl⟩
theorem OutP.inPs {w : World} {C : Nat} {S : Nat → Prop} {l : List (ByteArray × ByteArray)} {v : Value} (h : OutP w C l v) (hv : ∀ b, v.ownBlock = some b → S b) : InPs w S l v := by
  have ho := h
  rcases ho.2 with ⟨rfl, h0⟩ | ⟨g, cap, cur, rfl, hb, hg, hn, hcm, hcs, ht⟩
  · obtain rfl := List.eq_nil_of_length_eq_zero h0
    exact inPs_nil
  · refine ⟨some ⟨g, 0, none⟩, cap, rfl, hn, hcm, (fun h => by cases h), .inr ⟨g, 0, rfl, hv g rfl, fun j u hj => ?_⟩⟩
    have := World.ownsRow.cells h (g := g) rfl j u hj
    simpa [add_plain] using this
theorem infoPair : (Tryz.prog.info? 85).map (fun i => (i.zero, i.size, i.bytes)) = some (some (.agg #[.string ⟨#[]⟩, .string ⟨#[]⟩]), 2, 32) := by kernel_rfl
theorem wpList_append_ps {ops : Array Oper} {rest : List Oper} {o : Oper} {a : Act} {w : World} {Q : Exit → Act → World → Prop} (hgd : o.guard = none) (sl x : Operand)
    (ho : o.op = .call { callee := .builtin .append, args := #[sl, x], argTypes := #[83, 83] }) (C : Nat) (l : List (ByteArray × ByteArray)) (v : Value) (hs : a.eval sl = v) (h : OutP w C l v) (S : Nat → Prop) (ns : List (ByteArray × ByteArray)) (vn : Value) (hn : InPs w S ns vn) (hx : a.eval x = vn) (hlen : l.length + ns.length ≤ 100000) (hC : C ≤ w.heap.size)
    (kk : ∀ v' w', OutP w' C (l ++ ns) v' → KP w v.ownBlock w' → (v'.ownBlock = v.ownBlock ∨ ∀ b, v'.ownBlock = some b → w.heap.size ≤ b) → wpList Tryz.prog ops Q rest (a.put o.dst v') w') : wpList Tryz.prog ops Q (o :: rest) a w := by
  obtain ⟨i0, hi, hz0, hz1, hz2⟩ := info_parts infoPair
  obtain ⟨an, cn, rfl, hln, hmn, _, hr⟩ := hn
  by_cases h0 : ns = []
  · subst h0
    refine wpList_plain hgd fun K hK => ?_
    have hrun := run_append_owned_empty (P := Tryz.prog) (w := w) C 83 o.type 85 i0 2 Tryz.underlying83 hi v l.length _ h an cn
    unfold Oper.wp
    simp only [List.length_nil] at hx
    simp [execOp, ho, resolve, invoke, builtin, hs, hx, hrun, Result.andThen]
    exact hK _ _ (kk v w (by rw [List.append_nil]; exact h) (KP.refl _ _) (.inl rfl))
  · obtain ⟨b, o1, rfl, hS, hc⟩ := hr.resolve_left h0
    have hp := List.length_pos_iff.2 h0
    refine wpList_append_lies w hgd sl x 83 ho C 85 i0 _ 2 32 Tryz.underlying83 hi hz0 hz1 hz2 rfl (by decide) v l.length _ hs h ⟨b, o1, none⟩ ns.length cn (flatP ns) hx (by rw [flatP_len]) ?_ ?_ hp (by unfold maxLen; omega) (by omega) hC w.heap.size rfl ?_
    · intro j u hu
      have := hc j u hu
      simpa [add_plain] using this
    · intro u hu
      obtain ⟨s, rfl⟩ := flatP_str ns u hu
      rfl
    · intro g cap w' hown hgrow hat hlt
      refine kk _ w' ?_ ⟨⟨hgrow.os, hgrow.tape, hgrow.output, hgrow.size, fun b hb => (Nat.not_lt_zero _ hb).elim⟩, fun b h1 h2 => hgrow.block b h1 h2⟩ (by rcases hat with e | e; exact .inl e.symm; exact .inr (fun b e2 => by cases e2; exact Nat.le_of_eq e.symm))
      unfold OutP
      rw [List.length_append, flatP_app]
      exact hown
/-- One pair, built. -/
theorem inPs_lit {W : World} {B : Nat} {s t : ByteArray} {ty : TypeId} (hB : W.heap[B]? = some (.cells #[.string s, .string t] ty)) : InPs W (fun _ => True) [(s, t)] (.slice (some ⟨B, 0, none⟩) 1 1) :=
  ⟨_, 1, rfl, Nat.le_refl _, by decide, (fun h => by cases h), .inr ⟨B, 0, rfl, trivial, fun j u hj => by
    rw [Lib.cell_of_heap hB]
    simpa [flatP] using hj⟩⟩
/-- What the last pair of a name says. -/
def lastT (l : List (ByteArray × ByteArray)) (s : ByteArray) (acc : ByteArray) : ByteArray := l.foldl (fun x p => if p.1 = s then p.2 else x) acc
/-- Pairs that say what the numbers do. -/
def EnvP (env : ByteArray → List Nat) (l : List (ByteArray × ByteArray)) : Prop := (∀ s, nowT env s = lastT l s s) ∧ ∀ p ∈ l, p.2.size ≤ maxLen
theorem envP_nil : EnvP (fun _ => []) [] := ⟨fun s => rfl, fun p h => by cases h⟩
theorem envP_push {env : ByteArray → List Nat} {l : List (ByteArray × ByteArray)} (h : EnvP env l) (s : ByteArray) (i : Nat) (hi : i ≤ 1000000000) : EnvP (push1 env s i) (l ++ [(s, numS i)]) := by
  refine ⟨fun t => ?_, fun p hp => ?_⟩
  · unfold lastT
    rw [List.foldl_append]
    show nowT (push1 env s i) t = if s = t then numS i else lastT l t t
    rw [← h.1 t]
    unfold nowT push1
    by_cases e : t = s
    · subst e; simp
    · have e2 : ¬ s = t := fun h => e h.symm
      simp [e, e2]
  · rcases List.mem_append.1 hp with hp | hp
    · exact h.2 p hp
    · simp only [List.mem_cons, List.not_mem_nil, or_false] at hp
      subst hp
      exact numS_size i hi
theorem lastT_size {l : List (ByteArray × ByteArray)} (h : ∀ p ∈ l, p.2.size ≤ maxLen) {s : ByteArray} : ∀ {acc : ByteArray}, acc.size ≤ maxLen → (lastT l s acc).size ≤ maxLen := by
  induction l with
  | nil => intro acc ha; exact ha
  | cons p l ih =>
    intro acc ha
    unfold lastT
    rw [List.foldl_cons]
    refine ih (fun q hq => h q (List.mem_cons_of_mem _ hq)) ?_
    split
    · exact h p (by simp)
    · exact ha
/-- What the names bound become, one by one. -/
theorem pushE_snoc : ∀ (ns : List ByteArray) (is : List Nat) (env : ByteArray → List Nat) (s : ByteArray) (i : Nat), ns.length = is.length → pushE env (ns ++ [s]) (is ++ [i]) = push1 (pushE env ns is) s i
  | [], [], env, s, i, _ => by rw [List.nil_append, List.nil_append]; rfl
  | n :: ns, j :: is, env, s, i, h => by
    rw [List.cons_append, List.cons_append, pushE, pushE, pushE_snoc ns is _ s i (by simpa using h)]
theorem numsL_snoc {U : List ByteArray} {a b i : Nat} {l : List Nat} (h : NumsL U a l b) (g : NumsL U b [i] (i + 1)) : NumsL U a (l ++ [i]) (i + 1) := by
  have key : ∀ (m : List Nat) (c : Nat), NumsL U b m c → NumsL U a (l ++ m) c := fun m c hm => by
    induction hm with
    | nil => rw [List.append_nil]; exact h
    | skip _ hu ih => exact .skip ih hu
    | take _ hu ih => rw [← List.append_assoc]; exact .take ih hu
  exact key [i] (i + 1) g
end Go.Proofs.YtgajendgephkaaaGreatDoor.Core

namespace Go.Proofs.YtgajendgephkaaaGreatDoor.Core
open Go.ChangeShapes Go.WideShapes Go.ChangeAt Go.RowKit Go.Deep
open Dat (PT ok64)
set_option maxRecDepth 100000

/-- From the one number up to the other all names stand in U. -/
def EqvN (U : List ByteArray) (n m : Nat) : Prop := ∀ i, (n ≤ i ∧ i < m) ∨ (m ≤ i ∧ i < n) → numS i ∈ U
open Classical in
/-- The numbers of which the names are not in U. -/
noncomputable def freeN (U : List ByteArray) (x y : Nat) : List Nat := (List.range' x (y - x)).filter fun i => decide (numS i ∉ U)
theorem freeN_nil {U : List ByteArray} {x y : Nat} : freeN U x y = [] ↔ ∀ i, x ≤ i → i < y → numS i ∈ U := by
  unfold freeN
  rw [List.filter_eq_nil_iff]
  constructor
  · intro h i h1 h2
    have := h i (List.mem_range'_1.2 ⟨h1, by omega⟩)
    simpa using this
  · intro h i hi
    have := List.mem_range'_1.1 hi
    simpa using h i this.1 (by omega)
theorem freeN_add {U : List ByteArray} {x y z : Nat} (h1 : x ≤ y) (h2 : y ≤ z) : freeN U x z = freeN U x y ++ freeN U y z := by
  unfold freeN
  rw [← List.filter_append]
  congr 1
  have := List.range'_append_1 (s := x) (m := y - x) (n := z - y)
  rw [show x + (y - x) = y by omega, show y - x + (z - y) = z - x by omega] at this
  exact this.symm
theorem freeN_in {U : List ByteArray} {x : Nat} (h : numS x ∈ U) : freeN U x (x + 1) = [] := by
  unfold freeN
  rw [show x + 1 - x = 1 by omega]
  simp [List.range', h]
theorem freeN_out {U : List ByteArray} {x : Nat} (h : numS x ∉ U) : freeN U x (x + 1) = [x] := by
  unfold freeN
  rw [show x + 1 - x = 1 by omega]
  simp [List.range', h]
theorem NumsL.free {U : List ByteArray} {n n' : Nat} {l : List Nat} (h : NumsL U n l n') : n ≤ n' ∧ l = freeN U n n' := by
  induction h with
  | nil => exact ⟨Nat.le_refl _, by unfold freeN; simp⟩
  | skip _ hu ih => exact ⟨by omega, by rw [freeN_add ih.1 (Nat.le_succ _), freeN_in hu, List.append_nil]; exact ih.2⟩
  | take _ hu ih => exact ⟨by omega, by rw [freeN_add ih.1 (Nat.le_succ _), freeN_out hu, ← ih.2]⟩
theorem nums_det0 {U : List ByteArray} {A a b : Nat} (h1 : A ≤ a) (h2 : a ≤ b) (h : (freeN U A a).length = (freeN U A b).length) : freeN U A a = freeN U A b ∧ EqvN U a b := by
  have e := freeN_add (U := U) h1 h2
  have hl : (freeN U a b).length = 0 := by
    rw [e, List.length_append] at h
    omega
  have hn := List.eq_nil_of_length_eq_zero hl
  refine ⟨by rw [e, hn, List.append_nil], fun i hi => ?_⟩
  rcases hi with hi | hi
  · exact freeN_nil.1 hn i hi.1 hi.2
  · omega
theorem EqvN.symm {U : List ByteArray} {a b : Nat} (h : EqvN U a b) : EqvN U b a := fun i hi => h i hi.symm
theorem nums_det {U : List ByteArray} {n m a b : Nat} {l k : List Nat} (h : NumsL U n l a) (g : NumsL U m k b) (he : EqvN U n m) (hl : l.length = k.length) : l = k ∧ EqvN U a b := by
  obtain ⟨h1, rfl⟩ := h.free
  obtain ⟨g1, rfl⟩ := g.free
  have ea : freeN U (min n m) a = freeN U n a := by
    rw [freeN_add (U := U) (x := min n m) (y := n) (z := a) (by omega) h1, freeN_nil.2 (fun i h2 h3 => he i (.inr (by omega))), List.nil_append]
  have eb : freeN U (min n m) b = freeN U m b := by
    rw [freeN_add (U := U) (x := min n m) (y := m) (z := b) (by omega) g1, freeN_nil.2 (fun i h2 h3 => he i (.inl (by omega))), List.nil_append]
  rw [← ea, ← eb] at hl ⊢
  rcases Nat.le_total a b with hab | hab
  · exact nums_det0 (by omega) hab hl
  · obtain ⟨e, h⟩ := nums_det0 (by omega) hab hl.symm
    exact ⟨e.symm, h.symm⟩
mutual
/-- Renaming answers one expression. -/
theorem RenR.det {U : List ByteArray} : ∀ (t : PE) {env : ByteArray → List Nat} {n m a b : Nat} {t1 t2 : PE}, RenR U env n t t1 a → RenR U env m t t2 b → EqvN U n m → t1 = t2 ∧ EqvN U a b
  | .mk k nm ns d l, env, n, m, a, b, t1, t2, h, g, he => by
    rw [RenR] at h g
    obtain ⟨nums, n1, l1, h1, h2, h3, rfl⟩ := h
    obtain ⟨nums2, n2, l2, g1, g2, g3, rfl⟩ := g
    obtain ⟨rfl, he2⟩ := nums_det h1 g1 he (h2.trans g2.symm)
    obtain ⟨rfl, he3⟩ := RenRs.det l h3 g3 he2
    exact ⟨rfl, he3⟩
theorem RenRs.det {U : List ByteArray} : ∀ (l : List PE) {e1 e2 : ByteArray → List Nat} {fr n m a b : Nat} {l1 l2 : List PE}, RenRs U e1 e2 fr n l l1 a → RenRs U e1 e2 fr m l l2 b → EqvN U n m → l1 = l2 ∧ EqvN U a b
  | [], e1, e2, fr, n, m, a, b, l1, l2, h, g, he => by
    rw [RenRs] at h g
    obtain ⟨rfl, rfl⟩ := h
    obtain ⟨rfl, rfl⟩ := g
    exact ⟨rfl, he⟩
  | t :: l, e1, e2, fr, n, m, a, b, l1, l2, h, g, he => by
    rw [RenRs] at h g
    obtain ⟨t1, n1, k1, h1, h2, rfl⟩ := h
    obtain ⟨t2, n2, k2, g1, g2, rfl⟩ := g
    obtain ⟨rfl, he2⟩ := RenR.det t h1 g1 he
    obtain ⟨rfl, he3⟩ := RenRs.det l h2 g2 he2
    exact ⟨rfl, he3⟩
end
theorem rename_det {U : List ByteArray} {t t1 t2 : PE} {env : ByteArray → List Nat} {n a b : Nat} (h : RenR U env n t t1 a) (g : RenR U env n t t2 b) : t1 = t2 :=
  (RenR.det t h g (fun i hi => by omega)).1
end Go.Proofs.YtgajendgephkaaaGreatDoor.Core
