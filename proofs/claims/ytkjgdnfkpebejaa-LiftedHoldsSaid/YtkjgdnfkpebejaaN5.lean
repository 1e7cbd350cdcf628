/-
The document's free names, for every expression in memory. No condition but that the expression is small.
-/
import Derived.Test.YtkjgdnfkpebejaaN4
import Derived.Deep.DeepCutAuto
import Derived.Test.YtkjgdnfkpebejaaWNF

namespace Go.Proofs.Ytkjgdnfkpebejaa.Core
open Go.ChangeShapes Go.WideShapes Go.ChangeAt Go.RowKit Go.Deep
open Dat (PT ok64 RowX)
set_option maxRecDepth 100000

theorem step_append_ts {ops : Array Oper} {o : Oper} {a : Act} {w : World} {K : Act → World → Prop} {Q : Exit → Act → World → Prop} {E : Prop} (hgd : o.guard = none) (sl x : Operand)
    (ho : o.op = .call { callee := .builtin .append, args := #[sl, x], argTypes := #[22, 22] }) (C : Nat) (l : List ByteArray) (v : Value) (hs : a.eval sl = v) (h : OutT w C l v) (S : Nat → Prop) (ns : List ByteArray) (vn : Value) (hn : InN w S ns vn) (hx : a.eval x = vn) (hlen : l.length + ns.length ≤ 100000) (hC : C ≤ w.heap.size)
    (kk : ∀ v' w', OutT w' C (l ++ ns) v' → KP w v.ownBlock w' → (v'.ownBlock = v.ownBlock ∨ ∀ b, v'.ownBlock = some b → w.heap.size ≤ b) → K (a.put o.dst v') w') : if Region.wanted o (yielded ops a.tmps) = true then Oper.wp Try.prog o a w K Q else E := by
  obtain ⟨i0, hi, hz0, hz1, hz2⟩ := info_parts infoStr
  obtain ⟨an, cn, rfl, hln, hmn, _, hr⟩ := hn
  by_cases h0 : ns = []
  · subst h0
    have hw : Region.wanted o (yielded ops a.tmps) = true := by simp [Region.wanted, hgd]
    rw [if_pos hw]
    have hrun := run_append_owned_empty (P := Try.prog) (w := w) C 22 o.type 9 i0 1 Try.underlying22 hi v l.length _ h an cn
    unfold Oper.wp
    simp only [List.length_nil] at hx
    simp [execOp, ho, resolve, invoke, builtin, hs, hx, hrun, Result.andThen]
    exact kk v w (by rw [List.append_nil]; exact h) (KP.refl _ _) (.inl rfl)
  · obtain ⟨b, o1, rfl, hS, hc⟩ := hr.resolve_left h0
    have hp := List.length_pos_iff.2 h0
    refine step_append_lies w hgd sl x 22 ho C 9 i0 _ 1 16 Try.underlying22 hi hz0 hz1 hz2 rfl (by decide) v l.length _ hs h ⟨b, o1, none⟩ ns.length cn (ns.map .string) hx (by simp) ?_ ?_ hp (by unfold maxLen; omega) (by omega) hC w.heap.size rfl ?_
    · intro j u hu
      rw [List.getElem?_map] at hu
      cases e : ns[j]? with
      | none => rw [e] at hu; cases hu
      | some s =>
        rw [e] at hu
        simp only [Option.map_some, Option.some.injEq] at hu
        subst hu
        obtain ⟨hj, rfl⟩ := List.getElem?_eq_some_iff.1 e
        have := (hc j hj).1
        simpa [add_plain] using this
    · intro u hu
      simp only [List.mem_map] at hu
      obtain ⟨s, _, rfl⟩ := hu
      rfl
    · intro g cap w' hown hgrow hat hlt
      refine kk _ w' ?_ ⟨⟨hgrow.os, hgrow.tape, hgrow.output, hgrow.size, fun b hb => (Nat.not_lt_zero _ hb).elim⟩, fun b h1 h2 => hgrow.block b h1 h2⟩ (by rcases hat with e | e; exact .inl e.symm; exact .inr (fun b e2 => by cases e2; exact Nat.le_of_eq e.symm))
      unfold OutT
      rw [List.length_append, List.map_append]
      exact hown
theorem insT_len : ∀ (l : List ByteArray) (s : ByteArray), (insT l s).length = l.length + 1
  | [], s => rfl
  | x :: l, s => by
    rw [insT]
    split
    · rfl
    · rw [List.length_cons, insT_len l s, List.length_cons]
theorem putT_len (l : List ByteArray) (s : ByteArray) : (putT l s).length ≤ l.length + 1 := by
  unfold putT
  split
  · omega
  · rw [insT_len]; omega
open Classical in
mutual
theorem rfreeT_len (bd out : List ByteArray) : ∀ t : PE, (rfreeT bd out t).length ≤ out.length + sizeE t
  | .mk k nm ns d l => by
    rw [rfreeT, sizeE]
    have h := rfreesT_len bd k ns l.length 0 l (if (k = 1 ∨ k = 2) ∧ nm ∉ bd then putT out nm else out)
    have h2 := putT_len out nm
    split at h
    · rw [if_pos ‹_›]; omega
    · rw [if_neg ‹_›]; omega
theorem rfreesT_len (bd : List ByteArray) (k : Int) (ns : List ByteArray) (n i : Nat) : ∀ (l : List PE) (out : List ByteArray), (rfreesT bd k ns n i out l).length ≤ out.length + sizeEs l
  | [], out => by rw [rfreesT, sizeEs]; omega
  | t :: l, out => by
    rw [rfreesT, sizeEs]
    have h1 := rfreesT_len bd k ns n (i + 1) l (rfreeT (if bindsB k n i then bd ++ ns else bd) out t)
    have h2 := rfreeT_len (if bindsB k n i then bd ++ ns else bd) out t
    omega
end
theorem InN.weak {w : World} {S S' : Nat → Prop} {l : List ByteArray} {v : Value} (h : InN w S l v) (hS : ∀ b, S b → b < w.heap.size → S' b) : InN w S' l v := h.move hS fun _ _ _ _ h => h
theorem sizeEs_app : ∀ (l m : List PE), sizeEs (l ++ m) = sizeEs l + sizeEs m
  | [], m => by rw [sizeEs]; simp
  | t :: l, m => by rw [List.cons_append, sizeEs, sizeEs, sizeEs_app l m]; omega
/-- What the document's free answers. -/
def RFreeOk (t : PE) : Prop := ∀ (S So : Nat → Prop) (vn vd vk vb vo : Value) (bd out : List ByteArray) (w : World), InF w S t vn vd vk → (∀ b, S b → b < w.heap.size) → (∀ b, So b → b < w.heap.size) → InN w (fun b => b < w.heap.size) bd vb → InN w So out vo → bd.length + sizeE t ≤ 40000 → out.length + sizeE t ≤ 40000 →
  Calls Try.prog 41 #[t.val vn vd vk, vb, vo] w fun e w' => ∃ v', e = .returned v' ∧ InN w' (fun b => So b ∨ w.heap.size ≤ b) (rfreeT bd out t) v' ∧ Below w.heap.size w w'
open Classical in
set_option maxHeartbeats 40000000 in
theorem rfree_step (k : Int) (nm : ByteArray) (ns : List ByteArray) (ck ci : Int) (cs : ByteArray) (cl : List PT) (l : List PE) (ih : ∀ t ∈ l, RFreeOk t) : RFreeOk (.mk k nm ns (.mk ck ci cs cl) l) := by
  intro S So vn vd vk vb vo bd out w h hS hSo hbd hout hb1 hb2
  have HSO := Lib.hid hSo
  clear hSo
  have IH := Lib.hid ih
  have HSL := Lib.hid hS
  have HBD := Lib.hid hbd
  have HOUT := Lib.hid hout
  have hz : sizeE (.mk k nm ns (.mk ck ci cs cl) l) = 1 + ns.length + sizeEs l := by rw [sizeE]
  rw [hz] at hb1 hb2
  clear hz ih hS
  have HA : Hid (rfreeT bd out (.mk k nm ns (.mk ck ci cs cl) l) = rfreesT bd k ns l.length 0 (if (k = 1 ∨ k = 2) ∧ nm ∉ bd then putT out nm else out) l) := Lib.hid (by rw [rfreeT])
  generalize rfreeT bd out (.mk k nm ns (.mk ck ci cs cl) l) = R at HA
  obtain ⟨⟨_, hnm, hnn⟩, ⟨_, _, _, ad, cd, rfl, _⟩, hk⟩ := h
  have HNM := Lib.hid hnm
  have HNN := Lib.hid hnn
  have HK := Lib.hid hk
  obtain ⟨an, cn, rfl, _⟩ := hnn
  obtain ⟨ak, c, rfl, hl, hm, _⟩ := hk
  unfold maxLen at hm
  have KH := Lib.hid (fun W hW => has_any bd (fun b => b < w.heap.size) vb nm W (hbd.below hW))
  obtain ⟨ab, cb, rfl, _⟩ := hbd
  obtain ⟨ao, co, rfl, _⟩ := hout
  show Calls Try.prog 41 #[.agg #[.int .i64 k, .string nm, .slice an ns.length cn, .int .i64 ck, .int .i64 ci, .string cs, .slice ad cl.length cd, .slice ak l.length c], .slice ab bd.length cb, .slice ao out.length co] w _
  have B0 := Lib.hid ((Below.refl w.heap.size w).alloc (Nat.le_refl _) (.cells #[.int .i64 k, .string nm, .slice an ns.length cn, .int .i64 ck, .int .i64 ci, .string cs, .slice ad cl.length cd, .slice ak l.length c] 28))
  have Z0 := Lib.hid (heap_alloc_new w (.cells #[.int .i64 k, .string nm, .slice an ns.length cn, .int .i64 ck, .int .i64 ci, .string cs, .slice ad cl.length cd, .slice ak l.length c] 28))
  have hwl : w.heap.size < (w.alloc (.cells #[.int .i64 k, .string nm, .slice an ns.length cn, .int .i64 ck, .int .i64 ci, .string cs, .slice ad cl.length cd, .slice ak l.length c] 28)).heap.size := by rw [size_new]; omega
  have KH0 := Lib.hid (KH.out _ B0.out)
  have BX0 : Hid (∀ W, Below (w.alloc (.cells #[.int .i64 k, .string nm, .slice an ns.length cn, .int .i64 ck, .int .i64 ci, .string cs, .slice ad cl.length cd, .slice ak l.length c] 28)).heap.size (w.alloc (.cells #[.int .i64 k, .string nm, .slice an ns.length cn, .int .i64 ck, .int .i64 ci, .string cs, .slice ad cl.length cd, .slice ak l.length c] 28)) W → W.heap[w.heap.size]? = some (.cells #[.int .i64 k, .string nm, .slice an ns.length cn, .int .i64 ck, .int .i64 ci, .string cs, .slice ad cl.length cd, .slice ak l.length c] 28)) := Lib.hid fun W hW => (hW.block _ hwl).trans Z0.out
  have KP0 := Lib.hid (put_any out So (.slice ao out.length co) nm _ (HOUT.out.below B0.out) (fun b hb => Nat.lt_trans (HSO.out b hb) hwl) hnm (by omega))
  clear KH hnm
  have hq : ((k = 1 ∨ k = 2) ∧ (k == 1) = true) ∨ ((k = 1 ∨ k = 2) ∧ (k == 1) = false ∧ (k == 2) = true) ∨ (¬ (k = 1 ∨ k = 2) ∧ (k == 1) = false ∧ (k == 2) = false) := by
    by_cases h1 : k = 1
    · exact .inl ⟨.inl h1, by simpa using h1⟩
    by_cases h2 : k = 2
    · exact .inr (.inl ⟨.inr h2, by simpa using h1, by simpa using h2⟩)
    · exact .inr (.inr ⟨fun h => h.elim h1 h2, by simpa using h1, by simpa using h2⟩)
  obtain ⟨out1, ho1⟩ : ∃ o1, o1 = if (k = 1 ∨ k = 2) ∧ nm ∉ bd then putT out nm else out := ⟨_, rfl⟩
  have HR : Hid (R = rfreesT bd k ns l.length 0 out1 l) := Lib.hid (by rw [HA.out, ho1])
  have HLN : Hid (out1.length + sizeEs l ≤ 40000) := Lib.hid (by
    have := putT_len out nm
    rw [ho1]
    split <;> omega)
  obtain ⟨q, hqq⟩ : ∃ q : Bool, q = decide ((k = 1 ∨ k = 2) ∧ nm ∉ bd) := ⟨_, rfl⟩
  have HQ := Lib.hid hq
  have HO0 := Lib.hid ho1
  have HQQ := Lib.hid hqq
  clear HA hq ho1 hqq
  go_enter Try.func41, Try.ntmps41
  go_upto_region 1 with fail
  generalize w.alloc (.cells #[.int .i64 k, .string nm, .slice an ns.length cn, .int .i64 ck, .int .i64 ci, .string cs, .slice ad cl.length cd, .slice ak l.length c] 28) = w0 at *
  have x0 : w0.cell? ⟨w.heap.size, 0, none⟩ = some (.int .i64 k) := by rw [Lib.cell_of_heap Z0.out]; rfl
  have x1 : w0.cell? ⟨w.heap.size, 1, none⟩ = some (.string nm) := by rw [Lib.cell_of_heap Z0.out]; rfl
  go_cut [23] (fun v wx => v = .bool q ∧ wx = w0)
  case first =>
    by_cases hin : nm ∈ bd
    all_goals
      first
        | rw [show hasB bd nm = true from by unfold hasB; exact decide_eq_true hin] at KH0
        | rw [show hasB bd nm = false from by unfold hasB; exact decide_eq_false hin] at KH0
      rcases HQ.out with ⟨h12, q1⟩ | ⟨h12, q1, q2⟩ | ⟨h12, q1, q2⟩
    all_goals
      first
        | (have HV : Hid (q = true) := Lib.hid (by rw [HQQ.out]; exact decide_eq_true ⟨h12, hin⟩))
        | (have HV : Hid (q = false) := Lib.hid (by rw [HQQ.out]; exact decide_eq_false (by intro h; first | exact h.2 hin | exact h12 h.1)))
      clear hin h12
      go_wp2_with fail
      try
        refine KH0.out.mono ?_
        rintro e w00 ⟨rfl, rfl⟩
        go_wp2
      go_meet
      exact ⟨by rw [HV.out], rfl⟩
  case rest =>
  obtain ⟨rfl, rfl⟩ := hcut
  obtain ⟨w0, hw0⟩ : ∃ x, x = wc := ⟨_, rfl⟩
  subst hw0
  go_upto_if 23 with fail
  go_cut [2] (fun v wx => InN wx (fun b => So b ∨ w.heap.size ≤ b) out1 v ∧ Below w0.heap.size w0 wx)
  case first =>
    by_cases hh : (k = 1 ∨ k = 2) ∧ nm ∉ bd
    · have ho := HO0.out
      have hv := HQQ.out
      rw [if_pos hh] at ho
      rw [decide_eq_true hh] at hv
      rw [← ho] at KP0
      subst hv
      clear hh ho
      go_wp2_with fail
      refine KP0.out.mono ?_
      rintro e w1 ⟨v1, rfl, ho1, hb⟩
      have HO1 : Hid (InN w1 (fun b => So b ∨ w.heap.size ≤ b) out1 v1) := Lib.hid (ho1.weak fun b h _ => h.imp id fun g => by omega)
      have HB1 := Lib.hid hb
      clear ho1 hb
      go_wp2
      go_meet
      exact ⟨HO1.out, HB1.out⟩
    · have ho := HO0.out
      have hv := HQQ.out
      rw [if_neg hh] at ho
      rw [decide_eq_false hh] at hv
      subst hv
      clear hh
      have HO1 : Hid (InN w0 (fun b => So b ∨ w.heap.size ≤ b) out1 (.slice ao out.length co)) := Lib.hid (by rw [ho]; exact (HOUT.out.below B0.out).weak fun b h _ => .inl h)
      clear ho
      go_wp2
      go_meet
      exact ⟨HO1.out, Below.refl _ _⟩
  case rest =>
  obtain ⟨w1, hw1⟩ : ∃ x, x = wc := ⟨_, rfl⟩
  subst hw1
  obtain ⟨ho1, hb⟩ := hcut
  have HO1 := Lib.hid ho1
  have HW1 : Hid (Below w.heap.size w w1) := Lib.hid (B0.out.trans (hb.mono B0.out.size))
  have BX1 : Hid (∀ W, Below w1.heap.size w1 W → W.heap[w.heap.size]? = some (.cells #[.int .i64 k, .string nm, .slice an ns.length cn, .int .i64 ck, .int .i64 ci, .string cs, .slice ad cl.length cd, .slice ak l.length c] 28)) := Lib.hid fun W hW => BX0.out W (hb.trans (hW.mono hb.size))
  have K1 := Lib.hid (HK.out.below HW1.out)
  have N1 := Lib.hid (HNN.out.below HW1.out)
  have D1 := Lib.hid (HBD.out.below HW1.out)
  clear KP0 KH0 BX0 Z0 HO0 HQ HQQ x0 x1 ho1 hb B0
  go_wp2
  go_loopw [2, 7] (fun ov iv wr => ∃ (j : Nat) (o2 : List ByteArray), j ≤ l.length ∧ iv = .int .i64 j ∧ InN wr (fun b => So b ∨ w.heap.size ≤ b) o2 ov ∧ rfreesT bd k ns l.length j o2 (l.drop j) = R ∧ o2.length + sizeEs (l.drop j) ≤ 40000 ∧ Below w1.heap.size w1 wr) (fun _ iv _ => l.length - (intOf iv).toNat)
  case atStart => exact ⟨0, out1, Nat.zero_le _, rfl, HO1.out, HR.out.symm, HLN.out, Below.refl _ _⟩
  case round =>
    obtain ⟨j, o2, hj, rfl, ho, hrr, hl2, hb⟩ := hrel
    have HO := Lib.hid ho
    have HB := Lib.hid hb
    have HBW := Lib.hid (HW1.out.trans (hb.mono HW1.out.size))
    have HE0 := Lib.hid (BX1.out _ hb)
    obtain ⟨x0, x1, x2, x3, x4, x5, x6, x7⟩ := look8n HE0.out
    have HRR := Lib.hid hrr
    clear hrr ho
    by_cases hlt : j < l.length
    · have hd : l.drop j = l[j] :: l.drop (j + 1) := List.drop_eq_getElem_cons hlt
      have HR2 : Hid (rfreesT bd k ns l.length (j + 1) (rfreeT (if bindsB k l.length j then bd ++ ns else bd) o2 l[j]) (l.drop (j + 1)) = R) := Lib.hid (by have := HRR.out; rw [hd, rfreesT] at this; exact this)
      rw [hd, sizeEs] at hl2
      have HSZ : Hid (sizeE l[j] ≤ sizeEs l) := Lib.hid (by
        have h1 := sizeEs_take l j
        have : sizeEs l = sizeEs (l.take j ++ l.drop j) := by rw [List.take_append_drop]
        rw [hd] at this
        have h2 := sizeEs_app (l.take j) (l[j] :: l.drop (j + 1))
        rw [sizeEs] at h2
        omega)
      have KB := Lib.hid (fun W => rbinds_any k nm an ns.length cn ck ci cs ad cl.length cd ak l.length c (j : Int) W hl (by unfold maxLen; exact hm))
      obtain ⟨b, o, c', ea, _, _, hS1, hE1⟩ := ((K1.out.below hb)).item j hlt
      cases ea
      have IT := Lib.hid (IH.out l[j] (List.getElem_mem hlt))
      clear hb hd
      have HLB := Lib.hid (fun bx => rfreeT_len bx o2 l[j])
      generalize l[j] = t at hE1 IT HR2 HSZ HLB hl2
      generalize hld : l.drop (j + 1) = ld at HR2 hl2
      have HLD := Lib.hid hld
      clear hld
      obtain ⟨tk, tn, tns, ⟨tck, tci, tcs, tcl⟩, tl⟩ := t
      obtain ⟨tvn, tvd, tvk, hF1, a0, a1, a2, a3, a4, a5, a6, a7⟩ := hE1.cells
      have hbb := World.block_lt_of_cell? _ _ a0
      have HF1 := Lib.hid hF1
      clear hE1
      unfold InF at hF1
      obtain ⟨⟨_, _, hn1⟩, ⟨_, _, _, hd1⟩, hk1⟩ := hF1
      obtain ⟨_, _, rfl, -⟩ := hn1
      obtain ⟨_, _, rfl, -⟩ := hd1
      obtain ⟨_, _, rfl, -⟩ := hk1
      have HS0 := Lib.hid (fun b (h : S b) => Nat.lt_of_lt_of_le (HSL.out b h) HW1.out.size)
      have D2 := Lib.hid (HBD.out.below HBW.out)
      have N2 := Lib.hid (HNN.out.below HBW.out)
      have hwrs := HBW.out.size
      have HNS : Hid (bd.length + ns.length ≤ 40000) := Lib.hid (by omega)
      obtain ⟨bx, hbx⟩ : ∃ x, x = if bindsB k l.length j then bd ++ ns else bd := ⟨_, rfl⟩
      have HBXL : Hid (bx.length + sizeE (.mk tk tn tns (.mk tck tci tcs tcl) tl) ≤ 40000) := Lib.hid (by
        have := HSZ.out
        rw [hbx]
        split
        · rw [List.length_append]; omega
        · omega)
      rw [← hbx] at HR2
      have HL3 := Lib.hid (HLB.out bx)
      have HBX := Lib.hid hbx
      clear hbx HLB
      go_wp2_with fail
      refine (KB.out _).mono ?_
      rintro e w4 ⟨rfl, hb4⟩
      have HB4 := Lib.hid (HB.out.trans (hb4.mono HB.out.size))
      have c0 := cell_below hb4 a0
      have c1 := cell_below hb4 a1
      have c2 := cell_below hb4 a2
      have c3 := cell_below hb4 a3
      have c4 := cell_below hb4 a4
      have c5 := cell_below hb4 a5
      have c6 := cell_below hb4 a6
      have c7 := cell_below hb4 a7
      have hbb4 : b < w4.heap.size := Nat.lt_of_lt_of_le hbb hb4.size
      have D4 := Lib.hid (D2.out.below hb4)
      have N4 := Lib.hid (N2.out.below hb4)
      have O4 := Lib.hid (HO.out.below hb4)
      have F4 := Lib.hid (HF1.out.below hb4)
      have hw4 : w.heap.size < w4.heap.size := Nat.lt_of_lt_of_le (lt_of_block (BX1.out _ (Below.refl _ _))) HB4.out.size
      have HS4 := Lib.hid (fun b (h : S b) => Nat.lt_of_lt_of_le (HS0.out b h) HB4.out.size)
      clear hb4 HF1 x0 x1 x2 x3 x4 x5 x6 x7 a0 a1 a2 a3 a4 a5 a6 a7 hbb HO KB
      go_upto_if 38 with fail
      go_cut [8] from 28 to 52 (fun v wx => InN wx (fun b => b < wx.heap.size) bx v ∧ Below w4.heap.size w4 wx)
      case first =>
        have HV := Lib.hid HBX.out
        cases hbn : bindsB k l.length j
        · rw [hbn, if_neg (by simp)] at HV
          have D5 : Hid (InN w4 (fun b => b < w4.heap.size) bx (.slice ab bd.length cb)) := Lib.hid (by rw [HV.out]; exact D4.out.weak fun b h _ => by omega)
          go_wp2
          go_meet
          exact ⟨D5.out, Below.refl _ _⟩
        · rw [hbn, if_pos rfl] at HV
          have HLT : Hid (([] : List ByteArray).length + bd.length ≤ 100000 ∧ ([] ++ bd).length + ns.length ≤ 100000) := Lib.hid (by rw [List.nil_append, List.length_nil]; have := HNS.out; omega)
          have y2 : w4.cell? ⟨w.heap.size, 2, none⟩ = some (.slice an ns.length cn) := by rw [Lib.cell_of_heap (BX1.out _ HB4.out)]; rfl
          go_wp2
          have HOX : Hid (OutT (w4.drew.alloc (.cells #[] 9)) w4.heap.size [] (.slice (some ⟨w4.heap.size, 0, none⟩) 0 0)) := Lib.hid (OutT.lit0 (heap_alloc_new w4.drew _) (Nat.le_refl _))
          have hbx : Below w4.heap.size w4 (w4.drew.alloc (.cells #[] 9)) := ((Below.refl w4.heap.size w4).drew).alloc (Nat.le_refl _) _
          have HBX2 := Lib.hid hbx
          have DX := Lib.hid (D4.out.below hbx)
          have y2d : w4.drew.cell? ⟨w.heap.size, 2, none⟩ = some (.slice an ns.length cn) := y2
          clear hbx
          go_region_law (first
            | (refine step_append_ts rfl _ _ rfl w4.heap.size [] _ rfl HOX.out _ bd _ DX.out rfl HLT.out.1 HBX2.out.size ?_; intro v6 w6 h6 k6 a6; have HO6 := Lib.hid h6; have hb6 := HBX2.out.trans (k6.toBelow HOX.out HBX2.out.size); have HB6 := Lib.hid hb6; have N6 := Lib.hid (N4.out.below hb6); have y26 := cell_below hb6 y2; clear h6 k6 a6 hb6)
            | (refine step_append_ts rfl _ _ rfl w4.heap.size ([] ++ bd) v6 rfl HO6.out _ ns _ N6.out rfl HLT.out.2 HB6.out.size ?_; intro v8 w8 h8 k8 a8; have HO8 := Lib.hid h8; have HB8 := Lib.hid (HB6.out.trans (k8.toBelow HO6.out HB6.out.size)); clear h8 k8 a8))
          all_goals
            have I8 : Hid (InN w8 (fun b => b < w8.heap.size) bx v8) := Lib.hid (by
              rw [HV.out]
              exact HO8.out.inN (fun s hs => by
                rw [List.nil_append] at hs
                exact (List.mem_append.1 hs).elim (D4.out.sizes s) (N4.out.sizes s)) (fun b e => (World.ownsRow.lt HO8.out b e).2))
            go_wp2
            go_meet
            exact ⟨I8.out, HB8.out⟩
      case rest =>
      obtain ⟨w8, hw8⟩ : ∃ x, x = wc := ⟨_, rfl⟩
      subst hw8
      obtain ⟨hi8, hb8⟩ := hcut
      have HBZ := Lib.hid (HB4.out.trans (hb8.mono HB4.out.size))
      have z7 : w8.cell? ⟨w.heap.size, 7, none⟩ = some (.slice (some ⟨b, o, none⟩) l.length c) := by rw [Lib.cell_of_heap (BX1.out _ HBZ.out)]; rfl
      have d0 := cell_below hb8 c0
      have d1 := cell_below hb8 c1
      have d2 := cell_below hb8 c2
      have d3 := cell_below hb8 c3
      have d4 := cell_below hb8 c4
      have d5 := cell_below hb8 c5
      have d6 := cell_below hb8 c6
      have d7 := cell_below hb8 c7
      have hbb8 : b < w8.heap.size := Nat.lt_of_lt_of_le hbb4 hb8.size
      have HO8 : Hid (InN w8 (fun b => (So b ∨ w.heap.size ≤ b) ∧ b < w8.heap.size) o2 u2) := Lib.hid ((O4.out.below hb8).weak fun b h hlt => ⟨h, hlt⟩)
      have KC := Lib.hid (IT.out S _ _ _ _ _ _ bx o2 w8 (F4.out.below hb8) (fun b h => Nat.lt_of_lt_of_le (HS4.out b h) hb8.size) (fun b h => h.2) hi8 HO8.out HBXL.out (by omega))
      clear IT F4 hi8 hb8 c0 c1 c2 c3 c4 c5 c6 c7
      go_wp2_with fail
      refine KC.out.mono ?_
      rintro e w5 ⟨v5, rfl, ho5, hb5⟩
      have HO5 : Hid (InN w5 (fun b => So b ∨ w.heap.size ≤ b) (rfreeT bx o2 (.mk tk tn tns (.mk tck tci tcs tcl) tl)) v5) := Lib.hid (ho5.weak fun b h _ => h.elim (fun g => g.1) fun g => .inr (by have := HBZ.out.size; have := HW1.out.size; omega))
      have HB5 := Lib.hid (HBZ.out.trans (hb5.mono HBZ.out.size))
      clear ho5 hb5
      go_wp2
      go_roundw
      case rel => exact ⟨j + 1, _, by omega, by go_num, HO5.out, by rw [HLD.out]; exact HR2.out, by rw [HLD.out]; have := HL3.out; omega, HB5.out⟩
      case measure => simp [intOf]; omega
    · obtain rfl : j = l.length := by omega
      have HF : Hid (R = o2) := Lib.hid (by have := HRR.out; rw [List.drop_length, rfreesT] at this; exact this.symm)
      clear HRR hb
      go_wp2
      go_ret
      exact ⟨_, rfl, by rw [HF.out]; exact HO.out, HBW.out⟩
mutual
theorem rfree_any : ∀ t : PE, RFreeOk t
  | .mk k nm ns (.mk ck ci cs cl) l => rfree_step k nm ns ck ci cs cl l (rfree_all l)
theorem rfree_all : ∀ l : List PE, ∀ t ∈ l, RFreeOk t
  | [], t, h => by cases h
  | u :: l, t, h => (List.mem_cons.1 h).elim (fun e => e ▸ rfree_any u) (rfree_all l t)
end
end Go.Proofs.Ytkjgdnfkpebejaa.Core
