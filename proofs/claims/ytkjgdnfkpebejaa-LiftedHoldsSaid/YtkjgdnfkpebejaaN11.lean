/-
Package lift's over with lifted, and lifted, for every expression that may be: what is left of it, and the functions. No condition but that the expression is small.
-/
import Derived.Test.YtkjgdnfkpebejaaN10
import Derived.Test.YtkjgdnfkpebejaaK37

namespace Go.Proofs.Ytkjgdnfkpebejaa.Core
open Go.ChangeShapes Go.WideShapes Go.ChangeAt Go.RowKit Go.Deep
open Dat (PT ok64 RowX)
set_option maxRecDepth 100000

theorem step_append_f {ops : Array Oper} {o : Oper} {a : Act} {w : World} {K : Act → World → Prop} {Q : Exit → Act → World → Prop} {E : Prop} (hgd : o.guard = none) (sl x : Operand)
    (ho : o.op = .call { callee := .builtin .append, args := #[sl, x], argTypes := #[29, 29] }) (C : Nat) (P : Nat → Prop) (l : List FunT) (v : Value) (hs : a.eval sl = v) (h : OutF w C P l v) (B : Nat) (ps fr : List ByteArray) (k : Int) (nm : ByteArray) (ns : List ByteArray) (ck ci : Int) (cs : ByteArray) (cl : List PT) (l0 : List PE) (vp vf vn vd vk : Value) (hx : a.eval x = .slice (some ⟨B, 0, none⟩) 1 1)
    (hB : w.heap[B]? = some (.cells #[vp, vf, .int .i64 k, .string nm, vn, .int .i64 ck, .int .i64 ci, .string cs, vd, vk] 43 (0, 0))) (hp : InN w (fun b => P b ∧ some b ≠ v.ownBlock) ps vp) (hf : InN w (fun b => P b ∧ some b ≠ v.ownBlock) fr vf) (hm : InF w (fun b => P b ∧ some b ≠ v.ownBlock) (.mk k nm ns (.mk ck ci cs cl) l0) vn vd vk) (hlen : l.length ≤ 100000) (hC : C ≤ w.heap.size)
    (kk : ∀ g cap w', OutF w' C P (l ++ [⟨ps, fr, .mk k nm ns (.mk ck ci cs cl) l0⟩]) (.slice (some ⟨g, 0, none⟩) (l.length + 1) cap) → w.grownBy w' v.ownBlock → (v.ownBlock = some g ∨ g = w.heap.size) → K (a.put o.dst (.slice (some ⟨g, 0, none⟩) (l.length + 1) cap)) w') : if Region.wanted o (yielded ops a.tmps) = true then Oper.wp Try.prog o a w K Q else E := by
  obtain ⟨i0, hi, hz0, hz1, hz2⟩ := info_parts infoFun
  obtain ⟨xs, hxs, hrx⟩ := h
  obtain ⟨⟨_, _, ⟨an, cn, en, _⟩⟩, ⟨_, _, _, ⟨ad, cd, ed, _⟩⟩, ⟨ak, ck', ek, _⟩⟩ := id hm
  obtain ⟨ap, cp, ep, _⟩ := id hp
  obtain ⟨af, cf, ef, _⟩ := id hf
  subst en ed ek ep ef
  refine step_append_lies w hgd sl x 29 ho C 43 i0 _ 10 176 Try.underlying29 hi hz0 hz1 hz2 rfl (by decide) v l.length xs hs hxs ⟨B, 0, none⟩ 1 1 _ hx rfl (World.news_of_block hB) ?_ (by decide) (by unfold maxLen; omega) (by omega) hC w.heap.size rfl ?_
  · intro u hu
    simp only [List.mem_cons, List.not_mem_nil, or_false] at hu
    rcases hu with rfl | rfl | rfl | rfl | rfl | rfl | rfl | rfl | rfl | rfl <;> rfl
  · intro g cap w' hown hgrow hat hlt
    exact kk g cap w' (outF_step hrx hp hf hm hown hgrow hat) hgrow hat
/-- What of an answer's fields is known. -/
theorem liftedIs_mk {C lb : Nat} {P S : Nat → Prop} {fs : List FunT} {v : Value} {w w' : World} {t : PE} {k : Int} {nm : ByteArray} {ns : List ByteArray} {ck ci : Int} {cs : ByteArray} {cl : List PT} {l : List PE} {vn vd vk v' : Value} (h1 : (liftT fs t).1 = .mk k nm ns (.mk ck ci cs cl) l) (h2 : InF w' (fun b => (S b ∨ w.heap.size ≤ b) ∧ Off lb v' b) (.mk k nm ns (.mk ck ci cs cl) l) vn vd vk) (h3 : LfSt w' C lb P (liftT fs t).2 v') (h4 : LfFr C lb w v w' v') :
    LiftedIs C lb P S fs v w t (.returned (.agg #[.int .i64 k, .string nm, vn, .int .i64 ck, .int .i64 ci, .string cs, vd, vk])) w' := ⟨k, nm, ns, ck, ci, cs, cl, l, vn, vd, vk, v', rfl, h1, h2, h3, h4⟩
set_option maxHeartbeats 8000000 in
theorem overLf_any (k : Int) (nm : ByteArray) (ns : List ByteArray) (ck ci : Int) (cs : ByteArray) (cl : List PT) (l : List PE) (ih : ∀ t ∈ l, LiftedOk t) (hok : ∀ t ∈ l, okE t) (hl4 : l.length ≤ 4096) (w : World) (C lb : Nat) (P S : Nat → Prop) (fs : List FunT) (v vn vd vk : Value) (h : InF w S (.mk k nm ns (.mk ck ci cs cl) l) vn vd vk) (hS : ∀ b, S b → b < w.heap.size ∧ Off lb v b ∧ P b) (hst : LfSt w C lb P fs v) (hP : ∀ b, w.heap.size ≤ b → P b) (hf : fs.length + sizeEs l ≤ 60000) (hz : sizeEs l ≤ 40000) :
    Calls Try.prog 38 #[(PE.mk k nm ns (.mk ck ci cs cl) l).val vn vd vk, .func (.func 21) #[.pointer (some ⟨lb, 0, none⟩)] #[]] w fun e w' => ∃ vk' v', e = .returned ((PE.mk k nm ns (.mk ck ci cs cl) l).val vn vd vk') ∧ InK w' (fun b => (S b ∨ w.heap.size ≤ b) ∧ Off lb v' b) (liftsT fs l).1 vk' ∧ LfSt w' C lb P (liftsT fs l).2 v' ∧ LfFr C lb w v w' v' := by
  have IH := Lib.hid ih
  have HOK := Lib.hid hok
  have HSL := Lib.hid hS
  have HI := Lib.hid h
  have HST := Lib.hid hst
  have HPN := Lib.hid hP
  have HLT := Lib.hid hst.lt
  clear ih hok hS hst hP
  obtain ⟨⟨_, _, an, cn, rfl, _⟩, ⟨_, _, _, ad, cd, rfl, _⟩, ak, c, rfl, hl, hm, _⟩ := h
  unfold maxLen at hm
  show Calls Try.prog 38 #[.agg #[.int .i64 k, .string nm, .slice an ns.length cn, .int .i64 ck, .int .i64 ci, .string cs, .slice ad cl.length cd, .slice ak l.length c], .func (.func 21) #[.pointer (some ⟨lb, 0, none⟩)] #[]] w fun e w' => ∃ vk' v', e = .returned (.agg #[.int .i64 k, .string nm, .slice an ns.length cn, .int .i64 ck, .int .i64 ci, .string cs, .slice ad cl.length cd, vk']) ∧ InK w' (fun b => (S b ∨ w.heap.size ≤ b) ∧ Off lb v' b) (liftsT fs l).1 vk' ∧ LfSt w' C lb P (liftsT fs l).2 v' ∧ LfFr C lb w v w' v'
  have HRD0 : Hid (LvSt C lb P S w v (((w.alloc (.cells #[.int .i64 k, .string nm, .slice an ns.length cn, .int .i64 ck, .int .i64 ci, .string cs, .slice ad cl.length cd, .slice ak l.length c] 28)).alloc (.cells #[.int .i64 0, .string ⟨#[]⟩, .slice none 0 0, .int .i64 0, .int .i64 0, .string ⟨#[]⟩, .slice none 0 0, .slice none 0 0] 28)).alloc (.cells #[.int .i64 k, .string nm, .slice an ns.length cn, .int .i64 ck, .int .i64 ci, .string cs, .slice ad cl.length cd, .slice none 0 0] 28)) fs v [] (.slice none 0 0) (.cells #[.int .i64 k, .string nm, .slice an ns.length cn, .int .i64 ck, .int .i64 ci, .string cs, .slice ad cl.length cd, .slice ak l.length c] 28) (.cells #[.int .i64 k, .string nm, .slice an ns.length cn, .int .i64 ck, .int .i64 ci, .string cs, .slice ad cl.length cd, .slice none 0 0] 28)) := Lib.hid (by
    obtain ⟨z0, z1, zb⟩ := two_new w (.cells #[.int .i64 k, .string nm, .slice an ns.length cn, .int .i64 ck, .int .i64 ci, .string cs, .slice ad cl.length cd, .slice ak l.length c] 28) (.cells #[.int .i64 0, .string ⟨#[]⟩, .slice none 0 0, .int .i64 0, .int .i64 0, .string ⟨#[]⟩, .slice none 0 0, .slice none 0 0] 28)
    have hs : ((w.alloc (.cells #[.int .i64 k, .string nm, .slice an ns.length cn, .int .i64 ck, .int .i64 ci, .string cs, .slice ad cl.length cd, .slice ak l.length c] 28)).alloc (.cells #[.int .i64 0, .string ⟨#[]⟩, .slice none 0 0, .int .i64 0, .int .i64 0, .string ⟨#[]⟩, .slice none 0 0, .slice none 0 0] 28)).heap.size = w.heap.size + 2 := by rw [size_new, size_new]
    have z2 := heap_alloc_new ((w.alloc (.cells #[.int .i64 k, .string nm, .slice an ns.length cn, .int .i64 ck, .int .i64 ci, .string cs, .slice ad cl.length cd, .slice ak l.length c] 28)).alloc (.cells #[.int .i64 0, .string ⟨#[]⟩, .slice none 0 0, .int .i64 0, .int .i64 0, .string ⟨#[]⟩, .slice none 0 0, .slice none 0 0] 28)) (.cells #[.int .i64 k, .string nm, .slice an ns.length cn, .int .i64 ck, .int .i64 ci, .string cs, .slice ad cl.length cd, .slice none 0 0] 28)
    rw [hs] at z2
    have hb := bel_alloc' zb (.cells #[.int .i64 k, .string nm, .slice an ns.length cn, .int .i64 ck, .int .i64 ci, .string cs, .slice ad cl.length cd, .slice none 0 0] 28)
    exact ⟨HST.out.at (hb.block _ HLT.out.1) (fun b e => hb.block _ (HLT.out.2.2 b e).2) fun b h1 h2 => ⟨hb.block b h2, h1, by omega, fun e => by cases e⟩, LfFr.of_below HLT.out.2.1 hb, OutE.nil _ _ _, (fun b e => by cases e), blk_skip' z0, blk_skip' z1, z2, HLT.out.1, HLT.out.2.1, fun b e => .inl (HLT.out.2.2 b e).2, fun b hb => ⟨(HSL.out b hb).1, (HSL.out b hb).2.1⟩⟩)
  go_enter Try.func38, Try.ntmps38
  go_upto_region 3 with fail
  generalize ((w.alloc (.cells #[.int .i64 k, .string nm, .slice an ns.length cn, .int .i64 ck, .int .i64 ci, .string cs, .slice ad cl.length cd, .slice ak l.length c] 28)).alloc (.cells #[.int .i64 0, .string ⟨#[]⟩, .slice none 0 0, .int .i64 0, .int .i64 0, .string ⟨#[]⟩, .slice none 0 0, .slice none 0 0] 28)).alloc (.cells #[.int .i64 k, .string nm, .slice an ns.length cn, .int .i64 ck, .int .i64 ci, .string cs, .slice ad cl.length cd, .slice none 0 0] 28) = w0 at *
  have x7 : w0.cell? ⟨w.heap.size, 7, none⟩ = some (.slice ak l.length c) := by rw [Lib.cell_of_heap HRD0.out.eb]; rfl
  go_wp2
  go_loopw [13] (fun ix wr => ∃ (j : Nat) (vK v' : Value), j ≤ l.length ∧ ix = .int .i64 j ∧ LvSt C lb P S w v wr (liftsT fs (l.take j)).2 v' (liftsT fs (l.take j)).1 vK (.cells #[.int .i64 k, .string nm, .slice an ns.length cn, .int .i64 ck, .int .i64 ci, .string cs, .slice ad cl.length cd, .slice ak l.length c] 28) (.cells #[.int .i64 k, .string nm, .slice an ns.length cn, .int .i64 ck, .int .i64 ci, .string cs, .slice ad cl.length cd, vK] 28)) (fun ix _ => l.length - (intOf ix).toNat)
  case atStart => exact ⟨0, _, v, Nat.zero_le _, rfl, by rw [List.take_zero, liftsT]; exact HRD0.out⟩
  case round =>
    obtain ⟨j, vK, v', hj, rfl, hrd⟩ := hrel
    have HRD := Lib.hid hrd
    clear x7
    by_cases hlt : j < l.length
    · have hk1 : InK wr S l (.slice ak l.length c) := HI.out.2.2.move (fun _ h _ => h) fun b o y hb hc => by
        rw [World.cell?_of_block (w := w) (a := ⟨b, o, none⟩) (HRD.out.offS b hb).2.2]; exact hc
      obtain ⟨b, o, c', ea, _, _, hS1, hE1⟩ := hk1.item j hlt
      cases ea
      have HTS := Lib.hid (liftsT_take (fs := fs) hlt)
      have hlen : (liftsT fs (l.take j)).1.length ≤ 100000 := by rw [liftsT_len, List.length_take]; omega
      have HTL : Hid ((liftsT fs (l.take j)).1.length = j) := Lib.hid (by rw [liftsT_len, List.length_take]; omega)
      have HBD : Hid ((liftsT fs (l.take j)).2.length + sizeE l[j] ≤ 60000 ∧ sizeE l[j] ≤ 40000) := Lib.hid (by
        have h1 := liftsT_count fs (l.take j)
        have h2 := lamssT_le (l.take j)
        have h3 : sizeEs (l.take (j + 1)) = sizeEs (l.take j) + sizeE l[j] := by rw [List.take_succ_eq_append_getElem hlt, sizeEs_snoc]
        have h4 := sizeEs_take l (j + 1)
        omega)
      have IT := Lib.hid (IH.out l[j] (List.getElem_mem hlt))
      have OT := Lib.hid (HOK.out l[j] (List.getElem_mem hlt))
      generalize l[j] = t at hE1 IT OT HTS HBD
      obtain ⟨tk, tn, tns, ⟨tck, tci, tcs, tcl⟩, tl⟩ := t
      obtain ⟨tvn, tvd, tvk, hF1, a0, a1, a2, a3, a4, a5, a6, a7⟩ := hE1.cells
      have hbb := World.block_lt_of_cell? _ _ a0
      have HF1 := Lib.hid hF1
      unfold InF at hF1
      obtain ⟨⟨_, _, hn1⟩, ⟨_, _, _, hd1⟩, hk1⟩ := hF1
      obtain ⟨n1, n2, en, -⟩ := hn1
      obtain ⟨d1, d2, ed, -⟩ := hd1
      obtain ⟨k1, k2, ek, -⟩ := hk1
      subst en ed ek
      obtain ⟨aT, cT, rfl, hown⟩ := hrd.row.slice
      have HOWN := Lib.hid hown
      have h3 := hrd.size
      clear hrd hown hE1
      generalize (liftsT fs (l.take j)).1 = lt at *
      generalize (liftsT fs (l.take j)).2 = fj at *
      have KC : Hid (∀ W, Below wr.heap.size wr W → Calls Try.prog 21 #[.pointer (some ⟨lb, 0, none⟩), .agg #[.int .i64 tk, .string tn, .slice n1 tns.length n2, .int .i64 tck, .int .i64 tci, .string tcs, .slice d1 tcl.length d2, .slice k1 tl.length k2]] W fun e w' => LiftedIs C lb (fun b => P b ∧ ¬ (w.heap.size ≤ b ∧ b < w.heap.size + 3) ∧ some b ≠ (Value.slice aT lt.length cT).ownBlock) S fj v' W (.mk tk tn tns (.mk tck tci tcs tcl) tl) e w') := Lib.hid fun W hb =>
        IT.out W C lb (fun b => P b ∧ ¬ (w.heap.size ≤ b ∧ b < w.heap.size + 3) ∧ some b ≠ (Value.slice aT lt.length cT).ownBlock) S fj v' _ _ _ (HF1.out.below hb) OT.out (fun b hb2 => by
          obtain ⟨g1, g2, _⟩ := HRD.out.offS b hb2
          obtain ⟨g3, _, g4⟩ := HSL.out b hb2
          exact ⟨Nat.lt_of_lt_of_le g1 hb.size, g2, g4, by omega, fun e => by have := (HOWN.out b e.symm).1; omega⟩) (HRD.out.st.below hb) (fun b hb2 => by
          have g1 := hb.size
          exact ⟨HPN.out b (by omega), by omega, fun e => by have := (HOWN.out b e.symm).2; omega⟩) HBD.out.1 HBD.out.2
      clear IT HF1
      go_upto_region 6 with fail
      have HZK := Lib.hid (heap_alloc_new wr (.cells #[.int .i64 tk, .string tn, .slice n1 tns.length n2, .int .i64 tck, .int .i64 tci, .string tcs, .slice d1 tcl.length d2, .slice k1 tl.length k2] 28))
      have HB1 := Lib.hid ((Below.refl wr.heap.size wr).alloc (Nat.le_refl _) (.cells #[.int .i64 tk, .string tn, .slice n1 tns.length n2, .int .i64 tck, .int .i64 tci, .string tcs, .slice d1 tcl.length d2, .slice k1 tl.length k2] 28))
      have hs1 := size_new wr (.cells #[.int .i64 tk, .string tn, .slice n1 tns.length n2, .int .i64 tck, .int .i64 tci, .string tcs, .slice d1 tcl.length d2, .slice k1 tl.length k2] 28)
      generalize wr.alloc (.cells #[.int .i64 tk, .string tn, .slice n1 tns.length n2, .int .i64 tck, .int .i64 tci, .string tcs, .slice d1 tcl.length d2, .slice k1 tl.length k2] 28) = w1 at *
      have HB1d := Lib.hid (HB1.out.drew)
      have hzk : w1.drew.heap[wr.heap.size]? = some (.cells #[.int .i64 tk, .string tn, .slice n1 tns.length n2, .int .i64 tck, .int .i64 tci, .string tcs, .slice d1 tcl.length d2, .slice k1 tl.length k2] 28) := HZK.out
      have HRD1 := Lib.hid (HRD.out.below HB1d.out)
      obtain ⟨y0, y1, y2, y3, y4, y5, y6, y7⟩ := look8n hzk
      have q7 : w1.drew.cell? ⟨w.heap.size + 1 + 1, 7, none⟩ = some (.slice aT lt.length cT) := by rw [Lib.cell_of_heap HRD1.out.qb]; rfl
      have HS1 : Hid (w.heap.size + 3 ≤ w1.drew.heap.size ∧ wr.heap.size + 1 = w1.drew.heap.size) := Lib.hid ⟨by show _ ≤ w1.heap.size; omega, hs1.symm⟩
      have HK1 := Lib.hid (KC.out _ HB1d.out)
      clear hzk hs1 a0 a1 a2 a3 a4 a5 a6 a7 hbb KC
      go_region_law (first
        | (go_simp; go_at_call 21; go_must (refine HK1.out.mono ?_); rintro e w6 ⟨rk, rn, rns, rck, rci, rcs, rcl, rl, rvn, rvd, rvk, v6, rfl, hr6, hf6, hst6, hfr6⟩; go_must (have HR6 := Lib.hid hr6); go_must (have HRD6 := Lib.hid (HRD1.out.call hst6 hfr6)); go_must (have q76 : w6.cell? ⟨w.heap.size + 1 + 1, 7, none⟩ = some (.slice aT lt.length cT) := (by rw [Lib.cell_of_heap HRD6.out.qb]; rfl)); go_must (have HB7 := Lib.hid ((Below.refl w6.heap.size w6).alloc (Nat.le_refl _) (.cells #[.int .i64 rk, .string rn, rvn, .int .i64 rck, .int .i64 rci, .string rcs, rvd, rvk] 28))); go_must (have HRD7 := Lib.hid (HRD6.out.below HB7.out)); go_must (have q77 : (w6.alloc (.cells #[.int .i64 rk, .string rn, rvn, .int .i64 rck, .int .i64 rci, .string rcs, rvd, rvk] 28)).cell? ⟨w.heap.size + 1 + 1, 7, none⟩ = some (.slice aT lt.length cT) := (by rw [Lib.cell_of_heap HRD7.out.qb]; rfl)); go_must (have HF7 : Hid (InF (w6.alloc (.cells #[.int .i64 rk, .string rn, rvn, .int .i64 rck, .int .i64 rci, .string rcs, rvd, rvk] 28)) (fun b => ((S b ∨ w.heap.size + 3 ≤ b) ∧ Off lb v6 b) ∧ some b ≠ (Value.slice aT lt.length cT).ownBlock) (.mk rk rn rns (.mk rck rci rcs rcl) rl) rvn rvd rvk) := Lib.hid ((hf6.move (fun b hb _ => ⟨⟨hb.1.imp id (fun g => Nat.le_trans HS1.out.1 g), hb.2⟩, fun e => by have g1 := HOWN.out b e.symm; have g2 := HS1.out; rcases hb.1 with g | g; (have := (HSL.out b g).1; omega); omega⟩) (fun _ _ _ _ hc => hc)).below HB7.out)); go_must (have HZ7 : Hid (w.heap.size + 3 ≤ (w6.alloc (.cells #[.int .i64 rk, .string rn, rvn, .int .i64 rck, .int .i64 rci, .string rcs, rvd, rvk] 28)).heap.size) := Lib.hid HRD7.out.size); clear hf6 hst6 hfr6 hr6)
        | (refine step_append_e rfl _ _ rfl (w.heap.size + 3) (fun b => (S b ∨ w.heap.size + 3 ≤ b) ∧ Off lb v6 b) lt (.slice aT lt.length cT) rfl HRD7.out.row w6.heap.size rk rn rns rck rci rcs rcl rl rvn rvd rvk rfl (heap_alloc_new w6 _) HF7.out hlen HZ7.out ?_; intro g cap w7 h7 hg7 hat7; go_must (have HRD8 := Lib.hid (HRD7.out.grow hg7 hat7 h7)); go_must (have q78 : w7.cell? ⟨w.heap.size + 1 + 1, 7, none⟩ = some (.slice aT lt.length cT) := (by rw [Lib.cell_of_heap HRD8.out.qb]; rfl)); go_must (have f78 : w7.frozen? ⟨w.heap.size + 1 + 1, 7, none⟩ = false := Lib.frozen_of_heap HRD8.out.qb 7); clear h7 hg7 hat7))
      all_goals
        go_wp2
        go_roundw
        case rel => exact ⟨j + 1, _, v6, by omega, by go_num, by rw [HTS.out, HR6.out]; exact HRD8.out.put 7 _⟩
        case measure => simp [intOf]; omega
    · obtain rfl : j = l.length := by omega
      rw [List.take_length] at hrd
      clear HRD
      have HRD := Lib.hid hrd
      obtain ⟨aT, cT, rfl, hown⟩ := hrd.row.slice
      have HL9 : Hid ((liftsT fs l).1.length = l.length) := Lib.hid (liftsT_len l fs)
      rw [HL9.out] at HRD hown
      have HOWN := Lib.hid hown
      clear hrd hown
      obtain ⟨y0, y1, y2, y3, y4, y5, y6, y7⟩ := look8n (show wr.heap[w.heap.size + 1 + 1]? = _ from HRD.out.qb)
      obtain ⟨z0, z1, z2, z3, z4, z5, z6, z7⟩ := look8n HRD.out.zb
      obtain ⟨f0, f1, f2, f3, f4, f5, f6, f7⟩ := free8n HRD.out.zb
      have HZ9 := Lib.hid (bput8 (v0 := .int .i64 k) (v1 := .string nm) (v2 := .slice an ns.length cn) (v3 := .int .i64 ck) (v4 := .int .i64 ci) (v5 := .string cs) (v6 := .slice ad cl.length cd) (v7 := .slice aT l.length cT) HRD.out.zb)
      have HX9 := Lib.hid (HRD.out.fin (bbel8 HRD.out.fr.1 (show C ≤ w.heap.size + 1 by have := HLT.out.2.1; omega) (.int .i64 k) (.string nm) (.slice an ns.length cn) (.int .i64 ck) (.int .i64 ci) (.string cs) (.slice ad cl.length cd) (.slice aT l.length cT)) (fun b (hb : b ≠ w.heap.size + 1) => bput8_other (W := wr) hb (.int .i64 k) (.string nm) (.slice an ns.length cn) (.int .i64 ck) (.int .i64 ci) (.string cs) (.slice ad cl.length cd) (.slice aT l.length cT)))
      clear HRD HOWN
      go_wp2
      exact bodyPost_ret (results_cell_row (P := Try.prog) rfl _ _ (w.heap.size + 1) 28 _ (0, 0) _ rfl HZ9.out Try.underlying28 rfl (by kernel_rfl)) rfl ⟨_, _, rfl, HX9.out⟩
end Go.Proofs.Ytkjgdnfkpebejaa.Core
