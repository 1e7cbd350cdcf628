/-
The law's shaped, of two expressions that are the same but for names: it says so. No condition.
-/
import Derived.Test.YteeeicacjngioaaGreatDoorK43
import Derived.Test.YteeeicacjngioaaGreatDoorK6
import Derived.StillTailTactics
namespace Go.Proofs.YteeeicacjngioaaGreatDoor.Core
open Go.ChangeShapes Go.WideShapes Go.ChangeAt Go.RowKit Go.Deep
open Dat (PT ok64 RepV RepS sameB)

def ShapedOk (t : PE) : Prop := ∀ (u : PE) (w : World) (S T : Nat → Prop) (vn vd vk un ud uk : Value), InF w S t vn vd vk → InF w T u un ud uk → ShapeE t u →
  Calls Tryz.prog 16 #[t.val vn vd vk, u.val un ud uk] w fun e w' => e = .returned (.bool true) ∧ Below w.heap.size w w'
theorem ShapeEs.get : ∀ {l l' : List PE}, ShapeEs l l' → ∀ (j : Nat) (h1 : j < l.length) (h2 : j < l'.length), ShapeE l[j] l'[j]
  | t :: l, l', h, 0, _, _ => by
    rw [ShapeEs] at h
    obtain ⟨t', l1, rfl, h1, _⟩ := h
    exact h1
  | t :: l, l', h, j + 1, h1, h2 => by
    rw [ShapeEs] at h
    obtain ⟨t', l1, rfl, _, h3⟩ := h
    exact ShapeEs.get h3 j (by simpa using h1) (by simpa using h2)
set_option maxRecDepth 100000 in
set_option maxHeartbeats 1000000 in
theorem shaped_seven (k : Int) (nm : ByteArray) (ns _ : List ByteArray) (ck ci : Int) (cs : ByteArray) (cl : List PT) (l m : List PE) (ih : ∀ t ∈ l, ShapedOk t) (w : World) (S T : Nat → Prop) (an an' ad ad' ak ak' : Option Addr) (cn cn' cd cd' cap cap' : Nat)
    (hd : RepV w w.heap.size (.mk ck ci cs cl) (.slice ad cl.length cd)) (hd' : RepV w w.heap.size (.mk ck ci cs cl) (.slice ad' cl.length cd')) (hk : InK w S l (.slice ak l.length cap)) (hk' : InK w T m (.slice ak' l.length cap')) (hlm : m.length = l.length) (hsh : ShapeEs l m) (_ : l.length ≤ cap) (_ : l.length ≤ cap') (_hm : cap ≤ maxLen) (hm' : cap' ≤ maxLen) (hk7 : k = 7) :
    Calls Tryz.prog 16 #[.agg #[.int .i64 k, .string nm, .slice an ns.length cn, .int .i64 ck, .int .i64 ci, .string cs, .slice ad cl.length cd, .slice ak l.length cap], .agg #[.int .i64 k, .string nm, .slice an' ns.length cn', .int .i64 ck, .int .i64 ci, .string cs, .slice ad' cl.length cd', .slice ak' l.length cap']] w fun e w' => e = .returned (.bool true) ∧ Below w.heap.size w w' := by
  have HSD := Lib.hid (fun W (hW : Below w.heap.size w W) => Dat.same_any (.mk ck ci cs cl) (.mk ck ci cs cl) W w.heap.size (.slice ad cl.length cd) (.slice ad' cl.length cd') (hd.below hW (Nat.le_refl _)) (hd'.below hW (Nat.le_refl _)) hW.size)
  rw [show sameB (.mk ck ci cs cl) (.mk ck ci cs cl) = true by simp [sameB]] at HSD
  unfold Dat.PT.val at HSD
  have HK := Lib.hid hk
  have HK' := Lib.hid hk'
  have IH := Lib.hid ih
  have HSH := Lib.hid hsh
  have HLM := Lib.hid hlm
  obtain ⟨z0, z1, zb⟩ := two_new w (.cells #[.int .i64 k, .string nm, .slice an ns.length cn, .int .i64 ck, .int .i64 ci, .string cs, .slice ad cl.length cd, .slice ak l.length cap] 28) (.cells #[.int .i64 k, .string nm, .slice an' ns.length cn', .int .i64 ck, .int .i64 ci, .string cs, .slice ad' cl.length cd', .slice ak' l.length cap'] 28)
  have Z0 := Lib.hid z0
  have Z1 := Lib.hid z1
  have ZB := Lib.hid zb
  unfold maxLen at _hm hm'
  clear ih hk hk' hsh hd hd' z0 z1 zb hlm
  subst hk7
  have hne : (nm.toList == nm.toList) = true := text_eq rfl
  go_enter Tryz.func16, Tryz.ntmps16
  go_wp2_with fail
  refine (HSD.out _ ZB.out).mono ?_
  rintro e w2 ⟨rfl, hb2⟩
  have HB2 := Lib.hid (ZB.out.trans (hb2.mono ZB.out.size))
  have q0 := (hb2.block w.heap.size (lt_of_block Z0.out)).trans Z0.out
  have q1 := (hb2.block (w.heap.size + 1) (lt_of_block Z1.out)).trans Z1.out
  have c0 : w2.cell? ⟨w.heap.size, 0, none⟩ = some (.int .i64 7) := by rw [Lib.cell_of_heap q0]; rfl
  have c1 : w2.cell? ⟨w.heap.size, 1, none⟩ = some (.string nm) := by rw [Lib.cell_of_heap q0]; rfl
  have d1 : w2.cell? ⟨w.heap.size + 1, 1, none⟩ = some (.string nm) := by rw [Lib.cell_of_heap q1]; rfl
  have c7 : w2.cell? ⟨w.heap.size, 7, none⟩ = some (.slice ak l.length cap) := by rw [Lib.cell_of_heap q0]; rfl
  have d7 : w2.cell? ⟨w.heap.size + 1, 7, none⟩ = some (.slice ak' l.length cap') := by rw [Lib.cell_of_heap q1]; rfl
  have R7 := Lib.hid c7
  have S7 := Lib.hid d7
  clear hb2 q0 q1
  go_wp2
  go_loopw [5] (fun ix wr => ∃ j : Nat, j ≤ l.length ∧ ix = .int .i64 j ∧ Below w2.heap.size w2 wr) (fun i _ => l.length - (intOf i).toNat)
  case atStart => exact ⟨0, Nat.zero_le _, rfl, Below.refl _ _⟩
  case round =>
    obtain ⟨j, hj, rfl, hbr⟩ := hrel
    have x7 := cell_below hbr R7.out
    have y7 := cell_below hbr S7.out
    have HBR := Lib.hid (HB2.out.trans (hbr.mono HB2.out.size))
    have HB2R := Lib.hid hbr
    by_cases hlt : j < l.length
    · have hltm : j < m.length := by rw [HLM.out]; exact hlt
      obtain ⟨b, o, c, ea, _, _, hS1, hE1⟩ := (HK.out.below HBR.out).item j hlt
      obtain ⟨b', o', c', ea', _, _, hS2, hE2⟩ := (HK'.out.below HBR.out).item j hltm
      cases ea
      rw [HLM.out] at ea'
      cases ea'
      have hIHj := IH.out l[j] (List.getElem_mem hlt)
      have hshj := HSH.out.get j hlt hltm
      clear hbr
      generalize l[j] = t at hE1 hIHj hshj
      generalize m[j] = u at hE2 hshj
      obtain ⟨tk, tn, tns, ⟨tck, tci, tcs, tcl⟩, tl⟩ := t
      obtain ⟨uk, un, uns, ⟨uck, uci, ucs, ucl⟩, ul⟩ := u
      obtain ⟨tvn, tvd, tvk, hF1, a0, a1, a2, a3, a4, a5, a6, a7⟩ := hE1.cells
      obtain ⟨uvn, uvd, uvk, hF2, b0, b1, b2, b3, b4, b5, b6, b7⟩ := hE2.cells
      have KS := Lib.hid (hIHj (.mk uk un uns (.mk uck uci ucs ucl) ul) wr.drew S T tvn tvd tvk uvn uvd uvk (hF1.move (w' := wr.drew) (fun _ h _ => h) fun _ _ _ _ h => h) (hF2.move (w' := wr.drew) (fun _ h _ => h) fun _ _ _ _ h => h) hshj)
      have hbb := World.block_lt_of_cell? _ _ a0
      have hbb' := World.block_lt_of_cell? _ _ b0
      obtain ⟨⟨_, _, hn1⟩, ⟨_, _, _, hd1⟩, hk1⟩ := hF1
      obtain ⟨⟨_, _, hn2⟩, ⟨_, _, _, hd2⟩, hk2⟩ := hF2
      obtain ⟨_, _, rfl, -⟩ := hn1
      obtain ⟨_, _, rfl, -⟩ := hd1
      obtain ⟨_, _, rfl, -⟩ := hk1
      obtain ⟨_, _, rfl, -⟩ := hn2
      obtain ⟨_, _, rfl, -⟩ := hd2
      obtain ⟨_, _, rfl, -⟩ := hk2
      unfold PE.val at KS
      have HBD := Lib.hid HBR.out.drew
      have HB2D := Lib.hid HB2R.out.drew
      clear hE1 hE2 hIHj hshj
      go_wp2
      go_still_tail 10, (by kernel_rfl)
      change wpList _ _ _ _ _ wr.drew
      clear a0 a1 a2 a3 a4 a5 a6 a7 b0 b1 b2 b3 b4 b5 b6 b7 x7 y7 hbb hbb'
      generalize wr.drew = w3 at KS HBD HB2D ⊢
      go_wp2_with fail
      refine KS.out.mono ?_
      rintro e w4 ⟨rfl, hb4⟩
      have HB4 := Lib.hid (HB2D.out.trans (hb4.mono HB2D.out.size))
      clear hb4
      go_wp2
      go_roundw
      case rel => exact ⟨j + 1, by omega, by go_num, HB4.out⟩
      case measure => simp [intOf]; omega
    · obtain rfl : j = l.length := by omega
      clear hbr
      go_wp2
      go_ret
      exact ⟨rfl, HBR.out⟩
set_option maxRecDepth 100000 in
set_option maxHeartbeats 1000000 in
theorem shaped_other (k : Int) (nm nm' : ByteArray) (ns _ : List ByteArray) (ck ci : Int) (cs : ByteArray) (cl : List PT) (l m : List PE) (ih : ∀ t ∈ l, ShapedOk t) (w : World) (S T : Nat → Prop) (an an' ad ad' ak ak' : Option Addr) (cn cn' cd cd' cap cap' : Nat)
    (hd : RepV w w.heap.size (.mk ck ci cs cl) (.slice ad cl.length cd)) (hd' : RepV w w.heap.size (.mk ck ci cs cl) (.slice ad' cl.length cd')) (hk : InK w S l (.slice ak l.length cap)) (hk' : InK w T m (.slice ak' l.length cap')) (hlm : m.length = l.length) (hsh : ShapeEs l m) (_ : l.length ≤ cap) (_ : l.length ≤ cap') (_hm : cap ≤ maxLen) (hm' : cap' ≤ maxLen) (hk7 : ¬ k = 7) :
    Calls Tryz.prog 16 #[.agg #[.int .i64 k, .string nm, .slice an ns.length cn, .int .i64 ck, .int .i64 ci, .string cs, .slice ad cl.length cd, .slice ak l.length cap], .agg #[.int .i64 k, .string nm', .slice an' ns.length cn', .int .i64 ck, .int .i64 ci, .string cs, .slice ad' cl.length cd', .slice ak' l.length cap']] w fun e w' => e = .returned (.bool true) ∧ Below w.heap.size w w' := by
  have HSD := Lib.hid (fun W (hW : Below w.heap.size w W) => Dat.same_any (.mk ck ci cs cl) (.mk ck ci cs cl) W w.heap.size (.slice ad cl.length cd) (.slice ad' cl.length cd') (hd.below hW (Nat.le_refl _)) (hd'.below hW (Nat.le_refl _)) hW.size)
  rw [show sameB (.mk ck ci cs cl) (.mk ck ci cs cl) = true by simp [sameB]] at HSD
  unfold Dat.PT.val at HSD
  have HK := Lib.hid hk
  have HK' := Lib.hid hk'
  have IH := Lib.hid ih
  have HSH := Lib.hid hsh
  have HLM := Lib.hid hlm
  obtain ⟨z0, z1, zb⟩ := two_new w (.cells #[.int .i64 k, .string nm, .slice an ns.length cn, .int .i64 ck, .int .i64 ci, .string cs, .slice ad cl.length cd, .slice ak l.length cap] 28) (.cells #[.int .i64 k, .string nm', .slice an' ns.length cn', .int .i64 ck, .int .i64 ci, .string cs, .slice ad' cl.length cd', .slice ak' l.length cap'] 28)
  have Z0 := Lib.hid z0
  have Z1 := Lib.hid z1
  have ZB := Lib.hid zb
  unfold maxLen at _hm hm'
  clear ih hk hk' hsh hd hd' z0 z1 zb hlm
  have hq7 : (k == 7) = false := by simpa using hk7
  go_enter Tryz.func16, Tryz.ntmps16
  go_wp2_with fail
  refine (HSD.out _ ZB.out).mono ?_
  rintro e w2 ⟨rfl, hb2⟩
  have HB2 := Lib.hid (ZB.out.trans (hb2.mono ZB.out.size))
  have q0 := (hb2.block w.heap.size (lt_of_block Z0.out)).trans Z0.out
  have q1 := (hb2.block (w.heap.size + 1) (lt_of_block Z1.out)).trans Z1.out
  have c0 : w2.cell? ⟨w.heap.size, 0, none⟩ = some (.int .i64 k) := by rw [Lib.cell_of_heap q0]; rfl
  have c1 : w2.cell? ⟨w.heap.size, 1, none⟩ = some (.string nm) := by rw [Lib.cell_of_heap q0]; rfl
  have d1 : w2.cell? ⟨w.heap.size + 1, 1, none⟩ = some (.string nm') := by rw [Lib.cell_of_heap q1]; rfl
  have c7 : w2.cell? ⟨w.heap.size, 7, none⟩ = some (.slice ak l.length cap) := by rw [Lib.cell_of_heap q0]; rfl
  have d7 : w2.cell? ⟨w.heap.size + 1, 7, none⟩ = some (.slice ak' l.length cap') := by rw [Lib.cell_of_heap q1]; rfl
  have R7 := Lib.hid c7
  have S7 := Lib.hid d7
  clear hb2 q0 q1
  go_wp2
  go_loopw [5] (fun ix wr => ∃ j : Nat, j ≤ l.length ∧ ix = .int .i64 j ∧ Below w2.heap.size w2 wr) (fun i _ => l.length - (intOf i).toNat)
  case atStart => exact ⟨0, Nat.zero_le _, rfl, Below.refl _ _⟩
  case round =>
    obtain ⟨j, hj, rfl, hbr⟩ := hrel
    have x7 := cell_below hbr R7.out
    have y7 := cell_below hbr S7.out
    have HBR := Lib.hid (HB2.out.trans (hbr.mono HB2.out.size))
    have HB2R := Lib.hid hbr
    by_cases hlt : j < l.length
    · have hltm : j < m.length := by rw [HLM.out]; exact hlt
      obtain ⟨b, o, c, ea, _, _, hS1, hE1⟩ := (HK.out.below HBR.out).item j hlt
      obtain ⟨b', o', c', ea', _, _, hS2, hE2⟩ := (HK'.out.below HBR.out).item j hltm
      cases ea
      rw [HLM.out] at ea'
      cases ea'
      have hIHj := IH.out l[j] (List.getElem_mem hlt)
      have hshj := HSH.out.get j hlt hltm
      clear hbr
      generalize l[j] = t at hE1 hIHj hshj
      generalize m[j] = u at hE2 hshj
      obtain ⟨tk, tn, tns, ⟨tck, tci, tcs, tcl⟩, tl⟩ := t
      obtain ⟨uk, un, uns, ⟨uck, uci, ucs, ucl⟩, ul⟩ := u
      obtain ⟨tvn, tvd, tvk, hF1, a0, a1, a2, a3, a4, a5, a6, a7⟩ := hE1.cells
      obtain ⟨uvn, uvd, uvk, hF2, b0, b1, b2, b3, b4, b5, b6, b7⟩ := hE2.cells
      have KS := Lib.hid (hIHj (.mk uk un uns (.mk uck uci ucs ucl) ul) wr.drew S T tvn tvd tvk uvn uvd uvk (hF1.move (w' := wr.drew) (fun _ h _ => h) fun _ _ _ _ h => h) (hF2.move (w' := wr.drew) (fun _ h _ => h) fun _ _ _ _ h => h) hshj)
      have hbb := World.block_lt_of_cell? _ _ a0
      have hbb' := World.block_lt_of_cell? _ _ b0
      obtain ⟨⟨_, _, hn1⟩, ⟨_, _, _, hd1⟩, hk1⟩ := hF1
      obtain ⟨⟨_, _, hn2⟩, ⟨_, _, _, hd2⟩, hk2⟩ := hF2
      obtain ⟨_, _, rfl, -⟩ := hn1
      obtain ⟨_, _, rfl, -⟩ := hd1
      obtain ⟨_, _, rfl, -⟩ := hk1
      obtain ⟨_, _, rfl, -⟩ := hn2
      obtain ⟨_, _, rfl, -⟩ := hd2
      obtain ⟨_, _, rfl, -⟩ := hk2
      unfold PE.val at KS
      have HBD := Lib.hid HBR.out.drew
      have HB2D := Lib.hid HB2R.out.drew
      clear hE1 hE2 hIHj hshj
      go_wp2
      go_still_tail 10, (by kernel_rfl)
      change wpList _ _ _ _ _ wr.drew
      clear a0 a1 a2 a3 a4 a5 a6 a7 b0 b1 b2 b3 b4 b5 b6 b7 x7 y7 hbb hbb'
      generalize wr.drew = w3 at KS HBD HB2D ⊢
      go_wp2_with fail
      refine KS.out.mono ?_
      rintro e w4 ⟨rfl, hb4⟩
      have HB4 := Lib.hid (HB2D.out.trans (hb4.mono HB2D.out.size))
      clear hb4
      go_wp2
      go_roundw
      case rel => exact ⟨j + 1, by omega, by go_num, HB4.out⟩
      case measure => simp [intOf]; omega
    · obtain rfl : j = l.length := by omega
      clear hbr
      go_wp2
      go_ret
      exact ⟨rfl, HBR.out⟩
theorem shaped_step (k : Int) (nm : ByteArray) (ns : List ByteArray) (ck ci : Int) (cs : ByteArray) (cl : List PT) (l : List PE) (ih : ∀ t ∈ l, ShapedOk t) : ShapedOk (.mk k nm ns (.mk ck ci cs cl) l) := by
  rintro u w S T vn vd vk un ud uk ⟨⟨ok1, ok2, hn⟩, ⟨ok3, ok4, ok5, hd⟩, hk⟩ h2 hsh
  rw [ShapeE] at hsh
  obtain ⟨nm', ns', m, rfl, hlen, h7, hsh⟩ := hsh
  obtain ⟨⟨ok1', ok2', hn'⟩, ⟨ok3', ok4', ok5', hd'⟩, hk'⟩ := h2
  have hlm := hsh.len
  have r1 : RepV w w.heap.size (.mk ck ci cs cl) vd := ⟨ok3, ok4, ok5, hd.rep⟩
  have r2 : RepV w w.heap.size (.mk ck ci cs cl) ud := ⟨ok3, ok4, ok5, hd'.rep⟩
  obtain ⟨an, cn, rfl, _⟩ := hn
  obtain ⟨an', cn', rfl, _⟩ := hn'
  obtain ⟨ad, cd, rfl, _⟩ := hd
  obtain ⟨ad', cd', rfl, _⟩ := hd'
  obtain ⟨ak, cap, rfl, hl, hm, _⟩ := id hk
  obtain ⟨ak', cap', rfl, hl', hm', _⟩ := id hk'
  show Calls Tryz.prog 16 #[.agg #[.int .i64 k, .string nm, .slice an ns.length cn, .int .i64 ck, .int .i64 ci, .string cs, .slice ad cl.length cd, .slice ak l.length cap], .agg #[.int .i64 k, .string nm', .slice an' ns'.length cn', .int .i64 ck, .int .i64 ci, .string cs, .slice ad' cl.length cd', .slice ak' m.length cap']] w _
  rw [← hlen, hlm]
  rw [hlm] at hk' hl'
  by_cases e7 : k = 7
  · obtain rfl := h7 e7
    exact shaped_seven k nm ns ns' ck ci cs cl l m ih w S T an an' ad ad' ak ak' cn cn' cd cd' cap cap' r1 r2 hk hk' hlm hsh hl hl' hm hm' e7
  · exact shaped_other k nm nm' ns ns' ck ci cs cl l m ih w S T an an' ad ad' ak ak' cn cn' cd cd' cap cap' r1 r2 hk hk' hlm hsh hl hl' hm hm' e7
mutual
theorem shaped_any : ∀ t : PE, ShapedOk t
  | .mk k nm ns (.mk ck ci cs cl) l => shaped_step k nm ns ck ci cs cl l (shaped_all l)
theorem shaped_all : ∀ l : List PE, ∀ t ∈ l, ShapedOk t
  | [], t, h => by cases h
  | u :: l, t, h => (List.mem_cons.1 h).elim (fun e => e ▸ shaped_any u) (fun h => shaped_all l t h)
end
end Go.Proofs.YteeeicacjngioaaGreatDoor.Core
