/-
An expression by pairs of names: the document's rename, for every expression that may be. No condition.
-/
import Derived.Test.YtgajendgephkaaaGreatDoorWKM
import Derived.Test.YtgajendgephkaaaGreatDoorWKA
import Derived.BigQuiet
import Derived.Deep.DeepCutAuto
namespace Go.Proofs.YtgajendgephkaaaGreatDoor.Core
open Go.ChangeShapes Go.WideShapes Go.ChangeAt Go.RowKit Go.Deep
open Dat (PT ok64 RowX)
set_option maxRecDepth 100000

/-- Eight cells of a block at once. -/
theorem look8q {W : World} {g : Nat} {x0 x1 x2 x3 x4 x5 x6 x7 : Value} {ty : TypeId} (hb : W.heap[g]? = some (.cells #[x0, x1, x2, x3, x4, x5, x6, x7] ty)) :
    W.cell? ⟨g, 0, none⟩ = some x0 ∧ W.cell? ⟨g, 1, none⟩ = some x1 ∧ W.cell? ⟨g, 2, none⟩ = some x2 ∧ W.cell? ⟨g, 3, none⟩ = some x3 ∧ W.cell? ⟨g, 4, none⟩ = some x4 ∧ W.cell? ⟨g, 5, none⟩ = some x5 ∧ W.cell? ⟨g, 6, none⟩ = some x6 ∧ W.cell? ⟨g, 7, none⟩ = some x7 := by
  refine ⟨?_, ?_, ?_, ?_, ?_, ?_, ?_, ?_⟩
  all_goals (rw [Lib.cell_of_heap hb]; rfl)
theorem free8q {W : World} {g : Nat} {x0 x1 x2 x3 x4 x5 x6 x7 : Value} {ty : TypeId} (hb : W.heap[g]? = some (.cells #[x0, x1, x2, x3, x4, x5, x6, x7] ty)) :
    W.frozen? ⟨g, 0, none⟩ = false ∧ W.frozen? ⟨g, 1, none⟩ = false ∧ W.frozen? ⟨g, 2, none⟩ = false ∧ W.frozen? ⟨g, 3, none⟩ = false ∧ W.frozen? ⟨g, 4, none⟩ = false ∧ W.frozen? ⟨g, 5, none⟩ = false ∧ W.frozen? ⟨g, 6, none⟩ = false ∧ W.frozen? ⟨g, 7, none⟩ = false :=
  ⟨Lib.frozen_of_heap hb 0, Lib.frozen_of_heap hb 1, Lib.frozen_of_heap hb 2, Lib.frozen_of_heap hb 3, Lib.frozen_of_heap hb 4, Lib.frozen_of_heap hb 5, Lib.frozen_of_heap hb 6, Lib.frozen_of_heap hb 7⟩
theorem sizeE_pos : ∀ t : PE, 1 ≤ sizeE t
  | .mk _ _ _ _ _ => by rw [sizeE]; omega
theorem len_sizeEs : ∀ l : List PE, l.length ≤ sizeEs l
  | [] => by simp
  | t :: l => by have := len_sizeEs l; have := sizeE_pos t; rw [sizeEs, List.length_cons]; omega
theorem kp_grown {w w' : World} {o : Option Nat} (h : w.grownBy w' o) : KP w o w' := ⟨⟨h.os, h.tape, h.output, h.size, fun _ hb => (Nat.not_lt_zero _ hb).elim⟩, fun b h1 h2 => h.block b h1 h2⟩
theorem renRs_snoc2 {U : List ByteArray} {e1 e2 : ByteArray → List Nat} {t t' : PE} {n2 : Nat} : ∀ {l l1 : List PE} {fr nx n1 : Nat}, RenRs U e1 e2 fr nx l l1 n1 → RenR U (if fr ≤ l.length then e2 else e1) n1 t t' n2 → RenRs U e1 e2 fr nx (l ++ [t]) (l1 ++ [t']) n2
  | [], l1, fr, nx, n1, h, g => by
    rw [RenRs] at h
    obtain ⟨rfl, rfl⟩ := h
    rw [List.nil_append, RenRs]
    exact ⟨t', n2, [], by simpa using g, by rw [RenRs]; exact ⟨rfl, rfl⟩, rfl⟩
  | u :: l, l1, fr, nx, n1, h, g => by
    rw [RenRs] at h
    obtain ⟨u', m1, l2, h1, h2, rfl⟩ := h
    rw [List.cons_append, RenRs]
    refine ⟨u', m1, l2 ++ [t'], h1, renRs_snoc2 h2 ?_, rfl⟩
    have e : (fr - 1 ≤ l.length) = (fr ≤ (u :: l).length) := by rw [List.length_cons]; exact propext (by omega)
    simp only [e]
    exact g
theorem binds_from {k : Int} {n j : Nat} (hj : j < n) : bindsB k n j = decide (fromT k n ≤ j) := by
  unfold bindsB fromT
  by_cases h5 : k = 5 ∨ k = 9 ∨ k = 10
  · rw [if_pos h5]
    rcases h5 with rfl | rfl | rfl <;> simp
  · rw [if_neg h5]
    have e5 : ¬ k = 5 := fun h => h5 (.inl h)
    have e9 : ¬ k = 9 := fun h => h5 (.inr (.inl h))
    have e10 : ¬ k = 10 := fun h => h5 (.inr (.inr h))
    by_cases h8 : k = 8
    · rw [if_pos h8, Bool.eq_iff_iff]
      simp [h8]
      omega
    · rw [if_neg h8, Bool.eq_iff_iff]
      simp [e5, e9, e10, h8]
      omega
/-- How things stand while rename goes on. -/
structure RD (w W : World) (EB OB : Obj) : Prop where
  bel : Below w.heap.size w W
  eb : W.heap[w.heap.size]? = some EB
  zb : W.heap[w.heap.size + 1]? = some (.cells #[.int .i64 0, .string ⟨#[]⟩, .slice none 0 0, .int .i64 0, .int .i64 0, .string ⟨#[]⟩, .slice none 0 0, .slice none 0 0] 28)
  qb : W.heap[w.heap.size + 2]? = some OB
theorem RD.call {w W W' : World} {EB OB : Obj} (h : RD w W EB OB) (hb : Below W.heap.size W W') : RD w W' EB OB :=
  ⟨h.bel.trans (hb.mono h.bel.size), (hb.block _ (lt_of_block h.eb)).trans h.eb, (hb.block _ (lt_of_block h.zb)).trans h.zb, (hb.block _ (lt_of_block h.qb)).trans h.qb⟩
theorem RD.kp {w W W' : World} {EB OB : Obj} {o : Option Nat} (h : RD w W EB OB) (hk : KP W o W') (ho : ∀ b, o = some b → w.heap.size + 3 ≤ b) : RD w W' EB OB :=
  ⟨h.bel.trans (hk.below h.bel.size (fun b e => by have := ho b e.symm; omega)), (hk.2 _ (lt_of_block h.eb) (fun e => by have := ho _ e.symm; omega)).trans h.eb, (hk.2 _ (lt_of_block h.zb) (fun e => by have := ho _ e.symm; omega)).trans h.zb, (hk.2 _ (lt_of_block h.qb) (fun e => by have := ho _ e.symm; omega)).trans h.qb⟩
theorem RD.put {w W : World} {EB : Obj} {cells : Array Value} {ty : TypeId} (h : RD w W EB (.cells cells ty)) (j : Nat) (v : Value) : RD w (W.setCell ⟨w.heap.size + 2, j, none⟩ v) EB (.cells (cells.setIfInBounds j v) ty) :=
  ⟨h.bel.setCell (p := ⟨w.heap.size + 2, j, none⟩) (by show w.heap.size ≤ w.heap.size + 2; omega) v, (Below.heap_setCell _ _ _ _ (by show w.heap.size ≠ w.heap.size + 2; omega)).trans h.eb, (Below.heap_setCell _ _ _ _ (by show w.heap.size + 1 ≠ w.heap.size + 2; omega)).trans h.zb, heap_setCell_same _ _ _ _ _ _ h.qb⟩
theorem OutT.below {w w' : World} {C : Nat} {l : List ByteArray} {v : Value} (h : OutT w C l v) (hb : Below w.heap.size w w') : OutT w' C l v := h.at fun b e => hb.block b (World.ownsRow.lt h b e).2
theorem OutP.below {w w' : World} {C : Nat} {l : List (ByteArray × ByteArray)} {v : Value} (h : OutP w C l v) (hb : Below w.heap.size w w') : OutP w' C l v := h.at fun b e => hb.block b (World.ownsRow.lt h b e).2
theorem OutT.kpo {w w' : World} {C : Nat} {l : List ByteArray} {v : Value} {o : Option Nat} (h : OutT w C l v) (hk : KP w o w') (hne : ∀ b, v.ownBlock = some b → o ≠ some b) : OutT w' C l v := h.at fun b e => hk.2 b (World.ownsRow.lt h b e).2 (fun e2 => hne b e e2.symm)
theorem OutP.kpo {w w' : World} {C : Nat} {l : List (ByteArray × ByteArray)} {v : Value} {o : Option Nat} (h : OutP w C l v) (hk : KP w o w') (hne : ∀ b, v.ownBlock = some b → o ≠ some b) : OutP w' C l v := h.at fun b e => hk.2 b (World.ownsRow.lt h b e).2 (fun e2 => hne b e e2.symm)
theorem OutT.putq {w : World} {C q j : Nat} {x : Value} {l : List ByteArray} {v : Value} (h : OutT w C l v) (hq : q < C) : OutT (w.setCell ⟨q, j, none⟩ x) C l v := h.at fun b e => Below.heap_setCell _ _ _ _ (by have := (World.ownsRow.lt h b e).1; show b ≠ q; omega)
theorem OutP.putq {w : World} {C q j : Nat} {x : Value} {l : List (ByteArray × ByteArray)} {v : Value} (h : OutP w C l v) (hq : q < C) : OutP (w.setCell ⟨q, j, none⟩ x) C l v := h.at fun b e => Below.heap_setCell _ _ _ _ (by have := (World.ownsRow.lt h b e).1; show b ≠ q; omega)
theorem outP_new {w : World} {C : Nat} (hC : C ≤ w.heap.size) : OutP (w.alloc (.cells #[] 85)) C [] (.slice (some ⟨w.heap.size, 0, none⟩) 0 0) :=
  ⟨rfl, .inr ⟨w.heap.size, 0, #[], rfl, hC, heap_alloc_new _ _, Nat.le_refl _, Nat.zero_le _, rfl, rfl⟩⟩
/-- What rename answers. -/
def RRenIs (U : List ByteArray) (env : ByteArray → List Nat) (n : Nat) (S : Nat → Prop) (t : PE) (w : World) (e : Ending) (w' : World) : Prop :=
  ∃ t' vn vd vk n', RenR U env n t t' n' ∧ e = .returned (.tuple #[t'.val vn vd vk, .int .i64 (n' : Int)]) ∧ InF w' (fun b => S b ∨ w.heap.size ≤ b) t' vn vd vk
def RRenOk (t : PE) : Prop := ∀ (w : World) (S : Nat → Prop) (vn vd vk va vu : Value) (U : List ByteArray) (ps : List (ByteArray × ByteArray)) (env : ByteArray → List Nat) (n : Nat), InF w S t vn vd vk → (∀ b, S b → b < w.heap.size) → InPs w (fun _ => True) ps va → InN w (fun _ => True) U vu → EnvP env ps → n + sizeE t + restN U n ≤ 100000000 → ps.length + sizeE t ≤ 90000 →
  Calls Tryz.prog 28 #[t.val vn vd vk, va, vu, .int .i64 (n : Int)] w fun e w' => RRenIs U env n S t w e w' ∧ Below w.heap.size w w'
set_option maxHeartbeats 8000000 in
theorem rren_step (k : Int) (nm : ByteArray) (ns : List ByteArray) (ck ci : Int) (cs : ByteArray) (cl : List PT) (l : List PE) (ih : ∀ t ∈ l, RRenOk t) : RRenOk (.mk k nm ns (.mk ck ci cs cl) l) := by
  intro w S vn vd vk va vu U ps env n h hS hps hU henv hn hsz
  rw [sizeE] at hn hsz
  have HI := Lib.hid h
  have HSL := Lib.hid hS
  have HPS := Lib.hid hps
  have HUU := Lib.hid hU
  have HENV := Lib.hid henv
  have HIH := Lib.hid ih
  have HNM := Lib.hid h.1.2.1
  obtain ⟨⟨-, -, an, cn, rfl, hln, hmn, -⟩, ⟨-, -, -, ad, cd, rfl, hld, hmd, -⟩, ak, c, rfl, hl, hm, -⟩ := h
  obtain ⟨pa, pc, rfl, hpl, hpm, -, hpr⟩ := hps
  obtain ⟨ua, uc, rfl, hul, hum, -⟩ := hU
  have HPR := Lib.hid hpr
  unfold maxLen at hmn hm hmd hpm hum
  show Calls Tryz.prog 28 #[.agg #[.int .i64 k, .string nm, .slice an ns.length cn, .int .i64 ck, .int .i64 ci, .string cs, .slice ad cl.length cd, .slice ak l.length c], .slice pa ps.length pc, .slice ua U.length uc, .int .i64 (n : Int)] w _
  have hRD0 : RD w (((w.alloc (.cells #[.int .i64 k, .string nm, .slice an ns.length cn, .int .i64 ck, .int .i64 ci, .string cs, .slice ad cl.length cd, .slice ak l.length c] 28)).alloc (.cells #[.int .i64 0, .string ⟨#[]⟩, .slice none 0 0, .int .i64 0, .int .i64 0, .string ⟨#[]⟩, .slice none 0 0, .slice none 0 0] 28)).alloc (.cells #[.int .i64 k, .string (nm), .slice none 0 0, .int .i64 ck, .int .i64 ci, .string cs, .slice ad cl.length cd, .slice none 0 0] 28)) (.cells #[.int .i64 k, .string nm, .slice an ns.length cn, .int .i64 ck, .int .i64 ci, .string cs, .slice ad cl.length cd, .slice ak l.length c] 28) (.cells #[.int .i64 k, .string (nm), .slice none 0 0, .int .i64 ck, .int .i64 ci, .string cs, .slice ad cl.length cd, .slice none 0 0] 28) := by
    obtain ⟨z0, z1, zb⟩ := two_new w (.cells #[.int .i64 k, .string nm, .slice an ns.length cn, .int .i64 ck, .int .i64 ci, .string cs, .slice ad cl.length cd, .slice ak l.length c] 28) (.cells #[.int .i64 0, .string ⟨#[]⟩, .slice none 0 0, .int .i64 0, .int .i64 0, .string ⟨#[]⟩, .slice none 0 0, .slice none 0 0] 28)
    have hs : ((w.alloc (.cells #[.int .i64 k, .string nm, .slice an ns.length cn, .int .i64 ck, .int .i64 ci, .string cs, .slice ad cl.length cd, .slice ak l.length c] 28)).alloc (.cells #[.int .i64 0, .string ⟨#[]⟩, .slice none 0 0, .int .i64 0, .int .i64 0, .string ⟨#[]⟩, .slice none 0 0, .slice none 0 0] 28)).heap.size = w.heap.size + 2 := by rw [size_new, size_new]
    have z2 := heap_alloc_new ((w.alloc (.cells #[.int .i64 k, .string nm, .slice an ns.length cn, .int .i64 ck, .int .i64 ci, .string cs, .slice ad cl.length cd, .slice ak l.length c] 28)).alloc (.cells #[.int .i64 0, .string ⟨#[]⟩, .slice none 0 0, .int .i64 0, .int .i64 0, .string ⟨#[]⟩, .slice none 0 0, .slice none 0 0] 28)) (.cells #[.int .i64 k, .string (nm), .slice none 0 0, .int .i64 ck, .int .i64 ci, .string cs, .slice ad cl.length cd, .slice none 0 0] 28)
    rw [hs] at z2
    exact ⟨bel_alloc' zb _, blk_skip' z0, blk_skip' z1, z2⟩
  have hs0 : (((w.alloc (.cells #[.int .i64 k, .string nm, .slice an ns.length cn, .int .i64 ck, .int .i64 ci, .string cs, .slice ad cl.length cd, .slice ak l.length c] 28)).alloc (.cells #[.int .i64 0, .string ⟨#[]⟩, .slice none 0 0, .int .i64 0, .int .i64 0, .string ⟨#[]⟩, .slice none 0 0, .slice none 0 0] 28)).alloc (.cells #[.int .i64 k, .string (nm), .slice none 0 0, .int .i64 ck, .int .i64 ci, .string cs, .slice ad cl.length cd, .slice none 0 0] 28)).heap.size = w.heap.size + 3 := by rw [size_new, size_new, size_new]
  generalize hw0 : ((w.alloc (.cells #[.int .i64 k, .string nm, .slice an ns.length cn, .int .i64 ck, .int .i64 ci, .string cs, .slice ad cl.length cd, .slice ak l.length c] 28)).alloc (.cells #[.int .i64 0, .string ⟨#[]⟩, .slice none 0 0, .int .i64 0, .int .i64 0, .string ⟨#[]⟩, .slice none 0 0, .slice none 0 0] 28)).alloc (.cells #[.int .i64 k, .string (nm), .slice none 0 0, .int .i64 ck, .int .i64 ci, .string cs, .slice ad cl.length cd, .slice none 0 0] 28) = w0 at *
  have HW0 := Lib.hid hw0
  have HRD0 := Lib.hid hRD0
  have HS0 := Lib.hid hs0
  clear hw0 hRD0 hs0 ih hS henv hpr
  go_enter Tryz.func28, Tryz.ntmps28
  go_upto_region 2 with fail
  rw [HW0.out]
  have x0 : w0.cell? ⟨w.heap.size, 0, none⟩ = some (.int .i64 k) := by rw [Lib.cell_of_heap HRD0.out.eb]; rfl
  go_cut [31] from 24 to 31 (fun v wx => v = .bool (decide (k = 1) || decide (k = 2)) ∧ wx = w0)
  case first =>
    by_cases h1 : k = 1
    · have hb : (k == 1) = true := by simpa using h1
      have H1 : Hid ((decide (k = 1) || decide (k = 2)) = true) := Lib.hid (by simp [h1])
      clear h1
      go_wp2
      go_meet
      exact ⟨by rw [H1.out], rfl⟩
    · have hb : (k == 1) = false := by simpa using h1
      by_cases h2 : k = 2
      · have hb2 : (k == 2) = true := by simpa using h2
        have H1 : Hid ((decide (k = 1) || decide (k = 2)) = true) := Lib.hid (by simp [h2])
        clear h1 h2
        go_wp2
        go_meet
        exact ⟨by rw [H1.out], rfl⟩
      · have hb2 : (k == 2) = false := by simpa using h2
        have H1 : Hid ((decide (k = 1) || decide (k = 2)) = false) := Lib.hid (by simp [h1, h2])
        clear h1 h2
        go_wp2
        go_meet
        exact ⟨by rw [H1.out], rfl⟩
  case rest =>
  obtain ⟨rfl, rfl⟩ := hcut
  go_upto_if 31 with fail
  go_cut [11] from 31 to 51 (fun _ wx => RD w wx (.cells #[.int .i64 k, .string nm, .slice an ns.length cn, .int .i64 ck, .int .i64 ci, .string cs, .slice ad cl.length cd, .slice ak l.length c] 28) (.cells #[.int .i64 k, .string (if k = 1 ∨ k = 2 then nowT env nm else nm), .slice none 0 0, .int .i64 ck, .int .i64 ci, .string cs, .slice ad cl.length cd, .slice none 0 0] 28) ∧ wx.heap.size = w.heap.size + 3)
  case first =>
    by_cases hv : k = 1 ∨ k = 2
    · have hvb : (decide (k = 1) || decide (k = 2)) = true := by simpa using hv
      rw [hvb]
      have HIF : Hid ((if k = 1 ∨ k = 2 then nowT env nm else nm) = lastT ps nm nm) := Lib.hid (by rw [if_pos hv]; exact HENV.out.1 nm)
      clear hv hvb
      go_wp2
      go_loopw [11] (fun i wr => ∃ j : Nat, j ≤ ps.length ∧ i = .int .i64 j ∧ RD w wr (.cells #[.int .i64 k, .string nm, .slice an ns.length cn, .int .i64 ck, .int .i64 ci, .string cs, .slice ad cl.length cd, .slice ak l.length c] 28) (.cells #[.int .i64 k, .string (lastT (ps.take j) nm nm), .slice none 0 0, .int .i64 ck, .int .i64 ci, .string cs, .slice ad cl.length cd, .slice none 0 0] 28) ∧ wr.heap.size = w.heap.size + 3) (fun i _ => ps.length - (intOf i).toNat)
      case atStart => exact ⟨0, Nat.zero_le _, rfl, HRD0.out, HS0.out⟩
      case round =>
        obtain ⟨j, hj, rfl, hrd, hsr⟩ := hrel
        have HRD := Lib.hid hrd
        have HSR := Lib.hid hsr
        by_cases hlt : j < ps.length
        · obtain ⟨pb, po, rfl, _, hpc⟩ := HPR.out.resolve_left (by rintro rfl; cases hlt)
          have hg := flatP_get ps j hlt
          have hbw := cell_below (hrd.bel) (hpc _ _ hg.1)
          have hbw2 := cell_below (hrd.bel) (hpc _ _ hg.2)
          have HST : Hid (lastT (ps.take (j + 1)) nm nm = if ps[j].1 = nm then ps[j].2 else lastT (ps.take j) nm nm) := Lib.hid (by
            unfold lastT
            rw [List.take_succ_eq_append_getElem hlt, List.foldl_append]
            rfl)
          have y0 : wr.cell? ⟨pb, po + j * 2, none⟩ = some (.string ps[j].1) := hbw
          have y1 : wr.cell? ⟨pb, po + j * 2 + 1, none⟩ = some (.string ps[j].2) := hbw2
          have e1 : wr.cell? ⟨w.heap.size, 1, none⟩ = some (.string nm) := by rw [Lib.cell_of_heap hrd.eb]; rfl
          have q1 : wr.cell? ⟨w.heap.size + 2, 1, none⟩ = some (.string (lastT (ps.take j) nm nm)) := by rw [Lib.cell_of_heap hrd.qb]; rfl
          have f1 : wr.frozen? ⟨w.heap.size + 2, 1, none⟩ = false := Lib.frozen_of_heap hrd.qb 1
          clear hrd hsr hg hbw hbw2 hpc
          generalize ps[j] = p at *
          generalize lastT (ps.take j) nm nm = acc at *
          by_cases he : p.1 = nm
          · have hb := text_eq he
            have HST2 := Lib.hid (HST.out.trans (if_pos he))
            clear he HST
            go_wp2
            go_quiet (fail)
            go_wp2
            go_roundw
            case rel => exact ⟨j + 1, by omega, by go_num, by rw [HST2.out]; exact ((HRD.out.call (Dat.below_drewN (Below.refl _ _) _))).put 1 _, by simpa using HSR.out⟩
            case measure => simp [intOf]; omega
          · have hb := text_ne he
            have HST2 := Lib.hid (HST.out.trans (if_neg he))
            clear he HST
            go_wp2
            go_quiet (fail)
            go_wp2
            go_roundw
            case rel => exact ⟨j + 1, by omega, by go_num, by rw [HST2.out]; exact (HRD.out.call (Dat.below_drewN (Below.refl _ _) _)), by simpa using HSR.out⟩
            case measure => simp [intOf]; omega
        · obtain rfl : j = ps.length := by omega
          clear hrd hsr
          go_wp2
          go_meet
          rw [HIF.out]
          have h1 := HRD.out
          rw [List.take_length] at h1
          exact ⟨h1, HSR.out⟩
    · have hvb : (decide (k = 1) || decide (k = 2)) = false := by
        rw [Bool.or_eq_false_iff]
        simp only [decide_eq_false_iff_not]
        omega
      rw [hvb]
      clear hvb
      go_wp2
      go_meet
      rw [if_neg hv]
      exact ⟨HRD0.out, HS0.out⟩
  case rest =>
  obtain ⟨hrd, hsx⟩ := hcut
  generalize hnm2 : (if k = 1 ∨ k = 2 then nowT env nm else nm) = nm2 at hrd
  have HNM2 := Lib.hid hnm2
  have HN2S : Hid (nm2.size ≤ maxLen) := Lib.hid (by
    rw [← hnm2]
    split
    · rw [HENV.out.1]
      exact lastT_size HENV.out.2 HNM.out
    · exact HNM.out)
  have HRD1 := Lib.hid hrd
  have HSX := Lib.hid hsx
  clear hrd hsx hnm2
  go_upto_region 8 with fail
  have hC8 : w.heap.size + 3 ≤ wc.heap.size := by have := HSX.out; omega
  go_wp2_with (at_builtin; refine wpList_append_ps rfl _ _ rfl (w.heap.size + 3) [] _ rfl (outP_new hC8) (fun _ => True) ps _ (HPS.out.below (HRD1.out.call ((Below.refl _ _).alloc (Nat.le_refl _) _)).bel) rfl (by simp only [List.length_nil]; omega) (Nat.le_trans hC8 (by rw [size_new]; omega)) ?_; intro v12 w1 ho1 hk1 ha1)
  have HP1 : Hid (OutP w1 (w.heap.size + 3) ps v12) := Lib.hid ho1
  have HRD2 : Hid (RD w w1 (.cells #[.int .i64 k, .string nm, .slice an ns.length cn, .int .i64 ck, .int .i64 ci, .string cs, .slice ad cl.length cd, .slice ak l.length c] 28) (.cells #[.int .i64 k, .string (nm2), .slice none 0 0, .int .i64 ck, .int .i64 ci, .string cs, .slice ad cl.length cd, .slice none 0 0] 28)) := Lib.hid ((HRD1.out.call ((Below.refl _ _).alloc (Nat.le_refl _) _)).kp hk1 (fun b e => by cases e; exact hC8))
  clear ho1 hk1 ha1
  go_upto_region 9 with fail
  go_wp2
  go_loopw [3, 12, 13, 14] (fun nn iy i _ wr => ∃ (j : Nat) (nums : List Nat) (n1 : Nat) (v1 iv : Value), j ≤ ns.length ∧ i = .int .i64 j ∧ nn = .int .i64 (n1 : Int) ∧ iv = iy ∧ nums.length = j ∧ NumsL U n nums n1 ∧ OutP wr (w.heap.size + 3) (ps ++ (ns.take j).zip (nums.map numS)) iv ∧ EnvP (pushE env (ns.take j) nums) (ps ++ (ns.take j).zip (nums.map numS)) ∧ OutT wr (w.heap.size + 3) (nums.map numS) v1 ∧ (∀ b, v1.ownBlock = some b → iv.ownBlock ≠ some b) ∧ RD w wr (.cells #[.int .i64 k, .string nm, .slice an ns.length cn, .int .i64 ck, .int .i64 ci, .string cs, .slice ad cl.length cd, .slice ak l.length c] 28) (.cells #[.int .i64 k, .string (nm2), v1, .int .i64 ck, .int .i64 ci, .string cs, .slice ad cl.length cd, .slice none 0 0] 28)) (fun _ _ i _ _ => ns.length - (intOf i).toNat)
  case atStart => exact ⟨0, [], n, .slice none 0 0, _, Nat.zero_le _, rfl, rfl, rfl, rfl, .nil _, by simpa using HP1.out, by simpa [pushE] using HENV.out, OutT.nil _ _, (fun b e => by cases e), HRD2.out⟩
  case round =>
    obtain ⟨j, nums, n1, v1, iv, hj, rfl, rfl, rfl, hnl, hnm, hop, hen, hot, hne, hrd⟩ := hrel
    have hpot := hnm.pot
    have HNL := Lib.hid hnl
    have HNMS := Lib.hid hnm
    have HOP := Lib.hid hop
    have HEN := Lib.hid hen
    have HOT := Lib.hid hot
    have HNE := Lib.hid hne
    have HRD := Lib.hid hrd
    have x2 : wr.cell? ⟨w.heap.size, 2, none⟩ = some (.slice an ns.length cn) := by rw [Lib.cell_of_heap hrd.eb]; rfl
    clear hnm hop hen hot hne hrd
    by_cases hlt : j < ns.length
    · obtain ⟨_, _, ean, _, _, _, hnr⟩ := HI.out.1.2.2
      cases ean
      obtain ⟨nb, no, ean, _, hnc⟩ := hnr.resolve_left (by rintro rfl; cases hlt)
      have HEAN := Lib.hid ean
      have HNC := Lib.hid (hnc j hlt).1
      clear hnr hnc ean
      have KNX : Hid (Calls Tryz.prog 50 #[.slice ua U.length uc, .int .i64 (n1 : Int)] wr fun e w' => (∃ i, NumsL U n1 [i] (i + 1) ∧ e = .returned (.tuple #[.string (numS i), .int .i64 ((i + 1 : Nat) : Int)])) ∧ Below wr.heap.size wr w') := Lib.hid (next_any U _ _ n1 wr (HUU.out.below HRD.out.bel) (by omega))
      clear hpot
      go_upto_region 13 with fail
      go_wp2_with fail
      refine KNX.out.mono ?_
      rintro e w2 ⟨⟨i, hi, rfl⟩, hb2⟩
      have HI2 := Lib.hid hi
      have hib : i ≤ 100000000 := by
        have h1 := (HNMS.out).pot
        have h2 := hi.pot
        simp only [List.length_cons, List.length_nil] at h2
        omega
      have HIB := Lib.hid hib
      have HRD3 := Lib.hid (HRD.out.call hb2)
      have HOP3 := Lib.hid (HOP.out.below hb2)
      have HOT3 := Lib.hid (HOT.out.below hb2)
      have HNS3 := Lib.hid (numS_size i (by omega))
      have hC3 : w.heap.size + 3 ≤ w2.heap.size := lt_of_block HRD3.out.qb
      have q2 : w2.cell? ⟨w.heap.size + 2, 2, none⟩ = some v1 := by rw [Lib.cell_of_heap HRD3.out.qb]; rfl
      have hl4 : (nums.map numS).length + 1 ≤ 100000 := by rw [List.length_map]; omega
      generalize hnsi : numS i = nsi at *
      have HNSI := Lib.hid hnsi
      clear hb2 hi x2 hib hnsi
      go_upto_region 14 with fail
      go_upto_region 15 with (at_builtin; refine wpList_append_ts rfl _ _ rfl (w.heap.size + 3) (nums.map numS) v1 rfl (HOT3.out.below ((Below.refl _ _).alloc (Nat.le_refl _) _)) (fun _ => True) [nsi] _ (inN_lit (heap_alloc_new _ _) HNS3.out) rfl hl4 (Nat.le_trans hC3 (by rw [size_new]; omega)) ?_; intro v3 w3 ho3 hk3 ha3; go_must (have HKK : Hid (KP w2 v1.ownBlock w3) := Lib.hid (((KP.refl w2 v1.ownBlock).alloc _).trans hk3)); go_must (have HRD4 : Hid (RD w w3 (.cells #[.int .i64 k, .string nm, .slice an ns.length cn, .int .i64 ck, .int .i64 ci, .string cs, .slice ad cl.length cd, .slice ak l.length c] 28) (.cells #[.int .i64 k, .string (nm2), v1, .int .i64 ck, .int .i64 ci, .string cs, .slice ad cl.length cd, .slice none 0 0] 28)) := Lib.hid (HRD3.out.kp HKK.out (fun b e => (World.ownsRow.lt HOT3.out b e).1))); go_must (have HOP4 := Lib.hid (HOP3.out.kpo HKK.out (fun b e e2 => HNE.out b e2 e))); go_must (have HOT4 := Lib.hid ho3); go_must (have HA3 : Hid (v3.ownBlock = v1.ownBlock ∨ ∀ b, v3.ownBlock = some b → w2.heap.size ≤ b) := Lib.hid (own_down ha3 (by rw [size_new]; omega))); go_must (have f2 : w3.frozen? ⟨w.heap.size + 2, 2, none⟩ = false := Lib.frozen_of_heap HRD4.out.qb 2); go_must (have q3 : w3.cell? ⟨w.heap.size + 2, 2, none⟩ = some v1 := by (rw [Lib.cell_of_heap HRD4.out.qb]; rfl)); go_must (obtain ⟨av3, cv3, e3, hlt3⟩ := ho3.slice); go_must (subst e3); go_must (clear ho3 hk3 ha3 hlt3))
      have hlen3 : (nums.map numS ++ [nsi]).length = j + 1 := by simp [hnl]
      have HRD5 : Hid (RD w (w3.setCell ⟨w.heap.size + 1 + 1, 2, none⟩ (.slice av3 (j + 1) cv3)) (.cells #[.int .i64 k, .string nm, .slice an ns.length cn, .int .i64 ck, .int .i64 ci, .string cs, .slice ad cl.length cd, .slice ak l.length c] 28) (.cells #[.int .i64 k, .string (nm2), .slice av3 (j + 1) cv3, .int .i64 ck, .int .i64 ci, .string cs, .slice ad cl.length cd, .slice none 0 0] 28)) := Lib.hid (HRD4.out.put 2 _)
      have HOP5 : Hid (OutP (w3.setCell ⟨w.heap.size + 1 + 1, 2, none⟩ (.slice av3 (j + 1) cv3)) _ _ _) := Lib.hid (HOP4.out.putq (by omega))
      have HOT5 : Hid (OutT (w3.setCell ⟨w.heap.size + 1 + 1, 2, none⟩ (.slice av3 (j + 1) cv3)) (w.heap.size + 3) (nums.map numS ++ [nsi]) (.slice av3 (j + 1) cv3)) := Lib.hid (by
        have h := HOT4.out
        rw [hlen3] at h
        exact h.putq (by omega))
      have HNE5 : Hid (∀ b, (Value.slice av3 (j + 1) cv3).ownBlock = some b → iv.ownBlock ≠ some b) := Lib.hid fun b e e2 => by
        have h := HA3.out
        rw [hlen3] at h
        rcases h with h | h
        · exact HNE.out b (h.symm.trans e) e2
        · have h1 := h b e
          have h2 := (World.ownsRow.lt HOP3.out b e2).2
          omega
      generalize w3.setCell ⟨w.heap.size + 1 + 1, 2, none⟩ (.slice av3 (j + 1) cv3) = w4 at *
      have x2 : w4.cell? ⟨w.heap.size, 2, none⟩ = some (.slice (some ⟨nb, no, none⟩) ns.length cn) := by rw [Lib.cell_of_heap HRD5.out.eb, ← HEAN.out]; rfl
      have c2 : w4.cell? ⟨nb, no + j, none⟩ = some (.string ns[j]) := cell_below HRD5.out.bel HNC.out
      have hC5 : w.heap.size + 3 ≤ w4.heap.size := lt_of_block HRD5.out.qb
      have hl5 : (ps ++ (ns.take j).zip (nums.map numS)).length + 1 ≤ 100000 := by
        simp only [List.length_append, List.length_zip, List.length_take, List.length_map]
        omega
      have HTS : Hid (ns.take (j + 1) = ns.take j ++ [ns[j]]) := Lib.hid (List.take_succ_eq_append_getElem hlt)
      have HZIP : Hid (ps ++ (ns.take (j + 1)).zip ((nums ++ [i]).map numS) = (ps ++ (ns.take j).zip (nums.map numS)) ++ [(ns[j], nsi)]) := Lib.hid (by
        rw [HTS.out, List.map_append, List.zip_append (by simp [hnl]; omega), ← List.append_assoc, ← HNSI.out]
        rfl)
      have HEN6 : Hid (EnvP (pushE env (ns.take (j + 1)) (nums ++ [i])) (ps ++ (ns.take (j + 1)).zip ((nums ++ [i]).map numS))) := Lib.hid (by
        rw [HZIP.out, HTS.out, pushE_snoc _ _ _ _ _ (by simp [hnl]; omega), ← HNSI.out]
        exact envP_push HEN.out _ _ (by have := HIB.out; omega))
      generalize ns[j] = nj at *
      generalize (ps ++ (ns.take j).zip (nums.map numS)) = pz at *
      clear f2 q3 q2 hlen3 hl4
      go_upto_region 11 with (at_builtin; refine wpList_append_ps rfl _ _ rfl (w.heap.size + 3) pz _ rfl (HOP5.out.below ((Below.refl _ _).alloc (Nat.le_refl _) _)) (fun _ => True) [(nj, nsi)] _ (inPs_lit (heap_alloc_new _ _)) rfl hl5 (Nat.le_trans hC5 (by rw [size_new]; omega)) ?_; intro v5 w5 ho5 hk5 ha5; go_must (have HKK5 : Hid (KP w4 _ w5) := Lib.hid (((KP.refl w4 _).alloc _).trans hk5)); go_must (have HOP6 := Lib.hid ho5); go_must (have HA5 := Lib.hid ha5); go_must (clear ho5 hk5 ha5))
      have HRD6 := Lib.hid (HRD5.out.kp HKK5.out (fun b e => (World.ownsRow.lt HOP5.out b e).1))
      have HOT6 := Lib.hid (HOT5.out.kpo HKK5.out HNE5.out)
      have HNE6 : Hid (∀ b, (Value.slice av3 (j + 1) cv3).ownBlock = some b → v5.ownBlock ≠ some b) := Lib.hid fun b e e2 => by
        rcases HA5.out with h | h
        · exact HNE5.out b e (h.symm.trans e2)
        · have h1 := h b e2
          rw [size_new] at h1
          have h2 := (World.ownsRow.lt HOT5.out b e).2
          omega
      clear x2 c2
      go_wp2
      go_roundw
      case rel => exact ⟨j + 1, nums ++ [i], i + 1, .slice av3 (j + 1) cv3, v5, by omega, by go_num, rfl, rfl, by simp [hnl], numsL_snoc HNMS.out HI2.out, by rw [HZIP.out]; exact HOP6.out, HEN6.out, by rw [List.map_append, show [i].map numS = [nsi] by rw [← HNSI.out]; rfl]; exact HOT6.out, HNE6.out, HRD6.out⟩
      case measure => simp [intOf]; omega
    · obtain rfl : j = ns.length := by omega
      obtain ⟨wm, hwm⟩ : ∃ wm, wm = wr := ⟨_, rfl⟩
      subst hwm
      rw [List.take_length] at HOP HEN
      obtain ⟨ia, ic, rfl, hil⟩ := HOP.out.slice
      obtain ⟨va1, vc1, ev1, hvl⟩ := HOT.out.slice
      rw [List.length_map, hnl] at ev1
      subst ev1
      have HIL := Lib.hid hil
      have HVL := Lib.hid hvl
      have HMW : Hid (w.heap.size + 3 ≤ wm.heap.size) := Lib.hid (lt_of_block HRD.out.qb)
      have HPZ : Hid ((ps ++ ns.zip (nums.map numS)).length + sizeEs l ≤ 90000) := Lib.hid (by
        simp only [List.length_append, List.length_zip, List.length_map]
        omega)
      have HPOT : Hid (n1 + restN U n1 ≤ n + ns.length + restN U n) := Lib.hid (by rw [← hnl]; exact hpot)
      generalize hpz : ps ++ ns.zip (nums.map numS) = pz at *
      clear hil hvl hpot
      generalize hfr : fromT k l.length = fr
      have HFR := Lib.hid hfr
      clear hfr
      go_upto_region 16 with fail
      go_wp2
      go_loopw [3, 15, 16] (fun nn i _ wq => ∃ (j : Nat) (l1 : List PE) (n2 : Nat) (v2 : Value), j ≤ l.length ∧ i = .int .i64 j ∧ nn = .int .i64 (n2 : Int) ∧ RenRs U env (pushE env ns nums) fr n1 (l.take j) l1 n2 ∧ l1.length = j ∧ OutE wq wm.heap.size (fun b => S b ∨ wm.heap.size ≤ b) l1 v2 ∧ (∀ b, b < wm.heap.size → b ≠ w.heap.size + 2 → wq.heap[b]? = wm.heap[b]?) ∧ wm.heap.size ≤ wq.heap.size ∧ RD w wq (.cells #[.int .i64 k, .string nm, .slice an ns.length cn, .int .i64 ck, .int .i64 ci, .string cs, .slice ad cl.length cd, .slice ak l.length c] 28) (.cells #[.int .i64 k, .string (nm2), .slice va1 ns.length vc1, .int .i64 ck, .int .i64 ci, .string cs, .slice ad cl.length cd, v2] 28)) (fun _ i _ _ => l.length - (intOf i).toNat)
      case atStart => exact ⟨0, [], n1, .slice none 0 0, Nat.zero_le _, rfl, rfl, by rw [List.take_zero, RenRs]; exact ⟨rfl, rfl⟩, rfl, OutE.nil _ _ _, (fun b _ _ => rfl), Nat.le_refl _, HRD.out⟩
      case round =>
        obtain ⟨j, l1, n2, v2, hj, rfl, rfl, hrr, hl1, hoe, hkr, hmx, hrd⟩ := hrel
        have hpot2 := RenRs.pot hrr
        have HRR := Lib.hid hrr
        have HL1 := Lib.hid hl1
        have HOE := Lib.hid hoe
        have HKR := Lib.hid hkr
        have HMX := Lib.hid hmx
        have HRD0' := Lib.hid hrd
        have x7 : wr.cell? ⟨w.heap.size, 7, none⟩ = some (.slice ak l.length c) := by rw [Lib.cell_of_heap hrd.eb]; rfl
        clear hrr hl1 hoe hkr hmx hrd
        by_cases hlt : j < l.length
        · have HTS : Hid (l.take (j + 1) = l.take j ++ [l[j]]) := Lib.hid (List.take_succ_eq_append_getElem hlt)
          have HTL : Hid ((l.take j).length = j) := Lib.hid (by rw [List.length_take]; omega)
          have hzz : sizeEs (l.take j) + sizeE l[j] ≤ sizeEs l := by rw [← sizeEs_snoc, ← HTS.out]; exact sizeEs_take _ _
          have hIHj := HIH.out l[j] (List.getElem_mem hlt)
          have HSB : Hid (n2 + sizeE l[j] + restN U n2 ≤ 100000000) := Lib.hid (by have := HPOT.out; omega)
          have HSP : Hid (pz.length + sizeE l[j] ≤ 90000 ∧ ps.length + sizeE l[j] ≤ 90000) := Lib.hid (by have := HPZ.out; omega)
          obtain ⟨b, o, c', ea, _, _, hS1, hE1⟩ := (HI.out.2.2.below HRD0'.out.bel).item j hlt
          have eak : ak = some ⟨b, o, none⟩ := by injection ea
          have HEAK := Lib.hid eak
          clear ea eak
          generalize l[j] = t at hE1 hIHj HSB HSP HTS
          obtain ⟨tk, tn, tns, ⟨tck, tci, tcs, tcl⟩, tl⟩ := t
          obtain ⟨tvn, tvd, tvk, hF1, b0, b1, b2, b3, b4, b5, b6, b7⟩ := hE1.cells
          have HF1 := Lib.hid hF1
          obtain ⟨⟨_, _, tan, tcn, rfl, -⟩, ⟨_, _, _, tad, tcd, rfl, -⟩, tak, tcc, rfl, -⟩ := hF1
          have KID : Hid (∀ W psx vax envx, Below wr.heap.size wr W → InPs W (fun _ => True) psx vax → EnvP envx psx → psx.length + sizeE (.mk tk tn tns (.mk tck tci tcs tcl) tl) ≤ 90000 → Calls Tryz.prog 28 #[.agg #[.int .i64 tk, .string tn, .slice tan tns.length tcn, .int .i64 tck, .int .i64 tci, .string tcs, .slice tad tcl.length tcd, .slice tak tl.length tcc], vax, .slice ua U.length uc, .int .i64 (n2 : Int)] W fun e w' => RRenIs U envx n2 S (.mk tk tn tns (.mk tck tci tcs tcl) tl) W e w' ∧ Below W.heap.size W w') := Lib.hid fun W psx vax envx hW hp he hs =>
            hIHj W S _ _ _ vax (.slice ua U.length uc) U psx envx n2 (HF1.out.below hW) (fun b h => Nat.lt_of_lt_of_le (HSL.out b h) (HRD0'.out.bel.trans (hW.mono HRD0'.out.bel.size)).size) hp (HUU.out.below (HRD0'.out.bel.trans (hW.mono HRD0'.out.bel.size))) he HSB.out hs
          have HBC : Hid (∀ o' y, wr.cell? ⟨b, o', none⟩ = some y → ∀ W, Below wr.heap.size wr W → W.cell? ⟨b, o', none⟩ = some y) := Lib.hid fun o' y h W hW => cell_below hW h
          have KB : Hid (∀ W, Calls Tryz.prog 51 #[.agg #[.int .i64 k, .string nm, .slice an ns.length cn, .int .i64 ck, .int .i64 ci, .string cs, .slice ad cl.length cd, .slice ak l.length c], .int .i64 (j : Int)] W fun e w' => e = .returned (.bool (bindsB k l.length j)) ∧ Below W.heap.size W w') := Lib.hid fun W => rbinds_any k nm _ _ _ ck ci cs _ _ _ _ l.length c j W hl (by unfold maxLen; omega)
          generalize hX : wr.heap.size = X
          have HXE := Lib.hid hX
          have HX1 := Lib.hid (heap_alloc_new wr (.cells #[.int .i64 0, .string ⟨#[]⟩, .slice none 0 0, .int .i64 0, .int .i64 0, .string ⟨#[]⟩, .slice none 0 0, .slice none 0 0] 28))
          have HW1 := Lib.hid ((Below.refl wr.heap.size wr).alloc (Nat.le_refl _) (.cells #[.int .i64 0, .string ⟨#[]⟩, .slice none 0 0, .int .i64 0, .int .i64 0, .string ⟨#[]⟩, .slice none 0 0, .slice none 0 0] 28))
          have hsz1 := size_new wr (.cells #[.int .i64 0, .string ⟨#[]⟩, .slice none 0 0, .int .i64 0, .int .i64 0, .string ⟨#[]⟩, .slice none 0 0, .slice none 0 0] 28)
          have HC0 := Lib.hid b0
          have HC1 := Lib.hid b1
          have HC2 := Lib.hid b2
          have HC3 := Lib.hid b3
          have HC4 := Lib.hid b4
          have HC5' := Lib.hid b5
          have HC6 := Lib.hid b6
          have HC7 := Lib.hid b7
          clear hE1 hIHj hzz hpot2 b0 b1 b2 b3 b4 b5 b6 b7
          go_upto_region 20 with fail
          generalize wr.alloc (.cells #[.int .i64 0, .string ⟨#[]⟩, .slice none 0 0, .int .i64 0, .int .i64 0, .string ⟨#[]⟩, .slice none 0 0, .slice none 0 0] 28) = w1 at *
          rw [hX] at HX1 hsz1
          have HRD1' := Lib.hid (HRD0'.out.call HW1.out)
          obtain ⟨y0, y1, y2, y3, y4, y5, y6, y7⟩ := look8q HRD1'.out.eb
          have HZ1 := Lib.hid hsz1
          clear hsz1 hX x7
          have HBB : Hid (bindsB k l.length j = decide (fr ≤ j)) := Lib.hid (by rw [binds_from hlt, HFR.out])
          by_cases hfj : fr ≤ j
          · have HFJ := Lib.hid hfj
            have hbb : bindsB k l.length j = true := by rw [HBB.out]; exact decide_eq_true hfj
            rw [hbb] at KB
            clear hbb hfj HBB
            go_wp2_with fail
            refine (KB.out _).mono ?_
            rintro e w2 ⟨rfl, hb2⟩
            have HRD2 := Lib.hid (HRD1'.out.call hb2)
            have HX2 := Lib.hid ((hb2.block X (lt_of_block HX1.out)).trans HX1.out)
            have HW2 := Lib.hid (HW1.out.trans (hb2.mono HW1.out.size))
            have HXL : Hid (X < w2.heap.size) := Lib.hid (lt_of_block HX2.out)
            have x7 : w2.cell? ⟨w.heap.size, 7, none⟩ = some (.slice (some ⟨b, o, none⟩) l.length c) := by rw [Lib.cell_of_heap HRD2.out.eb, ← HEAK.out]; rfl
            have a0 := HBC.out _ _ HC0.out _ HW2.out
            have a1 := HBC.out _ _ HC1.out _ HW2.out
            have a2 := HBC.out _ _ HC2.out _ HW2.out
            have a3 := HBC.out _ _ HC3.out _ HW2.out
            have a4 := HBC.out _ _ HC4.out _ HW2.out
            have a5 := HBC.out _ _ HC5'.out _ HW2.out
            have a6 := HBC.out _ _ HC6.out _ HW2.out
            have a7 := HBC.out _ _ HC7.out _ HW2.out
            have HIPS : Hid (InPs w2 (fun _ => True) pz (.slice ia pz.length ic)) := Lib.hid ((HOP.out.at fun b e => (HW2.out.block b (by have := (HIL.out b e).2; have := HMX.out; omega)).trans (HKR.out b (HIL.out b e).2 (by have := (HIL.out b e).1; omega))).inPs fun _ _ => trivial)
            clear hb2 y0 y1 y2 y3 y4 y5 y6 y7
            go_wp2_with fail
            refine (KID.out _ pz (.slice ia pz.length ic) (pushE env ns nums) HW2.out HIPS.out HEN.out HSP.out.1).mono ?_
            rintro e w3 ⟨⟨t5, un1, ud1, uk1, n5, hR5, he5, hF5⟩, hb3⟩
            obtain ⟨uk, un, uns, ⟨uck, uci, ucs, ucl⟩, ul⟩ := t5
            have HF5 := Lib.hid hF5
            obtain ⟨⟨_, _, uan, ucn, rfl, -⟩, ⟨_, _, _, uad, ucd, rfl, -⟩, uak, uc2, rfl, -⟩ := hF5
            have he6 : e = .returned (.tuple #[.agg #[.int .i64 uk, .string un, .slice uan uns.length ucn, .int .i64 uck, .int .i64 uci, .string ucs, .slice uad ucl.length ucd, .slice uak ul.length uc2], .int .i64 (n5 : Int)]) := he5
            subst he6
            have HR6 := Lib.hid (renRs_snoc2 HRR.out (show RenR U (if fr ≤ (l.take j).length then pushE env ns nums else env) n2 (.mk tk tn tns (.mk tck tci tcs tcl) tl) (.mk uk un uns (.mk uck uci ucs ucl) ul) n5 by rw [HTL.out, if_pos HFJ.out]; exact hR5))
            have HRD3 := Lib.hid (HRD2.out.call hb3)
            have HX3 := Lib.hid ((hb3.block X (by have := HXL.out; omega)).trans HX2.out)
            have HW3 := Lib.hid (HW2.out.trans (hb3.mono HW2.out.size))
            have HS3 : Hid (w2.heap.size ≤ w3.heap.size) := Lib.hid hb3.size
            clear hb3 hR5 he5 a0 a1 a2 a3 a4 a5 a6 a7 x7
            obtain ⟨z0, z1, z2, z3, z4, z5, z6, z7⟩ := look8q HX3.out
            obtain ⟨g0, g1, g2, g3, g4, g5, g6, g7⟩ := free8q HX3.out
            go_upto_region 23 with fail
            have HX4 := Lib.hid (put8 (v0 := .int .i64 uk) (v1 := .string un) (v2 := .slice uan uns.length ucn) (v3 := .int .i64 uck) (v4 := .int .i64 uci) (v5 := .string ucs) (v6 := .slice uad ucl.length ucd) (v7 := .slice uak ul.length uc2) HX3.out)
            have HB4 := Lib.hid (below8 (B := X) (w0 := w3) (W := w3) (Below.refl _ _) (Nat.le_refl X) (.int .i64 uk) (.string un) (.slice uan uns.length ucn) (.int .i64 uck) (.int .i64 uci) (.string ucs) (.slice uad ucl.length ucd) (.slice uak ul.length uc2))
            generalize hw4 : ((((((((w3.setCell ⟨X, 0, none⟩ (.int .i64 uk)).setCell ⟨X, 1, none⟩ (.string un)).setCell ⟨X, 2, none⟩ (.slice uan uns.length ucn)).setCell ⟨X, 3, none⟩ (.int .i64 uck)).setCell ⟨X, 4, none⟩ (.int .i64 uci)).setCell ⟨X, 5, none⟩ (.string ucs)).setCell ⟨X, 6, none⟩ (.slice uad ucl.length ucd)).setCell ⟨X, 7, none⟩ (.slice uak ul.length uc2)) = w4 at *
            have HO4 : Hid (∀ b, b ≠ X → w4.heap[b]? = w3.heap[b]?) := Lib.hid fun b hb => by
              rw [← hw4]
              repeat rw [Below.heap_setCell _ _ _ _ hb]
            have HS4 : Hid (w4.heap.size = w3.heap.size) := Lib.hid (by rw [← hw4]; simp only [size_put])
            clear hw4 z0 z1 z2 z3 z4 z5 z6 z7 g0 g1 g2 g3 g4 g5 g6 g7
            have hqX : w.heap.size + 3 ≤ X := by have := HXE.out; have := HMX.out; have := HMW.out; omega
            have HRD4 : Hid (RD w w4 (.cells #[.int .i64 k, .string nm, .slice an ns.length cn, .int .i64 ck, .int .i64 ci, .string cs, .slice ad cl.length cd, .slice ak l.length c] 28) (.cells #[.int .i64 k, .string (nm2), .slice va1 ns.length vc1, .int .i64 ck, .int .i64 ci, .string cs, .slice ad cl.length cd, v2] 28)) := Lib.hid ⟨HRD3.out.bel.trans (HB4.out.mono (by omega)), (HO4.out _ (by omega)).trans HRD3.out.eb, (HO4.out _ (by omega)).trans HRD3.out.zb, (HO4.out _ (by omega)).trans HRD3.out.qb⟩
            obtain ⟨av, cv, rfl, hown⟩ := HOE.out.slice
            have HOWN := Lib.hid hown
            have HOLD5 : Hid (∀ b, b < X → (w4.alloc (.cells #[.int .i64 uk, .string un, .slice uan uns.length ucn, .int .i64 uck, .int .i64 uci, .string ucs, .slice uad ucl.length ucd, .slice uak ul.length uc2] 28)).heap[b]? = wr.heap[b]?) := Lib.hid fun b hb => by
              rw [Below.heap_alloc _ _ _ (by have := HS4.out; have := HS3.out; have := HXL.out; omega), HO4.out b (by omega)]
              exact HW3.out.block b (by rw [HXE.out]; exact hb)
            have HOE5 : Hid (OutE (w4.alloc (.cells #[.int .i64 uk, .string un, .slice uan uns.length ucn, .int .i64 uck, .int .i64 uci, .string ucs, .slice uad ucl.length ucd, .slice uak ul.length uc2] 28)) wm.heap.size (fun b => S b ∨ wm.heap.size ≤ b) l1 (.slice av l1.length cv)) := Lib.hid (HOE.out.at (fun b e => HOLD5.out b (by rw [← HXE.out]; exact (hown b e).2)) (fun b hb hl => ⟨HOLD5.out b (by rw [← HXE.out]; exact hl), hb⟩))
            have HF6 : Hid (InF (w4.alloc (.cells #[.int .i64 uk, .string un, .slice uan uns.length ucn, .int .i64 uck, .int .i64 uci, .string ucs, .slice uad ucl.length ucd, .slice uak ul.length uc2] 28)) (fun b => (S b ∨ wm.heap.size ≤ b) ∧ some b ≠ (Value.slice av l1.length cv).ownBlock) (.mk uk un uns (.mk uck uci ucs ucl) ul) (.slice uan uns.length ucn) (.slice uad ucl.length ucd) (.slice uak ul.length uc2)) := Lib.hid (HF5.out.move (fun b hb _ => ⟨hb.imp id (fun h => by have := HXL.out; have := HMX.out; have := HXE.out; omega), fun e => by
              have h1 := HOWN.out b e.symm
              have h2 := HXE.out
              have h3 := HXL.out
              rcases hb with hb | hb
              · have := HSL.out b hb; have := HMW.out; omega
              · omega⟩) (fun b o y hb hc => by
                have hlt := World.block_lt_of_cell? _ _ hc
                have hbX : b ≠ X := by
                  have h3 := HXL.out
                  rcases hb with hb | hb
                  · have := HSL.out b hb; omega
                  · omega
                rw [World.cell?_of_block (w := w3) (a := ⟨b, o, none⟩) ((Below.heap_alloc _ _ _ (by have := HS4.out; show b < _; have hlt' : b < w3.heap.size := hlt; omega)).trans (HO4.out b hbX))]; exact hc))
            have hC5 : wm.heap.size ≤ (w4.alloc (.cells #[.int .i64 uk, .string un, .slice uan uns.length ucn, .int .i64 uck, .int .i64 uci, .string ucs, .slice uad ucl.length ucd, .slice uak ul.length uc2] 28)).heap.size := by rw [size_new]; have := HS4.out; have := HS3.out; have := HXL.out; have := HMX.out; have := HXE.out; omega
            have HC5 := Lib.hid hC5
            have hl5 : l1.length ≤ 100000 := by have := HL1.out; have := HPZ.out; have := len_sizeEs l; omega
            have k7 : w4.cell? ⟨w.heap.size + 2, 7, none⟩ = some (.slice av l1.length cv) := by rw [Lib.cell_of_heap HRD4.out.qb]; rfl
            obtain ⟨u0, u1, u2, u3, u4, u5, u6, u7⟩ := look8q HX4.out
            have HQL5 : Hid (w.heap.size + 2 < (w4.alloc (.cells #[.int .i64 uk, .string un, .slice uan uns.length ucn, .int .i64 uck, .int .i64 uci, .string ucs, .slice uad ucl.length ucd, .slice uak ul.length uc2] 28)).heap.size) := Lib.hid (by rw [size_new]; exact Nat.lt_succ_of_lt (lt_of_block HRD4.out.qb))
            clear hown hC5
            go_upto_region 18 with (at_builtin; refine wpList_append_e rfl _ _ rfl wm.heap.size (fun b => S b ∨ wm.heap.size ≤ b) l1 (.slice av l1.length cv) rfl HOE5.out w4.heap.size uk un uns uck uci ucs ucl ul _ _ _ rfl (heap_alloc_new w4 _) HF6.out hl5 HC5.out ?_; intro g cap w6 h1 h2 h3; go_must (have HRD6 : Hid (RD w w6 (.cells #[.int .i64 k, .string nm, .slice an ns.length cn, .int .i64 ck, .int .i64 ci, .string cs, .slice ad cl.length cd, .slice ak l.length c] 28) (.cells #[.int .i64 k, .string (nm2), .slice va1 ns.length vc1, .int .i64 ck, .int .i64 ci, .string cs, .slice ad cl.length cd, .slice av l1.length cv] 28)) := Lib.hid ((HRD4.out.call ((Below.refl _ _).alloc (Nat.le_refl _) (.cells #[.int .i64 uk, .string un, .slice uan uns.length ucn, .int .i64 uck, .int .i64 uci, .string ucs, .slice uad ucl.length ucd, .slice uak ul.length uc2] 28))).kp (kp_grown h2) (fun b e => by have := (HOWN.out b e).1; have := HMW.out; omega))); go_must (have HOE6 := Lib.hid h1); go_must (have HG6 := Lib.hid h2); go_must (have k8 : w6.cell? ⟨w.heap.size + 2, 7, none⟩ = some (.slice av l1.length cv) := by (rw [Lib.cell_of_heap HRD6.out.qb]; rfl)); go_must (have f8 : w6.frozen? ⟨w.heap.size + 2, 7, none⟩ = false := Lib.frozen_of_heap HRD6.out.qb 7); go_must (clear h1 h2 h3))
            go_wp2
            go_roundw
            case rel =>
              refine ⟨j + 1, l1 ++ [.mk uk un uns (.mk uck uci ucs ucl) ul], n5, .slice (some ⟨g, 0, none⟩) (l1.length + 1) cap, by omega, by go_num, rfl, by rw [HTS.out]; exact HR6.out, by rw [List.length_append, HL1.out]; rfl, ?_, ?_, ?_, HRD6.out.put 7 _⟩
              · exact HOE6.out.at (fun b e => Below.heap_setCell _ _ _ _ (show b ≠ w.heap.size + 2 by have := (HOE6.out.slice.choose_spec.choose_spec.2 b e).1; have := HMW.out; omega)) (fun b hb _ => ⟨Below.heap_setCell _ _ _ _ (show b ≠ w.heap.size + 2 by rcases hb with hb | hb; (have := HSL.out b hb; omega); (have := HMW.out; omega)), hb⟩)
              · intro b h1 h2
                have h4 : (w6.setCell ⟨w.heap.size + 2, 7, none⟩ (.slice (some ⟨g, 0, none⟩) (l1.length + 1) cap)).heap[b]? = w6.heap[b]? := Below.heap_setCell _ _ _ _ h2
                exact h4.trans ((HG6.out.block b (by have := HC5.out; omega) (fun e => by have := (HOWN.out _ e.symm).1; omega)).trans ((HOLD5.out b (by have := HMX.out; have := HXE.out; omega)).trans (HKR.out b h1 h2)))
              · have h1 : (w6.setCell ⟨w.heap.size + 2, 7, none⟩ (.slice (some ⟨g, 0, none⟩) (l1.length + 1) cap)).heap.size = w6.heap.size := by simp only [size_put]
                rw [h1]
                exact Nat.le_trans HC5.out HG6.out.size
            case measure => simp [intOf]; omega
          · have HFJ := Lib.hid hfj
            have hbb : bindsB k l.length j = false := by rw [HBB.out]; exact decide_eq_false hfj
            rw [hbb] at KB
            clear hbb hfj HBB
            go_wp2_with fail
            refine (KB.out _).mono ?_
            rintro e w2 ⟨rfl, hb2⟩
            have HRD2 := Lib.hid (HRD1'.out.call hb2)
            have HX2 := Lib.hid ((hb2.block X (lt_of_block HX1.out)).trans HX1.out)
            have HW2 := Lib.hid (HW1.out.trans (hb2.mono HW1.out.size))
            have HXL : Hid (X < w2.heap.size) := Lib.hid (lt_of_block HX2.out)
            have x7 : w2.cell? ⟨w.heap.size, 7, none⟩ = some (.slice (some ⟨b, o, none⟩) l.length c) := by rw [Lib.cell_of_heap HRD2.out.eb, ← HEAK.out]; rfl
            have a0 := HBC.out _ _ HC0.out _ HW2.out
            have a1 := HBC.out _ _ HC1.out _ HW2.out
            have a2 := HBC.out _ _ HC2.out _ HW2.out
            have a3 := HBC.out _ _ HC3.out _ HW2.out
            have a4 := HBC.out _ _ HC4.out _ HW2.out
            have a5 := HBC.out _ _ HC5'.out _ HW2.out
            have a6 := HBC.out _ _ HC6.out _ HW2.out
            have a7 := HBC.out _ _ HC7.out _ HW2.out
            have HIPS : Hid (InPs w2 (fun _ => True) pz (.slice ia pz.length ic)) := Lib.hid ((HOP.out.at fun b e => (HW2.out.block b (by have := (HIL.out b e).2; have := HMX.out; omega)).trans (HKR.out b (HIL.out b e).2 (by have := (HIL.out b e).1; omega))).inPs fun _ _ => trivial)
            clear hb2 y0 y1 y2 y3 y4 y5 y6 y7
            go_wp2_with fail
            refine (KID.out _ ps (.slice pa ps.length pc) env HW2.out (HPS.out.below HRD2.out.bel) HENV.out HSP.out.2).mono ?_
            rintro e w3 ⟨⟨t5, un1, ud1, uk1, n5, hR5, he5, hF5⟩, hb3⟩
            obtain ⟨uk, un, uns, ⟨uck, uci, ucs, ucl⟩, ul⟩ := t5
            have HF5 := Lib.hid hF5
            obtain ⟨⟨_, _, uan, ucn, rfl, -⟩, ⟨_, _, _, uad, ucd, rfl, -⟩, uak, uc2, rfl, -⟩ := hF5
            have he6 : e = .returned (.tuple #[.agg #[.int .i64 uk, .string un, .slice uan uns.length ucn, .int .i64 uck, .int .i64 uci, .string ucs, .slice uad ucl.length ucd, .slice uak ul.length uc2], .int .i64 (n5 : Int)]) := he5
            subst he6
            have HR6 := Lib.hid (renRs_snoc2 HRR.out (show RenR U (if fr ≤ (l.take j).length then pushE env ns nums else env) n2 (.mk tk tn tns (.mk tck tci tcs tcl) tl) (.mk uk un uns (.mk uck uci ucs ucl) ul) n5 by rw [HTL.out, if_neg HFJ.out]; exact hR5))
            have HRD3 := Lib.hid (HRD2.out.call hb3)
            have HX3 := Lib.hid ((hb3.block X (by have := HXL.out; omega)).trans HX2.out)
            have HW3 := Lib.hid (HW2.out.trans (hb3.mono HW2.out.size))
            have HS3 : Hid (w2.heap.size ≤ w3.heap.size) := Lib.hid hb3.size
            clear hb3 hR5 he5 a0 a1 a2 a3 a4 a5 a6 a7 x7
            obtain ⟨z0, z1, z2, z3, z4, z5, z6, z7⟩ := look8q HX3.out
            obtain ⟨g0, g1, g2, g3, g4, g5, g6, g7⟩ := free8q HX3.out
            go_upto_region 23 with fail
            have HX4 := Lib.hid (put8 (v0 := .int .i64 uk) (v1 := .string un) (v2 := .slice uan uns.length ucn) (v3 := .int .i64 uck) (v4 := .int .i64 uci) (v5 := .string ucs) (v6 := .slice uad ucl.length ucd) (v7 := .slice uak ul.length uc2) HX3.out)
            have HB4 := Lib.hid (below8 (B := X) (w0 := w3) (W := w3) (Below.refl _ _) (Nat.le_refl X) (.int .i64 uk) (.string un) (.slice uan uns.length ucn) (.int .i64 uck) (.int .i64 uci) (.string ucs) (.slice uad ucl.length ucd) (.slice uak ul.length uc2))
            generalize hw4 : ((((((((w3.setCell ⟨X, 0, none⟩ (.int .i64 uk)).setCell ⟨X, 1, none⟩ (.string un)).setCell ⟨X, 2, none⟩ (.slice uan uns.length ucn)).setCell ⟨X, 3, none⟩ (.int .i64 uck)).setCell ⟨X, 4, none⟩ (.int .i64 uci)).setCell ⟨X, 5, none⟩ (.string ucs)).setCell ⟨X, 6, none⟩ (.slice uad ucl.length ucd)).setCell ⟨X, 7, none⟩ (.slice uak ul.length uc2)) = w4 at *
            have HO4 : Hid (∀ b, b ≠ X → w4.heap[b]? = w3.heap[b]?) := Lib.hid fun b hb => by
              rw [← hw4]
              repeat rw [Below.heap_setCell _ _ _ _ hb]
            have HS4 : Hid (w4.heap.size = w3.heap.size) := Lib.hid (by rw [← hw4]; simp only [size_put])
            clear hw4 z0 z1 z2 z3 z4 z5 z6 z7 g0 g1 g2 g3 g4 g5 g6 g7
            have hqX : w.heap.size + 3 ≤ X := by have := HXE.out; have := HMX.out; have := HMW.out; omega
            have HRD4 : Hid (RD w w4 (.cells #[.int .i64 k, .string nm, .slice an ns.length cn, .int .i64 ck, .int .i64 ci, .string cs, .slice ad cl.length cd, .slice ak l.length c] 28) (.cells #[.int .i64 k, .string (nm2), .slice va1 ns.length vc1, .int .i64 ck, .int .i64 ci, .string cs, .slice ad cl.length cd, v2] 28)) := Lib.hid ⟨HRD3.out.bel.trans (HB4.out.mono (by omega)), (HO4.out _ (by omega)).trans HRD3.out.eb, (HO4.out _ (by omega)).trans HRD3.out.zb, (HO4.out _ (by omega)).trans HRD3.out.qb⟩
            obtain ⟨av, cv, rfl, hown⟩ := HOE.out.slice
            have HOWN := Lib.hid hown
            have HOLD5 : Hid (∀ b, b < X → (w4.alloc (.cells #[.int .i64 uk, .string un, .slice uan uns.length ucn, .int .i64 uck, .int .i64 uci, .string ucs, .slice uad ucl.length ucd, .slice uak ul.length uc2] 28)).heap[b]? = wr.heap[b]?) := Lib.hid fun b hb => by
              rw [Below.heap_alloc _ _ _ (by have := HS4.out; have := HS3.out; have := HXL.out; omega), HO4.out b (by omega)]
              exact HW3.out.block b (by rw [HXE.out]; exact hb)
            have HOE5 : Hid (OutE (w4.alloc (.cells #[.int .i64 uk, .string un, .slice uan uns.length ucn, .int .i64 uck, .int .i64 uci, .string ucs, .slice uad ucl.length ucd, .slice uak ul.length uc2] 28)) wm.heap.size (fun b => S b ∨ wm.heap.size ≤ b) l1 (.slice av l1.length cv)) := Lib.hid (HOE.out.at (fun b e => HOLD5.out b (by rw [← HXE.out]; exact (hown b e).2)) (fun b hb hl => ⟨HOLD5.out b (by rw [← HXE.out]; exact hl), hb⟩))
            have HF6 : Hid (InF (w4.alloc (.cells #[.int .i64 uk, .string un, .slice uan uns.length ucn, .int .i64 uck, .int .i64 uci, .string ucs, .slice uad ucl.length ucd, .slice uak ul.length uc2] 28)) (fun b => (S b ∨ wm.heap.size ≤ b) ∧ some b ≠ (Value.slice av l1.length cv).ownBlock) (.mk uk un uns (.mk uck uci ucs ucl) ul) (.slice uan uns.length ucn) (.slice uad ucl.length ucd) (.slice uak ul.length uc2)) := Lib.hid (HF5.out.move (fun b hb _ => ⟨hb.imp id (fun h => by have := HXL.out; have := HMX.out; have := HXE.out; omega), fun e => by
              have h1 := HOWN.out b e.symm
              have h2 := HXE.out
              have h3 := HXL.out
              rcases hb with hb | hb
              · have := HSL.out b hb; have := HMW.out; omega
              · omega⟩) (fun b o y hb hc => by
                have hlt := World.block_lt_of_cell? _ _ hc
                have hbX : b ≠ X := by
                  have h3 := HXL.out
                  rcases hb with hb | hb
                  · have := HSL.out b hb; omega
                  · omega
                rw [World.cell?_of_block (w := w3) (a := ⟨b, o, none⟩) ((Below.heap_alloc _ _ _ (by have := HS4.out; show b < _; have hlt' : b < w3.heap.size := hlt; omega)).trans (HO4.out b hbX))]; exact hc))
            have hC5 : wm.heap.size ≤ (w4.alloc (.cells #[.int .i64 uk, .string un, .slice uan uns.length ucn, .int .i64 uck, .int .i64 uci, .string ucs, .slice uad ucl.length ucd, .slice uak ul.length uc2] 28)).heap.size := by rw [size_new]; have := HS4.out; have := HS3.out; have := HXL.out; have := HMX.out; have := HXE.out; omega
            have HC5 := Lib.hid hC5
            have hl5 : l1.length ≤ 100000 := by have := HL1.out; have := HPZ.out; have := len_sizeEs l; omega
            have k7 : w4.cell? ⟨w.heap.size + 2, 7, none⟩ = some (.slice av l1.length cv) := by rw [Lib.cell_of_heap HRD4.out.qb]; rfl
            obtain ⟨u0, u1, u2, u3, u4, u5, u6, u7⟩ := look8q HX4.out
            have HQL5 : Hid (w.heap.size + 2 < (w4.alloc (.cells #[.int .i64 uk, .string un, .slice uan uns.length ucn, .int .i64 uck, .int .i64 uci, .string ucs, .slice uad ucl.length ucd, .slice uak ul.length uc2] 28)).heap.size) := Lib.hid (by rw [size_new]; exact Nat.lt_succ_of_lt (lt_of_block HRD4.out.qb))
            clear hown hC5
            go_upto_region 18 with (at_builtin; refine wpList_append_e rfl _ _ rfl wm.heap.size (fun b => S b ∨ wm.heap.size ≤ b) l1 (.slice av l1.length cv) rfl HOE5.out w4.heap.size uk un uns uck uci ucs ucl ul _ _ _ rfl (heap_alloc_new w4 _) HF6.out hl5 HC5.out ?_; intro g cap w6 h1 h2 h3; go_must (have HRD6 : Hid (RD w w6 (.cells #[.int .i64 k, .string nm, .slice an ns.length cn, .int .i64 ck, .int .i64 ci, .string cs, .slice ad cl.length cd, .slice ak l.length c] 28) (.cells #[.int .i64 k, .string (nm2), .slice va1 ns.length vc1, .int .i64 ck, .int .i64 ci, .string cs, .slice ad cl.length cd, .slice av l1.length cv] 28)) := Lib.hid ((HRD4.out.call ((Below.refl _ _).alloc (Nat.le_refl _) (.cells #[.int .i64 uk, .string un, .slice uan uns.length ucn, .int .i64 uck, .int .i64 uci, .string ucs, .slice uad ucl.length ucd, .slice uak ul.length uc2] 28))).kp (kp_grown h2) (fun b e => by have := (HOWN.out b e).1; have := HMW.out; omega))); go_must (have HOE6 := Lib.hid h1); go_must (have HG6 := Lib.hid h2); go_must (have k8 : w6.cell? ⟨w.heap.size + 2, 7, none⟩ = some (.slice av l1.length cv) := by (rw [Lib.cell_of_heap HRD6.out.qb]; rfl)); go_must (have f8 : w6.frozen? ⟨w.heap.size + 2, 7, none⟩ = false := Lib.frozen_of_heap HRD6.out.qb 7); go_must (clear h1 h2 h3))
            go_wp2
            go_roundw
            case rel =>
              refine ⟨j + 1, l1 ++ [.mk uk un uns (.mk uck uci ucs ucl) ul], n5, .slice (some ⟨g, 0, none⟩) (l1.length + 1) cap, by omega, by go_num, rfl, by rw [HTS.out]; exact HR6.out, by rw [List.length_append, HL1.out]; rfl, ?_, ?_, ?_, HRD6.out.put 7 _⟩
              · exact HOE6.out.at (fun b e => Below.heap_setCell _ _ _ _ (show b ≠ w.heap.size + 2 by have := (HOE6.out.slice.choose_spec.choose_spec.2 b e).1; have := HMW.out; omega)) (fun b hb _ => ⟨Below.heap_setCell _ _ _ _ (show b ≠ w.heap.size + 2 by rcases hb with hb | hb; (have := HSL.out b hb; omega); (have := HMW.out; omega)), hb⟩)
              · intro b h1 h2
                have h4 : (w6.setCell ⟨w.heap.size + 2, 7, none⟩ (.slice (some ⟨g, 0, none⟩) (l1.length + 1) cap)).heap[b]? = w6.heap[b]? := Below.heap_setCell _ _ _ _ h2
                exact h4.trans ((HG6.out.block b (by have := HC5.out; omega) (fun e => by have := (HOWN.out _ e.symm).1; omega)).trans ((HOLD5.out b (by have := HMX.out; have := HXE.out; omega)).trans (HKR.out b h1 h2)))
              · have h1 : (w6.setCell ⟨w.heap.size + 2, 7, none⟩ (.slice (some ⟨g, 0, none⟩) (l1.length + 1) cap)).heap.size = w6.heap.size := by simp only [size_put]
                rw [h1]
                exact Nat.le_trans HC5.out HG6.out.size
            case measure => simp [intOf]; omega
        · obtain rfl : j = l.length := by omega
          rw [List.take_length] at HRR
          obtain ⟨av, cv, rfl, hown⟩ := HOE.out.slice
          have HOWN := Lib.hid hown
          rw [HL1.out] at *
          clear hown hpot2
          go_upto_region 24 with fail
          obtain ⟨t0, t1, t2, t3, t4, t5, t6, t7⟩ := look8q HRD0'.out.zb
          obtain ⟨g0, g1, g2, g3, g4, g5, g6, g7⟩ := free8q HRD0'.out.zb
          obtain ⟨u0, u1, u2, u3, u4, u5, u6, u7⟩ := look8q HRD0'.out.qb
          have HZ9 := Lib.hid (put8 (v0 := .int .i64 k) (v1 := .string nm2) (v2 := .slice va1 ns.length vc1) (v3 := .int .i64 ck) (v4 := .int .i64 ci) (v5 := .string cs) (v6 := .slice ad cl.length cd) (v7 := .slice av l.length cv) HRD0'.out.zb)
          have HB9 := Lib.hid (below8 HRD0'.out.bel (Nat.le_succ w.heap.size) (.int .i64 k) (.string nm2) (.slice va1 ns.length vc1) (.int .i64 ck) (.int .i64 ci) (.string cs) (.slice ad cl.length cd) (.slice av l.length cv))
          have HO9 : Hid (∀ b, b ≠ w.heap.size + 1 → ((((((((wr.setCell ⟨w.heap.size + 1, 0, none⟩ (.int .i64 k)).setCell ⟨w.heap.size + 1, 1, none⟩ (.string nm2)).setCell ⟨w.heap.size + 1, 2, none⟩ (.slice va1 ns.length vc1)).setCell ⟨w.heap.size + 1, 3, none⟩ (.int .i64 ck)).setCell ⟨w.heap.size + 1, 4, none⟩ (.int .i64 ci)).setCell ⟨w.heap.size + 1, 5, none⟩ (.string cs)).setCell ⟨w.heap.size + 1, 6, none⟩ (.slice ad cl.length cd)).setCell ⟨w.heap.size + 1, 7, none⟩ (.slice av l.length cv)).heap[b]? = wr.heap[b]?) := Lib.hid fun b hb => by
            repeat rw [Below.heap_setCell _ _ _ _ hb]
          have HINF : Hid (InF ((((((((wr.setCell ⟨w.heap.size + 1, 0, none⟩ (.int .i64 k)).setCell ⟨w.heap.size + 1, 1, none⟩ (.string nm2)).setCell ⟨w.heap.size + 1, 2, none⟩ (.slice va1 ns.length vc1)).setCell ⟨w.heap.size + 1, 3, none⟩ (.int .i64 ck)).setCell ⟨w.heap.size + 1, 4, none⟩ (.int .i64 ci)).setCell ⟨w.heap.size + 1, 5, none⟩ (.string cs)).setCell ⟨w.heap.size + 1, 6, none⟩ (.slice ad cl.length cd)).setCell ⟨w.heap.size + 1, 7, none⟩ (.slice av l.length cv)) (fun b => S b ∨ w.heap.size ≤ b) (.mk k nm2 (nums.map numS) (.mk ck ci cs cl) l1) (.slice va1 ns.length vc1) (.slice ad cl.length cd) (.slice av l.length cv)) := Lib.hid (by
            refine ⟨⟨HI.out.1.1, HN2S.out, ?_⟩, ⟨HI.out.2.1.1, HI.out.2.1.2.1, HI.out.2.1.2.2.1, ?_⟩, ?_⟩
            · refine (HOT.out.at fun b e => (HO9.out b (by have := (HVL.out b e).1; omega)).trans (HKR.out b (HVL.out b e).2 (by have := (HVL.out b e).1; omega))).inN (fun s hs => ?_) (fun b e => .inr (by have := (HVL.out b e).1; omega))
              rw [List.mem_map] at hs
              obtain ⟨i, hi, rfl⟩ := hs
              exact numS_size i (by have := nums_lt HNMS.out i hi; have := HPOT.out; omega)
            · exact insTo (insBelow HI.out.2.1.2.2.2 HB9.out) fun b hb _ => .inl hb
            · refine OutE.inK (C := wm.heap.size) (P := fun b => S b ∨ wm.heap.size ≤ b) ?_ (fun b hb => hb.imp id (fun h => by have := HMW.out; omega)) (fun b e => .inr (by have := (HOWN.out b e).1; have := HMW.out; omega))
              exact HOE.out.at (fun b e => HO9.out b (by have := (HOWN.out b e).1; have := HMW.out; omega)) (fun b hb _ => ⟨HO9.out b (by rcases hb with hb | hb; (have := HSL.out b hb; omega); (have := HMW.out; omega)), hb⟩))
          clear hn hsz hl hm hmn hmd hln hld hpl hpm hul hum
          go_wp2
          refine bodyPost_ret (results_row_one (P := Tryz.prog) rfl _ _ (w.heap.size + 1) 28 _ (0, 0) _ rfl HZ9.out Tryz.underlying28 rfl (by kernel_rfl)) rfl ⟨⟨.mk k nm2 (nums.map numS) (.mk ck ci cs cl) l1, .slice va1 ns.length vc1, .slice ad cl.length cd, .slice av l.length cv, n2, ?_, rfl, HINF.out⟩, HB9.out⟩
          rw [RenR]
          exact ⟨nums, n1, l1, HNMS.out, hnl, by rw [HFR.out]; exact HRR.out, by rw [HNM2.out]⟩
mutual
theorem rren_any : ∀ t : PE, RRenOk t
  | .mk k nm ns (.mk ck ci cs cl) l => rren_step k nm ns ck ci cs cl l (rren_all l)
theorem rren_all : ∀ l : List PE, ∀ t ∈ l, RRenOk t
  | [], t, h => by cases h
  | u :: l, t, h => (List.mem_cons.1 h).elim (fun e => e ▸ rren_any u) (fun h => rren_all l t h)
end
end Go.Proofs.YtgajendgephkaaaGreatDoor.Core
