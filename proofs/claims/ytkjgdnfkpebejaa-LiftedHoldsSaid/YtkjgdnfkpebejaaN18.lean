/-
Package lift's Lift, for every expression in memory. No condition.
-/
import Derived.Test.YtkjgdnfkpebejaaN11d
import Derived.Test.YtkjgdnfkpebejaaN12
import Derived.Deep.DeepCutAuto

namespace Go.Proofs.Ytkjgdnfkpebejaa.Core
open Go.ChangeShapes Go.WideShapes Go.ChangeAt Go.RowKit Go.Deep
open Dat (PT ok64 RowX)
set_option maxRecDepth 100000

/-- Nine cells of a block at once. -/
theorem look9n {W : World} {g : Nat} {x0 x1 x2 x3 x4 x5 x6 x7 x8 : Value} {ty : TypeId} (hb : W.heap[g]? = some (.cells #[x0, x1, x2, x3, x4, x5, x6, x7, x8] ty)) :
    W.cell? ⟨g, 0, none⟩ = some x0 ∧ W.cell? ⟨g, 1, none⟩ = some x1 ∧ W.cell? ⟨g, 2, none⟩ = some x2 ∧ W.cell? ⟨g, 3, none⟩ = some x3 ∧ W.cell? ⟨g, 4, none⟩ = some x4 ∧ W.cell? ⟨g, 5, none⟩ = some x5 ∧ W.cell? ⟨g, 6, none⟩ = some x6 ∧ W.cell? ⟨g, 7, none⟩ = some x7 ∧ W.cell? ⟨g, 8, none⟩ = some x8 := by
  refine ⟨?_, ?_, ?_, ?_, ?_, ?_, ?_, ?_, ?_⟩
  all_goals (rw [Lib.cell_of_heap hb]; rfl)
theorem free9n {W : World} {g : Nat} {x0 x1 x2 x3 x4 x5 x6 x7 x8 : Value} {ty : TypeId} (hb : W.heap[g]? = some (.cells #[x0, x1, x2, x3, x4, x5, x6, x7, x8] ty)) :
    W.frozen? ⟨g, 0, none⟩ = false ∧ W.frozen? ⟨g, 1, none⟩ = false ∧ W.frozen? ⟨g, 2, none⟩ = false ∧ W.frozen? ⟨g, 3, none⟩ = false ∧ W.frozen? ⟨g, 4, none⟩ = false ∧ W.frozen? ⟨g, 5, none⟩ = false ∧ W.frozen? ⟨g, 6, none⟩ = false ∧ W.frozen? ⟨g, 7, none⟩ = false ∧ W.frozen? ⟨g, 8, none⟩ = false :=
  ⟨Lib.frozen_of_heap hb 0, Lib.frozen_of_heap hb 1, Lib.frozen_of_heap hb 2, Lib.frozen_of_heap hb 3, Lib.frozen_of_heap hb 4, Lib.frozen_of_heap hb 5, Lib.frozen_of_heap hb 6, Lib.frozen_of_heap hb 7, Lib.frozen_of_heap hb 8⟩
theorem bput9 {W : World} {b : Nat} {u0 u1 u2 u3 u4 u5 u6 u7 u8 v0 v1 v2 v3 v4 v5 v6 v7 v8 : Value} {t : TypeId} {fr : Nat × Nat} (h : W.heap[b]? = some (.cells #[u0, u1, u2, u3, u4, u5, u6, u7, u8] t fr)) : (((((((((W.setCell ⟨b, 0, none⟩ (v0)).setCell ⟨b, 1, none⟩ (v1)).setCell ⟨b, 2, none⟩ (v2)).setCell ⟨b, 3, none⟩ (v3)).setCell ⟨b, 4, none⟩ (v4)).setCell ⟨b, 5, none⟩ (v5)).setCell ⟨b, 6, none⟩ (v6)).setCell ⟨b, 7, none⟩ (v7)).setCell ⟨b, 8, none⟩ (v8)).heap[b]? = some (.cells #[v0, v1, v2, v3, v4, v5, v6, v7, v8] t fr) := by
  have h0 : (W.setCell ⟨b, 0, none⟩ v0).heap[b]? = some (.cells #[v0, u1, u2, u3, u4, u5, u6, u7, u8] t fr) := Go.Joins.block_setCell h v0
  have h1 : ((W.setCell ⟨b, 0, none⟩ v0).setCell ⟨b, 1, none⟩ v1).heap[b]? = some (.cells #[v0, v1, u2, u3, u4, u5, u6, u7, u8] t fr) := Go.Joins.block_setCell h0 v1
  have h2 : (((W.setCell ⟨b, 0, none⟩ v0).setCell ⟨b, 1, none⟩ v1).setCell ⟨b, 2, none⟩ v2).heap[b]? = some (.cells #[v0, v1, v2, u3, u4, u5, u6, u7, u8] t fr) := Go.Joins.block_setCell h1 v2
  have h3 : ((((W.setCell ⟨b, 0, none⟩ v0).setCell ⟨b, 1, none⟩ v1).setCell ⟨b, 2, none⟩ v2).setCell ⟨b, 3, none⟩ v3).heap[b]? = some (.cells #[v0, v1, v2, v3, u4, u5, u6, u7, u8] t fr) := Go.Joins.block_setCell h2 v3
  have h4 : (((((W.setCell ⟨b, 0, none⟩ v0).setCell ⟨b, 1, none⟩ v1).setCell ⟨b, 2, none⟩ v2).setCell ⟨b, 3, none⟩ v3).setCell ⟨b, 4, none⟩ v4).heap[b]? = some (.cells #[v0, v1, v2, v3, v4, u5, u6, u7, u8] t fr) := Go.Joins.block_setCell h3 v4
  have h5 : ((((((W.setCell ⟨b, 0, none⟩ v0).setCell ⟨b, 1, none⟩ v1).setCell ⟨b, 2, none⟩ v2).setCell ⟨b, 3, none⟩ v3).setCell ⟨b, 4, none⟩ v4).setCell ⟨b, 5, none⟩ v5).heap[b]? = some (.cells #[v0, v1, v2, v3, v4, v5, u6, u7, u8] t fr) := Go.Joins.block_setCell h4 v5
  have h6 : (((((((W.setCell ⟨b, 0, none⟩ v0).setCell ⟨b, 1, none⟩ v1).setCell ⟨b, 2, none⟩ v2).setCell ⟨b, 3, none⟩ v3).setCell ⟨b, 4, none⟩ v4).setCell ⟨b, 5, none⟩ v5).setCell ⟨b, 6, none⟩ v6).heap[b]? = some (.cells #[v0, v1, v2, v3, v4, v5, v6, u7, u8] t fr) := Go.Joins.block_setCell h5 v6
  have h7 : ((((((((W.setCell ⟨b, 0, none⟩ v0).setCell ⟨b, 1, none⟩ v1).setCell ⟨b, 2, none⟩ v2).setCell ⟨b, 3, none⟩ v3).setCell ⟨b, 4, none⟩ v4).setCell ⟨b, 5, none⟩ v5).setCell ⟨b, 6, none⟩ v6).setCell ⟨b, 7, none⟩ v7).heap[b]? = some (.cells #[v0, v1, v2, v3, v4, v5, v6, v7, u8] t fr) := Go.Joins.block_setCell h6 v7
  have h8 : (((((((((W.setCell ⟨b, 0, none⟩ v0).setCell ⟨b, 1, none⟩ v1).setCell ⟨b, 2, none⟩ v2).setCell ⟨b, 3, none⟩ v3).setCell ⟨b, 4, none⟩ v4).setCell ⟨b, 5, none⟩ v5).setCell ⟨b, 6, none⟩ v6).setCell ⟨b, 7, none⟩ v7).setCell ⟨b, 8, none⟩ v8).heap[b]? = some (.cells #[v0, v1, v2, v3, v4, v5, v6, v7, v8] t fr) := Go.Joins.block_setCell h7 v8
  exact h8
theorem bbel9 {B : Nat} {w0 W : World} (h : Below B w0 W) {b : Nat} (hb : B ≤ b) (v0 v1 v2 v3 v4 v5 v6 v7 v8 : Value) : Below B w0 (((((((((W.setCell ⟨b, 0, none⟩ (v0)).setCell ⟨b, 1, none⟩ (v1)).setCell ⟨b, 2, none⟩ (v2)).setCell ⟨b, 3, none⟩ (v3)).setCell ⟨b, 4, none⟩ (v4)).setCell ⟨b, 5, none⟩ (v5)).setCell ⟨b, 6, none⟩ (v6)).setCell ⟨b, 7, none⟩ (v7)).setCell ⟨b, 8, none⟩ (v8)) := (((((((((h.setCell (p := ⟨b, 0, none⟩) hb v0).setCell (p := ⟨b, 1, none⟩) hb v1).setCell (p := ⟨b, 2, none⟩) hb v2).setCell (p := ⟨b, 3, none⟩) hb v3).setCell (p := ⟨b, 4, none⟩) hb v4).setCell (p := ⟨b, 5, none⟩) hb v5).setCell (p := ⟨b, 6, none⟩) hb v6).setCell (p := ⟨b, 7, none⟩) hb v7).setCell (p := ⟨b, 8, none⟩) hb v8)
theorem bput9_other {W : World} {g b : Nat} (h : b ≠ g) (v0 v1 v2 v3 v4 v5 v6 v7 v8 : Value) : (((((((((W.setCell ⟨g, 0, none⟩ (v0)).setCell ⟨g, 1, none⟩ (v1)).setCell ⟨g, 2, none⟩ (v2)).setCell ⟨g, 3, none⟩ (v3)).setCell ⟨g, 4, none⟩ (v4)).setCell ⟨g, 5, none⟩ (v5)).setCell ⟨g, 6, none⟩ (v6)).setCell ⟨g, 7, none⟩ (v7)).setCell ⟨g, 8, none⟩ (v8)).heap[b]? = W.heap[b]? := by
  rw [Below.heap_setCell _ _ _ _ h, Below.heap_setCell _ _ _ _ h, Below.heap_setCell _ _ _ _ h, Below.heap_setCell _ _ _ _ h, Below.heap_setCell _ _ _ _ h, Below.heap_setCell _ _ _ _ h, Below.heap_setCell _ _ _ _ h, Below.heap_setCell _ _ _ _ h, Below.heap_setCell _ _ _ _ h]
set_option maxHeartbeats 8000000 in
theorem lift_any (t : PE) (S : Nat → Prop) (vn vd vk : Value) (w : World) (h : InF w S t vn vd vk) (hS : ∀ b, S b → b < w.heap.size) :
    Calls Try.prog 6 #[t.val vn vd vk] w fun e w' => LiftIs t e w' ∧ Below w.heap.size w w' := by
  have hup : ∀ W, Below w.heap.size w W → InF W S t vn vd vk := fun W hb => h.belowT hS hb
  have hSW : ∀ W, Below w.heap.size w W → ∀ b, S b → b < W.heap.size := fun W hb b hb2 => Nat.lt_of_lt_of_le (hS b hb2) hb.size
  have KC := Lib.hid (fun W (hb : Below w.heap.size w W) => checkE_any t S vn vd vk W (hup W hb) (hSW W hb))
  have KF := Lib.hid (fun (hc : checkE t = 0) W (hb : Below w.heap.size w W) => free_any t S vn vd vk W (hup W hb) (hSW W hb) (by have := large_of_check hc; omega))
  have KG := Lib.hid (fun W (hb : Below w.heap.size w W) => chg_any t S vn vd vk W (hup W hb))
  have KP := Lib.hid (fun (hc : checkE t = 0) W (hb : Below w.heap.size w W) => cop_any t S vn vd vk W (hup W hb) (hSW W hb) (okE_of_check hc))
  have KL := Lib.hid (fun (hc : checkE t = 0) W C lb P S vn vd vk h1 h2 h3 h4 => lifted_any t W C lb P S [] (.slice none 0 0) vn vd vk h1 (okE_of_check hc) h2 h3 h4 (by have := large_of_check hc; simp only [List.length_nil]; omega) (by have := large_of_check hc; omega))
  have HSM := Lib.hid (fun (hc : checkE t = 0) => free_small (okE_of_check hc))
  obtain ⟨k, nm, ns, ⟨ck, ci, cs, cl⟩, l⟩ := t
  obtain ⟨⟨_, _, an, cn, rfl, _⟩, ⟨_, _, _, ad, cd, rfl, _⟩, ak, c, rfl, _⟩ := h
  show Calls Try.prog 6 #[.agg #[.int .i64 k, .string nm, .slice an ns.length cn, .int .i64 ck, .int .i64 ci, .string cs, .slice ad cl.length cd, .slice ak l.length c]] w _
  obtain ⟨z0, z1, zb⟩ := two_new w (.cells #[.int .i64 k, .string nm, .slice an ns.length cn, .int .i64 ck, .int .i64 ci, .string cs, .slice ad cl.length cd, .slice ak l.length c] 28) (.cells #[.slice none 0 0, .int .i64 0, .string ⟨#[]⟩, .slice none 0 0, .int .i64 0, .int .i64 0, .string ⟨#[]⟩, .slice none 0 0, .slice none 0 0] 31)
  have hs2 : ((w.alloc (.cells #[.int .i64 k, .string nm, .slice an ns.length cn, .int .i64 ck, .int .i64 ci, .string cs, .slice ad cl.length cd, .slice ak l.length c] 28)).alloc (.cells #[.slice none 0 0, .int .i64 0, .string ⟨#[]⟩, .slice none 0 0, .int .i64 0, .int .i64 0, .string ⟨#[]⟩, .slice none 0 0, .slice none 0 0] 31)).heap.size = w.heap.size + 2 := by rw [size_new, size_new]
  have HZ0 := Lib.hid z0
  have HZ1 := Lib.hid z1
  have HZB := Lib.hid zb
  have HS2 := Lib.hid hs2
  have KP : Hid (∀ (hc : checkE (PE.mk k nm ns (.mk ck ci cs cl) l) = 0) W, Below w.heap.size w W → Calls Try.prog 22 #[.agg #[.int .i64 k, .string nm, .slice an ns.length cn, .int .i64 ck, .int .i64 ci, .string cs, .slice ad cl.length cd, .slice ak l.length c]] W fun e w' => ∃ n1 n2 d1 d2 k1 k2, e = .returned (.agg #[.int .i64 k, .string nm, .slice n1 ns.length n2, .int .i64 ck, .int .i64 ci, .string cs, .slice d1 cl.length d2, .slice k1 l.length k2]) ∧ InF w' (fun b => W.heap.size ≤ b) (PE.mk k nm ns (.mk ck ci cs cl) l) (.slice n1 ns.length n2) (.slice d1 cl.length d2) (.slice k1 l.length k2) ∧ Below W.heap.size W w') := Lib.hid fun hc W hb => by
    refine (KP.out hc W hb).mono ?_
    rintro e w' ⟨vn', vd', vk', rfl, hf, hb'⟩
    obtain ⟨⟨_, _, n1, n2, e1, _⟩, ⟨_, _, _, d1, d2, e2, _⟩, k1, k2, e3, _⟩ := id hf
    subst e1 e2 e3
    exact ⟨n1, n2, d1, d2, k1, k2, rfl, hf, hb'⟩
  simp only [PE.val] at KC KF KG KL
  clear z0 z1 zb hs2 hS hup hSW
  generalize PE.mk k nm ns (.mk ck ci cs cl) l = T at *
  go_enter Try.func6, Try.ntmps6
  go_upto_region 1 with fail
  generalize (w.alloc (.cells #[.int .i64 k, .string nm, .slice an ns.length cn, .int .i64 ck, .int .i64 ci, .string cs, .slice ad cl.length cd, .slice ak l.length c] 28)).alloc (.cells #[.slice none 0 0, .int .i64 0, .string ⟨#[]⟩, .slice none 0 0, .int .i64 0, .int .i64 0, .string ⟨#[]⟩, .slice none 0 0, .slice none 0 0] 31) = w1 at *
  obtain ⟨q, hq⟩ : ∃ q : Bool, (q = true ↔ ¬ okL T) := ⟨by classical exact decide (¬ okL T), by simp⟩
  have HQ := Lib.hid hq
  clear hq
  go_cut [18] (fun v wx => v = .bool q ∧ Below w1.heap.size w1 wx)
  case first =>
    have BX : Hid (∀ W, Below w1.heap.size w1 W → W.heap[w.heap.size]? = some (.cells #[.int .i64 k, .string nm, .slice an ns.length cn, .int .i64 ck, .int .i64 ci, .string cs, .slice ad cl.length cd, .slice ak l.length c] 28)) := Lib.hid fun W hb => (hb.block _ (by rw [HS2.out]; omega)).trans HZ0.out
    obtain ⟨x0, x1, x2, x3, x4, x5, x6, x7⟩ := look8n HZ0.out
    by_cases hc : checkE T = 0
    · have hcb : (checkE T != 0) = false := by simpa using hc
      have HF := Lib.hid (fun W hb => KF.out hc W hb)
      have HSX := Lib.hid (HSM.out hc)
      have HC := Lib.hid hc
      clear hc
      go_wp2_with fail
      refine (KC.out _ HZB.out).mono ?_
      rintro e w2 ⟨rfl, hb2⟩
      have HB2 := Lib.hid hb2
      clear hb2 x0 x1 x2 x3 x4 x5 x6 x7
      obtain ⟨x0, x1, x2, x3, x4, x5, x6, x7⟩ := look8n (BX.out _ HB2.out)
      go_wp2_with fail
      refine (HF.out _ (HZB.out.trans (HB2.out.mono HZB.out.size))).mono ?_
      rintro e w3 ⟨⟨lf, vf, rfl, hn, hsrt, hmem⟩, hb3⟩
      obtain rfl := free_row hsrt hmem HSX.out
      obtain ⟨a9, c9, e9, -⟩ := hn
      subst e9
      have HB3 := Lib.hid (HB2.out.trans (hb3.mono HB2.out.size))
      clear hb3 hsrt hmem x0 x1 x2 x3 x4 x5 x6 x7
      obtain ⟨x0, x1, x2, x3, x4, x5, x6, x7⟩ := look8n (BX.out _ HB3.out)
      by_cases h0 : freeT T = []
      · have HL0 : Hid ((freeT T).length = 0) := Lib.hid (by rw [h0]; rfl)
        have HCH := Lib.hid h0
        generalize (freeT T).length = n9 at *
        obtain rfl := HL0.out
        clear h0
        go_wp2_with fail
        refine (KG.out _ (HZB.out.trans (HB3.out.mono HZB.out.size))).mono ?_
        rintro e w4 ⟨rfl, hb4⟩
        have HB4 := Lib.hid (HB3.out.trans (hb4.mono HB3.out.size))
        have HV : Hid (chgT T = q) := Lib.hid (by
          rw [Bool.eq_iff_iff, HQ.out]
          exact ⟨fun g g2 => (by rw [g2.2.2] at g; cases g), fun g => by
            cases hg : chgT T with
            | true => rfl
            | false => exact absurd ⟨HC.out, HCH.out, hg⟩ g⟩)
        clear hb4
        go_wp2
        go_meet
        exact ⟨by rw [HV.out], HB4.out⟩
      · have hp : (0 : Int) < ((freeT T).length : Int) := by have := List.length_pos_iff.2 h0; omega
        have HV : Hid (q = true) := Lib.hid (HQ.out.2 fun g => h0 g.2.1)
        generalize (freeT T).length = n9 at *
        clear h0
        go_wp2
        go_meet
        exact ⟨by rw [HV.out], HB3.out⟩
    · have hcb : (checkE T != 0) = true := by simpa using hc
      have HV : Hid (q = true) := Lib.hid (HQ.out.2 fun g => hc g.1)
      clear hc
      go_wp2_with fail
      refine (KC.out _ HZB.out).mono ?_
      rintro e w2 ⟨rfl, hb2⟩
      have HB2 := Lib.hid hb2
      clear hb2 x0 x1 x2 x3 x4 x5 x6 x7
      go_wp2
      go_meet
      exact ⟨by rw [HV.out], HB2.out⟩
  case rest =>
  obtain ⟨rfl, hb2⟩ := hcut
  obtain ⟨w2, hw2⟩ : ∃ x, x = wc := ⟨_, rfl⟩
  subst hw2
  have HB2 := Lib.hid (HZB.out.trans (hb2.mono HZB.out.size))
  have hz2 := (hb2.block (w.heap.size + 1) (by rw [HS2.out]; omega)).trans HZ1.out
  have he2 := (hb2.block w.heap.size (by rw [HS2.out]; omega)).trans HZ0.out
  have HZ2 := Lib.hid hz2
  have HE2 := Lib.hid he2
  have HW2 : Hid (w.heap.size + 2 ≤ w2.heap.size) := Lib.hid (by have := hb2.size; rw [HS2.out] at this; exact this)
  clear hb2
  by_cases hok : okL T
  · have hq : q = false := by
      cases q with
      | false => rfl
      | true => exact absurd hok (HQ.out.1 rfl)
    subst hq
    have KP2 := Lib.hid (fun W hb => KP.out hok.1 W hb)
    have KL2 := Lib.hid (fun W C lb P S vn vd vk h1 h2 h3 h4 => KL.out hok.1 W C lb P S vn vd vk h1 h2 h3 h4)
    have HYES := Lib.hid hok
    clear hok hz2
    have hb3 := (Below.refl w2.heap.size w2).alloc (Nat.le_refl _) (.cells #[.slice none 0 0] 56)
    have HL3 := Lib.hid (heap_alloc_new w2 (.cells #[.slice none 0 0] 56))
    have HS3 := Lib.hid (size_new w2 (.cells #[.slice none 0 0] 56))
    have HE3 := Lib.hid ((hb3.block w.heap.size (by have := HW2.out; omega)).trans HE2.out)
    have HZ3 := Lib.hid ((hb3.block (w.heap.size + 1) (by have := HW2.out; omega)).trans HZ2.out)
    have HB3 := Lib.hid (HB2.out.trans (hb3.mono HB2.out.size))
    clear hb3 he2 KC KF KG KP KL
    go_upto_region 4 with fail
    generalize w2.alloc (.cells #[.slice none 0 0] 56) = w3 at *
    obtain ⟨x0, x1, x2, x3, x4, x5, x6, x7⟩ := look8n HE3.out
    go_wp2_with fail
    refine (KP2.out _ HB3.out).mono ?_
    rintro e w4 ⟨n1, n2, d1, d2, k1, k2, rfl, hf4, hb4⟩
    have HB4 := Lib.hid (HB3.out.trans (hb4.mono HB3.out.size))
    have HL4 := Lib.hid ((hb4.block w2.heap.size (by rw [HS3.out]; omega)).trans HL3.out)
    have HZ4 := Lib.hid ((hb4.block (w.heap.size + 1) (by rw [HS3.out]; have := HW2.out; omega)).trans HZ3.out)
    have hst4 : LfSt w4 w2.heap.size w2.heap.size (fun b => b ≠ w.heap.size + 1) [] (.slice none 0 0) := ⟨HL4.out, OutF.nil _ _ _, Nat.le_refl _, by intro e; cases e⟩
    have HW4 : Hid (w2.heap.size + 1 ≤ w4.heap.size) := Lib.hid (by have := hb4.size; rw [HS3.out] at this; exact this)
    have KQ := Lib.hid (KL2.out w4 w2.heap.size w2.heap.size (fun b => b ≠ w.heap.size + 1) (fun b => w2.heap.size + 1 ≤ b ∧ b < w4.heap.size) _ _ _ (hf4.move (fun b hb hlt => ⟨by rw [← HS3.out]; exact hb, hlt⟩) fun _ _ _ _ h => h) (fun b hb => ⟨hb.2, ⟨by have := hb.1; omega, by intro e; cases e⟩, by have := hb.1; have := HW2.out; omega⟩) hst4 (fun b hb => by have := HW4.out; have := HW2.out; omega))
    clear hf4 hb4 hst4 x0 x1 x2 x3 x4 x5 x6 x7
    unfold LiftedIs at KQ
    go_wp2_with fail
    refine KQ.out.mono ?_
    rintro e w5 ⟨k5, nm5, ns5, ck5, ci5, cs5, cl5, l5, vn5, vd5, vk5, v6, rfl, ht5, hf5, hst5, hfr5⟩
    obtain ⟨aF, cF, rfl, hownF⟩ := hst5.row.slice
    obtain ⟨n51, n52, en5, -⟩ := id hf5.1.2.2
    obtain ⟨d51, d52, ed5, -⟩ := id hf5.2.1.2.2.2
    obtain ⟨k51, k52, ek5, -⟩ := id hf5.2.2
    subst en5 ed5 ek5
    have HT5 := Lib.hid ht5
    have HF5 := Lib.hid hf5
    have HST5 := Lib.hid hst5
    have HOWN := Lib.hid hownF
    have hb6 := (Below.refl w5.heap.size w5).alloc (Nat.le_refl _) (.cells #[.int .i64 k5, .string nm5, .slice n51 ns5.length n52, .int .i64 ck5, .int .i64 ci5, .string cs5, .slice d51 cl5.length d52, .slice k51 l5.length k52] 28)
    have HZB6 := Lib.hid (heap_alloc_new w5 (.cells #[.int .i64 k5, .string nm5, .slice n51 ns5.length n52, .int .i64 ck5, .int .i64 ci5, .string cs5, .slice d51 cl5.length d52, .slice k51 l5.length k52] 28))
    have hz5 := (hfr5.1.block (w.heap.size + 1) (by have := HW2.out; omega)).trans HZ4.out
    have hz6 := (hb6.block _ (lt_of_block hz5)).trans hz5
    have hl6 := (hb6.block _ (lt_of_block hst5.blk)).trans hst5.blk
    have HB6 := Lib.hid ((HB4.out.trans (hfr5.1.mono HB2.out.size)).trans (hb6.mono (Nat.le_trans HB4.out.size hfr5.1.size)))
    have HB56 := Lib.hid hb6
    have HZ6 := Lib.hid hz6
    have HL6 := Lib.hid hl6
    clear ht5 hf5 hst5 hfr5 hownF hb6 hz5 hz6 hl6 KQ
    go_upto_region 5 with fail
    generalize w5.alloc (.cells #[.int .i64 k5, .string nm5, .slice n51 ns5.length n52, .int .i64 ck5, .int .i64 ci5, .string cs5, .slice d51 cl5.length d52, .slice k51 l5.length k52] 28) = w6 at *
    obtain ⟨y0, y1, y2, y3, y4, y5, y6, y7⟩ := look8n HZB6.out
    have q0 : w6.cell? ⟨w2.heap.size, 0, none⟩ = some (.slice aF (liftT [] T).2.length cF) := by rw [Lib.cell_of_heap HL6.out]; rfl
    obtain ⟨z0, z1, z2, z3, z4, z5, z6, z7, z8⟩ := look9n HZ6.out
    obtain ⟨f0, f1, f2, f3, f4, f5, f6, f7, f8⟩ := free9n HZ6.out
    have HZ9 := Lib.hid (bput9 (v0 := .slice aF (liftT [] T).2.length cF) (v1 := .int .i64 k5) (v2 := .string nm5) (v3 := .slice n51 ns5.length n52) (v4 := .int .i64 ck5) (v5 := .int .i64 ci5) (v6 := .string cs5) (v7 := .slice d51 cl5.length d52) (v8 := .slice k51 l5.length k52) HZ6.out)
    have HB9 := Lib.hid (bbel9 HB6.out (Nat.le_succ w.heap.size) (.slice aF (liftT [] T).2.length cF) (.int .i64 k5) (.string nm5) (.slice n51 ns5.length n52) (.int .i64 ck5) (.int .i64 ci5) (.string cs5) (.slice d51 cl5.length d52) (.slice k51 l5.length k52))
    have HX9 := Lib.hid (fun b (hb : b ≠ w.heap.size + 1) => bput9_other (W := w6) hb (.slice aF (liftT [] T).2.length cF) (.int .i64 k5) (.string nm5) (.slice n51 ns5.length n52) (.int .i64 ck5) (.int .i64 ci5) (.string cs5) (.slice d51 cl5.length d52) (.slice k51 l5.length k52))
    have hf9 := HF5.out.below HB56.out
    have HF9 := Lib.hid (hf9.stays (w9 := (((((((((w6.setCell ⟨w.heap.size + 1, 0, none⟩ (.slice aF (liftT [] T).2.length cF)).setCell ⟨w.heap.size + 1, 1, none⟩ (.int .i64 k5)).setCell ⟨w.heap.size + 1, 2, none⟩ (.string nm5)).setCell ⟨w.heap.size + 1, 3, none⟩ (.slice n51 ns5.length n52)).setCell ⟨w.heap.size + 1, 4, none⟩ (.int .i64 ck5)).setCell ⟨w.heap.size + 1, 5, none⟩ (.int .i64 ci5)).setCell ⟨w.heap.size + 1, 6, none⟩ (.string cs5)).setCell ⟨w.heap.size + 1, 7, none⟩ (.slice d51 cl5.length d52)).setCell ⟨w.heap.size + 1, 8, none⟩ (.slice k51 l5.length k52))) (S9 := fun _ => True) (fun _ _ => trivial) fun b hb => HX9.out b (by have := HW2.out; have := HW4.out; rcases hb.1 with g | g; (have := g.1; omega); omega))
    have HR9 := Lib.hid (OutF.inFs (S := fun _ => True) (P := fun _ => True) ((HST5.out.row.below HB56.out).at (w' := (((((((((w6.setCell ⟨w.heap.size + 1, 0, none⟩ (.slice aF (liftT [] T).2.length cF)).setCell ⟨w.heap.size + 1, 1, none⟩ (.int .i64 k5)).setCell ⟨w.heap.size + 1, 2, none⟩ (.string nm5)).setCell ⟨w.heap.size + 1, 3, none⟩ (.slice n51 ns5.length n52)).setCell ⟨w.heap.size + 1, 4, none⟩ (.int .i64 ck5)).setCell ⟨w.heap.size + 1, 5, none⟩ (.int .i64 ci5)).setCell ⟨w.heap.size + 1, 6, none⟩ (.string cs5)).setCell ⟨w.heap.size + 1, 7, none⟩ (.slice d51 cl5.length d52)).setCell ⟨w.heap.size + 1, 8, none⟩ (.slice k51 l5.length k52))) (fun b e => HX9.out b (by have := (HOWN.out b e).1; have := HW2.out; omega)) (fun b hb _ => ⟨HX9.out b hb.1, trivial⟩)) (fun _ _ _ => trivial) (fun _ _ => trivial))
    clear hf9 HX9 HST5 HF5 HB56 KL2 KP2
    go_wp2
    refine bodyPost_ret (results_row_one (P := Try.prog) rfl _ _ (w.heap.size + 1) 31 _ (0, 0) _ rfl HZ9.out Try.underlying31 rfl (by kernel_rfl)) rfl ⟨?_, HB9.out⟩
    exact liftIs_yes HYES.out ⟨_, _, _, _, _, _, _, _, _, _, _, _, rfl, HT5.out, HF9.out, HR9.out⟩
  · have hq : q = true := HQ.out.2 hok
    subst hq
    have HNO := Lib.hid hok
    clear hok he2
    obtain ⟨z0, z1, z2, z3, z4, z5, z6, z7, z8⟩ := look9n hz2
    obtain ⟨f0, f1, f2, f3, f4, f5, f6, f7, f8⟩ := free9n hz2
    have HZ9 := Lib.hid (bput9 (v0 := .slice none 0 0) (v1 := .int .i64 0) (v2 := .string ⟨#[]⟩) (v3 := .slice none 0 0) (v4 := .int .i64 0) (v5 := .int .i64 0) (v6 := .string ⟨#[]⟩) (v7 := .slice none 0 0) (v8 := .slice none 0 0) HZ2.out)
    have HB9 := Lib.hid (bbel9 HB2.out (Nat.le_succ w.heap.size) (.slice none 0 0) (.int .i64 0) (.string ⟨#[]⟩) (.slice none 0 0) (.int .i64 0) (.int .i64 0) (.string ⟨#[]⟩) (.slice none 0 0) (.slice none 0 0))
    clear hz2 KC KF KG KP KL
    go_wp2
    refine bodyPost_ret (results_row_one (P := Try.prog) rfl _ _ (w.heap.size + 1) 31 _ (0, 0) _ rfl HZ9.out Try.underlying31 rfl (by kernel_rfl)) rfl ⟨?_, HB9.out⟩
    exact liftIs_no HNO.out
end Go.Proofs.Ytkjgdnfkpebejaa.Core
