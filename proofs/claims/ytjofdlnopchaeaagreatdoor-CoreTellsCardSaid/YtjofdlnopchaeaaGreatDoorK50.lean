/-
Package core's renamed, for every expression that may be; Rename. No condition.
-/
import Derived.Test.YtjofdlnopchaeaaGreatDoorK46
import Derived.Test.YtjofdlnopchaeaaGreatDoorWKH
namespace Go.Proofs.YtjofdlnopchaeaaGreatDoor.Core
open Go.ChangeShapes Go.WideShapes Go.ChangeAt Go.RowKit Go.Deep
open Dat (PT ok64 RowX)
set_option maxRecDepth 100000

theorem renamed_step (k : Int) (nm : ByteArray) (ns : List ByteArray) (ck ci : Int) (cs : ByteArray) (cl : List PT) (l : List PE) (ih : ∀ t ∈ l, RenamedOk t) : RenamedOk (.mk k nm ns (.mk ck ci cs cl) l) := by
  intro w S C rb sb bb n N U m f env nx vn vd vk h hok hS hst ht hg hN hnx hE
  rw [okE] at hok
  obtain ⟨hform, hn4, hl4, hoks⟩ := hok
  obtain rfl := form_nil hform
  have h0 := h
  obtain ⟨⟨_, _, an, cn, rfl, hln, hmn, _⟩, ⟨_, _, _, ad, cd, rfl, _⟩, ak, c, rfl, hl, hm, _⟩ := h
  rw [sizeE] at hN hnx
  exact renamed_step0 k nm ns ck ci cs l ih w S C rb sb bb n N U m f env nx an ad ak cn cd c h0 hn4 hl4 hoks hS hst ht hg hN hnx (fun s => by have := hE s; rw [sizeE] at this; exact this) hln hmn hl hm
mutual
theorem renamed_any : ∀ t : PE, RenamedOk t
  | .mk k nm ns (.mk ck ci cs cl) l => renamed_step k nm ns ck ci cs cl l (renamed_all l)
theorem renamed_all : ∀ l : List PE, ∀ t ∈ l, RenamedOk t
  | [], t, h => by cases h
  | u :: l, t, h => (List.mem_cons.1 h).elim (fun e => e ▸ renamed_any u) (fun h => renamed_all l t h)
end
mutual
/-- How large an expression is that may be. -/
theorem chkE_size (deep n : Nat) : ∀ t : PE, (chkE deep n t).2 = 0 → sizeE t + 1 + 9 * n ≤ 9 * (chkE deep n t).1
  | .mk k nm ns d l, h => by
    rw [chkE] at h ⊢
    split at h
    · cases h
    split at h
    · cases h
    split at h
    · rename_i h1 h2 h3
      rw [if_neg h1, if_neg h2, if_pos h3]
      have h4 := chkEs_size (deep + 1) (n + 1) l h
      rw [sizeE]
      rcases names_few h3 with h5 | h5 <;> omega
    · cases h
theorem chkEs_size (deep n : Nat) : ∀ l : List PE, (chkEs deep n l).2 = 0 → sizeEs l + l.length + 9 * n ≤ 9 * (chkEs deep n l).1
  | [], _ => by
    rw [chkEs, sizeEs]
    simp
  | t :: l, h => by
    rw [chkEs] at h ⊢
    rw [sizeEs]
    split at h
    · rename_i h1
      rw [if_pos h1]
      have h2 := chkE_size deep n t h1
      have h3 := chkEs_size deep _ l h
      simp only [List.length_cons]
      omega
    · rename_i h1
      exact absurd h h1
end
theorem size_of_check {t : PE} (h : checkE t = 0) : sizeE t ≤ 36864 := by
  have h1 := chkE_size 0 0 t h
  have h2 := (chkE_pos 0 0 (by omega) t h).2.1
  omega
mutual
theorem stand_len : ∀ t : PE, (standL t).length ≤ sizeE t
  | .mk k nm ns d l => by
    have := stands_len l
    rw [standL, sizeE]
    simp only [List.length_append]
    split <;> simp <;> omega
theorem stands_len : ∀ l : List PE, (standLs l).length ≤ sizeEs l
  | [] => by rw [standLs, sizeEs]; simp
  | t :: l => by
    have := stand_len t
    have := stands_len l
    rw [standLs, sizeEs, List.length_append]
    omega
end
theorem restN_len (U : List ByteArray) (n : Nat) : restN U n ≤ U.length := by
  unfold restN
  exact List.length_filter_le _ _
/-- What Rename answers. -/
def RenameIs (C : Nat) (t : PE) (e : Ending) (w : World) : Prop := ∃ t' vn vd vk nx, e = .returned (t'.val vn vd vk) ∧ RenR (standL t) (fun _ => []) 0 t t' nx ∧ nx ≤ 1000000000 ∧ InF w (fun b => C ≤ b) t' vn vd vk
set_option maxHeartbeats 2000000 in
theorem rename_any (t : PE) (S : Nat → Prop) (vn vd vk : Value) (w : World) (h : InF w S t vn vd vk) (hS : ∀ b, S b → b < w.heap.size) (ht : TabOk w) (hok : checkE t = 0) :
    Calls Tryz.prog 9 #[t.val vn vd vk] w fun e w' => RenameIs w.heap.size t e w' ∧ Below w.heap.size w w' := by
  have hsz := size_of_check hok
  have hoke := okE_of_check hok
  have hg := lt_of_block ht.choose_spec.choose_spec
  obtain ⟨k, nm, ns, ⟨ck, ci, cs, cl⟩, l⟩ := t
  have HI := Lib.hid h
  obtain ⟨⟨_, _, an, cn, rfl, _⟩, ⟨_, _, _, ad, cd, rfl, _⟩, ak, c, rfl, _⟩ := h
  show Calls Tryz.prog 9 #[.agg #[.int .i64 k, .string nm, .slice an ns.length cn, .int .i64 ck, .int .i64 ci, .string cs, .slice ad cl.length cd, .slice ak l.length c]] w _
  obtain ⟨z0, z1, zb⟩ := two_new w (.cells #[.int .i64 k, .string nm, .slice an ns.length cn, .int .i64 ck, .int .i64 ci, .string cs, .slice ad cl.length cd, .slice ak l.length c] 28) (.cells #[.int .i64 0, .string ⟨#[]⟩, .slice none 0 0, .int .i64 0, .int .i64 0, .string ⟨#[]⟩, .slice none 0 0, .slice none 0 0] 28)
  have hs0 : ((w.alloc (.cells #[.int .i64 k, .string nm, .slice an ns.length cn, .int .i64 ck, .int .i64 ci, .string cs, .slice ad cl.length cd, .slice ak l.length c] 28)).alloc (.cells #[.int .i64 0, .string ⟨#[]⟩, .slice none 0 0, .int .i64 0, .int .i64 0, .string ⟨#[]⟩, .slice none 0 0, .slice none 0 0] 28)).heap.size = w.heap.size + 2 := by rw [size_new, size_new]
  generalize hw0 : (w.alloc (.cells #[.int .i64 k, .string nm, .slice an ns.length cn, .int .i64 ck, .int .i64 ci, .string cs, .slice ad cl.length cd, .slice ak l.length c] 28)).alloc (.cells #[.int .i64 0, .string ⟨#[]⟩, .slice none 0 0, .int .i64 0, .int .i64 0, .string ⟨#[]⟩, .slice none 0 0, .slice none 0 0] 28) = w0 at z0 z1 zb hs0
  have HW0 := Lib.hid hw0
  have Z0 := Lib.hid z0
  have Z1 := Lib.hid z1
  have ZB := Lib.hid zb
  have HS0 := Lib.hid hs0
  have KC := Lib.hid (checkE_any (.mk k nm ns (.mk ck ci cs cl) l) S _ _ _ w0 (HI.out.belowT hS zb) (fun b h => by have := hS b h; omega))
  rw [hok] at KC
  unfold PE.val at KC
  generalize hT : PE.mk k nm ns (.mk ck ci cs cl) l = T at HI hsz hoke hok ⊢
  have HT := Lib.hid hT
  have HTV : Hid (T.val (.slice an ns.length cn) (.slice ad cl.length cd) (.slice ak l.length c) = .agg #[.int .i64 k, .string nm, .slice an ns.length cn, .int .i64 ck, .int .i64 ci, .string cs, .slice ad cl.length cd, .slice ak l.length c]) := Lib.hid (by rw [← hT]; rfl)
  have HTAB := Lib.hid ht
  have HSL := Lib.hid hS
  have HOKE := Lib.hid hoke
  obtain ⟨x0, x1, x2, x3, x4, x5, x6, x7⟩ := look8w z0
  clear hw0 z0 z1 zb hT hoke hok ht hS
  go_enter Tryz.func9, Tryz.ntmps9
  go_upto_region 1 with fail
  rw [HW0.out]
  go_wp2_with fail
  refine KC.out.mono ?_
  rintro e w1 ⟨rfl, hb1⟩
  have HB1 := Lib.hid hb1
  have hl1 : w0.heap.size ≤ w1.heap.size := hb1.size
  clear x0 x1 x2 x3 x4 x5 x6 x7
  have ZR1 := Lib.hid ((hb1.block w.heap.size (by omega)).trans Z0.out)
  clear hb1
  have q0 := ZR1.out
  obtain ⟨x0, x1, x2, x3, x4, x5, x6, x7⟩ := look8w q0
  have hwl1 : w.heap.size < w1.heap.size := by omega
  have hwl2 : w.heap.size + 1 < w1.heap.size := by omega
  clear q0
  have hmm := @run_makeMap Tryz.prog
  go_upto_region 4 with fail
  clear hmm
  have s1 := size_new w1 (.map #[] 0)
  have s2 := size_new (w1.alloc (.map #[] 0)) (.map #[] 0)
  rw [s1] at s2
  have hm1 : MapI ((w1.alloc (.map #[] 0)).alloc (.map #[] 0)) w1.heap.size 0 (fun _ => none) := (MapI.made w1).alloc (.map #[] 0)
  have hm2 : MapV ((w1.alloc (.map #[] 0)).alloc (.map #[] 0)) (w1.heap.size + 1) 0 (fun _ => .slice none 0 0) := by
    have := MapV.made (w1.alloc (.map #[] 0))
    rwa [s1] at this
  have hb2 : Below w1.heap.size w1 ((w1.alloc (.map #[] 0)).alloc (.map #[] 0)) := ((Below.refl _ _).alloc (Nat.le_refl _) _).alloc (by rw [s1]; omega) _
  generalize (w1.alloc (.map #[] 0)).alloc (.map #[] 0) = w2 at *
  have z3 := heap_alloc_new w2 (.cells #[.map (some w1.heap.size), .map (some (w1.heap.size + 1)), .int .i64 0] 52)
  have s3 := size_new w2 (.cells #[.map (some w1.heap.size), .map (some (w1.heap.size + 1)), .int .i64 0] 52)
  rw [s2] at z3 s3
  have hm3 := hm1.alloc (.cells #[.map (some w1.heap.size), .map (some (w1.heap.size + 1)), .int .i64 0] 52)
  have hv3 := hm2.alloc (.cells #[.map (some w1.heap.size), .map (some (w1.heap.size + 1)), .int .i64 0] 52)
  have hb3 : Below w1.heap.size w1 (w2.alloc (.cells #[.map (some w1.heap.size), .map (some (w1.heap.size + 1)), .int .i64 0] 52)) := hb2.alloc (by rw [s2]; omega) (.cells #[.map (some w1.heap.size), .map (some (w1.heap.size + 1)), .int .i64 0] 52)
  generalize w2.alloc (.cells #[.map (some w1.heap.size), .map (some (w1.heap.size + 1)), .int .i64 0] 52) = w3 at *
  clear hm1 hm2 hb2 s1 s2 x0 x1 x2 x3 x4 x5 x6 x7
  have HB3 := Lib.hid (HB1.out.trans (hb3.mono hl1))
  have HBW3 := Lib.hid (ZB.out.trans (HB3.out.mono ZB.out.size))
  generalize hp : w1.heap.size = p at *
  have KG := Lib.hid (gather_any T w3 S (p + 1 + 1) p 0 (.map (some (p + 1))) (.int .i64 0) (fun _ => none) _ _ _ (HI.out.belowT HSL.out HBW3.out) (fun b h => ⟨by have := HSL.out b h; omega, by have := HSL.out b h; omega⟩) z3 (by omega) ⟨hm3, fun _ => ⟨Int.le_refl _, Int.le_refl _⟩⟩ (by omega))
  rw [HTV.out] at KG
  have ZR3 := Lib.hid ((HB3.out.block w.heap.size (by omega)).trans Z0.out)
  obtain ⟨x0, x1, x2, x3, x4, x5, x6, x7⟩ := look8w ZR3.out
  have hwl3 : w.heap.size < w3.heap.size := by omega
  have hrl3 : p + 1 + 1 < w3.heap.size := by omega
  have Z3 := Lib.hid z3
  have HV3 := Lib.hid hv3
  clear hb3 z3 hm3 hv3
  go_wp2_with fail
  refine KG.out.mono ?_
  rintro e w4 ⟨rfl, hc4, hk4⟩
  have hst : RenSt w4 p (p + 1 + 1) p (p + 1) (0 + sizeE T) 0 (standL T) (gatE (fun _ => none) T) (fun _ => .slice none 0 0) (fun _ => []) 0 :=
    ⟨(hk4.2 (p + 1 + 1) (by omega) (fun e => by have : p + 1 + 1 = p := Option.some.inj e; omega)).trans Z3.out, hc4.1, gat_use T, HV3.out.at (hk4.2 (p + 1) (by omega) (fun e => by have : p + 1 = p := Option.some.inj e; omega)), fun s => RowN.nil _ _, fun s i hi => (by cases hi), fun s t _ => .inl rfl, by omega, Nat.le_refl _, by omega, by omega, by omega, by omega⟩
  have HB4 : Hid (Below p w3 w4) := Lib.hid (hk4.below (by omega) (fun b e => by cases e; exact Nat.le_refl _))
  have HBW4 : Hid (Below w.heap.size w w4) := Lib.hid (HBW3.out.trans (HB4.out.mono (by omega)))
  have hrest : restN (standL T) 0 ≤ sizeE T := Nat.le_trans (restN_len _ _) (stand_len T)
  have KR := Lib.hid (renamed_any T w4 S p (p + 1 + 1) p (p + 1) (0 + sizeE T) 0 (standL T) (gatE (fun _ => none) T) (fun _ => .slice none 0 0) (fun _ => []) 0 _ _ _ (HI.out.belowT HSL.out HBW4.out) HOKE.out (fun b h => by have := HSL.out b h; omega) hst (tab_below HTAB.out hg HBW4.out) (by omega) (by omega) (by omega) (fun s => by simp; omega))
  rw [HTV.out] at KR
  have ZR4 := Lib.hid ((HB4.out.block w.heap.size (by omega)).trans ZR3.out)
  have hwl4 : w.heap.size < w4.heap.size := by have := HB4.out.size; omega
  clear hst hc4 hk4 x0 x1 x2 x3 x4 x5 x6 x7
  obtain ⟨x0, x1, x2, x3, x4, x5, x6, x7⟩ := look8w ZR4.out
  go_wp2_with fail
  refine KR.out.mono ?_
  rintro e w5 ⟨k5, nm5, ns5, ck5, ci5, cs5, cl5, l5, vn5, vd5, vk5, nx5, f5, N5, rfl, hR5, hF5, hS5, hFr5, hN5⟩
  have HR5 := Lib.hid hR5
  have HF5 := Lib.hid hF5
  have HP5 := Lib.hid hR5.pot
  have HB5 := Lib.hid hFr5.1
  have Z5 := Lib.hid ((HB5.out.block (w.heap.size + 1) (by omega)).trans ((HB4.out.block _ (by omega)).trans ((HB3.out.block _ (by omega)).trans Z1.out)))
  obtain ⟨⟨_, _, an5, cn5, rfl, _⟩, ⟨_, _, _, ad5, cd5, rfl, _⟩, ak5, c5, rfl, _⟩ := hF5
  have HSZ4 := Lib.hid hwl4
  clear hR5 hS5 hFr5 hN5 x0 x1 x2 x3 x4 x5 x6 x7
  obtain ⟨t0, t1, t2, t3, t4, t5, t6, t7⟩ := look8w Z5.out
  obtain ⟨g0, g1, g2, g3, g4, g5, g6, g7⟩ := free8w Z5.out
  have HZ5 := Lib.hid (put8 (v0 := .int .i64 k5) (v1 := .string nm5) (v2 := .slice an5 ns5.length cn5) (v3 := .int .i64 ck5) (v4 := .int .i64 ci5) (v5 := .string cs5) (v6 := .slice ad5 cl5.length cd5) (v7 := .slice ak5 l5.length c5) Z5.out)
  have HB6 := Lib.hid (below8 (HBW4.out.trans (HB5.out.mono (by omega))) (Nat.le_succ w.heap.size) (.int .i64 k5) (.string nm5) (.slice an5 ns5.length cn5) (.int .i64 ck5) (.int .i64 ci5) (.string cs5) (.slice ad5 cl5.length cd5) (.slice ak5 l5.length c5))
  go_wp2
  refine bodyPost_ret (results_cell_row (P := Tryz.prog) rfl _ _ (w.heap.size + 1) 28 _ (0, 0) _ rfl HZ5.out Tryz.underlying28 rfl (by kernel_rfl)) rfl ⟨⟨.mk k5 nm5 ns5 (.mk ck5 ci5 cs5 cl5) l5, _, _, _, nx5, rfl, HR5.out, by have := HP5.out; omega, HF5.out.move (fun b hb _ => by omega) fun b o y hb hc => ?_⟩, HB6.out⟩
  have hne : b ≠ w.heap.size + 1 := by
    have h1 : w4.heap.size ≤ b := hb.1
    have h2 := HB4.out.size
    omega
  rw [World.cell?_of_block (w := w5) (a := ⟨b, o, none⟩) (off8 _ _ _ _ _ _ _ _ hne)]
  exact hc
end Go.Proofs.YtjofdlnopchaeaaGreatDoor.Core
