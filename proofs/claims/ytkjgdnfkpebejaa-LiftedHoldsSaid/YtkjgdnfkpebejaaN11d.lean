/-
Package lift's lifted, for every expression that may be: what is left of it, and the functions. No condition but that the expression is small.
-/
import Derived.Test.YtkjgdnfkpebejaaWNE
import Derived.StillTailTactics

namespace Go.Proofs.Ytkjgdnfkpebejaa.Core
open Go.ChangeShapes Go.WideShapes Go.ChangeAt Go.RowKit Go.Deep
open Dat (PT ok64 RowX)
set_option maxRecDepth 100000

/-- A function is put behind those that there are. -/
theorem LfSt.appended {W w5 : World} {C lb g n cap : Nat} {P : Nat → Prop} {fs fs2 : List FunT} {v : Value} (h : LfSt W C lb P fs v) (h5 : OutF w5 C (fun b => P b ∧ b ≠ lb) fs2 (.slice (some ⟨g, 0, none⟩) n cap)) (hg : W.grownBy w5 v.ownBlock) (hat : v.ownBlock = some g ∨ g = W.heap.size) : LfSt (w5.setCell ⟨lb, 0, none⟩ (.slice (some ⟨g, 0, none⟩) n cap)) C lb P fs2 (.slice (some ⟨g, 0, none⟩) n cap) ∧ LfFr C lb W v (w5.setCell ⟨lb, 0, none⟩ (.slice (some ⟨g, 0, none⟩) n cap)) (.slice (some ⟨g, 0, none⟩) n cap) := by
  obtain ⟨h1, h2, h3⟩ := h.lt
  have hgl : g ≠ lb := by
    rcases hat with e | e
    · exact fun e2 => h.ne (by rw [e, e2])
    · omega
  have oth : ∀ b, b ≠ lb → (w5.setCell ⟨lb, 0, none⟩ (.slice (some ⟨g, 0, none⟩) n cap)).heap[b]? = w5.heap[b]? := fun b hb => Below.heap_setCell _ _ _ _ hb
  have hb5 := (hg.block lb h1 fun e => h.ne e.symm).trans h.blk
  refine ⟨⟨heap_setCell_same _ _ _ _ _ _ hb5, h5.at (fun b e => oth b ?_) fun b hb hlt => ⟨oth b hb.2, hb⟩, h.lbC, fun e => hgl (by cases e; rfl)⟩, ((Below.refl C W).grown hg h2 fun b e => (h3 b e).1).setCell (p := ⟨lb, 0, none⟩) h.lbC _, fun b g1 g2 g3 => ⟨(oth b g2).trans (hg.block b g1 g3), fun e => ?_⟩⟩
  · obtain rfl : g = b := by cases e; rfl
    exact hgl
  · obtain rfl : b = g := by cases e; rfl
    rcases hat with e | e
    · exact g3 e.symm
    · omega
/-- A body is put in its place. -/
theorem LfSt.putBody {W : World} {C lb g n cap : Nat} {P : Nat → Prop} {fs : List FunT} (h : LfSt W C lb P fs (.slice (some ⟨g, 0, none⟩) n cap)) {j : Nat} {f : FunT} (hj : fs[j]? = some f) {k : Int} {nm : ByteArray} {ns : List ByteArray} {ck ci : Int} {cs : ByteArray} {cl : List PT} {l0 : List PE} {vn vd vk : Value} (hb : InF W (fun b => (P b ∧ b ≠ lb) ∧ b ≠ g) (.mk k nm ns (.mk ck ci cs cl) l0) vn vd vk) : LfSt (fput8 W g (j * 10 + 2) k nm vn ck ci cs vd vk) C lb P (fs.set j ⟨f.params, f.frees, .mk k nm ns (.mk ck ci cs cl) l0⟩) (.slice (some ⟨g, 0, none⟩) n cap) ∧ LfFr C lb W (.slice (some ⟨g, 0, none⟩) n cap) (fput8 W g (j * 10 + 2) k nm vn ck ci cs vd vk) (.slice (some ⟨g, 0, none⟩) n cap) := by
  obtain ⟨h1, h2, h3⟩ := h.lt
  have hgl : g ≠ lb := fun e => h.ne (by rw [e]; rfl)
  exact ⟨⟨(fput8_other _ _ _ _ _ _ _ _ _ _ _ (Ne.symm hgl)).trans h.blk, h.row.put hj hb, h.lbC, h.ne⟩, fput8_below (Below.refl C W) (h3 g rfl).1 _ _ _ _ _ _ _ _ _, fun b g1 g2 g3 => ⟨fput8_other _ _ _ _ _ _ _ _ _ _ _ (fun e => g3 (by rw [e]; rfl)), g3⟩⟩
/-- The row of functions where there is one. -/
theorem LfSt.some {W : World} {C lb : Nat} {P : Nat → Prop} {fs : List FunT} {v : Value} (h : LfSt W C lb P fs v) (h0 : 0 < fs.length) : ∃ g c, v = .slice (some ⟨g, 0, none⟩) fs.length c ∧ fs.length ≤ c ∧ c ≤ maxLen := by
  obtain ⟨xs, ho, _⟩ := h.row
  rcases ho.2 with ⟨_, e⟩ | ⟨g, cap, cur, e, _, _, h1, h2, _⟩
  · omega
  · exact ⟨g, cap, e, h1, h2⟩
set_option maxHeartbeats 8000000 in
theorem lifted_lam (nm : ByteArray) (ns : List ByteArray) (ck ci : Int) (cs : ByteArray) (cl : List PT) (l : List PE) (ih : ∀ t ∈ l, LiftedOk t) : LiftedOk (.mk 5 nm ns (.mk ck ci cs cl) l) := by
  intro w C lb P S fs v vn vd vk h hok hS hst hP hf hz
  have hokT := hok
  rw [okE] at hok
  obtain rfl := form_items hok.1
  obtain ⟨t, rfl⟩ := form_lam hok.1
  have HI := Lib.hid h
  obtain ⟨⟨_, _, an, cn, en, _⟩, ⟨_, _, _, ad, cd, ed, _⟩, ak, c, ek, hl, hm, _⟩ := id h
  subst en ed ek
  have hlt := hst.lt
  obtain ⟨av, cv, ev, _⟩ := hst.row.slice
  subst ev
  obtain ⟨z0, z1, zb⟩ := two_new w (.cells #[.int .i64 5, .string nm, .slice an ns.length cn, .int .i64 ck, .int .i64 ci, .string cs, .slice ad 0 cd, .slice ak 1 c] 28) (.cells #[.int .i64 0, .string ⟨#[]⟩, .slice none 0 0, .int .i64 0, .int .i64 0, .string ⟨#[]⟩, .slice none 0 0, .slice none 0 0] 28)
  have hs2 : ((w.alloc (.cells #[.int .i64 5, .string nm, .slice an ns.length cn, .int .i64 ck, .int .i64 ci, .string cs, .slice ad 0 cd, .slice ak 1 c] 28)).alloc (.cells #[.int .i64 0, .string ⟨#[]⟩, .slice none 0 0, .int .i64 0, .int .i64 0, .string ⟨#[]⟩, .slice none 0 0, .slice none 0 0] 28)).heap.size = w.heap.size + 2 := by rw [size_new, size_new]
  have hst1 : LfSt ((w.alloc (.cells #[.int .i64 5, .string nm, .slice an ns.length cn, .int .i64 ck, .int .i64 ci, .string cs, .slice ad 0 cd, .slice ak 1 c] 28)).alloc (.cells #[.int .i64 0, .string ⟨#[]⟩, .slice none 0 0, .int .i64 0, .int .i64 0, .string ⟨#[]⟩, .slice none 0 0, .slice none 0 0] 28)) C lb (fun b => P b ∧ ¬ (w.heap.size ≤ b ∧ b < w.heap.size + 2)) fs (.slice av fs.length cv) := hst.at (zb.block _ hlt.1) (fun b e => zb.block _ (hlt.2.2 b e).2) fun b h1 h2 => ⟨zb.block b h2, h1, by omega⟩
  have hi1 := h.belowT (fun b hb => (hS b hb).1) zb
  have HSL := Lib.hid hS
  have HLT := Lib.hid hlt
  have HPN := Lib.hid hP
  have HLF := Lib.hid (liftT_lam fs nm ns (.mk ck ci cs []) t)
  have HZS : Hid (sizeE (PE.mk 5 nm ns (.mk ck ci cs []) [t]) = 1 + ns.length + sizeE t) := Lib.hid (by rw [sizeE, sizeEs, sizeEs]; omega)
  rw [HZS.out] at hf hz
  have hbig : 2 * sizeE (PE.mk 5 nm ns (.mk ck ci cs []) [t]) ≤ 1000000000 := by rw [HZS.out]; omega
  have KF : Hid (∀ W, Below (w.heap.size + 2) ((w.alloc (.cells #[.int .i64 5, .string nm, .slice an ns.length cn, .int .i64 ck, .int .i64 ci, .string cs, .slice ad 0 cd, .slice ak 1 c] 28)).alloc (.cells #[.int .i64 0, .string ⟨#[]⟩, .slice none 0 0, .int .i64 0, .int .i64 0, .string ⟨#[]⟩, .slice none 0 0, .slice none 0 0] 28)) W → Calls Try.prog 19 #[.agg #[.int .i64 5, .string nm, .slice an ns.length cn, .int .i64 ck, .int .i64 ci, .string cs, .slice ad 0 cd, .slice ak 1 c]] W fun e w' => (∃ a9 c9, e = .returned (.slice a9 (freeT (PE.mk 5 nm ns (.mk ck ci cs []) [t])).length c9) ∧ InN w' (fun b => w.heap.size + 2 ≤ b) (freeT (PE.mk 5 nm ns (.mk ck ci cs []) [t])) (.slice a9 (freeT (PE.mk 5 nm ns (.mk ck ci cs []) [t])).length c9)) ∧ Below W.heap.size W w') := Lib.hid fun W hb => by
    refine (free_any (PE.mk 5 nm ns (.mk ck ci cs []) [t]) S _ _ _ W (hi1.belowT (B := w.heap.size + 2) (fun b hb2 => by have := (hS b hb2).1; omega) hb) (fun b hb2 => by have := (hS b hb2).1; have := hb.size; rw [hs2] at this; omega) hbig).mono ?_
    rintro e w' ⟨⟨lf, vf, rfl, hn, hsrt, hmem⟩, hb3⟩
    obtain rfl := free_row hsrt hmem (free_small hokT)
    have hn2 := hn
    obtain ⟨a9, c9, e9, _⟩ := hn2
    subst e9
    exact ⟨⟨a9, c9, rfl, hn.weak fun b hb4 _ => by have := hb.size; rw [hs2] at this; omega⟩, hb3⟩
  have IT := Lib.hid (ih t (List.mem_singleton.2 rfl))
  have HOT := Lib.hid (okEs_mem hok.2.2.2 t (List.mem_singleton.2 rfl))
  have HOK : Hid (ok64 ck ∧ ok64 ci ∧ cs.size ≤ maxLen) := Lib.hid ⟨HI.out.2.1.1, HI.out.2.1.2.1, HI.out.2.1.2.2.1⟩
  show Calls Try.prog 21 #[.pointer (some ⟨lb, 0, none⟩), .agg #[.int .i64 5, .string nm, .slice an ns.length cn, .int .i64 ck, .int .i64 ci, .string cs, .slice ad 0 cd, .slice ak 1 c]] w _
  have HFT : Hid ((freeT (PE.mk 5 nm ns (.mk ck ci cs []) [t])).length ≤ 40000) := Lib.hid (by have h1 := rfreeT_len [] [] (PE.mk 5 nm ns (.mk ck ci cs []) [t]); rw [HZS.out] at h1; simp only [List.length_nil] at h1; exact Nat.le_trans h1 (by omega))
  have HI64 : Hid (ok64 (fs.length : Int)) := Lib.hid ⟨by omega, by omega⟩
  generalize hft : freeT (PE.mk 5 nm ns (.mk ck ci cs []) [t]) = ft at KF HLF HFT
  clear ih hok hokT hS hst hlt hP hft h
  have HZ0 := Lib.hid z0
  have HZ1 := Lib.hid z1
  have HZB := Lib.hid zb
  have HS2 := Lib.hid hs2
  have HST1 := Lib.hid hst1
  clear z0 z1 zb hs2 hst1 hi1
  go_enter Try.func21, Try.ntmps21
  go_upto_region 1 with fail
  generalize (w.alloc (.cells #[.int .i64 5, .string nm, .slice an ns.length cn, .int .i64 ck, .int .i64 ci, .string cs, .slice ad 0 cd, .slice ak 1 c] 28)).alloc (.cells #[.int .i64 0, .string ⟨#[]⟩, .slice none 0 0, .int .i64 0, .int .i64 0, .string ⟨#[]⟩, .slice none 0 0, .slice none 0 0] 28) = w1 at *
  obtain ⟨x0, x1, x2, x3, x4, x5, x6, x7⟩ := look8n HZ0.out
  go_upto_region 3 with fail
  clear x0 x1 x2 x3 x4 x5 x6 x7
  have HBd := Lib.hid ((Below.refl (w.heap.size + 2) w1).drew)
  go_cut [5, 6] (fun v5 v6 wx => v5 = .int .i64 fs.length ∧ ∃ a9 c9, v6 = .slice a9 ft.length c9 ∧ InN wx (fun b => w.heap.size + 2 ≤ b) ft v6 ∧ Below (w.heap.size + 2) w1 wx)
  case first =>
    obtain ⟨x0, x1, x2, x3, x4, x5, x6, x7⟩ := look8n (show w1.drew.heap[w.heap.size]? = _ from HZ0.out)
    have q0 : w1.drew.cell? ⟨lb, 0, none⟩ = some (.slice av fs.length cv) := by rw [Lib.cell_of_heap (show w1.drew.heap[lb]? = _ from HST1.out.blk)]; rfl
    go_region_law (first
      | (go_simp; go_at_call 19; go_must (refine (KF.out _ HBd.out).mono ?_); rintro e w3 ⟨⟨a9, c9, rfl, hn3⟩, hb3⟩; have HN3 := Lib.hid hn3; go_must (have HB3 := Lib.hid (HBd.out.trans (hb3.mono (by show _ ≤ w1.heap.size; rw [HS2.out]; exact Nat.le_refl _)))); go_must (have q03 : w3.cell? ⟨lb, 0, none⟩ = some (.slice av fs.length cv) := (by rw [Lib.cell_of_heap ((HB3.out.block lb (by have := HLT.out.1; omega)).trans HST1.out.blk)]; rfl)); go_must (obtain ⟨y0, y1, y2, y3, y4, y5, y6, y7⟩ := look8n ((HB3.out.block w.heap.size (by omega)).trans HZ0.out)); clear hn3 hb3))
    all_goals
      go_wp2
      go_meet
      exact ⟨rfl, a9, c9, rfl, HN3.out, HB3.out⟩
  case rest =>
  obtain ⟨rfl, a9, c9, rfl, hn3, hb3⟩ := hcut
  obtain ⟨w3, hw3⟩ : ∃ x, x = wc := ⟨_, rfl⟩
  subst hw3
  have HFR13 : Hid (LfFr C lb w1 (.slice av fs.length cv) w3 (.slice av fs.length cv)) := Lib.hid (LfFr.of_below (by rw [HS2.out]; have := HLT.out.2.1; omega) (by rw [HS2.out]; exact hb3))
  have HST3 : Hid (LfSt w3 C lb (fun b => P b ∧ ¬ (w.heap.size ≤ b ∧ b < w.heap.size + 2)) fs (.slice av fs.length cv)) := Lib.hid (HST1.out.below (by rw [HS2.out]; exact hb3))
  have HE3 := Lib.hid ((hb3.block w.heap.size (by omega)).trans HZ0.out)
  have HZ3 := Lib.hid ((hb3.block (w.heap.size + 1) (by omega)).trans HZ1.out)
  have HB3 := Lib.hid (HZB.out.trans (hb3.mono (Nat.le_add_right _ 2)))
  have HS3 : Hid (w.heap.size + 2 ≤ w3.heap.size) := Lib.hid (by have := hb3.size; rw [HS2.out] at this; exact this)
  have HN3 := Lib.hid hn3
  have HFR3 : Hid (LfFr C lb w (.slice av fs.length cv) w3 (.slice av fs.length cv)) := Lib.hid (LfFr.of_below HLT.out.2.1 HB3.out)
  have hnames : InN w3 (fun b => ((P b ∧ ¬ (w.heap.size ≤ b ∧ b < w.heap.size + 2)) ∧ b ≠ lb) ∧ some b ≠ (Value.slice av fs.length cv).ownBlock) ns (.slice an ns.length cn) := HI.out.1.2.2.stays (fun b hb => ⟨⟨⟨(HSL.out b hb).2.2, by have := (HSL.out b hb).1; omega⟩, (HSL.out b hb).2.1.1⟩, (HSL.out b hb).2.1.2⟩) fun b hb => HB3.out.block b (HSL.out b hb).1
  have hfrees : InN w3 (fun b => ((P b ∧ ¬ (w.heap.size ≤ b ∧ b < w.heap.size + 2)) ∧ b ≠ lb) ∧ some b ≠ (Value.slice av fs.length cv).ownBlock) ft (.slice a9 ft.length c9) := hn3.weak fun b hb _ => ⟨⟨⟨HPN.out b (by omega), by omega⟩, by have := HLT.out.1; omega⟩, fun e => by have := (HLT.out.2.2 b e.symm).2; omega⟩
  have HNA := Lib.hid hnames
  have HFA := Lib.hid hfrees
  have hlen : fs.length ≤ 100000 := by omega
  clear hb3 hn3 hnames hfrees HST1 HZ0 HZ1 HBd KF
  go_upto_region 4 with fail
  go_cut [] (fun wx => ∃ g c2, LfSt wx C lb (fun b => P b ∧ ¬ (w.heap.size ≤ b ∧ b < w.heap.size + 2)) (fs ++ [⟨ns, ft, PE0⟩]) (.slice (some ⟨g, 0, none⟩) (fs.length + 1) c2) ∧ LfFr C lb w3 (.slice av fs.length cv) wx (.slice (some ⟨g, 0, none⟩) (fs.length + 1) c2))
  case first =>
    have hd : Below w3.heap.size w3 w3.drew := (Below.refl _ _).drew
    have HA : Hid (Below w3.heap.size w3 (w3.alloc (.cells #[.slice an ns.length cn, .slice a9 ft.length c9, .int .i64 0, .string ⟨#[]⟩, .slice none 0 0, .int .i64 0, .int .i64 0, .string ⟨#[]⟩, .slice none 0 0, .slice none 0 0] 43)).drew) := Lib.hid (((Below.refl w3.heap.size w3).alloc (Nat.le_refl _) (.cells #[.slice an ns.length cn, .slice a9 ft.length c9, .int .i64 0, .string ⟨#[]⟩, .slice none 0 0, .int .i64 0, .int .i64 0, .string ⟨#[]⟩, .slice none 0 0, .slice none 0 0] 43)).drew)
    have HSTA := Lib.hid (HST3.out.below HA.out)
    obtain ⟨x0, x1, x2, x3, x4, x5, x6, x7⟩ := look8n (show w3.drew.heap[w.heap.size]? = _ from HE3.out)
    have q0 : w3.drew.cell? ⟨lb, 0, none⟩ = some (.slice av fs.length cv) := by rw [Lib.cell_of_heap (show w3.drew.heap[lb]? = _ from HST3.out.blk)]; rfl
    have HFN : Hid ((w3.alloc (.cells #[.slice an ns.length cn, .slice a9 ft.length c9, .int .i64 0, .string ⟨#[]⟩, .slice none 0 0, .int .i64 0, .int .i64 0, .string ⟨#[]⟩, .slice none 0 0, .slice none 0 0] 43)).drew.heap[w3.heap.size]? = some (.cells #[.slice an ns.length cn, .slice a9 ft.length c9, .int .i64 0, .string ⟨#[]⟩, .slice none 0 0, .int .i64 0, .int .i64 0, .string ⟨#[]⟩, .slice none 0 0, .slice none 0 0] 43)) := Lib.hid (heap_alloc_new w3 (.cells #[.slice an ns.length cn, .slice a9 ft.length c9, .int .i64 0, .string ⟨#[]⟩, .slice none 0 0, .int .i64 0, .int .i64 0, .string ⟨#[]⟩, .slice none 0 0, .slice none 0 0] 43))
    obtain ⟨y0, y1, y2, y3, y4, y5, y6, y7⟩ := look8n (show (w3.alloc (.cells #[.slice an ns.length cn, .slice a9 ft.length c9, .int .i64 0, .string ⟨#[]⟩, .slice none 0 0, .int .i64 0, .int .i64 0, .string ⟨#[]⟩, .slice none 0 0, .slice none 0 0] 43)).heap[w.heap.size]? = _ from (HA.out.block w.heap.size (by have := HS3.out; omega)).trans HE3.out)
    have q1 : (w3.alloc (.cells #[.slice an ns.length cn, .slice a9 ft.length c9, .int .i64 0, .string ⟨#[]⟩, .slice none 0 0, .int .i64 0, .int .i64 0, .string ⟨#[]⟩, .slice none 0 0, .slice none 0 0] 43)).cell? ⟨lb, 0, none⟩ = some (.slice av fs.length cv) := by rw [Lib.cell_of_heap (show (w3.alloc (.cells #[.slice an ns.length cn, .slice a9 ft.length c9, .int .i64 0, .string ⟨#[]⟩, .slice none 0 0, .int .i64 0, .int .i64 0, .string ⟨#[]⟩, .slice none 0 0, .slice none 0 0] 43)).heap[lb]? = _ from HSTA.out.blk)]; rfl
    have HNA2 := Lib.hid (HNA.out.below HA.out)
    have HFA2 := Lib.hid (HFA.out.below HA.out)
    have HM2 : Hid (InF (w3.alloc (.cells #[.slice an ns.length cn, .slice a9 ft.length c9, .int .i64 0, .string ⟨#[]⟩, .slice none 0 0, .int .i64 0, .int .i64 0, .string ⟨#[]⟩, .slice none 0 0, .slice none 0 0] 43)).drew (fun b => ((P b ∧ ¬ (w.heap.size ≤ b ∧ b < w.heap.size + 2)) ∧ b ≠ lb) ∧ some b ≠ (Value.slice av fs.length cv).ownBlock) (.mk 0 ⟨#[]⟩ [] (.mk 0 0 ⟨#[]⟩ []) []) (.slice none 0 0) (.slice none 0 0) (.slice none 0 0)) := Lib.hid ⟨⟨by constructor <;> decide, by decide, inN_nil'⟩, ⟨by constructor <;> decide, by constructor <;> decide, by decide, ⟨none, 0, rfl, Nat.le_refl _, Nat.zero_le _, fun _ => rfl, .inl rfl⟩⟩, ⟨none, 0, rfl, Nat.le_refl _, Nat.zero_le _, fun _ => rfl, .inl rfl⟩⟩
    have HCA := Lib.hid HSTA.out.lt.2.1
    go_region_law (first
      | (refine step_append_f rfl _ _ rfl C (fun b => (P b ∧ ¬ (w.heap.size ≤ b ∧ b < w.heap.size + 2)) ∧ b ≠ lb) fs (.slice av fs.length cv) rfl HSTA.out.row w3.heap.size ns ft 0 ⟨#[]⟩ [] 0 0 ⟨#[]⟩ [] [] (.slice an ns.length cn) (.slice a9 ft.length c9) (.slice none 0 0) (.slice none 0 0) (.slice none 0 0) rfl HFN.out HNA2.out HFA2.out HM2.out hlen HCA.out ?_; intro g cap w5 h5 hg5 hat5; go_must (have HX5 := Lib.hid (HSTA.out.appended h5 hg5 hat5)); go_must (have hb5 := (hg5.block lb HSTA.out.lt.1 fun e => HSTA.out.ne e.symm).trans HSTA.out.blk); go_must (have q5 : w5.cell? ⟨lb, 0, none⟩ = some (.slice av fs.length cv) := (by rw [Lib.cell_of_heap hb5]; rfl)); go_must (have f5 : w5.frozen? ⟨lb, 0, none⟩ = false := Lib.frozen_of_heap hb5 0); clear h5 hg5 hat5 hb5))
    all_goals
      go_wp2
      go_meet
      exact ⟨g, cap, HX5.out.1, (LfFr.of_below (by have := HST3.out.lt; omega) HA.out).trans HX5.out.2⟩
  case rest =>
  obtain ⟨g, c2, hst4, hfr4⟩ := hcut
  obtain ⟨w4, hw4⟩ : ∃ x, x = wc := ⟨_, rfl⟩
  subst hw4
  have HST4 := Lib.hid hst4
  have HFR4 := Lib.hid hfr4
  have hown3 : ∀ b, w.heap.size ≤ b → some b ≠ (Value.slice av fs.length cv).ownBlock := fun b hb e => by have := (HLT.out.2.2 b e.symm).2; omega
  have HE4 := Lib.hid ((hfr4.2 w.heap.size (by have := HS3.out; omega) (by have := HLT.out.1; omega) (hown3 _ (Nat.le_refl _))).1.trans HE3.out)
  have HW4 := Lib.hid hfr4.1.size
  have HBS4 : Hid (∀ b, S b → w4.heap[b]? = w.heap[b]? ∧ b < w4.heap.size ∧ Off lb (.slice (some ⟨g, 0, none⟩) (fs.length + 1) c2) b ∧ (P b ∧ ¬ (w.heap.size ≤ b ∧ b < w.heap.size + 2))) := Lib.hid fun b hb => by
    obtain ⟨g1, g2, g3⟩ := HSL.out b hb
    obtain ⟨g4, g5⟩ := hfr4.2 b (by have := HS3.out; omega) g2.1 g2.2
    exact ⟨g4.trans (HB3.out.block b g1), by have := HS3.out; have := hfr4.1.size; omega, ⟨g2.1, g5⟩, g3, by omega⟩
  obtain ⟨b, o, c', ea, _, _, hS1, hE1⟩ := (HI.out.2.2.stays (w9 := w4) (fun _ h => h) fun b hb => (HBS4.out b hb).1).item 0 (by rw [List.length_singleton]; exact Nat.zero_lt_one)
  cases ea
  rw [show o + 0 * 8 = o by omega] at hE1
  have hE2 : InE w4 S t b o := hE1
  clear hE1 hst4 hfr4 hown3 HST3 HNA HFA HE3 HI
  obtain ⟨tk, tn, tns, ⟨tck, tci, tcs, tcl⟩, tl⟩ := t
  obtain ⟨tvn, tvd, tvk, hF1, a0, a1, a2, a3, a4, a5, a6, a7⟩ := hE2.cells
  have hbb := World.block_lt_of_cell? _ _ a0
  have KC := Lib.hid (IT.out w4 C lb (fun b => P b ∧ ¬ (w.heap.size ≤ b ∧ b < w.heap.size + 2)) S (fs ++ [⟨ns, ft, PE0⟩]) _ tvn tvd tvk hF1 HOT.out (fun b hb => ⟨(HBS4.out b hb).2.1, (HBS4.out b hb).2.2.1, (HBS4.out b hb).2.2.2⟩) HST4.out (fun b hb => ⟨HPN.out b (by have := HS3.out; have := HW4.out; omega), by have := HS3.out; have := HW4.out; omega⟩) (by rw [List.length_append, List.length_singleton]; omega) (by omega))
  unfold InF at hF1
  obtain ⟨⟨_, _, hn1⟩, ⟨_, _, _, hd1⟩, hk1⟩ := hF1
  obtain ⟨n1, n2, en, -⟩ := hn1
  obtain ⟨d1, d2, ed, -⟩ := hd1
  obtain ⟨k1, k2, ek, -⟩ := hk1
  subst en ed ek
  have HKP := Lib.hid (lift_keeps fs ⟨ns, ft, PE0⟩ (.mk tk tn tns (.mk tck tci tcs tcl) tl))
  have HLN6 := Lib.hid (liftT_count (fs ++ [⟨ns, ft, PE0⟩]) (.mk tk tn tns (.mk tck tci tcs tcl) tl))
  unfold LiftedIs at KC
  generalize (liftT (fs ++ [⟨ns, ft, PE0⟩]) (.mk tk tn tns (.mk tck tci tcs tcl) tl)).1 = t6 at *
  generalize (liftT (fs ++ [⟨ns, ft, PE0⟩]) (.mk tk tn tns (.mk tck tci tcs tcl) tl)).2 = fs6 at *
  obtain ⟨x0, x1, x2, x3, x4, x5, x6, x7⟩ := look8n HE4.out
  clear hE2 IT
  go_wp2_with fail
  refine KC.out.mono ?_
  rintro e w5 ⟨k5, nm5, ns5, ck5, ci5, cs5, cl5, l5, vn5, vd5, vk5, v6, rfl, ht6, hf5, hst5, hfr5⟩
  subst ht6
  have hl6 : fs.length < fs6.length := by have := HLN6.out; rw [List.length_append, List.length_singleton] at this; omega
  obtain ⟨g6, c6, rfl, hc6, hm6⟩ := hst5.some (by omega)
  obtain ⟨n51, n52, en5, -⟩ := id hf5.1.2.2
  obtain ⟨d51, d52, ed5, -⟩ := id hf5.2.1.2.2.2
  obtain ⟨k51, k52, ek5, -⟩ := id hf5.2.2
  subst en5 ed5 ek5
  have HST5 := Lib.hid hst5
  have HF5 := Lib.hid hf5
  have HFR5 := Lib.hid hfr5
  clear hst5 hf5 hfr5 KC x0 x1 x2 x3 x4 x5 x6 x7 a0 a1 a2 a3 a4 a5 a6 a7 hbb
  go_upto_region 6 with fail
  have HB6 := Lib.hid ((Below.refl w5.heap.size w5).alloc (Nat.le_refl _) (.cells #[.int .i64 k5, .string nm5, .slice n51 ns5.length n52, .int .i64 ck5, .int .i64 ci5, .string cs5, .slice d51 cl5.length d52, .slice k51 l5.length k52] 28))
  have HZ6 := Lib.hid (heap_alloc_new w5 (.cells #[.int .i64 k5, .string nm5, .slice n51 ns5.length n52, .int .i64 ck5, .int .i64 ci5, .string cs5, .slice d51 cl5.length d52, .slice k51 l5.length k52] 28))
  have HST6 := Lib.hid (HST5.out.below HB6.out)
  have HF6 := Lib.hid (HF5.out.below HB6.out)
  have HFR6 : Hid (LfFr C lb w3 (.slice av fs.length cv) (w5.alloc (.cells #[.int .i64 k5, .string nm5, .slice n51 ns5.length n52, .int .i64 ck5, .int .i64 ci5, .string cs5, .slice d51 cl5.length d52, .slice k51 l5.length k52] 28)) (.slice (some ⟨g6, 0, none⟩) fs6.length c6)) := Lib.hid (HFR4.out.trans (HFR5.out.trans (LfFr.of_below HST5.out.lt.2.1 HB6.out)))
  have HW5 := Lib.hid HFR5.out.1.size
  have HS6 := Lib.hid (size_new w5 (.cells #[.int .i64 k5, .string nm5, .slice n51 ns5.length n52, .int .i64 ck5, .int .i64 ci5, .string cs5, .slice d51 cl5.length d52, .slice k51 l5.length k52] 28))
  clear HF5 HB6 HFR5
  generalize w5.alloc (.cells #[.int .i64 k5, .string nm5, .slice n51 ns5.length n52, .int .i64 ck5, .int .i64 ci5, .string cs5, .slice d51 cl5.length d52, .slice k51 l5.length k52] 28) = w6 at *
  have hin6 : InF w6 (fun b => ((P b ∧ ¬ (w.heap.size ≤ b ∧ b < w.heap.size + 2)) ∧ b ≠ lb) ∧ b ≠ g6) (.mk k5 nm5 ns5 (.mk ck5 ci5 cs5 cl5) l5) (.slice n51 ns5.length n52) (.slice d51 cl5.length d52) (.slice k51 l5.length k52) := HF6.out.stays (fun b hb => ⟨⟨by
    rcases hb.1 with g1 | g1
    · exact (HBS4.out b g1).2.2.2
    · exact ⟨HPN.out b (by have := HS3.out; have := HW4.out; omega), by have := HS3.out; have := HW4.out; omega⟩, hb.2.1⟩, fun e => hb.2.2 (by rw [e]; rfl)⟩) fun _ _ => rfl
  have HD6 : Hid (Below w6.heap.size w6 w6.drew) := Lib.hid (Below.refl _ _).drew
  have HST6d := Lib.hid (HST6.out.below HD6.out)
  have HPB := Lib.hid (HST6d.out.putBody HKP.out (hin6.below HD6.out))
  have HF66 : Hid (LfFr C lb w6 (.slice (some ⟨g6, 0, none⟩) fs6.length c6) w6.drew (.slice (some ⟨g6, 0, none⟩) fs6.length c6)) := Lib.hid (LfFr.of_below HST6.out.lt.2.1 HD6.out)
  clear hin6
  go_cut [] (fun wx => LfSt wx C lb (fun b => P b ∧ ¬ (w.heap.size ≤ b ∧ b < w.heap.size + 2)) (fs6.set fs.length ⟨ns, ft, .mk k5 nm5 ns5 (.mk ck5 ci5 cs5 cl5) l5⟩) (.slice (some ⟨g6, 0, none⟩) fs6.length c6) ∧ LfFr C lb w6 (.slice (some ⟨g6, 0, none⟩) fs6.length c6) wx (.slice (some ⟨g6, 0, none⟩) fs6.length c6))
  case first =>
    obtain ⟨y0, y1, y2, y3, y4, y5, y6, y7⟩ := look8n HZ6.out
    have q0 : w6.cell? ⟨lb, 0, none⟩ = some (.slice (some ⟨g6, 0, none⟩) fs6.length c6) := by rw [Lib.cell_of_heap HST6.out.blk]; rfl
    go_still_tail 6, (by kernel_rfl)
    change wpList _ _ _ _ _ w6.drew
    generalize w6.drew = w7 at *
    clear y0 y1 y2 y3 y4 y5 y6 y7 q0
    obtain ⟨hfz, hce⟩ := HST6d.out.row.cells
    have r0 := hfz (fs.length * 10 + 2)
    have r1 := hfz (fs.length * 10 + 3)
    have r2 := hfz (fs.length * 10 + 4)
    have r3 := hfz (fs.length * 10 + 5)
    have r4 := hfz (fs.length * 10 + 6)
    have r5 := hfz (fs.length * 10 + 7)
    have r6 := hfz (fs.length * 10 + 8)
    have r7 := hfz (fs.length * 10 + 9)
    obtain ⟨s0, t0⟩ := hce (fs.length * 10 + 2) (by omega)
    obtain ⟨s1, t1⟩ := hce (fs.length * 10 + 3) (by omega)
    obtain ⟨s2, t2⟩ := hce (fs.length * 10 + 4) (by omega)
    obtain ⟨s3, t3⟩ := hce (fs.length * 10 + 5) (by omega)
    obtain ⟨s4, t4⟩ := hce (fs.length * 10 + 6) (by omega)
    obtain ⟨s5, t5⟩ := hce (fs.length * 10 + 7) (by omega)
    obtain ⟨s6, t6⟩ := hce (fs.length * 10 + 8) (by omega)
    obtain ⟨s7, t7⟩ := hce (fs.length * 10 + 9) (by omega)
    clear hfz hce
    go_wp2
    go_meet
    exact ⟨HPB.out.1, HF66.out.trans HPB.out.2⟩
  case rest =>
  obtain ⟨hst7, hfr7⟩ := hcut
  obtain ⟨w7, hw7⟩ : ∃ x, x = wc := ⟨_, rfl⟩
  subst hw7
  have HST7 := Lib.hid hst7
  have HFR7 := Lib.hid (HFR6.out.trans hfr7)
  have hown3 : ∀ b, w.heap.size ≤ b → some b ≠ (Value.slice av fs.length cv).ownBlock := fun b hb e => by have := (HLT.out.2.2 b e.symm).2; omega
  have hn7 : InN w7 (fun _ => True) ft (.slice a9 ft.length c9) := HN3.out.move (fun _ _ _ => trivial) fun b o' y hb hc => by
    have hb2 : w.heap.size + 2 ≤ b := hb
    rw [World.cell?_of_block (w := w3) (a := ⟨b, o', none⟩) (HFR7.out.2 b (World.block_lt_of_cell? _ _ hc) (by have := HLT.out.1; omega) (hown3 b (by omega))).1]
    exact hc
  have HFL : Hid (ft.length ≤ 100000) := Lib.hid (by have := HFT.out; omega)
  have KL := Lib.hid (clone_ts ft _ _ w7 hn7 HFL.out)
  have HZ7 := Lib.hid ((HFR7.out.2 (w.heap.size + 1) (by have := HS3.out; omega) (by have := HLT.out.1; omega) (hown3 _ (by omega))).1.trans HZ3.out)
  clear hst7 hfr7 hn7 hown3 HF66 HPB HD6 HST6d HST6 HF6 HZ6 HFR6
  go_wp2_with fail
  refine KL.out.mono ?_
  rintro e w8 ⟨v8, rfl, hn8, hb8⟩
  obtain ⟨a8, c8, e8, _⟩ := id hn8
  subst e8
  have HN8 := Lib.hid hn8
  have HST8 := Lib.hid (HST7.out.below hb8)
  have HFR8 := Lib.hid (HFR13.out.trans (HFR7.out.trans (LfFr.of_below HST7.out.lt.2.1 hb8)))
  have hz8 := (hb8.block (w.heap.size + 1) (lt_of_block HZ7.out)).trans HZ7.out
  have HZ8 := Lib.hid hz8
  have HW8 : Hid (w.heap.size + 2 ≤ w7.heap.size) := Lib.hid (by have := HFR7.out.1.size; have := HS3.out; omega)
  have HOFF : Hid (∀ b, w7.heap.size ≤ b → Off lb (.slice (some ⟨g6, 0, none⟩) fs6.length c6) b) := Lib.hid fun b hb => ⟨by have := HST7.out.lt.1; omega, fun e => by have := (HST7.out.lt.2.2 b e.symm).2; omega⟩
  obtain ⟨z0, z1, z2, z3, z4, z5, z6, z7⟩ := look8n hz8
  obtain ⟨g0, g1, g2, g3, g4, g5, g6', g7⟩ := free8n hz8
  have HZ9 := Lib.hid (bput8 (v0 := .int .i64 11) (v1 := .string ⟨#[]⟩) (v2 := .slice a8 ft.length c8) (v3 := .int .i64 1) (v4 := .int .i64 fs.length) (v5 := .string ⟨#[]⟩) (v6 := .slice none 0 0) (v7 := .slice none 0 0) HZ8.out)
  have HX9 := Lib.hid (fun b (hb : b ≠ w.heap.size + 1) => bput8_other (W := w8) hb (.int .i64 11) (.string ⟨#[]⟩) (.slice a8 ft.length c8) (.int .i64 1) (.int .i64 fs.length) (.string ⟨#[]⟩) (.slice none 0 0) (.slice none 0 0))
  have HB9 := Lib.hid (bbel8 (Below.refl C w8) (show C ≤ w.heap.size + 1 by have := HLT.out.2.1; omega) (.int .i64 11) (.string ⟨#[]⟩) (.slice a8 ft.length c8) (.int .i64 1) (.int .i64 fs.length) (.string ⟨#[]⟩) (.slice none 0 0) (.slice none 0 0))
  have HF9 := Lib.hid (lf_fin HLT.out.2.1 HLT.out.1 (fun b e => (HLT.out.2.2 b e).2) HZB.out HS2.out HST8.out HFR8.out HB9.out HX9.out)
  have HN9 := Lib.hid (hn8.stays (w9 := ((((((((w8.setCell ⟨w.heap.size + 1, 0, none⟩ (.int .i64 11)).setCell ⟨w.heap.size + 1, 1, none⟩ (.string ⟨#[]⟩)).setCell ⟨w.heap.size + 1, 2, none⟩ (.slice a8 ft.length c8)).setCell ⟨w.heap.size + 1, 3, none⟩ (.int .i64 1)).setCell ⟨w.heap.size + 1, 4, none⟩ (.int .i64 fs.length)).setCell ⟨w.heap.size + 1, 5, none⟩ (.string ⟨#[]⟩)).setCell ⟨w.heap.size + 1, 6, none⟩ (.slice none 0 0)).setCell ⟨w.heap.size + 1, 7, none⟩ (.slice none 0 0))) (S9 := fun b => (S b ∨ w.heap.size ≤ b) ∧ Off lb (.slice (some ⟨g6, 0, none⟩) fs6.length c6) b) (fun b hb => by
    have hb2 : w7.heap.size ≤ b := hb
    have := HW8.out
    exact ⟨.inr (by omega), HOFF.out b hb2⟩) (fun b hb => HX9.out b (by have hb2 : w7.heap.size ≤ b := hb; have := HW8.out; omega)))
  clear hn8 hb8 hz8 HN8 HST8 HFR8 HX9 HB9 KL HST7 HFR7 HZ8 HZ7
  go_wp2
  exact bodyPost_ret (results_cell_row (P := Try.prog) rfl _ _ (w.heap.size + 1) 28 _ (0, 0) _ rfl HZ9.out Try.underlying28 rfl (by kernel_rfl)) rfl (liftedIs_mk (vd := .slice none 0 0) (by rw [HLF.out]; rfl) ⟨⟨by constructor <;> decide, by decide, HN9.out⟩, ⟨by constructor <;> decide, HI64.out, by decide, ⟨none, 0, rfl, Nat.le_refl _, Nat.zero_le _, fun _ => rfl, .inl rfl⟩⟩, ⟨none, 0, rfl, Nat.le_refl _, Nat.zero_le _, fun _ => rfl, .inl rfl⟩⟩ (by rw [HLF.out]; exact HF9.out.1) HF9.out.2)
mutual
theorem lifted_any : ∀ t : PE, LiftedOk t
  | .mk k nm ns (.mk ck ci cs cl) l => if hk : k = 5 then by subst hk; exact lifted_lam nm ns ck ci cs cl l (lifted_all l) else lifted_else k hk nm ns ck ci cs cl l (lifted_all l)
theorem lifted_all : ∀ l : List PE, ∀ t ∈ l, LiftedOk t
  | [], t, h => by cases h
  | u :: l, t, h => (List.mem_cons.1 h).elim (fun e => e ▸ lifted_any u) (fun h => lifted_all l t h)
end
end Go.Proofs.Ytkjgdnfkpebejaa.Core
