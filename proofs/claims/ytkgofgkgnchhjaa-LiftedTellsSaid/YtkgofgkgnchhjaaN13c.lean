/-
The document's lift, for every expression that may be. No condition but that the expression is small.
-/
import Derived.Test.YtkgofgkgnchhjaaN13b

namespace Go.Proofs.Ytkgofgkgnchhjaa.Core
open Go.ChangeShapes Go.WideShapes Go.ChangeAt Go.RowKit Go.Deep
open Dat (PT ok64 RowX)
set_option maxRecDepth 100000

theorem rf_appended {W w5 : World} {C g n cap : Nat} {P : Nat → Prop} {fs : List FunT} {v : Value} (h : OutF W C P fs v) (hC : C ≤ W.heap.size) (hg : W.grownBy w5 v.ownBlock) (hat : v.ownBlock = some g ∨ g = W.heap.size) : RfFr C W v w5 (.slice (some ⟨g, 0, none⟩) n cap) := by
  refine ⟨(Below.refl C W).grown hg hC fun b e => (h.lt b e).1, fun b g1 g3 => ⟨hg.block b g1 g3, fun e => ?_⟩⟩
  obtain rfl : b = g := by cases e; rfl
  rcases hat with e | e
  · exact g3 e.symm
  · omega
theorem OutF.some {W : World} {C : Nat} {P : Nat → Prop} {fs : List FunT} {v : Value} (h : OutF W C P fs v) (h0 : 0 < fs.length) : ∃ g c, v = .slice (some ⟨g, 0, none⟩) fs.length c ∧ fs.length ≤ c ∧ c ≤ maxLen := by
  obtain ⟨xs, ho, _⟩ := h
  rcases ho.2 with ⟨_, e⟩ | ⟨g, cap, cur, e, _, _, h1, h2, _⟩
  · omega
  · exact ⟨g, cap, e, h1, h2⟩
set_option maxHeartbeats 8000000 in
theorem rlift_lam (nm : ByteArray) (ns : List ByteArray) (ck ci : Int) (cs : ByteArray) (cl : List PT) (l : List PE) (ih : ∀ t ∈ l, RLiftOk t) : RLiftOk (.mk 5 nm ns (.mk ck ci cs cl) l) := by
  intro w C P S fs v vn vd vk h hok hS hst hC hP hf hz
  rw [okE] at hok
  obtain rfl := form_items hok.1
  obtain ⟨t, rfl⟩ := form_lam hok.1
  have HI := Lib.hid h
  obtain ⟨⟨_, _, an, cn, en, _⟩, ⟨_, _, _, ad, cd, ed, _⟩, ak, c, ek, hl, hm, _⟩ := id h
  subst en ed ek
  have hlt := hst.lt
  obtain ⟨av, cv, ev, _⟩ := hst.slice
  subst ev
  obtain ⟨z0, z1, zb⟩ := two_new w (.cells #[.int .i64 5, .string nm, .slice an ns.length cn, .int .i64 ck, .int .i64 ci, .string cs, .slice ad 0 cd, .slice ak 1 c] 28) (.cells #[.int .i64 0, .string ⟨#[]⟩, .slice none 0 0, .int .i64 0, .int .i64 0, .string ⟨#[]⟩, .slice none 0 0, .slice none 0 0] 28)
  have hs2 : ((w.alloc (.cells #[.int .i64 5, .string nm, .slice an ns.length cn, .int .i64 ck, .int .i64 ci, .string cs, .slice ad 0 cd, .slice ak 1 c] 28)).alloc (.cells #[.int .i64 0, .string ⟨#[]⟩, .slice none 0 0, .int .i64 0, .int .i64 0, .string ⟨#[]⟩, .slice none 0 0, .slice none 0 0] 28)).heap.size = w.heap.size + 2 := by rw [size_new, size_new]
  have z2 := heap_alloc_new ((w.alloc (.cells #[.int .i64 5, .string nm, .slice an ns.length cn, .int .i64 ck, .int .i64 ci, .string cs, .slice ad 0 cd, .slice ak 1 c] 28)).alloc (.cells #[.int .i64 0, .string ⟨#[]⟩, .slice none 0 0, .int .i64 0, .int .i64 0, .string ⟨#[]⟩, .slice none 0 0, .slice none 0 0] 28)) (.cells #[.int .i64 5, .string nm, .slice an ns.length cn, .int .i64 ck, .int .i64 ci, .string cs, .slice ad 0 cd, .slice none 0 0] 28)
  have hs3 := size_new ((w.alloc (.cells #[.int .i64 5, .string nm, .slice an ns.length cn, .int .i64 ck, .int .i64 ci, .string cs, .slice ad 0 cd, .slice ak 1 c] 28)).alloc (.cells #[.int .i64 0, .string ⟨#[]⟩, .slice none 0 0, .int .i64 0, .int .i64 0, .string ⟨#[]⟩, .slice none 0 0, .slice none 0 0] 28)) (.cells #[.int .i64 5, .string nm, .slice an ns.length cn, .int .i64 ck, .int .i64 ci, .string cs, .slice ad 0 cd, .slice none 0 0] 28)
  rw [hs2] at z2 hs3
  have hb0 := bel_alloc' zb (.cells #[.int .i64 5, .string nm, .slice an ns.length cn, .int .i64 ck, .int .i64 ci, .string cs, .slice ad 0 cd, .slice none 0 0] 28)
  have hst0 : OutF (((w.alloc (.cells #[.int .i64 5, .string nm, .slice an ns.length cn, .int .i64 ck, .int .i64 ci, .string cs, .slice ad 0 cd, .slice ak 1 c] 28)).alloc (.cells #[.int .i64 0, .string ⟨#[]⟩, .slice none 0 0, .int .i64 0, .int .i64 0, .string ⟨#[]⟩, .slice none 0 0, .slice none 0 0] 28)).alloc (.cells #[.int .i64 5, .string nm, .slice an ns.length cn, .int .i64 ck, .int .i64 ci, .string cs, .slice ad 0 cd, .slice none 0 0] 28)) C (fun b => (P b ∧ ¬ (w.heap.size ≤ b ∧ b < w.heap.size + 3))) fs (.slice av fs.length cv) := hst.at (fun b e => hb0.block _ (hlt b e).2) fun b h1 h2 => ⟨hb0.block b h2, h1, by omega⟩
  have HZS : Hid (sizeE (PE.mk 5 nm ns (.mk ck ci cs []) [t]) = 1 + ns.length + sizeE t) := Lib.hid (by rw [sizeE, sizeEs, sizeEs]; omega)
  rw [HZS.out] at hf hz
  have KF := Lib.hid (rFree_any (PE.mk 5 nm ns (.mk ck ci cs []) [t]) S _ _ _ (((w.alloc (.cells #[.int .i64 5, .string nm, .slice an ns.length cn, .int .i64 ck, .int .i64 ci, .string cs, .slice ad 0 cd, .slice ak 1 c] 28)).alloc (.cells #[.int .i64 0, .string ⟨#[]⟩, .slice none 0 0, .int .i64 0, .int .i64 0, .string ⟨#[]⟩, .slice none 0 0, .slice none 0 0] 28)).alloc (.cells #[.int .i64 5, .string nm, .slice an ns.length cn, .int .i64 ck, .int .i64 ci, .string cs, .slice ad 0 cd, .slice none 0 0] 28)) (h.belowT (fun b hb => (hS b hb).1) hb0) (fun b hb => Nat.lt_of_lt_of_le (hS b hb).1 hb0.size) (by rw [HZS.out]; exact hz))
  have HLF := Lib.hid (liftT_lam fs nm ns (.mk ck ci cs []) t)
  have HFT : Hid ((freeT (PE.mk 5 nm ns (.mk ck ci cs []) [t])).length ≤ 40000) := Lib.hid (by have h1 := rfreeT_len [] [] (PE.mk 5 nm ns (.mk ck ci cs []) [t]); rw [HZS.out] at h1; simp only [List.length_nil] at h1; exact Nat.le_trans h1 (by omega))
  have IT := Lib.hid (ih t (List.mem_singleton.2 rfl))
  have HOT := Lib.hid (okEs_mem hok.2.2.2 t (List.mem_singleton.2 rfl))
  have HSL := Lib.hid hS
  have HPN := Lib.hid hP
  have HLT := Lib.hid hlt
  have HI64 : Hid (ok64 (fs.length : Int)) := Lib.hid ⟨by omega, by omega⟩
  show Calls Try.prog 21 #[.agg #[.int .i64 5, .string nm, .slice an ns.length cn, .int .i64 ck, .int .i64 ci, .string cs, .slice ad 0 cd, .slice ak 1 c], .slice av fs.length cv] w _
  simp only [PE.val] at KF
  generalize hft : freeT (PE.mk 5 nm ns (.mk ck ci cs []) [t]) = ft at KF HLF HFT
  have HZ0 : Hid ((((w.alloc (.cells #[.int .i64 5, .string nm, .slice an ns.length cn, .int .i64 ck, .int .i64 ci, .string cs, .slice ad 0 cd, .slice ak 1 c] 28)).alloc (.cells #[.int .i64 0, .string ⟨#[]⟩, .slice none 0 0, .int .i64 0, .int .i64 0, .string ⟨#[]⟩, .slice none 0 0, .slice none 0 0] 28)).alloc (.cells #[.int .i64 5, .string nm, .slice an ns.length cn, .int .i64 ck, .int .i64 ci, .string cs, .slice ad 0 cd, .slice none 0 0] 28)).heap[w.heap.size]? = some (.cells #[.int .i64 5, .string nm, .slice an ns.length cn, .int .i64 ck, .int .i64 ci, .string cs, .slice ad 0 cd, .slice ak 1 c] 28)) := Lib.hid (blk_skip' z0)
  have HZ1 : Hid ((((w.alloc (.cells #[.int .i64 5, .string nm, .slice an ns.length cn, .int .i64 ck, .int .i64 ci, .string cs, .slice ad 0 cd, .slice ak 1 c] 28)).alloc (.cells #[.int .i64 0, .string ⟨#[]⟩, .slice none 0 0, .int .i64 0, .int .i64 0, .string ⟨#[]⟩, .slice none 0 0, .slice none 0 0] 28)).alloc (.cells #[.int .i64 5, .string nm, .slice an ns.length cn, .int .i64 ck, .int .i64 ci, .string cs, .slice ad 0 cd, .slice none 0 0] 28)).heap[w.heap.size + 1]? = some (.cells #[.int .i64 0, .string ⟨#[]⟩, .slice none 0 0, .int .i64 0, .int .i64 0, .string ⟨#[]⟩, .slice none 0 0, .slice none 0 0] 28)) := Lib.hid (blk_skip' z1)
  have HB0 := Lib.hid hb0
  have HS0 := Lib.hid hs3
  have HST0 := Lib.hid hst0
  clear ih hok hS hst hlt hP hft h z0 z1 z2 zb hs2 hs3 hb0 hst0
  go_enter Try.func21, Try.ntmps21
  go_upto_region 2 with fail
  generalize ((w.alloc (.cells #[.int .i64 5, .string nm, .slice an ns.length cn, .int .i64 ck, .int .i64 ci, .string cs, .slice ad 0 cd, .slice ak 1 c] 28)).alloc (.cells #[.int .i64 0, .string ⟨#[]⟩, .slice none 0 0, .int .i64 0, .int .i64 0, .string ⟨#[]⟩, .slice none 0 0, .slice none 0 0] 28)).alloc (.cells #[.int .i64 5, .string nm, .slice an ns.length cn, .int .i64 ck, .int .i64 ci, .string cs, .slice ad 0 cd, .slice none 0 0] 28) = w0 at *
  obtain ⟨x0, x1, x2, x3, x4, x5, x6, x7⟩ := look8n HZ0.out
  go_wp2_with fail
  refine KF.out.mono ?_
  rintro e w1 ⟨a9, c9, rfl, hn1, hb1⟩
  have HN1 := Lib.hid hn1
  have HB1 := Lib.hid hb1
  have hz0 := (hb1.block _ (lt_of_block HZ0.out)).trans HZ0.out
  have HE1 := Lib.hid hz0
  have HS1 := Lib.hid hb1.size
  have HST1 := Lib.hid (HST0.out.below hb1)
  have hb1a := (Below.refl w1.heap.size w1).alloc (Nat.le_refl _) (.cells #[.slice an ns.length cn, .slice a9 ft.length c9, .int .i64 0, .string ⟨#[]⟩, .slice none 0 0, .int .i64 0, .int .i64 0, .string ⟨#[]⟩, .slice none 0 0, .slice none 0 0] 44)
  have HB1a := Lib.hid hb1a
  have HSTa := Lib.hid (HST1.out.below hb1a)
  have HFN := Lib.hid (heap_alloc_new w1 (.cells #[.slice an ns.length cn, .slice a9 ft.length c9, .int .i64 0, .string ⟨#[]⟩, .slice none 0 0, .int .i64 0, .int .i64 0, .string ⟨#[]⟩, .slice none 0 0, .slice none 0 0] 44))
  have HSa := Lib.hid (size_new w1 (.cells #[.slice an ns.length cn, .slice a9 ft.length c9, .int .i64 0, .string ⟨#[]⟩, .slice none 0 0, .int .i64 0, .int .i64 0, .string ⟨#[]⟩, .slice none 0 0, .slice none 0 0] 44))
  have HW1 := Lib.hid (HB0.out.trans (hb1.mono HB0.out.size))
  have HNA : Hid (InN (w1.alloc (.cells #[.slice an ns.length cn, .slice a9 ft.length c9, .int .i64 0, .string ⟨#[]⟩, .slice none 0 0, .int .i64 0, .int .i64 0, .string ⟨#[]⟩, .slice none 0 0, .slice none 0 0] 44)) (fun b => (P b ∧ ¬ (w.heap.size ≤ b ∧ b < w.heap.size + 3)) ∧ some b ≠ (Value.slice av fs.length cv).ownBlock) ns (.slice an ns.length cn)) := Lib.hid ((HI.out.1.2.2.stays (fun b hb => ⟨⟨(HSL.out b hb).2.2, by have := (HSL.out b hb).1; omega⟩, (HSL.out b hb).2.1⟩) fun b hb => HW1.out.block b (HSL.out b hb).1).below hb1a)
  have HFA : Hid (InN (w1.alloc (.cells #[.slice an ns.length cn, .slice a9 ft.length c9, .int .i64 0, .string ⟨#[]⟩, .slice none 0 0, .int .i64 0, .int .i64 0, .string ⟨#[]⟩, .slice none 0 0, .slice none 0 0] 44)) (fun b => (P b ∧ ¬ (w.heap.size ≤ b ∧ b < w.heap.size + 3)) ∧ some b ≠ (Value.slice av fs.length cv).ownBlock) ft (.slice a9 ft.length c9)) := Lib.hid ((hn1.weak fun b hb _ => ⟨⟨HPN.out b (by have := HS0.out; omega), by have := HS0.out; omega⟩, fun e => by have := (HLT.out b e.symm).2; have := HS0.out; omega⟩).below hb1a)
  have HMA : Hid (InF (w1.alloc (.cells #[.slice an ns.length cn, .slice a9 ft.length c9, .int .i64 0, .string ⟨#[]⟩, .slice none 0 0, .int .i64 0, .int .i64 0, .string ⟨#[]⟩, .slice none 0 0, .slice none 0 0] 44)) (fun b => (P b ∧ ¬ (w.heap.size ≤ b ∧ b < w.heap.size + 3)) ∧ some b ≠ (Value.slice av fs.length cv).ownBlock) (.mk 0 ⟨#[]⟩ [] (.mk 0 0 ⟨#[]⟩ []) []) (.slice none 0 0) (.slice none 0 0) (.slice none 0 0)) := Lib.hid ⟨⟨by constructor <;> decide, by decide, inN_nil'⟩, ⟨by constructor <;> decide, by constructor <;> decide, by decide, ⟨none, 0, rfl, Nat.le_refl _, Nat.zero_le _, fun _ => rfl, .inl rfl⟩⟩, ⟨none, 0, rfl, Nat.le_refl _, Nat.zero_le _, fun _ => rfl, .inl rfl⟩⟩
  have HCa : Hid (C ≤ (w1.alloc (.cells #[.slice an ns.length cn, .slice a9 ft.length c9, .int .i64 0, .string ⟨#[]⟩, .slice none 0 0, .int .i64 0, .int .i64 0, .string ⟨#[]⟩, .slice none 0 0, .slice none 0 0] 44)).heap.size) := Lib.hid (by rw [HSa.out]; have := HS0.out; have := HS1.out; omega)
  have hlen : fs.length ≤ 100000 := by omega
  clear hn1 hb1 hb1a KF x0 x1 x2 x3 x4 x5 x6 x7
  obtain ⟨x0, x1, x2, x3, x4, x5, x6, x7⟩ := look8n hz0
  clear hz0
  go_upto_region 6 with (at_builtin; refine wpList_append_f rfl _ _ rfl C (fun b => (P b ∧ ¬ (w.heap.size ≤ b ∧ b < w.heap.size + 3))) fs (.slice av fs.length cv) rfl HSTa.out w1.heap.size ns ft 0 ⟨#[]⟩ [] 0 0 ⟨#[]⟩ [] [] (.slice an ns.length cn) (.slice a9 ft.length c9) (.slice none 0 0) (.slice none 0 0) (.slice none 0 0) rfl HFN.out HNA.out HFA.out HMA.out hlen HCa.out ?_; intro g cap w2 h2 hg2 hat2; go_must (have HF12 := Lib.hid (rf_appended (n := fs.length + 1) (cap := cap) HSTa.out HCa.out hg2 hat2)); go_must (have HST2 := Lib.hid h2); clear h2 hg2 hat2)
  have HF2 : Hid (RfFr C w (.slice av fs.length cv) w2 (.slice (some ⟨g, 0, none⟩) (fs.length + 1) cap)) := Lib.hid ((RfFr.of_below hC (HW1.out.trans (HB1a.out.mono HW1.out.size))).trans HF12.out)
  have HF02 : Hid (RfFr C w1 (.slice av fs.length cv) w2 (.slice (some ⟨g, 0, none⟩) (fs.length + 1) cap)) := Lib.hid ((RfFr.of_below (by have := HS0.out; have := HS1.out; omega) HB1a.out).trans HF12.out)
  have HW2 : Hid (w.heap.size + 3 ≤ w1.heap.size ∧ w1.heap.size ≤ w2.heap.size) := Lib.hid ⟨by have := HS0.out; have := HS1.out; omega, HF02.out.1.size⟩
  have hown0 : ∀ b, w.heap.size ≤ b → some b ≠ (Value.slice av fs.length cv).ownBlock := fun b hb e => by have := (HLT.out b e.symm).2; omega
  have HE2 := Lib.hid ((HF02.out.2 w.heap.size (by have := HW2.out; omega) (hown0 _ (Nat.le_refl _))).1.trans HE1.out)
  have HZ2 := Lib.hid ((HF02.out.2 (w.heap.size + 1) (by have := HW2.out; omega) (hown0 _ (by omega))).1.trans ((HB1.out.block _ (lt_of_block HZ1.out)).trans HZ1.out))
  have hb3 := (Below.refl w2.heap.size w2).alloc (Nat.le_refl _) (.cells #[.int .i64 0, .string ⟨#[]⟩, .slice none 0 0, .int .i64 0, .int .i64 0, .string ⟨#[]⟩, .slice none 0 0, .slice none 0 0] 28)
  have HB3 := Lib.hid hb3
  have HZK := Lib.hid (heap_alloc_new w2 (.cells #[.int .i64 0, .string ⟨#[]⟩, .slice none 0 0, .int .i64 0, .int .i64 0, .string ⟨#[]⟩, .slice none 0 0, .slice none 0 0] 28))
  have HS3 := Lib.hid (size_new w2 (.cells #[.int .i64 0, .string ⟨#[]⟩, .slice none 0 0, .int .i64 0, .int .i64 0, .string ⟨#[]⟩, .slice none 0 0, .slice none 0 0] 28))
  have HE3 := Lib.hid ((hb3.block _ (lt_of_block HE2.out)).trans HE2.out)
  have HZ3 := Lib.hid ((hb3.block _ (lt_of_block HZ2.out)).trans HZ2.out)
  have HV2 := Lib.hid HST2.out.lt
  have HST3 : Hid (OutF (w2.alloc (.cells #[.int .i64 0, .string ⟨#[]⟩, .slice none 0 0, .int .i64 0, .int .i64 0, .string ⟨#[]⟩, .slice none 0 0, .slice none 0 0] 28)) C (fun b => (P b ∧ ¬ (w.heap.size ≤ b ∧ b < w.heap.size + 3)) ∧ b ≠ w2.heap.size) (fs ++ [⟨ns, ft, PE0⟩]) (.slice (some ⟨g, 0, none⟩) (fs.length + 1) cap)) := Lib.hid (HST2.out.at (fun b e => hb3.block b (HV2.out b e).2) fun b h1 h2 => ⟨hb3.block b h2, h1, by omega⟩)
  have HF13 : Hid (RfFr C w1 (.slice av fs.length cv) (w2.alloc (.cells #[.int .i64 0, .string ⟨#[]⟩, .slice none 0 0, .int .i64 0, .int .i64 0, .string ⟨#[]⟩, .slice none 0 0, .slice none 0 0] 28)) (.slice (some ⟨g, 0, none⟩) (fs.length + 1) cap)) := Lib.hid (HF02.out.trans (RfFr.of_below (by have := HW2.out; omega) hb3))
  have HBS : Hid (∀ b, S b → (w2.alloc (.cells #[.int .i64 0, .string ⟨#[]⟩, .slice none 0 0, .int .i64 0, .int .i64 0, .string ⟨#[]⟩, .slice none 0 0, .slice none 0 0] 28)).heap[b]? = w.heap[b]? ∧ b < (w2.alloc (.cells #[.int .i64 0, .string ⟨#[]⟩, .slice none 0 0, .int .i64 0, .int .i64 0, .string ⟨#[]⟩, .slice none 0 0, .slice none 0 0] 28)).heap.size ∧ some b ≠ (Value.slice (some ⟨g, 0, none⟩) (fs.length + 1) cap).ownBlock) := Lib.hid fun b hb => by
    obtain ⟨g1, g2, _⟩ := HSL.out b hb
    obtain ⟨g4, g5⟩ := HF13.out.2 b (by have := HW2.out; omega) g2
    exact ⟨g4.trans (HW1.out.block b g1), by rw [HS3.out]; have := HW2.out; omega, g5⟩
  clear hb3 x0 x1 x2 x3 x4 x5 x6 x7 HNA HFA HMA HSTa HFN HST1 HST0 HE2 HZ2
  go_upto_region 7 with fail
  generalize w2.alloc (.cells #[.int .i64 0, .string ⟨#[]⟩, .slice none 0 0, .int .i64 0, .int .i64 0, .string ⟨#[]⟩, .slice none 0 0, .slice none 0 0] 28) = w3 at *
  obtain ⟨b, o, c', ea, _, _, hS1, hE1⟩ := (HI.out.2.2.stays (w9 := w3) (fun _ h => h) fun b hb => (HBS.out b hb).1).item 0 (by rw [List.length_singleton]; exact Nat.zero_lt_one)
  cases ea
  rw [show o + 0 * 8 = o by omega] at hE1
  have hE2 : InE w3 S t b o := hE1
  clear hE1
  obtain ⟨tk, tn, tns, ⟨tck, tci, tcs, tcl⟩, tl⟩ := t
  obtain ⟨tvn, tvd, tvk, hF1, a0, a1, a2, a3, a4, a5, a6, a7⟩ := hE2.cells
  have KC := Lib.hid (IT.out w3 C (fun b => (P b ∧ ¬ (w.heap.size ≤ b ∧ b < w.heap.size + 3)) ∧ b ≠ w2.heap.size) S (fs ++ [⟨ns, ft, PE0⟩]) _ tvn tvd tvk hF1 HOT.out (fun b hb => ⟨(HBS.out b hb).2.1, (HBS.out b hb).2.2, ⟨(HSL.out b hb).2.2, by have := (HSL.out b hb).1; omega⟩, by have := (HSL.out b hb).1; have := HW2.out; omega⟩) HST3.out (by rw [HS3.out]; have := HW2.out; omega) (fun b hb => by rw [HS3.out] at hb; have := HW2.out; exact ⟨⟨HPN.out b (by omega), by omega⟩, by omega⟩) (by rw [List.length_append, List.length_singleton]; omega) (by omega))
  unfold InF at hF1
  obtain ⟨⟨_, _, hn1⟩, ⟨_, _, _, hd1⟩, hk1⟩ := hF1
  obtain ⟨n1, n2, en, -⟩ := hn1
  obtain ⟨d1, d2, ed, -⟩ := hd1
  obtain ⟨k1, k2, ek, -⟩ := hk1
  subst en ed ek
  have HKP := Lib.hid (lift_keeps fs ⟨ns, ft, PE0⟩ (.mk tk tn tns (.mk tck tci tcs tcl) tl))
  have HLN6 := Lib.hid (liftT_count (fs ++ [⟨ns, ft, PE0⟩]) (.mk tk tn tns (.mk tck tci tcs tcl) tl))
  unfold RLiftIs at KC
  generalize (liftT (fs ++ [⟨ns, ft, PE0⟩]) (.mk tk tn tns (.mk tck tci tcs tcl) tl)).1 = t6 at *
  generalize (liftT (fs ++ [⟨ns, ft, PE0⟩]) (.mk tk tn tns (.mk tck tci tcs tcl) tl)).2 = fs6 at *
  obtain ⟨x0, x1, x2, x3, x4, x5, x6, x7⟩ := look8n HE3.out
  clear hE2 IT
  go_wp2_with fail
  refine KC.out.mono ?_
  rintro e w4 ⟨k5, nm5, ns5, ck5, ci5, cs5, cl5, l5, vn5, vd5, vk5, v6, rfl, ht6, hf5, hst5, hfr5⟩
  subst ht6
  have hl6 : fs.length < fs6.length := by have := HLN6.out; rw [List.length_append, List.length_singleton] at this; omega
  obtain ⟨g6, c6, rfl, hc6, hm6⟩ := hst5.some (by omega)
  obtain ⟨n51, n52, en5, -⟩ := id hf5.1.2.2
  obtain ⟨d51, d52, ed5, -⟩ := id hf5.2.1.2.2.2
  obtain ⟨k51, k52, ek5, -⟩ := id hf5.2.2
  subst en5 ed5 ek5
  have HST5 := Lib.hid hst5
  have HF5 := Lib.hid hf5
  have HFR5 := Lib.hid hfr5
  have hq5 := hfr5.2 w2.heap.size (by rw [HS3.out]; omega) (fun e => by have := (HV2.out _ e.symm).2; omega)
  have hzk := hq5.1.trans HZK.out
  have HZK5 := Lib.hid hzk
  have HQ5 := Lib.hid hq5.2
  have HF14 := Lib.hid (HF13.out.trans hfr5)
  have hz4 := hfr5.2 (w.heap.size + 1) (by rw [HS3.out]; have := HW2.out; omega) (HF13.out.2 (w.heap.size + 1) (by have := HW2.out; omega) (hown0 _ (by omega))).2
  have HZ4 := Lib.hid (hz4.1.trans HZ3.out)
  have HZV := Lib.hid hz4.2
  obtain ⟨s0, s1, s2, s3, s4, s5, s6, s7⟩ := look8n hzk
  obtain ⟨f0, f1, f2, f3, f4, f5, f6, f7⟩ := free8n hzk
  clear hst5 hf5 hfr5 KC x0 x1 x2 x3 x4 x5 x6 x7 a0 a1 a2 a3 a4 a5 a6 a7 hzk hq5 hz4
  go_upto_region 8 with fail
  have HX5 := Lib.hid (fun b (hb : b ≠ w2.heap.size) => bput8_other (W := w4) hb (.int .i64 k5) (.string nm5) (.slice n51 ns5.length n52) (.int .i64 ck5) (.int .i64 ci5) (.string cs5) (.slice d51 cl5.length d52) (.slice k51 l5.length k52))
  have HB5 := Lib.hid (bbel8 (Below.refl C w4) (show C ≤ w2.heap.size by have := HW2.out; omega) (.int .i64 k5) (.string nm5) (.slice n51 ns5.length n52) (.int .i64 ck5) (.int .i64 ci5) (.string cs5) (.slice d51 cl5.length d52) (.slice k51 l5.length k52))
  have HZ5 := Lib.hid (bput8 (v0 := .int .i64 k5) (v1 := .string nm5) (v2 := .slice n51 ns5.length n52) (v3 := .int .i64 ck5) (v4 := .int .i64 ci5) (v5 := .string cs5) (v6 := .slice d51 cl5.length d52) (v7 := .slice k51 l5.length k52) HZK5.out)
  have HST6 : Hid (OutF ((((((((w4.setCell ⟨w2.heap.size, 0, none⟩ (.int .i64 k5)).setCell ⟨w2.heap.size, 1, none⟩ (.string nm5)).setCell ⟨w2.heap.size, 2, none⟩ (.slice n51 ns5.length n52)).setCell ⟨w2.heap.size, 3, none⟩ (.int .i64 ck5)).setCell ⟨w2.heap.size, 4, none⟩ (.int .i64 ci5)).setCell ⟨w2.heap.size, 5, none⟩ (.string cs5)).setCell ⟨w2.heap.size, 6, none⟩ (.slice d51 cl5.length d52)).setCell ⟨w2.heap.size, 7, none⟩ (.slice k51 l5.length k52)) C (fun b => (P b ∧ ¬ (w.heap.size ≤ b ∧ b < w.heap.size + 3))) fs6 (.slice (some ⟨g6, 0, none⟩) fs6.length c6)) := Lib.hid (HST5.out.at (fun b e => HX5.out b fun e2 => HQ5.out (by rw [e, ← e2])) fun b hb hlt => ⟨HX5.out b hb.2, hb.1⟩)
  have HF6 : Hid (InF ((((((((w4.setCell ⟨w2.heap.size, 0, none⟩ (.int .i64 k5)).setCell ⟨w2.heap.size, 1, none⟩ (.string nm5)).setCell ⟨w2.heap.size, 2, none⟩ (.slice n51 ns5.length n52)).setCell ⟨w2.heap.size, 3, none⟩ (.int .i64 ck5)).setCell ⟨w2.heap.size, 4, none⟩ (.int .i64 ci5)).setCell ⟨w2.heap.size, 5, none⟩ (.string cs5)).setCell ⟨w2.heap.size, 6, none⟩ (.slice d51 cl5.length d52)).setCell ⟨w2.heap.size, 7, none⟩ (.slice k51 l5.length k52)) (fun b => (P b ∧ ¬ (w.heap.size ≤ b ∧ b < w.heap.size + 3)) ∧ b ≠ g6) (.mk k5 nm5 ns5 (.mk ck5 ci5 cs5 cl5) l5) (.slice n51 ns5.length n52) (.slice d51 cl5.length d52) (.slice k51 l5.length k52)) := Lib.hid (HF5.out.stays (fun b hb => ⟨by
    have g2 := HW2.out
    rcases hb.1 with g1 | g1
    · exact ⟨(HSL.out b g1).2.2, by have := (HSL.out b g1).1; omega⟩
    · rw [HS3.out] at g1
      exact ⟨HPN.out b (by omega), by omega⟩, fun e => hb.2 (by rw [e]; rfl)⟩) fun b hb => HX5.out b (by
    have g2 := HW2.out
    rcases hb.1 with g1 | g1
    · have := (HSL.out b g1).1
      omega
    · rw [HS3.out] at g1
      omega))
  have HW5 : Hid ((((((((((w4.setCell ⟨w2.heap.size, 0, none⟩ (.int .i64 k5)).setCell ⟨w2.heap.size, 1, none⟩ (.string nm5)).setCell ⟨w2.heap.size, 2, none⟩ (.slice n51 ns5.length n52)).setCell ⟨w2.heap.size, 3, none⟩ (.int .i64 ck5)).setCell ⟨w2.heap.size, 4, none⟩ (.int .i64 ci5)).setCell ⟨w2.heap.size, 5, none⟩ (.string cs5)).setCell ⟨w2.heap.size, 6, none⟩ (.slice d51 cl5.length d52)).setCell ⟨w2.heap.size, 7, none⟩ (.slice k51 l5.length k52))).heap.size = w4.heap.size) := Lib.hid (by simp [World.setCell])
  clear HF5 HST5 s0 s1 s2 s3 s4 s5 s6 s7 f0 f1 f2 f3 f4 f5 f6 f7
  generalize ((((((((w4.setCell ⟨w2.heap.size, 0, none⟩ (.int .i64 k5)).setCell ⟨w2.heap.size, 1, none⟩ (.string nm5)).setCell ⟨w2.heap.size, 2, none⟩ (.slice n51 ns5.length n52)).setCell ⟨w2.heap.size, 3, none⟩ (.int .i64 ck5)).setCell ⟨w2.heap.size, 4, none⟩ (.int .i64 ci5)).setCell ⟨w2.heap.size, 5, none⟩ (.string cs5)).setCell ⟨w2.heap.size, 6, none⟩ (.slice d51 cl5.length d52)).setCell ⟨w2.heap.size, 7, none⟩ (.slice k51 l5.length k52)) = w5 at *
  have HPB := Lib.hid (HST6.out.put HKP.out HF6.out)
  have HZ45 := Lib.hid ((HX5.out (w.heap.size + 1) (by have := HW2.out; omega)).trans HZ4.out)
  obtain ⟨hfz, hce⟩ := HST6.out.cells
  have r0 := hfz (fs.length * 10 + 2)
  have r1 := hfz (fs.length * 10 + 3)
  have r2 := hfz (fs.length * 10 + 4)
  have r3 := hfz (fs.length * 10 + 5)
  have r4 := hfz (fs.length * 10 + 6)
  have r5 := hfz (fs.length * 10 + 7)
  have r6 := hfz (fs.length * 10 + 8)
  have r7 := hfz (fs.length * 10 + 9)
  obtain ⟨u0, t0⟩ := hce (fs.length * 10 + 2) (by omega)
  obtain ⟨u1, t1⟩ := hce (fs.length * 10 + 3) (by omega)
  obtain ⟨u2, t2⟩ := hce (fs.length * 10 + 4) (by omega)
  obtain ⟨u3, t3⟩ := hce (fs.length * 10 + 5) (by omega)
  obtain ⟨u4, t4⟩ := hce (fs.length * 10 + 6) (by omega)
  obtain ⟨u5, t5⟩ := hce (fs.length * 10 + 7) (by omega)
  obtain ⟨u6, t6⟩ := hce (fs.length * 10 + 8) (by omega)
  obtain ⟨u7, t7⟩ := hce (fs.length * 10 + 9) (by omega)
  obtain ⟨s0, s1, s2, s3, s4, s5, s6, s7⟩ := look8n HZ5.out
  clear hfz hce
  go_upto_region 9 with fail
  have HX6 := Lib.hid (fun b (hb : b ≠ g6) => fput8_other w5 g6 (fs.length * 10 + 2) k5 nm5 (.slice n51 ns5.length n52) ck5 ci5 cs5 (.slice d51 cl5.length d52) (.slice k51 l5.length k52) hb)
  have HB6 := Lib.hid (fput8_below (Below.refl C w5) (HST6.out.lt g6 rfl).1 (fs.length * 10 + 2) k5 nm5 (.slice n51 ns5.length n52) ck5 ci5 cs5 (.slice d51 cl5.length d52) (.slice k51 l5.length k52))
  have hz6 := (HX6.out (w.heap.size + 1) fun e => HZV.out (by rw [e]; rfl)).trans HZ45.out
  change Code.wp _ _ _ _ (fput8 w5 g6 (fs.length * 10 + 2) k5 nm5 (.slice n51 ns5.length n52) ck5 ci5 cs5 (.slice d51 cl5.length d52) (.slice k51 l5.length k52))
  clear r0 r1 r2 r3 r4 r5 r6 r7 t0 t1 t2 t3 t4 t5 t6 t7 s0 s1 s2 s3 s4 s5 s6 s7
  generalize fput8 w5 g6 (fs.length * 10 + 2) k5 nm5 (.slice n51 ns5.length n52) ck5 ci5 cs5 (.slice d51 cl5.length d52) (.slice k51 l5.length k52) = w6 at *
  have HZ6 := Lib.hid hz6
  obtain ⟨z0, z1, z2, z3, z4, z5, z6, z7⟩ := look8n hz6
  obtain ⟨f0, f1, f2, f3, f4, f5, f6, f7⟩ := free8n hz6
  have HZ9 := Lib.hid (bput8 (v0 := .int .i64 11) (v1 := .string ⟨#[]⟩) (v2 := .slice a9 ft.length c9) (v3 := .int .i64 1) (v4 := .int .i64 fs.length) (v5 := .string ⟨#[]⟩) (v6 := .slice none 0 0) (v7 := .slice none 0 0) HZ6.out)
  have HX9 := Lib.hid (fun b (hb : b ≠ w.heap.size + 1) => bput8_other (W := w6) hb (.int .i64 11) (.string ⟨#[]⟩) (.slice a9 ft.length c9) (.int .i64 1) (.int .i64 fs.length) (.string ⟨#[]⟩) (.slice none 0 0) (.slice none 0 0))
  have HB9 := Lib.hid (bbel8 (Below.refl C w6) (show C ≤ w.heap.size + 1 by omega) (.int .i64 11) (.string ⟨#[]⟩) (.slice a9 ft.length c9) (.int .i64 1) (.int .i64 fs.length) (.string ⟨#[]⟩) (.slice none 0 0) (.slice none 0 0))
  have HOLD : Hid (∀ b, b < w1.heap.size → b ≠ w.heap.size + 1 → some b ≠ (Value.slice av fs.length cv).ownBlock → ((((((((w6.setCell ⟨w.heap.size + 1, 0, none⟩ (.int .i64 11)).setCell ⟨w.heap.size + 1, 1, none⟩ (.string ⟨#[]⟩)).setCell ⟨w.heap.size + 1, 2, none⟩ (.slice a9 ft.length c9)).setCell ⟨w.heap.size + 1, 3, none⟩ (.int .i64 1)).setCell ⟨w.heap.size + 1, 4, none⟩ (.int .i64 fs.length)).setCell ⟨w.heap.size + 1, 5, none⟩ (.string ⟨#[]⟩)).setCell ⟨w.heap.size + 1, 6, none⟩ (.slice none 0 0)).setCell ⟨w.heap.size + 1, 7, none⟩ (.slice none 0 0)).heap[b]? = w1.heap[b]? ∧ some b ≠ (Value.slice (some ⟨g6, 0, none⟩) fs6.length c6).ownBlock) := Lib.hid fun b h1 h2 h3 => by
    obtain ⟨g1, g2⟩ := HF14.out.2 b h1 h3
    have g3 := HW2.out
    exact ⟨(HX9.out b h2).trans ((HX6.out b fun e => g2 (by rw [e]; rfl)).trans ((HX5.out b (by omega)).trans g1)), g2⟩
  have HN9 := Lib.hid (HN1.out.move (w' := ((((((((w6.setCell ⟨w.heap.size + 1, 0, none⟩ (.int .i64 11)).setCell ⟨w.heap.size + 1, 1, none⟩ (.string ⟨#[]⟩)).setCell ⟨w.heap.size + 1, 2, none⟩ (.slice a9 ft.length c9)).setCell ⟨w.heap.size + 1, 3, none⟩ (.int .i64 1)).setCell ⟨w.heap.size + 1, 4, none⟩ (.int .i64 fs.length)).setCell ⟨w.heap.size + 1, 5, none⟩ (.string ⟨#[]⟩)).setCell ⟨w.heap.size + 1, 6, none⟩ (.slice none 0 0)).setCell ⟨w.heap.size + 1, 7, none⟩ (.slice none 0 0))) (S' := fun b => (S b ∨ w.heap.size ≤ b) ∧ some b ≠ (Value.slice (some ⟨g6, 0, none⟩) fs6.length c6).ownBlock) (fun b hb hlt => ⟨.inr (by have := HS0.out; omega), (HOLD.out b hlt (by have := HS0.out; omega) (hown0 b (by have := HS0.out; omega))).2⟩) fun b o y hb hc => by
    have hlt : b < w1.heap.size := World.block_lt_of_cell? _ _ hc
    have hb2 : w0.heap.size ≤ b := hb
    rw [World.cell?_of_block (w := w1) (a := ⟨b, o, none⟩) (HOLD.out b hlt (by have := HS0.out; omega) (hown0 b (by have := HS0.out; omega))).1]
    exact hc)
  have HFIN : Hid (OutF ((((((((w6.setCell ⟨w.heap.size + 1, 0, none⟩ (.int .i64 11)).setCell ⟨w.heap.size + 1, 1, none⟩ (.string ⟨#[]⟩)).setCell ⟨w.heap.size + 1, 2, none⟩ (.slice a9 ft.length c9)).setCell ⟨w.heap.size + 1, 3, none⟩ (.int .i64 1)).setCell ⟨w.heap.size + 1, 4, none⟩ (.int .i64 fs.length)).setCell ⟨w.heap.size + 1, 5, none⟩ (.string ⟨#[]⟩)).setCell ⟨w.heap.size + 1, 6, none⟩ (.slice none 0 0)).setCell ⟨w.heap.size + 1, 7, none⟩ (.slice none 0 0)) C P (fs6.set fs.length ⟨ns, ft, .mk k5 nm5 ns5 (.mk ck5 ci5 cs5 cl5) l5⟩) (.slice (some ⟨g6, 0, none⟩) fs6.length c6)) := Lib.hid (HPB.out.at (fun b e => HX9.out b fun e2 => HZV.out (by rw [e, ← e2])) fun b hb hlt => ⟨HX9.out b (by omega), hb.1⟩)
  have HFR9 : Hid (RfFr C w (.slice av fs.length cv) ((((((((w6.setCell ⟨w.heap.size + 1, 0, none⟩ (.int .i64 11)).setCell ⟨w.heap.size + 1, 1, none⟩ (.string ⟨#[]⟩)).setCell ⟨w.heap.size + 1, 2, none⟩ (.slice a9 ft.length c9)).setCell ⟨w.heap.size + 1, 3, none⟩ (.int .i64 1)).setCell ⟨w.heap.size + 1, 4, none⟩ (.int .i64 fs.length)).setCell ⟨w.heap.size + 1, 5, none⟩ (.string ⟨#[]⟩)).setCell ⟨w.heap.size + 1, 6, none⟩ (.slice none 0 0)).setCell ⟨w.heap.size + 1, 7, none⟩ (.slice none 0 0)) (.slice (some ⟨g6, 0, none⟩) fs6.length c6)) := Lib.hid ⟨((HW1.out.mono hC).trans (HF14.out.1.trans (HB5.out.trans (HB6.out.trans HB9.out)))), fun b h1 h2 => by
    have g3 := HW2.out
    obtain ⟨g1, g2⟩ := HOLD.out b (by omega) (by omega) h2
    exact ⟨g1.trans (HW1.out.block b h1), g2⟩⟩
  clear HOLD HX9 HB9 HX6 HB6 HPB HX5 HB5 hz6
  go_wp2
  refine bodyPost_ret (results_row_one (P := Try.prog) rfl _ _ (w.heap.size + 1) 28 _ (0, 0) _ rfl HZ9.out Try.underlying28 rfl (by kernel_rfl)) rfl ?_
  exact ⟨11, ⟨#[]⟩, ft, 1, (fs.length : Int), ⟨#[]⟩, [], [], .slice a9 ft.length c9, .slice none 0 0, .slice none 0 0, _, rfl, by rw [HLF.out]; rfl, ⟨⟨by constructor <;> decide, by decide, HN9.out⟩, ⟨by constructor <;> decide, HI64.out, by decide, ⟨none, 0, rfl, Nat.le_refl _, Nat.zero_le _, fun _ => rfl, .inl rfl⟩⟩, ⟨none, 0, rfl, Nat.le_refl _, Nat.zero_le _, fun _ => rfl, .inl rfl⟩⟩, by rw [HLF.out]; exact HFIN.out, HFR9.out⟩
mutual
theorem rlift_any : ∀ t : PE, RLiftOk t
  | .mk k nm ns (.mk ck ci cs cl) l => if hk : k = 5 then by subst hk; exact rlift_lam nm ns ck ci cs cl l (rlift_all l) else rlift_else k hk nm ns ck ci cs cl l (rlift_all l)
theorem rlift_all : ∀ l : List PE, ∀ t ∈ l, RLiftOk t
  | [], t, h => by cases h
  | u :: l, t, h => (List.mem_cons.1 h).elim (fun e => e ▸ rlift_any u) (fun h => rlift_all l t h)
end
end Go.Proofs.Ytkgofgkgnchhjaa.Core
