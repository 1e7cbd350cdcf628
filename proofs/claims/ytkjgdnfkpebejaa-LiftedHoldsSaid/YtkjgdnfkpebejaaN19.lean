/-
The fixed calls of layer 14. No condition.
-/
import Derived.Test.YtkjgdnfkpebejaaWNC
import Derived.Test.YtkjgdnfkpebejaaN4

namespace Go.Proofs.Ytkjgdnfkpebejaa.Core
open Go.ChangeShapes Go.WideShapes Go.ChangeAt Go.RowKit Go.Deep
open Dat (PT ok64 RowX)
set_option maxRecDepth 100000

theorem refL_any (s : ByteArray) (w : World) :
    Calls Try.prog 27 #[.string s] w fun e w' => e = .returned (.agg #[.int .i64 1, .string s, .slice none 0 0, .int .i64 0, .int .i64 0, .string ⟨#[]⟩, .slice none 0 0, .slice none 0 0]) ∧ Below w.heap.size w w' := by
  go_enter Try.func27, Try.ntmps27
  go_wp2
  exact bodyPost_ret (results_cell_row (P := Try.prog) rfl _ _ w.heap.size 28 _ (0, 0) _ rfl (heap_alloc_new w _) Try.underlying28 rfl (by kernel_rfl)) rfl ⟨rfl, (Below.refl _ _).alloc (Nat.le_refl _) _⟩
theorem four_new (w : World) (a b c d : Obj) : ((((w.alloc a).alloc b).alloc c).alloc d).heap[w.heap.size]? = some a ∧ ((((w.alloc a).alloc b).alloc c).alloc d).heap[w.heap.size + 1]? = some b ∧ ((((w.alloc a).alloc b).alloc c).alloc d).heap[w.heap.size + 1 + 1]? = some c ∧ ((((w.alloc a).alloc b).alloc c).alloc d).heap[w.heap.size + 1 + 1 + 1]? = some d ∧ Below w.heap.size w ((((w.alloc a).alloc b).alloc c).alloc d) := by
  obtain ⟨z0, z1, zb⟩ := two_new w a b
  have hs : ((w.alloc a).alloc b).heap.size = w.heap.size + 2 := by rw [size_new, size_new]
  obtain ⟨y0, y1, yb⟩ := two_new ((w.alloc a).alloc b) c d
  rw [hs] at y0 y1
  exact ⟨(yb.block _ (lt_of_block z0)).trans z0, (yb.block _ (lt_of_block z1)).trans z1, y0, y1, zb.trans (yb.mono zb.size)⟩
set_option maxHeartbeats 8000000 in
theorem fixedL_any (w : World) : Calls Try.prog 8 #[] w fun e w' => e = .returned (.bool true) ∧ Below w.heap.size w w' := by
  go_enter Try.func8, Try.ntmps8
  go_wp2_with fail
  refine (refL_any _ _).mono ?_
  rintro e w1 ⟨rfl, hb1⟩
  have HB1 := Lib.hid hb1
  clear hb1
  go_wp2_with fail
  refine (refL_any _ _).mono ?_
  rintro e w2 ⟨rfl, hb2⟩
  have HB2 := Lib.hid (HB1.out.trans (hb2.mono HB1.out.size))
  clear hb2
  go_upto_region 3 with fail
  obtain ⟨z0, z1, zb⟩ := two_new w2 (.cells #[.int .i64 1, .string ⟨#[120]⟩, .slice none 0 0, .int .i64 0, .int .i64 0, .string ⟨#[]⟩, .slice none 0 0, .slice none 0 0, .int .i64 1, .string ⟨#[121]⟩, .slice none 0 0, .int .i64 0, .int .i64 0, .string ⟨#[]⟩, .slice none 0 0, .slice none 0 0] 28) (.cells #[.int .i64 7, .string ⟨#[43]⟩, .slice none 0 0, .int .i64 0, .int .i64 0, .string ⟨#[]⟩, .slice none 0 0, .slice (some ⟨w2.heap.size, 0, none⟩) 2 2] 28)
  generalize (w2.alloc (.cells #[.int .i64 1, .string ⟨#[120]⟩, .slice none 0 0, .int .i64 0, .int .i64 0, .string ⟨#[]⟩, .slice none 0 0, .slice none 0 0, .int .i64 1, .string ⟨#[121]⟩, .slice none 0 0, .int .i64 0, .int .i64 0, .string ⟨#[]⟩, .slice none 0 0, .slice none 0 0] 28)).alloc (.cells #[.int .i64 7, .string ⟨#[43]⟩, .slice none 0 0, .int .i64 0, .int .i64 0, .string ⟨#[]⟩, .slice none 0 0, .slice (some ⟨w2.heap.size, 0, none⟩) 2 2] 28) = w3 at *
  have HSUM := Lib.hid z1
  have HB3 := Lib.hid (HB2.out.trans (zb.mono HB2.out.size))
  have hir : ∀ (W : World) (s : ByteArray), s.size ≤ maxLen → InF W TT (.mk 1 s [] (.mk 0 0 ⟨#[]⟩ []) []) (.slice none 0 0) (.slice none 0 0) (.slice none 0 0) := fun W s hs => inF_node (by constructor <;> decide) hs (by constructor <;> decide) (by constructor <;> decide) (by decide) inN_nil' inK_nil'
  have HFS : Hid (InF w3 TT (.mk 7 ⟨#[43]⟩ [] (.mk 0 0 ⟨#[]⟩ []) [refL nLX, refL nLY]) (.slice none 0 0) (.slice none 0 0) (.slice (some ⟨w2.heap.size, 0, none⟩) 2 2)) := Lib.hid (inF_node (by constructor <;> decide) (by decide) (by constructor <;> decide) (by constructor <;> decide) (by decide) inN_nil' (inK_row (l := [refL nLX, refL nLY]) z0 (by
    unfold refL PT0
    rw [RowE]
    refine ⟨_, _, _, _, rfl, hir w3 nLX (by decide), ?_⟩
    rw [RowE]
    refine ⟨_, _, _, _, rfl, hir w3 nLY (by decide), ?_⟩
    rw [RowE]) (by simp)))
  obtain ⟨x0, x1, x2, x3, x4, x5, x6, x7⟩ := look8n z1
  have hl3 : w2.heap.size + 1 < w3.heap.size := lt_of_block z1
  clear z0 z1 zb
  go_upto_region 4 with fail
  obtain ⟨y0, y1, y2, y3, yb⟩ := four_new w3 (.cells #[.string ⟨#[121]⟩] 9) (.cells #[.int .i64 7, .string ⟨#[43]⟩, .slice none 0 0, .int .i64 0, .int .i64 0, .string ⟨#[]⟩, .slice none 0 0, .slice (some ⟨w2.heap.size, 0, none⟩) 2 2] 28) (.cells #[.int .i64 5, .string ⟨#[]⟩, .slice none 0 0, .int .i64 0, .int .i64 0, .string ⟨#[]⟩, .slice none 0 0, .slice (some ⟨w3.heap.size + 1, 0, none⟩) 1 1] 28) (.cells #[.int .i64 5, .string ⟨#[]⟩, .slice (some ⟨w3.heap.size, 0, none⟩) 1 1, .int .i64 0, .int .i64 0, .string ⟨#[]⟩, .slice none 0 0, .slice (some ⟨w3.heap.size + 1 + 1, 0, none⟩) 1 1] 28)
  generalize (((w3.alloc (.cells #[.string ⟨#[121]⟩] 9)).alloc (.cells #[.int .i64 7, .string ⟨#[43]⟩, .slice none 0 0, .int .i64 0, .int .i64 0, .string ⟨#[]⟩, .slice none 0 0, .slice (some ⟨w2.heap.size, 0, none⟩) 2 2] 28)).alloc (.cells #[.int .i64 5, .string ⟨#[]⟩, .slice none 0 0, .int .i64 0, .int .i64 0, .string ⟨#[]⟩, .slice none 0 0, .slice (some ⟨w3.heap.size + 1, 0, none⟩) 1 1] 28)).alloc (.cells #[.int .i64 5, .string ⟨#[]⟩, .slice (some ⟨w3.heap.size, 0, none⟩) 1 1, .int .i64 0, .int .i64 0, .string ⟨#[]⟩, .slice none 0 0, .slice (some ⟨w3.heap.size + 1 + 1, 0, none⟩) 1 1] 28) = w4 at *
  have HB4 := Lib.hid (HB3.out.trans (yb.mono HB3.out.size))
  have HSUM4 := Lib.hid ((yb.block _ (lt_of_block HSUM.out)).trans HSUM.out)
  have HFS4 := Lib.hid (HFS.out.below yb)
  have HFL : Hid (InF w4 TT (.mk 5 ⟨#[]⟩ [] (.mk 0 0 ⟨#[]⟩ []) [sumL]) (.slice none 0 0) (.slice none 0 0) (.slice (some ⟨w3.heap.size + 1, 0, none⟩) 1 1)) := Lib.hid (inF_node (by constructor <;> decide) (by decide) (by constructor <;> decide) (by constructor <;> decide) (by decide) inN_nil' (inK_row (l := [sumL]) y1 (by
    unfold sumL PT0
    rw [RowE]
    refine ⟨_, _, _, _, rfl, HFS4.out, ?_⟩
    rw [RowE]) (by simp)))
  have HFI : Hid (InF w4 TT (.mk 5 ⟨#[]⟩ [nLY] (.mk 0 0 ⟨#[]⟩ []) [lamL]) (.slice (some ⟨w3.heap.size, 0, none⟩) 1 1) (.slice none 0 0) (.slice (some ⟨w3.heap.size + 1 + 1, 0, none⟩) 1 1)) := Lib.hid (inF_node (by constructor <;> decide) (by decide) (by constructor <;> decide) (by constructor <;> decide) (by decide) (inN_lit (s := nLY) y0 (by decide)) (inK_row (l := [lamL]) y2 (by
    unfold lamL PT0
    rw [RowE]
    refine ⟨_, _, _, _, rfl, HFL.out, ?_⟩
    rw [RowE]) (by simp)))
  clear x0 x1 x2 x3 x4 x5 x6 x7 hl3
  obtain ⟨x0, x1, x2, x3, x4, x5, x6, x7⟩ := look8n y3
  have hl4 : w3.heap.size + 1 + 1 + 1 < w4.heap.size := lt_of_block y3
  clear y0 y1 y2 y3 yb
  go_upto_region 5 with fail
  obtain ⟨y0, y1, yb⟩ := two_new w4 (.cells #[.string ⟨#[120]⟩] 9) (.cells #[.int .i64 0, .string ⟨#[]⟩, .slice none 0 0, .int .i64 1, .int .i64 1, .string ⟨#[]⟩, .slice none 0 0, .slice none 0 0, .int .i64 5, .string ⟨#[]⟩, .slice (some ⟨w3.heap.size, 0, none⟩) 1 1, .int .i64 0, .int .i64 0, .string ⟨#[]⟩, .slice none 0 0, .slice (some ⟨w3.heap.size + 1 + 1, 0, none⟩) 1 1] 28)
  have hs5 : ((w4.alloc (.cells #[.string ⟨#[120]⟩] 9)).alloc (.cells #[.int .i64 0, .string ⟨#[]⟩, .slice none 0 0, .int .i64 1, .int .i64 1, .string ⟨#[]⟩, .slice none 0 0, .slice none 0 0, .int .i64 5, .string ⟨#[]⟩, .slice (some ⟨w3.heap.size, 0, none⟩) 1 1, .int .i64 0, .int .i64 0, .string ⟨#[]⟩, .slice none 0 0, .slice (some ⟨w3.heap.size + 1 + 1, 0, none⟩) 1 1] 28)).heap.size = w4.heap.size + 2 := by rw [size_new, size_new]
  have y2 := heap_alloc_new ((w4.alloc (.cells #[.string ⟨#[120]⟩] 9)).alloc (.cells #[.int .i64 0, .string ⟨#[]⟩, .slice none 0 0, .int .i64 1, .int .i64 1, .string ⟨#[]⟩, .slice none 0 0, .slice none 0 0, .int .i64 5, .string ⟨#[]⟩, .slice (some ⟨w3.heap.size, 0, none⟩) 1 1, .int .i64 0, .int .i64 0, .string ⟨#[]⟩, .slice none 0 0, .slice (some ⟨w3.heap.size + 1 + 1, 0, none⟩) 1 1] 28)) (.cells #[.int .i64 8, .string ⟨#[]⟩, .slice (some ⟨w4.heap.size, 0, none⟩) 1 1, .int .i64 0, .int .i64 0, .string ⟨#[]⟩, .slice none 0 0, .slice (some ⟨w4.heap.size + 1, 0, none⟩) 2 2] 28)
  have yb2 := bel_alloc' yb (.cells #[.int .i64 8, .string ⟨#[]⟩, .slice (some ⟨w4.heap.size, 0, none⟩) 1 1, .int .i64 0, .int .i64 0, .string ⟨#[]⟩, .slice none 0 0, .slice (some ⟨w4.heap.size + 1, 0, none⟩) 2 2] 28)
  rw [hs5] at y2
  have y0' := blk_skip' (o := .cells #[.int .i64 8, .string ⟨#[]⟩, .slice (some ⟨w4.heap.size, 0, none⟩) 1 1, .int .i64 0, .int .i64 0, .string ⟨#[]⟩, .slice none 0 0, .slice (some ⟨w4.heap.size + 1, 0, none⟩) 2 2] 28) y0
  have y1' := blk_skip' (o := .cells #[.int .i64 8, .string ⟨#[]⟩, .slice (some ⟨w4.heap.size, 0, none⟩) 1 1, .int .i64 0, .int .i64 0, .string ⟨#[]⟩, .slice none 0 0, .slice (some ⟨w4.heap.size + 1, 0, none⟩) 2 2] 28) y1
  clear hs5
  generalize ((w4.alloc (.cells #[.string ⟨#[120]⟩] 9)).alloc (.cells #[.int .i64 0, .string ⟨#[]⟩, .slice none 0 0, .int .i64 1, .int .i64 1, .string ⟨#[]⟩, .slice none 0 0, .slice none 0 0, .int .i64 5, .string ⟨#[]⟩, .slice (some ⟨w3.heap.size, 0, none⟩) 1 1, .int .i64 0, .int .i64 0, .string ⟨#[]⟩, .slice none 0 0, .slice (some ⟨w3.heap.size + 1 + 1, 0, none⟩) 1 1] 28)).alloc (.cells #[.int .i64 8, .string ⟨#[]⟩, .slice (some ⟨w4.heap.size, 0, none⟩) 1 1, .int .i64 0, .int .i64 0, .string ⟨#[]⟩, .slice none 0 0, .slice (some ⟨w4.heap.size + 1, 0, none⟩) 2 2] 28) = w5 at *
  have HB5 := Lib.hid (HB4.out.trans (yb2.mono HB4.out.size))
  have HSUM5 := Lib.hid ((yb2.block _ (lt_of_block HSUM4.out)).trans HSUM4.out)
  have HFS5 := Lib.hid (HFS4.out.below yb2)
  have hfi5 := HFI.out.below yb2
  have HFE : Hid (InF w5 TT (.mk 8 ⟨#[]⟩ [nLX] (.mk 0 0 ⟨#[]⟩ []) [oneL, inL]) (.slice (some ⟨w4.heap.size, 0, none⟩) 1 1) (.slice none 0 0) (.slice (some ⟨w4.heap.size + 1, 0, none⟩) 2 2)) := Lib.hid (inF_node (by constructor <;> decide) (by decide) (by constructor <;> decide) (by constructor <;> decide) (by decide) (inN_lit (s := nLX) y0' (by decide)) (inK_row (l := [oneL, inL]) y1' (by
    unfold oneL inL PT0
    rw [RowE]
    refine ⟨_, _, _, _, rfl, inF_node (by constructor <;> decide) (by decide) (by constructor <;> decide) (by constructor <;> decide) (by decide) inN_nil' inK_nil', ?_⟩
    rw [RowE]
    refine ⟨_, _, _, _, rfl, hfi5, ?_⟩
    rw [RowE]) (by simp)))
  clear x0 x1 x2 x3 x4 x5 x6 x7 hl4
  obtain ⟨x0, x1, x2, x3, x4, x5, x6, x7⟩ := look8n (show w5.heap[w4.heap.size + 1 + 1]? = _ from y2)
  have K1 : Hid (Calls Try.prog 6 #[.agg (#[.int .i64 8, .string ⟨#[]⟩, .slice (some ⟨w4.heap.size, 0, none⟩) 1 1, .int .i64 0, .int .i64 0, .string ⟨#[]⟩, .slice none 0 0, .slice (some ⟨w4.heap.size + 1, 0, none⟩) 2 2])] w5 fun e w' => (∃ v, e = .returned (.tuple #[v, .int .i64 0]) ∧ InL w' (.mk 8 ⟨#[]⟩ [nLX] (.mk 0 0 ⟨#[]⟩ []) [oneL, .mk 11 ⟨#[]⟩ [nLX] (.mk 1 0 ⟨#[]⟩ []) []]) [⟨[nLY], [nLX], cloT 1 [nLX, nLY]⟩, ⟨[], [nLX, nLY], sumL⟩] v) ∧ Below w5.heap.size w5 w') := Lib.hid (by
    refine (lift_any fixL (· < w5.heap.size) (.slice (some ⟨w4.heap.size, 0, none⟩) 1 1) (.slice none 0 0) (.slice (some ⟨w4.heap.size + 1, 0, none⟩) 2 2) w5 (HFE.out.move (fun _ _ h => h) fun _ _ _ _ h => h) (fun _ h => h)).mono ?_
    rintro e w' ⟨⟨v, he, hv⟩, hb⟩
    rw [codeL_yes ok_fixL] at he
    rw [progL_yes ok_fixL, lift_fixL] at hv
    exact ⟨⟨v, he, hv⟩, hb⟩)
  have HKS := Lib.hid (fun W (hb : Below w5.heap.size w5 W) => lift_sum_no W (.slice (some ⟨w2.heap.size, 0, none⟩) 2 2) (HFS5.out.below hb))
  clear y0 y1 y2 yb yb2 y0' y1' hir hfi5 HFE HFI HFL HFS HFS4 HFS5
  go_wp2_with fail
  refine K1.out.mono ?_
  rintro e w6 ⟨⟨v6, rfl, hv6⟩, hb6⟩
  obtain ⟨fb, fo, fc, n1, n2, d1, d2, kb, ko, kc, a0, b0, a1, b1, ev6, hfc, hkc, c01, hn0, c11, hn1, ck⟩ := fixL_facts hv6
  subst ev6
  have HC01 := Lib.hid c01
  have HC11 := Lib.hid c11
  have HCK := Lib.hid ck
  have HN0 := Lib.hid hn0
  have HN1 := Lib.hid hn1
  have HB6 := Lib.hid hb6
  have HLB := Lib.hid (heap_alloc_new w6 (.cells #[.slice (some ⟨fb, fo, none⟩) 2 fc, .int .i64 8, .string ⟨#[]⟩, .slice n1 1 n2, .int .i64 0, .int .i64 0, .string ⟨#[]⟩, .slice d1 0 d2, .slice (some ⟨kb, ko, none⟩) 2 kc] 31))
  have hb7 := (Below.refl w6.heap.size w6).alloc (Nat.le_refl _) (.cells #[.slice (some ⟨fb, fo, none⟩) 2 fc, .int .i64 8, .string ⟨#[]⟩, .slice n1 1 n2, .int .i64 0, .int .i64 0, .string ⟨#[]⟩, .slice d1 0 d2, .slice (some ⟨kb, ko, none⟩) 2 kc] 31)
  have HB7 := Lib.hid (hb6.trans (hb7.mono hb6.size))
  have HB67 := Lib.hid hb7
  have hs7 := (HB7.out.block _ (lt_of_block HSUM5.out)).trans HSUM5.out
  clear x0 x1 x2 x3 x4 x5 x6 x7 hv6 c01 hn0 c11 hn1 ck hb6 hb7 K1
  go_upto_region 6 with fail
  generalize w6.alloc (.cells #[.slice (some ⟨fb, fo, none⟩) 2 fc, .int .i64 8, .string ⟨#[]⟩, .slice n1 1 n2, .int .i64 0, .int .i64 0, .string ⟨#[]⟩, .slice d1 0 d2, .slice (some ⟨kb, ko, none⟩) 2 kc] 31) = w7 at *
  obtain ⟨x0, x1, x2, x3, x4, x5, x6, x7⟩ := look8n hs7
  clear hs7
  go_wp2_with fail
  refine (HKS.out _ HB7.out).mono ?_
  rintro e w8 ⟨⟨vF, q1, q2, q3, q4, q5, q6, q7, q8, rfl, ⟨r1, r2, r3, rfl⟩, ⟨r4, r5, r6, rfl⟩, ⟨r7, r8, r9, rfl⟩, ⟨s1, s2, s3, rfl⟩, ⟨j1, rfl⟩, ⟨j2, rfl⟩, ⟨j3, rfl⟩, ⟨j4, rfl⟩, ⟨j5, rfl⟩⟩, hb8⟩
  have HB8 := Lib.hid hb8
  clear x0 x1 x2 x3 x4 x5 x6 x7 hb8 HKS
  go_upto_region 7 with fail
  have HB9 : Hid (Below w7.heap.size w7 (w8.alloc (.cells #[.slice r1 r2 r3, .int .i64 j1, .string j2, .slice r4 r5 r6, .int .i64 j3, .int .i64 j4, .string j5, .slice r7 r8 r9, .slice s1 s2 s3] 31))) := Lib.hid (HB8.out.trans ((Below.refl w8.heap.size w8).alloc (Nat.le_refl _) (.cells #[.slice r1 r2 r3, .int .i64 j1, .string j2, .slice r4 r5 r6, .int .i64 j3, .int .i64 j4, .string j5, .slice r7 r8 r9, .slice s1 s2 s3] 31) |>.mono HB8.out.size))
  generalize w8.alloc (.cells #[.slice r1 r2 r3, .int .i64 j1, .string j2, .slice r4 r5 r6, .int .i64 j3, .int .i64 j4, .string j5, .slice r7 r8 r9, .slice s1 s2 s3] 31) = w9 at *
  have HL9 := Lib.hid ((HB9.out.block _ (lt_of_block HLB.out)).trans HLB.out)
  have HUP : Hid (∀ b o y, w6.cell? ⟨b, o, none⟩ = some y → w9.cell? ⟨b, o, none⟩ = some y) := Lib.hid fun b o y h => cell_below HB9.out (cell_below HB67.out h)
  have HM0 := Lib.hid ((HN0.out.below HB67.out).below HB9.out)
  have HM1 := Lib.hid ((HN1.out.below HB67.out).below HB9.out)
  have HBW9 := Lib.hid (HB5.out.trans ((HB7.out.trans (HB9.out.mono HB7.out.size)).mono HB5.out.size))
  have HA1 := Lib.hid ((Below.refl w9.heap.size w9).alloc (Nat.le_refl _) (.cells #[.string ⟨#[120]⟩, .string ⟨#[121]⟩] 9))
  have HS1 := Lib.hid (sameTexts_any [nLX, nLY] [nLX, nLY] _ _ _ _ (w9.alloc (.cells #[.string ⟨#[120]⟩, .string ⟨#[121]⟩] 9)) (HM1.out.below HA1.out) (inN_two (heap_alloc_new w9 _)))
  have HS0 := Lib.hid (fun W (hb : Below w9.heap.size w9 W) => sameTexts_any [nLX] [nLX] _ _ _ _ (W.alloc (.cells #[.string ⟨#[120]⟩] 9)) ((HM0.out.below hb).below ((Below.refl W.heap.size W).alloc (Nat.le_refl _) _)) (inN_lit (s := nLX) (heap_alloc_new W _) (by decide)))
  rw [sameN_self] at HS1 HS0
  obtain ⟨x0, x1, x2, x3, x4, x5, x6, x7, x8⟩ := look9n HL9.out
  have k0 := HUP.out _ _ _ HC01.out
  have k1 := HUP.out _ _ _ HC11.out
  have k1' : w9.cell? ⟨fb, fo + 10 + 1, none⟩ = some (.slice a1 2 b1) := k1
  have k2 := HUP.out _ _ _ HCK.out
  clear HUP HLB HN0 HN1 HC01 HC11 HM0 HM1
  go_wp2_with fail
  refine HS1.out.mono ?_
  rintro e w10 ⟨rfl, hb10⟩
  have HB10 := Lib.hid (HA1.out.trans (hb10.mono HA1.out.size))
  have k0' := cell_below HB10.out k0
  have k2' := cell_below HB10.out k2
  have hl10 := (HB10.out.block _ (lt_of_block HL9.out)).trans HL9.out
  have HL10 := Lib.hid hl10
  clear x0 x1 x2 x3 x4 x5 x6 x7 x8 k0 k1 k1' k2 hb10
  obtain ⟨x0, x1, x2, x3, x4, x5, x6, x7, x8⟩ := look9n hl10
  clear hl10
  go_wp2_with fail
  refine (HS0.out w10 HB10.out).mono ?_
  rintro e w11 ⟨rfl, hb11⟩
  have HB11 := Lib.hid (((Below.refl w10.heap.size w10).alloc (Nat.le_refl _) (.cells #[.string ⟨#[120]⟩] 9)).trans (hb11.mono (by rw [size_new]; omega)))
  have k3 := cell_below HB11.out k2'
  have hl11 := (HB11.out.block _ (lt_of_block HL10.out)).trans HL10.out
  have HBF := Lib.hid (HBW9.out.trans ((HB10.out.trans (HB11.out.mono HB10.out.size)).mono HBW9.out.size))
  clear x0 x1 x2 x3 x4 x5 x6 x7 x8 k0' k2' hb11
  obtain ⟨x0, x1, x2, x3, x4, x5, x6, x7, x8⟩ := look9n hl11
  clear hl11
  go_wp2
  go_ret
  exact ⟨rfl, HBF.out⟩
end Go.Proofs.Ytkjgdnfkpebejaa.Core
