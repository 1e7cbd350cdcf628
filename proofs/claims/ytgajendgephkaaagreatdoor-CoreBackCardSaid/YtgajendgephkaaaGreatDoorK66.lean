/-
The law CoreBack, walked: an expression that may be is made of its datum, and a datum of which one is made is its datum. Condition: the library's table of powers of ten as the program lays it.
-/
import Derived.Test.YtgajendgephkaaaGreatDoorK54
import Derived.Test.YtgajendgephkaaaGreatDoorWKL
import Derived.BigQuiet
import Derived.Deep.DeepCutAuto
namespace Go.Proofs.YtgajendgephkaaaGreatDoor.Core
open Go.ChangeShapes Go.WideShapes Go.ChangeAt Go.RowKit Go.Deep
open Dat (PT ok64 RepV RepS RowX numT numsT)
set_option maxRecDepth 100000

theorem back_same (T : PE) (W : World) (vn vd vk un ud uk : Value) (S S' : Nat → Prop) (h : InF W S T vn vd vk) (h' : InF W S' T un ud uk) : Calls Tryz.prog 8 #[T.val vn vd vk, T.val un ud uk] W fun e w' => e = .returned (.bool true) ∧ Below W.heap.size W w' := by
  refine (sameE_any T T W S S' _ _ _ _ _ _ h h').mono ?_
  rintro e w' ⟨rfl, hb⟩
  refine ⟨?_, hb⟩
  simp [sameE]
set_option maxHeartbeats 8000000 in
theorem back_walk (t : PE) (vn vd vk : Value) (d : PT) (vv : Value) (w : World) (h : InF w (fun b => b < w.heap.size) t vn vd vk) (hd : InV w (fun b => b < w.heap.size) d vv) (ht : TabOk w) :
    Calls Tryz.prog 6 #[t.val vn vd vk, d.val vv] w fun e w' => e = .returned (.bool true) ∧ Below w.heap.size w w' := by
  have HTAB := Lib.hid ht
  have HGL := Lib.hid (lt_of_block ht.choose_spec.choose_spec)
  obtain ⟨k, nm, ns, ⟨ck, ci, cs, cl⟩, l⟩ := t
  obtain ⟨dk, di, ds, dl⟩ := d
  have HI := Lib.hid h
  have HDI := Lib.hid hd
  obtain ⟨⟨_, _, an, cn, rfl, _⟩, ⟨_, _, _, ad, cd, rfl, _⟩, ak, c, rfl, _⟩ := h
  obtain ⟨_, _, _, da, dc, rfl, _⟩ := hd
  show Calls Tryz.prog 6 #[.agg #[.int .i64 k, .string nm, .slice an ns.length cn, .int .i64 ck, .int .i64 ci, .string cs, .slice ad cl.length cd, .slice ak l.length c], .agg #[.int .i64 dk, .int .i64 di, .string ds, .slice da dl.length dc]] w _
  obtain ⟨z0, z1, zb⟩ := two_new w (.cells #[.int .i64 k, .string nm, .slice an ns.length cn, .int .i64 ck, .int .i64 ci, .string cs, .slice ad cl.length cd, .slice ak l.length c] 28) (.cells #[.int .i64 dk, .int .i64 di, .string ds, .slice da dl.length dc] 25)
  have hl0 : ((w.alloc (.cells #[.int .i64 k, .string nm, .slice an ns.length cn, .int .i64 ck, .int .i64 ci, .string cs, .slice ad cl.length cd, .slice ak l.length c] 28)).alloc (.cells #[.int .i64 dk, .int .i64 di, .string ds, .slice da dl.length dc] 25)).heap.size = w.heap.size + 2 := by rw [size_new, size_new]
  generalize hw0 : (w.alloc (.cells #[.int .i64 k, .string nm, .slice an ns.length cn, .int .i64 ck, .int .i64 ci, .string cs, .slice ad cl.length cd, .slice ak l.length c] 28)).alloc (.cells #[.int .i64 dk, .int .i64 di, .string ds, .slice da dl.length dc] 25) = w0 at *
  have HW0 := Lib.hid hw0
  have HL0 := Lib.hid hl0
  have HTI : Hid (∀ W, Below w.heap.size w W → InF W (fun b => b < W.heap.size) (.mk k nm ns (.mk ck ci cs cl) l) (.slice an ns.length cn) (.slice ad cl.length cd) (.slice ak l.length c)) := Lib.hid fun W hW => (HI.out.below hW).move (fun _ _ h => h) fun _ _ _ _ h => h
  have HDW : Hid (∀ W, Below w.heap.size w W → InV W (fun b => b < W.heap.size) (.mk dk di ds dl) (.slice da dl.length dc)) := Lib.hid fun W hW => (HDI.out.below hW).move (fun _ _ h => h) fun _ _ _ _ h => h
  generalize hT : PE.mk k nm ns (.mk ck ci cs cl) l = T at HTI
  have HTV : Hid (∀ an2 cn2 ad2 cd2 ak2 c2, T.val (.slice an2 ns.length cn2) (.slice ad2 cl.length cd2) (.slice ak2 l.length c2) = .agg #[.int .i64 k, .string nm, .slice an2 ns.length cn2, .int .i64 ck, .int .i64 ci, .string cs, .slice ad2 cl.length cd2, .slice ak2 l.length c2]) := Lib.hid (fun an2 cn2 ad2 cd2 ak2 c2 => by rw [← hT]; rfl)
  have HTS : Hid (∀ (W : World) (S : Nat → Prop) (x y z : Value), InF W S T x y z → ∃ an2 cn2 ad2 cd2 ak2 c2, x = .slice an2 ns.length cn2 ∧ y = .slice ad2 cl.length cd2 ∧ z = .slice ak2 l.length c2) := Lib.hid (fun W S x y z hI => by
    rw [← hT] at hI
    obtain ⟨⟨_, _, an, cn, rfl, _⟩, ⟨_, _, _, ad, cd, rfl, _⟩, ak, c, rfl, _⟩ := hI
    exact ⟨an, cn, ad, cd, ak, c, rfl, rfl, rfl⟩)
  generalize hD : dataT T = D
  obtain ⟨tk, ti, ts, tl⟩ := D
  have HD := Lib.hid hD
  have KC : Hid (∀ W, Below w.heap.size w W → Calls Tryz.prog 11 #[.agg #[.int .i64 k, .string nm, .slice an ns.length cn, .int .i64 ck, .int .i64 ci, .string cs, .slice ad cl.length cd, .slice ak l.length c]] W fun e w' => e = .returned (.int .i64 (checkE T)) ∧ Below W.heap.size W w') := Lib.hid fun W hW => by
    rw [← HTV.out]
    exact checkE_any T (fun b => b < W.heap.size) _ _ _ W (HTI.out W hW) (fun b h => h)
  have KD : Hid (∀ W, Below w.heap.size w W → Calls Tryz.prog 17 #[.agg #[.int .i64 k, .string nm, .slice an ns.length cn, .int .i64 ck, .int .i64 ci, .string cs, .slice ad cl.length cd, .slice ak l.length c]] W fun e w' => ((checkE T = 0 ∧ ∃ ta tc, e = .returned (.tuple #[.agg #[.int .i64 tk, .int .i64 ti, .string ts, .slice ta tl.length tc], .int .i64 0]) ∧ InV w' (fun b => W.heap.size ≤ b) (.mk tk ti ts tl) (.slice ta tl.length tc)) ∨ (checkE T ≠ 0 ∧ e = .returned (.tuple #[.agg #[.int .i64 0, .int .i64 0, .string ⟨#[]⟩, .slice none 0 0], .int .i64 (checkE T)]))) ∧ Below W.heap.size W w') := Lib.hid fun W hW => by
    rw [← HTV.out]
    refine (data_any T (fun b => b < W.heap.size) _ _ _ W (HTI.out W hW) (fun b h => h)).mono ?_
    rintro e w' ⟨h1, hb⟩
    refine ⟨?_, hb⟩
    unfold DataIs at h1
    rw [HD.out] at h1
    rcases h1 with ⟨hc, v, rfl, hv⟩ | ⟨hc, rfl⟩
    · have hv2 := hv
      obtain ⟨_, _, _, ta, tc, rfl, _⟩ := hv
      exact .inl ⟨hc, ta, tc, rfl, hv2⟩
    · exact .inr ⟨hc, rfl⟩
  have KMB : Hid (∀ W ta tc, checkE T = 0 → InV W (fun b => b < W.heap.size) (.mk tk ti ts tl) (.slice ta tl.length tc) → Calls Tryz.prog 22 #[.agg #[.int .i64 tk, .int .i64 ti, .string ts, .slice ta tl.length tc]] W fun e w' => (∃ an2 cn2 ad2 cd2 ak2 c2, e = .returned (.tuple #[.agg #[.int .i64 k, .string nm, .slice an2 ns.length cn2, .int .i64 ck, .int .i64 ci, .string cs, .slice ad2 cl.length cd2, .slice ak2 l.length c2], .int .i64 0]) ∧ InF w' (fun b => W.heap.size ≤ b) T (.slice an2 ns.length cn2) (.slice ad2 cl.length cd2) (.slice ak2 l.length c2)) ∧ Below W.heap.size W w') := Lib.hid fun W ta tc hc hv => by
    refine (make_any (.mk tk ti ts tl) (fun b => b < W.heap.size) _ W hv (fun b h => h) (by rw [← HD.out]; exact data_few hc)).mono ?_
    rintro e w' ⟨hm, hb⟩
    rw [← HD.out] at hm
    obtain ⟨x, y, z, rfl, hI⟩ := make_back hc hm
    obtain ⟨an2, cn2, ad2, cd2, ak2, c2, rfl, rfl, rfl⟩ := HTS.out _ _ _ _ _ hI
    exact ⟨⟨an2, cn2, ad2, cd2, ak2, c2, by rw [HTV.out], hI⟩, hb⟩
  have KSE : Hid (∀ W (S : Nat → Prop) an2 cn2 ad2 cd2 ak2 c2, Below w.heap.size w W → InF W S T (.slice an2 ns.length cn2) (.slice ad2 cl.length cd2) (.slice ak2 l.length c2) → Calls Tryz.prog 8 #[.agg #[.int .i64 k, .string nm, .slice an2 ns.length cn2, .int .i64 ck, .int .i64 ci, .string cs, .slice ad2 cl.length cd2, .slice ak2 l.length c2], .agg #[.int .i64 k, .string nm, .slice an ns.length cn, .int .i64 ck, .int .i64 ci, .string cs, .slice ad cl.length cd, .slice ak l.length c]] W fun e w' => e = .returned (.bool true) ∧ Below W.heap.size W w') := Lib.hid fun W S an2 cn2 ad2 cd2 ak2 c2 hW hI => by
    rw [← HTV.out, ← HTV.out an cn ad cd ak c]
    exact back_same T W _ _ _ _ _ _ _ _ hI (HTI.out W hW)
  have KFX : Hid (∀ W, Below w.heap.size w W → Calls Tryz.prog 7 #[] W fun e w' => e = .returned (.bool true) ∧ Below W.heap.size W w') := Lib.hid fun W hW => fixed_any W (tab_below HTAB.out HGL.out hW)
  have KH : Hid (∀ W b ty, Below w.heap.size w W → W.heap[b]? = some (.cells #[.int .i64 dk, .int .i64 di, .string ds, .slice da dl.length dc] ty) → Calls Tryz.prog 21 #[.slice (some ⟨b, 0, none⟩) 1 1] W fun e w' => e = .returned (.bool (decide (100001 ≤ numT (.mk dk di ds dl)))) ∧ Below W.heap.size W w') := Lib.hid fun W b ty hW hz =>
    huge_any (.mk dk di ds dl) (fun _ => True) b 1 W (ins_box hz (HDW.out W hW))
  have KM : Hid (∀ W, Below w.heap.size w W → numT (.mk dk di ds dl) ≤ 100000 → Calls Tryz.prog 22 #[.agg #[.int .i64 dk, .int .i64 di, .string ds, .slice da dl.length dc]] W fun e w' => ((∃ uk un uns uck uci ucs ucl ul uan ucn uad ucd uak uc, e = .returned (.tuple #[.agg #[.int .i64 uk, .string un, .slice uan uns.length ucn, .int .i64 uck, .int .i64 uci, .string ucs, .slice uad ucl.length ucd, .slice uak ul.length uc], .int .i64 0]) ∧ checkE (.mk uk un uns (.mk uck uci ucs ucl) ul) = 0 ∧ dataT (.mk uk un uns (.mk uck uci ucs ucl) ul) = .mk dk di ds dl ∧ InF w' (fun b => W.heap.size ≤ b) (.mk uk un uns (.mk uck uci ucs ucl) ul) (.slice uan uns.length ucn) (.slice uad ucl.length ucd) (.slice uak ul.length uc)) ∨ e = .returned (.tuple #[.agg #[.int .i64 0, .string ⟨#[]⟩, .slice none 0 0, .int .i64 0, .int .i64 0, .string ⟨#[]⟩, .slice none 0 0, .slice none 0 0], .int .i64 60])) ∧ Below W.heap.size W w') := Lib.hid fun W hW hsz => by
    refine (make_any (.mk dk di ds dl) (fun b => b < W.heap.size) _ W (HDW.out W hW) (fun b h => h) hsz).mono ?_
    rintro e w' ⟨⟨n, r, _, hm⟩, hb⟩
    refine ⟨?_, hb⟩
    rcases hm with ⟨⟨uk, un, uns, ⟨uck, uci, ucs, ucl⟩, ul⟩, x, y, z, _, hc, hd, rfl, hI⟩ | ⟨_, rfl⟩
    · have hI2 := hI
      obtain ⟨⟨_, _, uan, ucn, rfl, _⟩, ⟨_, _, _, uad, ucd, rfl, _⟩, uak, uc, rfl, _⟩ := hI
      exact .inl ⟨uk, un, uns, uck, uci, ucs, ucl, ul, uan, ucn, uad, ucd, uak, uc, rfl, hc, hd, hI2⟩
    · exact .inr rfl
  have KD2 : Hid (∀ W uk un uns uck uci ucs ucl ul uan ucn uad ucd uak uc, checkE (.mk uk un uns (.mk uck uci ucs ucl) ul) = 0 → dataT (.mk uk un uns (.mk uck uci ucs ucl) ul) = .mk dk di ds dl → InF W (fun b => b < W.heap.size) (.mk uk un uns (.mk uck uci ucs ucl) ul) (.slice uan uns.length ucn) (.slice uad ucl.length ucd) (.slice uak ul.length uc) → Calls Tryz.prog 17 #[.agg #[.int .i64 uk, .string un, .slice uan uns.length ucn, .int .i64 uck, .int .i64 uci, .string ucs, .slice uad ucl.length ucd, .slice uak ul.length uc]] W fun e w' => (∃ xa xc, e = .returned (.tuple #[.agg #[.int .i64 dk, .int .i64 di, .string ds, .slice xa dl.length xc], .int .i64 0]) ∧ InV w' (fun b => W.heap.size ≤ b) (.mk dk di ds dl) (.slice xa dl.length xc)) ∧ Below W.heap.size W w') := Lib.hid fun W uk un uns uck uci ucs ucl ul uan ucn uad ucd uak uc hc hd hI => by
    refine (data_any (.mk uk un uns (.mk uck uci ucs ucl) ul) (fun b => b < W.heap.size) _ _ _ W hI (fun b h => h)).mono ?_
    rintro e w' ⟨h1, hb⟩
    refine ⟨?_, hb⟩
    unfold DataIs at h1
    rw [hd] at h1
    rcases h1 with ⟨_, v, rfl, hv⟩ | ⟨hc', _⟩
    · have hv2 := hv
      obtain ⟨_, _, _, ta, tc, rfl, _⟩ := hv
      exact ⟨ta, tc, rfl, hv2⟩
    · exact absurd hc hc'
  have KS2 : Hid (∀ W (S : Nat → Prop) xa xc, Below w.heap.size w W → InV W S (.mk dk di ds dl) (.slice xa dl.length xc) → Calls Tryz.prog 19 #[.agg #[.int .i64 dk, .int .i64 di, .string ds, .slice xa dl.length xc], .agg #[.int .i64 dk, .int .i64 di, .string ds, .slice da dl.length dc]] W fun e w' => e = .returned (.bool true) ∧ Below W.heap.size W w') := Lib.hid fun W S xa xc hW hx => by
    refine (Dat.same_any (.mk dk di ds dl) (.mk dk di ds dl) W W.heap.size _ _ hx.rep (HDW.out W hW).rep (Nat.le_refl _)).mono ?_
    rintro e w' ⟨rfl, hb⟩
    rw [Dat.sameB_refl]
    exact ⟨rfl, hb⟩
  have KZ : Hid (∀ W, Calls Tryz.prog 8 #[.agg #[.int .i64 0, .string ⟨#[]⟩, .slice none 0 0, .int .i64 0, .int .i64 0, .string ⟨#[]⟩, .slice none 0 0, .slice none 0 0], .agg #[.int .i64 0, .string ⟨#[]⟩, .slice none 0 0, .int .i64 0, .int .i64 0, .string ⟨#[]⟩, .slice none 0 0, .slice none 0 0]] W fun e w' => e = .returned (.bool true) ∧ Below W.heap.size W w') := Lib.hid fun W =>
    back_same PE0 W (.slice none 0 0) (.slice none 0 0) (.slice none 0 0) (.slice none 0 0) (.slice none 0 0) (.slice none 0 0) (fun _ => True) (fun _ => True) pe0_in pe0_in
  have Z0 := Lib.hid z0
  have Z1 := Lib.hid z1
  have HB0 := Lib.hid zb
  clear hw0 z0 z1 zb ht hT HI hl0 hD
  go_enter Tryz.func6, Tryz.ntmps6
  go_upto_region 1 with fail
  rw [HW0.out]
  have hl1 : w.heap.size + 1 < w0.heap.size := by rw [HL0.out]; omega
  obtain ⟨x0, x1, x2, x3, x4, x5, x6, x7⟩ := look8 Z0.out
  go_wp2_with fail
  refine (KD.out _ HB0.out).mono ?_
  rintro e w1 ⟨hd1, hb1⟩
  have HB1 := Lib.hid (HB0.out.trans (hb1.mono HB0.out.size))
  have Y1 := Lib.hid ((hb1.block w.heap.size (by omega)).trans Z0.out)
  have Y2 := Lib.hid ((hb1.block (w.heap.size + 1) hl1).trans Z1.out)
  have hs1 := hb1.size
  have HL1 : Hid (w.heap.size + 1 < w1.heap.size) := Lib.hid (by omega)
  clear hb1 hs1 hl1 x0 x1 x2 x3 x4 x5 x6 x7
  rcases hd1 with ⟨hc, ta, tc, rfl, hv⟩ | ⟨hc, rfl⟩
  rotate_left
  · have HC := Lib.hid hc
    have hcb : (checkE T != 0) = true := by simpa using hc
    have hcb2 : (checkE T == 0) = false := by simpa using hc
    generalize checkE T = c0 at *
    clear hc KMB
    go_upto_region 2 with fail
    have HB2 := Lib.hid (bel_alloc' HB1.out (.cells #[.int .i64 0, .int .i64 0, .string ⟨#[]⟩, .slice none 0 0] 25))
    have Y12 := Lib.hid (blk_skip' (o := .cells #[.int .i64 0, .int .i64 0, .string ⟨#[]⟩, .slice none 0 0] 25) Y1.out)
    have Y22 := Lib.hid (blk_skip' (o := .cells #[.int .i64 0, .int .i64 0, .string ⟨#[]⟩, .slice none 0 0] 25) Y2.out)
    have YA2 := Lib.hid (heap_alloc_new w1 (.cells #[.int .i64 0, .int .i64 0, .string ⟨#[]⟩, .slice none 0 0] 25))
    have HW2 := Lib.hid (bel_alloc' (Below.refl w1.heap.size w1) (.cells #[.int .i64 0, .int .i64 0, .string ⟨#[]⟩, .slice none 0 0] 25))
    generalize hq1 : w1.heap.size = q1 at *
    generalize w1.alloc (.cells #[.int .i64 0, .int .i64 0, .string ⟨#[]⟩, .slice none 0 0] 25) = w2 at *
    have HQ1 := Lib.hid hq1
    clear hq1
    go_wp2_with fail
    refine (KFX.out _ HB2.out).mono ?_
    rintro e w3 ⟨rfl, hb3⟩
    have HW3 := Lib.hid (HW2.out.trans (hb3.mono (HQ1.out ▸ HW2.out.size)))
    have HB3 := Lib.hid (HB2.out.trans (hb3.mono HB2.out.size))
    have Y13 := Lib.hid ((hb3.block w.heap.size (lt_of_block Y12.out)).trans Y12.out)
    have Y23 := Lib.hid ((hb3.block (w.heap.size + 1) (lt_of_block Y22.out)).trans Y22.out)
    have YA3 := Lib.hid ((hb3.block q1 (lt_of_block YA2.out)).trans YA2.out)
    clear hb3
    obtain ⟨x0, x1, x2, x3, x4, x5, x6, x7⟩ := look8 Y13.out
    go_wp2_with fail
    refine (KC.out _ HB3.out).mono ?_
    rintro e w4 ⟨rfl, hb4⟩
    have HW4 := Lib.hid (HW3.out.trans (hb4.mono (HQ1.out ▸ HW3.out.size)))
    have HB4 := Lib.hid (HB3.out.trans (hb4.mono HB3.out.size))
    have Y14 := Lib.hid ((hb4.block w.heap.size (lt_of_block Y13.out)).trans Y13.out)
    have Y24 := Lib.hid ((hb4.block (w.heap.size + 1) (lt_of_block Y23.out)).trans Y23.out)
    have YA4 := Lib.hid ((hb4.block q1 (lt_of_block YA3.out)).trans YA3.out)
    clear hb4 x0 x1 x2 x3 x4 x5 x6 x7
    have hcc : (c0 != c0) = false := by simp
    have HB8 := HB4
    have Y28 := Y24
    go_upto_region 8 with fail
    obtain ⟨y0, y1, y2, y3⟩ := look4c Y28.out
    go_wp2_with fail
    refine (KH.out _ _ _ (bel_alloc' HB8.out _) (heap_alloc_new _ _)).mono ?_
    rintro e w9 ⟨rfl, hb9⟩
    have HB9 := Lib.hid ((bel_alloc' HB8.out (.cells #[.int .i64 dk, .int .i64 di, .string ds, .slice da dl.length dc] 25)).trans (hb9.mono (bel_alloc' HB8.out _).size))
    have Y29 := Lib.hid ((hb9.block (w.heap.size + 1) (lt_of_block (blk_skip' (o := .cells #[.int .i64 dk, .int .i64 di, .string ds, .slice da dl.length dc] 25) Y28.out))).trans (blk_skip' (o := .cells #[.int .i64 dk, .int .i64 di, .string ds, .slice da dl.length dc] 25) Y28.out))
    clear hb9 y0 y1 y2 y3
    by_cases hh : 100001 ≤ numT (.mk dk di ds dl)
    · rw [decide_eq_true hh]
      clear hh
      go_wp2
      go_ret
      exact ⟨rfl, HB9.out⟩
    have HSZ : Hid (numT (.mk dk di ds dl) ≤ 100000) := Lib.hid (by omega)
    rw [decide_eq_false hh]
    clear hh
    obtain ⟨y0, y1, y2, y3⟩ := look4c Y29.out
    go_wp2_with fail
    refine (KM.out _ HB9.out HSZ.out).mono ?_
    rintro e w10 ⟨hm, hb10⟩
    have HB10 := Lib.hid (HB9.out.trans (hb10.mono HB9.out.size))
    have Y210 := Lib.hid ((hb10.block (w.heap.size + 1) (lt_of_block Y29.out)).trans Y29.out)
    have HSB : Hid (w9.heap.size ≤ w10.heap.size) := Lib.hid hb10.size
    clear hb10 y0 y1 y2 y3
    rcases hm with ⟨uk, un, uns, uck, uci, ucs, ucl, ul, uan, ucn, uad, ucd, uak, uc, rfl, hc5, hd5, hI5⟩ | rfl
    · have HC5 := Lib.hid hc5
      have HD5 := Lib.hid hd5
      have HI5 := Lib.hid hI5
      clear hc5 hd5 hI5
      go_upto_region 11 with fail
      have HB11 := Lib.hid (bel_alloc' HB10.out (.cells #[.int .i64 uk, .string un, .slice uan uns.length ucn, .int .i64 uck, .int .i64 uci, .string ucs, .slice uad ucl.length ucd, .slice uak ul.length uc] 28))
      have Y211 := Lib.hid (blk_skip' (o := .cells #[.int .i64 uk, .string un, .slice uan uns.length ucn, .int .i64 uck, .int .i64 uci, .string ucs, .slice uad ucl.length ucd, .slice uak ul.length uc] 28) Y210.out)
      have YU11 := Lib.hid (heap_alloc_new w10 (.cells #[.int .i64 uk, .string un, .slice uan uns.length ucn, .int .i64 uck, .int .i64 uci, .string ucs, .slice uad ucl.length ucd, .slice uak ul.length uc] 28))
      have HI11 := Lib.hid ((HI5.out.below (bel_alloc' (Below.refl _ _) (.cells #[.int .i64 uk, .string un, .slice uan uns.length ucn, .int .i64 uck, .int .i64 uci, .string ucs, .slice uad ucl.length ucd, .slice uak ul.length uc] 28))).move (w' := w10.alloc (.cells #[.int .i64 uk, .string un, .slice uan uns.length ucn, .int .i64 uck, .int .i64 uci, .string ucs, .slice uad ucl.length ucd, .slice uak ul.length uc] 28)) (S' := fun b => b < (w10.alloc (.cells #[.int .i64 uk, .string un, .slice uan uns.length ucn, .int .i64 uck, .int .i64 uci, .string ucs, .slice uad ucl.length ucd, .slice uak ul.length uc] 28)).heap.size) (fun _ _ h => h) fun _ _ _ _ h => h)
      generalize hq2 : w10.heap.size = q2 at *
      generalize w10.alloc (.cells #[.int .i64 uk, .string un, .slice uan uns.length ucn, .int .i64 uck, .int .i64 uci, .string ucs, .slice uad ucl.length ucd, .slice uak ul.length uc] 28) = w11 at *
      have HQ2 := Lib.hid hq2
      clear hq2
      obtain ⟨x0, x1, x2, x3, x4, x5, x6, x7⟩ := look8 YU11.out
      go_wp2_with fail
      refine (KD2.out _ _ _ _ _ _ _ _ _ _ _ _ _ _ _ HC5.out HD5.out HI11.out).mono ?_
      rintro e w12 ⟨⟨xa, xc, rfl, hx⟩, hb12⟩
      have HB12 := Lib.hid (HB11.out.trans (hb12.mono HB11.out.size))
      have Y212 := Lib.hid ((hb12.block (w.heap.size + 1) (lt_of_block Y211.out)).trans Y211.out)
      have HX12 := Lib.hid hx
      clear hb12 hx x0 x1 x2 x3 x4 x5 x6 x7
      go_upto_region 14 with fail
      have HB13 := Lib.hid (bel_alloc' HB12.out (.cells #[.int .i64 dk, .int .i64 di, .string ds, .slice xa dl.length xc] 25))
      have Y213 := Lib.hid (blk_skip' (o := .cells #[.int .i64 dk, .int .i64 di, .string ds, .slice xa dl.length xc] 25) Y212.out)
      have YX13 := Lib.hid (heap_alloc_new w12 (.cells #[.int .i64 dk, .int .i64 di, .string ds, .slice xa dl.length xc] 25))
      have HX13 := Lib.hid (HX12.out.below (bel_alloc' (Below.refl _ _) (.cells #[.int .i64 dk, .int .i64 di, .string ds, .slice xa dl.length xc] 25)))
      generalize hq3 : w12.heap.size = q3 at *
      generalize w12.alloc (.cells #[.int .i64 dk, .int .i64 di, .string ds, .slice xa dl.length xc] 25) = w13 at *
      have HQ3 := Lib.hid hq3
      clear hq3
      obtain ⟨z0, z1, z2, z3⟩ := look4c YX13.out
      obtain ⟨y0, y1, y2, y3⟩ := look4c Y213.out
      go_wp2_with fail
      refine (KS2.out _ _ _ _ HB13.out HX13.out).mono ?_
      rintro e w14 ⟨rfl, hb14⟩
      have HB14 := Lib.hid (HB13.out.trans (hb14.mono HB13.out.size))
      clear hb14 y0 y1 y2 y3 z0 z1 z2 z3
      go_wp2
      go_ret
      exact ⟨rfl, HB14.out⟩
    · go_upto_region 11 with fail
      have HB11 := Lib.hid (bel_alloc' HB10.out (.cells #[.int .i64 0, .string ⟨#[]⟩, .slice none 0 0, .int .i64 0, .int .i64 0, .string ⟨#[]⟩, .slice none 0 0, .slice none 0 0] 28))
      have YU11 := Lib.hid (heap_alloc_new w10 (.cells #[.int .i64 0, .string ⟨#[]⟩, .slice none 0 0, .int .i64 0, .int .i64 0, .string ⟨#[]⟩, .slice none 0 0, .slice none 0 0] 28))
      generalize hq2 : w10.heap.size = q2 at *
      generalize w10.alloc (.cells #[.int .i64 0, .string ⟨#[]⟩, .slice none 0 0, .int .i64 0, .int .i64 0, .string ⟨#[]⟩, .slice none 0 0, .slice none 0 0] 28) = w11 at *
      have HQ2 := Lib.hid hq2
      clear hq2
      obtain ⟨x0, x1, x2, x3, x4, x5, x6, x7⟩ := look8 YU11.out
      go_wp2_with fail
      refine (KZ.out _).mono ?_
      rintro e w12 ⟨rfl, hb12⟩
      have HB12 := Lib.hid (HB11.out.trans (hb12.mono HB11.out.size))
      clear hb12 x0 x1 x2 x3 x4 x5 x6 x7
      go_wp2
      go_ret
      exact ⟨rfl, HB12.out⟩
  · have HC := Lib.hid hc
    rw [hc] at KC
    clear hc
    have HV := Lib.hid hv
    clear hv
    go_upto_region 2 with fail
    have HB2 := Lib.hid (bel_alloc' HB1.out (.cells #[.int .i64 tk, .int .i64 ti, .string ts, .slice ta tl.length tc] 25))
    have Y12 := Lib.hid (blk_skip' (o := .cells #[.int .i64 tk, .int .i64 ti, .string ts, .slice ta tl.length tc] 25) Y1.out)
    have Y22 := Lib.hid (blk_skip' (o := .cells #[.int .i64 tk, .int .i64 ti, .string ts, .slice ta tl.length tc] 25) Y2.out)
    have YA2 := Lib.hid (heap_alloc_new w1 (.cells #[.int .i64 tk, .int .i64 ti, .string ts, .slice ta tl.length tc] 25))
    have HW2 := Lib.hid (bel_alloc' (Below.refl w1.heap.size w1) (.cells #[.int .i64 tk, .int .i64 ti, .string ts, .slice ta tl.length tc] 25))
    generalize hq1 : w1.heap.size = q1 at *
    generalize w1.alloc (.cells #[.int .i64 tk, .int .i64 ti, .string ts, .slice ta tl.length tc] 25) = w2 at *
    have HQ1 := Lib.hid hq1
    clear hq1
    go_wp2_with fail
    refine (KFX.out _ HB2.out).mono ?_
    rintro e w3 ⟨rfl, hb3⟩
    have HW3 := Lib.hid (HW2.out.trans (hb3.mono (HQ1.out ▸ HW2.out.size)))
    have HB3 := Lib.hid (HB2.out.trans (hb3.mono HB2.out.size))
    have Y13 := Lib.hid ((hb3.block w.heap.size (lt_of_block Y12.out)).trans Y12.out)
    have Y23 := Lib.hid ((hb3.block (w.heap.size + 1) (lt_of_block Y22.out)).trans Y22.out)
    have YA3 := Lib.hid ((hb3.block q1 (lt_of_block YA2.out)).trans YA2.out)
    clear hb3
    obtain ⟨x0, x1, x2, x3, x4, x5, x6, x7⟩ := look8 Y13.out
    go_wp2_with fail
    refine (KC.out _ HB3.out).mono ?_
    rintro e w4 ⟨rfl, hb4⟩
    have HW4 := Lib.hid (HW3.out.trans (hb4.mono (HQ1.out ▸ HW3.out.size)))
    have HB4 := Lib.hid (HB3.out.trans (hb4.mono HB3.out.size))
    have Y14 := Lib.hid ((hb4.block w.heap.size (lt_of_block Y13.out)).trans Y13.out)
    have Y24 := Lib.hid ((hb4.block (w.heap.size + 1) (lt_of_block Y23.out)).trans Y23.out)
    have YA4 := Lib.hid ((hb4.block q1 (lt_of_block YA3.out)).trans YA3.out)
    clear hb4 x0 x1 x2 x3 x4 x5 x6 x7
    have HV4 : Hid (InV w4 (fun b => b < w4.heap.size) (.mk tk ti ts tl) (.slice ta tl.length tc)) := Lib.hid ((HV.out.below (by rw [HQ1.out]; exact HW4.out)).move (fun _ _ h => h) fun _ _ _ _ h => h)
    obtain ⟨t0, t1, t2, t3⟩ := look4c YA4.out
    go_wp2_with fail
    refine (KMB.out _ _ _ HC.out HV4.out).mono ?_
    rintro e w5 ⟨⟨an2, cn2, ad2, cd2, ak2, c2, rfl, hi5⟩, hb5⟩
    have HB5 := Lib.hid (HB4.out.trans (hb5.mono HB4.out.size))
    have Y15 := Lib.hid ((hb5.block w.heap.size (lt_of_block Y14.out)).trans Y14.out)
    have Y25 := Lib.hid ((hb5.block (w.heap.size + 1) (lt_of_block Y24.out)).trans Y24.out)
    have HI5 := Lib.hid hi5
    clear hb5 hi5 t0 t1 t2 t3
    go_upto_region 6 with fail
    have HB6 := Lib.hid (bel_alloc' HB5.out (.cells #[.int .i64 k, .string nm, .slice an2 ns.length cn2, .int .i64 ck, .int .i64 ci, .string cs, .slice ad2 cl.length cd2, .slice ak2 l.length c2] 28))
    have Y16 := Lib.hid (blk_skip' (o := .cells #[.int .i64 k, .string nm, .slice an2 ns.length cn2, .int .i64 ck, .int .i64 ci, .string cs, .slice ad2 cl.length cd2, .slice ak2 l.length c2] 28) Y15.out)
    have Y26 := Lib.hid (blk_skip' (o := .cells #[.int .i64 k, .string nm, .slice an2 ns.length cn2, .int .i64 ck, .int .i64 ci, .string cs, .slice ad2 cl.length cd2, .slice ak2 l.length c2] 28) Y25.out)
    have YB6 := Lib.hid (heap_alloc_new w5 (.cells #[.int .i64 k, .string nm, .slice an2 ns.length cn2, .int .i64 ck, .int .i64 ci, .string cs, .slice ad2 cl.length cd2, .slice ak2 l.length c2] 28))
    have HI6 := Lib.hid (HI5.out.below (bel_alloc' (Below.refl _ _) (.cells #[.int .i64 k, .string nm, .slice an2 ns.length cn2, .int .i64 ck, .int .i64 ci, .string cs, .slice ad2 cl.length cd2, .slice ak2 l.length c2] 28)))
    generalize hq5 : w5.heap.size = q5 at *
    generalize w5.alloc (.cells #[.int .i64 k, .string nm, .slice an2 ns.length cn2, .int .i64 ck, .int .i64 ci, .string cs, .slice ad2 cl.length cd2, .slice ak2 l.length c2] 28) = w6 at *
    have HQ5 := Lib.hid hq5
    clear hq5
    obtain ⟨x0, x1, x2, x3, x4, x5, x6, x7⟩ := look8 Y16.out
    obtain ⟨u0, u1, u2, u3, u4, u5, u6, u7⟩ := look8 YB6.out
    go_wp2_with fail
    refine (KSE.out _ _ _ _ _ _ _ _ HB6.out HI6.out).mono ?_
    rintro e w7 ⟨rfl, hb7⟩
    have HB8 := Lib.hid (HB6.out.trans (hb7.mono HB6.out.size))
    have Y28 := Lib.hid ((hb7.block (w.heap.size + 1) (lt_of_block Y26.out)).trans Y26.out)
    clear hb7 x0 x1 x2 x3 x4 x5 x6 x7 u0 u1 u2 u3 u4 u5 u6 u7
    go_upto_region 8 with fail
    obtain ⟨y0, y1, y2, y3⟩ := look4c Y28.out
    go_wp2_with fail
    refine (KH.out _ _ _ (bel_alloc' HB8.out _) (heap_alloc_new _ _)).mono ?_
    rintro e w9 ⟨rfl, hb9⟩
    have HB9 := Lib.hid ((bel_alloc' HB8.out (.cells #[.int .i64 dk, .int .i64 di, .string ds, .slice da dl.length dc] 25)).trans (hb9.mono (bel_alloc' HB8.out _).size))
    have Y29 := Lib.hid ((hb9.block (w.heap.size + 1) (lt_of_block (blk_skip' (o := .cells #[.int .i64 dk, .int .i64 di, .string ds, .slice da dl.length dc] 25) Y28.out))).trans (blk_skip' (o := .cells #[.int .i64 dk, .int .i64 di, .string ds, .slice da dl.length dc] 25) Y28.out))
    clear hb9 y0 y1 y2 y3
    by_cases hh : 100001 ≤ numT (.mk dk di ds dl)
    · rw [decide_eq_true hh]
      clear hh
      go_wp2
      go_ret
      exact ⟨rfl, HB9.out⟩
    have HSZ : Hid (numT (.mk dk di ds dl) ≤ 100000) := Lib.hid (by omega)
    rw [decide_eq_false hh]
    clear hh
    obtain ⟨y0, y1, y2, y3⟩ := look4c Y29.out
    go_wp2_with fail
    refine (KM.out _ HB9.out HSZ.out).mono ?_
    rintro e w10 ⟨hm, hb10⟩
    have HB10 := Lib.hid (HB9.out.trans (hb10.mono HB9.out.size))
    have Y210 := Lib.hid ((hb10.block (w.heap.size + 1) (lt_of_block Y29.out)).trans Y29.out)
    have HSB : Hid (w9.heap.size ≤ w10.heap.size) := Lib.hid hb10.size
    clear hb10 y0 y1 y2 y3
    rcases hm with ⟨uk, un, uns, uck, uci, ucs, ucl, ul, uan, ucn, uad, ucd, uak, uc, rfl, hc5, hd5, hI5⟩ | rfl
    · have HC5 := Lib.hid hc5
      have HD5 := Lib.hid hd5
      have HI5 := Lib.hid hI5
      clear hc5 hd5 hI5
      go_upto_region 11 with fail
      have HB11 := Lib.hid (bel_alloc' HB10.out (.cells #[.int .i64 uk, .string un, .slice uan uns.length ucn, .int .i64 uck, .int .i64 uci, .string ucs, .slice uad ucl.length ucd, .slice uak ul.length uc] 28))
      have Y211 := Lib.hid (blk_skip' (o := .cells #[.int .i64 uk, .string un, .slice uan uns.length ucn, .int .i64 uck, .int .i64 uci, .string ucs, .slice uad ucl.length ucd, .slice uak ul.length uc] 28) Y210.out)
      have YU11 := Lib.hid (heap_alloc_new w10 (.cells #[.int .i64 uk, .string un, .slice uan uns.length ucn, .int .i64 uck, .int .i64 uci, .string ucs, .slice uad ucl.length ucd, .slice uak ul.length uc] 28))
      have HI11 := Lib.hid ((HI5.out.below (bel_alloc' (Below.refl _ _) (.cells #[.int .i64 uk, .string un, .slice uan uns.length ucn, .int .i64 uck, .int .i64 uci, .string ucs, .slice uad ucl.length ucd, .slice uak ul.length uc] 28))).move (w' := w10.alloc (.cells #[.int .i64 uk, .string un, .slice uan uns.length ucn, .int .i64 uck, .int .i64 uci, .string ucs, .slice uad ucl.length ucd, .slice uak ul.length uc] 28)) (S' := fun b => b < (w10.alloc (.cells #[.int .i64 uk, .string un, .slice uan uns.length ucn, .int .i64 uck, .int .i64 uci, .string ucs, .slice uad ucl.length ucd, .slice uak ul.length uc] 28)).heap.size) (fun _ _ h => h) fun _ _ _ _ h => h)
      generalize hq2 : w10.heap.size = q2 at *
      generalize w10.alloc (.cells #[.int .i64 uk, .string un, .slice uan uns.length ucn, .int .i64 uck, .int .i64 uci, .string ucs, .slice uad ucl.length ucd, .slice uak ul.length uc] 28) = w11 at *
      have HQ2 := Lib.hid hq2
      clear hq2
      obtain ⟨x0, x1, x2, x3, x4, x5, x6, x7⟩ := look8 YU11.out
      go_wp2_with fail
      refine (KD2.out _ _ _ _ _ _ _ _ _ _ _ _ _ _ _ HC5.out HD5.out HI11.out).mono ?_
      rintro e w12 ⟨⟨xa, xc, rfl, hx⟩, hb12⟩
      have HB12 := Lib.hid (HB11.out.trans (hb12.mono HB11.out.size))
      have Y212 := Lib.hid ((hb12.block (w.heap.size + 1) (lt_of_block Y211.out)).trans Y211.out)
      have HX12 := Lib.hid hx
      clear hb12 hx x0 x1 x2 x3 x4 x5 x6 x7
      go_upto_region 14 with fail
      have HB13 := Lib.hid (bel_alloc' HB12.out (.cells #[.int .i64 dk, .int .i64 di, .string ds, .slice xa dl.length xc] 25))
      have Y213 := Lib.hid (blk_skip' (o := .cells #[.int .i64 dk, .int .i64 di, .string ds, .slice xa dl.length xc] 25) Y212.out)
      have YX13 := Lib.hid (heap_alloc_new w12 (.cells #[.int .i64 dk, .int .i64 di, .string ds, .slice xa dl.length xc] 25))
      have HX13 := Lib.hid (HX12.out.below (bel_alloc' (Below.refl _ _) (.cells #[.int .i64 dk, .int .i64 di, .string ds, .slice xa dl.length xc] 25)))
      generalize hq3 : w12.heap.size = q3 at *
      generalize w12.alloc (.cells #[.int .i64 dk, .int .i64 di, .string ds, .slice xa dl.length xc] 25) = w13 at *
      have HQ3 := Lib.hid hq3
      clear hq3
      obtain ⟨z0, z1, z2, z3⟩ := look4c YX13.out
      obtain ⟨y0, y1, y2, y3⟩ := look4c Y213.out
      go_wp2_with fail
      refine (KS2.out _ _ _ _ HB13.out HX13.out).mono ?_
      rintro e w14 ⟨rfl, hb14⟩
      have HB14 := Lib.hid (HB13.out.trans (hb14.mono HB13.out.size))
      clear hb14 y0 y1 y2 y3 z0 z1 z2 z3
      go_wp2
      go_ret
      exact ⟨rfl, HB14.out⟩
    · go_upto_region 11 with fail
      have HB11 := Lib.hid (bel_alloc' HB10.out (.cells #[.int .i64 0, .string ⟨#[]⟩, .slice none 0 0, .int .i64 0, .int .i64 0, .string ⟨#[]⟩, .slice none 0 0, .slice none 0 0] 28))
      have YU11 := Lib.hid (heap_alloc_new w10 (.cells #[.int .i64 0, .string ⟨#[]⟩, .slice none 0 0, .int .i64 0, .int .i64 0, .string ⟨#[]⟩, .slice none 0 0, .slice none 0 0] 28))
      generalize hq2 : w10.heap.size = q2 at *
      generalize w10.alloc (.cells #[.int .i64 0, .string ⟨#[]⟩, .slice none 0 0, .int .i64 0, .int .i64 0, .string ⟨#[]⟩, .slice none 0 0, .slice none 0 0] 28) = w11 at *
      have HQ2 := Lib.hid hq2
      clear hq2
      obtain ⟨x0, x1, x2, x3, x4, x5, x6, x7⟩ := look8 YU11.out
      go_wp2_with fail
      refine (KZ.out _).mono ?_
      rintro e w12 ⟨rfl, hb12⟩
      have HB12 := Lib.hid (HB11.out.trans (hb12.mono HB11.out.size))
      clear hb12 x0 x1 x2 x3 x4 x5 x6 x7
      go_wp2
      go_ret
      exact ⟨rfl, HB12.out⟩
end Go.Proofs.YtgajendgephkaaaGreatDoor.Core
