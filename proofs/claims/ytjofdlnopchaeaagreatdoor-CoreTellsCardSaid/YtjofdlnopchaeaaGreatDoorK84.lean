/-
The law CoreTells, walked: the datum of any expression, and the expression of any datum, are as the document says. Condition: the library's table of powers of ten as the program lays it.
-/
import Derived.Test.YtjofdlnopchaeaaGreatDoorK54
import Derived.Test.YtjofdlnopchaeaaGreatDoorWKL
import Derived.Test.YtjofdlnopchaeaaGreatDoorK85
import Derived.BigQuiet
import Derived.Deep.DeepCutAuto
namespace Go.Proofs.YtjofdlnopchaeaaGreatDoor.Core
open Go.ChangeShapes Go.WideShapes Go.ChangeAt Go.RowKit Go.Deep
open Dat (PT ok64 RepV RepS RowX numT numsT)
set_option maxRecDepth 100000

theorem tells_same (T : PE) (W : World) (vn vd vk un ud uk : Value) (S S' : Nat → Prop) (h : InF W S T vn vd vk) (h' : InF W S' T un ud uk) : Calls Tryz.prog 8 #[T.val vn vd vk, T.val un ud uk] W fun e w' => e = .returned (.bool true) ∧ Below W.heap.size W w' := by
  refine (sameE_any T T W S S' _ _ _ _ _ _ h h').mono ?_
  rintro e w' ⟨rfl, hb⟩
  refine ⟨?_, hb⟩
  simp [sameE]
/-- What is known of the test of the data, where the expression may be .. -/
def RTp (ev av : Value) (tk ti : Int) (ts : ByteArray) (tl : List PT) : Nat → Value → World → Prop
  | 0, v, _ => v = .int .i64 0
  | 1, v, _ => v = .bool true
  | 2, v, _ => v = .bool true
  | 3, v, _ => v = av
  | 4, v, _ => v = ev
  | 5, v, W => ∃ a c, v = .agg #[.int .i64 tk, .int .i64 ti, .string ts, .slice a tl.length c] ∧ InV W (fun _ => True) (.mk tk ti ts tl) (.slice a tl.length c)
  | 6, v, _ => v = .bool true
  | 7, v, _ => v = .bool false
  | 8, v, _ => v = .bool false
  | 9, v, _ => v = .bool false
  | 10, v, _ => v = .int .i64 0
  | 11, v, _ => v = .bool false
  | 12, v, _ => v = .bool false
  | 17, v, _ => v = .bool false
  | 18, v, _ => v = .bool false
  | _, _, _ => True
theorem RTp.mono {ev av : Value} {tk ti : Int} {ts : ByteArray} {tl : List PT} : ∀ (i : Nat) (v : Value) (W W' : World), RTp ev av tk ti ts tl i v W → Below W.heap.size W W' → RTp ev av tk ti ts tl i v W' := by
  intro i v W W' h hb
  rcases i with _ | _ | _ | _ | _ | _ | _ | _ | _ | _ | _ | _ | _ | _ | _ | _ | _ | _ | _ | i
  all_goals first | exact h | exact h.elim fun a h => h.elim fun c h => ⟨a, c, h.1, h.2.below hb⟩
/-- .. and where it may not. -/
def RTn (av : Value) (c0 : Int) : Nat → Value → World → Prop
  | 0, v, _ => v = .int .i64 c0
  | 1, v, _ => v = .bool false
  | 2, v, _ => v = .bool false
  | 8, v, _ => v = .bool false
  | 9, v, _ => v = .bool false
  | 10, v, _ => v = .int .i64 c0
  | 11, v, _ => v = .bool true
  | 12, v, _ => v = .bool true
  | 13, v, _ => v = av
  | 14, v, _ => v = .agg #[.int .i64 0, .int .i64 0, .string ⟨#[]⟩, .slice none 0 0]
  | 15, v, _ => v = .bool true
  | 16, v, _ => v = .bool false
  | 17, v, _ => v = .bool false
  | 18, v, _ => v = .bool false
  | _, _, _ => True
theorem RTn.mono {av : Value} {c0 : Int} : ∀ (i : Nat) (v : Value) (W W' : World), RTn av c0 i v W → Below W.heap.size W W' → RTn av c0 i v W' := by
  intro i v W W' h _
  rcases i with _ | _ | _ | _ | _ | _ | _ | _ | _ | _ | _ | _ | _ | _ | _ | _ | _ | _ | _ | i <;> exact h
theorem tells_data (T : PE) (S : Nat → Prop) (vn vd vk : Value) (W : World) (h : InF W S T vn vd vk) (hS : ∀ b, S b → b < W.heap.size) : Calls Tryz.prog 17 #[T.val vn vd vk] W fun e w' => (∃ tk ti ts tl ta tc, e = .returned (.tuple #[.agg #[.int .i64 tk, .int .i64 ti, .string ts, .slice ta tl.length tc], .int .i64 (checkE T)]) ∧ InV w' (fun _ => True) (.mk tk ti ts tl) (.slice ta tl.length tc) ∧ ((checkE T = 0 ∧ dataT T = .mk tk ti ts tl) ∨ (checkE T ≠ 0 ∧ PT.mk tk ti ts tl = PT0))) ∧ Below W.heap.size W w' := by
  refine (data_any T S _ _ _ W h hS).mono ?_
  rintro e w' ⟨h1, hb⟩
  refine ⟨?_, hb⟩
  generalize hD : dataT T = D at *
  unfold DataIs at h1
  rw [hD] at h1
  obtain ⟨tk, ti, ts, tl⟩ := D
  rcases h1 with ⟨hc, v, rfl, hv⟩ | ⟨hc, rfl⟩
  · have hv2 := hv
    obtain ⟨_, _, _, ta, tc, rfl, _⟩ := hv
    exact ⟨tk, ti, ts, tl, ta, tc, by rw [hc]; rfl, hv2.to fun _ _ _ => trivial, .inl ⟨hc, rfl⟩⟩
  · exact ⟨0, 0, ⟨#[]⟩, [], none, 0, rfl, ⟨by constructor <;> decide, by constructor <;> decide, by decide, none, 0, rfl, Nat.le_refl _, Nat.zero_le _, fun _ => rfl, .inl rfl⟩, .inr ⟨hc, rfl⟩⟩
open Classical in
/-- What both Makes answer. -/
noncomputable def outT (d : PT) : PE := if checkE (exprT d) = 0 ∧ dataT (exprT d) = d then exprT d else PE0
open Classical in
noncomputable def outC (d : PT) : Int := if checkE (exprT d) = 0 ∧ dataT (exprT d) = d then 0 else 60
def OutIs (d : PT) (e : Ending) (w' : World) : Prop := ∃ vn vd vk, e = .returned (.tuple #[(outT d).val vn vd vk, .int .i64 (outC d)]) ∧ InF w' (fun _ => True) (outT d) vn vd vk
theorem out_make {d : PT} {C : Nat} {e : Ending} {w : World} (h : MakeIs C d e w) : OutIs d e w := by
  obtain ⟨n, r, hm, h⟩ := h
  have ha := make_agree hm
  unfold OutIs outT outC
  rcases h with ⟨t, vn, vd, vk, hr, hc, hd, he, hI⟩ | ⟨hn, he⟩
  · have ht := ha.1 t hr hc hd
    rw [ht, if_pos ⟨hc, hd⟩, if_pos ⟨hc, hd⟩]
    exact ⟨vn, vd, vk, he, hI.move (fun _ _ _ => trivial) fun _ _ _ _ h => h⟩
  · have hno : ¬ (checkE (exprT d) = 0 ∧ dataT (exprT d) = d) := fun hh => hn _ (ha.2 hh.1 hh.2) hh.1 hh.2
    rw [if_neg hno, if_neg hno]
    exact ⟨_, _, _, he, pe0_in⟩
theorem out_rmake {d : PT} {P : Nat → Prop} {e : Ending} {w : World} (h : RMakeIs P d e w) : OutIs d e w := by
  unfold OutIs outT outC
  rcases h with ⟨hc, vn, vd, vk, he, hI⟩ | ⟨hn, he⟩
  · rw [if_pos hc, if_pos hc]
    exact ⟨vn, vd, vk, he, hI.move (fun _ _ _ => trivial) fun _ _ _ _ h => h⟩
  · rw [if_neg hn, if_neg hn]
    exact ⟨_, _, _, he, pe0_in⟩
set_option maxHeartbeats 8000000 in
theorem tells_walk (t : PE) (vn vd vk : Value) (d : PT) (vv : Value) (w : World) (h : InF w (fun b => b < w.heap.size) t vn vd vk) (hd : InV w (fun b => b < w.heap.size) d vv) (ht : TabOk w) :
    Calls Tryz.prog 5 #[t.val vn vd vk, d.val vv] w fun e w' => e = .returned (.bool true) ∧ Below w.heap.size w w' := by
  have HTAB := Lib.hid ht
  have HGL := Lib.hid (lt_of_block ht.choose_spec.choose_spec)
  obtain ⟨k, nm, ns, ⟨ck, ci, cs, cl⟩, l⟩ := t
  obtain ⟨dk, di, ds, dl⟩ := d
  have HI := Lib.hid h
  have HDI := Lib.hid hd
  obtain ⟨⟨_, _, an, cn, rfl, _⟩, ⟨_, _, _, ad, cd, rfl, _⟩, ak, c, rfl, _⟩ := h
  obtain ⟨_, _, _, da, dc, rfl, _⟩ := hd
  show Calls Tryz.prog 5 #[.agg #[.int .i64 k, .string nm, .slice an ns.length cn, .int .i64 ck, .int .i64 ci, .string cs, .slice ad cl.length cd, .slice ak l.length c], .agg #[.int .i64 dk, .int .i64 di, .string ds, .slice da dl.length dc]] w _
  obtain ⟨z0, z1, zb⟩ := two_new w (.cells #[.int .i64 k, .string nm, .slice an ns.length cn, .int .i64 ck, .int .i64 ci, .string cs, .slice ad cl.length cd, .slice ak l.length c] 28) (.cells #[.int .i64 dk, .int .i64 di, .string ds, .slice da dl.length dc] 25)
  generalize hw0 : (w.alloc (.cells #[.int .i64 k, .string nm, .slice an ns.length cn, .int .i64 ck, .int .i64 ci, .string cs, .slice ad cl.length cd, .slice ak l.length c] 28)).alloc (.cells #[.int .i64 dk, .int .i64 di, .string ds, .slice da dl.length dc] 25) = w0 at *
  have HW0 := Lib.hid hw0
  have HTI : Hid (∀ W, Below w.heap.size w W → InF W (fun b => b < W.heap.size) (.mk k nm ns (.mk ck ci cs cl) l) (.slice an ns.length cn) (.slice ad cl.length cd) (.slice ak l.length c)) := Lib.hid fun W hW => (HI.out.below hW).move (fun _ _ h => h) fun _ _ _ _ h => h
  have HDW : Hid (∀ W, Below w.heap.size w W → InV W (fun b => b < W.heap.size) (.mk dk di ds dl) (.slice da dl.length dc)) := Lib.hid fun W hW => (HDI.out.below hW).move (fun _ _ h => h) fun _ _ _ _ h => h
  generalize hT : PE.mk k nm ns (.mk ck ci cs cl) l = T at HTI
  have HTV : Hid (T.val (.slice an ns.length cn) (.slice ad cl.length cd) (.slice ak l.length c) = .agg #[.int .i64 k, .string nm, .slice an ns.length cn, .int .i64 ck, .int .i64 ci, .string cs, .slice ad cl.length cd, .slice ak l.length c]) := Lib.hid (by rw [← hT]; rfl)
  have KD : Hid (∀ W, Below w.heap.size w W → Calls Tryz.prog 17 #[.agg #[.int .i64 k, .string nm, .slice an ns.length cn, .int .i64 ck, .int .i64 ci, .string cs, .slice ad cl.length cd, .slice ak l.length c]] W fun e w' => (∃ tk ti ts tl ta tc, e = .returned (.tuple #[.agg #[.int .i64 tk, .int .i64 ti, .string ts, .slice ta tl.length tc], .int .i64 (checkE T)]) ∧ InV w' (fun _ => True) (.mk tk ti ts tl) (.slice ta tl.length tc) ∧ ((checkE T = 0 ∧ dataT T = .mk tk ti ts tl) ∨ (checkE T ≠ 0 ∧ PT.mk tk ti ts tl = PT0))) ∧ Below W.heap.size W w') := Lib.hid fun W hW => by
    rw [← HTV.out]
    exact tells_data T (fun b => b < W.heap.size) _ _ _ W (HTI.out W hW) (fun b h => h)
  have KRC : Hid (∀ W, Below w.heap.size w W → Calls Tryz.prog 18 #[.agg #[.int .i64 k, .string nm, .slice an ns.length cn, .int .i64 ck, .int .i64 ci, .string cs, .slice ad cl.length cd, .slice ak l.length c]] W fun e w' => e = .returned (.int .i64 (checkE T)) ∧ Below W.heap.size W w') := Lib.hid fun W hW => by
    rw [← HTV.out]
    exact rcheck_any T (fun b => b < W.heap.size) _ _ _ W (HTI.out W hW)
  have KFX : Hid (∀ W, Below w.heap.size w W → Calls Tryz.prog 7 #[] W fun e w' => e = .returned (.bool true) ∧ Below W.heap.size W w') := Lib.hid fun W hW => fixed_any W (tab_below HTAB.out HGL.out hW)
  have KH : Hid (∀ W b ty, Below w.heap.size w W → W.heap[b]? = some (.cells #[.int .i64 dk, .int .i64 di, .string ds, .slice da dl.length dc] ty) → Calls Tryz.prog 21 #[.slice (some ⟨b, 0, none⟩) 1 1] W fun e w' => e = .returned (.bool (decide (100001 ≤ numT (.mk dk di ds dl)))) ∧ Below W.heap.size W w') := Lib.hid fun W b ty hW hz =>
    huge_any (.mk dk di ds dl) (fun _ => True) b 1 W (ins_box hz (HDW.out W hW))
  have HOT : ∃ U, outT (.mk dk di ds dl) = U := ⟨_, rfl⟩
  obtain ⟨⟨uk, un, uns, ⟨uck, uci, ucs, ucl⟩, ul⟩, hU⟩ := HOT
  have HU := Lib.hid hU
  have KM : Hid (∀ W, Below w.heap.size w W → numT (.mk dk di ds dl) ≤ 100000 → Calls Tryz.prog 22 #[.agg #[.int .i64 dk, .int .i64 di, .string ds, .slice da dl.length dc]] W fun e w' => (∃ uan ucn uad ucd uak uc, e = .returned (.tuple #[.agg #[.int .i64 uk, .string un, .slice uan uns.length ucn, .int .i64 uck, .int .i64 uci, .string ucs, .slice uad ucl.length ucd, .slice uak ul.length uc], .int .i64 (outC (.mk dk di ds dl))]) ∧ InF w' (fun _ => True) (.mk uk un uns (.mk uck uci ucs ucl) ul) (.slice uan uns.length ucn) (.slice uad ucl.length ucd) (.slice uak ul.length uc)) ∧ Below W.heap.size W w') := Lib.hid fun W hW hsz => by
    refine (make_any (.mk dk di ds dl) (fun b => b < W.heap.size) _ W (HDW.out W hW) (fun b h => h) hsz).mono ?_
    rintro e w' ⟨hm, hb⟩
    obtain ⟨vn, vd, vk, rfl, hI⟩ := out_make hm
    rw [HU.out] at hI ⊢
    have hI2 := hI
    obtain ⟨⟨_, _, uan, ucn, rfl, _⟩, ⟨_, _, _, uad, ucd, rfl, _⟩, uak, uc, rfl, _⟩ := hI
    exact ⟨⟨uan, ucn, uad, ucd, uak, uc, rfl, hI2⟩, hb⟩
  have KRM : Hid (∀ W, Below w.heap.size w W → numT (.mk dk di ds dl) ≤ 100000 → Calls Tryz.prog 23 #[.agg #[.int .i64 dk, .int .i64 di, .string ds, .slice da dl.length dc]] W fun e w' => (∃ uan ucn uad ucd uak uc, e = .returned (.tuple #[.agg #[.int .i64 uk, .string un, .slice uan uns.length ucn, .int .i64 uck, .int .i64 uci, .string ucs, .slice uad ucl.length ucd, .slice uak ul.length uc], .int .i64 (outC (.mk dk di ds dl))]) ∧ InF w' (fun _ => True) (.mk uk un uns (.mk uck uci ucs ucl) ul) (.slice uan uns.length ucn) (.slice uad ucl.length ucd) (.slice uak ul.length uc)) ∧ Below W.heap.size W w') := Lib.hid fun W hW hsz => by
    refine (rmake_any (.mk dk di ds dl) (fun b => b < W.heap.size) _ W (HDW.out W hW) (fun b h => h) hsz).mono ?_
    rintro e w' ⟨hm, hb⟩
    obtain ⟨vn, vd, vk, rfl, hI⟩ := out_rmake hm
    rw [HU.out] at hI ⊢
    have hI2 := hI
    obtain ⟨⟨_, _, uan, ucn, rfl, _⟩, ⟨_, _, _, uad, ucd, rfl, _⟩, uak, uc, rfl, _⟩ := hI
    exact ⟨⟨uan, ucn, uad, ucd, uak, uc, rfl, hI2⟩, hb⟩
  have KSE : Hid (∀ W uan ucn uad ucd uak uc van vcn vad vcd vak vc, InF W (fun _ => True) (.mk uk un uns (.mk uck uci ucs ucl) ul) (.slice uan uns.length ucn) (.slice uad ucl.length ucd) (.slice uak ul.length uc) → InF W (fun _ => True) (.mk uk un uns (.mk uck uci ucs ucl) ul) (.slice van uns.length vcn) (.slice vad ucl.length vcd) (.slice vak ul.length vc) → Calls Tryz.prog 8 #[.agg #[.int .i64 uk, .string un, .slice uan uns.length ucn, .int .i64 uck, .int .i64 uci, .string ucs, .slice uad ucl.length ucd, .slice uak ul.length uc], .agg #[.int .i64 uk, .string un, .slice van uns.length vcn, .int .i64 uck, .int .i64 uci, .string ucs, .slice vad ucl.length vcd, .slice vak ul.length vc]] W fun e w' => e = .returned (.bool true) ∧ Below W.heap.size W w') := Lib.hid fun W uan ucn uad ucd uak uc van vcn vad vcd vak vc h1 h2 => by
    have h3 := tells_same (.mk uk un uns (.mk uck uci ucs ucl) ul) W (.slice uan uns.length ucn) (.slice uad ucl.length ucd) (.slice uak ul.length uc) (.slice van uns.length vcn) (.slice vad ucl.length vcd) (.slice vak ul.length vc) _ _ h1 h2
    unfold PE.val at h3
    exact h3
  generalize outC (.mk dk di ds dl) = gg at *
  have Z0 := Lib.hid z0
  have Z1 := Lib.hid z1
  have HB0 := Lib.hid zb
  generalize hc0 : checkE T = c0 at *
  have HC0 := Lib.hid hc0
  clear hw0 z0 z1 zb ht hT HI hU hc0
  go_enter Tryz.func5, Tryz.ntmps5
  go_upto_region 1 with fail
  rw [HW0.out]
  obtain ⟨x0, x1, x2, x3, x4, x5, x6, x7⟩ := look8 Z0.out
  go_wp2_with fail
  refine (KD.out _ HB0.out).mono ?_
  rintro e w1 ⟨⟨tk, ti, ts, tl, ta, tc, rfl, hv, hcase⟩, hb1⟩
  have HB1 := Lib.hid (HB0.out.trans (hb1.mono HB0.out.size))
  have Y0 := Lib.hid ((hb1.block w.heap.size (lt_of_block Z0.out)).trans Z0.out)
  have Y1 := Lib.hid ((hb1.block (w.heap.size + 1) (lt_of_block Z1.out)).trans Z1.out)
  have HV1 := Lib.hid hv
  have HCASE := Lib.hid hcase
  clear hb1 hv hcase x0 x1 x2 x3 x4 x5 x6 x7
  go_upto_region 2 with fail
  have HB2 := Lib.hid (bel_alloc' HB1.out (.cells #[.int .i64 tk, .int .i64 ti, .string ts, .slice ta tl.length tc] 25))
  have Y02 := Lib.hid (blk_skip' (o := .cells #[.int .i64 tk, .int .i64 ti, .string ts, .slice ta tl.length tc] 25) Y0.out)
  have Y12 := Lib.hid (blk_skip' (o := .cells #[.int .i64 tk, .int .i64 ti, .string ts, .slice ta tl.length tc] 25) Y1.out)
  have YA2 := Lib.hid (heap_alloc_new w1 (.cells #[.int .i64 tk, .int .i64 ti, .string ts, .slice ta tl.length tc] 25))
  have HV2 := Lib.hid (HV1.out.below ((Below.refl _ _).alloc (Nat.le_refl _) (.cells #[.int .i64 tk, .int .i64 ti, .string ts, .slice ta tl.length tc] 25)))
  generalize w1.alloc (.cells #[.int .i64 tk, .int .i64 ti, .string ts, .slice ta tl.length tc] 25) = w2 at *
  generalize w1.heap.size = q1 at *
  obtain ⟨x0, x1, x2, x3, x4, x5, x6, x7⟩ := look8 Y02.out
  go_wp2_with fail
  refine (KRC.out _ HB2.out).mono ?_
  rintro e w3 ⟨rfl, hb3⟩
  have HB3 := Lib.hid (HB2.out.trans (hb3.mono HB2.out.size))
  have Y03 := Lib.hid ((hb3.block w.heap.size (lt_of_block Y02.out)).trans Y02.out)
  have Y13 := Lib.hid ((hb3.block (w.heap.size + 1) (lt_of_block Y12.out)).trans Y12.out)
  have YA3 := Lib.hid ((hb3.block q1 (lt_of_block YA2.out)).trans YA2.out)
  have HV3 := Lib.hid (HV2.out.below hb3)
  clear hb3 x0 x1 x2 x3 x4 x5 x6 x7
  go_wp2_with fail
  refine (KFX.out _ HB3.out).mono ?_
  rintro e w4 ⟨rfl, hb4⟩
  have HB4 := Lib.hid (HB3.out.trans (hb4.mono HB3.out.size))
  have Y04 := Lib.hid ((hb4.block w.heap.size (lt_of_block Y03.out)).trans Y03.out)
  have Y14 := Lib.hid ((hb4.block (w.heap.size + 1) (lt_of_block Y13.out)).trans Y13.out)
  have YA4 := Lib.hid ((hb4.block q1 (lt_of_block YA3.out)).trans YA3.out)
  have HV4 := Lib.hid (HV3.out.below hb4)
  have hcc : (c0 != c0) = false := by simp
  clear hb4
  go_upto_region 5 with fail
  go_cut [44] (fun v44 wx => v44 = .bool false ∧ Below w4.heap.size w4 wx)
  case first =>
    have CC : Hid (∀ W, Below w4.heap.size w4 W → W.cell? ⟨w.heap.size, 0, none⟩ = some (.int .i64 k) ∧ W.cell? ⟨w.heap.size, 1, none⟩ = some (.string nm) ∧ W.cell? ⟨w.heap.size, 2, none⟩ = some (.slice an ns.length cn) ∧ W.cell? ⟨w.heap.size, 3, none⟩ = some (.int .i64 ck) ∧ W.cell? ⟨w.heap.size, 4, none⟩ = some (.int .i64 ci) ∧ W.cell? ⟨w.heap.size, 5, none⟩ = some (.string cs) ∧ W.cell? ⟨w.heap.size, 6, none⟩ = some (.slice ad cl.length cd) ∧ W.cell? ⟨w.heap.size, 7, none⟩ = some (.slice ak l.length c) ∧ W.cell? ⟨q1, 0, none⟩ = some (.int .i64 tk) ∧ W.cell? ⟨q1, 1, none⟩ = some (.int .i64 ti) ∧ W.cell? ⟨q1, 2, none⟩ = some (.string ts) ∧ W.cell? ⟨q1, 3, none⟩ = some (.slice ta tl.length tc)) := Lib.hid fun W hW => by
      obtain ⟨h0, h1, h2, h3, h4, h5, h6, h7⟩ := look8 ((hW.block w.heap.size (lt_of_block Y04.out)).trans Y04.out)
      obtain ⟨j0, j1, j2, j3⟩ := look4c ((hW.block q1 (lt_of_block YA4.out)).trans YA4.out)
      exact ⟨h0, h1, h2, h3, h4, h5, h6, h7, j0, j1, j2, j3⟩
    rcases HCASE.out with ⟨hc, hd⟩ | ⟨hc, hd⟩
    · have HD := Lib.hid hd
      subst hc
      have KRD : Hid (∀ W, Below w4.heap.size w4 W → Calls Tryz.prog 20 #[.agg #[.int .i64 k, .string nm, .slice an ns.length cn, .int .i64 ck, .int .i64 ci, .string cs, .slice ad cl.length cd, .slice ak l.length c]] W fun e w' => (∃ a c, e = .returned (.agg #[.int .i64 tk, .int .i64 ti, .string ts, .slice a tl.length c]) ∧ InV w' (fun _ => True) (.mk tk ti ts tl) (.slice a tl.length c)) ∧ Below W.heap.size W w') := Lib.hid fun W hW => by
        rw [← HTV.out]
        refine (rdat_any T W (fun b => b < W.heap.size) _ _ _ (HTI.out W (HB4.out.trans (hW.mono HB4.out.size))) (fun b h => h) (okE_of_check HC0.out)).mono ?_
        rintro e w' ⟨⟨v, rfl, hv⟩, hb⟩
        rw [HD.out] at hv ⊢
        have hv2 := hv
        obtain ⟨_, _, _, a, c, rfl, h2⟩ := hv
        exact ⟨⟨a, c, rfl, hv2.to fun _ _ _ => trivial⟩, hb⟩
      have KS2 : Hid (∀ W a' c', Below w4.heap.size w4 W → InV W (fun _ => True) (.mk tk ti ts tl) (.slice a' tl.length c') → Calls Tryz.prog 19 #[.agg #[.int .i64 tk, .int .i64 ti, .string ts, .slice ta tl.length tc], .agg #[.int .i64 tk, .int .i64 ti, .string ts, .slice a' tl.length c']] W fun e w' => e = .returned (.bool true) ∧ Below W.heap.size W w') := Lib.hid fun W a' c' hW hx => by
        refine (Dat.same_any (.mk tk ti ts tl) (.mk tk ti ts tl) W W.heap.size _ _ (HV4.out.below hW).rep hx.rep (Nat.le_refl _)).mono ?_
        rintro e w' ⟨rfl, hb⟩
        rw [Dat.sameB_refl]
        exact ⟨rfl, hb⟩
      clear hd hcc
      refine Rg.wp_region_guard 19 (by kernel_rfl) w4.heap.size (Nat.le_refl _) (RTp (.agg #[.int .i64 k, .string nm, .slice an ns.length cn, .int .i64 ck, .int .i64 ci, .string cs, .slice ad cl.length cd, .slice ak l.length c]) (.agg #[.int .i64 tk, .int .i64 ti, .string ts, .slice ta tl.length tc]) tk ti ts tl) RTp.mono (by kernel_rfl) ?_ ?_
      · intro i9 o9 d hiL hi hd vs W hb hR
        obtain ⟨x0, x1, x2, x3, x4, x5, x6, x7, y0, y1, y2, y3⟩ := CC.out W hb
        have HR := Lib.hid hR
        clear hR
        rcases i9 with _ | _ | _ | _ | _ | _ | _ | _ | _ | _ | _ | _ | _ | _ | _ | _ | _ | _ | _ | i9
        all_goals simp only [List.getElem?_cons_zero, List.getElem?_cons_succ, List.getElem?_nil, Option.some.injEq, reduceCtorEq] at hi
        all_goals try subst hi
        all_goals try simp only [Option.some.injEq] at hd
        all_goals try subst hd
        all_goals try simp only [List.take_succ_cons, List.take_zero, Rg.putAll, Act.put, List.setIfInBounds_toArray, List.set_cons_zero, List.set_cons_succ, Nat.zero_add, Nat.reduceAdd]
        · refine Rg.wpOp_go rfl rfl ?_
          go_simp
          exact ⟨_, rfl, rfl, Below.refl _ _⟩
        · rw [show vs 0 = _ from (HR.out 0 (by decide) (by kernel_rfl))]
          refine Rg.wpOp_go rfl rfl ?_
          go_simp
          exact ⟨_, rfl, rfl, Below.refl _ _⟩
        · rw [show vs 1 = _ from (HR.out 1 (by decide) (by kernel_rfl))]
          refine Rg.wpOp_go rfl rfl ?_
          go_simp
          exact ⟨_, rfl, rfl, Below.refl _ _⟩
        · rw [show vs 2 = _ from (HR.out 2 (by decide) (by kernel_rfl))]
          refine Rg.wpOp_go rfl rfl ?_
          go_simp
          exact ⟨_, rfl, rfl, Below.refl _ _⟩
        · rw [show vs 2 = _ from (HR.out 2 (by decide) (by kernel_rfl))]
          refine Rg.wpOp_go rfl rfl ?_
          go_simp
          exact ⟨_, rfl, rfl, Below.refl _ _⟩
        · rw [show vs 2 = _ from (HR.out 2 (by decide) (by kernel_rfl))]
          rw [show vs 4 = _ from (HR.out 4 (by decide) (by kernel_rfl))]
          refine Rg.wpOp_go rfl rfl ?_
          go_simp
          refine (KRD.out _ hb).mono ?_
          rintro e w7 ⟨⟨a7, c7, rfl, hd7⟩, hb7⟩
          exact ⟨_, rfl, ⟨a7, c7, rfl, hd7⟩, hb7⟩
        · rw [show vs 2 = _ from (HR.out 2 (by decide) (by kernel_rfl))]
          rw [show vs 3 = _ from (HR.out 3 (by decide) (by kernel_rfl))]
          obtain ⟨a7, c7, h9, hd7⟩ := (HR.out 5 (by decide) (by kernel_rfl) : ∃ a c, vs 5 = _ ∧ _)
          rw [h9]
          refine Rg.wpOp_go rfl rfl ?_
          go_simp
          refine (KS2.out _ a7 c7 hb hd7).mono ?_
          rintro e w7 ⟨rfl, hb7⟩
          exact ⟨_, rfl, rfl, hb7⟩
        · rw [show vs 2 = _ from (HR.out 2 (by decide) (by kernel_rfl))]
          rw [show vs 6 = _ from (HR.out 6 (by decide) (by kernel_rfl))]
          refine Rg.wpOp_go rfl rfl ?_
          go_simp
          exact ⟨_, rfl, rfl, Below.refl _ _⟩
        · rw [show vs 2 = _ from (HR.out 2 (by decide) (by kernel_rfl))]
          rw [show vs 7 = _ from (HR.out 7 (by decide) (by kernel_rfl))]
          refine Rg.wpOp_go rfl rfl ?_
          go_simp
          exact ⟨_, rfl, rfl, Below.refl _ _⟩
        · rw [show vs 8 = _ from (HR.out 8 (by decide) (by kernel_rfl))]
          refine Rg.wpOp_go rfl rfl ?_
          go_simp
          exact ⟨_, rfl, rfl, Below.refl _ _⟩
        · rw [show vs 9 = _ from (HR.out 9 (by decide) (by kernel_rfl))]
          refine Rg.wpOp_go rfl rfl ?_
          go_simp
          exact ⟨_, rfl, rfl, Below.refl _ _⟩
        · rw [show vs 9 = _ from (HR.out 9 (by decide) (by kernel_rfl))]
          rw [show vs 10 = _ from (HR.out 10 (by decide) (by kernel_rfl))]
          refine Rg.wpOp_go rfl rfl ?_
          go_simp
          exact ⟨_, rfl, rfl, Below.refl _ _⟩
        · rw [show vs 9 = _ from (HR.out 9 (by decide) (by kernel_rfl))]
          rw [show vs 11 = _ from (HR.out 11 (by decide) (by kernel_rfl))]
          refine Rg.wpOp_go rfl rfl ?_
          go_simp
          exact ⟨_, rfl, rfl, Below.refl _ _⟩
        · rw [show vs 12 = _ from (HR.out 12 (by decide) (by kernel_rfl))]
          exact Rg.wpOp_skip rfl rfl ⟨_, rfl, trivial, Below.refl _ _⟩
        · rw [show vs 12 = _ from (HR.out 12 (by decide) (by kernel_rfl))]
          exact Rg.wpOp_skip rfl rfl ⟨_, rfl, trivial, Below.refl _ _⟩
        · rw [show vs 12 = _ from (HR.out 12 (by decide) (by kernel_rfl))]
          exact Rg.wpOp_skip rfl rfl ⟨_, rfl, trivial, Below.refl _ _⟩
        · rw [show vs 12 = _ from (HR.out 12 (by decide) (by kernel_rfl))]
          exact Rg.wpOp_skip rfl rfl ⟨_, rfl, trivial, Below.refl _ _⟩
        · rw [show vs 9 = _ from (HR.out 9 (by decide) (by kernel_rfl))]
          rw [show vs 12 = _ from (HR.out 12 (by decide) (by kernel_rfl))]
          refine Rg.wpOp_go rfl rfl ?_
          go_simp
          exact ⟨_, rfl, rfl, Below.refl _ _⟩
        · rw [show vs 9 = _ from (HR.out 9 (by decide) (by kernel_rfl))]
          rw [show vs 17 = _ from (HR.out 17 (by decide) (by kernel_rfl))]
          refine Rg.wpOp_go rfl rfl ?_
          go_simp
          exact ⟨_, rfl, rfl, Below.refl _ _⟩
      · intro vs W hBW hR
        simp only [List.take_succ_cons, List.take_zero, List.drop_succ_cons, List.drop_zero, Rg.putAll, Act.put, List.setIfInBounds_toArray, List.set_cons_zero, List.set_cons_succ, Nat.zero_add, Nat.reduceAdd]
        rw [show vs 18 = _ from hR 18 (by decide)]
        clear hR
        go_wp2
        go_meet
        exact ⟨rfl, hBW⟩
    · have HD := Lib.hid hd
      have KS0 : Hid (∀ W, Below w4.heap.size w4 W → Calls Tryz.prog 19 #[.agg #[.int .i64 tk, .int .i64 ti, .string ts, .slice ta tl.length tc], .agg #[.int .i64 0, .int .i64 0, .string ⟨#[]⟩, .slice none 0 0]] W fun e w' => e = .returned (.bool true) ∧ Below W.heap.size W w') := Lib.hid fun W hW => by
        refine (Dat.same_any (.mk tk ti ts tl) PT0 W W.heap.size _ (.slice none 0 0) (HV4.out.below hW).rep (InV.rep (S := fun _ => True) ⟨by constructor <;> decide, by constructor <;> decide, by decide, none, 0, rfl, Nat.le_refl _, Nat.zero_le _, fun _ => rfl, .inl rfl⟩) (Nat.le_refl _)).mono ?_
        rintro e w' ⟨rfl, hb⟩
        rw [HD.out, Dat.sameB_refl]
        exact ⟨rfl, hb⟩
      have hcb : (c0 == 0) = false := by simpa using hc
      have hcb2 : (c0 != 0) = true := by simpa using hc
      clear hd hcc
      refine Rg.wp_region_guard 19 (by kernel_rfl) w4.heap.size (Nat.le_refl _) (RTn (.agg #[.int .i64 tk, .int .i64 ti, .string ts, .slice ta tl.length tc]) c0) RTn.mono (by kernel_rfl) ?_ ?_
      · intro i9 o9 d hiL hi hd vs W hb hR
        obtain ⟨x0, x1, x2, x3, x4, x5, x6, x7, y0, y1, y2, y3⟩ := CC.out W hb
        have HR := Lib.hid hR
        clear hR
        rcases i9 with _ | _ | _ | _ | _ | _ | _ | _ | _ | _ | _ | _ | _ | _ | _ | _ | _ | _ | _ | i9
        all_goals simp only [List.getElem?_cons_zero, List.getElem?_cons_succ, List.getElem?_nil, Option.some.injEq, reduceCtorEq] at hi
        all_goals try subst hi
        all_goals try simp only [Option.some.injEq] at hd
        all_goals try subst hd
        all_goals try simp only [List.take_succ_cons, List.take_zero, Rg.putAll, Act.put, List.setIfInBounds_toArray, List.set_cons_zero, List.set_cons_succ, Nat.zero_add, Nat.reduceAdd]
        · refine Rg.wpOp_go rfl rfl ?_
          go_simp
          exact ⟨_, rfl, rfl, Below.refl _ _⟩
        · rw [show vs 0 = _ from (HR.out 0 (by decide) (by kernel_rfl))]
          refine Rg.wpOp_go rfl rfl ?_
          go_simp
          exact ⟨_, rfl, rfl, Below.refl _ _⟩
        · rw [show vs 1 = _ from (HR.out 1 (by decide) (by kernel_rfl))]
          refine Rg.wpOp_go rfl rfl ?_
          go_simp
          exact ⟨_, rfl, rfl, Below.refl _ _⟩
        · rw [show vs 2 = _ from (HR.out 2 (by decide) (by kernel_rfl))]
          exact Rg.wpOp_skip rfl rfl ⟨_, rfl, trivial, Below.refl _ _⟩
        · rw [show vs 2 = _ from (HR.out 2 (by decide) (by kernel_rfl))]
          exact Rg.wpOp_skip rfl rfl ⟨_, rfl, trivial, Below.refl _ _⟩
        · rw [show vs 2 = _ from (HR.out 2 (by decide) (by kernel_rfl))]
          exact Rg.wpOp_skip rfl rfl ⟨_, rfl, trivial, Below.refl _ _⟩
        · rw [show vs 2 = _ from (HR.out 2 (by decide) (by kernel_rfl))]
          exact Rg.wpOp_skip rfl rfl ⟨_, rfl, trivial, Below.refl _ _⟩
        · rw [show vs 2 = _ from (HR.out 2 (by decide) (by kernel_rfl))]
          exact Rg.wpOp_skip rfl rfl ⟨_, rfl, trivial, Below.refl _ _⟩
        · rw [show vs 2 = _ from (HR.out 2 (by decide) (by kernel_rfl))]
          refine Rg.wpOp_go rfl rfl ?_
          go_simp
          exact ⟨_, rfl, rfl, Below.refl _ _⟩
        · rw [show vs 8 = _ from (HR.out 8 (by decide) (by kernel_rfl))]
          refine Rg.wpOp_go rfl rfl ?_
          go_simp
          exact ⟨_, rfl, rfl, Below.refl _ _⟩
        · rw [show vs 9 = _ from (HR.out 9 (by decide) (by kernel_rfl))]
          refine Rg.wpOp_go rfl rfl ?_
          go_simp
          exact ⟨_, rfl, rfl, Below.refl _ _⟩
        · rw [show vs 9 = _ from (HR.out 9 (by decide) (by kernel_rfl))]
          rw [show vs 10 = _ from (HR.out 10 (by decide) (by kernel_rfl))]
          refine Rg.wpOp_go rfl rfl ?_
          go_simp
          exact ⟨_, rfl, rfl, Below.refl _ _⟩
        · rw [show vs 9 = _ from (HR.out 9 (by decide) (by kernel_rfl))]
          rw [show vs 11 = _ from (HR.out 11 (by decide) (by kernel_rfl))]
          refine Rg.wpOp_go rfl rfl ?_
          go_simp
          exact ⟨_, rfl, rfl, Below.refl _ _⟩
        · rw [show vs 12 = _ from (HR.out 12 (by decide) (by kernel_rfl))]
          refine Rg.wpOp_go rfl rfl ?_
          go_simp
          exact ⟨_, rfl, rfl, Below.refl _ _⟩
        · rw [show vs 12 = _ from (HR.out 12 (by decide) (by kernel_rfl))]
          refine Rg.wpOp_go rfl rfl ?_
          go_simp
          exact ⟨_, rfl, rfl, Below.refl _ _⟩
        · rw [show vs 12 = _ from (HR.out 12 (by decide) (by kernel_rfl))]
          rw [show vs 13 = _ from (HR.out 13 (by decide) (by kernel_rfl))]
          rw [show vs 14 = _ from (HR.out 14 (by decide) (by kernel_rfl))]
          refine Rg.wpOp_go rfl rfl ?_
          go_simp
          refine (KS0.out _ hb).mono ?_
          rintro e w7 ⟨rfl, hb7⟩
          exact ⟨_, rfl, rfl, hb7⟩
        · rw [show vs 12 = _ from (HR.out 12 (by decide) (by kernel_rfl))]
          rw [show vs 15 = _ from (HR.out 15 (by decide) (by kernel_rfl))]
          refine Rg.wpOp_go rfl rfl ?_
          go_simp
          exact ⟨_, rfl, rfl, Below.refl _ _⟩
        · rw [show vs 9 = _ from (HR.out 9 (by decide) (by kernel_rfl))]
          rw [show vs 12 = _ from (HR.out 12 (by decide) (by kernel_rfl))]
          rw [show vs 16 = _ from (HR.out 16 (by decide) (by kernel_rfl))]
          refine Rg.wpOp_go rfl rfl ?_
          go_simp
          exact ⟨_, rfl, rfl, Below.refl _ _⟩
        · rw [show vs 9 = _ from (HR.out 9 (by decide) (by kernel_rfl))]
          rw [show vs 17 = _ from (HR.out 17 (by decide) (by kernel_rfl))]
          refine Rg.wpOp_go rfl rfl ?_
          go_simp
          exact ⟨_, rfl, rfl, Below.refl _ _⟩
      · intro vs W hBW hR
        simp only [List.take_succ_cons, List.take_zero, List.drop_succ_cons, List.drop_zero, Rg.putAll, Act.put, List.setIfInBounds_toArray, List.set_cons_zero, List.set_cons_succ, Nat.zero_add, Nat.reduceAdd]
        rw [show vs 18 = _ from hR 18 (by decide)]
        clear hR
        go_wp2
        go_meet
        exact ⟨rfl, hBW⟩
  case rest =>
  obtain ⟨rfl, hbc⟩ := hcut
  have HB8 := Lib.hid (HB4.out.trans (hbc.mono HB4.out.size))
  have Y18 := Lib.hid ((hbc.block (w.heap.size + 1) (lt_of_block Y14.out)).trans Y14.out)
  clear hbc hcc
  go_upto_region 7 with fail
  obtain ⟨y0, y1, y2, y3⟩ := look4c Y18.out
  go_wp2_with fail
  refine (KH.out _ _ _ (bel_alloc' HB8.out _) (heap_alloc_new _ _)).mono ?_
  rintro e w9 ⟨rfl, hb9⟩
  have HB9 := Lib.hid ((bel_alloc' HB8.out (.cells #[.int .i64 dk, .int .i64 di, .string ds, .slice da dl.length dc] 25)).trans (hb9.mono (bel_alloc' HB8.out _).size))
  have Y19 := Lib.hid ((hb9.block (w.heap.size + 1) (lt_of_block (blk_skip' (o := .cells #[.int .i64 dk, .int .i64 di, .string ds, .slice da dl.length dc] 25) Y18.out))).trans (blk_skip' (o := .cells #[.int .i64 dk, .int .i64 di, .string ds, .slice da dl.length dc] 25) Y18.out))
  clear hb9 y0 y1 y2 y3
  by_cases hh : 100001 ≤ numT (.mk dk di ds dl)
  · rw [decide_eq_true hh]
    clear hh
    go_wp2
    go_ret
    exact ⟨rfl, HB9.out⟩
  have HSZ : Hid (numT (.mk dk di ds dl) ≤ 100000) := Lib.hid (by omega)
  rw [decide_eq_false hh]
  clear hh
  obtain ⟨y0, y1, y2, y3⟩ := look4c Y19.out
  go_wp2_with fail
  refine (KM.out _ HB9.out HSZ.out).mono ?_
  rintro e w10 ⟨⟨uan, ucn, uad, ucd, uak, uc, rfl, hI⟩, hb10⟩
  have HB10 := Lib.hid (HB9.out.trans (hb10.mono HB9.out.size))
  have Y110 := Lib.hid ((hb10.block (w.heap.size + 1) (lt_of_block Y19.out)).trans Y19.out)
  have HI10 := Lib.hid hI
  clear hb10 hI y0 y1 y2 y3
  go_upto_region 10 with fail
  have HB11 := Lib.hid (bel_alloc' HB10.out (.cells #[.int .i64 uk, .string un, .slice uan uns.length ucn, .int .i64 uck, .int .i64 uci, .string ucs, .slice uad ucl.length ucd, .slice uak ul.length uc] 28))
  have Y111 := Lib.hid (blk_skip' (o := .cells #[.int .i64 uk, .string un, .slice uan uns.length ucn, .int .i64 uck, .int .i64 uci, .string ucs, .slice uad ucl.length ucd, .slice uak ul.length uc] 28) Y110.out)
  have YU11 := Lib.hid (heap_alloc_new w10 (.cells #[.int .i64 uk, .string un, .slice uan uns.length ucn, .int .i64 uck, .int .i64 uci, .string ucs, .slice uad ucl.length ucd, .slice uak ul.length uc] 28))
  have HI11 := Lib.hid (HI10.out.below ((Below.refl _ _).alloc (Nat.le_refl _) (.cells #[.int .i64 uk, .string un, .slice uan uns.length ucn, .int .i64 uck, .int .i64 uci, .string ucs, .slice uad ucl.length ucd, .slice uak ul.length uc] 28)))
  generalize w10.alloc (.cells #[.int .i64 uk, .string un, .slice uan uns.length ucn, .int .i64 uck, .int .i64 uci, .string ucs, .slice uad ucl.length ucd, .slice uak ul.length uc] 28) = w11 at *
  generalize w10.heap.size = q2 at *
  obtain ⟨y0, y1, y2, y3⟩ := look4c Y111.out
  go_wp2_with fail
  refine (KRM.out _ HB11.out HSZ.out).mono ?_
  rintro e w12 ⟨⟨van, vcn, vad, vcd, vak, vc, rfl, hJ⟩, hb12⟩
  have HB12 := Lib.hid (HB11.out.trans (hb12.mono HB11.out.size))
  have YU12 := Lib.hid ((hb12.block q2 (lt_of_block YU11.out)).trans YU11.out)
  have HI12 := Lib.hid (HI11.out.below hb12)
  have HJ12 := Lib.hid hJ
  clear hb12 hJ y0 y1 y2 y3
  go_upto_region 11 with fail
  have HB13 := Lib.hid (bel_alloc' HB12.out (.cells #[.int .i64 uk, .string un, .slice van uns.length vcn, .int .i64 uck, .int .i64 uci, .string ucs, .slice vad ucl.length vcd, .slice vak ul.length vc] 28))
  have YU13 := Lib.hid (blk_skip' (o := .cells #[.int .i64 uk, .string un, .slice van uns.length vcn, .int .i64 uck, .int .i64 uci, .string ucs, .slice vad ucl.length vcd, .slice vak ul.length vc] 28) YU12.out)
  have YV13 := Lib.hid (heap_alloc_new w12 (.cells #[.int .i64 uk, .string un, .slice van uns.length vcn, .int .i64 uck, .int .i64 uci, .string ucs, .slice vad ucl.length vcd, .slice vak ul.length vc] 28))
  have HI13 := Lib.hid (HI12.out.below ((Below.refl _ _).alloc (Nat.le_refl _) (.cells #[.int .i64 uk, .string un, .slice van uns.length vcn, .int .i64 uck, .int .i64 uci, .string ucs, .slice vad ucl.length vcd, .slice vak ul.length vc] 28)))
  have HJ13 := Lib.hid (HJ12.out.below ((Below.refl _ _).alloc (Nat.le_refl _) (.cells #[.int .i64 uk, .string un, .slice van uns.length vcn, .int .i64 uck, .int .i64 uci, .string ucs, .slice vad ucl.length vcd, .slice vak ul.length vc] 28)))
  generalize w12.alloc (.cells #[.int .i64 uk, .string un, .slice van uns.length vcn, .int .i64 uck, .int .i64 uci, .string ucs, .slice vad ucl.length vcd, .slice vak ul.length vc] 28) = w13 at *
  generalize w12.heap.size = q3 at *
  obtain ⟨x0, x1, x2, x3, x4, x5, x6, x7⟩ := look8 YU13.out
  obtain ⟨z0, z1, z2, z3, z4, z5, z6, z7⟩ := look8 YV13.out
  go_wp2_with fail
  refine (KSE.out _ _ _ _ _ _ _ _ _ _ _ _ _ HI13.out HJ13.out).mono ?_
  rintro e w14 ⟨rfl, hb14⟩
  have HB14 := Lib.hid (HB13.out.trans (hb14.mono HB13.out.size))
  have hgg : (gg == gg) = true := by simp
  clear hb14 x0 x1 x2 x3 x4 x5 x6 x7 z0 z1 z2 z3 z4 z5 z6 z7
  go_wp2
  go_ret
  exact ⟨rfl, HB14.out⟩
end Go.Proofs.YtjofdlnopchaeaaGreatDoor.Core
