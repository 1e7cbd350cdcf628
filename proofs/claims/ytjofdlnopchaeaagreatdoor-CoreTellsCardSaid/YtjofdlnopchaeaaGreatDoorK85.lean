/-
The document's Make: the expression of a datum. No condition but a bound on how large the datum is.
-/
import Derived.Test.YtjofdlnopchaeaaGreatDoorK83
import Derived.Test.YtjofdlnopchaeaaGreatDoorWKP
import Derived.Test.YtjofdlnopchaeaaGreatDoorWKL
namespace Go.Proofs.YtjofdlnopchaeaaGreatDoor.Core
open Go.ChangeShapes Go.WideShapes Go.ChangeAt Go.RowKit Go.Deep
open Dat (PT ok64 RepV numT)
set_option maxRecDepth 100000

/-- What each operation of Make's test is known to yield, where Check found something wrong. -/
def RMn (tv : Value) (c0 : Int) : Nat → Value → World → Prop
  | 0, v, _ => v = tv
  | 1, v, _ => v = .int .i64 c0
  | 2, v, _ => v = .bool true
  | 3, v, _ => v = .bool true
  | 9, v, _ => v = .bool true
  | _, _, _ => True
theorem RMn.mono {tv : Value} {c0 : Int} : ∀ (i : Nat) (v : Value) (W W' : World), RMn tv c0 i v W → Below W.heap.size W W' → RMn tv c0 i v W' := by
  intro i v W W' h _
  rcases i with _ | _ | _ | _ | _ | _ | _ | _ | _ | _ | i <;> exact h
/-- .. where Check found nothing. -/
def RMp (tv dv : Value) (dk di : Int) (ds : ByteArray) (dl : List PT) (C : Nat) (eqb : Bool) : Nat → Value → World → Prop
  | 0, v, _ => v = tv
  | 1, v, _ => v = .int .i64 0
  | 2, v, _ => v = .bool false
  | 3, v, _ => v = .bool false
  | 4, v, _ => v = tv
  | 5, v, W => ∃ a c, v = .agg #[.int .i64 dk, .int .i64 di, .string ds, .slice a dl.length c] ∧ InS W (fun b => C ≤ b) dl (.slice a dl.length c)
  | 6, v, _ => v = dv
  | 7, v, _ => v = .bool eqb
  | 8, v, _ => v = .bool (!eqb)
  | 9, v, _ => v = .bool (!eqb)
  | _, _, _ => True
theorem RMp.mono {tv dv : Value} {dk di : Int} {ds : ByteArray} {dl : List PT} {C : Nat} {eqb : Bool} : ∀ (i : Nat) (v : Value) (W W' : World), RMp tv dv dk di ds dl C eqb i v W → Below W.heap.size W W' → RMp tv dv dk di ds dl C eqb i v W' := by
  intro i v W W' h hb
  rcases i with _ | _ | _ | _ | _ | _ | _ | _ | _ | _ | i
  all_goals first | exact h | exact h.elim fun a h => h.elim fun c h => ⟨a, c, h.1, insBelow h.2 hb⟩
/-- What the document's Make answers. -/
def RMakeIs (P : Nat → Prop) (d : PT) (e : Ending) (w : World) : Prop :=
  ((checkE (exprT d) = 0 ∧ dataT (exprT d) = d) ∧ ∃ vn vd vk, e = .returned (.tuple #[(exprT d).val vn vd vk, .int .i64 0]) ∧ InF w P (exprT d) vn vd vk) ∨
    (¬ (checkE (exprT d) = 0 ∧ dataT (exprT d) = d) ∧ e = .returned (.tuple #[.agg #[.int .i64 0, .string ⟨#[]⟩, .slice none 0 0, .int .i64 0, .int .i64 0, .string ⟨#[]⟩, .slice none 0 0, .slice none 0 0], .int .i64 60]))
set_option maxHeartbeats 8000000 in
theorem rmake_any (d : PT) (S : Nat → Prop) (v : Value) (w : World) (hv : InV w S d v) (hS : ∀ b, S b → b < w.heap.size) (hsz : numT d ≤ 100000) :
    Calls Tryz.prog 23 #[d.val v] w fun e w' => RMakeIs (fun b => S b ∨ w.heap.size ≤ b) d e w' ∧ Below w.heap.size w w' := by
  obtain ⟨k, i, s, l⟩ := d
  have HV := Lib.hid hv
  have HSL := Lib.hid hS
  obtain ⟨_, _, _, a, c, rfl, _⟩ := hv
  show Calls Tryz.prog 23 #[.agg #[.int .i64 k, .int .i64 i, .string s, .slice a l.length c]] w _
  obtain ⟨z0, z1, zb⟩ := two_new w (.cells #[.int .i64 k, .int .i64 i, .string s, .slice a l.length c] 25) (.cells #[.int .i64 0, .string ⟨#[]⟩, .slice none 0 0, .int .i64 0, .int .i64 0, .string ⟨#[]⟩, .slice none 0 0, .slice none 0 0] 28)
  generalize hw0 : (w.alloc (.cells #[.int .i64 k, .int .i64 i, .string s, .slice a l.length c] 25)).alloc (.cells #[.int .i64 0, .string ⟨#[]⟩, .slice none 0 0, .int .i64 0, .int .i64 0, .string ⟨#[]⟩, .slice none 0 0, .slice none 0 0] 28) = w0 at z0 z1 zb
  have HW0 := Lib.hid hw0
  have Z0 := Lib.hid z0
  have Z1 := Lib.hid z1
  have ZB := Lib.hid zb
  have HRE : Hid (Calls Tryz.prog 42 #[.agg #[.int .i64 k, .int .i64 i, .string s, .slice a l.length c]] w0 fun e w' => ExprIs S w0.heap.size (.mk k i s l) e w' ∧ Below w0.heap.size w0 w') := Lib.hid (rexpr_any (.mk k i s l) w0 S _ (HV.out.below zb) (fun b hb => Nat.lt_of_lt_of_le (hS b hb) zb.size) hsz)
  obtain ⟨x0, x1, x2, x3⟩ := look4c z0
  clear hw0 z0 z1 zb hS hsz
  go_enter Tryz.func23, Tryz.ntmps23
  go_upto_region 1 with fail
  rw [HW0.out]
  go_wp2_with fail
  refine HRE.out.mono ?_
  rintro e w5 ⟨⟨tvn, tvd, tvk, he, hF⟩, hb5⟩
  have HTT : ∃ T, exprT (.mk k i s l) = T := ⟨_, rfl⟩
  obtain ⟨⟨tk, tn, tns, ⟨tck, tci, tcs, tcl⟩, tl⟩, hT⟩ := HTT
  rw [hT] at he hF
  have HF5 := Lib.hid hF
  have HTX := Lib.hid hT
  obtain ⟨⟨_, _, tan, tcn, rfl, -⟩, ⟨_, _, _, tad, tcd, rfl, -⟩, tak, tcc, rfl, -⟩ := hF
  have he' : e = .returned (.agg #[.int .i64 tk, .string tn, .slice tan tns.length tcn, .int .i64 tck, .int .i64 tci, .string tcs, .slice tad tcl.length tcd, .slice tak tl.length tcc]) := he
  subst he'
  have HB5 := Lib.hid (ZB.out.trans (hb5.mono ZB.out.size))
  have Z05 := Lib.hid ((hb5.block w.heap.size (lt_of_block Z0.out)).trans Z0.out)
  have Z15 := Lib.hid ((hb5.block (w.heap.size + 1) (lt_of_block Z1.out)).trans Z1.out)
  have HS5 : Hid (w.heap.size + 1 < w5.heap.size) := Lib.hid (lt_of_block Z15.out)
  have HZS : Hid (w.heap.size ≤ w0.heap.size) := Lib.hid ZB.out.size
  clear hb5 he hT x0 x1 x2 x3
  go_upto_region 2 with fail
  have Z16 := Lib.hid (blk_skip' (o := .cells #[.int .i64 tk, .string tn, .slice tan tns.length tcn, .int .i64 tck, .int .i64 tci, .string tcs, .slice tad tcl.length tcd, .slice tak tl.length tcc] 28) Z15.out)
  have Z06 := Lib.hid (blk_skip' (o := .cells #[.int .i64 tk, .string tn, .slice tan tns.length tcn, .int .i64 tck, .int .i64 tci, .string tcs, .slice tad tcl.length tcd, .slice tak tl.length tcc] 28) Z05.out)
  have Z56 := Lib.hid (heap_alloc_new w5 (.cells #[.int .i64 tk, .string tn, .slice tan tns.length tcn, .int .i64 tck, .int .i64 tci, .string tcs, .slice tad tcl.length tcd, .slice tak tl.length tcc] 28))
  have HB6a := Lib.hid (bel_alloc' HB5.out (.cells #[.int .i64 tk, .string tn, .slice tan tns.length tcn, .int .i64 tck, .int .i64 tci, .string tcs, .slice tad tcl.length tcd, .slice tak tl.length tcc] 28))
  have HF6 := Lib.hid (HF5.out.below ((Below.refl _ _).alloc (Nat.le_refl _) (.cells #[.int .i64 tk, .string tn, .slice tan tns.length tcn, .int .i64 tck, .int .i64 tci, .string tcs, .slice tad tcl.length tcd, .slice tak tl.length tcc] 28)))
  have HS6 : Hid (∀ b, (S b ∨ w0.heap.size ≤ b) → b ≠ w.heap.size + 1) := Lib.hid fun b hb e => by
    have h1 := lt_of_block Z1.out
    rcases hb with h | h
    · have := HSL.out b h; omega
    · omega
  have HV6 := Lib.hid (HV.out.below HB6a.out)
  generalize w5.alloc (.cells #[.int .i64 tk, .string tn, .slice tan tns.length tcn, .int .i64 tck, .int .i64 tci, .string tcs, .slice tad tcl.length tcd, .slice tak tl.length tcc] 28) = w6 at *
  generalize w5.heap.size = b5 at *
  have h5l : b5 < w6.heap.size := lt_of_block Z56.out
  have CC : Hid (∀ W, Below w6.heap.size w6 W → W.cell? ⟨b5, 0, none⟩ = some (.int .i64 tk) ∧ W.cell? ⟨b5, 1, none⟩ = some (.string tn) ∧ W.cell? ⟨b5, 2, none⟩ = some (.slice tan tns.length tcn) ∧ W.cell? ⟨b5, 3, none⟩ = some (.int .i64 tck) ∧ W.cell? ⟨b5, 4, none⟩ = some (.int .i64 tci) ∧ W.cell? ⟨b5, 5, none⟩ = some (.string tcs) ∧ W.cell? ⟨b5, 6, none⟩ = some (.slice tad tcl.length tcd) ∧ W.cell? ⟨b5, 7, none⟩ = some (.slice tak tl.length tcc) ∧ W.cell? ⟨w.heap.size, 0, none⟩ = some (.int .i64 k) ∧ W.cell? ⟨w.heap.size, 1, none⟩ = some (.int .i64 i) ∧ W.cell? ⟨w.heap.size, 2, none⟩ = some (.string s) ∧ W.cell? ⟨w.heap.size, 3, none⟩ = some (.slice a l.length c)) := Lib.hid fun W hW => by
    obtain ⟨h0, h1, h2, h3, h4, h5, h6, h7⟩ := look8 ((hW.block b5 h5l).trans Z56.out)
    obtain ⟨j0, j1, j2, j3⟩ := look4c ((hW.block w.heap.size (lt_of_block Z06.out)).trans Z06.out)
    exact ⟨h0, h1, h2, h3, h4, h5, h6, h7, j0, j1, j2, j3⟩
  have HFT : Hid (∀ W, Below w6.heap.size w6 W → InF W (fun b => b < W.heap.size) (.mk tk tn tns (.mk tck tci tcs tcl) tl) (.slice tan tns.length tcn) (.slice tad tcl.length tcd) (.slice tak tl.length tcc)) := Lib.hid fun W hW => (HF6.out.below hW).move (fun _ _ h => h) fun _ _ _ _ h => h
  generalize hT : PE.mk tk tn tns (.mk tck tci tcs tcl) tl = T at *
  have HTV : Hid (T.val (.slice tan tns.length tcn) (.slice tad tcl.length tcd) (.slice tak tl.length tcc) = .agg #[.int .i64 tk, .string tn, .slice tan tns.length tcn, .int .i64 tck, .int .i64 tci, .string tcs, .slice tad tcl.length tcd, .slice tak tl.length tcc]) := Lib.hid (by rw [← hT]; rfl)
  have KC : Hid (∀ W, Below w6.heap.size w6 W → Calls Tryz.prog 18 #[.agg #[.int .i64 tk, .string tn, .slice tan tns.length tcn, .int .i64 tck, .int .i64 tci, .string tcs, .slice tad tcl.length tcd, .slice tak tl.length tcc]] W fun e w' => e = .returned (.int .i64 (checkE T)) ∧ Below W.heap.size W w') := Lib.hid fun W hW => by
    rw [← HTV.out]
    exact rcheck_any T (fun b => b < W.heap.size) _ _ _ W (HFT.out W hW)
  have ZF : Hid (∀ W, Below w6.heap.size w6 W → W.heap[w.heap.size + 1]? = _) := Lib.hid fun W hW => (hW.block (w.heap.size + 1) (lt_of_block Z16.out)).trans Z16.out
  clear hT
  by_cases hc : checkE T = 0
  case neg =>
    have HNO : Hid (¬ (checkE (exprT (.mk k i s l)) = 0 ∧ dataT (exprT (.mk k i s l)) = .mk k i s l)) := Lib.hid (by rw [HTX.out]; exact fun h => hc h.1)
    have hcb : (checkE T != 0) = true := by simpa using hc
    have hcb2 : ¬ checkE T = 0 := hc
    clear hc
    generalize checkE T = c0 at *
    refine Rg.wp_region_guard 10 (by kernel_rfl) w6.heap.size (Nat.le_refl _) (RMn (.agg #[.int .i64 tk, .string tn, .slice tan tns.length tcn, .int .i64 tck, .int .i64 tci, .string tcs, .slice tad tcl.length tcd, .slice tak tl.length tcc]) c0) RMn.mono (by kernel_rfl) ?_ ?_
    · intro i9 o9 d hiL hi hd vs W hb hR
      obtain ⟨y0, y1, y2, y3, y4, y5, y6, y7, x0, x1, x2, x3⟩ := CC.out W hb
      have HR := Lib.hid hR
      clear hR
      rcases i9 with _ | _ | _ | _ | _ | _ | _ | _ | _ | _ | i9
      all_goals simp only [List.getElem?_cons_zero, List.getElem?_cons_succ, List.getElem?_nil, Option.some.injEq, reduceCtorEq] at hi
      all_goals try subst hi
      all_goals try simp only [Option.some.injEq] at hd
      all_goals try subst hd
      all_goals try simp only [List.take_succ_cons, List.take_zero, Rg.putAll, Act.put, List.setIfInBounds_toArray, List.set_cons_zero, List.set_cons_succ, Nat.zero_add, Nat.reduceAdd]
      · refine Rg.wpOp_go rfl rfl ?_
        go_simp
        exact ⟨_, rfl, rfl, Below.refl _ _⟩
      · rw [show vs 0 = _ from (HR.out 0 (by decide) (by kernel_rfl))]
        refine Rg.wpOp_go rfl rfl ?_
        go_simp
        refine (KC.out _ hb).mono ?_
        rintro e w7 ⟨rfl, hb7⟩
        exact ⟨_, rfl, rfl, hb7⟩
      · rw [show vs 1 = _ from (HR.out 1 (by decide) (by kernel_rfl))]
        refine Rg.wpOp_go rfl rfl ?_
        go_simp
        exact ⟨_, rfl, rfl, Below.refl _ _⟩
      · rw [show vs 2 = _ from (HR.out 2 (by decide) (by kernel_rfl))]
        refine Rg.wpOp_go rfl rfl ?_
        go_simp
        exact ⟨_, rfl, rfl, Below.refl _ _⟩
      · rw [show vs 3 = _ from (HR.out 3 (by decide) (by kernel_rfl))]
        exact Rg.wpOp_skip rfl rfl ⟨_, rfl, trivial, Below.refl _ _⟩
      · rw [show vs 3 = _ from (HR.out 3 (by decide) (by kernel_rfl))]
        exact Rg.wpOp_skip rfl rfl ⟨_, rfl, trivial, Below.refl _ _⟩
      · rw [show vs 3 = _ from (HR.out 3 (by decide) (by kernel_rfl))]
        exact Rg.wpOp_skip rfl rfl ⟨_, rfl, trivial, Below.refl _ _⟩
      · rw [show vs 3 = _ from (HR.out 3 (by decide) (by kernel_rfl))]
        exact Rg.wpOp_skip rfl rfl ⟨_, rfl, trivial, Below.refl _ _⟩
      · rw [show vs 3 = _ from (HR.out 3 (by decide) (by kernel_rfl))]
        exact Rg.wpOp_skip rfl rfl ⟨_, rfl, trivial, Below.refl _ _⟩
      · rw [show vs 3 = _ from (HR.out 3 (by decide) (by kernel_rfl))]
        refine Rg.wpOp_go rfl rfl ?_
        go_simp
        exact ⟨_, rfl, rfl, Below.refl _ _⟩
    · intro vs W hBW hR
      simp only [List.take_succ_cons, List.take_zero, List.drop_succ_cons, List.drop_zero, Rg.putAll, Act.put, List.setIfInBounds_toArray, List.set_cons_zero, List.set_cons_succ, Nat.zero_add, Nat.reduceAdd]
      rw [show vs 9 = _ from hR 9 (by decide)]
      have Z17 := Lib.hid (ZF.out W hBW)
      have HB7 := Lib.hid (HB6a.out.trans (hBW.mono HB6a.out.size))
      clear hR
      obtain ⟨t0, t1, t2, t3, t4, t5, t6, t7⟩ := look8 Z17.out
      obtain ⟨g0, g1, g2, g3, g4, g5, g6, g7⟩ := free8 Z17.out
      have HZ5 := Lib.hid (put8 (v0 := .int .i64 0) (v1 := .string ⟨#[]⟩) (v2 := .slice none 0 0) (v3 := .int .i64 0) (v4 := .int .i64 0) (v5 := .string ⟨#[]⟩) (v6 := .slice none 0 0) (v7 := .slice none 0 0) Z17.out)
      have HB6 := Lib.hid (below8 HB7.out (Nat.le_succ w.heap.size) (.int .i64 0) (.string ⟨#[]⟩) (.slice none 0 0) (.int .i64 0) (.int .i64 0) (.string ⟨#[]⟩) (.slice none 0 0) (.slice none 0 0))
      go_wp2
      refine bodyPost_ret (results_row_one (P := Tryz.prog) rfl _ _ (w.heap.size + 1) 28 _ (0, 0) _ rfl HZ5.out Tryz.underlying28 rfl (by kernel_rfl)) rfl ⟨.inr ⟨HNO.out, rfl⟩, HB6.out⟩
  case pos =>
  have HC := Lib.hid hc
  rw [hc] at KC
  generalize hD : dataT T = D at *
  obtain ⟨dk, di, ds, dl⟩ := D
  have HD := Lib.hid hD
  have KD : Hid (∀ W, Below w6.heap.size w6 W → Calls Tryz.prog 20 #[.agg #[.int .i64 tk, .string tn, .slice tan tns.length tcn, .int .i64 tck, .int .i64 tci, .string tcs, .slice tad tcl.length tcd, .slice tak tl.length tcc]] W fun e w' => (∃ a c, e = .returned (.agg #[.int .i64 dk, .int .i64 di, .string ds, .slice a dl.length c]) ∧ InS w' (fun b => W.heap.size ≤ b) dl (.slice a dl.length c)) ∧ Below W.heap.size W w') := Lib.hid fun W hW => by
    rw [← HTV.out]
    refine (rdat_any T W (fun b => b < W.heap.size) _ _ _ (HFT.out W hW) (fun b h => h) (okE_of_check HC.out)).mono ?_
    rintro e w' ⟨⟨v, rfl, hv⟩, hb⟩
    rw [HD.out] at hv ⊢
    obtain ⟨_, _, _, a, c, rfl, h2⟩ := hv
    exact ⟨⟨a, c, rfl, ⟨a, c, rfl, h2⟩⟩, hb⟩
  have HOKD : Hid (ok64 dk ∧ ok64 di ∧ ds.size ≤ maxLen) := Lib.hid (by
    have := data_okay (t := T) (okE_of_check HC.out)
    rw [HD.out] at this
    exact this)
  have KE : Hid (∀ W a' c', Below w6.heap.size w6 W → InS W (fun b => w6.heap.size ≤ b) dl (.slice a' dl.length c') → Calls Tryz.prog 19 #[.agg #[.int .i64 dk, .int .i64 di, .string ds, .slice a' dl.length c'], .agg #[.int .i64 k, .int .i64 i, .string s, .slice a l.length c]] W fun e w' => e = .returned (.bool (Dat.sameB (.mk dk di ds dl) (.mk k i s l))) ∧ Below W.heap.size W w') := Lib.hid fun W a' c' hW hs => by
    have r1 : RepV W W.heap.size (.mk dk di ds dl) (.slice a' dl.length c') := InV.rep (S := fun b => w6.heap.size ≤ b) ⟨HOKD.out.1, HOKD.out.2.1, HOKD.out.2.2, hs⟩
    have r2 : RepV W W.heap.size (.mk k i s l) (.slice a l.length c) := (HV6.out.below hW).rep
    exact Dat.same_any (.mk dk di ds dl) (.mk k i s l) W W.heap.size _ _ r1 r2 (Nat.le_refl _)
  have HEQ : Hid (Dat.sameB (.mk dk di ds dl) (.mk k i s l) = true ↔ (.mk dk di ds dl : PT) = .mk k i s l) := Lib.hid (by simp [Dat.sameB])
  generalize Dat.sameB (.mk dk di ds dl) (.mk k i s l) = eqb at *
  clear hc hD
  refine Rg.wp_region_guard 10 (by kernel_rfl) w6.heap.size (Nat.le_refl _) (RMp (.agg #[.int .i64 tk, .string tn, .slice tan tns.length tcn, .int .i64 tck, .int .i64 tci, .string tcs, .slice tad tcl.length tcd, .slice tak tl.length tcc]) (.agg #[.int .i64 k, .int .i64 i, .string s, .slice a l.length c]) dk di ds dl w6.heap.size eqb) RMp.mono (by kernel_rfl) ?_ ?_
  · intro i9 o9 d hiL hi hd vs W hb hR
    obtain ⟨y0, y1, y2, y3, y4, y5, y6, y7, x0, x1, x2, x3⟩ := CC.out W hb
    have HR := Lib.hid hR
    clear hR
    rcases i9 with _ | _ | _ | _ | _ | _ | _ | _ | _ | _ | i9
    all_goals simp only [List.getElem?_cons_zero, List.getElem?_cons_succ, List.getElem?_nil, Option.some.injEq, reduceCtorEq] at hi
    all_goals try subst hi
    all_goals try simp only [Option.some.injEq] at hd
    all_goals try subst hd
    all_goals try simp only [List.take_succ_cons, List.take_zero, Rg.putAll, Act.put, List.setIfInBounds_toArray, List.set_cons_zero, List.set_cons_succ, Nat.zero_add, Nat.reduceAdd]
    · refine Rg.wpOp_go rfl rfl ?_
      go_simp
      exact ⟨_, rfl, rfl, Below.refl _ _⟩
    · rw [show vs 0 = _ from (HR.out 0 (by decide) (by kernel_rfl))]
      refine Rg.wpOp_go rfl rfl ?_
      go_simp
      refine (KC.out _ hb).mono ?_
      rintro e w7 ⟨rfl, hb7⟩
      exact ⟨_, rfl, rfl, hb7⟩
    · rw [show vs 1 = _ from (HR.out 1 (by decide) (by kernel_rfl))]
      refine Rg.wpOp_go rfl rfl ?_
      go_simp
      exact ⟨_, rfl, rfl, Below.refl _ _⟩
    · rw [show vs 2 = _ from (HR.out 2 (by decide) (by kernel_rfl))]
      refine Rg.wpOp_go rfl rfl ?_
      go_simp
      exact ⟨_, rfl, rfl, Below.refl _ _⟩
    · rw [show vs 3 = _ from (HR.out 3 (by decide) (by kernel_rfl))]
      refine Rg.wpOp_go rfl rfl ?_
      go_simp
      exact ⟨_, rfl, rfl, Below.refl _ _⟩
    · rw [show vs 3 = _ from (HR.out 3 (by decide) (by kernel_rfl))]
      rw [show vs 4 = _ from (HR.out 4 (by decide) (by kernel_rfl))]
      refine Rg.wpOp_go rfl rfl ?_
      go_simp
      refine (KD.out _ hb).mono ?_
      rintro e w7 ⟨⟨a7, c7, rfl, hd7⟩, hb7⟩
      exact ⟨_, rfl, ⟨a7, c7, rfl, hd7.move (fun b h _ => Nat.le_trans hb.size h) fun _ _ _ _ h => h⟩, hb7⟩
    · rw [show vs 3 = _ from (HR.out 3 (by decide) (by kernel_rfl))]
      refine Rg.wpOp_go rfl rfl ?_
      go_simp
      exact ⟨_, rfl, rfl, Below.refl _ _⟩
    · rw [show vs 3 = _ from (HR.out 3 (by decide) (by kernel_rfl))]
      rw [show vs 6 = _ from (HR.out 6 (by decide) (by kernel_rfl))]
      obtain ⟨a7, c7, h9, hd7⟩ := (HR.out 5 (by decide) (by kernel_rfl) : ∃ a c, vs 5 = _ ∧ _)
      rw [h9]
      refine Rg.wpOp_go rfl rfl ?_
      go_simp
      refine (KE.out _ a7 c7 hb hd7).mono ?_
      rintro e w7 ⟨rfl, hb7⟩
      exact ⟨_, rfl, rfl, hb7⟩
    · rw [show vs 3 = _ from (HR.out 3 (by decide) (by kernel_rfl))]
      rw [show vs 7 = _ from (HR.out 7 (by decide) (by kernel_rfl))]
      refine Rg.wpOp_go rfl rfl ?_
      go_simp
      exact ⟨_, rfl, rfl, Below.refl _ _⟩
    · rw [show vs 3 = _ from (HR.out 3 (by decide) (by kernel_rfl))]
      rw [show vs 8 = _ from (HR.out 8 (by decide) (by kernel_rfl))]
      refine Rg.wpOp_go rfl rfl ?_
      go_simp
      exact ⟨_, rfl, rfl, Below.refl _ _⟩
  · intro vs W hBW hR
    simp only [List.take_succ_cons, List.take_zero, List.drop_succ_cons, List.drop_zero, Rg.putAll, Act.put, List.setIfInBounds_toArray, List.set_cons_zero, List.set_cons_succ, Nat.zero_add, Nat.reduceAdd]
    rw [show vs 9 = _ from hR 9 (by decide)]
    obtain ⟨y0, y1, y2, y3, y4, y5, y6, y7, _, _, _, _⟩ := CC.out W hBW
    have Z17 := Lib.hid (ZF.out W hBW)
    have HB7 := Lib.hid (HB6a.out.trans (hBW.mono HB6a.out.size))
    clear hR
    obtain ⟨t0, t1, t2, t3, t4, t5, t6, t7⟩ := look8 Z17.out
    obtain ⟨g0, g1, g2, g3, g4, g5, g6, g7⟩ := free8 Z17.out
    cases eqb
    case false =>
      simp only [Bool.not_false]
      clear y0 y1 y2 y3 y4 y5 y6 y7
      have HNO : Hid (¬ (checkE (exprT (.mk k i s l)) = 0 ∧ dataT (exprT (.mk k i s l)) = .mk k i s l)) := Lib.hid (by rw [HTX.out, HD.out]; exact fun h => by have := HEQ.out.2 h.2; cases this)
      have HZ5 := Lib.hid (put8 (v0 := .int .i64 0) (v1 := .string ⟨#[]⟩) (v2 := .slice none 0 0) (v3 := .int .i64 0) (v4 := .int .i64 0) (v5 := .string ⟨#[]⟩) (v6 := .slice none 0 0) (v7 := .slice none 0 0) Z17.out)
      have HB6 := Lib.hid (below8 HB7.out (Nat.le_succ w.heap.size) (.int .i64 0) (.string ⟨#[]⟩) (.slice none 0 0) (.int .i64 0) (.int .i64 0) (.string ⟨#[]⟩) (.slice none 0 0) (.slice none 0 0))
      go_wp2
      refine bodyPost_ret (results_row_one (P := Tryz.prog) rfl _ _ (w.heap.size + 1) 28 _ (0, 0) _ rfl HZ5.out Tryz.underlying28 rfl (by kernel_rfl)) rfl ⟨.inr ⟨HNO.out, rfl⟩, HB6.out⟩
    case true =>
      simp only [Bool.not_true]
      have HZ5 := Lib.hid (put8 (v0 := .int .i64 tk) (v1 := .string tn) (v2 := .slice tan tns.length tcn) (v3 := .int .i64 tck) (v4 := .int .i64 tci) (v5 := .string tcs) (v6 := .slice tad tcl.length tcd) (v7 := .slice tak tl.length tcc) Z17.out)
      have HB6 := Lib.hid (below8 HB7.out (Nat.le_succ w.heap.size) (.int .i64 tk) (.string tn) (.slice tan tns.length tcn) (.int .i64 tck) (.int .i64 tci) (.string tcs) (.slice tad tcl.length tcd) (.slice tak tl.length tcc))
      have HDE := Lib.hid (HD.out.trans (HEQ.out.1 rfl))
      have HFW := Lib.hid (HF6.out.below hBW)
      go_wp2
      refine bodyPost_ret (results_row_one (P := Tryz.prog) rfl _ _ (w.heap.size + 1) 28 _ (0, 0) _ rfl HZ5.out Tryz.underlying28 rfl (by kernel_rfl)) rfl ⟨.inl ⟨by rw [HTX.out]; exact ⟨HC.out, HDE.out⟩, .slice tan tns.length tcn, .slice tad tcl.length tcd, .slice tak tl.length tcc, by rw [HTX.out, HTV.out]; rfl, by
        rw [HTX.out]
        exact HFW.out.move (fun b hb _ => hb.imp id fun h => Nat.le_trans HZS.out h) fun b o y hb hc => by rw [World.cell?_of_block (w := W) (a := ⟨b, o, none⟩) (off8 _ _ _ _ _ _ _ _ (HS6.out b hb))]; exact hc⟩, HB6.out⟩
end Go.Proofs.YtjofdlnopchaeaaGreatDoor.Core
