/-
The document's Read, in memory: its walk, where the tokens are such. No condition but the tokens'.
-/
import Derived.Test.YthfjlcflpneffaaGreatDoorF13
namespace Go.Proofs.YthfjlcflpneffaaGreatDoor
open Go.ChangeShapes Go.WideShapes Go.ChangeAt Go.RowKit
open Dat (PT makeT RepS RepV numT numsT)

theorem step_close {l1 : List Op} {o : Op} {out : List PT} {t : Tk} (h : t.kind = 1) : stepM (l1 ++ [o]).reverse out t = giveM l1.reverse out (closedM o) := by
  unfold stepM
  rw [if_neg (by omega), if_neg (by omega), if_pos h, List.reverse_append]
  rfl
theorem step_leaf {st : List Op} {out : List PT} {t : Tk} (h : 5 ≤ t.kind) : stepM st out t = giveM st out (leafD t) := by
  unfold stepM
  rw [if_neg (by omega), if_neg (by omega), if_neg (by omega)]
theorem step_push {st : List Op} {out : List PT} {t : Tk} (h : t.kind = 0 ∨ t.kind = 2 ∨ t.kind = 3) : stepM st out t = (⟨t.kind, [], -1⟩ :: st, out) := by
  unfold stepM
  rw [if_pos h]
theorem step_dot {l1 : List Op} {o : Op} {out : List PT} {t : Tk} (h : t.kind = 4) : stepM (l1 ++ [o]).reverse out t = ((l1 ++ [(⟨o.kind, o.list, (o.list.length : Int)⟩ : Op)]).reverse, out) := by
  unfold stepM
  rw [if_neg (by omega), if_pos h, List.reverse_append, List.reverse_append]
  rfl
theorem give_none {st st' : List Op} {out : List PT} {d : PT} (h : endedM st d = (st', none)) : giveM st out d = (st', out) := by
  unfold giveM; rw [h]; simp
theorem give_some {st : List Op} {out : List PT} {d x : PT} (h : endedM st d = ([], some x)) : giveM st out d = ([], out ++ [x]) := by
  unfold giveM; rw [h]; rfl
theorem leaf_eq {k : Int} {tx : List UInt8} {ti : Int} : leafD ⟨k, tx, ti⟩ = .mk (kindT k) ti ⟨tx.toArray⟩ [] := rfl
theorem kind_ok (k : Int) : Dat.ok64 (kindT k) := by
  unfold kindT
  split <;> (try split) <;> (try split) <;> (try split) <;> exact Dat.ok_small (by decide)

set_option maxRecDepth 100000 in
set_option maxHeartbeats 4000000 in
theorem rread_good (s : ByteArray) (w : World) (hs : s.size ≤ maxLen) (ts : List TkP) (hq : toksT s.data.toList = (ts, 0, 0)) :
    Calls Tryz.prog 10 #[.string s] w (GotRR s.data.toList w) := by
  have HT := Lib.hid (rtokens_any s w hs)
  rw [hq] at HT
  have HRD : Hid (readT s.data.toList = runM s.size [] [] ts) := Lib.hid (by
    unfold readT; rw [hq, if_neg (by simp)]
    have hl : s.data.toList.length = s.size := Array.length_toList
    rw [hl])
  have HL : Hid ((∀ p ∈ ts, TkFine p.t (p.b - p.a)) ∧ ts.length ≤ 2048 ∧ OkToks ts) := Lib.hid (by
    have h1 := toks_fine (l := s.data.toList) (by rw [hq])
    have h2 := toks_fit s.data.toList
    rw [hq] at h1 h2
    exact ⟨h1.1, h1.2, h2⟩)
  clear hq
  unfold maxLen at hs
  go_enter Tryz.func10, Tryz.ntmps10
  go_wp2_with fail
  refine HT.out.mono ?_
  rintro e w1 ⟨⟨v, rfl, hown⟩, hb1⟩
  obtain ⟨a0, k0, rfl⟩ := hown.shape
  have HOWN := Lib.hid hown
  have HB1 := Lib.hid hb1
  clear hown hb1 HT
  go_wp2
  go_loopw [7, 8, 9, 10] (fun _ o st i wr => ReadI s.size ts w1 o st i wr) (fun _ _ _ i _ => ts.length - (intOf i).toNat)
  case atStart =>
    refine ⟨0, [], [], w1.heap.size, 0, 0, 0, 0, Nat.zero_le _, rfl, rfl, by rw [StFit]; trivial, FitL.none (by decide), Nat.le_refl _, ?_, ?_, ?_⟩
    · exact (out_new w1 w1.heap.size (Nat.le_refl _)).moved ((Below.refl _ _).alloc (Nat.le_refl _) _)
    · have := stk_new (w1.alloc (.cells #[] 34)) w1.heap.size w1.heap.size (by rw [size_new]; omega)
      rwa [size_new] at this
    · exact ((Below.refl w1.heap.size w1).alloc (Nat.le_refl _) _).alloc (by rw [size_new]; omega) _
  case round =>
    obtain ⟨j, st, out, q, m, c, mo, co, hj, rfl, hrun, hfit, hof, hmj, hout, hstk, hbw⟩ := hrel
    obtain ⟨l, rfl⟩ : ∃ l : List Op, st = l.reverse := ⟨st.reverse, by simp⟩
    rw [List.reverse_reverse] at hstk
    by_cases hlt : j < ts.length
    · have hcell : ∃ g0 : Nat, a0 = some ⟨g0, 0, none⟩ ∧ ts.length ≤ k0 ∧ k0 ≤ maxLen ∧ ∀ W, Below w1.heap.size w1 W →
          W.cell? ⟨g0, j * 5, none⟩ = some (.int .i64 ts[j].t.kind) ∧ W.cell? ⟨g0, j * 5 + 1, none⟩ = some (.string ⟨ts[j].t.text.toArray⟩) ∧ W.cell? ⟨g0, j * 5 + 2, none⟩ = some (.int .i64 ts[j].t.int) ∧ W.cell? ⟨g0, j * 5 + 3, none⟩ = some (.int .i64 (ts[j].a : Int)) ∧ W.cell? ⟨g0, j * 5 + 4, none⟩ = some (.int .i64 (ts[j].b : Int)) := by
        rcases HOWN.out.2 with ⟨_, h0⟩ | ⟨g0, cap, cur, e, _, hg, h1, h2, _⟩
        · omega
        · cases e
          refine ⟨g0, rfl, h1, h2, fun W hW => ?_⟩
          have hc : ∀ (i : Nat) x, (cellsOf ts)[i]? = some x → W.cell? ⟨g0, 0 + i, none⟩ = some x := fun i x hi => by
            have h3 := HOWN.out.cells (g := g0) rfl i x hi
            rw [add_plain] at h3
            rw [World.cell?_of_block (w := w1) (a := ⟨g0, 0 + i, none⟩) (hW.block g0 (lt_of_block hg))]
            exact h3
          have := cells_item hc j hlt
          simpa only [Nat.zero_add] using this
      obtain ⟨g0, rfl, hk0, hk1, hcell⟩ := hcell
      unfold maxLen at hk1
      have hdrop : ts.drop j = ts[j] :: ts.drop (j + 1) := List.drop_eq_getElem_cons hlt
      have hrun2 : runM s.size [] [] ts = runM s.size l.reverse out (ts[j] :: ts.drop (j + 1)) := by rw [hrun, hdrop]
      have hfine := HL.out.1 ts[j] (List.getElem_mem hlt)
      have HOK := Lib.hid (HL.out.2.2 ts[j] (List.getElem_mem hlt))
      obtain ⟨t0, t1, t2, t3, t4⟩ := hcell wr hbw
      have hmm : m ≤ 2048 := by have := HL.out.2.1; omega
      have hmo : mo ≤ 2048 := by have := HL.out.2.1; omega
      obtain ⟨g, cap, rfl⟩ := hstk.shape
      obtain ⟨capo, curo, rfl, hnq, -⟩ := hout.block
      clear curo
      clear hcell hdrop hrun
      have hts : ts.length ≤ 2048 := HL.out.2.1
      clear HL
      generalize ts[j] = T at *
      obtain ⟨⟨kd, tx, ti⟩, ta, tb⟩ := T
      simp only at t0 t1 t2 t3 t4 hfine
      have hk : 0 ≤ kd ∧ kd ≤ 9 := by
        have h := hfine.2
        simp only at h
        omega
      have hgw : g0 < wr.heap.size := World.block_lt_of_cell? _ _ t0
      have hqw : q < wr.heap.size := by
        obtain ⟨_, _, _, _, h2, _⟩ := hout.block
        exact lt_of_block h2
      have HMAY := Lib.hid (fun W (h : Below wr.heap.size wr W) => may_any l wr w1.heap.size q g cap hstk m c hfit hmm kd hk ⟨tx.toArray⟩ ti ta tb W h)
      have HST := Lib.hid hstk
      have HOUT := Lib.hid hout
      have HFIT := Lib.hid hfit
      have HOF := Lib.hid hof
      have HBW := Lib.hid hbw
      have HBA := Lib.hid (fun (o : Obj) => (Below.refl wr.heap.size wr).alloc (Nat.le_refl _) o)
      have HNB := Lib.hid (fun (o : Obj) => heap_alloc_new wr o)
      clear hstk hout hfit hof hbw
      by_cases hm : mayM l.reverse kd = 0
      · rw [hm] at HMAY
        have HFIN : Hid (∀ l2 out2 q2 vo vs W, stepM l.reverse out ⟨kd, tx, ti⟩ = (l2.reverse, out2) → OutOwn W w1.heap.size q2 out2 vo → StkOwn W w1.heap.size q2 l2 vs → Below w1.heap.size w1 W → ReadI s.size ts w1 vo vs (.int .i64 ((j : Int) + 1)) W) := Lib.hid (by
          intro l2 out2 q2 vo vs W hstep h1 h2 h3
          obtain ⟨m1, c1, m2, c2, f1, f2, f3⟩ := step_fit (n := tb - ta) (by exact hfine) HFIT.out HOF.out (by exact hm)
          rw [hstep] at f2 f3
          refine ⟨j + 1, l2.reverse, out2, q2, m1, c1, m2, c2, by omega, rfl, ?_, f2, f3, by omega, h1, by rw [List.reverse_reverse]; exact h2, h3⟩
          rw [hrun2, run_next hm, hstep])
        have HM := Lib.hid hm
        clear hm hrun2 hfine
        go_wp2_with fail
        refine (HMAY.out _ (HBA.out _)).mono ?_
        rintro e w2 ⟨rfl, hb2⟩
        have hB2 : Below wr.heap.size wr w2 := (HBA.out _).trans (hb2.mono (by rw [size_new]; omega))
        have hT2 := (hb2.block wr.heap.size (by rw [size_new]; omega)).trans (HNB.out _)
        have ha0 : w2.cell? ⟨wr.heap.size, 0, none⟩ = some (.int .i64 kd) := by rw [Lib.cell_of_heap hT2]; rfl
        have hbt : wr.heap.size < w2.heap.size := lt_of_block hT2
        have hqw2 : q < w2.heap.size := by omega
        have HO2 := Lib.hid (HOUT.out.moved hB2)
        have HS2 := Lib.hid (HST.out.moved hB2)
        have HBW2 := Lib.hid (HBW.out.trans (hB2.mono HBW.out.size))
        have hnw : w1.heap.size ≤ wr.heap.size := HBW.out.size
        have HT2 := Lib.hid hT2
        clear hb2 hB2 hT2 HMAY HST HOUT HBW HBA HNB t0 t1 t2 t3 t4 hgw hqw
        generalize wr.heap.size = bt at *
        clear wr
        have HB3 := Lib.hid (fun (o : Obj) => (Below.refl w2.heap.size w2).alloc (Nat.le_refl _) o)
        have HT3 := Lib.hid (fun (o : Obj) => (Lib.alloc_old w2 o bt hbt).trans HT2.out)
        have HD3 := Lib.hid (fun (o : Obj) => heap_alloc_new w2 o)
        have HO3 := Lib.hid (fun (o : Obj) => HO2.out.moved (HB3.out o))
        have HS3 := Lib.hid (fun (o : Obj) => HS2.out.moved (HB3.out o))
        have HBW3 := Lib.hid (fun (o : Obj) => HBW2.out.trans ((HB3.out o).mono HBW2.out.size))
        clear HB3
        rcases (show (kd = 0 ∨ kd = 2 ∨ kd = 3) ∨ kd = 4 ∨ (kd = 1 ∨ 5 ≤ kd) by omega) with hp | hp | hp
        · have HC0 := Lib.hid (fun (o : Obj) W (hW : Below (w2.alloc o).heap.size (w2.alloc o) W) => show W.cell? ⟨bt, 0, none⟩ = some (.int .i64 kd) from by
            rw [World.cell?_of_block (w := w2.alloc o) (a := ⟨bt, 0, none⟩) (hW.block bt (lt_of_block (HT3.out o))), Lib.cell_of_heap (HT3.out o)]; rfl)
          have HLL : Hid (l.length ≤ 32) := Lib.hid (by have := (st_nums HFIT.out).1; simpa using this)
          have HPUSH : Hid (stepM l.reverse out ⟨kd, tx, ti⟩ = ((l ++ [(⟨kd, [], -1⟩ : Op)]).reverse, out)) := Lib.hid (by rw [step_push (by exact hp)]; simp)
          rcases hp with rfl | rfl | rfl
          all_goals
            go_wp2
            have HO4 := Lib.hid (HO3.out (.cells #[.int .i64 0, .int .i64 0, .string ⟨#[]⟩, .slice none 0 0] 34))
            have HS4 := Lib.hid (HS3.out (.cells #[.int .i64 0, .int .i64 0, .string ⟨#[]⟩, .slice none 0 0] 34))
            have HBW4 := Lib.hid (HBW3.out (.cells #[.int .i64 0, .int .i64 0, .string ⟨#[]⟩, .slice none 0 0] 34))
            have CLT := Lib.hid (HC0.out (.cells #[.int .i64 0, .int .i64 0, .string ⟨#[]⟩, .slice none 0 0] 34))
            have hbt3 := lt_of_block (HT3.out (.cells #[.int .i64 0, .int .i64 0, .string ⟨#[]⟩, .slice none 0 0] 34))
            clear HT3 HD3 HO3 HS3 HBW3 HC0
            generalize w2.alloc (.cells #[.int .i64 0, .int .i64 0, .string ⟨#[]⟩, .slice none 0 0] 34) = w3 at hbt3 CLT HO4 HS4 HBW4 ⊢
            have hn3 : w1.heap.size ≤ w3.heap.size := HBW4.out.size
            have c0 := CLT.out w3 (Below.refl _ _)
            obtain ⟨ys, hys, hyc⟩ := stk_cells HS4.out
            have YS := Lib.hid (fun W (hW : Below w3.heap.size w3 W) => And.intro (OpX.imp (fun m u hm => ins_below hm hW) hys) (fun i u (hi : ys[i]? = some u) => (World.cell?_of_block (w := w3) (a := (⟨g, 0, none⟩ : Addr).add i) (hW.block ((⟨g, 0, none⟩ : Addr).add i).block (World.block_lt_of_cell? _ _ (hyc i u hi)))).trans (hyc i u hi)))
            clear hys hyc ha0
            have Q0 := Lib.hid (((Below.refl w3.heap.size w3).alloc (Nat.le_refl _) (.cells #[] 55)).drew)
            have Q01 := Lib.hid (fun x => (((Below.refl w3.heap.size w3).alloc (Nat.le_refl _) (.cells #[] 55)).alloc (by rw [size_new]; omega) x).drew)
            have Q10 := Lib.hid (fun x => (((Below.refl w3.heap.size w3).alloc (Nat.le_refl _) x).alloc (by rw [size_new]; omega) (.cells #[] 55)).drew)
            have hn1 : ([] : List Op).length + l.length ≤ 1000000 := by have := HLL.out; simp; omega
            have hn2 : ∀ x : Op, l.length + [x].length ≤ 1000000 := fun x => by have := HLL.out; simp; omega
            have NS0 := Lib.hid ((stk_new w3 w3.heap.size q (Nat.le_refl _)).moved ((Below.refl (w3.alloc (.cells #[] 55)).heap.size _).drew))
            have NS01 := Lib.hid (fun x => (stk_new w3 w3.heap.size q (Nat.le_refl _)).moved (((Below.refl (w3.alloc (.cells #[] 55)).heap.size _).alloc (Nat.le_refl _) x).drew))
            have NS10 := Lib.hid (fun x => by
              have h := (stk_new (w3.alloc x) w3.heap.size q (by rw [size_new]; omega)).moved ((Below.refl ((w3.alloc x).alloc (.cells #[] 55)).heap.size _).drew)
              rwa [size_new] at h)
            have N01 := Lib.hid (fun x => new2 w3 (.cells #[] 55) x)
            have N11 := Lib.hid (fun x => blk_skip' (o := (.cells #[] 55)) (heap_alloc_new w3 x))
            go_region_law (first
              | (refine step_append_stk (w := ((w3.alloc (.cells #[] 55)).alloc (.cells #[.int .i64 _, .slice none 0 0, .int .i64 (-1)] 55)).drew) rfl _ _ rfl w3.heap.size q [] l (.slice (some ⟨w3.heap.size, 0, none⟩) 0 0) rfl (NS01.out _) ⟨g, 0, none⟩ cap ys rfl (YS.out _ (Q01.out _)).1 (YS.out _ (Q01.out _)).2 hn1 (Q01.out _).size ?_
                 intro v7 w7 o7 hb7 hk7
                 have B7 := (Q01.out _).trans hb7
                 rw [List.nil_append] at o7
                 obtain ⟨g7, c7, rfl⟩ := o7.shape
                 have hz7 : w3.heap.size ≤ w7.heap.size := B7.size
                 have cc7 := CLT.out _ B7
                 have T7 := (hk7 (w3.heap.size + 1) (by show w3.heap.size + 1 < ((w3.alloc _).alloc _).heap.size; rw [size_new, size_new]; omega) (by simp [Value.ownBlock])).trans (N01.out _))
              | (refine step_append_stk (w := ((w3.alloc (.cells #[.int .i64 _, .slice none 0 0, .int .i64 (-1)] 55)).alloc (.cells #[] 55)).drew) rfl _ _ rfl w3.heap.size q [] l (.slice (some ⟨w3.heap.size + 1, 0, none⟩) 0 0) rfl (NS10.out _) ⟨g, 0, none⟩ cap ys rfl (YS.out _ (Q10.out _)).1 (YS.out _ (Q10.out _)).2 hn1 (Q10.out _).size ?_
                 intro v7 w7 o7 hb7 hk7
                 have B7 := (Q10.out _).trans hb7
                 rw [List.nil_append] at o7
                 obtain ⟨g7, c7, rfl⟩ := o7.shape
                 have hz7 : w3.heap.size ≤ w7.heap.size := B7.size
                 have cc7 := CLT.out _ B7
                 have T7 := (hk7 w3.heap.size (by show w3.heap.size < ((w3.alloc _).alloc _).heap.size; rw [size_new, size_new]; omega) (by simp [Value.ownBlock])).trans (N11.out _))
              | (refine step_append_stk (w := (w3.alloc (.cells #[] 55)).drew) rfl _ _ rfl w3.heap.size q [] l (.slice (some ⟨w3.heap.size, 0, none⟩) 0 0) rfl NS0.out ⟨g, 0, none⟩ cap ys rfl (YS.out _ Q0.out).1 (YS.out _ Q0.out).2 hn1 Q0.out.size ?_
                 intro v7 w7 o7 hb7 hk7
                 have B7 := Q0.out.trans hb7
                 rw [List.nil_append] at o7
                 obtain ⟨g7, c7, rfl⟩ := o7.shape
                 have hz7 : w3.heap.size ≤ w7.heap.size := B7.size
                 have cc7 := CLT.out _ B7)
              | (refine step_append_stk (w := w7) rfl _ _ rfl w3.heap.size q l [⟨_, [], -1⟩] (.slice (some ⟨g7, 0, none⟩) l.length c7) rfl o7 ⟨_, 0, none⟩ 1 _ rfl (op_one _ (Dat.ok_small (by decide)) T7).1 (op_one (S := (· ≠ q)) _ (Dat.ok_small (by decide)) T7).2 (hn2 _) hz7 ?_
                 intro v8 w8 o8 hb8 hk8
                 have B8 := B7.trans hb8
                 obtain ⟨g8, c8, rfl⟩ := o8.shape
                 have cc8 := CLT.out _ B8)
              | (refine step_append_stk (w := w7.alloc (.cells #[.int .i64 _, .slice none 0 0, .int .i64 (-1)] 55)) rfl _ _ rfl w3.heap.size q l [⟨_, [], -1⟩] (.slice (some ⟨g7, 0, none⟩) l.length c7) rfl (o7.moved ((Below.refl w7.heap.size w7).alloc (Nat.le_refl _) _)) ⟨_, 0, none⟩ 1 _ rfl (op_one _ (Dat.ok_small (by decide)) (heap_alloc_new w7 _)).1 (op_one (S := (· ≠ q)) _ (Dat.ok_small (by decide)) (heap_alloc_new w7 _)).2 (hn2 _) (by rw [size_new]; omega) ?_
                 intro v8 w8 o8 hb8 hk8
                 have B8 := (bel_alloc' B7 _).trans hb8
                 obtain ⟨g8, c8, rfl⟩ := o8.shape
                 have cc8 := CLT.out _ B8))
            all_goals
              have HR := Lib.hid (HFIN.out _ _ q _ _ _ HPUSH.out (HO4.out.moved B8) (o8.le hn3) (HBW4.out.trans (B8.mono hn3)))
              clear o8 B8 hb8 hk8
              go_wp2
              go_roundw
              case rel =>
                have h := HR.out
                rw [List.length_append, List.length_singleton] at h
                exact h
              case measure => simp [intOf]; omega
        · subst hp
          rcases snoc_cases l with rfl | ⟨l1, o, rfl⟩
          · have := HM.out; simp [mayM, topM] at this
          · have hlen : (l1 ++ [o]).length = l1.length + 1 := by simp
            have hnm : o.kind = 0 ∧ o.list.length ≤ 4096 ∧ l1.length ≤ 32 := by
              obtain ⟨h1, h2⟩ := st_nums HFIT.out
              have h3 := h2 o (by simp)
              have h4 := HM.out
              rw [List.reverse_append] at h4
              unfold mayM topM at h4
              rw [if_neg (by decide), if_pos rfl] at h4
              split at h4
              · cases h4
              · rename_i hno
                simp at hno
                simp at h1
                exact ⟨hno.1, by omega, by omega⟩
            have HDOT : Hid (stepM (l1 ++ [o]).reverse out ⟨4, tx, ti⟩ = ((l1 ++ [(⟨o.kind, o.list, (o.list.length : Int)⟩ : Op)]).reverse, out)) := Lib.hid (step_dot rfl)
            have HS4 := Lib.hid (HS3.out (.cells #[.int .i64 0, .int .i64 0, .string ⟨#[]⟩, .slice none 0 0] 34))
            have HO4 := Lib.hid (HO3.out (.cells #[.int .i64 0, .int .i64 0, .string ⟨#[]⟩, .slice none 0 0] 34))
            have HBW4 := Lib.hid (HBW3.out (.cells #[.int .i64 0, .int .i64 0, .string ⟨#[]⟩, .slice none 0 0] 34))
            have hcap : l1.length + 1 ≤ cap ∧ cap ≤ maxLen := by
              obtain ⟨g', cap', cur, e1, _, _, h3, h4, _⟩ := HS2.out
              cases e1
              rw [hlen] at h3
              exact ⟨h3, h4⟩
            obtain ⟨vo, s0, s1, s2, s3, s4⟩ := stk_top HS4.out (l1 := l1) (o := o) (l2 := []) (by simp)
            obtain ⟨ao, co, rfl, _⟩ := s3
            have s5 : (w2.alloc (.cells #[.int .i64 0, .int .i64 0, .string ⟨#[]⟩, .slice none 0 0] 34)).frozen? ⟨g, l1.length * 3 + 2, none⟩ = false := by
              obtain ⟨g', cap', cur, e1, _, h2, _⟩ := HS4.out
              cases e1
              exact Lib.frozen_of_heap h2 _
            have hgo := out_apart HO4.out HS4.out
            have h1 : (l1.length : Int) < (l1.length : Int) + 1 := by omega
            have h2 : (l1.length : Int) + 1 ≤ (cap : Int) := by omega
            have h3 : (l1.length : Int) ≤ 32 := by omega
            have h4 : (o.list.length : Int) ≤ 4096 := by omega
            have hcm : (cap : Int) ≤ 2 ^ 63 - 1 := by have := hcap.2; unfold maxLen at this; omega
            have HNM := Lib.hid hnm
            clear hnm hcap HO3 HS3 HBW3 HT3 HD3
            rw [hlen]
            clear hlen
            go_wp2
            obtain ⟨d1, d2, d3⟩ := stk_dot HS4.out (o.list.length : Int) (by have := HNM.out.2.1; unfold Dat.ok64; omega)
            have HR := HFIN.out _ _ q _ _ _ HDOT.out (HO4.out.kept (Below.heap_setCell _ _ _ _ (by show q ≠ g; exact hgo)) d3) d1 (HBW4.out.trans d2)
            rw [List.length_append, List.length_singleton] at HR
            exact ⟨HR, by simp [intOf]; omega⟩
        · have hnums := st_nums HFIT.out
          rcases hp with rfl | h5
          · rcases snoc_cases l with rfl | ⟨l1, o, rfl⟩
            · have := HM.out; simp [mayM, topM] at this
            · have hlen : (l1 ++ [o]).length = l1.length + 1 := by simp
              have hnm : (o.kind = 0 ∨ o.kind = 2 ∨ o.kind = 3) ∧ (0 ≤ o.dot → o.kind = 0 ∧ (o.list.length : Int) = o.dot + 1) ∧ numsT o.list ≤ 10000 ∧ l1.length ≤ 32 := by
                obtain ⟨h1, h2⟩ := hnums
                have h3 := h2 o (by simp)
                have h4 := HM.out
                rw [List.reverse_append] at h4
                unfold mayM topM at h4
                rw [if_pos rfl] at h4
                split at h4
                · cases h4
                · rename_i hno
                  simp at h1
                  refine ⟨h3.1, fun hd => ⟨h3.2.2.2.2 hd, ?_⟩, by omega, by omega⟩
                  have h6 : ¬ (0 ≤ o.dot ∧ fullB o = false) := fun e => hno (.inr (.inr e))
                  have h7 : fullB o = true := by
                    cases hb : fullB o with
                    | true => rfl
                    | false => exact absurd ⟨hd, hb⟩ h6
                  unfold fullB at h7
                  simp only [Bool.and_eq_true, decide_eq_true_eq] at h7
                  exact h7.2
              have HCL : Hid (stepM (l1 ++ [o]).reverse out ⟨1, tx, ti⟩ = giveM l1.reverse out (closedM o)) := Lib.hid (step_close rfl)
              have HBD := Lib.hid ((Below.refl w2.heap.size w2).alloc (Nat.le_refl _) (.cells #[.int .i64 0, .int .i64 0, .string ⟨#[]⟩, .slice none 0 0] 34))
              have HD4 := Lib.hid (HD3.out (.cells #[.int .i64 0, .int .i64 0, .string ⟨#[]⟩, .slice none 0 0] 34))
              have HL0 : Hid (l1.length ≤ 32 ∧ ∀ o ∈ l1, o.list.length ≤ 5000) := Lib.hid ⟨hnm.2.2.2, fun p hp => by have := (hnums.2 p (by simp [hp])).2.2.1; omega⟩
              have hcap : l1.length + 1 ≤ cap ∧ cap ≤ maxLen := by
                obtain ⟨g', cap', cur, e1, _, _, h3, h4, _⟩ := HS2.out
                cases e1
                rw [hlen] at h3
                exact ⟨h3, h4⟩
              obtain ⟨vo, s0, s1, s2, s3, s4⟩ := stk_top HS2.out (l1 := l1) (o := o) (l2 := []) (by simp)
              obtain ⟨ao, co, rfl, -⟩ := id s3
              have hv4 : InS (w2.alloc (.cells #[.int .i64 0, .int .i64 0, .string ⟨#[]⟩, .slice none 0 0] 34)) (fun b => b ≠ q ∧ b ≠ w2.heap.size) o.list (.slice ao o.list.length co) :=
                s3.move (fun b hb hlt => ⟨hb, by omega⟩) (fun b o' u _ hc => by
                  rw [World.cell?_of_block (w := w2) (a := ⟨b, o', none⟩) (Lib.alloc_old _ _ _ (World.block_lt_of_cell? _ _ hc))]; exact hc)
              have KC := Lib.hid (closed_any o ao co _ (fun b => b ≠ q ∧ b ≠ w2.heap.size) (fun b hb => by rw [size_new] at hb; exact ⟨by omega, by omega⟩) hv4 hnm.1 hnm.2.1 hnm.2.2.1)
              have hgw2 : g < w2.heap.size := World.block_lt_of_cell? _ _ s0
              have h1 : (l1.length : Int) < (l1.length : Int) + 1 := by omega
              have h2 : (l1.length : Int) + 1 ≤ (cap : Int) := by omega
              have h3 : (l1.length : Int) ≤ 32 := by omega
              have h4 : (l1.length : Int) ≤ (cap : Int) := by omega
              have h5 : l1.length ≤ cap := by omega
              have hcm : (cap : Int) ≤ 2 ^ 63 - 1 := by have := hcap.2; unfold maxLen at this; omega
              clear hnm hcap HO3 HS3 HBW3 HT3 HD3 s3 s4 hnums hv4
              rw [hlen]
              clear hlen
              go_wp2_with fail
              refine (KC.out _ (Below.refl _ _)).mono ?_
              rintro e w5 ⟨⟨rk, ri, rs, rl, x, hce, rfl, ko⟩, hb5⟩
              have HX5 := Lib.hid ko
              obtain ⟨ax, cx, rfl, -⟩ := ko.2.2.2
              have hd5 := (hb5.block w2.heap.size (by rw [size_new]; omega)).trans HD4.out
              have HD5 := Lib.hid hd5
              have HB5 := Lib.hid (HBD.out.trans (hb5.mono (by rw [size_new]; omega)))
              have f0 := Lib.frozen_of_heap hd5 0
              have f1 := Lib.frozen_of_heap hd5 1
              have f2 := Lib.frozen_of_heap hd5 2
              have f3 := Lib.frozen_of_heap hd5 3
              have g0' : w5.cell? ⟨w2.heap.size, 0, none⟩ = some (.int .i64 0) := by rw [Lib.cell_of_heap hd5]; rfl
              have g1' : w5.cell? ⟨w2.heap.size, 1, none⟩ = some (.int .i64 0) := by rw [Lib.cell_of_heap hd5]; rfl
              have g2' : w5.cell? ⟨w2.heap.size, 2, none⟩ = some (.string ⟨#[]⟩) := by rw [Lib.cell_of_heap hd5]; rfl
              have g3' : w5.cell? ⟨w2.heap.size, 3, none⟩ = some (.slice none 0 0) := by rw [Lib.cell_of_heap hd5]; rfl
              have HCE : Hid (stepM (l1 ++ [o]).reverse out ⟨1, tx, ti⟩ = giveM l1.reverse out (.mk rk ri rs rl)) := Lib.hid (by rw [HCL.out, hce])
              clear hb5 ko hd5 hce HCL KC s0 s1 s2
              go_wp2_with fail
              have hrow := Dat.row_set4 HD5.out (.int .i64 rk) (.int .i64 ri) (.string rs) (.slice ax rl.length cx)
              have hle : w2.heap.size ≤ w2.heap.size := Nat.le_refl _
              have hb6 := (((HB5.out.setCell (p := ⟨w2.heap.size, 0, none⟩) hle (.int .i64 rk)).setCell (p := ⟨w2.heap.size, 1, none⟩) hle (.int .i64 ri)).setCell (p := ⟨w2.heap.size, 2, none⟩) hle (.string rs)).setCell (p := ⟨w2.heap.size, 3, none⟩) hle (.slice ax rl.length cx)
              have hx6 : InS ((((w5.setCell ⟨w2.heap.size, 0, none⟩ (.int .i64 rk)).setCell ⟨w2.heap.size, 1, none⟩ (.int .i64 ri)).setCell ⟨w2.heap.size, 2, none⟩ (.string rs)).setCell ⟨w2.heap.size, 3, none⟩ (.slice ax rl.length cx)) (· ≠ q) rl (.slice ax rl.length cx) :=
                HX5.out.2.2.2.move (fun b hb _ => hb.1) (fun b o' u hb hc => by
                  refine (World.cell?_of_block (w := w5) (a := ⟨b, o', none⟩) ?_).trans hc
                  rw [Below.heap_setCell _ _ _ _ (by show b ≠ _; exact hb.2), Below.heap_setCell _ _ _ _ (by show b ≠ _; exact hb.2), Below.heap_setCell _ _ _ _ (by show b ≠ _; exact hb.2), Below.heap_setCell _ _ _ _ (by show b ≠ _; exact hb.2)])
              have HS6 := Lib.hid ((HS2.out.moved hb6).front (l1 := l1) (r := [o]) rfl)
              have HO6 := Lib.hid (HO2.out.moved hb6)
              have HX := Lib.hid (And.intro HX5.out.1 (And.intro HX5.out.2.1 (And.intro HX5.out.2.2.1 hx6)))
              have HB6 := Lib.hid (HBW2.out.trans (hb6.mono HBW2.out.size))
              have HQ6 := Lib.hid (Nat.lt_of_lt_of_le hqw2 hb6.size)
              have HG := HCE
              clear hrow hle hb6 hx6 HX5 HD5 HB5 f0 f1 f2 f3 g0' g1' g2' g3' HCE
              generalize ((((w5.setCell ⟨w2.heap.size, 0, none⟩ (.int .i64 rk)).setCell ⟨w2.heap.size, 1, none⟩ (.int .i64 ri)).setCell ⟨w2.heap.size, 2, none⟩ (.string rs)).setCell ⟨w2.heap.size, 3, none⟩ (.slice ax rl.length cx)) = w6 at HS6 HO6 HX HB6 HQ6 ⊢
              have KE := Lib.hid (ended_mem l1 w1.heap.size q (.slice (some ⟨g, 0, none⟩) l1.length cap) rk ri rs rl (.slice ax rl.length cx) w6 HS6.out HX.out HQ6.out HL0.out.1 HL0.out.2 HB6.out.size)
              refine KE.out.mono ?_
              rintro e w7 ⟨hge, hb7, hk7⟩
              have hcell := HS6.out
              obtain ⟨gg, capg, curg, eg, hg1, hg2, _, _, _, hg6, _⟩ := hcell
              cases eg
              have hgq := out_apart HO6.out HS6.out
              have HO7 := Lib.hid (HO6.out.far hg2 hg6 hgq (fun b hb hne => hk7 b hb (by simpa [Value.ownBlock] using fun e => hne e.symm)))
              have HB7 := Lib.hid (HB6.out.trans hb7)
              clear hg1 hg2 hg6 hgq hk7 hb7 KE
              rcases hge with ⟨l7, v7, hen, hs7, rfl⟩ | ⟨v7, k7, i7, s7, m7, x7, hen, hs7, hd7, rfl⟩
              · have HG7 : Hid (stepM (l1 ++ [o]).reverse out ⟨1, tx, ti⟩ = (l7.reverse, out)) := Lib.hid (by rw [HG.out]; exact give_none hen)
                obtain ⟨g7, c7, rfl⟩ := hs7.shape
                have HS7 := Lib.hid hs7
                clear hen hs7
                go_wp2
                go_roundw
                case rel =>
                  have hba := (Below.refl w7.heap.size w7).alloc (Nat.le_refl _) (.cells #[.int .i64 0, .int .i64 0, .string ⟨#[]⟩, .slice none 0 0] 34)
                  exact HFIN.out _ _ q _ _ _ HG7.out (HO7.out.moved hba) (HS7.out.moved hba) (HB7.out.trans (hba.mono HB7.out.size))
                case measure => simp [intOf]; omega
              · have HG7 : Hid (stepM (l1 ++ [o]).reverse out ⟨1, tx, ti⟩ = (([] : List Op).reverse, out ++ [.mk k7 i7 s7 m7])) := Lib.hid (by rw [HG.out]; exact give_some hen)
                obtain ⟨g7, c7, rfl⟩ := hs7.shape
                have HS7 := Lib.hid hs7
                have HD7 := Lib.hid hd7
                obtain ⟨ax7, cx7, rfl, -⟩ := hd7.2.2.2
                clear hen hs7 hd7
                have HN7 := Lib.hid (new2 w7 (.cells #[.int .i64 k7, .int .i64 i7, .string s7, .slice ax7 m7.length cx7] 34) (.cells #[.int .i64 k7, .int .i64 i7, .string s7, .slice ax7 m7.length cx7] 34))
                have HBA7 := Lib.hid (((Below.refl w7.heap.size w7).alloc (Nat.le_refl _) (.cells #[.int .i64 k7, .int .i64 i7, .string s7, .slice ax7 m7.length cx7] 34)).alloc (by rw [size_new]; omega) (.cells #[.int .i64 k7, .int .i64 i7, .string s7, .slice ax7 m7.length cx7] 34))
                have hol : out.length ≤ 100000 := by have := fitL_len HOF.out; omega
                go_wp2_with (at_builtin; refine wpList_append_out rfl _ _ rfl w1.heap.size q out _ rfl (HO7.out.moved HBA7.out) (w7.heap.size + 1) k7 i7 s7 m7 _ rfl HN7.out HD7.out.1 HD7.out.2.1 HD7.out.2.2.1 (ins_below HD7.out.2.2.2 HBA7.out) hol (Nat.le_trans HB7.out.size HBA7.out.size) ?_)
                intro q9 v9 w9 ho9 hq9 hb9 hk9
                obtain ⟨cap9, cur9, rfl, -⟩ := ho9.block
                clear cur9
                have hs9 := stk_empty (w' := w9) (r := q9) (HS7.out.moved HBA7.out) (fun b hb => by
                  simp only [Value.ownBlock, Option.some.injEq] at hb
                  subst hb
                  exact hk9 g7 (by
                    obtain ⟨g', cap', cur, e1, _, h2, _⟩ := HS7.out.moved HBA7.out
                    cases e1
                    have h3 := lt_of_block h2
                    rw [size_new, size_new] at h3
                    exact h3) (fun e => out_apart (HO7.out.moved HBA7.out) (HS7.out.moved HBA7.out) e.symm))
                have HR := Lib.hid (HFIN.out [] _ q9 _ _ _ HG7.out ho9 hs9 ((HB7.out.trans (HBA7.out.mono HB7.out.size)).trans hb9))
                clear ho9 hq9 hb9 hk9 hs9
                go_wp2
                go_roundw
                case rel =>
                  exact HR.out
                case measure => simp [intOf]; omega
          · have hst32 : l.length ≤ 32 := by simpa using hnums.1
            have HL0 : Hid (l.length ≤ 32 ∧ ∀ o ∈ l, o.list.length ≤ 5000) := Lib.hid ⟨hst32, fun p hp => by have := (hnums.2 p (by simp [hp])).2.2.1; omega⟩
            have HCL : Hid (stepM l.reverse out ⟨kd, tx, ti⟩ = giveM l.reverse out (.mk (kindT kd) ti ⟨tx.toArray⟩ [])) := Lib.hid (by rw [step_leaf (by exact h5)]; rfl)
            have HBD := Lib.hid ((Below.refl w2.heap.size w2).alloc (Nat.le_refl _) (.cells #[.int .i64 0, .int .i64 0, .string ⟨#[]⟩, .slice none 0 0] 34))
            have HD4 := Lib.hid (HD3.out (.cells #[.int .i64 0, .int .i64 0, .string ⟨#[]⟩, .slice none 0 0] 34))
            have ha1 : w2.cell? ⟨bt, 1, none⟩ = some (.string ⟨tx.toArray⟩) := by rw [Lib.cell_of_heap HT2.out]; rfl
            have ha2 : w2.cell? ⟨bt, 2, none⟩ = some (.int .i64 ti) := by rw [Lib.cell_of_heap HT2.out]; rfl
            have ha3 : w2.cell? ⟨bt, 3, none⟩ = some (.int .i64 (ta : Int)) := by rw [Lib.cell_of_heap HT2.out]; rfl
            have ha4 : w2.cell? ⟨bt, 4, none⟩ = some (.int .i64 (tb : Int)) := by rw [Lib.cell_of_heap HT2.out]; rfl
            have KC := Lib.hid (one_mem kd ⟨h5, hk.2⟩ ⟨tx.toArray⟩ ti ta tb)
            have HKO := Lib.hid (kind_ok kd)
            have b0 : (kd == 0) = false := by simp; omega
            have b1 : (kd == 1) = false := by simp; omega
            have b2 : (kd == 2) = false := by simp; omega
            have b3 : (kd == 3) = false := by simp; omega
            have b4 : (kd == 4) = false := by simp; omega
            clear HO3 HS3 HBW3 HT3 HD3 hnums h5 hst32
            go_wp2_with fail
            refine (KC.out _).mono ?_
            rintro e w5 ⟨rfl, hb5⟩
            have hd5 := (hb5.block w2.heap.size (by rw [size_new]; omega)).trans HD4.out
            have HD5 := Lib.hid hd5
            have HB5 := Lib.hid (HBD.out.trans (hb5.mono (by rw [size_new]; omega)))
            have f0 := Lib.frozen_of_heap hd5 0
            have f1 := Lib.frozen_of_heap hd5 1
            have f2 := Lib.frozen_of_heap hd5 2
            have f3 := Lib.frozen_of_heap hd5 3
            have g0' : w5.cell? ⟨w2.heap.size, 0, none⟩ = some (.int .i64 0) := by rw [Lib.cell_of_heap hd5]; rfl
            have g1' : w5.cell? ⟨w2.heap.size, 1, none⟩ = some (.int .i64 0) := by rw [Lib.cell_of_heap hd5]; rfl
            have g2' : w5.cell? ⟨w2.heap.size, 2, none⟩ = some (.string ⟨#[]⟩) := by rw [Lib.cell_of_heap hd5]; rfl
            have g3' : w5.cell? ⟨w2.heap.size, 3, none⟩ = some (.slice none 0 0) := by rw [Lib.cell_of_heap hd5]; rfl
            clear hb5 hd5 KC ha1 ha2 ha3 ha4
            generalize kindT kd = rk at HKO HCL ⊢
            go_wp2_with fail
            have hle : w2.heap.size ≤ w2.heap.size := Nat.le_refl _
            have hb6 := (((HB5.out.setCell (p := ⟨w2.heap.size, 0, none⟩) hle (.int .i64 rk)).setCell (p := ⟨w2.heap.size, 1, none⟩) hle (.int .i64 ti)).setCell (p := ⟨w2.heap.size, 2, none⟩) hle (.string ⟨tx.toArray⟩)).setCell (p := ⟨w2.heap.size, 3, none⟩) hle (.slice none 0 0)
            have HS6 := Lib.hid (HS2.out.moved hb6)
            have HO6 := Lib.hid (HO2.out.moved hb6)
            have HB6 := Lib.hid (HBW2.out.trans (hb6.mono HBW2.out.size))
            have HQ6 := Lib.hid (Nat.lt_of_lt_of_le hqw2 hb6.size)
            have HG := HCL
            clear hle hb6 HD5 HB5 f0 f1 f2 f3 g0' g1' g2' g3' HCL b0 b1 b2 b3 b4
            generalize ((((w5.setCell ⟨w2.heap.size, 0, none⟩ (.int .i64 rk)).setCell ⟨w2.heap.size, 1, none⟩ (.int .i64 ti)).setCell ⟨w2.heap.size, 2, none⟩ (.string ⟨tx.toArray⟩)).setCell ⟨w2.heap.size, 3, none⟩ (.slice none 0 0)) = w6 at HS6 HO6 HB6 HQ6 ⊢
            have HX : Hid (Dat.ok64 rk ∧ Dat.ok64 ti ∧ (⟨tx.toArray⟩ : ByteArray).size ≤ maxLen ∧ InS w6 (· ≠ q) ([] : List PT) (.slice none 0 0)) := Lib.hid ⟨HKO.out, HOK.out.1, by have := HOK.out.2; simpa [ByteArray.size] using this, ⟨none, 0, rfl, Nat.le_refl _, Nat.zero_le _, fun _ => rfl, .inl rfl⟩⟩
            have KE := Lib.hid (ended_mem l w1.heap.size q (.slice (some ⟨g, 0, none⟩) l.length cap) rk ti ⟨tx.toArray⟩ [] (.slice none 0 0) w6 HS6.out HX.out HQ6.out HL0.out.1 HL0.out.2 HB6.out.size)
            refine KE.out.mono ?_
            rintro e w7 ⟨hge, hb7, hk7⟩
            have hcell := HS6.out
            obtain ⟨gg, capg, curg, eg, hg1, hg2, _, _, _, hg6, _⟩ := hcell
            cases eg
            have hgq := out_apart HO6.out HS6.out
            have HO7 := Lib.hid (HO6.out.far hg2 hg6 hgq (fun b hb hne => hk7 b hb (by simpa [Value.ownBlock] using fun e => hne e.symm)))
            have HB7 := Lib.hid (HB6.out.trans hb7)
            clear hg1 hg2 hg6 hgq hk7 hb7 KE
            rcases hge with ⟨l7, v7, hen, hs7, rfl⟩ | ⟨v7, k7, i7, s7, m7, x7, hen, hs7, hd7, rfl⟩
            · have HG7 : Hid (stepM l.reverse out ⟨kd, tx, ti⟩ = (l7.reverse, out)) := Lib.hid (by rw [HG.out]; exact give_none hen)
              obtain ⟨g7, c7, rfl⟩ := hs7.shape
              have HS7 := Lib.hid hs7
              clear hen hs7
              go_wp2
              go_roundw
              case rel =>
                have hba := (Below.refl w7.heap.size w7).alloc (Nat.le_refl _) (.cells #[.int .i64 0, .int .i64 0, .string ⟨#[]⟩, .slice none 0 0] 34)
                exact HFIN.out _ _ q _ _ _ HG7.out (HO7.out.moved hba) (HS7.out.moved hba) (HB7.out.trans (hba.mono HB7.out.size))
              case measure => simp [intOf]; omega
            · have HG7 : Hid (stepM l.reverse out ⟨kd, tx, ti⟩ = (([] : List Op).reverse, out ++ [.mk k7 i7 s7 m7])) := Lib.hid (by rw [HG.out]; exact give_some hen)
              obtain ⟨g7, c7, rfl⟩ := hs7.shape
              have HS7 := Lib.hid hs7
              have HD7 := Lib.hid hd7
              obtain ⟨ax7, cx7, rfl, -⟩ := hd7.2.2.2
              clear hen hs7 hd7
              have HN7 := Lib.hid (new2 w7 (.cells #[.int .i64 k7, .int .i64 i7, .string s7, .slice ax7 m7.length cx7] 34) (.cells #[.int .i64 k7, .int .i64 i7, .string s7, .slice ax7 m7.length cx7] 34))
              have HBA7 := Lib.hid (((Below.refl w7.heap.size w7).alloc (Nat.le_refl _) (.cells #[.int .i64 k7, .int .i64 i7, .string s7, .slice ax7 m7.length cx7] 34)).alloc (by rw [size_new]; omega) (.cells #[.int .i64 k7, .int .i64 i7, .string s7, .slice ax7 m7.length cx7] 34))
              have hol : out.length ≤ 100000 := by have := fitL_len HOF.out; omega
              go_wp2_with (at_builtin; refine wpList_append_out rfl _ _ rfl w1.heap.size q out _ rfl (HO7.out.moved HBA7.out) (w7.heap.size + 1) k7 i7 s7 m7 _ rfl HN7.out HD7.out.1 HD7.out.2.1 HD7.out.2.2.1 (ins_below HD7.out.2.2.2 HBA7.out) hol (Nat.le_trans HB7.out.size HBA7.out.size) ?_)
              intro q9 v9 w9 ho9 hq9 hb9 hk9
              obtain ⟨cap9, cur9, rfl, -⟩ := ho9.block
              clear cur9
              have hs9 := stk_empty (w' := w9) (r := q9) (HS7.out.moved HBA7.out) (fun b hb => by
                simp only [Value.ownBlock, Option.some.injEq] at hb
                subst hb
                exact hk9 g7 (by
                  obtain ⟨g', cap', cur, e1, _, h2, _⟩ := HS7.out.moved HBA7.out
                  cases e1
                  have h3 := lt_of_block h2
                  rw [size_new, size_new] at h3
                  exact h3) (fun e => out_apart (HO7.out.moved HBA7.out) (HS7.out.moved HBA7.out) e.symm))
              have HR := Lib.hid (HFIN.out [] _ q9 _ _ _ HG7.out ho9 hs9 ((HB7.out.trans (HBA7.out.mono HB7.out.size)).trans hb9))
              clear ho9 hq9 hb9 hk9 hs9
              go_wp2
              go_roundw
              case rel =>
                exact HR.out
              case measure => simp [intOf]; omega
      · have hmb : (mayM l.reverse kd != 0) = true := by simpa using hm
        have HRB : Hid (runM s.size [] [] ts = ([], ta, mayM l.reverse kd)) := Lib.hid (by rw [hrun2, run_bad hm])
        clear hm hrun2
        generalize mayM l.reverse kd = mk at HMAY hmb HRB
        go_wp2_with fail
        refine (HMAY.out _ (HBA.out _)).mono ?_
        rintro e w2 ⟨rfl, hb2⟩
        have ha := (World.cell?_of_block (w := wr.alloc (.cells #[.int .i64 kd, .string ⟨tx.toArray⟩, .int .i64 ti, .int .i64 (ta : Int), .int .i64 (tb : Int)] 52)) (a := ⟨wr.heap.size, 3, none⟩) (hb2.block wr.heap.size (by rw [size_new]; omega))).trans (Lib.cell_of_heap (HNB.out _) 3)
        have HB2 := Lib.hid hb2
        clear hb2
        go_wp2
        go_region
        go_wp2
        all_goals
          go_ret3
          have hbf := HB1.out.trans ((HBW.out.trans (((HBA.out (.cells #[.int .i64 kd, .string ⟨tx.toArray⟩, .int .i64 ti, .int .i64 (ta : Int), .int .i64 (tb : Int)] 52)).trans (HB2.out.mono (by rw [size_new]; omega))).mono HBW.out.size)).mono HB1.out.size)
          refine ⟨hbf.drew, .slice none 0 0, ?_, ?_⟩
          · rw [HRD.out, HRB.out]; try rfl
          · rw [HRD.out, HRB.out]
            exact ⟨none, 0, rfl, Nat.le_refl _, Nat.zero_le _, fun _ => rfl, .inl rfl⟩
    · obtain rfl : j = ts.length := by omega
      rw [List.drop_length, run_nil] at hrun
      obtain ⟨g, cap, rfl⟩ := hstk.shape
      have HBF := Lib.hid (HB1.out.trans (hbw.mono HB1.out.size))
      have HREP := Lib.hid hout.ins
      obtain ⟨capo, curo, rfl, -⟩ := hout.block
      clear curo
      rcases snoc_cases l with rfl | ⟨l1, o, rfl⟩
      · have HRB : Hid (runM s.size [] [] ts = (out, 0, 0)) := Lib.hid (by rw [hrun, if_pos (by simp)])
        clear hrun hout hstk hbw
        go_wp2
        go_ret3
        refine ⟨HBF.out, .slice (some ⟨q, 0, none⟩) out.length capo, ?_, ?_⟩
        · rw [HRD.out, HRB.out]; try rfl
        · rw [HRD.out, HRB.out]
          exact HREP.out
      · have HRB : Hid (runM s.size [] [] ts = ([], s.size, 41)) := Lib.hid (by rw [hrun, if_neg (by simp)])
        have hlen : (l1 ++ [o]).length = l1.length + 1 := by simp
        have hb1 : ((l1.length : Int) + 1) ≤ 4000 := by
          have := (st_nums hfit).1
          simp at this; omega
        clear hrun hout hstk hbw
        rw [hlen]
        clear hlen
        go_wp2
        go_ret3
        refine ⟨HBF.out, .slice none 0 0, ?_, ?_⟩
        · rw [HRD.out, HRB.out]; try rfl
        · rw [HRD.out, HRB.out]
          exact ⟨none, 0, rfl, Nat.le_refl _, Nat.zero_le _, fun _ => rfl, .inl rfl⟩
end Go.Proofs.YthfjlcflpneffaaGreatDoor
