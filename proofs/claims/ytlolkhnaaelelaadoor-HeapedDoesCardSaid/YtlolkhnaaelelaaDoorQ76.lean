/-
The law HeapedDoes: call by call, of any values, the two heaps answer one and the same. Where the table of what is reckoned is as the program lays it.
-/
import Derived.Test.YtlolkhnaaelelaaDoorQGl
import Derived.Test.YtlolkhnaaelelaaDoorRT
namespace Go.Proofs.YtlolkhnaaelelaaDoor.Hp
open Go.ChangeShapes Go.WideShapes Go.ChangeAt Go.RowKit Go.Deep
open Dat (PT ok64 RepV RepS RowX infoDatum)
set_option maxRecDepth 100000

/-- A call that the law makes: a primitive or a kind, values, and which of them are what was told so long ago. -/
structure POp where
  prim : ByteArray
  kind : Int
  vals : List PV
  ago : List Int
/-- A row of such calls at a slice. -/
def InO (w : World) (l : List POp) (v : Value) : Prop := ∃ a c, v = .slice a l.length c ∧ l.length ≤ c ∧ c ≤ maxLen ∧ ∀ (j : Nat) (h : j < l.length), ∃ b o vv av, a = some ⟨b, o, none⟩ ∧ b < w.heap.size ∧
  (w.cell? ⟨b, o + j * 4, none⟩ = some (.string l[j].prim) ∧ w.cell? ⟨b, o + j * 4 + 1, none⟩ = some (.int .i64 l[j].kind) ∧ w.cell? ⟨b, o + j * 4 + 2, none⟩ = some vv ∧ w.cell? ⟨b, o + j * 4 + 3, none⟩ = some av) ∧
  InP w (· < w.heap.size) l[j].vals vv ∧ InZ w l[j].ago av ∧ l[j].vals.length ≤ 4398046511104
theorem heapR_new (w : World) : HeapR (w.alloc (.cells #[.slice none 0 0] 28)) w.heap.size [] (· = w.heap.size) :=
  ⟨.slice none 0 0, [], fun _ => 0, fun _ => .slice none 0 0, heap_alloc_new w _, rfl, ⟨rfl, .inl ⟨rfl, rfl⟩⟩, fun b hb => (by cases hb), fun j hj => (by cases hj)⟩
/-- How things stand where the law's loop begins a round. -/
def Rnd (w : World) (mb n j : Nat) (p : Value) (W : World) : Prop :=
  ∃ (told : List PV) (T : List (Int × List PV)) (F G : Nat → Prop), j ≤ n ∧ j ≤ 60 ∧ DSt w w.heap.size mb T T F G W ∧ Told F G w.heap.size told p W ∧ told.length ≤ j ∧ T.length ≤ j ∧ ∀ t ∈ T, t.2.length ≤ 1000
theorem args_of {F G : Nat → Prop} {l : List PV} {g C : Nat} {v : Value} {W : World} (hp : PartsM W l g v) (hg : l ≠ [] → C ≤ g ∧ g < W.heap.size) (ha : ∀ b, C ≤ b → Apart F G b) : Args F G l v W := by
  obtain ⟨a, c, e, h1, h2, h3, h4⟩ := hp.inP
  refine ⟨a, c, e, h1, h2, h3, ?_⟩
  by_cases h0 : l = []
  · exact .inl h0
  · rcases h4 with h4 | ⟨b, o, e1, rfl, h6⟩
    · exact absurd h4 h0
    · exact .inr ⟨b, o, e1, ⟨(hg h0).2, ha b (hg h0).1⟩, h6⟩
def ArgsA (F G : Nat → Prop) (A : Nat) (l : List PV) (v : Value) (W : World) : Prop := InP W (fun b => b < A ∧ Apart F G b) l v
section
variable {F G F' G' : Nat → Prop} {A X : Nat} {l : List PV} {v : Value} {W W' : World}
theorem ArgsA.kept (h : ArgsA F G A l v W) (hA : A ≤ W.heap.size) (k : Kept F G W F' G' W') : ArgsA F' G' A l v W' :=
  h.move fun b hs _ => ⟨⟨hs.1, (k.2 b (Nat.lt_of_lt_of_le hs.1 hA) hs.2).1⟩, (k.2 b (Nat.lt_of_lt_of_le hs.1 hA) hs.2).2⟩
theorem ArgsA.put (h : ArgsA F G A l v W) (hX : A ≤ X) (y0 y1 y2 : Value) : ArgsA F G A l v (((W.setCell ⟨X, 0, none⟩ y0).setCell ⟨X, 1, none⟩ y1).setCell ⟨X, 2, none⟩ y2) :=
  h.move fun b hs _ => ⟨hs, put3_other _ _ _ (fun e => by have := hs.1; omega)⟩
theorem Told.put {C : Nat} (h : Told F G C l v W) (ht : ∀ b, v.ownBlock = some b → b < A) (hX : A ≤ X) (y0 y1 y2 : Value) : Told F G C l v (((W.setCell ⟨X, 0, none⟩ y0).setCell ⟨X, 1, none⟩ y1).setCell ⟨X, 2, none⟩ y2) := by
  refine ⟨⟨h.1.1, h.1.2.imp id ?_⟩, h.2.1, h.2.2⟩
  rintro ⟨t, cap, cur, e, a1, a2, a3⟩
  have := ht t (by rw [e]; rfl)
  exact ⟨t, cap, cur, e, a1, (put3_other _ _ _ (by omega)).trans a2, a3⟩
theorem Own.put_same {o0 o1 o2 : Value} (h : Own F G X (.cells #[o0, o1, o2] 36 (0, 0)) W) (y0 y1 y2 : Value) : Own F G X (.cells #[y0, y1, y2] 36 (0, 0)) (((W.setCell ⟨X, 0, none⟩ y0).setCell ⟨X, 1, none⟩ y1).setCell ⟨X, 2, none⟩ y2) := ⟨put3 h.1 y0 y1 y2, h.2⟩
theorem Own.put_other {R : Nat} {ob : Obj} (h : Own F G R ob W) (hne : R ≠ X) (y0 y1 y2 : Value) : Own F G R ob (((W.setCell ⟨X, 0, none⟩ y0).setCell ⟨X, 1, none⟩ y1).setCell ⟨X, 2, none⟩ y2) := ⟨(put3_other _ _ _ hne).trans h.1, h.2⟩
theorem DSt.grown {w : World} {hb mb : Nat} {T U : List (Int × List PV)} {row : Option Nat} (h : DSt w hb mb T U F G W) (hg : W.grownBy W' row) (hr : ∀ b, row = some b → w.heap.size ≤ b ∧ Apart F G b) : DSt w hb mb T U F G W' :=
  ⟨h.h.move (fun b hf hlt => hg.block b hlt (fun e => (hr b e.symm).2.1 hf)) (fun _ q => q), h.m.move (fun b hf hlt => hg.block b hlt (fun e => (hr b e.symm).2.2 hf)) (fun _ q => q),
    fun b hf => ⟨(h.f b hf).1, Nat.lt_of_lt_of_le (h.f b hf).2 hg.size⟩, fun b hf => ⟨(h.g b hf).1, Nat.lt_of_lt_of_le (h.g b hf).2 hg.size⟩, h.d, h.b.grown hg h.b.size (fun b e => (hr b e).1)⟩
theorem Told.snoc {C : Nat} {u : PV} {v' : Value} (h : Told F G C l v W) (ho : W'.ownsRow C 36 3 v' (l.length + 1) (vCells l ++ [.int .i64 u.k, .int .i64 u.i, .string u.s])) (hu : okV u) (hv : ∀ b, v'.ownBlock = some b → v.ownBlock = some b ∨ Apart F G b) : Told F G C (l ++ [u]) v' W' := by
  refine ⟨?_, fun x hx => ?_, fun b hb => ?_⟩
  · rw [vCells_append, List.length_append]
    exact ho
  · rcases List.mem_append.1 hx with hx | hx
    · exact h.2.1 x hx
    · rw [List.mem_singleton.1 hx]; exact hu
  · rcases hv b hb with e | e
    · exact h.2.2 b e
    · exact e
theorem DSt.put {w : World} {hb mb : Nat} {T U : List (Int × List PV)} (h : DSt w hb mb T U F G W) (hX : Apart F G X) (hw : w.heap.size ≤ X) (y0 y1 y2 : Value) : DSt w hb mb T U F G (((W.setCell ⟨X, 0, none⟩ y0).setCell ⟨X, 1, none⟩ y1).setCell ⟨X, 2, none⟩ y2) :=
  ⟨h.h.move (fun b hf _ => put3_other _ _ _ (fun e => hX.1 (e ▸ hf))) (fun _ q => q), h.m.move (fun b hf _ => put3_other _ _ _ (fun e => hX.2 (e ▸ hf))) (fun _ q => q),
    fun b hf => by rw [size_put, size_put, size_put]; exact h.f b hf, fun b hf => by rw [size_put, size_put, size_put]; exact h.g b hf, h.d, h.b.trans (put3_below (Below.refl _ W) hw y0 y1 y2)⟩
end
set_option maxHeartbeats 8000000 in
theorem does_walk (ops : List POp) (v : Value) (w : World) (hO : InO w ops v) (hR : RecOk w) :
    Calls Tryd.prog 3 #[v] w fun e w' => e = .returned (.bool true) ∧ Below w.heap.size w w' := by
  obtain ⟨i0, hi, hz0, hz1, hz2⟩ := info_parts infoVal
  have HO := Lib.hid hO
  have HR := Lib.hid hR
  obtain ⟨a, c, rfl, h1, h2, -⟩ := hO
  unfold maxLen at h2
  clear hR
  go_enter Tryd.func3, Tryd.ntmps3
  go_wp2_with fail
  refine (new_any w).mono ?_
  rintro e w1 ⟨rfl, hm1, hb1, hlt1⟩
  have D2 : DSt w w.heap.size w1.heap.size [] [] (· = w.heap.size) (· = w1.heap.size) (w1.alloc (.cells #[.slice none 0 0] 28)) :=
    ⟨hm1.below (al w1 _), heapR_new w1, fun b e => by subst e; exact ⟨Nat.le_refl _, by rw [size_new]; omega⟩, fun b e => by subst e; exact ⟨by omega, by rw [size_new]; omega⟩, fun b e e' => by omega, hb1.trans ((al w1 _).mono (by omega))⟩
  have HD2 := Lib.hid D2
  clear D2 hm1 hb1
  go_upto_region 2 with fail
  generalize w1.alloc (.cells #[.slice none 0 0] 28) = w2 at *
  generalize w1.heap.size = mb at *
  have KF := Lib.hid (fixed_any w2 (HR.out.at HD2.out.b))
  go_wp2_with fail
  refine KF.out.mono ?_
  rintro e w3 ⟨rfl, hb3⟩
  have D3 := HD2.out.below hb3
  have D4 := D3.below (al w3 (.cells #[] 36))
  have R0 : Rnd w mb ops.length 0 (.slice (some ⟨w3.heap.size, 0, none⟩) 0 0) (w3.alloc (.cells #[] 36)) :=
    ⟨[], [], _, _, Nat.zero_le _, Nat.zero_le _, D4, ⟨⟨rfl, .inr ⟨w3.heap.size, 0, #[], rfl, D3.b.size, heap_alloc_new w3 _, Nat.le_refl _, Nat.zero_le _, rfl, rfl⟩⟩, fun u hu => (by cases hu), fun b e => (by cases e; exact D3.apart (Nat.le_refl _))⟩, Nat.le_refl _, Nat.le_refl _, fun t ht => (by cases ht)⟩
  have HR0 := Lib.hid R0
  clear R0 D3 D4 hb3 KF HD2 hlt1
  go_upto_region 5 with fail
  generalize w3.alloc (.cells #[] 36) = w4 at *
  generalize Value.slice (some ⟨w3.heap.size, 0, none⟩) 0 0 = p0 at *
  go_wp2
  go_loopw [5, 6] (fun p x wr => ∃ j : Nat, x = .int .i64 j ∧ Rnd w mb ops.length j p wr) (fun _ x _ => 60 - (intOf x).toNat)
  case atStart => exact ⟨0, rfl, HR0.out⟩
  case round =>
    obtain ⟨j, rfl, told, T, F, G, hj, hj60, hD, hT, htl, hTl, hTs⟩ := hrel
    have HTS := Lib.hid hTs
    clear hTs
    clear HR0
    have HD := Lib.hid hD
    have HT := Lib.hid hT
    clear hD hT
    by_cases hlt : j < ops.length
    · have d1 : (j : Int) < (ops.length : Int) := by omega
      by_cases h60 : j < 60
      · have d2 : (j : Int) < 60 := by omega
        obtain ⟨_, _, e0, _, _, hrow⟩ := HO.out
        cases e0
        obtain ⟨b, o, vv, av, e1, hbl, ⟨q0, q1, q2, q3⟩, hvals, hago, hvl⟩ := hrow j hlt
        subst e1
        generalize ops[j] = op at q0 q1 hvals hago hvl
        obtain ⟨prim, kind, vals, ago⟩ := op
        dsimp only at q0 q1 hvals hago hvl
        have HQW := Lib.hid q0
        have HKW := Lib.hid q1
        have mvc : ∀ q, _ := fun q => HD.out.b.cell (p := ⟨b, q, none⟩) hbl
        replace q0 := (mvc _).trans q0
        replace q1 := (mvc _).trans q1
        replace q2 := (mvc _).trans q2
        replace q3 := (mvc _).trans q3
        obtain ⟨S0, hin⟩ := HT.out.inP
        have KF := Lib.hid (lfilled_any prim kind vals told ago vv av _ (· < w.heap.size) S0 wr (hvals.belowP HD.out.b) hin (hago.below HD.out.b) hvl)
        clear hrow mvc hvals hago hin
        go_wp2_with fail
        refine KF.out.mono ?_
        rintro e w5 ⟨⟨l, g, va, hll, rfl, hp, hg⟩, hb5⟩
        have HD5 := Lib.hid (HD.out.below hb5)
        have HT5 := Lib.hid (HT.out.kept (Kept.of_below hb5))
        have HA5 : Hid (ArgsA F G w5.heap.size l va w5) := Lib.hid (args_of (F := F) (G := G) hp hg (fun b hb => HD.out.apart hb))
        obtain ⟨ra, rc, rfl, hrl, hrm⟩ := hp.slice
        unfold maxLen at hrm
        clear hp hg hb5 q0 q1 q2 q3 KF HD HT hll hvl
        by_cases h40 : 40 < l.length
        · have d3 : (40 : Int) < (l.length : Int) := by omega
          have HA6 : Hid (ArgsA F G w5.heap.size (l.take 40) (.slice ra 40 rc) w5) := Lib.hid (InP.take HA5.out (by omega))
          have hl6 : (l.take 40).length ≤ 1000 := by rw [List.length_take]; omega
          clear HA5
          go_upto_region 11 with fail
          generalize Value.slice ra 40 rc = va at *
          generalize l.take 40 = la at *
          clear d3 h40 hrl hrm
          go_upto_region 13 with fail
          obtain ⟨zA, zB, B7⟩ := two_new w5 (.cells #[.int .i64 0, .int .i64 0, .string ⟨#[]⟩] 36) (.cells #[.int .i64 0, .int .i64 0, .string ⟨#[]⟩] 36)
          have HD7 := Lib.hid (HD5.out.below B7)
          have HT7 := Lib.hid (HT5.out.kept (Kept.of_below B7))
          have HTB := Lib.hid (fun b hb => (HT5.out.1.lt b hb).2)
          have HA7 := Lib.hid (HA6.out.kept (Nat.le_refl _) (Kept.of_below B7))
          have OA7 : Hid (Own F G w5.heap.size (.cells #[.int .i64 0, .int .i64 0, .string ⟨#[]⟩] 36 (0, 0)) _) := Lib.hid ⟨zA, HD5.out.apart (Nat.le_refl _)⟩
          have OB7 : Hid (Own F G (w5.heap.size + 1) (.cells #[.int .i64 0, .int .i64 0, .string ⟨#[]⟩] 36 (0, 0)) _) := Lib.hid ⟨zB, HD5.out.apart (Nat.le_succ _)⟩
          have hAw : w.heap.size ≤ w5.heap.size := HD5.out.b.size
          have hA7 := Lib.hid (lt_of_block zB)
          clear zA zB B7 HD5 HT5 HA6
          generalize (w5.alloc (.cells #[.int .i64 0, .int .i64 0, .string ⟨#[]⟩] 36)).alloc (.cells #[.int .i64 0, .int .i64 0, .string ⟨#[]⟩] 36) = w7 at *
          generalize w5.heap.size = A at *
          have q0 := (HD7.out.b.cell (p := ⟨b, o + j * 4, none⟩) hbl).trans HQW.out
          have q1 := (HD7.out.b.cell (p := ⟨b, o + j * 4 + 1, none⟩) hbl).trans HKW.out
          have hT5 : T.length ≤ 100000 := by omega
          by_cases hpr : prim.toList = []
          · have e0 : (prim.toList == []) = true := by rw [hpr]; rfl
            obtain ⟨q, hq⟩ : ∃ q, q = madeT T kind la := ⟨_, rfl⟩
            have K1 := mk_any kind la va _ w.heap.size T F w7 HD7.out.h (fun b hf => (HD7.out.f b hf).2) HA7.out hl6 hT5
            have K2 := fun W F' (hD : DSt w w.heap.size mb q.2.2 T F' G W) (hA : ArgsA F' G A la va W) => rmk_any kind la va _ mb T G W hD.m (fun b hf => (hD.g b hf).2) hA hl6 hT5
            have K3 := (okres_made : OkRes la T (madeT T kind la)) (okV_all HA7.out) hl6 (HD7.out.m.parts_ok HTS.out) hT5
            rw [← hq] at K1 K2 K3
            obtain ⟨⟨uk, ui, us⟩, err, T'⟩ := q
            dsimp only at K1 K2 K3
            have KC := Lib.hid K1
            have KD := Lib.hid K2
            have HOKR := Lib.hid K3
            clear K1 K2 K3 hq hpr
            go_wp2_with fail
            refine KC.out.mono ?_
            rintro e w8 hd
            obtain ⟨rfl, F8, d8, k8⟩ := HD7.out.useH hd
            have oa8 := OA7.out.kept k8
            have HD8 := Lib.hid (d8.put oa8.2 hAw (.int .i64 uk) (.int .i64 ui) (.string us))
            have HT8 := Lib.hid ((HT7.out.kept k8).put HTB.out (Nat.le_refl A) (.int .i64 uk) (.int .i64 ui) (.string us))
            have HA8 := Lib.hid ((HA7.out.kept (by have := hA7.out; omega) k8).put (Nat.le_refl A) (.int .i64 uk) (.int .i64 ui) (.string us))
            have OA8 := Lib.hid (oa8.put_same (.int .i64 uk) (.int .i64 ui) (.string us))
            have OB8 := Lib.hid ((OB7.out.kept k8).put_other (show A + 1 ≠ A by omega) (.int .i64 uk) (.int .i64 ui) (.string us))
            obtain ⟨⟨a0, a1, a2⟩, fa0, fa1, fa2⟩ := look3 oa8.1
            clear d8 k8 oa8 hd q0 q1 HD7 HT7 HA7 OA7 OB7 hA7 KC
            unfold VE
            go_upto_region 15 with fail
            generalize ((w8.setCell ⟨A, 0, none⟩ (.int .i64 uk)).setCell ⟨A, 1, none⟩ (.int .i64 ui)).setCell ⟨A, 2, none⟩ (.string us) = w9 at *
            clear a0 a1 a2 fa0 fa1 fa2
            have q0 := (HD8.out.b.cell (p := ⟨b, o + j * 4, none⟩) hbl).trans HQW.out
            have q1 := (HD8.out.b.cell (p := ⟨b, o + j * 4 + 1, none⟩) hbl).trans HKW.out
            go_wp2_with fail
            refine (KD.out _ _ HD8.out HA8.out).mono ?_
            rintro e w10 hd
            obtain ⟨rfl, G10, d10, k10⟩ := HD8.out.useM hd
            have ob10 := OB8.out.kept k10
            have HD11 := Lib.hid (d10.put ob10.2 (by omega) (.int .i64 uk) (.int .i64 ui) (.string us))
            have HT11 := Lib.hid ((HT8.out.kept k10).put HTB.out (Nat.le_succ A) (.int .i64 uk) (.int .i64 ui) (.string us))
            have OA11 := Lib.hid ((OA8.out.kept k10).put_other (show A ≠ A + 1 by omega) (.int .i64 uk) (.int .i64 ui) (.string us))
            have OB11 := Lib.hid (ob10.put_same (.int .i64 uk) (.int .i64 ui) (.string us))
            obtain ⟨⟨a0, a1, a2⟩, fa0, fa1, fa2⟩ := look3 ob10.1
            clear d10 k10 ob10 hd q0 q1 HD8 HT8 HA8 OA8 OB8 KD
            unfold VE
            go_upto_region 18 with fail
            generalize ((w10.setCell ⟨A + 1, 0, none⟩ (.int .i64 uk)).setCell ⟨A + 1, 1, none⟩ (.int .i64 ui)).setCell ⟨A + 1, 2, none⟩ (.string us) = w11 at *
            clear a0 a1 a2 fa0 fa1 fa2
            obtain ⟨⟨a0, a1, a2⟩, -⟩ := look3 OA11.out.1
            obtain ⟨⟨b0, b1, b2⟩, -⟩ := look3 OB11.out.1
            obtain ⟨ma, mc, m0, m1⟩ := HD11.out.m.len
            have KN := Lib.hid (fun n => count_any w.heap.size T' _ (w11.drewN n) (HD11.out.h.below (below_drewN (Below.refl _ _) n)))
            go_quiet (first | (go_at_call 13; exact Calls.quiet_of_same ((KN.out _).mono (fun e w' h => ⟨h.1, h.2.symm⟩))))
            have bq := below_drewN (Below.refl w11.heap.size w11) nq
            have HD12 := Lib.hid (HD11.out.below bq)
            have HT12 := Lib.hid (HT11.out.kept (Kept.of_below bq))
            have OA12 := Lib.hid (OA11.out.kept (Kept.of_below bq))
            clear a0 a1 a2 b0 b1 b2 m0 m1 KN HD11 HT11 OA11 OB11 bq
            generalize w11.drewN nq = w12 at *
            by_cases he : err = 0
            · subst he
              obtain ⟨⟨a0, a1, a2⟩, -⟩ := look3 OA12.out.1
              have HAL := Lib.hid (HD12.out.below (al w12 (.cells #[.int .i64 uk, .int .i64 ui, .string us] 36)))
              have HTA := Lib.hid (HT12.out.kept (Kept.of_below (al w12 (.cells #[.int .i64 uk, .int .i64 ui, .string us] 36))))
              have hsz := HAL.out.b.size
              have htl6 : told.length + 1 ≤ 1000 := by omega
              go_wp2_with (at_builtin; refine wpList_append_own_at _ rfl _ _ 30 rfl w.heap.size 36 i0 _ 3 32 Tryd.underlying30 hi hz0 hz1 hz2 rfl (by decide) _ told.length _ rfl HTA.out.1 ⟨w12.heap.size, 0, none⟩ 1 1 [.int .i64 uk, .int .i64 ui, .string us] rfl rfl (World.news_of_block (heap_alloc_new w12 _)) (by intro u hu; simp only [List.mem_cons, List.not_mem_nil, or_false] at hu; rcases hu with rfl | rfl | rfl <;> rfl) (by unfold maxLen; omega) (by omega) hsz ?_; intro v' w13 ho13 hg13 _ hv13)
              have HD13 := Lib.hid (HAL.out.grown hg13 (fun b e => ⟨(HTA.out.1.lt b e).1, HTA.out.2.2 b e⟩))
              have HT13 := Lib.hid (HTA.out.snoc (u := ⟨uk, ui, us⟩) ho13 HOKR.out.1 (fun b e => by
                rcases hv13 with e1 | e1
                · exact .inl (e1 ▸ e)
                · rw [e1] at e
                  cases e
                  exact .inr (HAL.out.apart (Nat.le_refl _))))
              clear ho13 hg13 hv13 HAL HTA a0 a1 a2
              exact ⟨⟨j + 1, by go_num, told ++ [⟨uk, ui, us⟩], T', F8, G10, by omega, by omega, HD13.out, HT13.out, by rw [List.length_append]; exact Nat.succ_le_succ htl, by have := HOKR.out.2.1; omega, HOKR.out.2.2⟩, by simp [intOf]; omega⟩
            · have e4 : (err == 0) = false := by simpa using he
              go_wp2
              go_roundw
              case rel => exact ⟨j + 1, by go_num, told, T', F8, G10, by omega, by omega, HD12.out, HT12.out, by omega, by have := HOKR.out.2.1; omega, HOKR.out.2.2⟩
              case measure => simp [intOf]; omega
          · have e0 : (prim.toList == []) = false := by simpa using hpr
            obtain ⟨q, K1', K2', K3'⟩ := both_do prim la hT5
            have K1 := K1' va _ w.heap.size F w7 (HR.out.at HD7.out.b) HD7.out.h (fun b hf => (HD7.out.f b hf).2) HA7.out
            have K2 := fun W F' (hD : DSt w w.heap.size mb q.2.2 T F' G W) (hA : ArgsA F' G A la va W) => K2' va _ mb G W hD.m (fun b hf => (hD.g b hf).2) hA
            have K3 := K3' (okV_all HA7.out) hl6 (HD7.out.m.parts_ok HTS.out) hT5
            obtain ⟨⟨uk, ui, us⟩, err, T'⟩ := q
            dsimp only at K1 K2 K3
            have KC := Lib.hid K1
            have KD := Lib.hid K2
            have HOKR := Lib.hid K3
            clear K1 K2 K3 K1' K2' K3' hpr
            go_wp2_with fail
            refine KC.out.mono ?_
            rintro e w8 hd
            obtain ⟨rfl, F8, d8, k8⟩ := HD7.out.useH hd
            have oa8 := OA7.out.kept k8
            have HD8 := Lib.hid (d8.put oa8.2 hAw (.int .i64 uk) (.int .i64 ui) (.string us))
            have HT8 := Lib.hid ((HT7.out.kept k8).put HTB.out (Nat.le_refl A) (.int .i64 uk) (.int .i64 ui) (.string us))
            have HA8 := Lib.hid ((HA7.out.kept (by have := hA7.out; omega) k8).put (Nat.le_refl A) (.int .i64 uk) (.int .i64 ui) (.string us))
            have OA8 := Lib.hid (oa8.put_same (.int .i64 uk) (.int .i64 ui) (.string us))
            have OB8 := Lib.hid ((OB7.out.kept k8).put_other (show A + 1 ≠ A by omega) (.int .i64 uk) (.int .i64 ui) (.string us))
            obtain ⟨⟨a0, a1, a2⟩, fa0, fa1, fa2⟩ := look3 oa8.1
            clear d8 k8 oa8 hd q0 q1 HD7 HT7 HA7 OA7 OB7 hA7 KC
            unfold VE
            go_upto_region 17 with fail
            generalize ((w8.setCell ⟨A, 0, none⟩ (.int .i64 uk)).setCell ⟨A, 1, none⟩ (.int .i64 ui)).setCell ⟨A, 2, none⟩ (.string us) = w9 at *
            clear a0 a1 a2 fa0 fa1 fa2
            have q0 := (HD8.out.b.cell (p := ⟨b, o + j * 4, none⟩) hbl).trans HQW.out
            have q1 := (HD8.out.b.cell (p := ⟨b, o + j * 4 + 1, none⟩) hbl).trans HKW.out
            go_wp2_with fail
            refine (KD.out _ _ HD8.out HA8.out).mono ?_
            rintro e w10 hd
            obtain ⟨rfl, G10, d10, k10⟩ := HD8.out.useM hd
            have ob10 := OB8.out.kept k10
            have HD11 := Lib.hid (d10.put ob10.2 (by omega) (.int .i64 uk) (.int .i64 ui) (.string us))
            have HT11 := Lib.hid ((HT8.out.kept k10).put HTB.out (Nat.le_succ A) (.int .i64 uk) (.int .i64 ui) (.string us))
            have OA11 := Lib.hid ((OA8.out.kept k10).put_other (show A ≠ A + 1 by omega) (.int .i64 uk) (.int .i64 ui) (.string us))
            have OB11 := Lib.hid (ob10.put_same (.int .i64 uk) (.int .i64 ui) (.string us))
            obtain ⟨⟨a0, a1, a2⟩, fa0, fa1, fa2⟩ := look3 ob10.1
            clear d10 k10 ob10 hd q0 q1 HD8 HT8 HA8 OA8 OB8 KD
            unfold VE
            go_upto_region 18 with fail
            generalize ((w10.setCell ⟨A + 1, 0, none⟩ (.int .i64 uk)).setCell ⟨A + 1, 1, none⟩ (.int .i64 ui)).setCell ⟨A + 1, 2, none⟩ (.string us) = w11 at *
            clear a0 a1 a2 fa0 fa1 fa2
            obtain ⟨⟨a0, a1, a2⟩, -⟩ := look3 OA11.out.1
            obtain ⟨⟨b0, b1, b2⟩, -⟩ := look3 OB11.out.1
            obtain ⟨ma, mc, m0, m1⟩ := HD11.out.m.len
            have KN := Lib.hid (fun n => count_any w.heap.size T' _ (w11.drewN n) (HD11.out.h.below (below_drewN (Below.refl _ _) n)))
            go_quiet (first | (go_at_call 13; exact Calls.quiet_of_same ((KN.out _).mono (fun e w' h => ⟨h.1, h.2.symm⟩))))
            have bq := below_drewN (Below.refl w11.heap.size w11) nq
            have HD12 := Lib.hid (HD11.out.below bq)
            have HT12 := Lib.hid (HT11.out.kept (Kept.of_below bq))
            have OA12 := Lib.hid (OA11.out.kept (Kept.of_below bq))
            clear a0 a1 a2 b0 b1 b2 m0 m1 KN HD11 HT11 OA11 OB11 bq
            generalize w11.drewN nq = w12 at *
            by_cases he : err = 0
            · subst he
              obtain ⟨⟨a0, a1, a2⟩, -⟩ := look3 OA12.out.1
              have HAL := Lib.hid (HD12.out.below (al w12 (.cells #[.int .i64 uk, .int .i64 ui, .string us] 36)))
              have HTA := Lib.hid (HT12.out.kept (Kept.of_below (al w12 (.cells #[.int .i64 uk, .int .i64 ui, .string us] 36))))
              have hsz := HAL.out.b.size
              have htl6 : told.length + 1 ≤ 1000 := by omega
              go_wp2_with (at_builtin; refine wpList_append_own_at _ rfl _ _ 30 rfl w.heap.size 36 i0 _ 3 32 Tryd.underlying30 hi hz0 hz1 hz2 rfl (by decide) _ told.length _ rfl HTA.out.1 ⟨w12.heap.size, 0, none⟩ 1 1 [.int .i64 uk, .int .i64 ui, .string us] rfl rfl (World.news_of_block (heap_alloc_new w12 _)) (by intro u hu; simp only [List.mem_cons, List.not_mem_nil, or_false] at hu; rcases hu with rfl | rfl | rfl <;> rfl) (by unfold maxLen; omega) (by omega) hsz ?_; intro v' w13 ho13 hg13 _ hv13)
              have HD13 := Lib.hid (HAL.out.grown hg13 (fun b e => ⟨(HTA.out.1.lt b e).1, HTA.out.2.2 b e⟩))
              have HT13 := Lib.hid (HTA.out.snoc (u := ⟨uk, ui, us⟩) ho13 HOKR.out.1 (fun b e => by
                rcases hv13 with e1 | e1
                · exact .inl (e1 ▸ e)
                · rw [e1] at e
                  cases e
                  exact .inr (HAL.out.apart (Nat.le_refl _))))
              clear ho13 hg13 hv13 HAL HTA a0 a1 a2
              exact ⟨⟨j + 1, by go_num, told ++ [⟨uk, ui, us⟩], T', F8, G10, by omega, by omega, HD13.out, HT13.out, by rw [List.length_append]; exact Nat.succ_le_succ htl, by have := HOKR.out.2.1; omega, HOKR.out.2.2⟩, by simp [intOf]; omega⟩
            · have e4 : (err == 0) = false := by simpa using he
              go_wp2
              go_roundw
              case rel => exact ⟨j + 1, by go_num, told, T', F8, G10, by omega, by omega, HD12.out, HT12.out, by omega, by have := HOKR.out.2.1; omega, HOKR.out.2.2⟩
              case measure => simp [intOf]; omega
        · have d3 : ¬ (40 : Int) < (l.length : Int) := by omega
          have HA6 := HA5
          have hl6 : l.length ≤ 1000 := by omega
          clear HA5
          go_upto_region 11 with fail
          generalize Value.slice ra l.length rc = va at *
          generalize l = la at *
          clear d3 h40 hrl hrm
          go_upto_region 13 with fail
          obtain ⟨zA, zB, B7⟩ := two_new w5 (.cells #[.int .i64 0, .int .i64 0, .string ⟨#[]⟩] 36) (.cells #[.int .i64 0, .int .i64 0, .string ⟨#[]⟩] 36)
          have HD7 := Lib.hid (HD5.out.below B7)
          have HT7 := Lib.hid (HT5.out.kept (Kept.of_below B7))
          have HTB := Lib.hid (fun b hb => (HT5.out.1.lt b hb).2)
          have HA7 := Lib.hid (HA6.out.kept (Nat.le_refl _) (Kept.of_below B7))
          have OA7 : Hid (Own F G w5.heap.size (.cells #[.int .i64 0, .int .i64 0, .string ⟨#[]⟩] 36 (0, 0)) _) := Lib.hid ⟨zA, HD5.out.apart (Nat.le_refl _)⟩
          have OB7 : Hid (Own F G (w5.heap.size + 1) (.cells #[.int .i64 0, .int .i64 0, .string ⟨#[]⟩] 36 (0, 0)) _) := Lib.hid ⟨zB, HD5.out.apart (Nat.le_succ _)⟩
          have hAw : w.heap.size ≤ w5.heap.size := HD5.out.b.size
          have hA7 := Lib.hid (lt_of_block zB)
          clear zA zB B7 HD5 HT5 HA6
          generalize (w5.alloc (.cells #[.int .i64 0, .int .i64 0, .string ⟨#[]⟩] 36)).alloc (.cells #[.int .i64 0, .int .i64 0, .string ⟨#[]⟩] 36) = w7 at *
          generalize w5.heap.size = A at *
          have q0 := (HD7.out.b.cell (p := ⟨b, o + j * 4, none⟩) hbl).trans HQW.out
          have q1 := (HD7.out.b.cell (p := ⟨b, o + j * 4 + 1, none⟩) hbl).trans HKW.out
          have hT5 : T.length ≤ 100000 := by omega
          by_cases hpr : prim.toList = []
          · have e0 : (prim.toList == []) = true := by rw [hpr]; rfl
            obtain ⟨q, hq⟩ : ∃ q, q = madeT T kind la := ⟨_, rfl⟩
            have K1 := mk_any kind la va _ w.heap.size T F w7 HD7.out.h (fun b hf => (HD7.out.f b hf).2) HA7.out hl6 hT5
            have K2 := fun W F' (hD : DSt w w.heap.size mb q.2.2 T F' G W) (hA : ArgsA F' G A la va W) => rmk_any kind la va _ mb T G W hD.m (fun b hf => (hD.g b hf).2) hA hl6 hT5
            have K3 := (okres_made : OkRes la T (madeT T kind la)) (okV_all HA7.out) hl6 (HD7.out.m.parts_ok HTS.out) hT5
            rw [← hq] at K1 K2 K3
            obtain ⟨⟨uk, ui, us⟩, err, T'⟩ := q
            dsimp only at K1 K2 K3
            have KC := Lib.hid K1
            have KD := Lib.hid K2
            have HOKR := Lib.hid K3
            clear K1 K2 K3 hq hpr
            go_wp2_with fail
            refine KC.out.mono ?_
            rintro e w8 hd
            obtain ⟨rfl, F8, d8, k8⟩ := HD7.out.useH hd
            have oa8 := OA7.out.kept k8
            have HD8 := Lib.hid (d8.put oa8.2 hAw (.int .i64 uk) (.int .i64 ui) (.string us))
            have HT8 := Lib.hid ((HT7.out.kept k8).put HTB.out (Nat.le_refl A) (.int .i64 uk) (.int .i64 ui) (.string us))
            have HA8 := Lib.hid ((HA7.out.kept (by have := hA7.out; omega) k8).put (Nat.le_refl A) (.int .i64 uk) (.int .i64 ui) (.string us))
            have OA8 := Lib.hid (oa8.put_same (.int .i64 uk) (.int .i64 ui) (.string us))
            have OB8 := Lib.hid ((OB7.out.kept k8).put_other (show A + 1 ≠ A by omega) (.int .i64 uk) (.int .i64 ui) (.string us))
            obtain ⟨⟨a0, a1, a2⟩, fa0, fa1, fa2⟩ := look3 oa8.1
            clear d8 k8 oa8 hd q0 q1 HD7 HT7 HA7 OA7 OB7 hA7 KC
            unfold VE
            go_upto_region 15 with fail
            generalize ((w8.setCell ⟨A, 0, none⟩ (.int .i64 uk)).setCell ⟨A, 1, none⟩ (.int .i64 ui)).setCell ⟨A, 2, none⟩ (.string us) = w9 at *
            clear a0 a1 a2 fa0 fa1 fa2
            have q0 := (HD8.out.b.cell (p := ⟨b, o + j * 4, none⟩) hbl).trans HQW.out
            have q1 := (HD8.out.b.cell (p := ⟨b, o + j * 4 + 1, none⟩) hbl).trans HKW.out
            go_wp2_with fail
            refine (KD.out _ _ HD8.out HA8.out).mono ?_
            rintro e w10 hd
            obtain ⟨rfl, G10, d10, k10⟩ := HD8.out.useM hd
            have ob10 := OB8.out.kept k10
            have HD11 := Lib.hid (d10.put ob10.2 (by omega) (.int .i64 uk) (.int .i64 ui) (.string us))
            have HT11 := Lib.hid ((HT8.out.kept k10).put HTB.out (Nat.le_succ A) (.int .i64 uk) (.int .i64 ui) (.string us))
            have OA11 := Lib.hid ((OA8.out.kept k10).put_other (show A ≠ A + 1 by omega) (.int .i64 uk) (.int .i64 ui) (.string us))
            have OB11 := Lib.hid (ob10.put_same (.int .i64 uk) (.int .i64 ui) (.string us))
            obtain ⟨⟨a0, a1, a2⟩, fa0, fa1, fa2⟩ := look3 ob10.1
            clear d10 k10 ob10 hd q0 q1 HD8 HT8 HA8 OA8 OB8 KD
            unfold VE
            go_upto_region 18 with fail
            generalize ((w10.setCell ⟨A + 1, 0, none⟩ (.int .i64 uk)).setCell ⟨A + 1, 1, none⟩ (.int .i64 ui)).setCell ⟨A + 1, 2, none⟩ (.string us) = w11 at *
            clear a0 a1 a2 fa0 fa1 fa2
            obtain ⟨⟨a0, a1, a2⟩, -⟩ := look3 OA11.out.1
            obtain ⟨⟨b0, b1, b2⟩, -⟩ := look3 OB11.out.1
            obtain ⟨ma, mc, m0, m1⟩ := HD11.out.m.len
            have KN := Lib.hid (fun n => count_any w.heap.size T' _ (w11.drewN n) (HD11.out.h.below (below_drewN (Below.refl _ _) n)))
            go_quiet (first | (go_at_call 13; exact Calls.quiet_of_same ((KN.out _).mono (fun e w' h => ⟨h.1, h.2.symm⟩))))
            have bq := below_drewN (Below.refl w11.heap.size w11) nq
            have HD12 := Lib.hid (HD11.out.below bq)
            have HT12 := Lib.hid (HT11.out.kept (Kept.of_below bq))
            have OA12 := Lib.hid (OA11.out.kept (Kept.of_below bq))
            clear a0 a1 a2 b0 b1 b2 m0 m1 KN HD11 HT11 OA11 OB11 bq
            generalize w11.drewN nq = w12 at *
            by_cases he : err = 0
            · subst he
              obtain ⟨⟨a0, a1, a2⟩, -⟩ := look3 OA12.out.1
              have HAL := Lib.hid (HD12.out.below (al w12 (.cells #[.int .i64 uk, .int .i64 ui, .string us] 36)))
              have HTA := Lib.hid (HT12.out.kept (Kept.of_below (al w12 (.cells #[.int .i64 uk, .int .i64 ui, .string us] 36))))
              have hsz := HAL.out.b.size
              have htl6 : told.length + 1 ≤ 1000 := by omega
              go_wp2_with (at_builtin; refine wpList_append_own_at _ rfl _ _ 30 rfl w.heap.size 36 i0 _ 3 32 Tryd.underlying30 hi hz0 hz1 hz2 rfl (by decide) _ told.length _ rfl HTA.out.1 ⟨w12.heap.size, 0, none⟩ 1 1 [.int .i64 uk, .int .i64 ui, .string us] rfl rfl (World.news_of_block (heap_alloc_new w12 _)) (by intro u hu; simp only [List.mem_cons, List.not_mem_nil, or_false] at hu; rcases hu with rfl | rfl | rfl <;> rfl) (by unfold maxLen; omega) (by omega) hsz ?_; intro v' w13 ho13 hg13 _ hv13)
              have HD13 := Lib.hid (HAL.out.grown hg13 (fun b e => ⟨(HTA.out.1.lt b e).1, HTA.out.2.2 b e⟩))
              have HT13 := Lib.hid (HTA.out.snoc (u := ⟨uk, ui, us⟩) ho13 HOKR.out.1 (fun b e => by
                rcases hv13 with e1 | e1
                · exact .inl (e1 ▸ e)
                · rw [e1] at e
                  cases e
                  exact .inr (HAL.out.apart (Nat.le_refl _))))
              clear ho13 hg13 hv13 HAL HTA a0 a1 a2
              exact ⟨⟨j + 1, by go_num, told ++ [⟨uk, ui, us⟩], T', F8, G10, by omega, by omega, HD13.out, HT13.out, by rw [List.length_append]; exact Nat.succ_le_succ htl, by have := HOKR.out.2.1; omega, HOKR.out.2.2⟩, by simp [intOf]; omega⟩
            · have e4 : (err == 0) = false := by simpa using he
              go_wp2
              go_roundw
              case rel => exact ⟨j + 1, by go_num, told, T', F8, G10, by omega, by omega, HD12.out, HT12.out, by omega, by have := HOKR.out.2.1; omega, HOKR.out.2.2⟩
              case measure => simp [intOf]; omega
          · have e0 : (prim.toList == []) = false := by simpa using hpr
            obtain ⟨q, K1', K2', K3'⟩ := both_do prim la hT5
            have K1 := K1' va _ w.heap.size F w7 (HR.out.at HD7.out.b) HD7.out.h (fun b hf => (HD7.out.f b hf).2) HA7.out
            have K2 := fun W F' (hD : DSt w w.heap.size mb q.2.2 T F' G W) (hA : ArgsA F' G A la va W) => K2' va _ mb G W hD.m (fun b hf => (hD.g b hf).2) hA
            have K3 := K3' (okV_all HA7.out) hl6 (HD7.out.m.parts_ok HTS.out) hT5
            obtain ⟨⟨uk, ui, us⟩, err, T'⟩ := q
            dsimp only at K1 K2 K3
            have KC := Lib.hid K1
            have KD := Lib.hid K2
            have HOKR := Lib.hid K3
            clear K1 K2 K3 K1' K2' K3' hpr
            go_wp2_with fail
            refine KC.out.mono ?_
            rintro e w8 hd
            obtain ⟨rfl, F8, d8, k8⟩ := HD7.out.useH hd
            have oa8 := OA7.out.kept k8
            have HD8 := Lib.hid (d8.put oa8.2 hAw (.int .i64 uk) (.int .i64 ui) (.string us))
            have HT8 := Lib.hid ((HT7.out.kept k8).put HTB.out (Nat.le_refl A) (.int .i64 uk) (.int .i64 ui) (.string us))
            have HA8 := Lib.hid ((HA7.out.kept (by have := hA7.out; omega) k8).put (Nat.le_refl A) (.int .i64 uk) (.int .i64 ui) (.string us))
            have OA8 := Lib.hid (oa8.put_same (.int .i64 uk) (.int .i64 ui) (.string us))
            have OB8 := Lib.hid ((OB7.out.kept k8).put_other (show A + 1 ≠ A by omega) (.int .i64 uk) (.int .i64 ui) (.string us))
            obtain ⟨⟨a0, a1, a2⟩, fa0, fa1, fa2⟩ := look3 oa8.1
            clear d8 k8 oa8 hd q0 q1 HD7 HT7 HA7 OA7 OB7 hA7 KC
            unfold VE
            go_upto_region 17 with fail
            generalize ((w8.setCell ⟨A, 0, none⟩ (.int .i64 uk)).setCell ⟨A, 1, none⟩ (.int .i64 ui)).setCell ⟨A, 2, none⟩ (.string us) = w9 at *
            clear a0 a1 a2 fa0 fa1 fa2
            have q0 := (HD8.out.b.cell (p := ⟨b, o + j * 4, none⟩) hbl).trans HQW.out
            have q1 := (HD8.out.b.cell (p := ⟨b, o + j * 4 + 1, none⟩) hbl).trans HKW.out
            go_wp2_with fail
            refine (KD.out _ _ HD8.out HA8.out).mono ?_
            rintro e w10 hd
            obtain ⟨rfl, G10, d10, k10⟩ := HD8.out.useM hd
            have ob10 := OB8.out.kept k10
            have HD11 := Lib.hid (d10.put ob10.2 (by omega) (.int .i64 uk) (.int .i64 ui) (.string us))
            have HT11 := Lib.hid ((HT8.out.kept k10).put HTB.out (Nat.le_succ A) (.int .i64 uk) (.int .i64 ui) (.string us))
            have OA11 := Lib.hid ((OA8.out.kept k10).put_other (show A ≠ A + 1 by omega) (.int .i64 uk) (.int .i64 ui) (.string us))
            have OB11 := Lib.hid (ob10.put_same (.int .i64 uk) (.int .i64 ui) (.string us))
            obtain ⟨⟨a0, a1, a2⟩, fa0, fa1, fa2⟩ := look3 ob10.1
            clear d10 k10 ob10 hd q0 q1 HD8 HT8 HA8 OA8 OB8 KD
            unfold VE
            go_upto_region 18 with fail
            generalize ((w10.setCell ⟨A + 1, 0, none⟩ (.int .i64 uk)).setCell ⟨A + 1, 1, none⟩ (.int .i64 ui)).setCell ⟨A + 1, 2, none⟩ (.string us) = w11 at *
            clear a0 a1 a2 fa0 fa1 fa2
            obtain ⟨⟨a0, a1, a2⟩, -⟩ := look3 OA11.out.1
            obtain ⟨⟨b0, b1, b2⟩, -⟩ := look3 OB11.out.1
            obtain ⟨ma, mc, m0, m1⟩ := HD11.out.m.len
            have KN := Lib.hid (fun n => count_any w.heap.size T' _ (w11.drewN n) (HD11.out.h.below (below_drewN (Below.refl _ _) n)))
            go_quiet (first | (go_at_call 13; exact Calls.quiet_of_same ((KN.out _).mono (fun e w' h => ⟨h.1, h.2.symm⟩))))
            have bq := below_drewN (Below.refl w11.heap.size w11) nq
            have HD12 := Lib.hid (HD11.out.below bq)
            have HT12 := Lib.hid (HT11.out.kept (Kept.of_below bq))
            have OA12 := Lib.hid (OA11.out.kept (Kept.of_below bq))
            clear a0 a1 a2 b0 b1 b2 m0 m1 KN HD11 HT11 OA11 OB11 bq
            generalize w11.drewN nq = w12 at *
            by_cases he : err = 0
            · subst he
              obtain ⟨⟨a0, a1, a2⟩, -⟩ := look3 OA12.out.1
              have HAL := Lib.hid (HD12.out.below (al w12 (.cells #[.int .i64 uk, .int .i64 ui, .string us] 36)))
              have HTA := Lib.hid (HT12.out.kept (Kept.of_below (al w12 (.cells #[.int .i64 uk, .int .i64 ui, .string us] 36))))
              have hsz := HAL.out.b.size
              have htl6 : told.length + 1 ≤ 1000 := by omega
              go_wp2_with (at_builtin; refine wpList_append_own_at _ rfl _ _ 30 rfl w.heap.size 36 i0 _ 3 32 Tryd.underlying30 hi hz0 hz1 hz2 rfl (by decide) _ told.length _ rfl HTA.out.1 ⟨w12.heap.size, 0, none⟩ 1 1 [.int .i64 uk, .int .i64 ui, .string us] rfl rfl (World.news_of_block (heap_alloc_new w12 _)) (by intro u hu; simp only [List.mem_cons, List.not_mem_nil, or_false] at hu; rcases hu with rfl | rfl | rfl <;> rfl) (by unfold maxLen; omega) (by omega) hsz ?_; intro v' w13 ho13 hg13 _ hv13)
              have HD13 := Lib.hid (HAL.out.grown hg13 (fun b e => ⟨(HTA.out.1.lt b e).1, HTA.out.2.2 b e⟩))
              have HT13 := Lib.hid (HTA.out.snoc (u := ⟨uk, ui, us⟩) ho13 HOKR.out.1 (fun b e => by
                rcases hv13 with e1 | e1
                · exact .inl (e1 ▸ e)
                · rw [e1] at e
                  cases e
                  exact .inr (HAL.out.apart (Nat.le_refl _))))
              clear ho13 hg13 hv13 HAL HTA a0 a1 a2
              exact ⟨⟨j + 1, by go_num, told ++ [⟨uk, ui, us⟩], T', F8, G10, by omega, by omega, HD13.out, HT13.out, by rw [List.length_append]; exact Nat.succ_le_succ htl, by have := HOKR.out.2.1; omega, HOKR.out.2.2⟩, by simp [intOf]; omega⟩
            · have e4 : (err == 0) = false := by simpa using he
              go_wp2
              go_roundw
              case rel => exact ⟨j + 1, by go_num, told, T', F8, G10, by omega, by omega, HD12.out, HT12.out, by omega, by have := HOKR.out.2.1; omega, HOKR.out.2.2⟩
              case measure => simp [intOf]; omega
      · have d2 : ¬ (j : Int) < 60 := by omega
        go_upto_region 22 with fail
        go_wp2
        go_loopw [12] (fun x wq => ∃ i : Nat, i ≤ T.length + 1 ∧ x = .int .i64 i ∧ DSt w w.heap.size mb T T F G wq) (fun x _ => T.length + 1 - (intOf x).toNat)
        case atStart => exact ⟨0, Nat.zero_le _, rfl, HD.out⟩
        case round =>
          obtain ⟨i, hi1, rfl, hDq⟩ := hrel
          have HDQ := Lib.hid hDq
          clear hDq
          obtain ⟨ma, mc, m0, m1⟩ := HDQ.out.m.len
          unfold maxLen at m1
          by_cases hile : i ≤ T.length
          · have d3 : (i : Int) ≤ (T.length : Int) := by omega
            by_cases hilt : i < T.length
            · obtain ⟨kd, pl, hTi⟩ : ∃ kd pl, T[i] = (kd, pl) := ⟨_, _, rfl⟩
              have hs1 : pl.length ≤ 1000 := by have := HTS.out _ (List.getElem_mem hilt); rw [hTi] at this; exact this
              have KT := Lib.hid (fun W (hD : DSt w w.heap.size mb T T F G W) => thing_any i ⟨#[]⟩ kd pl w.heap.size T F W hD.h (fun b hf => (hD.f b hf).2) (by decide) (by rw [has_thing]; exact decide_eq_true hilt) (by omega) (by rw [Int.toNat_natCast, List.getElem?_eq_getElem hilt, hTi]) (by omega))
              have HTI := Lib.hid hTi
              clear hTi
              go_wp2_with fail
              refine (KT.out _ HDQ.out).mono ?_
              rintro e w20 ⟨⟨pv, tg, rfl, hpt, htg⟩, hb20⟩
              obtain ⟨qa, qc, rfl, hq1, hq2⟩ := hpt.slice
              have A21 := al w20 (.cells #[.int .i64 kd, .slice qa pl.length qc] 43)
              have Z21 := Lib.hid (heap_alloc_new w20 (.cells #[.int .i64 kd, .slice qa pl.length qc] 43))
              have HD21 := Lib.hid ((HDQ.out.below hb20).below A21)
              have HPT := Lib.hid (hpt.move (fun h0 => A21.block tg (htg h0).2))
              have HTG : Hid (pl ≠ [] → tg < w20.heap.size) := Lib.hid (fun h0 => (htg h0).2)
              clear hpt htg hb20 m0 m1 HDQ KT A21
              go_upto_region 26 with fail
              generalize w20.alloc (.cells #[.int .i64 kd, .slice qa pl.length qc] 43) = w21 at *
              obtain ⟨tb, cap, gg, pv2, m0, m1, m2, m3, m4, m5, m6, -⟩ := HD21.out.m.thing i hilt
              rw [HTI.out] at m3 m5 m6
              dsimp only at m3 m5 m6
              obtain ⟨ra2, rc2, rfl, hr1, hr2⟩ := m6.slice
              have z0 : w21.cell? ⟨w20.heap.size, 0, none⟩ = some (.int .i64 kd) := by rw [Lib.cell_of_heap Z21.out]; rfl
              have z1 : w21.cell? ⟨w20.heap.size, 1, none⟩ = some (.slice qa pl.length qc) := by rw [Lib.cell_of_heap Z21.out]; rfl
              have KS := Lib.hid (sameThing_any kd pl (.slice qa pl.length qc) (.slice ra2 pl.length rc2) _ _ w21.drew (HPT.out.inP.belowP (Below.refl _ w21).drew) (m6.inP.belowP (Below.refl _ w21).drew))
              have d4 : decide ((i : Int) < (T.length : Int)) = true := decide_eq_true (by omega)
              unfold maxLen at m2
              clear m5 m6
              go_still_tail 20, (by kernel_rfl)
              change wpList _ _ _ _ _ w21.drew
              have HD22 := Lib.hid (HD21.out.below (Below.refl _ w21).drew)
              go_wp2_with (go_at_call 15; refine KS.out.mono ?_; rintro e w23 ⟨rfl, hb23⟩)
              go_roundw
              case rel => exact ⟨i + 1, by omega, by go_num, HD22.out.below hb23⟩
              case measure => simp [intOf]; omega
            · have hie : i = T.length := by omega
              subst hie
              have KT := Lib.hid (fun W (hD : DSt w w.heap.size mb T T F G W) => thing_none T.length ⟨#[]⟩ w.heap.size T F W hD.h (by decide) (by rw [has_thing]; exact decide_eq_false (Nat.lt_irrefl _)))
              go_wp2_with fail
              refine (KT.out _ HDQ.out).mono ?_
              rintro e w20 ⟨rfl, hb20⟩
              have HD21 := Lib.hid ((HDQ.out.below hb20).below (al w20 (.cells #[.int .i64 0, .slice none 0 0] 43)))
              clear hb20 m0 m1 HDQ KT
              go_upto_region 26 with fail
              generalize w20.alloc (.cells #[.int .i64 0, .slice none 0 0] 43) = w21 at *
              obtain ⟨ma2, mc2, m0, m1⟩ := HD21.out.m.len
              have d4 : decide ((T.length : Int) < (T.length : Int)) = false := decide_eq_false (by omega)
              go_quiet (fail)
              have bq := below_drewN (Below.refl w21.heap.size w21) nq
              have HD22 := Lib.hid (HD21.out.below bq)
              clear HD21 bq m0 m1
              generalize w21.drewN nq = w22 at *
              go_wp2
              go_roundw
              case rel => exact ⟨T.length + 1, by omega, by go_num, HD22.out⟩
              case measure => simp [intOf]
          · have d3 : ¬ (i : Int) ≤ (T.length : Int) := by omega
            go_wp2
            go_ret
            exact ⟨rfl, HDQ.out.b⟩
    · have d1 : ¬ (j : Int) < (ops.length : Int) := by omega
      go_upto_region 22 with fail
      go_wp2
      go_loopw [12] (fun x wq => ∃ i : Nat, i ≤ T.length + 1 ∧ x = .int .i64 i ∧ DSt w w.heap.size mb T T F G wq) (fun x _ => T.length + 1 - (intOf x).toNat)
      case atStart => exact ⟨0, Nat.zero_le _, rfl, HD.out⟩
      case round =>
        obtain ⟨i, hi1, rfl, hDq⟩ := hrel
        have HDQ := Lib.hid hDq
        clear hDq
        obtain ⟨ma, mc, m0, m1⟩ := HDQ.out.m.len
        unfold maxLen at m1
        by_cases hile : i ≤ T.length
        · have d3 : (i : Int) ≤ (T.length : Int) := by omega
          by_cases hilt : i < T.length
          · obtain ⟨kd, pl, hTi⟩ : ∃ kd pl, T[i] = (kd, pl) := ⟨_, _, rfl⟩
            have hs1 : pl.length ≤ 1000 := by have := HTS.out _ (List.getElem_mem hilt); rw [hTi] at this; exact this
            have KT := Lib.hid (fun W (hD : DSt w w.heap.size mb T T F G W) => thing_any i ⟨#[]⟩ kd pl w.heap.size T F W hD.h (fun b hf => (hD.f b hf).2) (by decide) (by rw [has_thing]; exact decide_eq_true hilt) (by omega) (by rw [Int.toNat_natCast, List.getElem?_eq_getElem hilt, hTi]) (by omega))
            have HTI := Lib.hid hTi
            clear hTi
            go_wp2_with fail
            refine (KT.out _ HDQ.out).mono ?_
            rintro e w20 ⟨⟨pv, tg, rfl, hpt, htg⟩, hb20⟩
            obtain ⟨qa, qc, rfl, hq1, hq2⟩ := hpt.slice
            have A21 := al w20 (.cells #[.int .i64 kd, .slice qa pl.length qc] 43)
            have Z21 := Lib.hid (heap_alloc_new w20 (.cells #[.int .i64 kd, .slice qa pl.length qc] 43))
            have HD21 := Lib.hid ((HDQ.out.below hb20).below A21)
            have HPT := Lib.hid (hpt.move (fun h0 => A21.block tg (htg h0).2))
            have HTG : Hid (pl ≠ [] → tg < w20.heap.size) := Lib.hid (fun h0 => (htg h0).2)
            clear hpt htg hb20 m0 m1 HDQ KT A21
            go_upto_region 26 with fail
            generalize w20.alloc (.cells #[.int .i64 kd, .slice qa pl.length qc] 43) = w21 at *
            obtain ⟨tb, cap, gg, pv2, m0, m1, m2, m3, m4, m5, m6, -⟩ := HD21.out.m.thing i hilt
            rw [HTI.out] at m3 m5 m6
            dsimp only at m3 m5 m6
            obtain ⟨ra2, rc2, rfl, hr1, hr2⟩ := m6.slice
            have z0 : w21.cell? ⟨w20.heap.size, 0, none⟩ = some (.int .i64 kd) := by rw [Lib.cell_of_heap Z21.out]; rfl
            have z1 : w21.cell? ⟨w20.heap.size, 1, none⟩ = some (.slice qa pl.length qc) := by rw [Lib.cell_of_heap Z21.out]; rfl
            have KS := Lib.hid (sameThing_any kd pl (.slice qa pl.length qc) (.slice ra2 pl.length rc2) _ _ w21.drew (HPT.out.inP.belowP (Below.refl _ w21).drew) (m6.inP.belowP (Below.refl _ w21).drew))
            have d4 : decide ((i : Int) < (T.length : Int)) = true := decide_eq_true (by omega)
            unfold maxLen at m2
            clear m5 m6
            go_still_tail 20, (by kernel_rfl)
            change wpList _ _ _ _ _ w21.drew
            have HD22 := Lib.hid (HD21.out.below (Below.refl _ w21).drew)
            go_wp2_with (go_at_call 15; refine KS.out.mono ?_; rintro e w23 ⟨rfl, hb23⟩)
            go_roundw
            case rel => exact ⟨i + 1, by omega, by go_num, HD22.out.below hb23⟩
            case measure => simp [intOf]; omega
          · have hie : i = T.length := by omega
            subst hie
            have KT := Lib.hid (fun W (hD : DSt w w.heap.size mb T T F G W) => thing_none T.length ⟨#[]⟩ w.heap.size T F W hD.h (by decide) (by rw [has_thing]; exact decide_eq_false (Nat.lt_irrefl _)))
            go_wp2_with fail
            refine (KT.out _ HDQ.out).mono ?_
            rintro e w20 ⟨rfl, hb20⟩
            have HD21 := Lib.hid ((HDQ.out.below hb20).below (al w20 (.cells #[.int .i64 0, .slice none 0 0] 43)))
            clear hb20 m0 m1 HDQ KT
            go_upto_region 26 with fail
            generalize w20.alloc (.cells #[.int .i64 0, .slice none 0 0] 43) = w21 at *
            obtain ⟨ma2, mc2, m0, m1⟩ := HD21.out.m.len
            have d4 : decide ((T.length : Int) < (T.length : Int)) = false := decide_eq_false (by omega)
            go_quiet (fail)
            have bq := below_drewN (Below.refl w21.heap.size w21) nq
            have HD22 := Lib.hid (HD21.out.below bq)
            clear HD21 bq m0 m1
            generalize w21.drewN nq = w22 at *
            go_wp2
            go_roundw
            case rel => exact ⟨T.length + 1, by omega, by go_num, HD22.out⟩
            case measure => simp [intOf]
        · have d3 : ¬ (i : Int) ≤ (T.length : Int) := by omega
          go_wp2
          go_ret
          exact ⟨rfl, HDQ.out.b⟩
end Go.Proofs.YtlolkhnaaelelaaDoor.Hp
