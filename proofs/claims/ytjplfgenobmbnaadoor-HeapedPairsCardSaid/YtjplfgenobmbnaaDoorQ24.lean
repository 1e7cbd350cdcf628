/-
The walk of the law HeapedPairs, for every row of data. Where the table of what is reckoned is as the program lays it.
-/
import Derived.Test.YtjplfgenobmbnaaDoorQ20
import Derived.Test.YtjplfgenobmbnaaDoorQ21
import Derived.Deep.RegionLaw
namespace Go.Proofs.YtjplfgenobmbnaaDoor.Hp
open Go.ChangeShapes Go.WideShapes Go.ChangeAt Go.RowKit Go.Deep
open Dat (PT ok64 RepV RepS RowX infoDatum NewV NewS makeT make_any MakeOk numT numsT)
set_option maxRecDepth 100000

theorem TellR.grow {T X : List (Int × List PV)} : ∀ {m : Nat} {v : PV} {d : PT} {c : Nat}, TellR T m v d c → TellR (T ++ X) m v d c
  | _, _, _, _, .leaf m v hm h0 h7 ho => .leaf m v hm h0 h7 ho
  | _, _, _, _, .pair m i s a b d1 d2 c1 c2 hm hi hT ha hb => .pair m i s a b d1 d2 c1 c2 hm hi (by
      have hj := (List.getElem?_eq_some_iff.1 hT).1
      rw [List.getElem?_append_left hj]; exact hT) ha.grow hb.grow
theorem shown_nil {v : PV} {k i : Int} {s : ByteArray} {l : List PT} (h : shownT v = .mk k i s l) : l = [] := by
  unfold shownT symT at h
  split at h
  · injection h with _ _ _ h; exact h.symm
  · split at h
    · injection h with _ _ _ h; exact h.symm
    · split at h
      · injection h with _ _ _ h; exact h.symm
      · split at h
        · injection h with _ _ _ h; exact h.symm
        · split at h <;> (injection h with _ _ _ h; exact h.symm)
/-- A list that is made pair by pair. -/
def ListR (T : List (Int × List PV)) (v : PV) (acc : List PT) : Prop := TellR T 0 v (.mk 5 0 ⟨#[]⟩ acc) (2 * acc.length + 1) ∧ hasB T.length v = true ∧ okV v
theorem listR_nil (T : List (Int × List PV)) : ListR T ⟨4, 0, ⟨#[]⟩⟩ [] := by
  have e0 : (⟨#[]⟩ : ByteArray).toList = [] := by kernel_rfl
  refine ⟨?_, by simp [hasB, numB, e0], ok_num (by decide) (by decide) 4 (by decide) (by decide)⟩
  have := TellR.leaf (T := T) 0 ⟨4, 0, ⟨#[]⟩⟩ (by decide) (by decide) (by decide) (ok_num (by decide) (by decide) 4 (by decide) (by decide))
  rwa [show shownT ⟨4, 0, ⟨#[]⟩⟩ = .mk 5 0 ⟨#[]⟩ [] by simp [shownT]] at this
theorem has_thing {n : Nat} {i : Int} (h0 : 0 ≤ i) (h1 : i < n) : hasB n ⟨8, i, ⟨#[]⟩⟩ = true := by
  have e0 : (⟨#[]⟩ : ByteArray).toList = [] := by kernel_rfl
  simp [hasB, numB, e0, h0]
  omega
theorem listR_cons {T : List (Int × List PV)} {c v : PV} {d : PT} {acc : List PT} {X : List (Int × List PV)} (h : ListR T v acc) (h0 : 0 ≤ c.k) (h7 : c.k ≤ 7) (ho : okV c) (hd : shownT c = d) (hT : T.length ≤ 100000) :
    ListR (T ++ (0, [c, v]) :: X) ⟨8, T.length, ⟨#[]⟩⟩ (d :: acc) := by
  subst hd
  refine ⟨?_, has_thing (by omega) (by simp; omega), ok_num (by omega) (by omega) 8 (by decide) (by decide)⟩
  have := TellR.pair (T := T ++ (0, [c, v]) :: X) 0 (T.length : Int) ⟨#[]⟩ c v (shownT c) (.mk 5 0 ⟨#[]⟩ acc) 1 (2 * acc.length + 1) (by decide) (by omega) (by simp) (.leaf 1 c (by decide) h0 h7 ho) h.1.grow
  rw [show makeT [shownT c] (.mk 5 0 ⟨#[]⟩ acc) = .mk 5 0 ⟨#[]⟩ (shownT c :: acc) by simp [makeT]] at this
  rwa [show 1 + (1 + (2 * acc.length + 1)) = 2 * (shownT c :: acc).length + 1 by simp; omega] at this
theorem hasB_grow {n m : Nat} {v : PV} (h : hasB n v = true) (hnm : n ≤ m) : hasB m v = true := by
  unfold hasB at h ⊢
  by_cases h8 : v.k = 8
  · rw [if_neg (by omega), if_neg (by omega), if_neg (by omega), if_neg (by omega), if_neg (by omega), if_pos h8] at h ⊢
    simp only [numB, decide_eq_true_eq] at h ⊢
    exact ⟨h.1, by omega, h.2.2⟩
  · by_cases h0 : v.k = 0
    · rw [if_pos h0] at h ⊢; exact h
    · by_cases h1 : v.k = 1
      · rw [if_neg h0, if_pos h1] at h ⊢; exact h
      · by_cases h2 : v.k = 2
        · rw [if_neg h0, if_neg h1, if_pos h2] at h ⊢; exact h
        · by_cases h3 : v.k = 3
          · rw [if_neg h0, if_neg h1, if_neg h2, if_pos h3] at h ⊢; exact h
          · by_cases h4 : v.k = 4 ∨ v.k = 5 ∨ v.k = 6 ∨ v.k = 7
            · rw [if_neg h0, if_neg h1, if_neg h2, if_neg h3, if_pos h4] at h ⊢; exact h
            · rw [if_neg h0, if_neg h1, if_neg h2, if_neg h3, if_neg h4, if_neg h8] at h; cases h
/-- A caller's own block is written. -/
theorem Ctx.set3 {w W : World} {hb : Nat} {T : List (Int × List PV)} {F : Nat → Prop} {R : Nat} {x0 x1 x2 : Value} (h : Ctx w hb T F W) (hl : Loc F W R (.cells #[x0, x1, x2] 28)) (hR : w.heap.size ≤ R) (y0 y1 y2 : Value) :
    Ctx w hb T F (((W.setCell ⟨R, 0, none⟩ y0).setCell ⟨R, 1, none⟩ y1).setCell ⟨R, 2, none⟩ y2) ∧ Loc F (((W.setCell ⟨R, 0, none⟩ y0).setCell ⟨R, 1, none⟩ y1).setCell ⟨R, 2, none⟩ y2) R (.cells #[y0, y1, y2] 28) ∧
      (∀ b, b ≠ R → (((W.setCell ⟨R, 0, none⟩ y0).setCell ⟨R, 1, none⟩ y1).setCell ⟨R, 2, none⟩ y2).heap[b]? = W.heap[b]?) := by
  refine ⟨⟨h.1.move (fun b hb _ => put3_other _ _ _ (fun e => hl.2 (e ▸ hb))) (fun _ h => h), fun b hb => ?_, put3_below h.2.2 hR _ _ _⟩, ⟨put3 hl.1 _ _ _, hl.2⟩, fun b hb => put3_other _ _ _ hb⟩
  have := h.2.1 b hb
  refine ⟨this.1, ?_⟩
  rw [size_put, size_put, size_put]
  exact this.2
/-- What the law's variables hold. -/
def PSt (w : World) (Bv : Nat) (T : List (Int × List PV)) (F : Nat → Prop) (u : PV) (wv : Value) (acc : List PT) (W : World) : Prop :=
  Ctx w w.heap.size T F W ∧ Loc F W Bv (.cells #[.int .i64 u.k, .int .i64 u.i, .string u.s] 28) ∧ Loc F W (Bv + 1) (.cells #[.int .i64 5, .int .i64 0, .string ⟨#[]⟩, wv] 24) ∧ InS W (fun b => ¬ F b ∧ b ≠ Bv ∧ b ≠ Bv + 1) acc wv
theorem PSt.below {w W W' : World} {Bv : Nat} {T : List (Int × List PV)} {F : Nat → Prop} {u : PV} {wv : Value} {acc : List PT} (h : PSt w Bv T F u wv acc W) (hb : Below W.heap.size W W') : PSt w Bv T F u wv acc W' :=
  ⟨h.1.below hb, h.2.1.below hb, h.2.2.1.below hb, ins_below h.2.2.2 hb⟩
theorem PSt.use {w W w' : World} {Bv : Nat} {T T' : List (Int × List PV)} {F : Nat → Prop} {u : PV} {wv : Value} {acc : List PT} {r : PV} {err : Int} {e : Ending} (h : PSt w Bv T F u wv acc W) (hd : DoOk W w.heap.size F r err T' e w') :
    e = VE r err ∧ ∃ F', PSt w Bv T' F' u wv acc w' ∧ W.heap.size ≤ w'.heap.size ∧ ∀ R o, Loc F W R o → Loc F' w' R o := by
  obtain ⟨h1, F', h2, h3, h4⟩ := h.1.use hd
  refine ⟨h1, F', ⟨h2, h4 _ _ h.2.1, h4 _ _ h.2.2.1, h.2.2.2.move (fun b hb hlt => ⟨(h4 b _ ⟨Array.getElem?_eq_getElem hlt, hb.1⟩).2, hb.2⟩) (fun b o v hb hv => ?_)⟩, h3, h4⟩
  have hlt := World.block_lt_of_cell? _ _ hv
  have := (h4 b _ ⟨Array.getElem?_eq_getElem hlt, hb.1⟩).1
  rw [World.cell?_of_block (w := W) (a := ⟨b, o, none⟩) (this.trans (Array.getElem?_eq_getElem hlt).symm)]
  exact hv
/-- The caller's datum has another list. -/
theorem PSt.want {w W W' : World} {Bv : Nat} {T : List (Int × List PV)} {F S : Nat → Prop} {u : PV} {wv v' : Value} {acc acc' : List PT} (h : PSt w Bv T F u wv acc W) (hBv : w.heap.size ≤ Bv) (hS : ∀ b, S b → ¬ F b ∧ b ≠ Bv ∧ b ≠ Bv + 1)
    (hb : Below W.heap.size W W') (ho : RowOwnS W' W.heap.size S acc' v') : PSt w Bv T F u v' acc' (W'.setCell ⟨Bv + 1, 3, none⟩ v') := by
  have hP := h.below hb
  have ot : ∀ b, b ≠ Bv + 1 → (W'.setCell ⟨Bv + 1, 3, none⟩ v').heap[b]? = W'.heap[b]? := fun b hb => Below.heap_setCell _ _ _ _ hb
  have hlt1 : Bv < W.heap.size := lt_of_block h.2.1.1
  have hlt2 : Bv + 1 < W.heap.size := lt_of_block h.2.2.1.1
  refine ⟨⟨hP.1.1.move (fun b hb _ => ot b (fun e => hP.2.2.1.2 (e ▸ hb))) (fun _ h => h), fun b hb => ?_, hP.1.2.2.setCell (p := ⟨Bv + 1, 3, none⟩) (by show _ ≤ Bv + 1; omega) _⟩, ⟨(ot _ (by omega)).trans hP.2.1.1, hP.2.1.2⟩, ⟨heap_setCell_same _ _ 3 _ _ _ hP.2.2.1.1, hP.2.2.1.2⟩, ?_⟩
  · rw [size_put]
    exact hP.1.2.1 b hb
  · refine ho.ins.move (fun b hb _ => ?_) (fun b o v hb hv => ?_)
    · rcases hb with hb | hb
      · exact hS b hb
      · exact ⟨fun hf => by have := (h.1.2.1 b hf).2; omega, by omega, by omega⟩
    · have : b ≠ Bv + 1 := by
        rcases hb with hb | hb
        · exact (hS b hb).2.2
        · omega
      rw [World.cell?_of_block (w := W') (a := ⟨b, o, none⟩) (ot b this)]
      exact hv
/-- The caller's value is written. -/
theorem PSt.put {w W : World} {Bv : Nat} {T : List (Int × List PV)} {F : Nat → Prop} {u : PV} {wv : Value} {acc : List PT} (h : PSt w Bv T F u wv acc W) (hBv : w.heap.size ≤ Bv) (y : PV) :
    PSt w Bv T F y wv acc (((W.setCell ⟨Bv, 0, none⟩ (.int .i64 y.k)).setCell ⟨Bv, 1, none⟩ (.int .i64 y.i)).setCell ⟨Bv, 2, none⟩ (.string y.s)) := by
  obtain ⟨a1, a2, a3⟩ := h.1.set3 h.2.1 hBv (.int .i64 y.k) (.int .i64 y.i) (.string y.s)
  refine ⟨a1, a2, ⟨(a3 _ (by omega)).trans h.2.2.1.1, h.2.2.1.2⟩, h.2.2.2.move (fun b hb _ => hb) (fun b o v hb hv => ?_)⟩
  rw [World.cell?_of_block (w := W) (a := ⟨b, o, none⟩) (a3 b hb.2.1)]
  exact hv
theorem lit_row {W : World} {base g : Nat} {S : Nat → Prop} {k i : Int} {s : ByteArray} {m : List PT} {v : Value} (h : W.heap[g]? = some (.cells #[.int .i64 k, .int .i64 i, .string s, v] 24 (0, 0))) (hb : base ≤ g) (h1 : ok64 k) (h2 : ok64 i) (h3 : s.size ≤ maxLen) (hv : InS W S m v) :
    RowOwnS W base S [.mk k i s m] (.slice (some ⟨g, 0, none⟩) 1 1) :=
  ⟨[.int .i64 k, .int .i64 i, .string s, v], ⟨rfl, .inr ⟨g, 1, #[.int .i64 k, .int .i64 i, .string s, v], rfl, hb, h, Nat.le_refl _, by decide, rfl, rfl⟩⟩, by rw [RowX]; exact ⟨v, [], rfl, h1, h2, h3, hv, by rw [RowX]⟩⟩
/-- How things stand in the law's loop. -/
def PairsSt (w : World) (l : List PT) (Bv : Nat) (x : Value) (wr : World) : Prop :=
  ∃ (j : Nat) (acc : List PT) (T : List (Int × List PV)) (F : Nat → Prop) (u : PV) (wv : Value), j ≤ l.length ∧ j ≤ 60 ∧ x = .int .i64 (j : Int) ∧ acc.length ≤ j ∧ T.length = 2 * acc.length ∧ ListR T u acc ∧ PSt w Bv T F u wv acc wr
set_option maxHeartbeats 4000000 in
theorem pairs_walk (l : List PT) (v : Value) (w : World) (hl : RepS w w.heap.size l v) (hR : RecOk w) :
    Calls Tryd.prog 4 #[v] w fun e w' => e = .returned (.bool true) ∧ Below w.heap.size w w' := by
  have HL := Lib.hid hl
  have HR := Lib.hid hR
  obtain ⟨a, c, rfl, hlc, hcm, _, hor⟩ := hl
  have HOR := Lib.hid hor
  unfold maxLen at hcm
  clear hR hor
  go_enter Tryd.func4, Tryd.ntmps4
  go_wp2_with fail
  refine (new_any _).mono ?_
  rintro e w1 ⟨rfl, h1, hb1, hlt1⟩
  have C1 : Hid (Ctx w w.heap.size [] (· = w.heap.size) w1) := Lib.hid ⟨h1, fun b e => ⟨by omega, by omega⟩, hb1⟩
  have KF := Lib.hid (fixed_any w1 (C1.out.rec HR.out))
  clear h1 hb1 hlt1
  go_wp2_with fail
  refine KF.out.mono ?_
  rintro e w2 ⟨rfl, hb2⟩
  have C2 := Lib.hid (C1.out.below hb2)
  clear hb2 C1 KF
  have LV := Lib.hid (C2.out.loc (.cells #[.int .i64 4, .int .i64 0, .string ⟨#[]⟩] 28))
  have C3 := Lib.hid (C2.out.below (al w2 (.cells #[.int .i64 4, .int .i64 0, .string ⟨#[]⟩] 28)))
  have LW := Lib.hid (C3.out.loc (.cells #[.int .i64 5, .int .i64 0, .string ⟨#[]⟩, .slice none 0 0] 24))
  have C4 := Lib.hid (C3.out.below (al (w2.alloc (.cells #[.int .i64 4, .int .i64 0, .string ⟨#[]⟩] 28)) (.cells #[.int .i64 5, .int .i64 0, .string ⟨#[]⟩, .slice none 0 0] 24)))
  have LV4 := Lib.hid (LV.out.below (al (w2.alloc (.cells #[.int .i64 4, .int .i64 0, .string ⟨#[]⟩] 28)) (.cells #[.int .i64 5, .int .i64 0, .string ⟨#[]⟩, .slice none 0 0] 24)))
  have HBV : Hid (w.heap.size ≤ w2.heap.size) := Lib.hid C2.out.2.2.size
  rw [size_new] at LW
  clear C2 C3 LV
  go_wp2
  generalize (w2.alloc (.cells #[.int .i64 4, .int .i64 0, .string ⟨#[]⟩] 28)).alloc (.cells #[.int .i64 5, .int .i64 0, .string ⟨#[]⟩, .slice none 0 0] 24) = w4 at *
  generalize w2.heap.size = Bv at *
  go_loopw [6] (fun x wr => PairsSt w l Bv x wr) (fun x _ => 60 - (intOf x).toNat)
  case atStart => exact ⟨0, [], [], _, ⟨4, 0, ⟨#[]⟩⟩, .slice none 0 0, Nat.zero_le _, Nat.zero_le _, rfl, Nat.le_refl _, rfl, listR_nil _, C4.out, LV4.out, LW.out, ⟨none, 0, rfl, Nat.le_refl _, Nat.zero_le _, fun _ => rfl, .inl rfl⟩⟩
  case round =>
    obtain ⟨j, acc, T, F, ⟨uk, ui, us⟩, wv, hj, hj60, rfl, hacc, hTl, hlist, hP⟩ := hrel
    obtain ⟨wa, wc, rfl, hwl, hwm, _⟩ := hP.2.2.2
    have HP := Lib.hid hP
    have HLI := Lib.hid hlist
    have HTL := Lib.hid hTl
    have hTle : T.length ≤ 120 := by omega
    unfold maxLen at hwm
    clear hP hlist hTl LW LV4 C4
    by_cases hlt : j < l.length
    · by_cases h60 : j < 60
      · obtain ⟨b, o, ea, hb, hr⟩ := HOR.out.resolve_left (by rintro rfl; cases hlt)
        subst ea
        obtain ⟨k, i, s, m, x, hjl, ok1, ok2, ok3, d0', d1', d2', d3', hx'⟩ := Dat.repAt_item hr hlt
        have DW : ∀ W, Below w.heap.size w W → W.cell? ⟨b, o + j * 4, none⟩ = some (.int .i64 k) ∧ W.cell? ⟨b, o + j * 4 + 1, none⟩ = some (.int .i64 i) ∧ W.cell? ⟨b, o + j * 4 + 2, none⟩ = some (.string s) ∧ W.cell? ⟨b, o + j * 4 + 3, none⟩ = some x := fun W hW => by
          have e : ∀ q, W.cell? ⟨b, q, none⟩ = w.cell? ⟨b, q, none⟩ := fun q => World.cell?_of_block (w := w) (a := ⟨b, q, none⟩) (hW.block b hb)
          rw [e, e, e, e]
          exact ⟨d0', d1', d2', d3'⟩
        have hx := hx'.below HP.out.1.2.2 (Nat.le_refl _)
        obtain ⟨d0, d1, d2, d3⟩ := DW _ HP.out.1.2.2
        clear d0' d1' d2' d3' hx'
        have HDW := Lib.hid DW
        clear DW
        have hbb : b < wr.heap.size := World.block_lt_of_cell? _ _ d0
        have HX : Hid (RepV wr wr.heap.size (.mk k i s m) x) := Lib.hid ⟨ok1, ok2, ok3, hx.move HP.out.1.2.2.size fun _ _ _ => rfl⟩
        have HCF := Lib.hid (fun (h : (constT (.mk k i s m)).2 = true) n => const_facts (i := i) ok3 h n)
        obtain ⟨xa, xc, rfl, hx1, hx2, hx3, _⟩ := hx
        have HXC := Lib.hid (And.intro hx1 (And.intro hx2 hx3))
        clear hx1 hx2 hx3
        have KC := Lib.hid (const_any k i s m (.slice xa m.length xc) wr HX.out)
        generalize constT (.mk k i s m) = r at KC HCF
        obtain ⟨⟨ck, ci, cs⟩, cb⟩ := r
        clear hr
        go_wp2_with fail
        refine KC.out.mono ?_
        rintro e w5 ⟨rfl, hb5⟩
        have P5 := Lib.hid (HP.out.below hb5)
        have P6 := Lib.hid (P5.out.below (al w5 (.cells #[.int .i64 ck, .int .i64 ci, .string cs] 28)))
        have LC := Lib.hid (P5.out.1.loc (.cells #[.int .i64 ck, .int .i64 ci, .string cs] 28))
        clear hb5 P5 KC HP
        unfold VB
        cases cb
        · go_wp2
          generalize w5.alloc (.cells #[.int .i64 ck, .int .i64 ci, .string cs] 28) = w6 at *
          go_roundw
          case rel => exact ⟨j + 1, acc, T, F, ⟨uk, ui, us⟩, _, by omega, by omega, by go_num, by omega, HTL.out, HLI.out, P6.out⟩
          case measure => simp [intOf]; omega
        · obtain ⟨f1, f2, f3, f4, f5⟩ := HCF.out rfl T.length
          have FC := Lib.hid (HCF.out rfl T.length)
          obtain rfl := shown_nil f5
          clear f1 f2 f3 f4 f5 HCF
          obtain ⟨⟨v0, v1, v2⟩, -⟩ := look3 P6.out.2.1.1
          obtain ⟨⟨k0, k1, k2⟩, -⟩ := look3 LC.out.1
          have hu : hasB T.length ⟨uk, ui, us⟩ = true := HLI.out.2.1
          -- the first pair
          have A7 := al (w5.alloc (.cells #[.int .i64 ck, .int .i64 ci, .string cs] 28)) (.cells #[.int .i64 ck, .int .i64 ci, .string cs, .int .i64 uk, .int .i64 ui, .string us] 28)
          have OKL : Hid (∀ v ∈ [(⟨ck, ci, cs⟩ : PV), ⟨uk, ui, us⟩], okV v) := Lib.hid (by intro v hv; simp only [List.mem_cons, List.not_mem_nil, or_false] at hv; rcases hv with rfl | rfl; exact FC.out.2.2.2.1; exact HLI.out.2.2)
          have KP := Lib.hid (do_cons ⟨ck, ci, cs⟩ ⟨uk, ui, us⟩ ((P6.out.below A7).1.rec HR.out) (P6.out.below A7).1.1 (P6.out.below A7).1.lt (lit_inP (l := [⟨ck, ci, cs⟩, ⟨uk, ui, us⟩]) (heap_alloc_new _ _) OKL.out (by simp)) FC.out.1 hu (by omega))
          have P7 := Lib.hid (P6.out.below A7)
          have LC7 := Lib.hid (LC.out.below A7)
          rw [size_new] at KP
          clear A7 P6 LC hu
          go_wp2_with fail
          generalize (w5.alloc (.cells #[.int .i64 ck, .int .i64 ci, .string cs] 28)).alloc (.cells #[.int .i64 ck, .int .i64 ci, .string cs, .int .i64 uk, .int .i64 ui, .string us] 28) = w7 at *
          refine KP.out.mono ?_
          rintro e w8 hd
          obtain ⟨rfl, F8, p8, s8, l8⟩ := P7.out.use hd
          have P8 := Lib.hid p8
          have LC8 := Lib.hid (l8 _ _ LC7.out)
          clear hd p8 s8 l8 P7 LC7 KP v0 v1 v2 k0 k1 k2
          have HCC := Lib.hid FC.out.1
          have E8 : Hid ((T ++ [(0, [(⟨ck, ci, cs⟩ : PV), ⟨uk, ui, us⟩])]).length = T.length + 1) := Lib.hid (by simp)
          have HV8 : Hid (hasB (T ++ [(0, [(⟨ck, ci, cs⟩ : PV), ⟨uk, ui, us⟩])]).length ⟨uk, ui, us⟩ = true) := Lib.hid (hasB_grow HLI.out.2.1 (by have := E8.out; omega))
          have HC8 : Hid (hasB (T ++ [(0, [(⟨ck, ci, cs⟩ : PV), ⟨uk, ui, us⟩])]).length ⟨ck, ci, cs⟩ = true) := Lib.hid (hasB_grow HCC.out (by have := E8.out; omega))
          clear HCC
          unfold VE
          have LP := Lib.hid (P8.out.1.loc (.cells #[.int .i64 8, .int .i64 (T.length : Int), .string ⟨#[]⟩] 28))
          have A9 := al w8 (.cells #[.int .i64 8, .int .i64 (T.length : Int), .string ⟨#[]⟩] 28)
          have P9 := Lib.hid (P8.out.below A9)
          have LC9 := Lib.hid (LC8.out.below A9)
          have A10 := al (w8.alloc (.cells #[.int .i64 8, .int .i64 (T.length : Int), .string ⟨#[]⟩] 28)) (.cells #[.int .i64 ck, .int .i64 ci, .string cs, .int .i64 uk, .int .i64 ui, .string us] 28)
          have P10 := Lib.hid (P9.out.below A10)
          have LC10 := Lib.hid (LC9.out.below A10)
          have LP10 := Lib.hid (LP.out.below A10)
          have KQ := Lib.hid (do_cons ⟨ck, ci, cs⟩ ⟨uk, ui, us⟩ (P10.out.1.rec HR.out) P10.out.1.1 P10.out.1.lt (lit_inP (l := [⟨ck, ci, cs⟩, ⟨uk, ui, us⟩]) (heap_alloc_new _ _) OKL.out (by simp)) HC8.out HV8.out (by have := E8.out; omega))
          rw [size_new] at KQ
          obtain ⟨⟨v0, v1, v2⟩, -⟩ := look3 P9.out.2.1.1
          obtain ⟨⟨k0, k1, k2⟩, -⟩ := look3 LC9.out.1
          clear A9 A10 P9 LC9 LP P8 LC8
          go_wp2_with fail
          generalize (w8.alloc (.cells #[.int .i64 8, .int .i64 (T.length : Int), .string ⟨#[]⟩] 28)).alloc (.cells #[.int .i64 ck, .int .i64 ci, .string cs, .int .i64 uk, .int .i64 ui, .string us] 28) = w10 at *
          generalize w8.heap.size = bp at *
          refine KQ.out.mono ?_
          rintro e w11 hd
          obtain ⟨rfl, F11, p11, s11, l11⟩ := P10.out.use hd
          have P11 := Lib.hid p11
          have LC11 := Lib.hid (l11 _ _ LC10.out)
          have LP11 := Lib.hid (l11 _ _ LP10.out)
          clear hd p11 s11 l11 P10 LC10 LP10 KQ v0 v1 v2 k0 k1 k2
          generalize hT8 : T ++ [(0, [(⟨ck, ci, cs⟩ : PV), ⟨uk, ui, us⟩])] = T8 at *
          have HT8 := Lib.hid hT8
          clear hT8
          -- eq?
          have E11 : Hid ((T8 ++ [(0, [(⟨ck, ci, cs⟩ : PV), ⟨uk, ui, us⟩])]).length = T.length + 2) := Lib.hid (by have := E8.out; simp; omega)
          unfold VE
          have LQ := Lib.hid (P11.out.1.loc (.cells #[.int .i64 8, .int .i64 (T8.length : Int), .string ⟨#[]⟩] 28))
          have A12 := al w11 (.cells #[.int .i64 8, .int .i64 (T8.length : Int), .string ⟨#[]⟩] 28)
          have P12 := Lib.hid (P11.out.below A12)
          have LP12 := Lib.hid (LP11.out.below A12)
          have A13 := al (w11.alloc (.cells #[.int .i64 8, .int .i64 (T8.length : Int), .string ⟨#[]⟩] 28)) (.cells #[.int .i64 8, .int .i64 (T.length : Int), .string ⟨#[]⟩, .int .i64 8, .int .i64 (T8.length : Int), .string ⟨#[]⟩] 28)
          have P13 := Lib.hid (P12.out.below A13)
          have LP13 := Lib.hid (LP12.out.below A13)
          have OKP : Hid (∀ v ∈ [(⟨8, T.length, ⟨#[]⟩⟩ : PV), ⟨8, T8.length, ⟨#[]⟩⟩], okV v) := Lib.hid (by
            have := E8.out
            intro v hv; simp only [List.mem_cons, List.not_mem_nil, or_false] at hv
            rcases hv with rfl | rfl <;> exact ok_num (by omega) (by omega) 8 (by decide) (by decide))
          have KE0 := do_eqq 8 T.length ⟨#[]⟩ 8 T8.length ⟨#[]⟩ false (by have := E8.out; simp; omega) (P13.out.1.rec HR.out) P13.out.1.1 P13.out.1.lt (lit_inP (l := [⟨8, T.length, ⟨#[]⟩⟩, ⟨8, T8.length, ⟨#[]⟩⟩]) (heap_alloc_new _ _) OKP.out (by simp)) (has_thing (by omega) (by have := E11.out; omega)) (has_thing (by omega) (by have := E11.out; have := E8.out; omega))
          simp only [Bool.false_eq_true, if_false] at KE0
          have KE := Lib.hid KE0
          rw [size_new] at KE
          obtain ⟨⟨p0, p1, p2⟩, -⟩ := look3 LP12.out.1
          clear A12 A13 P12 LP12 LQ P11 LP11 KE0 LC11 OKP
          go_wp2_with fail
          generalize (w11.alloc (.cells #[.int .i64 8, .int .i64 (T8.length : Int), .string ⟨#[]⟩] 28)).alloc (.cells #[.int .i64 8, .int .i64 (T.length : Int), .string ⟨#[]⟩, .int .i64 8, .int .i64 (T8.length : Int), .string ⟨#[]⟩] 28) = w13 at *
          generalize w11.heap.size = bq at *
          refine KE.out.mono ?_
          rintro e w14 hd
          obtain ⟨rfl, F14, p14, s14, l14⟩ := P13.out.use hd
          have P14 := Lib.hid p14
          have LP14 := Lib.hid (l14 _ _ LP13.out)
          clear hd p14 s14 l14 P13 LP13 KE p0 p1 p2
          -- cdr
          unfold VE
          have LS := Lib.hid (P14.out.1.loc (.cells #[.int .i64 0, .int .i64 0, .string ⟨#[]⟩] 28))
          have A15 := al w14 (.cells #[.int .i64 0, .int .i64 0, .string ⟨#[]⟩] 28)
          have P15 := Lib.hid (P14.out.below A15)
          have LP15 := Lib.hid (LP14.out.below A15)
          have A16 := al (w14.alloc (.cells #[.int .i64 0, .int .i64 0, .string ⟨#[]⟩] 28)) (.cells #[.int .i64 8, .int .i64 (T.length : Int), .string ⟨#[]⟩] 28)
          have P16 := Lib.hid (P15.out.below A16)
          have LP16 := Lib.hid (LP15.out.below A16)
          have LS16 := Lib.hid (LS.out.below A16)
          have OKP : Hid (∀ v ∈ [(⟨8, T.length, ⟨#[]⟩⟩ : PV)], okV v) := Lib.hid (by
            intro v hv; simp only [List.mem_cons, List.not_mem_nil, or_false] at hv
            subst hv; exact ok_num (by omega) (by omega) 8 (by decide) (by decide))
          have KD := Lib.hid (do_cdr T.length ⟨#[]⟩ ⟨ck, ci, cs⟩ ⟨uk, ui, us⟩ [] P16.out.1.1 P16.out.1.lt (lit_inP (l := [⟨8, T.length, ⟨#[]⟩⟩]) (heap_alloc_new _ _) OKP.out (by simp)) (has_thing (by omega) (by have := E11.out; omega)) (by omega) (by rw [← HT8.out]; simp))
          rw [size_new] at KD
          obtain ⟨⟨p0, p1, p2⟩, -⟩ := look3 LP15.out.1
          clear A15 A16 P15 LP15 LS P14 LP14 OKP
          go_wp2_with fail
          generalize (w14.alloc (.cells #[.int .i64 0, .int .i64 0, .string ⟨#[]⟩] 28)).alloc (.cells #[.int .i64 8, .int .i64 (T.length : Int), .string ⟨#[]⟩] 28) = w16 at *
          generalize w14.heap.size = bs at *
          refine KD.out.mono ?_
          rintro e w17 hd
          obtain ⟨rfl, F17, p17, s17, l17⟩ := P16.out.use hd
          have P17 := Lib.hid p17
          have LP17 := Lib.hid (l17 _ _ LP16.out)
          have LS17 := Lib.hid (l17 _ _ LS16.out)
          clear hd p17 s17 l17 P16 LP16 LS16 KD p0 p1 p2
          unfold VE
          have A18 := al w17 (.cells #[.int .i64 uk, .int .i64 ui, .string us] 28)
          have P18 := Lib.hid (P17.out.below A18)
          have LP18 := Lib.hid (LP17.out.below A18)
          have LS18 := Lib.hid (LS17.out.below A18)
          obtain ⟨⟨v0, v1, v2⟩, f0, f1, f2⟩ := look3 P18.out.2.1.1
          obtain ⟨⟨p0, p1, p2⟩, -⟩ := look3 LP18.out.1
          obtain ⟨⟨s0, s1, s2⟩, -⟩ := look3 LS18.out.1
          clear A18 P17 LP17 LS17
          go_wp2
          have P19 := Lib.hid (P18.out.put HBV.out ⟨8, T.length, ⟨#[]⟩⟩)
          clear P18 LP18 LS18 v0 v1 v2 f0 f1 f2 p0 p1 p2 s0 s1 s2
          simp only [] at P19
          generalize (((w17.alloc (.cells #[.int .i64 uk, .int .i64 ui, .string us] 28)).setCell ⟨Bv, 0, none⟩ (.int .i64 8)).setCell ⟨Bv, 1, none⟩ (.int .i64 (T.length : Int))).setCell ⟨Bv, 2, none⟩ (.string ⟨#[]⟩) = W at *
          obtain ⟨e0, e1, e2, e3⟩ := HDW.out _ P19.out.1.2.2
          obtain ⟨⟨q0, q1, q2, q3⟩, g0, g1, g2, g3⟩ := look4 P19.out.2.2.1.1
          have hltq := lt_of_block P19.out.2.2.1.1
          have hbW : b < W.heap.size := Nat.lt_of_lt_of_le hb P19.out.1.2.2.size
          have hi0 : (0 : Int) ≤ (j : Int) := by omega
          have hi1 : (j : Int) < (l.length : Int) := by omega
          have hnS : ∀ b, (¬ F17 b ∧ b ≠ Bv ∧ b ≠ Bv + 1 ∧ b < W.heap.size) → b < W.heap.size := fun _ h => h.2.2.2
          have BW : Hid (Below W.heap.size W (W.alloc (.cells #[.int .i64 k, .int .i64 i, .string s, .slice xa 0 xc] 24)).drew) := Lib.hid ((al W _).drew)
          have ROW : Hid (RowOwnS (W.alloc (.cells #[.int .i64 k, .int .i64 i, .string s, .slice xa 0 xc] 24)).drew W.heap.size (fun b => ¬ F17 b ∧ b ≠ Bv ∧ b ≠ Bv + 1 ∧ b < W.heap.size) [.mk k i s []] (.slice (some ⟨W.heap.size, 0, none⟩) 1 1)) := Lib.hid (lit_row (heap_alloc_new W _) (Nat.le_refl _) ok1 ok2 ok3 ⟨xa, xc, rfl, HXC.out.1, HXC.out.2.1, HXC.out.2.2, .inl rfl⟩)
          have SRC : Hid (SrcP (W.alloc (.cells #[.int .i64 k, .int .i64 i, .string s, .slice xa 0 xc] 24)).drew (fun b => ¬ F17 b ∧ b ≠ Bv ∧ b ≠ Bv + 1 ∧ b < W.heap.size) acc (.slice wa acc.length wc)) := Lib.hid ((ins_below (P19.out.2.2.2.move (S' := fun b => ¬ F17 b ∧ b ≠ Bv ∧ b ≠ Bv + 1 ∧ b < W.heap.size) (fun b hb hlt => ⟨hb.1, hb.2.1, hb.2.2, hlt⟩) (fun _ _ _ _ h => h)) BW.out).src)
          have hlen : [PT.mk k i s []].length + acc.length ≤ 1000000 := by simp; omega
          have hbase : W.heap.size ≤ (W.alloc (.cells #[.int .i64 k, .int .i64 i, .string s, .slice xa 0 xc] 24)).drew.heap.size := BW.out.size
          have FIN := Lib.hid (fun v' w' (ho : RowOwnS w' W.heap.size (fun b => ¬ F17 b ∧ b ≠ Bv ∧ b ≠ Bv + 1 ∧ b < W.heap.size) (.mk k i s [] :: acc) v') (hb : Below W.heap.size W w') => P19.out.want HBV.out (fun b hb => ⟨hb.1, hb.2.1, hb.2.2.1⟩) hb ho)
          have LWW := Lib.hid P19.out.2.2.1
          have LIST := listR_cons (X := [(0, [(⟨ck, ci, cs⟩ : PV), ⟨uk, ui, us⟩])]) HLI.out FC.out.2.1 FC.out.2.2.1 FC.out.2.2.2.1 FC.out.2.2.2.2 (by omega)
          rw [List.append_cons, HT8.out] at LIST
          have HLIST := Lib.hid LIST
          clear d0 d1 d2 d3 P19 LIST
          go_region_law (first
            | (refine step_append_rowS (w := (W.alloc (.cells #[.int .i64 k, .int .i64 i, .string s, .slice xa 0 xc] 24)).drew) rfl _ _ rfl W.heap.size (fun b => ¬ F17 b ∧ b ≠ Bv ∧ b ≠ Bv + 1 ∧ b < W.heap.size) hnS [.mk k i s []] acc _ _ rfl rfl ROW.out SRC.out hlen hbase ?_
               intro v' w' ho hb' _
               obtain ⟨za, zc, rfl⟩ := rowS_rep ho
               have B' := BW.out.trans (hb'.mono (Nat.le_refl _))
               have HFIN := Lib.hid (FIN.out _ w' ho B')
               obtain ⟨⟨r0, r1, r2, r3⟩, t0, t1, t2, t3⟩ := look4 (LWW.out.below B').1
               clear ho hb' B'))
          all_goals
            go_wp2
            refine ⟨⟨j + 1, _, _, F17, _, _, by omega, by omega, by go_num, by simp; omega, (E11.out.trans (by have := HTL.out; simp; omega)), HLIST.out, HFIN.out⟩, by simp [intOf]; omega⟩
      · have KT := Lib.hid (tell_any uk ui us (.mk 5 0 ⟨#[]⟩ acc) (2 * acc.length + 1) w.heap.size T F wr HP.out.1.1 HP.out.1.lt HLI.out.2.2.2.2 HLI.out.2.1 HLI.out.1 (by omega))
        obtain ⟨⟨v0, v1, v2⟩, -⟩ := look3 HP.out.2.1.1
        go_wp2_with fail
        refine KT.out.mono ?_
        rintro e w5 ⟨⟨x', he, hn⟩, hb5⟩
        have hn' := hn
        obtain ⟨za, zc, hze, _⟩ := hn.2.2.2
        subst hze
        change e = .returned (.tuple #[.agg #[.int .i64 5, .int .i64 0, .string ⟨#[]⟩, .slice za acc.length zc], .bool true]) at he
        subst he
        have P5 := Lib.hid (HP.out.below hb5)
        have N5 := Lib.hid hn'.rep
        clear hn hn' hb5 v0 v1 v2 HP KT
        have A6 := al w5 (.cells #[.int .i64 5, .int .i64 0, .string ⟨#[]⟩, .slice za acc.length zc] 24)
        have P6 := Lib.hid (P5.out.below A6)
        have N6 := Lib.hid (Dat.RepV.mono (Dat.RepV.below N5.out A6 (Nat.le_refl _)) A6.size)
        have X6 : RepV (w5.alloc (.cells #[.int .i64 5, .int .i64 0, .string ⟨#[]⟩, .slice za acc.length zc] 24)) (w5.alloc (.cells #[.int .i64 5, .int .i64 0, .string ⟨#[]⟩, .slice za acc.length zc] 24)).heap.size (.mk 5 0 ⟨#[]⟩ acc) (.slice wa acc.length wc) := ⟨⟨by decide, by decide⟩, ⟨by decide, by decide⟩, by decide, P6.out.2.2.2.rep⟩
        have KS0 := Dat.same_any (.mk 5 0 ⟨#[]⟩ acc) (.mk 5 0 ⟨#[]⟩ acc) _ _ _ _ N6.out X6 (Nat.le_refl _)
        rw [Dat.sameB_refl] at KS0
        have KS := Lib.hid KS0
        obtain ⟨⟨c0, c1, c2, c3⟩, -⟩ := look4 P6.out.2.2.1.1
        clear A6 KS0 X6
        go_wp2_with fail
        refine KS.out.mono ?_
        rintro e w7 ⟨rfl, hb7⟩
        have HB7 := Lib.hid ((P6.out.1.below hb7).2.2)
        clear hb7
        go_wp2
        go_ret
        exact ⟨rfl, HB7.out⟩
    · have KT := Lib.hid (tell_any uk ui us (.mk 5 0 ⟨#[]⟩ acc) (2 * acc.length + 1) w.heap.size T F wr HP.out.1.1 HP.out.1.lt HLI.out.2.2.2.2 HLI.out.2.1 HLI.out.1 (by omega))
      obtain ⟨⟨v0, v1, v2⟩, -⟩ := look3 HP.out.2.1.1
      go_wp2_with fail
      refine KT.out.mono ?_
      rintro e w5 ⟨⟨x', he, hn⟩, hb5⟩
      have hn' := hn
      obtain ⟨za, zc, hze, _⟩ := hn.2.2.2
      subst hze
      change e = .returned (.tuple #[.agg #[.int .i64 5, .int .i64 0, .string ⟨#[]⟩, .slice za acc.length zc], .bool true]) at he
      subst he
      have P5 := Lib.hid (HP.out.below hb5)
      have N5 := Lib.hid hn'.rep
      clear hn hn' hb5 v0 v1 v2 HP KT
      have A6 := al w5 (.cells #[.int .i64 5, .int .i64 0, .string ⟨#[]⟩, .slice za acc.length zc] 24)
      have P6 := Lib.hid (P5.out.below A6)
      have N6 := Lib.hid (Dat.RepV.mono (Dat.RepV.below N5.out A6 (Nat.le_refl _)) A6.size)
      have X6 : RepV (w5.alloc (.cells #[.int .i64 5, .int .i64 0, .string ⟨#[]⟩, .slice za acc.length zc] 24)) (w5.alloc (.cells #[.int .i64 5, .int .i64 0, .string ⟨#[]⟩, .slice za acc.length zc] 24)).heap.size (.mk 5 0 ⟨#[]⟩ acc) (.slice wa acc.length wc) := ⟨⟨by decide, by decide⟩, ⟨by decide, by decide⟩, by decide, P6.out.2.2.2.rep⟩
      have KS0 := Dat.same_any (.mk 5 0 ⟨#[]⟩ acc) (.mk 5 0 ⟨#[]⟩ acc) _ _ _ _ N6.out X6 (Nat.le_refl _)
      rw [Dat.sameB_refl] at KS0
      have KS := Lib.hid KS0
      obtain ⟨⟨c0, c1, c2, c3⟩, -⟩ := look4 P6.out.2.2.1.1
      clear A6 KS0 X6
      go_wp2_with fail
      refine KS.out.mono ?_
      rintro e w7 ⟨rfl, hb7⟩
      have HB7 := Lib.hid ((P6.out.1.below hb7).2.2)
      clear hb7
      go_wp2
      go_ret
      exact ⟨rfl, HB7.out⟩
end Go.Proofs.YtjplfgenobmbnaaDoor.Hp
