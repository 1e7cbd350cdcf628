/-
Package heap's teller: a value that is no thing, a pair. No condition but that the heap and the teller lie in memory.
-/
import Derived.Test.YtlolkhnaaelelaaDoorQ15
import Derived.Test.YtlolkhnaaelelaaDoorQ10
namespace Go.Proofs.YtlolkhnaaelelaaDoor.Hp
open Go.ChangeShapes Go.WideShapes Go.ChangeAt Go.RowKit Go.Deep
open Dat (PT ok64 RepV RepS RowX infoDatum NewV NewS makeT make_any MakeOk numT numsT)
set_option maxRecDepth 100000

/-- The teller at tb: what it looks through, and how many it has looked at. -/
def TelM (w : World) (tb : Nat) (sv : Value) (n : Nat) : Prop := w.heap[tb]? = some (.cells #[sv, .int .i64 (n : Int)] 89 (0, 0))
abbrev TS (tb : Nat) : Nat → Prop := (· = tb)
theorem KpF.trans {F : Nat → Prop} {a b c : World} (h : KpF F a b) (k : KpF F b c) : KpF F a c :=
  ⟨h.1.trans k.1, fun x hx hF => (k.2 x (Nat.lt_of_lt_of_le hx h.1.size) hF).trans (h.2 x hx hF)⟩
theorem KpF.drew {F : Nat → Prop} {a b : World} (h : KpF F a b) : KpF F a b.drew := ⟨h.1.drew, h.2⟩
theorem HeapM.kept {w w' : World} {hb tb : Nat} {T : List (Int × List PV)} {F : Nat → Prop} (h : HeapM w hb T F) (hk : KpF (TS tb) w w') (hF : ¬ F tb) : HeapM w' hb T F :=
  h.move (fun b hb hlt => hk.2 b hlt (fun e => hF (e ▸ hb))) fun _ h => h
theorem look2 {W : World} {g : Nat} {t : TypeId} {x0 x1 : Value} (hb : W.heap[g]? = some (.cells #[x0, x1] t (0, 0))) :
    (W.cell? ⟨g, 0, none⟩ = some x0 ∧ W.cell? ⟨g, 1, none⟩ = some x1) ∧ (W.frozen? ⟨g, 0, none⟩ = false ∧ W.frozen? ⟨g, 1, none⟩ = false) := by
  refine ⟨⟨?_, ?_⟩, ?_, ?_⟩
  all_goals first | (rw [Lib.cell_of_heap hb]; rfl) | (simp [World.frozen?, hb])
/-- Behind the two boxes and the count. -/
theorem tel_start {w : World} {tb : Nat} {sv : Value} {n : Nat} (h : TelM w tb sv n) (A B : Obj) (x : Int) (hx : x = ((n + 1 : Nat) : Int)) : TelM (((w.setCell ⟨tb, 1, none⟩ (.int .i64 x)).alloc A).alloc B) tb sv (n + 1) ∧
    (((w.setCell ⟨tb, 1, none⟩ (.int .i64 x)).alloc A).alloc B).heap[w.heap.size]? = some A ∧ (((w.setCell ⟨tb, 1, none⟩ (.int .i64 x)).alloc A).alloc B).heap[w.heap.size + 1]? = some B ∧
    KpF (TS tb) w (((w.setCell ⟨tb, 1, none⟩ (.int .i64 x)).alloc A).alloc B) ∧ (((w.setCell ⟨tb, 1, none⟩ (.int .i64 x)).alloc A).alloc B).heap.size = w.heap.size + 2 := by
  subst hx
  have hlt := lt_of_block h
  obtain ⟨z0, z1, b0⟩ := two_new (w.setCell ⟨tb, 1, none⟩ (.int .i64 ((n + 1 : Nat) : Int))) A B
  have hs : (w.setCell ⟨tb, 1, none⟩ (.int .i64 ((n + 1 : Nat) : Int))).heap.size = w.heap.size := by simp [World.setCell]
  have h1 : (w.setCell ⟨tb, 1, none⟩ (.int .i64 ((n + 1 : Nat) : Int))).heap[tb]? = some (.cells #[sv, .int .i64 ((n + 1 : Nat) : Int)] 89 (0, 0)) := heap_setCell_same _ tb 1 _ _ _ h
  rw [hs] at z0 z1 b0
  refine ⟨(b0.block tb hlt).trans h1, z0, z1, ⟨((Below.refl 0 w).setCell (p := ⟨tb, 1, none⟩) (Nat.zero_le _) _).trans (b0.mono (Nat.zero_le _)), fun b hb hn => ?_⟩, ?_⟩
  · rw [b0.block b hb, Below.heap_setCell _ _ _ _ (by show b ≠ tb; exact hn)]
  · rw [size_new, size_new, hs]
/-- What is behind the telling of a value: a datum in new blocks; so many looked at. -/
def ValOk (w : World) (tb : Nat) (sv : Value) (n : Nat) (d : PT) (e : Ending) (w' : World) : Prop :=
  (∃ x, e = .returned (.tuple #[d.val x, .bool true]) ∧ NewV w' w.heap.size d x) ∧ TelM w' tb sv n ∧ KpF (TS tb) w w'
theorem new_none (w : World) (C : Nat) : NewS w C [] (.slice none 0 0) := ⟨none, 0, rfl, Nat.le_refl _, Nat.zero_le _, fun _ => rfl, .inl rfl⟩
theorem shown_new (w : World) (C : Nat) (v : PV) (_h0 : 0 ≤ v.k) (_h7 : v.k ≤ 7) (ho : okV v) : NewV w C (shownT v) (.slice none 0 0) := by
  unfold shownT symT
  have hz : ok64 0 := ⟨by decide, by decide⟩
  split
  · exact ⟨ho.1, ho.2.1, by decide, new_none _ _⟩
  · split
    · exact ⟨⟨by decide, by decide⟩, hz, ho.2.2, new_none _ _⟩
    · split
      · exact ⟨⟨by decide, by decide⟩, hz, by decide, new_none _ _⟩
      · split
        · exact ⟨⟨by decide, by decide⟩, hz, by decide, new_none _ _⟩
        · split
          · exact ⟨⟨by decide, by decide⟩, hz, by decide, new_none _ _⟩
          · exact ⟨⟨by decide, by decide⟩, hz, by decide, new_none _ _⟩
set_option maxHeartbeats 1000000 in
theorem value_leaf (k i : Int) (s : ByteArray) (h0 : 0 ≤ k) (h7 : k ≤ 7) (ho : okV ⟨k, i, s⟩) (m n : Nat) (hm : m ≤ 32) (hn : n < 200) (tb : Nat) (sv : Value) (w : World) (ht : TelM w tb sv n) :
    Calls Tryd.prog 42 #[.pointer (some ⟨tb, 0, none⟩), .agg #[.int .i64 k, .int .i64 i, .string s], .int .i64 (m : Int)] w fun e w' => ValOk w tb sv (n + 1) (shownT ⟨k, i, s⟩) e w' := by
  obtain ⟨t1, z0, z1, kp, hs1⟩ := tel_start ht (.cells #[.int .i64 k, .int .i64 i, .string s] 36) (.cells #[.int .i64 0, .int .i64 0, .string ⟨#[]⟩, .slice none 0 0] 50) ((n : Int) + 1) (by omega)
  have hlt := lt_of_block ht
  obtain ⟨⟨a0, a1⟩, b0, b1⟩ := look2 (((two_new w (.cells #[.int .i64 k, .int .i64 i, .string s] 36) (.cells #[.int .i64 0, .int .i64 0, .string ⟨#[]⟩, .slice none 0 0] 50)).2.2.block tb hlt).trans ht)
  have HN := Lib.hid (fun W => shown_new W w.heap.size ⟨k, i, s⟩ h0 h7 ho)
  have KS := Lib.hid (fun W => shown_any k i s h0 h7 W)
  have hk8 : (k == 8) = false := by simp; omega
  have hk9 : (k != 8) = true := by simp; omega
  have T1 := Lib.hid t1
  have Z1 := Lib.hid z1
  have KP := Lib.hid kp
  have HS1 := Lib.hid hs1
  obtain ⟨⟨x0, x1, x2⟩, -⟩ := look3 z0
  have n1 : ((n : Int) == 200) = false := by simp; omega
  have n2 : ¬ (32 : Int) < (m : Int) := by omega
  generalize shownT ⟨k, i, s⟩ = d at *
  obtain ⟨dk, di, ds, dl⟩ := d
  clear ht t1 z0 z1 kp hs1 ho h0 h7
  go_enter Tryd.func42, Tryd.ntmps42
  go_wp2_with fail
  generalize ((w.setCell ⟨tb, 1, none⟩ (.int .i64 ((n : Int) + 1))).alloc (.cells #[.int .i64 k, .int .i64 i, .string s] 36)).alloc (.cells #[.int .i64 0, .int .i64 0, .string ⟨#[]⟩, .slice none 0 0] 50) = W1 at *
  refine (KS.out _).mono ?_
  rintro e w2 ⟨he, hb2⟩
  change e = .returned (.agg #[.int .i64 dk, .int .i64 di, .string ds, .slice none 0 0]) at he
  subst he
  have E2 := (hb2.block (w.heap.size + 1) (by rw [HS1.out]; omega)).trans Z1.out
  obtain ⟨⟨y0, y1, y2, y3⟩, f0, f1, f2, f3⟩ := look4 E2
  have HE := Lib.hid (put4 E2 (.int .i64 dk) (.int .i64 di) (.string ds) (.slice none 0 0))
  have HT2 := Lib.hid ((put4_other (W := w2) (.int .i64 dk) (.int .i64 di) (.string ds) (.slice none 0 0) (show tb ≠ w.heap.size + 1 by omega)).trans ((hb2.block tb (by rw [HS1.out]; omega)).trans T1.out))
  have HK2 : Hid (KpF (TS tb) w ((((w2.setCell ⟨w.heap.size + 1, 0, none⟩ (.int .i64 dk)).setCell ⟨w.heap.size + 1, 1, none⟩ (.int .i64 di)).setCell ⟨w.heap.size + 1, 2, none⟩ (.string ds)).setCell ⟨w.heap.size + 1, 3, none⟩ (.slice none 0 0))) := Lib.hid ⟨(KP.out.trans (KpF.of_below hb2)).1.trans (put4_below (Below.refl 0 w2) (Nat.zero_le _) _ _ _ _), fun b hb hne => (put4_other _ _ _ _ (by omega)).trans ((KP.out.trans (KpF.of_below hb2)).2 b hb hne)⟩
  clear hb2 E2
  go_wp2
  have hE := HE.out
  have hT := HT2.out
  have hK := HK2.out
  have hN := HN.out
  clear HE HT2 HK2 HN
  generalize (((w2.setCell ⟨w.heap.size + 1, 0, none⟩ (.int .i64 dk)).setCell ⟨w.heap.size + 1, 1, none⟩ (.int .i64 di)).setCell ⟨w.heap.size + 1, 2, none⟩ (.string ds)).setCell ⟨w.heap.size + 1, 3, none⟩ (.slice none 0 0) = W at hE hT hK ⊢
  exact bodyPost_ret (res_db (t := 7) (p := 6) rfl _ _ (w.heap.size + 1) _ _ _ _ rfl hE) rfl ⟨⟨_, rfl, hN W⟩, hT, hK⟩

/-- The telling of a value, wherever the teller stands. -/
def ValC (hb tb : Nat) (sv : Value) (T : List (Int × List PV)) (F : Nat → Prop) (v : PV) (m : Int) (d : PT) (c : Nat) : Prop :=
  ∀ (n : Nat) (w : World), n + c ≤ 200 → TelM w tb sv n → HeapM w hb T F → w.cell? ⟨hb, 0, none⟩ = some sv →
    Calls Tryd.prog 42 #[.pointer (some ⟨tb, 0, none⟩), .agg #[.int .i64 v.k, .int .i64 v.i, .string v.s], .int .i64 m] w fun e w' => ValOk w tb sv (n + c) d e w'
theorem newV_kept {w w' : World} {tb C : Nat} {d : PT} {x : Value} (h : NewV w C d x) (hk : KpF (TS tb) w w') (hC : tb < C) : NewV w' C d x :=
  h.move (Nat.le_refl _) fun b o v hb hv => (World.cell?_of_block (w := w) (a := ⟨b, o, none⟩) (hk.2 b (World.block_lt_of_cell? _ _ hv) (by show b ≠ tb; omega))).trans hv
set_option maxHeartbeats 1000000 in
theorem pair_any (ak ai : Int) (as_ : ByteArray) (bk bi : Int) (bs : ByteArray) (m : Nat) (hm : m ≤ 32) (d1 d2 : PT) (c1 c2 : Nat) (hb tb : Nat) (sv : Value) (T : List (Int × List PV)) (F : Nat → Prop) (hF : ¬ F tb) (hhb : F hb)
    (KA : ValC hb tb sv T F ⟨ak, ai, as_⟩ ((m : Int) + 1) d1 c1) (KB : ValC hb tb sv T F ⟨bk, bi, bs⟩ (m : Int) d2 c2) (hnum : numsT [d1] + numT d2 ≤ 200000)
    (n : Nat) (w : World) (hn : n + (c1 + c2) ≤ 200) (ht : TelM w tb sv n) (hH : HeapM w hb T F) (hc : w.cell? ⟨hb, 0, none⟩ = some sv) (S : Nat → Prop) (hS : ∀ b, S b → b ≠ tb) (pv : Value) (hP : InP w S [⟨ak, ai, as_⟩, ⟨bk, bi, bs⟩] pv) :
    Calls Tryd.prog 64 #[.pointer (some ⟨tb, 0, none⟩), pv, .int .i64 (m : Int)] w fun e w' => ValOk w tb sv (n + (c1 + c2)) (makeT [d1] d2) e w' := by
  have hhb' : hb ≠ tb := fun e => hF (e ▸ hhb)
  have hSP := hP
  obtain ⟨b, o, c, rfl, hc1, hc2, hbl, ⟨a0, a1, a2⟩, ok, ⟨b0, b1, b2⟩, ok'⟩ := two_args hP
  have hbt : b ≠ tb := by
    obtain ⟨b', o', c', e, hs, _⟩ := hSP.cells (by simp)
    cases e
    exact hS _ hs
  have hlt := lt_of_block ht
  have Z0 := heap_alloc_new w (.cells #[.int .i64 0, .int .i64 0, .string ⟨#[]⟩, .slice none 0 0] 50)
  have B0 := (Below.refl w.heap.size w).alloc (Nat.le_refl _) (.cells #[.int .i64 0, .int .i64 0, .string ⟨#[]⟩, .slice none 0 0] 50)
  have hs0 := size_new w (.cells #[.int .i64 0, .int .i64 0, .string ⟨#[]⟩, .slice none 0 0] 50)
  have mv := new_cells w (.cells #[.int .i64 0, .int .i64 0, .string ⟨#[]⟩, .slice none 0 0] 50) b hbl
  have p0 := (mv _).trans a0
  have p1 := (mv _).trans a1
  have p2 := (mv _).trans a2
  have HKA := Lib.hid (KA n _ (by omega) ((B0.block tb hlt).trans ht) (hH.below B0) ((B0.cell (p := ⟨hb, 0, none⟩) (World.block_lt_of_cell? _ _ hc)).trans hc))
  have HKB := Lib.hid KB
  have HH := Lib.hid hH
  have HC := Lib.hid hc
  have HF := Lib.hid hF
  have HB0 := Lib.hid B0
  have HZ0 := Lib.hid Z0
  have HBT := Lib.hid hbt
  have HHB := Lib.hid hhb'
  have HNUM := Lib.hid hnum
  unfold maxLen at hc2
  clear KA KB hH hP hSP ht Z0 B0 ok ok' mv hF hhb hS hc hbt hhb' hnum
  go_enter Tryd.func64, Tryd.ntmps64
  go_wp2_with fail
  refine HKA.out.mono ?_
  rintro e w2 ⟨⟨x1, he, hx1⟩, t2, k2⟩
  obtain ⟨k1, i1, s1, l1⟩ := d1
  have hx1' := hx1
  obtain ⟨xa, xc, hxe, _⟩ := hx1.2.2.2
  subst hxe
  change e = .returned (.tuple #[.agg #[.int .i64 k1, .int .i64 i1, .string s1, .slice xa l1.length xc], .bool true]) at he
  subst he
  have hs2 : w.heap.size + 1 ≤ w2.heap.size := by have := k2.1.size; omega
  -- behind the first one
  have Z3 := heap_alloc_new w2 (.cells #[.int .i64 k1, .int .i64 i1, .string s1, .slice xa l1.length xc] 50)
  have B3 := (Below.refl w2.heap.size w2).alloc (Nat.le_refl _) (.cells #[.int .i64 k1, .int .i64 i1, .string s1, .slice xa l1.length xc] 50)
  have hs3 := size_new w2 (.cells #[.int .i64 k1, .int .i64 i1, .string s1, .slice xa l1.length xc] 50)
  have K3 := ((KpF.of_below (F := TS tb) HB0.out).trans k2).trans (KpF.of_below B3)
  have T3 : TelM (w2.alloc (.cells #[.int .i64 k1, .int .i64 i1, .string s1, .slice xa l1.length xc] 50)) tb sv (n + c1) := (B3.block tb (by omega)).trans t2
  have cellOf : ∀ (W : World), KpF (TS tb) w W → ∀ (b o : Nat), b < w.heap.size → b ≠ tb → W.cell? ⟨b, o, none⟩ = w.cell? ⟨b, o, none⟩ := fun W hW b o h1 h2 => World.cell?_of_block (w := w) (a := ⟨b, o, none⟩) (hW.2 b h1 h2)
  have q0 := (cellOf _ K3 b (o + 3) hbl HBT.out).trans b0
  have q1 := (cellOf _ K3 b (o + 4) hbl HBT.out).trans b1
  have q2 := (cellOf _ K3 b (o + 5) hbl HBT.out).trans b2
  have HKB3 := Lib.hid (HKB.out (n + c1) _ (by omega) T3 (HH.out.kept K3 HF.out) ((cellOf _ K3 hb 0 (HH.out.lt) HHB.out).trans HC.out))
  have HX1 := Lib.hid (newV_kept (tb := tb) (hx1'.move (C' := w.heap.size) (by omega) (fun _ _ _ _ h => h)) (KpF.of_below B3) hlt)
  have HK3 := Lib.hid K3
  have HZ3 := Lib.hid Z3
  have HZ0' := Lib.hid ((B3.block w.heap.size (by omega)).trans ((k2.2 w.heap.size (by omega) (show w.heap.size ≠ tb by omega)).trans HZ0.out))
  clear hx1 hx1' t2 k2 Z3 B3 T3 K3
  go_wp2_with fail
  generalize w2.alloc (.cells #[.int .i64 k1, .int .i64 i1, .string s1, .slice xa l1.length xc] 50) = w3 at *
  refine HKB3.out.mono ?_
  rintro e w4 ⟨⟨x2, he, hx2⟩, t4, k4⟩
  obtain ⟨k2, i2, s2, l2⟩ := d2
  have hx2' := hx2
  obtain ⟨ya, yc, hye, _⟩ := hx2.2.2.2
  subst hye
  change e = .returned (.tuple #[.agg #[.int .i64 k2, .int .i64 i2, .string s2, .slice ya l2.length yc], .bool true]) at he
  subst he
  have hs4 : w2.heap.size + 1 ≤ w4.heap.size := by have := k4.1.size; omega
  have Z4 : w4.heap[w2.heap.size]? = some (.cells #[.int .i64 k1, .int .i64 i1, .string s1, .slice xa l1.length xc] 50 (0, 0)) := (k4.2 w2.heap.size (by omega) (show w2.heap.size ≠ tb by omega)).trans HZ3.out
  have Z04 := (k4.2 w.heap.size (by omega) (show w.heap.size ≠ tb by omega)).trans HZ0'.out
  obtain ⟨u0, u1, u2⟩ := two_new w4 (.cells #[.int .i64 k2, .int .i64 i2, .string s2, .slice ya l2.length yc] 50) (.cells #[.int .i64 k1, .int .i64 i1, .string s1, .slice xa l1.length xc] 50)
  obtain ⟨⟨g0, g1, g2, g3⟩, -⟩ := look4 Z4
  have mv4 := new_cells w4 (.cells #[.int .i64 k2, .int .i64 i2, .string s2, .slice ya l2.length yc] 50) w2.heap.size (by omega)
  replace g0 := (mv4 _).trans g0
  replace g1 := (mv4 _).trans g1
  replace g2 := (mv4 _).trans g2
  replace g3 := (mv4 _).trans g3
  clear mv4
  have NW1 := newV_kept (tb := tb) (newV_kept HX1.out k4 hlt) (KpF.of_below u2) hlt
  have NW2 := newV_kept (tb := tb) hx2' (KpF.of_below u2) (by omega)
  have hsz : ((w4.alloc (.cells #[.int .i64 k2, .int .i64 i2, .string s2, .slice ya l2.length yc] 50)).alloc (.cells #[.int .i64 k1, .int .i64 i1, .string s1, .slice xa l1.length xc] 50)).heap.size = w4.heap.size + 1 + 1 := by rw [size_new, size_new]
  have HKM := Lib.hid (make_any [.mk k1 i1 s1 l1] k2 i2 s2 l2 _ (.slice ya l2.length yc) _ _ (Dat.rep_one (by rw [hsz]; omega) u1 NW1.rep) NW2.rep (Nat.le_refl _) HNUM.out (makeT [.mk k1 i1 s1 l1] (.mk k2 i2 s2 l2)) rfl)
  generalize hr : makeT [PT.mk k1 i1 s1 l1] (PT.mk k2 i2 s2 l2) = r at HKM
  have HRR := Lib.hid hr
  clear hr
  have K5 := Lib.hid ((HK3.out.trans k4).trans (KpF.of_below u2))
  have T5 := Lib.hid ((u2.block tb (by omega)).trans t4)
  have Z5 := Lib.hid ((u2.block w.heap.size (by omega)).trans Z04)
  have HSZ := Lib.hid hsz
  clear hx2 hx2' t4 k4 Z4 Z04 u0 u1 u2 NW1 NW2 hsz q0 q1 q2 p0 p1 p2 a0 a1 a2 b0 b1 b2
  go_wp2_with fail
  generalize (w4.alloc (.cells #[.int .i64 k2, .int .i64 i2, .string s2, .slice ya l2.length yc] 50)).alloc (.cells #[.int .i64 k1, .int .i64 i1, .string s1, .slice xa l1.length xc] 50) = w5 at *
  refine HKM.out.mono ?_
  rintro e w6 ⟨⟨x', he, _, hnew⟩, hb6⟩
  obtain ⟨rk, ri, rs, rl⟩ := r
  have hnew' := hnew
  obtain ⟨za, zc, hze, _⟩ := hnew.2.2.2
  subst hze
  change e = .returned (.agg #[.int .i64 rk, .int .i64 ri, .string rs, .slice za rl.length zc]) at he
  subst he
  have E6 := (hb6.block w.heap.size (by rw [HSZ.out]; omega)).trans Z5.out
  obtain ⟨⟨y0, y1, y2, y3⟩, f0, f1, f2, f3⟩ := look4 E6
  have HE := Lib.hid (put4 E6 (.int .i64 rk) (.int .i64 ri) (.string rs) (.slice za rl.length zc))
  have HT6 := Lib.hid ((put4_other (W := w6) (.int .i64 rk) (.int .i64 ri) (.string rs) (.slice za rl.length zc) (show tb ≠ w.heap.size by omega)).trans ((hb6.block tb (by rw [HSZ.out]; omega)).trans T5.out))
  have HK6 : Hid (KpF (TS tb) w ((((w6.setCell ⟨w.heap.size, 0, none⟩ (.int .i64 rk)).setCell ⟨w.heap.size, 1, none⟩ (.int .i64 ri)).setCell ⟨w.heap.size, 2, none⟩ (.string rs)).setCell ⟨w.heap.size, 3, none⟩ (.slice za rl.length zc))) := Lib.hid ⟨(K5.out.trans (KpF.of_below hb6)).1.trans (put4_below (Below.refl 0 w6) (Nat.zero_le _) _ _ _ _), fun b hb hne => (put4_other _ _ _ _ (by omega)).trans ((K5.out.trans (KpF.of_below hb6)).2 b hb hne)⟩
  have HN6 : Hid (NewV ((((w6.setCell ⟨w.heap.size, 0, none⟩ (.int .i64 rk)).setCell ⟨w.heap.size, 1, none⟩ (.int .i64 ri)).setCell ⟨w.heap.size, 2, none⟩ (.string rs)).setCell ⟨w.heap.size, 3, none⟩ (.slice za rl.length zc)) w.heap.size (.mk rk ri rs rl) (.slice za rl.length zc)) := Lib.hid (hnew'.move (by rw [HSZ.out]; omega) fun b o v hb hv => (World.cell?_of_block (w := w6) (a := ⟨b, o, none⟩) (put4_other _ _ _ _ (show b ≠ w.heap.size by rw [HSZ.out] at hb; omega))).trans hv)
  clear hb6 E6 hnew hnew'
  go_wp2
  have hE := HE.out
  have hT := HT6.out
  have hK := HK6.out
  have hN := HN6.out
  clear HE HT6 HK6 HN6
  generalize (((w6.setCell ⟨w.heap.size, 0, none⟩ (.int .i64 rk)).setCell ⟨w.heap.size, 1, none⟩ (.int .i64 ri)).setCell ⟨w.heap.size, 2, none⟩ (.string rs)).setCell ⟨w.heap.size, 3, none⟩ (.slice za rl.length zc) = W at hE hT hK hN ⊢
  exact bodyPost_ret (res_db (t := 7) (p := 6) rfl _ _ w.heap.size _ _ _ _ rfl hE) rfl (by rw [HRR.out]; exact ⟨⟨_, rfl, hN⟩, by rw [← Nat.add_assoc]; exact hT, hK⟩)
end Go.Proofs.YtlolkhnaaelelaaDoor.Hp
