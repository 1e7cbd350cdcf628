/-
Texts Q10, Q11, one behind the other (a claim bears sixty files). Conditions: as each says.
-/
import Derived.Test.YtpejhilfopjckaaDoorQGd

/-
Package heap's done, primitive by primitive (part, put, filled). No condition but that the heap lies in memory.
-/
namespace Go.Proofs.YtpejhilfopjckaaDoor.Hp
open Go.ChangeShapes Go.WideShapes Go.ChangeAt Go.RowKit Go.Deep
open Dat (PT ok64 RepV RepS RowX infoDatum)
set_option maxRecDepth 100000

/-- Behind a call that answers a value and an error: what is answered is put into the result's cell. -/
theorem after_call {w0 W1 w2 : World} {hb R : Nat} {F : Nat → Prop} {T' : List (Int × List PV)} {x0 x1 x2 : Value} {u : PV} {err : Int} {r : PV × Int × List (Int × List PV)} (hB : Below w0.heap.size w0 W1) (hR : w0.heap.size ≤ R) (hF : ∀ b, F b → b < w0.heap.size)
    (Z : W1.heap[R]? = some (.cells #[x0, x1, x2] 36 (0, 0))) (h : ∃ F', HeapM w2 hb T' F' ∧ Stp F W1 F' w2) (hr : r = (u, err, T')) :
    w2.heap[R]? = some (.cells #[x0, x1, x2] 36 (0, 0)) ∧
    DoOk w0 hb F r.1 r.2.1 r.2.2 (VE u err) (((w2.setCell ⟨R, 0, none⟩ (.int .i64 u.k)).setCell ⟨R, 1, none⟩ (.int .i64 u.i)).setCell ⟨R, 2, none⟩ (.string u.s)) ∧
    (((w2.setCell ⟨R, 0, none⟩ (.int .i64 u.k)).setCell ⟨R, 1, none⟩ (.int .i64 u.i)).setCell ⟨R, 2, none⟩ (.string u.s)).heap[R]? = some (.cells #[.int .i64 u.k, .int .i64 u.i, .string u.s] 36 (0, 0)) := by
  obtain ⟨F', q1, q2⟩ := h
  have hRl := lt_of_block Z
  have hnF : ¬ F R := fun h => by have := hF R h; omega
  have e2 := (q2.1.2 R hRl hnF).trans Z
  have hnF' : ¬ F' R := fun hf => by
    rcases q2.2 _ hf with h | h
    · exact hnF h
    · omega
  obtain ⟨g1, g2⟩ := put_res q1 ((Stp.of_below hB).trans q2) hnF' hR (.int .i64 u.k) (.int .i64 u.i) (.string u.s)
  exact ⟨e2, ⟨by rw [hr], F', by rw [hr]; exact g1, g2⟩, put3 e2 _ _ _⟩
theorem one_arg {w : World} {S : Nat → Prop} {k i : Int} {s : ByteArray} {v : Value} (h : InP w S [⟨k, i, s⟩] v) : ∃ b o c, v = .slice (some ⟨b, o, none⟩) 1 c ∧ 1 ≤ c ∧ c ≤ maxLen ∧ b < w.heap.size ∧
    (w.cell? ⟨b, o, none⟩ = some (.int .i64 k) ∧ w.cell? ⟨b, o + 1, none⟩ = some (.int .i64 i) ∧ w.cell? ⟨b, o + 2, none⟩ = some (.string s)) ∧ okV ⟨k, i, s⟩ := by
  obtain ⟨b, o, c, rfl, _, hb, hv⟩ := h.cells (by simp)
  obtain ⟨_, _, e, h1, h2, _⟩ := h
  cases e
  obtain ⟨c0, c1, c2, ok⟩ := hv.item 0 (by simp)
  exact ⟨b, o, c, rfl, h1, h2, hb, ⟨c0, c1, c2⟩, ok⟩
theorem two_args {w : World} {S : Nat → Prop} {k i k' i' : Int} {s s' : ByteArray} {v : Value} (h : InP w S [⟨k, i, s⟩, ⟨k', i', s'⟩] v) : ∃ b o c, v = .slice (some ⟨b, o, none⟩) 2 c ∧ 2 ≤ c ∧ c ≤ maxLen ∧ b < w.heap.size ∧
    (w.cell? ⟨b, o, none⟩ = some (.int .i64 k) ∧ w.cell? ⟨b, o + 1, none⟩ = some (.int .i64 i) ∧ w.cell? ⟨b, o + 2, none⟩ = some (.string s)) ∧ okV ⟨k, i, s⟩ ∧
    (w.cell? ⟨b, o + 3, none⟩ = some (.int .i64 k') ∧ w.cell? ⟨b, o + 4, none⟩ = some (.int .i64 i') ∧ w.cell? ⟨b, o + 5, none⟩ = some (.string s')) ∧ okV ⟨k', i', s'⟩ := by
  obtain ⟨b, o, c, rfl, _, hb, hv⟩ := h.cells (by simp)
  obtain ⟨_, _, e, h1, h2, _⟩ := h
  cases e
  obtain ⟨c0, c1, c2, ok⟩ := hv.item 0 (by simp)
  obtain ⟨d0, d1, d2, ok'⟩ := hv.item 1 (by simp)
  exact ⟨b, o, c, rfl, h1, h2, hb, ⟨c0, c1, c2⟩, ok, ⟨d0, d1, d2⟩, ok'⟩
theorem three_args {w : World} {S : Nat → Prop} {k i k' i' k2 i2 : Int} {s s' s2 : ByteArray} {v : Value} (h : InP w S [⟨k, i, s⟩, ⟨k', i', s'⟩, ⟨k2, i2, s2⟩] v) : ∃ b o c, v = .slice (some ⟨b, o, none⟩) 3 c ∧ 3 ≤ c ∧ c ≤ maxLen ∧ b < w.heap.size ∧
    (w.cell? ⟨b, o, none⟩ = some (.int .i64 k) ∧ w.cell? ⟨b, o + 1, none⟩ = some (.int .i64 i) ∧ w.cell? ⟨b, o + 2, none⟩ = some (.string s)) ∧ okV ⟨k, i, s⟩ ∧
    (w.cell? ⟨b, o + 3, none⟩ = some (.int .i64 k') ∧ w.cell? ⟨b, o + 4, none⟩ = some (.int .i64 i') ∧ w.cell? ⟨b, o + 5, none⟩ = some (.string s')) ∧ okV ⟨k', i', s'⟩ ∧
    (w.cell? ⟨b, o + 6, none⟩ = some (.int .i64 k2) ∧ w.cell? ⟨b, o + 7, none⟩ = some (.int .i64 i2) ∧ w.cell? ⟨b, o + 8, none⟩ = some (.string s2)) ∧ okV ⟨k2, i2, s2⟩ := by
  obtain ⟨b, o, c, rfl, _, hb, hv⟩ := h.cells (by simp)
  obtain ⟨_, _, e, h1, h2, _⟩ := h
  cases e
  obtain ⟨c0, c1, c2, ok⟩ := hv.item 0 (by simp)
  obtain ⟨d0, d1, d2, ok'⟩ := hv.item 1 (by simp)
  obtain ⟨e0, e1, e2, ok2⟩ := hv.item 2 (by simp)
  exact ⟨b, o, c, rfl, h1, h2, hb, ⟨c0, c1, c2⟩, ok, ⟨d0, d1, d2⟩, ok', ⟨e0, e1, e2⟩, ok2⟩
theorem new_cells (w : World) (o : Obj) (b : Nat) (h : b < w.heap.size) : ∀ j, (w.alloc o).cell? ⟨b, j, none⟩ = w.cell? ⟨b, j, none⟩ := fun j => ((Below.refl w.heap.size w).alloc (Nat.le_refl _) o).cell (p := ⟨b, j, none⟩) h
set_option maxHeartbeats 1000000 in
theorem done_car (k i : Int) (s : ByteArray) (hb : Nat) (T : List (Int × List PV)) (F : Nat → Prop) (w0 : World) (h0 : 0 ≤ i) (h1 : i < T.length) :
    DoneOk ⟨#[99, 97, 114]⟩ hb T F [⟨k, i, s⟩] ((partT T ⟨k, i, s⟩ 0).1, (partT T ⟨k, i, s⟩ 0).2, T) w0 := by
  intro w S v _ hH hF hP
  generalize hpp : partT T ⟨k, i, s⟩ 0 = p
  obtain ⟨⟨pk, pi, ps⟩, pe⟩ := p
  have HPP := Lib.hid hpp
  clear hpp
  obtain ⟨b, o, c, rfl, hc1, hc2, hbl, ⟨c0, c1, c2⟩, ok⟩ := one_arg hP
  have mv := new_cells w (.cells #[.int .i64 0, .int .i64 0, .string ⟨#[]⟩] 36) b hbl
  replace c0 := (mv _).trans c0
  replace c1 := (mv _).trans c1
  replace c2 := (mv _).trans c2
  have Z := Lib.hid (heap_alloc_new w (.cells #[.int .i64 0, .int .i64 0, .string ⟨#[]⟩] 36))
  have B0 := Lib.hid ((Below.refl w.heap.size w).alloc (Nat.le_refl _) (.cells #[.int .i64 0, .int .i64 0, .string ⟨#[]⟩] 36))
  have HH := Lib.hid hH
  have HF := Lib.hid hF
  have Hok := Lib.hid ok
  unfold maxLen at hc2
  clear hH hF hP mv ok
  go_enter Tryd.func29, Tryd.ntmps29
  have B1 := B0
  have Z1 := Z
  obtain ⟨tb, cap, _, _, _, hct, hcp1, hcp2, _⟩ := (HH.out.below B1.out).thing i.toNat (by omega)
  have HCT := Lib.hid hct
  have KT := Lib.hid (thingOf_any k i s hb tb T.length cap _ hct h0 h1 hcp1 hcp2)
  clear hct hcp1 hcp2
  go_wp2_with fail
  refine KT.out.mono ?_
  rintro e wa ⟨rfl, hba⟩
  have HBA := Lib.hid (B1.out.trans (hba.mono B1.out.size))
  have KP := Lib.hid (ppart_any T ⟨k, i, s⟩ 0 hb F wa (HH.out.below HBA.out) h0 h1 tb cap ((hba.cell (p := ⟨hb, 0, none⟩) (World.block_lt_of_cell? _ _ HCT.out)).trans HCT.out))
  have Z1 := Lib.hid ((hba.block w.heap.size (lt_of_block Z.out)).trans Z.out)
  have B1 := HBA
  clear hba
  go_wp2_with fail
  refine KP.out.mono ?_
  rintro e w2 ⟨rfl, hb2⟩
  obtain ⟨e3, Q, E⟩ := after_call (u := ⟨pk, pi, ps⟩) (err := pe) (r := (⟨pk, pi, ps⟩, pe, T)) B1.out (Nat.le_refl _) HF.out Z1.out ⟨F, (HH.out.below B1.out).below hb2, Stp.of_below hb2⟩ rfl
  rw [HPP.out]
  clear hb2
  obtain ⟨⟨y0, y1, y2⟩, f0, f1, f2⟩ := look3 e3
  have HQ := Lib.hid Q
  have HE := Lib.hid E
  clear e3 Q E
  unfold VE
  go_wp2
  have Q := HQ.out
  have E := HE.out
  clear HQ HE
  generalize ((w2.setCell ⟨w.heap.size, 0, none⟩ (.int .i64 pk)).setCell ⟨w.heap.size, 1, none⟩ (.int .i64 pi)).setCell ⟨w.heap.size, 2, none⟩ (.string ps) = W at E Q ⊢
  exact bodyPost_ret (res_ve (t := 7) (p := 6) rfl _ _ w.heap.size _ _ _ rfl E) rfl Q
set_option maxHeartbeats 1000000 in
theorem done_unbox (k i : Int) (s : ByteArray) (hb : Nat) (T : List (Int × List PV)) (F : Nat → Prop) (w0 : World) (h0 : 0 ≤ i) (h1 : i < T.length) :
    DoneOk ⟨#[37, 117, 110, 98, 111, 120]⟩ hb T F [⟨k, i, s⟩] ((partT T ⟨k, i, s⟩ 0).1, (partT T ⟨k, i, s⟩ 0).2, T) w0 := by
  intro w S v _ hH hF hP
  generalize hpp : partT T ⟨k, i, s⟩ 0 = p
  obtain ⟨⟨pk, pi, ps⟩, pe⟩ := p
  have HPP := Lib.hid hpp
  clear hpp
  obtain ⟨b, o, c, rfl, hc1, hc2, hbl, ⟨c0, c1, c2⟩, ok⟩ := one_arg hP
  have mv := new_cells w (.cells #[.int .i64 0, .int .i64 0, .string ⟨#[]⟩] 36) b hbl
  replace c0 := (mv _).trans c0
  replace c1 := (mv _).trans c1
  replace c2 := (mv _).trans c2
  have Z := Lib.hid (heap_alloc_new w (.cells #[.int .i64 0, .int .i64 0, .string ⟨#[]⟩] 36))
  have B0 := Lib.hid ((Below.refl w.heap.size w).alloc (Nat.le_refl _) (.cells #[.int .i64 0, .int .i64 0, .string ⟨#[]⟩] 36))
  have HH := Lib.hid hH
  have HF := Lib.hid hF
  have Hok := Lib.hid ok
  unfold maxLen at hc2
  clear hH hF hP mv ok
  go_enter Tryd.func29, Tryd.ntmps29
  have B1 := B0
  have Z1 := Z
  obtain ⟨tb, cap, _, _, _, hct, hcp1, hcp2, _⟩ := (HH.out.below B1.out).thing i.toNat (by omega)
  have HCT := Lib.hid hct
  have KT := Lib.hid (thingOf_any k i s hb tb T.length cap _ hct h0 h1 hcp1 hcp2)
  clear hct hcp1 hcp2
  go_wp2_with fail
  refine KT.out.mono ?_
  rintro e wa ⟨rfl, hba⟩
  have HBA := Lib.hid (B1.out.trans (hba.mono B1.out.size))
  have KP := Lib.hid (ppart_any T ⟨k, i, s⟩ 0 hb F wa (HH.out.below HBA.out) h0 h1 tb cap ((hba.cell (p := ⟨hb, 0, none⟩) (World.block_lt_of_cell? _ _ HCT.out)).trans HCT.out))
  have Z1 := Lib.hid ((hba.block w.heap.size (lt_of_block Z.out)).trans Z.out)
  have B1 := HBA
  clear hba
  go_wp2_with fail
  refine KP.out.mono ?_
  rintro e w2 ⟨rfl, hb2⟩
  obtain ⟨e3, Q, E⟩ := after_call (u := ⟨pk, pi, ps⟩) (err := pe) (r := (⟨pk, pi, ps⟩, pe, T)) B1.out (Nat.le_refl _) HF.out Z1.out ⟨F, (HH.out.below B1.out).below hb2, Stp.of_below hb2⟩ rfl
  rw [HPP.out]
  clear hb2
  obtain ⟨⟨y0, y1, y2⟩, f0, f1, f2⟩ := look3 e3
  have HQ := Lib.hid Q
  have HE := Lib.hid E
  clear e3 Q E
  unfold VE
  go_wp2
  have Q := HQ.out
  have E := HE.out
  clear HQ HE
  generalize ((w2.setCell ⟨w.heap.size, 0, none⟩ (.int .i64 pk)).setCell ⟨w.heap.size, 1, none⟩ (.int .i64 pi)).setCell ⟨w.heap.size, 2, none⟩ (.string ps) = W at E Q ⊢
  exact bodyPost_ret (res_ve (t := 7) (p := 6) rfl _ _ w.heap.size _ _ _ rfl E) rfl Q
set_option maxHeartbeats 1000000 in
theorem done_cdr (k i : Int) (s : ByteArray) (hb : Nat) (T : List (Int × List PV)) (F : Nat → Prop) (w0 : World) (h0 : 0 ≤ i) (h1 : i < T.length) :
    DoneOk ⟨#[99, 100, 114]⟩ hb T F [⟨k, i, s⟩] ((partT T ⟨k, i, s⟩ 1).1, (partT T ⟨k, i, s⟩ 1).2, T) w0 := by
  intro w S v _ hH hF hP
  generalize hpp : partT T ⟨k, i, s⟩ 1 = p
  obtain ⟨⟨pk, pi, ps⟩, pe⟩ := p
  have HPP := Lib.hid hpp
  clear hpp
  obtain ⟨b, o, c, rfl, hc1, hc2, hbl, ⟨c0, c1, c2⟩, ok⟩ := one_arg hP
  have mv := new_cells w (.cells #[.int .i64 0, .int .i64 0, .string ⟨#[]⟩] 36) b hbl
  replace c0 := (mv _).trans c0
  replace c1 := (mv _).trans c1
  replace c2 := (mv _).trans c2
  have Z := Lib.hid (heap_alloc_new w (.cells #[.int .i64 0, .int .i64 0, .string ⟨#[]⟩] 36))
  have B0 := Lib.hid ((Below.refl w.heap.size w).alloc (Nat.le_refl _) (.cells #[.int .i64 0, .int .i64 0, .string ⟨#[]⟩] 36))
  have HH := Lib.hid hH
  have HF := Lib.hid hF
  have Hok := Lib.hid ok
  unfold maxLen at hc2
  clear hH hF hP mv ok
  go_enter Tryd.func29, Tryd.ntmps29
  have B1 := B0
  have Z1 := Z
  obtain ⟨tb, cap, _, _, _, hct, hcp1, hcp2, _⟩ := (HH.out.below B1.out).thing i.toNat (by omega)
  have HCT := Lib.hid hct
  have KT := Lib.hid (thingOf_any k i s hb tb T.length cap _ hct h0 h1 hcp1 hcp2)
  clear hct hcp1 hcp2
  go_wp2_with fail
  refine KT.out.mono ?_
  rintro e wa ⟨rfl, hba⟩
  have HBA := Lib.hid (B1.out.trans (hba.mono B1.out.size))
  have KP := Lib.hid (ppart_any T ⟨k, i, s⟩ 1 hb F wa (HH.out.below HBA.out) h0 h1 tb cap ((hba.cell (p := ⟨hb, 0, none⟩) (World.block_lt_of_cell? _ _ HCT.out)).trans HCT.out))
  have Z1 := Lib.hid ((hba.block w.heap.size (lt_of_block Z.out)).trans Z.out)
  have B1 := HBA
  clear hba
  go_wp2_with fail
  refine KP.out.mono ?_
  rintro e w2 ⟨rfl, hb2⟩
  obtain ⟨e3, Q, E⟩ := after_call (u := ⟨pk, pi, ps⟩) (err := pe) (r := (⟨pk, pi, ps⟩, pe, T)) B1.out (Nat.le_refl _) HF.out Z1.out ⟨F, (HH.out.below B1.out).below hb2, Stp.of_below hb2⟩ rfl
  rw [HPP.out]
  clear hb2
  obtain ⟨⟨y0, y1, y2⟩, f0, f1, f2⟩ := look3 e3
  have HQ := Lib.hid Q
  have HE := Lib.hid E
  clear e3 Q E
  unfold VE
  go_wp2
  have Q := HQ.out
  have E := HE.out
  clear HQ HE
  generalize ((w2.setCell ⟨w.heap.size, 0, none⟩ (.int .i64 pk)).setCell ⟨w.heap.size, 1, none⟩ (.int .i64 pi)).setCell ⟨w.heap.size, 2, none⟩ (.string ps) = W at E Q ⊢
  exact bodyPost_ret (res_ve (t := 7) (p := 6) rfl _ _ w.heap.size _ _ _ rfl E) rfl Q
end Go.Proofs.YtpejhilfopjckaaDoor.Hp

/-
Package heap's reckon, done of what reckons; charOf. Where the table of what is reckoned is as the program lays it.
-/
namespace Go.Proofs.YtpejhilfopjckaaDoor.Hp
open Go.ChangeShapes Go.WideShapes Go.ChangeAt Go.RowKit Go.Deep
open Dat (PT ok64 RepV RepS RowX infoDatum)
set_option maxRecDepth 100000

/-- What is reckoned of two numbers. -/
def recT (op a b : Int) : PV × Int :=
  if (op = 3 ∨ op = 4) ∧ b = 0 then (⟨0, 0, ⟨#[]⟩⟩, 82) else if -1152921504606846976 ≤ opv op a b ∧ opv op a b ≤ 1152921504606846975 then (⟨1, opv op a b, ⟨#[]⟩⟩, 0) else (⟨0, 0, ⟨#[]⟩⟩, 81)
/-- What package word's Reckon answers. -/
def wordT (op a b : Int) : Int × Int :=
  if (op = 3 ∨ op = 4) ∧ b = 0 then (0, 11) else if -1152921504606846976 ≤ opv op a b ∧ opv op a b ≤ 1152921504606846975 then (8 * opv op a b, 0) else (0, 10)
theorem word_any (op a b : Int) (w : World) (h0 : 0 ≤ op) (h4 : op ≤ 4) (ha : Num a) (hb : Num b) :
    Calls Tryd.prog 72 #[.int .i64 op, .int .i64 (8 * a), .int .i64 (8 * b)] w fun e w' => e = .returned (.tuple #[.int .i64 (wordT op a b).1, .int .i64 (wordT op a b).2]) ∧ w = w' := by
  have ans : ∀ v, v = opv op a b → ¬ ((op = 3 ∨ op = 4) ∧ b = 0) → isAns v (wordT op a b).1 (wordT op a b).2 := fun v hv hn => by
    subst hv
    unfold wordT
    rw [if_neg hn]
    by_cases h : -1152921504606846976 ≤ opv op a b ∧ opv op a b ≤ 1152921504606846975
    · rw [if_pos h]; exact .inl ⟨h, rfl, rfl⟩
    · rw [if_neg h]; exact .inr ⟨h, rfl, rfl⟩
  have h5 : op = 0 ∨ op = 1 ∨ op = 2 ∨ op = 3 ∨ op = 4 := by omega
  rcases h5 with rfl | rfl | rfl | rfl | rfl
  · exact rk_add a b _ _ w ha hb (ans _ (by simp [opv]) (by omega))
  · exact rk_sub a b _ _ w ha hb (ans _ (by simp [opv]) (by omega))
  · exact rk_mul a b _ _ w ha hb (ans _ (by simp [opv]) (by omega))
  · by_cases hz : b = 0
    · have := rk_zero 3 a b w (.inl rfl) (by simpa using hz)
      rwa [show wordT 3 a b = (0, 11) from if_pos ⟨.inl rfl, hz⟩]
    · exact rk_quo a b _ _ w (by simpa using hz) hz (ans _ (by rw [num_tdiv a b ha]; simp [opv]) (by omega))
  · by_cases hz : b = 0
    · have := rk_zero 4 a b w (.inr rfl) (by simpa using hz)
      rwa [show wordT 4 a b = (0, 11) from if_pos ⟨.inr rfl, hz⟩]
    · exact rk_rem a b _ _ w (by simpa using hz) hz (ans _ (by simp [opv]) (by omega))
set_option maxHeartbeats 1000000 in
theorem reckon_any (op a b : Int) (w : World) (h0 : 0 ≤ op) (h4 : op ≤ 4) (ha : Num a) (hb : Num b) :
    Calls Tryd.prog 54 #[.int .i64 op, .int .i64 a, .int .i64 b] w fun e w' => e = VE (recT op a b).1 (recT op a b).2 ∧ Below w.heap.size w w' := by
  have KA := Lib.hid (fun W => int_ok a W ha.1 ha.2)
  have KB := Lib.hid (fun W => int_ok b W hb.1 hb.2)
  have KR := Lib.hid (fun W => word_any op a b W h0 h4 ha hb)
  have Z := Lib.hid (heap_alloc_new w (.cells #[.int .i64 0, .int .i64 0, .string ⟨#[]⟩] 36))
  have B0 := Lib.hid ((Below.refl w.heap.size w).alloc (Nat.le_refl _) (.cells #[.int .i64 0, .int .i64 0, .string ⟨#[]⟩] 36))
  have HA := Lib.hid ha
  have HB := Lib.hid hb
  have cases3 : (wordT op a b = (0, 11) ∧ recT op a b = (⟨0, 0, ⟨#[]⟩⟩, 82)) ∨ (wordT op a b = (8 * opv op a b, 0) ∧ recT op a b = (⟨1, opv op a b, ⟨#[]⟩⟩, 0)) ∨ (wordT op a b = (0, 10) ∧ recT op a b = (⟨0, 0, ⟨#[]⟩⟩, 81)) := by
    unfold wordT recT
    by_cases hz : (op = 3 ∨ op = 4) ∧ b = 0
    · rw [if_pos hz, if_pos hz]; exact .inl ⟨rfl, rfl⟩
    · rw [if_neg hz, if_neg hz]
      by_cases h : -1152921504606846976 ≤ opv op a b ∧ opv op a b ≤ 1152921504606846975
      · rw [if_pos h, if_pos h]; exact .inr (.inl ⟨rfl, rfl⟩)
      · rw [if_neg h, if_neg h]; exact .inr (.inr ⟨rfl, rfl⟩)
  have KV := Lib.hid (fun W => value_8 (opv op a b) W)
  clear ha hb
  rcases cases3 with ⟨e1, e2⟩ | ⟨e1, e2⟩ | ⟨e1, e2⟩
  · rw [e1] at KR
    have HR := Lib.hid e2
    clear e1 e2
    generalize recT op a b = r at *
    generalize opv op a b = q at *
    go_enter Tryd.func54, Tryd.ntmps54
    go_wp2_with fail
    refine (KA.out _).mono ?_
    rintro e w1 ⟨rfl, rfl⟩
    go_wp2_with fail
    refine (KB.out _).mono ?_
    rintro e w1 ⟨rfl, rfl⟩
    go_wp2_with fail
    refine (KR.out _).mono ?_
    rintro e w1 ⟨rfl, rfl⟩
    go_wp2
    exact bodyPost_ret (res_ve (t := 7) (p := 6) rfl _ _ w.heap.size _ _ _ rfl Z.out) rfl ⟨by rw [HR.out]; rfl, B0.out⟩
  · rw [e1] at KR
    have HR := Lib.hid e2
    clear e1 e2
    generalize recT op a b = r at *
    generalize opv op a b = q at *
    go_enter Tryd.func54, Tryd.ntmps54
    go_wp2_with fail
    refine (KA.out _).mono ?_
    rintro e w1 ⟨rfl, rfl⟩
    go_wp2_with fail
    refine (KB.out _).mono ?_
    rintro e w1 ⟨rfl, rfl⟩
    go_wp2_with fail
    refine (KR.out _).mono ?_
    rintro e w1 ⟨rfl, rfl⟩
    go_wp2_with fail
    refine (KV.out _).mono ?_
    rintro e w1 ⟨rfl, rfl⟩
    go_wp2_with fail
    refine (number_any q _).mono ?_
    rintro e w2 ⟨rfl, hb2⟩
    obtain ⟨⟨y0, y1, y2⟩, f0, f1, f2⟩ := look3 ((hb2.block w.heap.size (by rw [size_new]; omega)).trans Z.out)
    have HE := Lib.hid (put3 ((hb2.block w.heap.size (by rw [size_new]; omega)).trans Z.out) (.int .i64 1) (.int .i64 q) (.string ⟨#[]⟩))
    have HB2 := Lib.hid (put3_below (B0.out.trans (hb2.mono B0.out.size)) (Nat.le_refl _) (.int .i64 1) (.int .i64 q) (.string ⟨#[]⟩))
    clear hb2
    go_wp2
    exact bodyPost_ret (res_ve (t := 7) (p := 6) rfl _ _ w.heap.size _ _ _ rfl HE.out) rfl ⟨by rw [HR.out]; rfl, HB2.out⟩
  · rw [e1] at KR
    have HR := Lib.hid e2
    clear e1 e2
    generalize recT op a b = r at *
    generalize opv op a b = q at *
    go_enter Tryd.func54, Tryd.ntmps54
    go_wp2_with fail
    refine (KA.out _).mono ?_
    rintro e w1 ⟨rfl, rfl⟩
    go_wp2_with fail
    refine (KB.out _).mono ?_
    rintro e w1 ⟨rfl, rfl⟩
    go_wp2_with fail
    refine (KR.out _).mono ?_
    rintro e w1 ⟨rfl, rfl⟩
    go_wp2
    exact bodyPost_ret (res_ve (t := 7) (p := 6) rfl _ _ w.heap.size _ _ _ rfl Z.out) rfl ⟨by rw [HR.out]; rfl, B0.out⟩
end Go.Proofs.YtpejhilfopjckaaDoor.Hp
