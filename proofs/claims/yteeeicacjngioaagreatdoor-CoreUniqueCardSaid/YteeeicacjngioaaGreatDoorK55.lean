/-
The law CoreUnique, walked: with new names no name is bound twice, and none that is free; the free names are as they were, and so is all that is no name. Condition: the library's table of powers of ten as the program lays it.
-/
import Derived.Test.YteeeicacjngioaaGreatDoorK54
import Derived.Test.YteeeicacjngioaaGreatDoorK49
import Derived.BigQuiet
namespace Go.Proofs.YteeeicacjngioaaGreatDoor.Core
open Go.ChangeShapes Go.WideShapes Go.ChangeAt Go.RowKit Go.Deep
open Dat (PT ok64 RepV RepS RowX)
set_option maxRecDepth 100000

mutual
theorem bound_le : ∀ t : PE, (boundE t).length ≤ sizeE t
  | .mk k nm ns d l => by
    have := bounds_le l
    rw [boundE, sizeE, List.length_append]
    omega
theorem bounds_le : ∀ l : List PE, (boundEs l).length ≤ sizeEs l
  | [] => by rw [boundEs, sizeEs]; simp
  | t :: l => by
    have := bound_le t
    have := bounds_le l
    rw [boundEs, sizeEs, List.length_append]
    omega
end
theorem names_short {k : Int} {nm : ByteArray} {ns : List ByteArray} {d : PT} {l : List PE} (h : formE (.mk k nm ns d l) = true) : ∀ s ∈ ns, s.size ≤ maxLen := by
  unfold formE fieldsB namesOkB at h
  simp only [Bool.and_eq_true] at h
  have h1 := h.2.1.2
  intro s hs
  split at h1
  · unfold namesB at h1
    have h2 := (of_decide_eq_true h1).1 s hs
    unfold nameB at h2
    simp only [Bool.and_eq_true, decide_eq_true_eq] at h2
    have h3 := h2.1.1.1.2
    have h4 : s.size = s.data.toList.length := by rw [Array.length_toList]; rfl
    unfold maxLen
    omega
  · have h2 := of_decide_eq_true h1
    rw [List.length_eq_zero_iff] at h2
    subst h2
    cases hs
mutual
theorem bound_short : ∀ t : PE, okE t → ∀ s ∈ boundE t, s.size ≤ maxLen
  | .mk k nm ns d l, h, s, hs => by
    rw [okE] at h
    rw [boundE] at hs
    rcases List.mem_append.1 hs with h1 | h1
    · exact names_short h.1 s h1
    · exact bounds_short l h.2.2.2 s h1
theorem bounds_short : ∀ l : List PE, okEs l → ∀ s ∈ boundEs l, s.size ≤ maxLen
  | [], h, s, hs => by rw [boundEs] at hs; cases hs
  | t :: l, h, s, hs => by
    rw [okEs] at h
    rw [boundEs] at hs
    rcases List.mem_append.1 hs with h1 | h1
    · exact bound_short t h.1 s h1
    · exact bounds_short l h.2 s h1
end
/-- Two rising rows of the same texts are one. -/
theorem sorted_ext : ∀ {l m : List ByteArray}, l.Pairwise (fun a b => a.data.toList < b.data.toList) → m.Pairwise (fun a b => a.data.toList < b.data.toList) → (∀ s, s ∈ l ↔ s ∈ m) → l = m
  | [], [], _, _, _ => rfl
  | [], b :: m, _, _, h => absurd ((h b).2 (by simp)) (by simp)
  | a :: l, [], _, _, h => absurd ((h a).1 (by simp)) (by simp)
  | a :: l, b :: m, hl, hm, h => by
    rw [List.pairwise_cons] at hl hm
    have e : a = b := by
      refine Classical.byContradiction fun hne => ?_
      have h1 : a ∈ m := ((List.mem_cons.1 ((h a).1 (by simp))).resolve_left hne)
      have h2 : b ∈ l := ((List.mem_cons.1 ((h b).2 (by simp))).resolve_left (Ne.symm hne))
      exact List.lt_irrefl _ (List.lt_trans (hl.1 b h2) (hm.1 a h1))
    subst e
    refine congrArg _ (sorted_ext hl.2 hm.2 fun s => ⟨fun hs => ?_, fun hs => ?_⟩)
    · rcases List.mem_cons.1 ((h s).1 (List.mem_cons_of_mem _ hs)) with e | h1
      · subst e; exact absurd (hl.1 _ hs) (List.lt_irrefl _)
      · exact h1
    · rcases List.mem_cons.1 ((h s).2 (List.mem_cons_of_mem _ hs)) with e | h1
      · subst e; exact absurd (hm.1 _ hs) (List.lt_irrefl _)
      · exact h1
set_option maxHeartbeats 4000000 in
theorem unique_walk (t : PE) (vn vd vk : Value) (w : World) (h : InF w (fun b => b < w.heap.size) t vn vd vk) (ht : TabOk w) :
    Calls Tryz.prog 4 #[t.val vn vd vk] w fun e w' => e = .returned (.bool true) ∧ Below w.heap.size w w' := by
  have HTAB := Lib.hid ht
  have HGL := Lib.hid (lt_of_block ht.choose_spec.choose_spec)
  obtain ⟨k, nm, ns, ⟨ck, ci, cs, cl⟩, l⟩ := t
  have HI := Lib.hid h
  obtain ⟨⟨_, _, an, cn, rfl, _⟩, ⟨_, _, _, ad, cd, rfl, _⟩, ak, c, rfl, _⟩ := h
  show Calls Tryz.prog 4 #[.agg #[.int .i64 k, .string nm, .slice an ns.length cn, .int .i64 ck, .int .i64 ci, .string cs, .slice ad cl.length cd, .slice ak l.length c]] w _
  have z0 := heap_alloc_new w (.cells #[.int .i64 k, .string nm, .slice an ns.length cn, .int .i64 ck, .int .i64 ci, .string cs, .slice ad cl.length cd, .slice ak l.length c] 28)
  have hb0 := (Below.refl w.heap.size w).alloc (Nat.le_refl _) (.cells #[.int .i64 k, .string nm, .slice an ns.length cn, .int .i64 ck, .int .i64 ci, .string cs, .slice ad cl.length cd, .slice ak l.length c] 28)
  have hl0 : w.heap.size < (w.alloc (.cells #[.int .i64 k, .string nm, .slice an ns.length cn, .int .i64 ck, .int .i64 ci, .string cs, .slice ad cl.length cd, .slice ak l.length c] 28)).heap.size := by rw [size_new]; omega
  generalize hw0 : w.alloc (.cells #[.int .i64 k, .string nm, .slice an ns.length cn, .int .i64 ck, .int .i64 ci, .string cs, .slice ad cl.length cd, .slice ak l.length c] 28) = w0 at *
  have HW0 := Lib.hid hw0
  have HTI : Hid (∀ W, Below w.heap.size w W → InF W (fun b => b < W.heap.size) (.mk k nm ns (.mk ck ci cs cl) l) (.slice an ns.length cn) (.slice ad cl.length cd) (.slice ak l.length c)) := Lib.hid fun W hW => (HI.out.below hW).move (fun _ _ h => h) fun _ _ _ _ h => h
  generalize hT : PE.mk k nm ns (.mk ck ci cs cl) l = T at HTI
  have HTV : Hid (T.val (.slice an ns.length cn) (.slice ad cl.length cd) (.slice ak l.length c) = .agg #[.int .i64 k, .string nm, .slice an ns.length cn, .int .i64 ck, .int .i64 ci, .string cs, .slice ad cl.length cd, .slice ak l.length c]) := Lib.hid (by rw [← hT]; rfl)
  have KC : Hid (∀ W, Below w.heap.size w W → Calls Tryz.prog 11 #[.agg #[.int .i64 k, .string nm, .slice an ns.length cn, .int .i64 ck, .int .i64 ci, .string cs, .slice ad cl.length cd, .slice ak l.length c]] W fun e w' => e = .returned (.int .i64 (checkE T)) ∧ Below W.heap.size W w') := Lib.hid fun W hW => by
    rw [← HTV.out]
    exact checkE_any T (fun b => b < W.heap.size) _ _ _ W (HTI.out W hW) (fun b h => h)
  have KFX : Hid (∀ W, Below w.heap.size w W → Calls Tryz.prog 7 #[] W fun e w' => e = .returned (.bool true) ∧ Below W.heap.size W w') := Lib.hid fun W hW => fixed_any W (tab_below HTAB.out HGL.out hW)
  have Z0 := Lib.hid z0
  have HB0 := Lib.hid hb0
  clear hw0 z0 hb0 ht hT HI
  go_enter Tryz.func4, Tryz.ntmps4
  go_upto_region 1 with fail
  rw [HW0.out]
  go_wp2_with fail
  refine (KFX.out _ HB0.out).mono ?_
  rintro e w1 ⟨rfl, hb1⟩
  have HB1 := Lib.hid (HB0.out.trans (hb1.mono HB0.out.size))
  have ZR1 := Lib.hid ((hb1.block w.heap.size hl0).trans Z0.out)
  clear hb1
  have x0 : w1.cell? ⟨w.heap.size, 0, none⟩ = some (.int .i64 k) := by rw [Lib.cell_of_heap ZR1.out]; rfl
  have x1 : w1.cell? ⟨w.heap.size, 1, none⟩ = some (.string nm) := by rw [Lib.cell_of_heap ZR1.out]; rfl
  have x2 : w1.cell? ⟨w.heap.size, 2, none⟩ = some (.slice an ns.length cn) := by rw [Lib.cell_of_heap ZR1.out]; rfl
  have x3 : w1.cell? ⟨w.heap.size, 3, none⟩ = some (.int .i64 ck) := by rw [Lib.cell_of_heap ZR1.out]; rfl
  have x4 : w1.cell? ⟨w.heap.size, 4, none⟩ = some (.int .i64 ci) := by rw [Lib.cell_of_heap ZR1.out]; rfl
  have x5 : w1.cell? ⟨w.heap.size, 5, none⟩ = some (.string cs) := by rw [Lib.cell_of_heap ZR1.out]; rfl
  have x6 : w1.cell? ⟨w.heap.size, 6, none⟩ = some (.slice ad cl.length cd) := by rw [Lib.cell_of_heap ZR1.out]; rfl
  have x7 : w1.cell? ⟨w.heap.size, 7, none⟩ = some (.slice ak l.length c) := by rw [Lib.cell_of_heap ZR1.out]; rfl
  have hl1 : w.heap.size < w1.heap.size := lt_of_block ZR1.out
  by_cases hc : checkE T = 0
  case neg =>
    have hcb : (checkE T != 0) = true := by simpa using hc
    clear hc
    generalize checkE T = c0 at *
    go_wp2_with fail
    refine (KC.out _ HB1.out).mono ?_
    rintro e w2 ⟨rfl, hb2⟩
    have HB2 := Lib.hid (HB1.out.trans (hb2.mono HB1.out.size))
    clear hb2 x0 x1 x2 x3 x4 x5 x6 x7
    go_wp2_with fail
    refine (KFX.out _ HB2.out).mono ?_
    rintro e w3 ⟨rfl, hb3⟩
    have HB3 := Lib.hid (HB2.out.trans (hb3.mono HB2.out.size))
    clear hb3
    go_wp2
    go_ret
    exact ⟨rfl, HB3.out⟩
  case pos =>
    have HC := Lib.hid hc
    rw [hc] at KC
    clear hc
    go_wp2_with fail
    refine (KC.out _ HB1.out).mono ?_
    rintro e w2 ⟨rfl, hb2⟩
    have HB2 := Lib.hid (HB1.out.trans (hb2.mono HB1.out.size))
    have ZR2 := Lib.hid ((hb2.block w.heap.size hl1).trans ZR1.out)
    clear hb2 x0 x1 x2 x3 x4 x5 x6 x7
    have x0 : w2.cell? ⟨w.heap.size, 0, none⟩ = some (.int .i64 k) := by rw [Lib.cell_of_heap ZR2.out]; rfl
    have x1 : w2.cell? ⟨w.heap.size, 1, none⟩ = some (.string nm) := by rw [Lib.cell_of_heap ZR2.out]; rfl
    have x2 : w2.cell? ⟨w.heap.size, 2, none⟩ = some (.slice an ns.length cn) := by rw [Lib.cell_of_heap ZR2.out]; rfl
    have x3 : w2.cell? ⟨w.heap.size, 3, none⟩ = some (.int .i64 ck) := by rw [Lib.cell_of_heap ZR2.out]; rfl
    have x4 : w2.cell? ⟨w.heap.size, 4, none⟩ = some (.int .i64 ci) := by rw [Lib.cell_of_heap ZR2.out]; rfl
    have x5 : w2.cell? ⟨w.heap.size, 5, none⟩ = some (.string cs) := by rw [Lib.cell_of_heap ZR2.out]; rfl
    have x6 : w2.cell? ⟨w.heap.size, 6, none⟩ = some (.slice ad cl.length cd) := by rw [Lib.cell_of_heap ZR2.out]; rfl
    have x7 : w2.cell? ⟨w.heap.size, 7, none⟩ = some (.slice ak l.length c) := by rw [Lib.cell_of_heap ZR2.out]; rfl
    have KR := Lib.hid (rename_any T (fun b => b < w2.heap.size) _ _ _ w2 (HTI.out w2 HB2.out) (fun b h => h) (tab_below HTAB.out HGL.out HB2.out) HC.out)
    rw [HTV.out] at KR
    go_wp2_with fail
    refine KR.out.mono ?_
    rintro e w3 ⟨⟨⟨k5, nm5, ns5, ⟨ck5, ci5, cs5, cl5⟩, l5⟩, vn5, vd5, vk5, nx5, he, hR5, hn5, hF5⟩, hb3⟩
    obtain ⟨hnd, hbf, hff, hsh, hc5⟩ := renamed_right hR5 HC.out hn5
    have HF5 := Lib.hid hF5
    obtain ⟨⟨_, _, an5, cn5, rfl, _⟩, ⟨_, _, _, ad5, cd5, rfl, _⟩, ak5, c5, rfl, _⟩ := hF5
    have he' : e = .returned (.agg #[.int .i64 k5, .string nm5, .slice an5 ns5.length cn5, .int .i64 ck5, .int .i64 ci5, .string cs5, .slice ad5 cl5.length cd5, .slice ak5 l5.length c5]) := he
    subst he'
    have hb3' := HB2.out.trans (hb3.mono HB2.out.size)
    have zr3 := (hb3.block w.heap.size (lt_of_block ZR2.out)).trans ZR2.out
    clear x0 x1 x2 x3 x4 x5 x6 x7 KR he hR5 hn5 hb3
    go_upto_region 4 with fail
    have z4 := heap_alloc_new w3 (.cells #[.int .i64 k5, .string nm5, .slice an5 ns5.length cn5, .int .i64 ck5, .int .i64 ci5, .string cs5, .slice ad5 cl5.length cd5, .slice ak5 l5.length c5] 28)
    have hb4 := bel_alloc' hb3' (.cells #[.int .i64 k5, .string nm5, .slice an5 ns5.length cn5, .int .i64 ck5, .int .i64 ci5, .string cs5, .slice ad5 cl5.length cd5, .slice ak5 l5.length c5] 28)
    have zr4 : (w3.alloc (.cells #[.int .i64 k5, .string nm5, .slice an5 ns5.length cn5, .int .i64 ck5, .int .i64 ci5, .string cs5, .slice ad5 cl5.length cd5, .slice ak5 l5.length c5] 28)).heap[w.heap.size]? = _ := blk_skip' zr3
    have hs4 := size_new w3 (.cells #[.int .i64 k5, .string nm5, .slice an5 ns5.length cn5, .int .i64 ck5, .int .i64 ci5, .string cs5, .slice ad5 cl5.length cd5, .slice ak5 l5.length c5] 28)
    have hF4 : InF (w3.alloc (.cells #[.int .i64 k5, .string nm5, .slice an5 ns5.length cn5, .int .i64 ck5, .int .i64 ci5, .string cs5, .slice ad5 cl5.length cd5, .slice ak5 l5.length c5] 28)) (fun b => b < (w3.alloc (.cells #[.int .i64 k5, .string nm5, .slice an5 ns5.length cn5, .int .i64 ck5, .int .i64 ci5, .string cs5, .slice ad5 cl5.length cd5, .slice ak5 l5.length c5] 28)).heap.size) (.mk k5 nm5 ns5 (.mk ck5 ci5 cs5 cl5) l5) (.slice an5 ns5.length cn5) (.slice ad5 cl5.length cd5) (.slice ak5 l5.length c5) := (HF5.out.below ((Below.refl _ _).alloc (Nat.le_refl _) _)).move (fun _ _ h => h) fun _ _ _ _ h => h
    generalize w3.alloc (.cells #[.int .i64 k5, .string nm5, .slice an5 ns5.length cn5, .int .i64 ck5, .int .i64 ci5, .string cs5, .slice ad5 cl5.length cd5, .slice ak5 l5.length c5] 28) = w4 at *
    generalize hnb : w3.heap.size = nb at *
    have HZ4 := Lib.hid z4
    have HB4 := Lib.hid hb4
    have HR4 := Lib.hid zr4
    have HF4 := Lib.hid hF4
    have HI4 : Hid (∀ W, Below w4.heap.size w4 W → InF W (fun b => b < W.heap.size) (.mk k5 nm5 ns5 (.mk ck5 ci5 cs5 cl5) l5) (.slice an5 ns5.length cn5) (.slice ad5 cl5.length cd5) (.slice ak5 l5.length c5)) := Lib.hid fun W hW => (HF4.out.below hW).move (fun _ _ h => h) fun _ _ _ _ h => h
    generalize hT5 : PE.mk k5 nm5 ns5 (.mk ck5 ci5 cs5 cl5) l5 = T5 at HI4 hnd hbf hff hsh hc5
    have HTV5 : Hid (T5.val (.slice an5 ns5.length cn5) (.slice ad5 cl5.length cd5) (.slice ak5 l5.length c5) = .agg #[.int .i64 k5, .string nm5, .slice an5 ns5.length cn5, .int .i64 ck5, .int .i64 ci5, .string cs5, .slice ad5 cl5.length cd5, .slice ak5 l5.length c5]) := Lib.hid (by rw [← hT5]; rfl)
    have HND := Lib.hid hnd
    have HBF := Lib.hid hbf
    have HFF := Lib.hid hff
    have HSH := Lib.hid hsh
    have HC5 := Lib.hid hc5
    have hbs := bound_le T5
    have hsz5 := size_of_check hc5
    have KB := Lib.hid (bound_any T5 w4 (fun b => b < w4.heap.size) w4.heap.size _ _ _ (.slice none 0 0) [] (HI4.out w4 (Below.refl _ _)) (fun b h => h) (OutT.nil _ _) (Nat.le_refl _) (by simp; omega))
    rw [HTV5.out, List.nil_append] at KB
    have hln : nb < w4.heap.size := by omega
    have hle : w.heap.size < w4.heap.size := lt_of_block HR4.out
    clear z4 hb4 zr4 hF4 hT5 hnd hbf hff hsh hc5 hb3' zr3 hs4 HF5 HF4
    have y0 : w4.cell? ⟨nb, 0, none⟩ = some (.int .i64 k5) := by rw [Lib.cell_of_heap HZ4.out]; rfl
    have y1 : w4.cell? ⟨nb, 1, none⟩ = some (.string nm5) := by rw [Lib.cell_of_heap HZ4.out]; rfl
    have y2 : w4.cell? ⟨nb, 2, none⟩ = some (.slice an5 ns5.length cn5) := by rw [Lib.cell_of_heap HZ4.out]; rfl
    have y3 : w4.cell? ⟨nb, 3, none⟩ = some (.int .i64 ck5) := by rw [Lib.cell_of_heap HZ4.out]; rfl
    have y4 : w4.cell? ⟨nb, 4, none⟩ = some (.int .i64 ci5) := by rw [Lib.cell_of_heap HZ4.out]; rfl
    have y5 : w4.cell? ⟨nb, 5, none⟩ = some (.string cs5) := by rw [Lib.cell_of_heap HZ4.out]; rfl
    have y6 : w4.cell? ⟨nb, 6, none⟩ = some (.slice ad5 cl5.length cd5) := by rw [Lib.cell_of_heap HZ4.out]; rfl
    have y7 : w4.cell? ⟨nb, 7, none⟩ = some (.slice ak5 l5.length c5) := by rw [Lib.cell_of_heap HZ4.out]; rfl
    go_wp2_with fail
    refine KB.out.mono ?_
    rintro e w5 ⟨v5, rfl, ho5, hk5, _⟩
    have hb5 : Below w4.heap.size w4 w5 := hk5.below (Nat.le_refl _) (fun b e => by cases e)
    have HN5 : Hid (InN w5 (fun b => w4.heap.size ≤ b) (boundE T5) v5) := Lib.hid (ho5.inN (bound_short T5 (okE_of_check HC5.out)) fun b e => (World.ownsRow.lt ho5 b e).1)
    have HB5 := Lib.hid hb5
    have HR5 := Lib.hid ((hb5.block w.heap.size hle).trans HR4.out)
    have HZ5 := Lib.hid ((hb5.block nb hln).trans HZ4.out)
    clear ho5 hk5 hb5 y0 y1 y2 y3 y4 y5 y6 y7 KB
    have x0 : w5.cell? ⟨w.heap.size, 0, none⟩ = some (.int .i64 k) := by rw [Lib.cell_of_heap HR5.out]; rfl
    have x1 : w5.cell? ⟨w.heap.size, 1, none⟩ = some (.string nm) := by rw [Lib.cell_of_heap HR5.out]; rfl
    have x2 : w5.cell? ⟨w.heap.size, 2, none⟩ = some (.slice an ns.length cn) := by rw [Lib.cell_of_heap HR5.out]; rfl
    have x3 : w5.cell? ⟨w.heap.size, 3, none⟩ = some (.int .i64 ck) := by rw [Lib.cell_of_heap HR5.out]; rfl
    have x4 : w5.cell? ⟨w.heap.size, 4, none⟩ = some (.int .i64 ci) := by rw [Lib.cell_of_heap HR5.out]; rfl
    have x5 : w5.cell? ⟨w.heap.size, 5, none⟩ = some (.string cs) := by rw [Lib.cell_of_heap HR5.out]; rfl
    have x6 : w5.cell? ⟨w.heap.size, 6, none⟩ = some (.slice ad cl.length cd) := by rw [Lib.cell_of_heap HR5.out]; rfl
    have x7 : w5.cell? ⟨w.heap.size, 7, none⟩ = some (.slice ak l.length c) := by rw [Lib.cell_of_heap HR5.out]; rfl
    have KF : Hid (∀ W, Below w.heap.size w W → Calls Tryz.prog 13 #[.agg #[.int .i64 k, .string nm, .slice an ns.length cn, .int .i64 ck, .int .i64 ci, .string cs, .slice ad cl.length cd, .slice ak l.length c]] W fun e w' => FreeIs W.heap.size T e w' ∧ Below W.heap.size W w') := Lib.hid fun W hW => by
      rw [← HTV.out]
      exact free_any T (fun b => b < W.heap.size) _ _ _ W (HTI.out W hW) (fun b h => h) (by have := size_of_check HC.out; omega)
    have hb45 := HB4.out.trans (HB5.out.mono HB4.out.size)
    have HB45 := Lib.hid hb45
    clear hb45
    go_wp2_with fail
    refine (KF.out _ HB45.out).mono ?_
    rintro e w6 ⟨⟨lw, vw, rfl, hnw, hsrt, hmem⟩, hb6⟩
    have HNW := Lib.hid hnw
    have HSRT := Lib.hid hsrt
    have HMEM := Lib.hid hmem
    have HB6 := Lib.hid hb6
    have HB56 := Lib.hid (HB5.out.trans (hb6.mono HB5.out.size))
    have HB46 := Lib.hid (HB45.out.trans (hb6.mono HB45.out.size))
    have hw5l : w5.heap.size ≤ w6.heap.size := hb6.size
    generalize hL : boundE T5 = L at HN5 HND HBF
    obtain ⟨aw, cw, rfl, hlw, hmw, _⟩ := hnw
    have HN6 := Lib.hid (HN5.out.below HB6.out)
    obtain ⟨al, cl5', rfl, hll, hml, _, hrl⟩ := HN6.out
    have HRL := Lib.hid hrl
    unfold maxLen at hml hmw
    clear hsrt hmem hb6 hL x0 x1 x2 x3 x4 x5 x6 x7 hbs hrl HN5
    go_wp2
    go_loopw [6] (fun i wr => ∃ j : Nat, j ≤ L.length ∧ i = .int .i64 j ∧ Below w6.heap.size w6 wr) (fun i _ => L.length - (intOf i).toNat)
    case atStart => exact ⟨0, Nat.zero_le _, rfl, Below.refl _ _⟩
    case round =>
      obtain ⟨j, hj, rfl, hbr⟩ := hrel
      by_cases hlt : j < L.length
      · obtain ⟨b, o, rfl, hs, hcl⟩ := HRL.out.resolve_left (by rintro rfl; cases hlt)
        have c0 := cell_below hbr (hcl j hlt).1
        have KH := Lib.hid (fun n => (has_any (L.take j) (fun b => w4.heap.size ≤ b) (.slice (some ⟨b, o, none⟩) j cl5') L[j] (wr.drewN n) (by
          have hW := Dat.below_drewN (Below.refl wr.heap.size wr) n
          refine ⟨some ⟨b, o, none⟩, cl5', by rw [List.length_take]; congr 1; omega, by rw [List.length_take]; omega, hml, (fun h => by cases h), .inr ⟨b, o, rfl, hs, fun i hi => ?_⟩⟩
          rw [List.length_take] at hi
          rw [List.getElem_take]
          exact ⟨cell_below hW (cell_below hbr (hcl i (by omega)).1), (hcl i (by omega)).2⟩)).mono fun _ _ h => And.intro h.1 h.2.symm)
        have KH2 := Lib.hid (fun n => (has_any lw (fun b => w5.heap.size ≤ b) (.slice aw lw.length cw) L[j] (wr.drewN n) (HNW.out.below (Dat.below_drewN hbr n))).mono fun _ _ h => And.intro h.1 h.2.symm)
        have e1 : hasB (L.take j) L[j] = false := by
          have hh : L[j] ∉ L.take j := fun hm => by
            obtain ⟨i, hi, e⟩ := List.getElem_of_mem hm
            rw [List.length_take] at hi
            rw [List.getElem_take] at e
            have := (List.getElem_inj HND.out).1 e
            omega
          simp [hasB, hh]
        have e2 : hasB lw L[j] = false := by
          have hh : L[j] ∉ lw := fun hm => ((HMEM.out _).1 hm).2 (HBF.out _ (List.getElem_mem hlt))
          simp [hasB, hh]
        rw [e1] at KH
        rw [e2] at KH2
        have HBR := Lib.hid hbr
        have hjc : (j : Int) ≤ (cl5' : Int) := by omega
        have hjc2 : j ≤ cl5' := by omega
        have hbl : b < wr.heap.size := World.block_lt_of_cell? _ _ c0
        clear hcl hbr e1 e2
        generalize L[j] = t at *
        go_wp2
        go_quiet (first | (go_at_call 14; with_reducible exact Calls.quiet_of_same (KH.out _)) | (go_at_call 14; with_reducible exact Calls.quiet_of_same (KH2.out _)))
        go_wp2
        go_roundw
        case rel => exact ⟨j + 1, by omega, by go_num, Dat.below_drewN HBR.out _⟩
        case measure => simp [intOf]; omega
      · obtain rfl : j = L.length := by omega
        have HBR := Lib.hid hbr
        have hrr := hbr.size
        have ZR7 := Lib.hid (((HB56.out.trans (hbr.mono HB56.out.size)).block w.heap.size hle).trans HR4.out)
        have ZN7 := Lib.hid (((HB56.out.trans (hbr.mono HB56.out.size)).block nb hln).trans HZ4.out)
        have HB47 := Lib.hid (HB56.out.trans (hbr.mono HB56.out.size))
        clear hbr
        have KC5 : Hid (∀ W, Below w4.heap.size w4 W → Calls Tryz.prog 11 #[.agg #[.int .i64 k5, .string nm5, .slice an5 ns5.length cn5, .int .i64 ck5, .int .i64 ci5, .string cs5, .slice ad5 cl5.length cd5, .slice ak5 l5.length c5]] W fun e w' => e = .returned (.int .i64 0) ∧ Below W.heap.size W w') := Lib.hid fun W hW => by
          have := checkE_any T5 (fun b => b < W.heap.size) _ _ _ W (HI4.out W hW) (fun b h => h)
          rw [HC5.out, HTV5.out] at this
          exact this
        have KF5 : Hid (∀ W, Below w4.heap.size w4 W → Calls Tryz.prog 13 #[.agg #[.int .i64 k5, .string nm5, .slice an5 ns5.length cn5, .int .i64 ck5, .int .i64 ci5, .string cs5, .slice ad5 cl5.length cd5, .slice ak5 l5.length c5]] W fun e w' => FreeIs W.heap.size T5 e w' ∧ Below W.heap.size W w') := Lib.hid fun W hW => by
          have := free_any T5 (fun b => b < W.heap.size) _ _ _ W (HI4.out W hW) (fun b h => h) (by omega)
          rw [HTV5.out] at this
          exact this
        have KSH : Hid (∀ W, Below w4.heap.size w4 W → Calls Tryz.prog 16 #[.agg #[.int .i64 k, .string nm, .slice an ns.length cn, .int .i64 ck, .int .i64 ci, .string cs, .slice ad cl.length cd, .slice ak l.length c], .agg #[.int .i64 k5, .string nm5, .slice an5 ns5.length cn5, .int .i64 ck5, .int .i64 ci5, .string cs5, .slice ad5 cl5.length cd5, .slice ak5 l5.length c5]] W fun e w' => e = .returned (.bool true) ∧ Below W.heap.size W w') := Lib.hid fun W hW => by
          have := shaped_any T T5 W (fun b => b < W.heap.size) (fun b => b < W.heap.size) _ _ _ _ _ _ (HTI.out W (HB4.out.trans (hW.mono HB4.out.size))) (HI4.out W hW) HSH.out
          rw [HTV5.out, HTV.out] at this
          exact this
        have y0 : wr.cell? ⟨nb, 0, none⟩ = some (.int .i64 k5) := by rw [Lib.cell_of_heap ZN7.out]; rfl
        have y1 : wr.cell? ⟨nb, 1, none⟩ = some (.string nm5) := by rw [Lib.cell_of_heap ZN7.out]; rfl
        have y2 : wr.cell? ⟨nb, 2, none⟩ = some (.slice an5 ns5.length cn5) := by rw [Lib.cell_of_heap ZN7.out]; rfl
        have y3 : wr.cell? ⟨nb, 3, none⟩ = some (.int .i64 ck5) := by rw [Lib.cell_of_heap ZN7.out]; rfl
        have y4 : wr.cell? ⟨nb, 4, none⟩ = some (.int .i64 ci5) := by rw [Lib.cell_of_heap ZN7.out]; rfl
        have y5 : wr.cell? ⟨nb, 5, none⟩ = some (.string cs5) := by rw [Lib.cell_of_heap ZN7.out]; rfl
        have y6 : wr.cell? ⟨nb, 6, none⟩ = some (.slice ad5 cl5.length cd5) := by rw [Lib.cell_of_heap ZN7.out]; rfl
        have y7 : wr.cell? ⟨nb, 7, none⟩ = some (.slice ak5 l5.length c5) := by rw [Lib.cell_of_heap ZN7.out]; rfl
        go_wp2_with fail
        refine (KC5.out _ HB47.out).mono ?_
        rintro e w8 ⟨rfl, hb8⟩
        have HB8 := Lib.hid (HB47.out.trans (hb8.mono HB47.out.size))
        have HBR8 := Lib.hid (HBR.out.trans (hb8.mono hrr))
        have ZN8 := Lib.hid ((HB8.out.block nb hln).trans HZ4.out)
        clear hb8 y0 y1 y2 y3 y4 y5 y6 y7
        have y0 : w8.cell? ⟨nb, 0, none⟩ = some (.int .i64 k5) := by rw [Lib.cell_of_heap ZN8.out]; rfl
        have y1 : w8.cell? ⟨nb, 1, none⟩ = some (.string nm5) := by rw [Lib.cell_of_heap ZN8.out]; rfl
        have y2 : w8.cell? ⟨nb, 2, none⟩ = some (.slice an5 ns5.length cn5) := by rw [Lib.cell_of_heap ZN8.out]; rfl
        have y3 : w8.cell? ⟨nb, 3, none⟩ = some (.int .i64 ck5) := by rw [Lib.cell_of_heap ZN8.out]; rfl
        have y4 : w8.cell? ⟨nb, 4, none⟩ = some (.int .i64 ci5) := by rw [Lib.cell_of_heap ZN8.out]; rfl
        have y5 : w8.cell? ⟨nb, 5, none⟩ = some (.string cs5) := by rw [Lib.cell_of_heap ZN8.out]; rfl
        have y6 : w8.cell? ⟨nb, 6, none⟩ = some (.slice ad5 cl5.length cd5) := by rw [Lib.cell_of_heap ZN8.out]; rfl
        have y7 : w8.cell? ⟨nb, 7, none⟩ = some (.slice ak5 l5.length c5) := by rw [Lib.cell_of_heap ZN8.out]; rfl
        go_wp2_with fail
        refine (KF5.out _ HB8.out).mono ?_
        rintro e w9 ⟨⟨l9, v9, rfl, hn9, hs9, hm9⟩, hb9⟩
        obtain rfl : l9 = lw := sorted_ext hs9 HSRT.out fun s => by rw [hm9, HMEM.out, HFF.out]
        have HB9 := Lib.hid (HB8.out.trans (hb9.mono HB8.out.size))
        have HBR9 := Lib.hid (HBR8.out.trans (hb9.mono HBR8.out.size))
        have KST := Lib.hid (sameTexts_any l9 l9 _ (fun b => w5.heap.size ≤ b) v9 (.slice aw l9.length cw) w9 hn9 (HNW.out.below HBR9.out))
        rw [sameN_self] at KST
        obtain ⟨a9, c9, rfl, _⟩ := hn9
        clear hs9 hm9 hb9 y0 y1 y2 y3 y4 y5 y6 y7
        go_wp2_with fail
        refine KST.out.mono ?_
        rintro e w10 ⟨rfl, hb10⟩
        have HB10 := Lib.hid (HB9.out.trans (hb10.mono HB9.out.size))
        have ZR10 := Lib.hid ((HB10.out.block w.heap.size hle).trans HR4.out)
        have ZN10 := Lib.hid ((HB10.out.block nb hln).trans HZ4.out)
        clear hb10
        have x0 : w10.cell? ⟨w.heap.size, 0, none⟩ = some (.int .i64 k) := by rw [Lib.cell_of_heap ZR10.out]; rfl
        have x1 : w10.cell? ⟨w.heap.size, 1, none⟩ = some (.string nm) := by rw [Lib.cell_of_heap ZR10.out]; rfl
        have x2 : w10.cell? ⟨w.heap.size, 2, none⟩ = some (.slice an ns.length cn) := by rw [Lib.cell_of_heap ZR10.out]; rfl
        have x3 : w10.cell? ⟨w.heap.size, 3, none⟩ = some (.int .i64 ck) := by rw [Lib.cell_of_heap ZR10.out]; rfl
        have x4 : w10.cell? ⟨w.heap.size, 4, none⟩ = some (.int .i64 ci) := by rw [Lib.cell_of_heap ZR10.out]; rfl
        have x5 : w10.cell? ⟨w.heap.size, 5, none⟩ = some (.string cs) := by rw [Lib.cell_of_heap ZR10.out]; rfl
        have x6 : w10.cell? ⟨w.heap.size, 6, none⟩ = some (.slice ad cl.length cd) := by rw [Lib.cell_of_heap ZR10.out]; rfl
        have x7 : w10.cell? ⟨w.heap.size, 7, none⟩ = some (.slice ak l.length c) := by rw [Lib.cell_of_heap ZR10.out]; rfl
        have y0 : w10.cell? ⟨nb, 0, none⟩ = some (.int .i64 k5) := by rw [Lib.cell_of_heap ZN10.out]; rfl
        have y1 : w10.cell? ⟨nb, 1, none⟩ = some (.string nm5) := by rw [Lib.cell_of_heap ZN10.out]; rfl
        have y2 : w10.cell? ⟨nb, 2, none⟩ = some (.slice an5 ns5.length cn5) := by rw [Lib.cell_of_heap ZN10.out]; rfl
        have y3 : w10.cell? ⟨nb, 3, none⟩ = some (.int .i64 ck5) := by rw [Lib.cell_of_heap ZN10.out]; rfl
        have y4 : w10.cell? ⟨nb, 4, none⟩ = some (.int .i64 ci5) := by rw [Lib.cell_of_heap ZN10.out]; rfl
        have y5 : w10.cell? ⟨nb, 5, none⟩ = some (.string cs5) := by rw [Lib.cell_of_heap ZN10.out]; rfl
        have y6 : w10.cell? ⟨nb, 6, none⟩ = some (.slice ad5 cl5.length cd5) := by rw [Lib.cell_of_heap ZN10.out]; rfl
        have y7 : w10.cell? ⟨nb, 7, none⟩ = some (.slice ak5 l5.length c5) := by rw [Lib.cell_of_heap ZN10.out]; rfl
        go_wp2_with fail
        refine (KSH.out _ HB10.out).mono ?_
        rintro e w11 ⟨rfl, hb11⟩
        have HB11 := Lib.hid (HB4.out.trans ((HB10.out.trans (hb11.mono HB10.out.size)).mono HB4.out.size))
        clear hb11 x0 x1 x2 x3 x4 x5 x6 x7 y0 y1 y2 y3 y4 y5 y6 y7
        go_wp2
        go_ret
        exact ⟨rfl, HB11.out⟩
end Go.Proofs.YteeeicacjngioaaGreatDoor.Core
