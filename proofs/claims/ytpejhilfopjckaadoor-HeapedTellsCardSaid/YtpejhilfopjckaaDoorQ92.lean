/-
The document's tell of a vector and of a pair. No condition but that the heap lies in memory and its things are such as calls make.
-/
import Derived.Test.YtpejhilfopjckaaDoorQGp
import Derived.Deep.RegionHeld3
namespace Go.Proofs.YtpejhilfopjckaaDoor.Hp
open Go.ChangeShapes Go.WideShapes Go.ChangeAt Go.RowKit Go.Deep
open Dat (PT ok64 RepV RepS RowX infoDatum NewV NewS makeT MakeOk numT numsT)
set_option maxRecDepth 100000

/-- append of a datum to a row of one's own; where the new row lies. -/
theorem wpList_append_outA {ops : Array Oper} {rest : List Oper} {o : Oper} {a : Act} {w : World} {Q : Exit → Act → World → Prop} (hgd : o.guard = none) (sl x : Operand)
    (ho : o.op = .call { callee := .builtin .append, args := #[sl, x], argTypes := #[48, 48] }) (C : Nat) (P : Nat → Prop) (l : List PT) (v : Value) (hs : a.eval sl = v) (h : OutD w C P l v) (B : Nat) (k i : Int) (s : ByteArray) (m : List PT) (xv : Value) (hx : a.eval x = .slice (some ⟨B, 0, none⟩) 1 1)
    (hB : w.heap[B]? = some (.cells #[.int .i64 k, .int .i64 i, .string s, xv] 50 (0, 0))) (h1 : Dat.ok64 k) (h2 : Dat.ok64 i) (h3 : s.size ≤ maxLen) (hm : InS w (fun b => P b ∧ some b ≠ v.ownBlock) m xv) (hlen : l.length ≤ 100000) (hC : C ≤ w.heap.size)
    (kk : ∀ g cap w', OutD w' C P (l ++ [.mk k i s m]) (.slice (some ⟨g, 0, none⟩) (l.length + 1) cap) → Below C w w' → (∀ b, b < w.heap.size → some b ≠ v.ownBlock → w'.heap[b]? = w.heap[b]?) → (v.ownBlock = some g ∨ g = w.heap.size) → wpList Tryd.prog ops Q rest (a.put o.dst (.slice (some ⟨g, 0, none⟩) (l.length + 1) cap)) w') : wpList Tryd.prog ops Q (o :: rest) a w := by
  obtain ⟨i0, hi, hz0, hz1, hz2⟩ := info_parts infoDatum
  obtain ⟨xs, hxs, hrx⟩ := h
  obtain ⟨ax, cx, rfl, _⟩ := id hm
  refine wpList_append_lies w hgd sl x 48 ho C 50 i0 _ 4 56 Tryd.underlying48 hi hz0 hz1 hz2 rfl (by decide) v l.length xs hs hxs ⟨B, 0, none⟩ 1 1 [.int .i64 k, .int .i64 i, .string s, .slice ax m.length cx] hx rfl (World.news_of_block hB) ?_ (by decide) (by unfold maxLen; omega) (by omega) hC w.heap.size rfl ?_
  · intro u hu
    simp only [List.mem_cons, List.not_mem_nil, or_false] at hu
    rcases hu with rfl | rfl | rfl | rfl <;> rfl
  · intro g cap w' hown hgrow hat hlt
    exact kk g cap w' (outD_step hrx h1 h2 h3 hm hown hgrow hat) ((Below.refl C w).grown hgrow hC (fun b hb => (hxs.lt b hb).1)) hgrow.block hat
theorem num_pos : ∀ t : PT, 1 ≤ numT t
  | .mk _ _ _ l => by rw [numT]; omega
theorem len_nums : ∀ l : List PT, l.length ≤ numsT l
  | [] => Nat.zero_le _
  | t :: l => by have := num_pos t; have := len_nums l; simp only [numsT, List.length_cons]; omega
/-- All is kept but a block of four cells. -/
def KBr (w : World) (R : Nat) (W : World) : Prop := KpF (TS R) w W ∧ ∃ y0 y1 y2 y3, W.heap[R]? = some (.cells #[y0, y1, y2, y3] 50 (0, 0))
theorem KBr.drew {w : World} {R : Nat} {W : World} (h : KBr w R W) : KBr w R W.drew := ⟨h.1.drew, h.2⟩
theorem KBr.below {w : World} {R : Nat} {W W' : World} (h : KBr w R W) (hb : Below W.heap.size W W') : KBr w R W' := by
  obtain ⟨y0, y1, y2, y3, hy⟩ := h.2
  exact ⟨h.1.trans (KpF.of_below hb), y0, y1, y2, y3, (hb.block R (lt_of_block hy)).trans hy⟩
theorem KBr.put {w : World} {R : Nat} {W : World} (h : KBr w R W) (y0 y1 y2 y3 : Value) : KBr w R ((((W.setCell ⟨R, 0, none⟩ y0).setCell ⟨R, 1, none⟩ y1).setCell ⟨R, 2, none⟩ y2).setCell ⟨R, 3, none⟩ y3) := by
  obtain ⟨z0, z1, z2, z3, hz⟩ := h.2
  exact ⟨⟨h.1.1.trans (put4_below (Below.refl 0 W) (Nat.zero_le _) _ _ _ _), fun b hb hne => (put4_other _ _ _ _ hne).trans (h.1.2 b hb hne)⟩, _, _, _, _, put4 hz _ _ _ _⟩
theorem KBr.cell {w : World} {R : Nat} {W : World} (h : KBr w R W) {b o : Nat} {v : Value} (hv : w.cell? ⟨b, o, none⟩ = some v) (hne : b ≠ R) : W.cell? ⟨b, o, none⟩ = some v :=
  (World.cell?_of_block (w := w) (a := ⟨b, o, none⟩) (h.1.2 b (World.block_lt_of_cell? _ _ hv) hne)).trans hv
/-- How things stand in the loop over a thing's values. -/
def RowI (W2 : World) (g : Nat → PV → Nat → Option (PT × Nat)) (l : List PV) (n1 j n2 : Nat) (r : List PT) (pv : Value) (wr : World) : Prop :=
  tellI g (l.take j) 0 n1 = some (r, n2) ∧ OutD wr W2.heap.size (W2.heap.size + 2 ≤ ·) r pv ∧ (∀ b, pv.ownBlock = some b → b ≠ W2.heap.size + 1) ∧ (∃ y0 y1 y2 y3, wr.heap[W2.heap.size + 1]? = some (.cells #[y0, y1, y2, y3] 50 (0, 0))) ∧ Below W2.heap.size W2 wr
set_option maxHeartbeats 4000000 in
theorem rtell_row (i : Int) (s : ByteArray) (hb m n : Nat) (T : List (Int × List PV)) (F : Nat → Prop) (hm : m ≤ 32) (hn : n < 200) (hi : 0 ≤ i) (l : List PV) (kd : Int) (hkd : kd = 0 ∨ kd = 1) (hkl : kd = 0 → l.length = 2) (hT : T[i.toNat]? = some (kd, l)) (f : Nat) (hf : 200 ≤ n + 1 + f) (HV : RValF hb T F f) (hW : WfT T) (hl : l.length ≤ 1000)
    (w : World) (hH : HeapR w hb T F) (hFb : ∀ b, F b → b < w.heap.size) (R : Option (PT × Nat)) (hR : R = match tellI (fun i u k => tellF T f u (downN kd m i) k) l 0 (n + 1) with | none => none | some (l', n2) => some (joinT kd l', n2)) :
    Calls Tryd.prog 42 #[.pointer (some ⟨hb, 0, none⟩), .agg #[.int .i64 8, .int .i64 i, .string s], .int .i64 (m : Int), .int .i64 (n : Int)] w fun e w' => RTelOk w R e w' := by
  have n1 : ¬ (200 : Int) ≤ (n : Int) := by omega
  have n2 : ¬ (32 : Int) < (m : Int) := by omega
  have HN : Hid (((n : Int) + 1) = ((n + 1 : Nat) : Int)) := Lib.hid (by omega)
  have HRR := Lib.hid hR
  have hj : i.toNat < T.length := (List.getElem?_eq_some_iff.1 hT).1
  have hTj : T[i.toNat] = (kd, l) := (List.getElem?_eq_some_iff.1 hT).2
  obtain ⟨tk, cap, g, pv, x0, x1, x2, x3, x4, x5, x6, x7, x8⟩ := hH.thing i.toNat hj
  rw [hTj] at x3 x5 x6 x8
  dsimp only at x3 x5 x6 x8
  obtain ⟨pa, pc, rfl, p1, p2⟩ := x6.slice
  have hL : i < (T.length : Int) := by omega
  obtain ⟨z1, b0⟩ := four_new w (.cells #[.int .i64 8, .int .i64 i, .string s] 36) (.cells #[.int .i64 0, .int .i64 0, .string ⟨#[]⟩, .slice none 0 0] 50) (.cells #[.int .i64 0, .int .i64 i, .string ⟨#[]⟩, .slice none 0 0] 50) (.cells #[.string ⟨#[]⟩, .string ⟨#[]⟩, .string ⟨#[]⟩, .string ⟨#[]⟩, .string ⟨#[]⟩, .string ⟨#[118, 111, 105, 100]⟩, .string ⟨#[101, 111, 102]⟩, .string ⟨#[117, 110, 115, 101, 116]⟩] 9)
  have z0 : ((((w.alloc (.cells #[.int .i64 8, .int .i64 i, .string s] 36)).alloc (.cells #[.int .i64 0, .int .i64 0, .string ⟨#[]⟩, .slice none 0 0] 50)).alloc (.cells #[.int .i64 0, .int .i64 i, .string ⟨#[]⟩, .slice none 0 0] 50)).alloc (.cells #[.string ⟨#[]⟩, .string ⟨#[]⟩, .string ⟨#[]⟩, .string ⟨#[]⟩, .string ⟨#[]⟩, .string ⟨#[118, 111, 105, 100]⟩, .string ⟨#[101, 111, 102]⟩, .string ⟨#[117, 110, 115, 101, 116]⟩] 9)).heap[w.heap.size]? = some (.cells #[.int .i64 8, .int .i64 i, .string s] 36 (0, 0)) := blk_skip' (blk_skip' (blk_skip' (heap_alloc_new w _)))
  have hs0 : ((((w.alloc (.cells #[.int .i64 8, .int .i64 i, .string s] 36)).alloc (.cells #[.int .i64 0, .int .i64 0, .string ⟨#[]⟩, .slice none 0 0] 50)).alloc (.cells #[.int .i64 0, .int .i64 i, .string ⟨#[]⟩, .slice none 0 0] 50)).alloc (.cells #[.string ⟨#[]⟩, .string ⟨#[]⟩, .string ⟨#[]⟩, .string ⟨#[]⟩, .string ⟨#[]⟩, .string ⟨#[118, 111, 105, 100]⟩, .string ⟨#[101, 111, 102]⟩, .string ⟨#[117, 110, 115, 101, 116]⟩] 9)).heap.size = w.heap.size + 4 := by rw [size_new, size_new, size_new, size_new]
  have HZ0 := Lib.hid z0
  have HZ1 := Lib.hid z1
  have HB0 := Lib.hid b0
  have HS0 := Lib.hid hs0
  have HPA := Lib.hid x6
  have HG := Lib.hid x8
  have HH := Lib.hid hH
  have HT := Lib.hid hT
  have HFB := Lib.hid hFb
  have hbl := hH.lt
  have htl := World.block_lt_of_cell? _ _ x3
  have X0 := Lib.hid x0
  have X3 := Lib.hid x3
  have X4 := Lib.hid x4
  unfold maxLen at x2
  clear hT hR hTj x0 x3 x4 x5 x6 x7 x8 z0 z1 b0 hs0 hH hFb
  go_enter Tryd.func42, Tryd.ntmps42
  go_upto_region 21 with fail
  generalize (((w.alloc (.cells #[.int .i64 8, .int .i64 i, .string s] 36)).alloc (.cells #[.int .i64 0, .int .i64 0, .string ⟨#[]⟩, .slice none 0 0] 50)).alloc (.cells #[.int .i64 0, .int .i64 i, .string ⟨#[]⟩, .slice none 0 0] 50)).alloc (.cells #[.string ⟨#[]⟩, .string ⟨#[]⟩, .string ⟨#[]⟩, .string ⟨#[]⟩, .string ⟨#[]⟩, .string ⟨#[118, 111, 105, 100]⟩, .string ⟨#[101, 111, 102]⟩, .string ⟨#[117, 110, 115, 101, 116]⟩] 9) = w1 at *
  have c0 := cell_below (HB0.out.mono (Nat.le_refl _)) X0.out
  have c3 := cell_below (HB0.out.mono (Nat.le_refl _)) X3.out
  have c4 := cell_below (HB0.out.mono (Nat.le_refl _)) X4.out
  obtain ⟨⟨y0, y1, y2⟩, -⟩ := look3 HZ0.out
  have hsz1 := HS0.out
  have l1 : hb < w1.heap.size := by omega
  have l2 : tk < w1.heap.size := by have : tk < w.heap.size := htl; omega
  have l3 : w.heap.size < w1.heap.size := by omega
  have ba := (Below.refl w1.heap.size w1).alloc (Nat.le_refl _) (.cells #[.int .i64 0, .slice none 0 0] 43)
  have d0 := cell_below ba c0
  have d3 := cell_below ba c3
  have d4 := cell_below ba c4
  have e0 := cell_below ba y0
  have e1 := cell_below ba y1
  have e2 := cell_below ba y2
  clear ba
  go_region
  have Z13 := Lib.hid (show ((w1.alloc (.cells #[.int .i64 kd, .slice pa l.length pc] 43)).drew).heap[w.heap.size + 4]? = some (.cells #[.int .i64 kd, .slice pa l.length pc] 43 (0, 0)) from hsz1 ▸ heap_alloc_new w1 _)
  have hsz2 : ((w1.alloc (.cells #[.int .i64 kd, .slice pa l.length pc] 43)).drew).heap.size = w1.heap.size + 1 := size_new _ _
  have HB2 := Lib.hid (((Below.refl w1.heap.size w1).alloc (Nat.le_refl _) (.cells #[.int .i64 kd, .slice pa l.length pc] 43)).drew)
  clear c0 c3 c4 y0 y1 y2 d0 d3 d4 e0 e1 e2
  generalize (w1.alloc (.cells #[.int .i64 kd, .slice pa l.length pc] 43)).drew = W2 at *
  have HB := Lib.hid (HB0.out.trans (HB2.out.mono HB0.out.size))
  have E2 := Lib.hid ((HB2.out.block (w.heap.size + 1) (by omega)).trans HZ1.out)
  obtain ⟨⟨k0, k1⟩, -⟩ := look2 Z13.out
  have HPA2 := Lib.hid (HPA.out.move (w' := W2) (fun h0 => HB.out.block g (HFB.out g (HG.out h0))))
  have hszW : w.heap.size + 5 ≤ W2.heap.size := by omega
  have hL1 : ∀ b, F b → b < W2.heap.size := fun b hb => by have := HFB.out b hb; omega
  replace hL1 := Lib.hid hL1
  have HVV := Lib.hid HV
  have HWF := Lib.hid hW
  have hwl := hW _ (List.mem_of_getElem? HT.out)
  have HUO : Hid (∀ u ∈ l, hasB T.length u = true) := Lib.hid hwl.2.2.2.2
  have HKL := Lib.hid hkl
  have t3 : (kd == 3) = false := by rcases hkd with rfl | rfl <;> rfl
  have t4 : (kd == 4) = false := by rcases hkd with rfl | rfl <;> rfl
  have t2 : (kd == 2) = false := by rcases hkd with rfl | rfl <;> rfl
  have HKD := Lib.hid hkd
  clear hsz1 hsz2 l1 l2 l3 HV hW hwl hkl hkd
  go_upto_region 36 with fail
  have b3 : (W2.alloc (.cells #[] 50)).heap[W2.heap.size]? = some (.cells #[] 50 (0, 0)) := heap_alloc_new W2 _
  have hA3 := (Below.refl W2.heap.size W2).alloc (Nat.le_refl _) (.cells #[] 50)
  have s3 := size_new W2 (.cells #[] 50)
  have b4 := blk_skip' (o := .cells #[.int .i64 0, .int .i64 0, .string ⟨#[]⟩, .slice none 0 0] 50) b3
  have x4 := heap_alloc_new (W2.alloc (.cells #[] 50)) (.cells #[.int .i64 0, .int .i64 0, .string ⟨#[]⟩, .slice none 0 0] 50)
  have hA4 := hA3.alloc hA3.size (.cells #[.int .i64 0, .int .i64 0, .string ⟨#[]⟩, .slice none 0 0] 50)
  rw [s3] at x4
  have HI0 : Hid (RowI W2 (fun i u k => tellF T f u (downN kd m i) k) l (n + 1) 0 (n + 1) [] (.slice (some ⟨W2.heap.size, 0, none⟩) 0 0) ((W2.alloc (.cells #[] 50)).alloc (.cells #[.int .i64 0, .int .i64 0, .string ⟨#[]⟩, .slice none 0 0] 50))) :=
    Lib.hid ⟨rfl, ⟨[], ⟨rfl, .inr ⟨W2.heap.size, 0, #[], rfl, Nat.le_refl _, b4, Nat.le_refl _, Nat.zero_le _, rfl, rfl⟩⟩, by rw [RowX]⟩, (fun b e => by cases e; show W2.heap.size ≠ W2.heap.size + 1; omega), ⟨_, _, _, _, x4⟩, hA4⟩
  clear b3 hA3 s3 b4 x4 hA4 k0 k1
  generalize (W2.alloc (.cells #[] 50)).alloc (.cells #[.int .i64 0, .int .i64 0, .string ⟨#[]⟩, .slice none 0 0] 50) = W3 at *
  generalize Value.slice (some ⟨W2.heap.size, 0, none⟩) 0 0 = p3 at *
  go_wp2
  go_loopw [3, 16, 17, 19, 20] (fun sn p okv x dn wr => ∃ (j n2 : Nat) (r : List PT) (pv sv : Value), pv = p ∧ sv = sn ∧ sv = .int .i64 (n2 : Int) ∧ j ≤ l.length ∧ x = .int .i64 (j : Int) ∧ RowI W2 (fun i u k => tellF T f u (downN kd m i) k) l (n + 1) j n2 r pv wr) (fun _ _ _ x _ _ => l.length - (intOf x).toNat)
  case atStart => exact ⟨0, n + 1, [], _, _, rfl, rfl, by rw [HN.out], Nat.zero_le _, rfl, HI0.out⟩
  case round =>
    obtain ⟨j, n2, r, pv, sv, rfl, rfl, rfl, hj2, rfl, hI⟩ := hrel
    obtain ⟨hg, hO, hob, ⟨y0, y1, y2, y3, hX⟩, hb⟩ := hI
    obtain ⟨q1, q2, q3, q4⟩ := tellI_num (fun i u => tellF_num HWF.out f u (downN kd m i)) _ _ _ _ _ (show n + 1 ≤ 200 by omega) hg
    have hszr := hb.size
    obtain ⟨⟨k0, k1⟩, -⟩ := look2 ((hb.block (w.heap.size + 4) (by omega)).trans Z13.out)
    by_cases hlt : j < l.length
    · have d1 : (j : Int) < (l.length : Int) := by omega
      have hne : l ≠ [] := fun e => by rw [e] at hlt; exact absurd hlt (Nat.not_lt_zero _)
      have hPr := HPA2.out.move (w' := wr) (fun h0 => hb.block g (hL1.out g (HG.out h0)))
      obtain ⟨b, o, c, e, hbs, hbl', hva⟩ := hPr.inP.cells hne
      cases e
      obtain rfl : b = g := hbs
      obtain ⟨u0, u1, u2, uo⟩ := hva.item j hlt
      have huh := HUO.out _ (List.getElem_mem hlt)
      have hstep : tellI (fun i u k => tellF T f u (downN kd m i) k) (l.take (j + 1)) 0 (n + 1) = match tellF T f l[j] (downN kd m j) n2 with | none => none | some (x, n3) => some (r ++ [x], n3) := by
        rw [List.take_succ_eq_append_getElem hlt, tellI_snoc, hg]
        have e : 0 + (l.take j).length = j := by rw [List.length_take]; omega
        rw [e]
        rfl
      have KV0 := HVV.out l[j] (downN kd m j) n2 wr huh uo (by unfold downN; split <;> omega) q2 (by omega) (HH.out.below (HB.out.trans (hb.mono HB.out.size) |>.mono (Nat.le_refl _))) (fun b hb' => by have := hL1.out b hb'; omega)
      generalize l[j] = u at u0 u1 u2 uo huh hstep KV0
      obtain ⟨uk, ui, us⟩ := u
      dsimp only at u0 u1 u2 KV0
      obtain ⟨dn, hdn⟩ : ∃ dn : Int, dn = (downN kd m j : Int) := ⟨_, rfl⟩
      rw [← hdn] at KV0
      generalize tellF T f ⟨uk, ui, us⟩ (downN kd m j) n2 = res at hstep KV0
      have HKV := Lib.hid KV0
      have HST := Lib.hid hstep
      have HO := Lib.hid hO
      have HOB := Lib.hid hob
      have HX := Lib.hid hX
      have HBr := Lib.hid hb
      have HQ := Lib.hid (And.intro q2 (And.intro q3 q4))
      clear KV0 hstep hO hob hX hb hg q1 q2 q3 q4 hPr hva huh uo hne
      have hdn' : (kd = 0 ∧ j = 1 ∧ dn = (m : Int)) ∨ (kd = 0 ∧ j ≠ 1 ∧ dn = (m : Int) + 1) ∨ (kd = 1 ∧ dn = (m : Int) + 1) := by
        rw [hdn]
        unfold downN
        rcases HKD.out with h | h
        · by_cases h1 : j = 1
          · rw [if_pos ⟨h, h1⟩]; exact .inl ⟨h, h1, rfl⟩
          · rw [if_neg (fun hh => h1 hh.2)]; exact .inr (.inl ⟨h, h1, by omega⟩)
        · rw [if_neg (fun hh => by omega)]; exact .inr (.inr ⟨h, by omega⟩)
      clear hdn
      rcases hdn' with ⟨hk, hj1, rfl⟩ | ⟨hk, hj1, rfl⟩ | ⟨hk, rfl⟩
      · have kb : (kd == 0) = true := by simp [hk]
        have jb : ((j : Int) == 1) = true := by simp [hj1]
        clear hk hj1
        go_wp2_with fail
        refine HKV.out.mono ?_
        rintro e w5 ⟨dk, di, ds, za, zn, zc, sn, ok, rfl, hres, hb5⟩
        have hsz5 := hb5.size
        have E5 := (hb5.block (w.heap.size + 1) (by omega)).trans ((HBr.out.block (w.heap.size + 1) (by omega)).trans E2.out)
        have hXl := lt_of_block HX.out
        have X5 := (hb5.block (W2.heap.size + 1) (by omega)).trans HX.out
        obtain ⟨⟨p0, p1', p2', p3'⟩, f0, f1, f2, f3⟩ := look4 X5
        match res, HST, hres with
        | none, HST, hres =>
          obtain ⟨rfl, rfl, rfl, rfl, hz⟩ := hres
          cases hz
          have ER := (put4_other (g := W2.heap.size + 1) (.int .i64 0) (.int .i64 0) (.string ⟨#[]⟩) (.slice none 0 0) (show w.heap.size + 1 ≠ W2.heap.size + 1 by omega)).trans E5
          obtain ⟨⟨e0, e1, e2, e3⟩, f4, f5, f6, f7⟩ := look4 ER
          have HE := Lib.hid (put4 ER (.int .i64 0) (.int .i64 0) (.string ⟨#[]⟩) (.slice none 0 0))
          have HBB := Lib.hid (put4_below (put4_below ((HB.out.trans (HBr.out.mono HB.out.size)).trans (hb5.mono (by omega))) (show w.heap.size ≤ W2.heap.size + 1 by omega) (.int .i64 0) (.int .i64 0) (.string ⟨#[]⟩) (.slice none 0 0)) (Nat.le_succ w.heap.size) (.int .i64 0) (.int .i64 0) (.string ⟨#[]⟩) (.slice none 0 0))
          have hRR := HRR.out
          rw [tellI_pre (List.take_prefix (j + 1) l) HST.out] at hRR
          have HR0 : Hid (R = none) := Lib.hid hRR
          clear hRR X5 E5 ER hb5
          go_wp2
          exact bodyPost_ret (res_dib (t := 9) (u := 10) (p := 8) rfl _ _ (w.heap.size + 1) _ _ _ _ rfl HE.out) rfl ⟨0, 0, ⟨#[]⟩, none, 0, 0, _, false, rfl, by rw [HR0.out]; exact ⟨rfl, rfl, rfl, rfl, rfl⟩, HBB.out⟩
        | some (d, n3), HST, hres =>
          obtain ⟨rfl, rfl, l2, rfl, hnew⟩ := hres
          have hzn : zn = l2.length := by obtain ⟨_, _, e, _⟩ := hnew.2.2.2; cases e; rfl
          subst hzn
          have X6 := Lib.hid (put4 X5 (.int .i64 dk) (.int .i64 di) (.string ds) (.slice za l2.length zc))
          have HO6 := Lib.hid ((HO.out.below hb5).keep (w' := ((((w5.setCell ⟨W2.heap.size + 1, 0, none⟩ (.int .i64 dk)).setCell ⟨W2.heap.size + 1, 1, none⟩ (.int .i64 di)).setCell ⟨W2.heap.size + 1, 2, none⟩ (.string ds)).setCell ⟨W2.heap.size + 1, 3, none⟩ (.slice za l2.length zc))) (fun b hb hc => put4_other _ _ _ _ (by
            rcases hc with hc | hc
            · omega
            · exact HOB.out b hc)))
          obtain ⟨va, vc, rfl, hvlt⟩ := HO.out.slice
          have HN6 : Hid (InS ((((w5.setCell ⟨W2.heap.size + 1, 0, none⟩ (.int .i64 dk)).setCell ⟨W2.heap.size + 1, 1, none⟩ (.int .i64 di)).setCell ⟨W2.heap.size + 1, 2, none⟩ (.string ds)).setCell ⟨W2.heap.size + 1, 3, none⟩ (.slice za l2.length zc)) (fun b => W2.heap.size + 2 ≤ b ∧ some b ≠ (Value.slice va r.length vc).ownBlock) l2 (.slice za l2.length zc)) :=
            Lib.hid ((inS_new.2 hnew.2.2.2).move (fun b hb _ => ⟨by have : wr.heap.size ≤ b := hb; omega, fun e => by have h1 : wr.heap.size ≤ b := hb; have := (hvlt b e.symm).2; omega⟩) (fun b o y hb hc => (World.cell?_of_block (w := w5) (a := ⟨b, o, none⟩) (put4_other _ _ _ _ (show b ≠ W2.heap.size + 1 by have h1 : wr.heap.size ≤ b := hb; omega))).trans hc))
          have hdk := hnew.1
          have hdi := hnew.2.1
          have hds := hnew.2.2.1
          have HB6 := Lib.hid (put4_below (HBr.out.trans (hb5.mono hszr)) (Nat.le_succ W2.heap.size) (.int .i64 dk) (.int .i64 di) (.string ds) (.slice za l2.length zc))
          clear X5 E5 hb5 hnew hvlt
          go_upto_region 45 with fail
          generalize (((w5.setCell ⟨W2.heap.size + 1, 0, none⟩ (.int .i64 dk)).setCell ⟨W2.heap.size + 1, 1, none⟩ (.int .i64 di)).setCell ⟨W2.heap.size + 1, 2, none⟩ (.string ds)).setCell ⟨W2.heap.size + 1, 3, none⟩ (.slice za l2.length zc) = w6 at *
          clear p0 p1' p2' p3' f0 f1 f2 f3
          obtain ⟨⟨p0, p1', p2', p3'⟩, -⟩ := look4 X6.out
          have ba := (Below.refl w6.heap.size w6).alloc (Nat.le_refl _) (.cells #[.int .i64 dk, .int .i64 di, .string ds, .slice za l2.length zc] 50)
          have hsz6 := HB6.out.size
          have hsz7 : (w6.alloc (.cells #[.int .i64 dk, .int .i64 di, .string ds, .slice za l2.length zc] 50)).heap.size = w6.heap.size + 1 := size_new _ _
          have HSZ7 := Lib.hid hsz7
          have HBA := Lib.hid ba
          have hrl : r.length ≤ 100000 := by have := HQ.out.2.2; rw [List.length_take] at this; omega
          have hX6l := lt_of_block X6.out
          have HO7 := Lib.hid (HO6.out.below ba)
          have HN7 := Lib.hid (HN6.out.move (S' := fun b => W2.heap.size + 2 ≤ b ∧ some b ≠ (Value.slice va r.length vc).ownBlock) (fun _ h _ => h) (fun b o y _ hc => cell_below ba hc))
          clear ba hsz7
          go_wp2_with (at_builtin; refine wpList_append_outA rfl _ _ rfl W2.heap.size (W2.heap.size + 2 ≤ ·) r _ rfl HO7.out w6.heap.size dk di ds l2 (.slice za l2.length zc) rfl (heap_alloc_new w6 _) hdk hdi hds HN7.out hrl (by rw [HSZ7.out]; omega) ?_; intro g' cap' w8 ho8 hb8 hk8 hat8)
          refine ⟨⟨j + 1, n3, r ++ [.mk dk di ds l2], _, _, rfl, rfl, rfl, by omega, by go_num, HST.out, ?_, ?_, ?_, ?_⟩, by simp [intOf]; omega⟩
          · exact ho8
          · intro b e
            cases e
            rcases hat8 with e2 | e2
            · exact HOB.out g' e2
            · show g' ≠ W2.heap.size + 1
              rw [e2, HSZ7.out]; omega
          · exact ⟨_, _, _, _, (hk8 (W2.heap.size + 1) (by rw [HSZ7.out]; omega) (fun e => HOB.out _ e.symm rfl)).trans ((HBA.out.block _ hX6l).trans X6.out)⟩
          · exact (HB6.out.trans (HBA.out.mono hsz6)).trans hb8
      · have kb : (kd == 0) = true := by simp [hk]
        have jb : ((j : Int) == 1) = false := by simp; omega
        clear hk hj1
        go_wp2_with fail
        refine HKV.out.mono ?_
        rintro e w5 ⟨dk, di, ds, za, zn, zc, sn, ok, rfl, hres, hb5⟩
        have hsz5 := hb5.size
        have E5 := (hb5.block (w.heap.size + 1) (by omega)).trans ((HBr.out.block (w.heap.size + 1) (by omega)).trans E2.out)
        have hXl := lt_of_block HX.out
        have X5 := (hb5.block (W2.heap.size + 1) (by omega)).trans HX.out
        obtain ⟨⟨p0, p1', p2', p3'⟩, f0, f1, f2, f3⟩ := look4 X5
        match res, HST, hres with
        | none, HST, hres =>
          obtain ⟨rfl, rfl, rfl, rfl, hz⟩ := hres
          cases hz
          have ER := (put4_other (g := W2.heap.size + 1) (.int .i64 0) (.int .i64 0) (.string ⟨#[]⟩) (.slice none 0 0) (show w.heap.size + 1 ≠ W2.heap.size + 1 by omega)).trans E5
          obtain ⟨⟨e0, e1, e2, e3⟩, f4, f5, f6, f7⟩ := look4 ER
          have HE := Lib.hid (put4 ER (.int .i64 0) (.int .i64 0) (.string ⟨#[]⟩) (.slice none 0 0))
          have HBB := Lib.hid (put4_below (put4_below ((HB.out.trans (HBr.out.mono HB.out.size)).trans (hb5.mono (by omega))) (show w.heap.size ≤ W2.heap.size + 1 by omega) (.int .i64 0) (.int .i64 0) (.string ⟨#[]⟩) (.slice none 0 0)) (Nat.le_succ w.heap.size) (.int .i64 0) (.int .i64 0) (.string ⟨#[]⟩) (.slice none 0 0))
          have hRR := HRR.out
          rw [tellI_pre (List.take_prefix (j + 1) l) HST.out] at hRR
          have HR0 : Hid (R = none) := Lib.hid hRR
          clear hRR X5 E5 ER hb5
          go_wp2
          exact bodyPost_ret (res_dib (t := 9) (u := 10) (p := 8) rfl _ _ (w.heap.size + 1) _ _ _ _ rfl HE.out) rfl ⟨0, 0, ⟨#[]⟩, none, 0, 0, _, false, rfl, by rw [HR0.out]; exact ⟨rfl, rfl, rfl, rfl, rfl⟩, HBB.out⟩
        | some (d, n3), HST, hres =>
          obtain ⟨rfl, rfl, l2, rfl, hnew⟩ := hres
          have hzn : zn = l2.length := by obtain ⟨_, _, e, _⟩ := hnew.2.2.2; cases e; rfl
          subst hzn
          have X6 := Lib.hid (put4 X5 (.int .i64 dk) (.int .i64 di) (.string ds) (.slice za l2.length zc))
          have HO6 := Lib.hid ((HO.out.below hb5).keep (w' := ((((w5.setCell ⟨W2.heap.size + 1, 0, none⟩ (.int .i64 dk)).setCell ⟨W2.heap.size + 1, 1, none⟩ (.int .i64 di)).setCell ⟨W2.heap.size + 1, 2, none⟩ (.string ds)).setCell ⟨W2.heap.size + 1, 3, none⟩ (.slice za l2.length zc))) (fun b hb hc => put4_other _ _ _ _ (by
            rcases hc with hc | hc
            · omega
            · exact HOB.out b hc)))
          obtain ⟨va, vc, rfl, hvlt⟩ := HO.out.slice
          have HN6 : Hid (InS ((((w5.setCell ⟨W2.heap.size + 1, 0, none⟩ (.int .i64 dk)).setCell ⟨W2.heap.size + 1, 1, none⟩ (.int .i64 di)).setCell ⟨W2.heap.size + 1, 2, none⟩ (.string ds)).setCell ⟨W2.heap.size + 1, 3, none⟩ (.slice za l2.length zc)) (fun b => W2.heap.size + 2 ≤ b ∧ some b ≠ (Value.slice va r.length vc).ownBlock) l2 (.slice za l2.length zc)) :=
            Lib.hid ((inS_new.2 hnew.2.2.2).move (fun b hb _ => ⟨by have : wr.heap.size ≤ b := hb; omega, fun e => by have h1 : wr.heap.size ≤ b := hb; have := (hvlt b e.symm).2; omega⟩) (fun b o y hb hc => (World.cell?_of_block (w := w5) (a := ⟨b, o, none⟩) (put4_other _ _ _ _ (show b ≠ W2.heap.size + 1 by have h1 : wr.heap.size ≤ b := hb; omega))).trans hc))
          have hdk := hnew.1
          have hdi := hnew.2.1
          have hds := hnew.2.2.1
          have HB6 := Lib.hid (put4_below (HBr.out.trans (hb5.mono hszr)) (Nat.le_succ W2.heap.size) (.int .i64 dk) (.int .i64 di) (.string ds) (.slice za l2.length zc))
          clear X5 E5 hb5 hnew hvlt
          go_upto_region 45 with fail
          generalize (((w5.setCell ⟨W2.heap.size + 1, 0, none⟩ (.int .i64 dk)).setCell ⟨W2.heap.size + 1, 1, none⟩ (.int .i64 di)).setCell ⟨W2.heap.size + 1, 2, none⟩ (.string ds)).setCell ⟨W2.heap.size + 1, 3, none⟩ (.slice za l2.length zc) = w6 at *
          clear p0 p1' p2' p3' f0 f1 f2 f3
          obtain ⟨⟨p0, p1', p2', p3'⟩, -⟩ := look4 X6.out
          have ba := (Below.refl w6.heap.size w6).alloc (Nat.le_refl _) (.cells #[.int .i64 dk, .int .i64 di, .string ds, .slice za l2.length zc] 50)
          have hsz6 := HB6.out.size
          have hsz7 : (w6.alloc (.cells #[.int .i64 dk, .int .i64 di, .string ds, .slice za l2.length zc] 50)).heap.size = w6.heap.size + 1 := size_new _ _
          have HSZ7 := Lib.hid hsz7
          have HBA := Lib.hid ba
          have hrl : r.length ≤ 100000 := by have := HQ.out.2.2; rw [List.length_take] at this; omega
          have hX6l := lt_of_block X6.out
          have HO7 := Lib.hid (HO6.out.below ba)
          have HN7 := Lib.hid (HN6.out.move (S' := fun b => W2.heap.size + 2 ≤ b ∧ some b ≠ (Value.slice va r.length vc).ownBlock) (fun _ h _ => h) (fun b o y _ hc => cell_below ba hc))
          clear ba hsz7
          go_wp2_with (at_builtin; refine wpList_append_outA rfl _ _ rfl W2.heap.size (W2.heap.size + 2 ≤ ·) r _ rfl HO7.out w6.heap.size dk di ds l2 (.slice za l2.length zc) rfl (heap_alloc_new w6 _) hdk hdi hds HN7.out hrl (by rw [HSZ7.out]; omega) ?_; intro g' cap' w8 ho8 hb8 hk8 hat8)
          refine ⟨⟨j + 1, n3, r ++ [.mk dk di ds l2], _, _, rfl, rfl, rfl, by omega, by go_num, HST.out, ?_, ?_, ?_, ?_⟩, by simp [intOf]; omega⟩
          · exact ho8
          · intro b e
            cases e
            rcases hat8 with e2 | e2
            · exact HOB.out g' e2
            · show g' ≠ W2.heap.size + 1
              rw [e2, HSZ7.out]; omega
          · exact ⟨_, _, _, _, (hk8 (W2.heap.size + 1) (by rw [HSZ7.out]; omega) (fun e => HOB.out _ e.symm rfl)).trans ((HBA.out.block _ hX6l).trans X6.out)⟩
          · exact (HB6.out.trans (HBA.out.mono hsz6)).trans hb8
      · have kb : (kd == 0) = false := by simp [hk]
        clear hk
        go_wp2_with fail
        refine HKV.out.mono ?_
        rintro e w5 ⟨dk, di, ds, za, zn, zc, sn, ok, rfl, hres, hb5⟩
        have hsz5 := hb5.size
        have E5 := (hb5.block (w.heap.size + 1) (by omega)).trans ((HBr.out.block (w.heap.size + 1) (by omega)).trans E2.out)
        have hXl := lt_of_block HX.out
        have X5 := (hb5.block (W2.heap.size + 1) (by omega)).trans HX.out
        obtain ⟨⟨p0, p1', p2', p3'⟩, f0, f1, f2, f3⟩ := look4 X5
        match res, HST, hres with
        | none, HST, hres =>
          obtain ⟨rfl, rfl, rfl, rfl, hz⟩ := hres
          cases hz
          have ER := (put4_other (g := W2.heap.size + 1) (.int .i64 0) (.int .i64 0) (.string ⟨#[]⟩) (.slice none 0 0) (show w.heap.size + 1 ≠ W2.heap.size + 1 by omega)).trans E5
          obtain ⟨⟨e0, e1, e2, e3⟩, f4, f5, f6, f7⟩ := look4 ER
          have HE := Lib.hid (put4 ER (.int .i64 0) (.int .i64 0) (.string ⟨#[]⟩) (.slice none 0 0))
          have HBB := Lib.hid (put4_below (put4_below ((HB.out.trans (HBr.out.mono HB.out.size)).trans (hb5.mono (by omega))) (show w.heap.size ≤ W2.heap.size + 1 by omega) (.int .i64 0) (.int .i64 0) (.string ⟨#[]⟩) (.slice none 0 0)) (Nat.le_succ w.heap.size) (.int .i64 0) (.int .i64 0) (.string ⟨#[]⟩) (.slice none 0 0))
          have hRR := HRR.out
          rw [tellI_pre (List.take_prefix (j + 1) l) HST.out] at hRR
          have HR0 : Hid (R = none) := Lib.hid hRR
          clear hRR X5 E5 ER hb5
          go_wp2
          exact bodyPost_ret (res_dib (t := 9) (u := 10) (p := 8) rfl _ _ (w.heap.size + 1) _ _ _ _ rfl HE.out) rfl ⟨0, 0, ⟨#[]⟩, none, 0, 0, _, false, rfl, by rw [HR0.out]; exact ⟨rfl, rfl, rfl, rfl, rfl⟩, HBB.out⟩
        | some (d, n3), HST, hres =>
          obtain ⟨rfl, rfl, l2, rfl, hnew⟩ := hres
          have hzn : zn = l2.length := by obtain ⟨_, _, e, _⟩ := hnew.2.2.2; cases e; rfl
          subst hzn
          have X6 := Lib.hid (put4 X5 (.int .i64 dk) (.int .i64 di) (.string ds) (.slice za l2.length zc))
          have HO6 := Lib.hid ((HO.out.below hb5).keep (w' := ((((w5.setCell ⟨W2.heap.size + 1, 0, none⟩ (.int .i64 dk)).setCell ⟨W2.heap.size + 1, 1, none⟩ (.int .i64 di)).setCell ⟨W2.heap.size + 1, 2, none⟩ (.string ds)).setCell ⟨W2.heap.size + 1, 3, none⟩ (.slice za l2.length zc))) (fun b hb hc => put4_other _ _ _ _ (by
            rcases hc with hc | hc
            · omega
            · exact HOB.out b hc)))
          obtain ⟨va, vc, rfl, hvlt⟩ := HO.out.slice
          have HN6 : Hid (InS ((((w5.setCell ⟨W2.heap.size + 1, 0, none⟩ (.int .i64 dk)).setCell ⟨W2.heap.size + 1, 1, none⟩ (.int .i64 di)).setCell ⟨W2.heap.size + 1, 2, none⟩ (.string ds)).setCell ⟨W2.heap.size + 1, 3, none⟩ (.slice za l2.length zc)) (fun b => W2.heap.size + 2 ≤ b ∧ some b ≠ (Value.slice va r.length vc).ownBlock) l2 (.slice za l2.length zc)) :=
            Lib.hid ((inS_new.2 hnew.2.2.2).move (fun b hb _ => ⟨by have : wr.heap.size ≤ b := hb; omega, fun e => by have h1 : wr.heap.size ≤ b := hb; have := (hvlt b e.symm).2; omega⟩) (fun b o y hb hc => (World.cell?_of_block (w := w5) (a := ⟨b, o, none⟩) (put4_other _ _ _ _ (show b ≠ W2.heap.size + 1 by have h1 : wr.heap.size ≤ b := hb; omega))).trans hc))
          have hdk := hnew.1
          have hdi := hnew.2.1
          have hds := hnew.2.2.1
          have HB6 := Lib.hid (put4_below (HBr.out.trans (hb5.mono hszr)) (Nat.le_succ W2.heap.size) (.int .i64 dk) (.int .i64 di) (.string ds) (.slice za l2.length zc))
          clear X5 E5 hb5 hnew hvlt
          go_upto_region 45 with fail
          generalize (((w5.setCell ⟨W2.heap.size + 1, 0, none⟩ (.int .i64 dk)).setCell ⟨W2.heap.size + 1, 1, none⟩ (.int .i64 di)).setCell ⟨W2.heap.size + 1, 2, none⟩ (.string ds)).setCell ⟨W2.heap.size + 1, 3, none⟩ (.slice za l2.length zc) = w6 at *
          clear p0 p1' p2' p3' f0 f1 f2 f3
          obtain ⟨⟨p0, p1', p2', p3'⟩, -⟩ := look4 X6.out
          have ba := (Below.refl w6.heap.size w6).alloc (Nat.le_refl _) (.cells #[.int .i64 dk, .int .i64 di, .string ds, .slice za l2.length zc] 50)
          have hsz6 := HB6.out.size
          have hsz7 : (w6.alloc (.cells #[.int .i64 dk, .int .i64 di, .string ds, .slice za l2.length zc] 50)).heap.size = w6.heap.size + 1 := size_new _ _
          have HSZ7 := Lib.hid hsz7
          have HBA := Lib.hid ba
          have hrl : r.length ≤ 100000 := by have := HQ.out.2.2; rw [List.length_take] at this; omega
          have hX6l := lt_of_block X6.out
          have HO7 := Lib.hid (HO6.out.below ba)
          have HN7 := Lib.hid (HN6.out.move (S' := fun b => W2.heap.size + 2 ≤ b ∧ some b ≠ (Value.slice va r.length vc).ownBlock) (fun _ h _ => h) (fun b o y _ hc => cell_below ba hc))
          clear ba hsz7
          go_wp2_with (at_builtin; refine wpList_append_outA rfl _ _ rfl W2.heap.size (W2.heap.size + 2 ≤ ·) r _ rfl HO7.out w6.heap.size dk di ds l2 (.slice za l2.length zc) rfl (heap_alloc_new w6 _) hdk hdi hds HN7.out hrl (by rw [HSZ7.out]; omega) ?_; intro g' cap' w8 ho8 hb8 hk8 hat8)
          refine ⟨⟨j + 1, n3, r ++ [.mk dk di ds l2], _, _, rfl, rfl, rfl, by omega, by go_num, HST.out, ?_, ?_, ?_, ?_⟩, by simp [intOf]; omega⟩
          · exact ho8
          · intro b e
            cases e
            rcases hat8 with e2 | e2
            · exact HOB.out g' e2
            · show g' ≠ W2.heap.size + 1
              rw [e2, HSZ7.out]; omega
          · exact ⟨_, _, _, _, (hk8 (W2.heap.size + 1) (by rw [HSZ7.out]; omega) (fun e => HOB.out _ e.symm rfl)).trans ((HBA.out.block _ hX6l).trans X6.out)⟩
          · exact (HB6.out.trans (HBA.out.mono hsz6)).trans hb8
    · obtain rfl : j = l.length := by omega
      have d1 : ¬ (l.length : Int) < (l.length : Int) := by omega
      rw [List.take_length] at hg
      have hR9 : R = some (joinT kd r, n2) := by rw [HRR.out, hg]
      rw [List.take_length] at q4
      have E5 := Lib.hid ((hb.block (w.heap.size + 1) (by omega)).trans E2.out)
      have HBB := Lib.hid (HB.out.trans (hb.mono HB.out.size))
      rcases HKD.out with hk | hk
      · have kb : (kd == 0) = true := by simp [hk]
        subst hk
        have hl2 : l.length = 2 := HKL.out rfl
        rw [hl2] at q4
        match r, q4, hR9, hO with
        | [.mk k1 i1 s1 l1, .mk k2 i2 s2 l2], _, hR9, hO =>
          obtain ⟨xs, ho, hx⟩ := hO
          rcases ho.2 with ⟨_, h0⟩ | ⟨gr, cap', cur, rfl, h1, h2, h3, h4, h5, h6⟩
          · cases h0
          rw [RowX] at hx
          obtain ⟨v1, ys, rfl, a1, a2, a3, a4, hx⟩ := hx
          rw [RowX] at hx
          obtain ⟨v2, zs, rfl, b1, b2, b3, b4, hx⟩ := hx
          rw [RowX] at hx
          subst hx
          have cc := fun j u hj => ho.cells (g := gr) rfl j u hj
          have m0 := cc 0 _ rfl
          have m1 := cc 1 _ rfl
          have m2 := cc 2 _ rfl
          have m3 := cc 3 _ rfl
          have m4 := cc 4 _ rfl
          have m5 := cc 5 _ rfl
          have m6 := cc 6 _ rfl
          have m7 := cc 7 _ rfl
          simp only [add_plain, Nat.zero_add] at m0 m1 m2 m3 m4 m5 m6 m7
          obtain ⟨ax2, cx2, rfl, _⟩ := id b4
          have hgl := lt_of_block h2
          have hS1 : InS wr (fun b => W2.heap.size ≤ b ∧ b < wr.heap.size) [.mk k1 i1 s1 l1] (.slice (some ⟨gr, 0, none⟩) 1 cap') := by
            refine ⟨_, cap', rfl, by simp only [List.length_cons] at h3 ⊢; omega, h4, (fun h => by cases h), .inr ⟨gr, 0, rfl, ⟨h1, hgl⟩, ?_⟩⟩
            rw [InAt, InAt, inD_mk]
            exact ⟨⟨a1, a2, a3, m0, m1, m2, _, m3, (a4.move (S' := fun b => W2.heap.size ≤ b ∧ b < wr.heap.size) (fun b hb hlt => ⟨by omega, hlt⟩) (fun _ _ _ _ h => h))⟩, trivial⟩
          have hS2 : InS wr (fun b => W2.heap.size ≤ b ∧ b < wr.heap.size) l2 (.slice ax2 l2.length cx2) := b4.move (S' := fun b => W2.heap.size ≤ b ∧ b < wr.heap.size) (fun b hb hlt => ⟨by omega, hlt⟩) (fun _ _ _ _ h => h)
          have hn2 : numsT [PT.mk k1 i1 s1 l1, PT.mk k2 i2 s2 l2] ≤ 200 := by omega
          have hll : l2.length ≤ 200000 := by
            have := len_nums l2
            simp only [numsT, numT] at hn2
            omega
          have hmvS : ∀ W, KBr wr (w.heap.size + 1) W → ∀ z u, InS wr (fun b => W2.heap.size ≤ b ∧ b < wr.heap.size) z u → InS W (fun b => W2.heap.size ≤ b ∧ b < wr.heap.size) z u := fun W hW z u hz => hz.move (fun _ h _ => h) (fun b o y hb hc => hW.cell hc (by omega))
          have KM := Lib.hid (fun W (hW : KBr wr (w.heap.size + 1) W) => (rmake_S [.mk k1 i1 s1 l1] (.slice (some ⟨gr, 0, none⟩) 1 cap') k2 i2 s2 l2 (.slice ax2 l2.length cx2) W (fun b => W2.heap.size ≤ b ∧ b < wr.heap.size) (fun b hb => Nat.lt_of_lt_of_le hb.2 hW.1.1.size) (hmvS W hW _ _ hS1) ⟨b1, b2, b3, hmvS W hW _ _ hS2⟩ (by simp) hll _ rfl).mono (R' := fun e w' => GotM (makeT [.mk k1 i1 s1 l1] (.mk k2 i2 s2 l2)) W (fun b => W2.heap.size ≤ b ∧ b < wr.heap.size) e w' ∧ wr.heap.size ≤ W.heap.size ∧ KBr wr (w.heap.size + 1) w') (fun e w' h => ⟨h.1, hW.1.1.size, hW.below h.2⟩))
          have hj0 : joinT 0 [PT.mk k1 i1 s1 l1, PT.mk k2 i2 s2 l2] = makeT [.mk k1 i1 s1 l1] (.mk k2 i2 s2 l2) := rfl
          rw [hj0] at hR9
          generalize makeT [PT.mk k1 i1 s1 l1] (PT.mk k2 i2 s2 l2) = rr at KM hR9
          have HR9 := Lib.hid hR9
          have CL := Lib.hid (fun W (hW : KBr wr (w.heap.size + 1) W) => (show W.cell? ⟨gr, 4, none⟩ = some (.int .i64 k2) ∧ W.cell? ⟨gr, 4 + 1, none⟩ = some (.int .i64 i2) ∧ W.cell? ⟨gr, 4 + 2, none⟩ = some (.string s2) ∧ W.cell? ⟨gr, 4 + 3, none⟩ = some (.slice ax2 l2.length cx2) ∧ KBr wr (w.heap.size + 1) W from ⟨hW.cell m4 (by omega), hW.cell m5 (by omega), hW.cell m6 (by omega), hW.cell m7 (by omega), hW⟩))
          have OF := Lib.hid (fun W (hW : W.cell? ⟨gr, 4, none⟩ = some (.int .i64 k2) ∧ W.cell? ⟨gr, 4 + 1, none⟩ = some (.int .i64 i2) ∧ W.cell? ⟨gr, 4 + 2, none⟩ = some (.string s2) ∧ W.cell? ⟨gr, 4 + 3, none⟩ = some (.slice ax2 l2.length cx2) ∧ KBr wr (w.heap.size + 1) W) => hW.2.2.2.2)
          have S0 : (wr.cell? ⟨gr, 4, none⟩ = some (.int .i64 k2) ∧ wr.cell? ⟨gr, 4 + 1, none⟩ = some (.int .i64 i2) ∧ wr.cell? ⟨gr, 4 + 2, none⟩ = some (.string s2) ∧ wr.cell? ⟨gr, 4 + 3, none⟩ = some (.slice ax2 l2.length cx2) ∧ KBr wr (w.heap.size + 1) wr) := CL.out wr ⟨KpF.refl _ _, _, _, _, _, E5.out⟩
          have hK0 := S0.2.2.2.2
          have h3' : (1 : Int) < 2 := by decide
          have h4' : 2 ≤ cap' := h3
          have h5' : cap' ≤ 9223372036854775807 := by unfold maxLen at h4; omega
          have h6' : (1 : Int) ≤ (cap' : Int) := by omega
          clear hg hR9 ho hX hob h1 h2 h3 h4 h5 h6 a1 a2 a3 a4 b1 b2 b3 b4 cc hS1 hS2 hn2 hll hb m0 m1 m2 m3 m4 m5 m6 m7 hj0
          go_upto_region 47 with fail
          go_region_held3 (fun W => W.cell? ⟨gr, 4, none⟩ = some (.int .i64 k2) ∧ W.cell? ⟨gr, 4 + 1, none⟩ = some (.int .i64 i2) ∧ W.cell? ⟨gr, 4 + 2, none⟩ = some (.string s2) ∧ W.cell? ⟨gr, 4 + 3, none⟩ = some (.slice ax2 l2.length cx2) ∧ KBr wr (w.heap.size + 1) W)
            (first | (exact CL.out _ (by assumption)) | (exact CL.out _ (KBr.drew (by assumption))) | (exact CL.out _ (KBr.put (by assumption) _ _ _ _)) | (exact CL.out _ (KBr.drew (KBr.put (by assumption) _ _ _ _))))
            (first
              | (go_at_call 67; refine (KM.out _ (OF.out _ (by assumption))).mono ?_; rintro e w7 ⟨⟨rk, ri, rs, rl, x7, hr7, rfl, c1, c2, c3, c4⟩, hws, hb7⟩; obtain ⟨y0, y1, y2, y3, E7⟩ := id hb7.2; obtain ⟨⟨e0, e1, e2, e3⟩, f4, f5, f6, f7⟩ := look4 E7; obtain ⟨a7, c7, rfl, _⟩ := id c4))
          all_goals
            have hBw : Below w.heap.size wr w7 := ⟨hb7.1.1.os, hb7.1.1.tape, hb7.1.1.output, hb7.1.1.size, fun b hb => hb7.1.2 b (Nat.lt_of_lt_of_le hb HBB.out.size) (show b ≠ w.heap.size + 1 by omega)⟩
            have HBE := Lib.hid (put4_below (HBB.out.trans hBw) (Nat.le_succ _) (.int .i64 rk) (.int .i64 ri) (.string rs) (.slice a7 rl.length c7))
            have HEE := Lib.hid (put4 E7 (.int .i64 rk) (.int .i64 ri) (.string rs) (.slice a7 rl.length c7))
            have HNN : Hid (NewV ((((w7.setCell ⟨w.heap.size + 1, 0, none⟩ (.int .i64 rk)).setCell ⟨w.heap.size + 1, 1, none⟩ (.int .i64 ri)).setCell ⟨w.heap.size + 1, 2, none⟩ (.string rs)).setCell ⟨w.heap.size + 1, 3, none⟩ (.slice a7 rl.length c7)) w.heap.size (.mk rk ri rs rl) (.slice a7 rl.length c7)) :=
              Lib.hid ⟨c1, c2, c3, inS_new.1 (c4.move (fun b hb _ => by rcases hb with hb | hb <;> omega) (fun b o y hb hc => (World.cell?_of_block (w := w7) (a := ⟨b, o, none⟩) (put4_other _ _ _ _ (show b ≠ w.heap.size + 1 by rcases hb with hb | hb <;> omega))).trans hc))⟩
            clear E7 hb7 c1 c2 c3 c4 hBw
            go_wp2
            exact bodyPost_ret (res_dib (t := 9) (u := 10) (p := 8) rfl _ _ (w.heap.size + 1) _ _ _ _ rfl HEE.out) rfl ⟨rk, ri, rs, a7, rl.length, c7, _, true, rfl, by rw [HR9.out, hr7]; exact ⟨rfl, rfl, rl, rfl, HNN.out⟩, HBE.out⟩
      · have kb : (kd == 0) = false := by simp [hk]
        obtain ⟨e0, e1, e2, e3⟩ := (look4 E5.out).1
        obtain ⟨f4, f5, f6, f7⟩ := (look4 E5.out).2
        obtain ⟨va, vc, rfl, hvlt⟩ := hO.slice
        have HO := Lib.hid hO
        have HR9 := Lib.hid hR9
        have hj7 : joinT kd r = .mk 7 0 ⟨#[]⟩ r := by unfold joinT; rw [if_neg (by omega)]
        have HJ := Lib.hid hj7
        clear hk hg hR9 hO hX hob hj7 q4 q3 q2 q1
        go_wp2
        refine bodyPost_ret (res_dib (t := 9) (u := 10) (p := 8) rfl _ _ (w.heap.size + 1) _ _ _ _ rfl (put4 E5.out _ _ _ _)) rfl ⟨7, 0, ⟨#[]⟩, va, r.length, vc, _, true, rfl, ?_, put4_below HBB.out (Nat.le_succ _) _ _ _ _⟩
        rw [HR9.out, HJ.out]
        exact ⟨rfl, rfl, r, rfl, ⟨by decide, by decide⟩, ⟨by decide, by decide⟩, by decide, inS_new.1 (HO.out.ins.move (fun b hb _ => by rcases hb with hb | hb <;> omega) (fun b o y hb hc => (World.cell?_of_block (w := wr) (a := ⟨b, o, none⟩) (put4_other _ _ _ _ (show b ≠ w.heap.size + 1 by rcases hb with hb | hb <;> omega))).trans hc))⟩
end Go.Proofs.YtpejhilfopjckaaDoor.Hp
