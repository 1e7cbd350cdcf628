/-
The fixed calls of layer 6. Condition: the library's table of powers of ten as the program lays it.
-/
import Derived.Test.YtjofdlnopchaeaaGreatDoorWKU
import Derived.Deep.DeepCutAuto
import Derived.Test.YtjofdlnopchaeaaGreatDoorK80
namespace Go.Proofs.YtjofdlnopchaeaaGreatDoor.Core
open Go.ChangeShapes Go.WideShapes Go.ChangeAt Go.RowKit Go.Deep
open Dat (PT ok64 RepV RepS RowX)
set_option maxRecDepth 100000

theorem ok7 : ok64 7 := by constructor <;> decide
theorem valRef {W : World} {C : Nat} {s : ByteArray} (hs : s.size ≤ maxLen) : ValE W C (refT s) (.agg #[.int .i64 1, .string s, .slice none 0 0, .int .i64 0, .int .i64 0, .string ⟨#[]⟩, .slice none 0 0, .slice none 0 0]) :=
  ValE.node (by constructor <;> decide) hs inN_nil inK_nil
theorem sorted_one {l : List ByteArray} {x : ByteArray} (h : l.Pairwise (fun a b => a.data.toList < b.data.toList)) (hm : ∀ s, s ∈ l ↔ s = x) : l = [x] := by
  match l, h, hm with
  | [], _, hm => exact absurd ((hm x).2 rfl) (by simp)
  | [a], _, hm => rw [(hm a).1 (by simp)]
  | a :: b :: l, h, hm =>
    have ha := (hm a).1 (by simp)
    have hb := (hm b).1 (by simp)
    have h1 := List.rel_of_pairwise_cons h (a' := b) (by simp)
    rw [ha, hb] at h1
    exact absurd h1 (List.lt_irrefl _)
/-- What each operation of the second statement is known to yield. -/
def R2 (C g1 : Nat) : Nat → Value → World → Prop
  | 0, v, W => ∃ g, v = .slice (some ⟨g, 0, none⟩) 1 1 ∧ InN W (Nz C W) [nX] v
  | 1, v, W => ∃ g, v = .slice (some ⟨g, 0, none⟩) 1 1 ∧ InN W (Nz C W) [nX] v
  | 2, v, W => v = .agg #[.int .i64 7, .string ⟨#[43]⟩, .slice none 0 0, .int .i64 0, .int .i64 0, .string ⟨#[]⟩, .slice none 0 0, .slice (some ⟨g1, 0, none⟩) 2 2] ∧ ValE W C (sumT nX) v
  | 3, v, _ => v = .agg #[.int .i64 1, .string ⟨#[120]⟩, .slice none 0 0, .int .i64 0, .int .i64 0, .string ⟨#[]⟩, .slice none 0 0, .slice none 0 0]
  | 4, v, W => ∃ g, v = .slice (some ⟨g, 0, none⟩) 2 2 ∧ InK W (Nz C W) [sumT nX, refT nX] v
  | 5, v, W => ∃ x y, v = .agg #[.int .i64 8, .string ⟨#[]⟩, .slice (some ⟨x, 0, none⟩) 1 1, .int .i64 0, .int .i64 0, .string ⟨#[]⟩, .slice none 0 0, .slice (some ⟨y, 0, none⟩) 2 2] ∧ ValE W C (letT nX nX) v
  | 6, v, W => ∃ g, v = .slice (some ⟨g, 0, none⟩) 1 1 ∧ InK W (Nz C W) [letT nX nX] v
  | 7, v, W => ∃ x y, v = .agg #[.int .i64 5, .string ⟨#[]⟩, .slice (some ⟨x, 0, none⟩) 1 1, .int .i64 0, .int .i64 0, .string ⟨#[]⟩, .slice none 0 0, .slice (some ⟨y, 0, none⟩) 1 1] ∧ ValE W C (fixE nX nX) v
  | 8, v, W => ∃ g, v = .pointer (some ⟨g, 0, none⟩) ∧ C ≤ g ∧ W.heap[g]? = some (.cells #[.int .i64 0, .string ⟨#[]⟩, .slice none 0 0, .int .i64 0, .int .i64 0, .string ⟨#[]⟩, .slice none 0 0, .slice none 0 0] 28 (0, 0))
  | _, _, _ => True
theorem R2.mono {C g1 : Nat} : ∀ (i : Nat) (v : Value) (W W' : World), R2 C g1 i v W → Below W.heap.size W W' → R2 C g1 i v W' := by
  intro i v W W' h hb
  match i, h with
  | 0, ⟨g, e, h⟩ => exact ⟨g, e, inN_up h hb⟩
  | 1, ⟨g, e, h⟩ => exact ⟨g, e, inN_up h hb⟩
  | 2, ⟨e, h⟩ => exact ⟨e, h.below hb⟩
  | 3, h => exact h
  | 4, ⟨g, e, h⟩ => exact ⟨g, e, inK_up h hb⟩
  | 5, ⟨x, y, e, h⟩ => exact ⟨x, y, e, h.below hb⟩
  | 6, ⟨g, e, h⟩ => exact ⟨g, e, inK_up h hb⟩
  | 7, ⟨x, y, e, h⟩ => exact ⟨x, y, e, h.below hb⟩
  | 8, ⟨g, e, h1, h2⟩ => exact ⟨g, e, h1, (hb.block g (lt_of_block h2)).trans h2⟩
  | n + 9, h => exact trivial
theorem two_refs {w2 : World} {C : Nat} {s t : ByteArray} (hs : s.size ≤ maxLen) (ht : t.size ≤ maxLen) (hC : C ≤ w2.heap.size) (o : Obj) : InK ((w2.alloc (.cells #[.int .i64 1, .string s, .slice none 0 0, .int .i64 0, .int .i64 0, .string ⟨#[]⟩, .slice none 0 0, .slice none 0 0, .int .i64 1, .string t, .slice none 0 0, .int .i64 0, .int .i64 0, .string ⟨#[]⟩, .slice none 0 0, .slice none 0 0] 28)).alloc o) (Nz C ((w2.alloc (.cells #[.int .i64 1, .string s, .slice none 0 0, .int .i64 0, .int .i64 0, .string ⟨#[]⟩, .slice none 0 0, .slice none 0 0, .int .i64 1, .string t, .slice none 0 0, .int .i64 0, .int .i64 0, .string ⟨#[]⟩, .slice none 0 0, .slice none 0 0] 28)).alloc o)) [refT s, refT t] (.slice (some ⟨w2.heap.size, 0, none⟩) 2 2) :=
  inK_up (inK_two (valRef hs) (valRef ht) hC) ((Below.refl _ _).alloc (Nat.le_refl _) o)
set_option maxHeartbeats 2000000 in
theorem fixed_any (w : World) (ht : TabOk w) : Calls Tryz.prog 7 #[] w fun e w' => e = .returned (.bool true) ∧ Below w.heap.size w w' := by
  have HT := Lib.hid ht
  clear ht
  go_enter Tryz.func7, Tryz.ntmps7
  go_upto_region 1 with fail
  go_wp2_with fail
  refine (ref_any _ _).mono ?_
  rintro e w1 ⟨rfl, hb1⟩
  have HB1 := Lib.hid hb1
  clear hb1
  go_wp2_with fail
  refine (ref_any _ _).mono ?_
  rintro e w2 ⟨rfl, hb2⟩
  have hb2' := HB1.out.trans (hb2.mono HB1.out.size)
  clear hb2
  go_upto_region 2 with fail
  have hk2 := two_refs (w2 := w2) (C := w.heap.size) (s := ⟨#[120]⟩) (t := ⟨#[118, 46, 48]⟩) (by decide) (by decide) hb2'.size (.cells #[.int .i64 7, .string ⟨#[43]⟩, .slice none 0 0, .int .i64 0, .int .i64 0, .string ⟨#[]⟩, .slice none 0 0, .slice (some ⟨w2.heap.size, 0, none⟩) 2 2] 28)
  have hz2 : ((w2.alloc (.cells #[.int .i64 1, .string ⟨#[120]⟩, .slice none 0 0, .int .i64 0, .int .i64 0, .string ⟨#[]⟩, .slice none 0 0, .slice none 0 0, .int .i64 1, .string ⟨#[118, 46, 48]⟩, .slice none 0 0, .int .i64 0, .int .i64 0, .string ⟨#[]⟩, .slice none 0 0, .slice none 0 0] 28)).alloc (.cells #[.int .i64 7, .string ⟨#[43]⟩, .slice none 0 0, .int .i64 0, .int .i64 0, .string ⟨#[]⟩, .slice none 0 0, .slice (some ⟨w2.heap.size, 0, none⟩) 2 2] 28)).heap[w2.heap.size + 1]? = some (.cells #[.int .i64 7, .string ⟨#[43]⟩, .slice none 0 0, .int .i64 0, .int .i64 0, .string ⟨#[]⟩, .slice none 0 0, .slice (some ⟨w2.heap.size, 0, none⟩) 2 2] 28) := (two_new w2 (.cells #[.int .i64 1, .string ⟨#[120]⟩, .slice none 0 0, .int .i64 0, .int .i64 0, .string ⟨#[]⟩, .slice none 0 0, .slice none 0 0, .int .i64 1, .string ⟨#[118, 46, 48]⟩, .slice none 0 0, .int .i64 0, .int .i64 0, .string ⟨#[]⟩, .slice none 0 0, .slice none 0 0] 28) (.cells #[.int .i64 7, .string ⟨#[43]⟩, .slice none 0 0, .int .i64 0, .int .i64 0, .string ⟨#[]⟩, .slice none 0 0, .slice (some ⟨w2.heap.size, 0, none⟩) 2 2] 28)).2.1
  have hs2 : ((w2.alloc (.cells #[.int .i64 1, .string ⟨#[120]⟩, .slice none 0 0, .int .i64 0, .int .i64 0, .string ⟨#[]⟩, .slice none 0 0, .slice none 0 0, .int .i64 1, .string ⟨#[118, 46, 48]⟩, .slice none 0 0, .int .i64 0, .int .i64 0, .string ⟨#[]⟩, .slice none 0 0, .slice none 0 0] 28)).alloc (.cells #[.int .i64 7, .string ⟨#[43]⟩, .slice none 0 0, .int .i64 0, .int .i64 0, .string ⟨#[]⟩, .slice none 0 0, .slice (some ⟨w2.heap.size, 0, none⟩) 2 2] 28)).heap.size = w2.heap.size + 2 := by rw [size_new, size_new]
  have hb3 := hb2'.trans ((two_new w2 (.cells #[.int .i64 1, .string ⟨#[120]⟩, .slice none 0 0, .int .i64 0, .int .i64 0, .string ⟨#[]⟩, .slice none 0 0, .slice none 0 0, .int .i64 1, .string ⟨#[118, 46, 48]⟩, .slice none 0 0, .int .i64 0, .int .i64 0, .string ⟨#[]⟩, .slice none 0 0, .slice none 0 0] 28) (.cells #[.int .i64 7, .string ⟨#[43]⟩, .slice none 0 0, .int .i64 0, .int .i64 0, .string ⟨#[]⟩, .slice none 0 0, .slice (some ⟨w2.heap.size, 0, none⟩) 2 2] 28)).2.2.mono hb2'.size)
  generalize hg1 : w2.heap.size = g1 at *
  generalize (w2.alloc (.cells #[.int .i64 1, .string ⟨#[120]⟩, .slice none 0 0, .int .i64 0, .int .i64 0, .string ⟨#[]⟩, .slice none 0 0, .slice none 0 0, .int .i64 1, .string ⟨#[118, 46, 48]⟩, .slice none 0 0, .int .i64 0, .int .i64 0, .string ⟨#[]⟩, .slice none 0 0, .slice none 0 0] 28)).alloc (.cells #[.int .i64 7, .string ⟨#[43]⟩, .slice none 0 0, .int .i64 0, .int .i64 0, .string ⟨#[]⟩, .slice none 0 0, .slice (some ⟨g1, 0, none⟩) 2 2] 28) = w3 at *
  have HK2 := Lib.hid hk2
  have HZ2 := Lib.hid hz2
  have HB3 := Lib.hid hb3
  have HV3 : Hid (ValE w3 w.heap.size (sumT nX) (.agg #[.int .i64 7, .string ⟨#[43]⟩, .slice none 0 0, .int .i64 0, .int .i64 0, .string ⟨#[]⟩, .slice none 0 0, .slice (some ⟨g1, 0, none⟩) 2 2])) := Lib.hid (ValE.node ok7 (by decide) inN_nil hk2)
  have hCw : w.heap.size ≤ w3.heap.size := hb3.size
  clear hk2 hz2 hb3 hb2'
  go_cut [2] from 11 to 19 (fun v wx => ∃ g x y, v = .pointer (some ⟨g, 0, none⟩) ∧ w.heap.size ≤ g ∧ wx.heap[g]? = some (.cells #[.int .i64 5, .string ⟨#[]⟩, .slice (some ⟨x, 0, none⟩) 1 1, .int .i64 0, .int .i64 0, .string ⟨#[]⟩, .slice none 0 0, .slice (some ⟨y, 0, none⟩) 1 1] 28 (0, 0)) ∧ (∃ vn vd vk, (.agg #[.int .i64 5, .string ⟨#[]⟩, .slice (some ⟨x, 0, none⟩) 1 1, .int .i64 0, .int .i64 0, .string ⟨#[]⟩, .slice none 0 0, .slice (some ⟨y, 0, none⟩) 1 1] : Value) = (fixE nX nX).val vn vd vk ∧ InF wx (fun b => w.heap.size ≤ b) (fixE nX nX) vn vd vk) ∧ Below w.heap.size w wx)
  case first =>
   refine Rg.wp_region_grow (by kernel_rfl) w3.heap.size (Nat.le_refl _) (R2 w.heap.size g1) R2.mono (by kernel_rfl) ?_ ?_
   · intro i o d hi hd vs W hb hR
     have hCW : w.heap.size ≤ W.heap.size := Nat.le_trans hCw hb.size
     have HR := Lib.hid hR
     have HB := Lib.hid hb
     clear hR hb
     rcases i with _ | _ | _ | _ | _ | _ | _ | _ | _ | _ | i
     all_goals simp only [List.getElem?_cons_zero, List.getElem?_cons_succ, List.getElem?_nil, Option.some.injEq, reduceCtorEq] at hi
     all_goals subst hi
     all_goals simp only [Option.some.injEq, reduceCtorEq] at hd
     all_goals subst hd
     all_goals try simp only [Rg.putAll, Act.put, List.setIfInBounds_toArray, List.set_cons_zero, List.set_cons_succ, Nat.zero_add, Nat.reduceAdd]
     · go_simp
       exact ⟨_, rfl, ⟨_, rfl, inN_one (by decide) hCW⟩, (Below.refl _ _).alloc (Nat.le_refl _) _⟩
     · go_simp
       exact ⟨_, rfl, ⟨_, rfl, inN_one (by decide) hCW⟩, (Below.refl _ _).alloc (Nat.le_refl _) _⟩
     · have h1 := (HB.out.block (g1 + 1) (by omega)).trans HZ2.out
       obtain ⟨x0, x1, x2, x3, x4, x5, x6, x7⟩ := look8w h1
       clear h1
       go_simp
       exact ⟨_, rfl, ⟨rfl, HV3.out.below HB.out⟩, Below.refl _ _⟩
     · go_simp
       refine (ref_any _ _).mono ?_
       rintro e w5 ⟨rfl, hb5⟩
       exact ⟨_, rfl, rfl, hb5⟩
     · obtain ⟨e2, h2⟩ := (HR.out 2 (by decide) (by kernel_rfl) : R2 w.heap.size g1 2 (vs 2) W)
       have e3 := (HR.out 3 (by decide) (by kernel_rfl) : R2 w.heap.size g1 3 (vs 3) W)
       rw [e2] at h2
       rw [e2, show vs 3 = _ from e3]
       go_simp
       exact ⟨_, rfl, ⟨_, rfl, inK_two h2 (valRef (by decide)) hCW⟩, (Below.refl _ _).alloc (Nat.le_refl _) _⟩
     · obtain ⟨ga, e1, h1⟩ := (HR.out 1 (by decide) (by kernel_rfl) : R2 w.heap.size g1 1 (vs 1) W)
       obtain ⟨gb, e4, h4⟩ := (HR.out 4 (by decide) (by kernel_rfl) : R2 w.heap.size g1 4 (vs 4) W)
       rw [e1] at h1 ⊢
       rw [e4] at h4 ⊢
       go_simp
       exact ⟨_, rfl, ⟨_, _, rfl, ValE.node (by constructor <;> decide) (by decide) h1 h4⟩, Below.refl _ _⟩
     · obtain ⟨x, y, e5, h5⟩ := (HR.out 5 (by decide) (by kernel_rfl) : R2 w.heap.size g1 5 (vs 5) W)
       rw [e5] at h5 ⊢
       go_simp
       exact ⟨_, rfl, ⟨_, rfl, inK_one (by decide) h5 hCW⟩, (Below.refl _ _).alloc (Nat.le_refl _) _⟩
     · obtain ⟨ga, e1, h1⟩ := (HR.out 0 (by decide) (by kernel_rfl) : R2 w.heap.size g1 0 (vs 0) W)
       obtain ⟨gb, e4, h4⟩ := (HR.out 6 (by decide) (by kernel_rfl) : R2 w.heap.size g1 6 (vs 6) W)
       rw [e1] at h1 ⊢
       rw [e4] at h4 ⊢
       go_simp
       exact ⟨_, rfl, ⟨_, _, rfl, ValE.node (by constructor <;> decide) (by decide) h1 h4⟩, Below.refl _ _⟩
     · go_simp
       exact ⟨_, rfl, ⟨_, rfl, hCW, heap_alloc_new W _⟩, (Below.refl _ _).alloc (Nat.le_refl _) _⟩
   · intro o ho vs W hb hR
     simp only [List.length_cons, List.length_nil, Nat.reduceAdd, Nat.reduceSub, List.getElem?_cons_zero, List.getElem?_cons_succ, Option.some.injEq] at ho
     subst ho
     simp only [Rg.putAll, Act.put, List.setIfInBounds_toArray, List.set_cons_zero, List.set_cons_succ, Nat.zero_add, Nat.reduceAdd]
     obtain ⟨x, y, e7, h7⟩ := (hR 7 (by decide) : R2 w.heap.size g1 7 (vs 7) W)
     obtain ⟨g, e8, hg, hz⟩ := (hR 8 (by decide) : R2 w.heap.size g1 8 (vs 8) W)
     have HB := Lib.hid hb
     clear hR hb
     rw [e7] at h7
     rw [e7, e8]
     have HV := Lib.hid h7
     have HZ := Lib.hid hz
     obtain ⟨t0, t1, t2, t3, t4, t5, t6, t7⟩ := look8w hz
     obtain ⟨f0, f1, f2, f3, f4, f5, f6, f7⟩ := free8w hz
     clear hz h7 e7 e8
     generalize vs 0 = q0, vs 1 = q1, vs 2 = q2, vs 3 = q3, vs 4 = q4, vs 5 = q5, vs 6 = q6
     go_simp
     go_wp2_with fail
     go_meet
     case rel =>
       refine ⟨g, x, y, rfl, hg, put8 HZ.out, HV.out.put HZ.out fun b hb => off8 _ _ _ _ _ _ _ _ hb, below8 (HB3.out.trans (HB.out.mono hCw)) hg _ _ _ _ _ _ _ _⟩
  case rest =>
  obtain ⟨g, x, y, rfl, hg, hz, hv, hb⟩ := hcut
  have HZ := Lib.hid hz
  have HB := Lib.hid hb
  obtain ⟨vn0, vd0, vk0, e0, hF0⟩ := hv
  have HF0 : Hid (InF wc (fun b => b < wc.heap.size) (fixE nX nX) vn0 vd0 vk0) := Lib.hid (hF0.move (fun _ _ h => h) fun _ _ _ _ h => h)
  have HE0 := Lib.hid e0
  have HTX : Hid (TabOk wc) := Lib.hid (tab_below HT.out (lt_of_block HT.out.choose_spec.choose_spec) hb)
  have KR := Lib.hid (rename_any (fixE nX nX) (fun b => b < wc.heap.size) vn0 vd0 vk0 wc HF0.out (fun b h => h) HTX.out check_fix)
  rw [← e0] at KR
  have KF : Hid (∀ W, Below wc.heap.size wc W → Calls Tryz.prog 13 #[.agg #[.int .i64 5, .string ⟨#[]⟩, .slice (some ⟨x, 0, none⟩) 1 1, .int .i64 0, .int .i64 0, .string ⟨#[]⟩, .slice none 0 0, .slice (some ⟨y, 0, none⟩) 1 1]] W fun e w' => FreeIs W.heap.size (fixE nX nX) e w' ∧ Below W.heap.size W w') := Lib.hid fun W hW => by
    rw [e0]
    refine free_any (fixE nX nX) (fun b => b < wc.heap.size) vn0 vd0 vk0 W (HF0.out.below hW) (fun b h => Nat.lt_of_lt_of_le h hW.size) ?_
    have := size_of_check check_fix
    omega
  have hgl : g < wc.heap.size := lt_of_block hz
  obtain ⟨x0, x1, x2, x3, x4, x5, x6, x7⟩ := look8w hz
  clear hz hb e0 hF0
  go_wp2_with fail
  refine KR.out.mono ?_
  rintro e w4 ⟨⟨t', vn4, vd4, vk4, nx4, he, hR, hn4, hF4⟩, hb4⟩
  obtain ⟨_, _, _, _, hc4⟩ := renamed_right hR check_fix hn4
  obtain rfl := ren_fix hR
  have hF4' : InF w4 (fun b => b < w4.heap.size) (fixE (numS 1) (numS 2)) vn4 vd4 vk4 := hF4.move (fun _ _ h => h) fun _ _ _ _ h => h
  have KD := Lib.hid (data_any (fixE (numS 1) (numS 2)) (fun b => b < w4.heap.size) vn4 vd4 vk4 w4 hF4' (fun b h => h))
  have HB4 := Lib.hid hb4
  obtain ⟨⟨_, _, an4, cn4, rfl, _⟩, ⟨_, _, _, ad4, cd4, rfl, _⟩, ak4, c4, rfl, _⟩ := hF4
  have he' : e = .returned (.agg #[.int .i64 5, .string ⟨#[]⟩, .slice an4 1 cn4, .int .i64 0, .int .i64 0, .string ⟨#[]⟩, .slice ad4 0 cd4, .slice ak4 1 c4]) := he
  subst he'
  have KD' : Hid (Calls Tryz.prog 17 #[.agg #[.int .i64 5, .string ⟨#[]⟩, .slice an4 1 cn4, .int .i64 0, .int .i64 0, .string ⟨#[]⟩, .slice ad4 0 cd4, .slice ak4 1 c4]] w4 fun e w' => DataIs (fun b => w4.heap.size ≤ b) (fixE (numS 1) (numS 2)) e w' ∧ Below w4.heap.size w4 w') := KD
  have HC4 := Lib.hid hc4
  clear he hR hn4 hc4 hF4' KD hb4 KR x0 x1 x2 x3 x4 x5 x6 x7
  go_wp2_with fail
  refine KD'.out.mono ?_
  rintro e w5 ⟨hd5, hb5⟩
  rcases hd5 with ⟨_, v5, he, hv5⟩ | ⟨hne, _⟩
  rotate_left
  · exact absurd HC4.out hne
  generalize hD : dataT (fixE (numS 1) (numS 2)) = D at he hv5
  obtain ⟨dk, di, ds, dl⟩ := D
  have HV5 := Lib.hid hv5
  obtain ⟨_, _, _, da, dc, rfl, _⟩ := hv5
  have he' : e = .returned (.tuple #[.agg #[.int .i64 dk, .int .i64 di, .string ds, .slice da dl.length dc], .int .i64 0]) := he
  subst he'
  have HD := Lib.hid hD
  have HB5 := Lib.hid (HB4.out.trans (hb5.mono HB4.out.size))
  clear he hD hb5 KD'
  go_upto_region 4 with fail
  have z6 := heap_alloc_new w5 (.cells #[.int .i64 dk, .int .i64 di, .string ds, .slice da dl.length dc] 25)
  have hb6 := bel_alloc' HB5.out (.cells #[.int .i64 dk, .int .i64 di, .string ds, .slice da dl.length dc] 25)
  have hv6 : InS (w5.alloc (.cells #[.int .i64 dk, .int .i64 di, .string ds, .slice da dl.length dc] 25)) (fun b => w4.heap.size ≤ b) dl (.slice da dl.length dc) := HV5.out.2.2.2.move (fun _ h _ => h) fun _ _ _ _ hc => cell_below ((Below.refl _ _).alloc (Nat.le_refl _) _) hc
  generalize w5.alloc (.cells #[.int .i64 dk, .int .i64 di, .string ds, .slice da dl.length dc] 25) = w6 at *
  generalize hdb : w5.heap.size = db at *
  have HZ6 := Lib.hid z6
  have HB6 := Lib.hid hb6
  have HV6 := Lib.hid hv6
  have hdl : db < w6.heap.size := lt_of_block z6
  have hCg : wc.heap.size ≤ w6.heap.size := hb6.size
  clear z6 hb6 hv6
  go_wp2_with fail
  have hC6 : w.heap.size ≤ w6.heap.size := Nat.le_trans HB.out.size HB6.out.size
  have n1 := inN_one (W := w6) (C := w.heap.size) (s := ⟨#[118, 46, 49]⟩) (by decide) hC6
  have n2 := inN_one (W := w6.alloc (.cells #[.string ⟨#[118, 46, 49]⟩] 9)) (C := w.heap.size) (s := ⟨#[118, 46, 50]⟩) (by decide) (by rw [size_new]; omega)
  have n1' := inN_up n1 ((Below.refl _ _).alloc (Nat.le_refl _) (.cells #[.string ⟨#[118, 46, 50]⟩] 9))
  have hb7 := bel_alloc' (bel_alloc' (Below.refl w6.heap.size w6) (.cells #[.string ⟨#[118, 46, 49]⟩] 9)) (.cells #[.string ⟨#[118, 46, 50]⟩] 9)
  rw [size_new] at n2
  generalize (w6.alloc (.cells #[.string ⟨#[118, 46, 49]⟩] 9)).alloc (.cells #[.string ⟨#[118, 46, 50]⟩] 9) = w7 at *
  have N1 := Lib.hid n1'
  have N2 := Lib.hid n2
  have HB7 := Lib.hid hb7
  clear n1 n1' n2 hb7
  refine (ref_any _ _).mono ?_
  rintro e w8 ⟨rfl, hb8⟩
  have HB8 := Lib.hid hb8
  clear hb8
  go_wp2_with fail
  refine (ref_any _ _).mono ?_
  rintro e w9 ⟨rfl, hb9⟩
  have HB9 := Lib.hid (HB8.out.trans (hb9.mono HB8.out.size))
  clear hb9
  have hC9 : w.heap.size ≤ w9.heap.size := Nat.le_trans hC6 (Nat.le_trans HB7.out.size HB9.out.size)
  go_wp2_with fail
  have k1 := inK_two (W := w9) (C := w.heap.size) (valRef (s := ⟨#[118, 46, 49]⟩) (by decide)) (valRef (s := ⟨#[118, 46, 48]⟩) (by decide)) hC9
  have hb10 := bel_alloc' HB9.out (.cells #[.int .i64 1, .string ⟨#[118, 46, 49]⟩, .slice none 0 0, .int .i64 0, .int .i64 0, .string ⟨#[]⟩, .slice none 0 0, .slice none 0 0, .int .i64 1, .string ⟨#[118, 46, 48]⟩, .slice none 0 0, .int .i64 0, .int .i64 0, .string ⟨#[]⟩, .slice none 0 0, .slice none 0 0] 28)
  generalize w9.alloc (.cells #[.int .i64 1, .string ⟨#[118, 46, 49]⟩, .slice none 0 0, .int .i64 0, .int .i64 0, .string ⟨#[]⟩, .slice none 0 0, .slice none 0 0, .int .i64 1, .string ⟨#[118, 46, 48]⟩, .slice none 0 0, .int .i64 0, .int .i64 0, .string ⟨#[]⟩, .slice none 0 0, .slice none 0 0] 28) = w10 at *
  generalize hg9 : w9.heap.size = g9 at *
  have K1 := Lib.hid k1
  have HB10 := Lib.hid hb10
  clear k1 hb10
  refine (ref_any _ _).mono ?_
  rintro e w11 ⟨rfl, hb11⟩
  have HB11 := Lib.hid (HB10.out.trans (hb11.mono HB10.out.size))
  have HB11' := Lib.hid hb11
  have hC11 : w.heap.size ≤ w11.heap.size := Nat.le_trans hC6 (Nat.le_trans HB7.out.size HB11.out.size)
  clear hb11
  go_upto_region 5 with fail
  have hB7 : Below w7.heap.size w7 w11 := HB11.out
  have v1 : ValE w11 w.heap.size (sumT ⟨#[118, 46, 49]⟩) (.agg #[.int .i64 7, .string ⟨#[43]⟩, .slice none 0 0, .int .i64 0, .int .i64 0, .string ⟨#[]⟩, .slice none 0 0, .slice (some ⟨g9, 0, none⟩) 2 2]) := ValE.node ok7 (by decide) inN_nil (inK_up K1.out HB11'.out)
  have k2 := inK_two v1 (valRef (s := ⟨#[118, 46, 50]⟩) (by decide)) hC11
  have v2 : ValE (w11.alloc (.cells #[.int .i64 7, .string ⟨#[43]⟩, .slice none 0 0, .int .i64 0, .int .i64 0, .string ⟨#[]⟩, .slice none 0 0, .slice (some ⟨g9, 0, none⟩) 2 2, .int .i64 1, .string ⟨#[118, 46, 50]⟩, .slice none 0 0, .int .i64 0, .int .i64 0, .string ⟨#[]⟩, .slice none 0 0, .slice none 0 0] 28)) w.heap.size (letT ⟨#[118, 46, 49]⟩ ⟨#[118, 46, 50]⟩) (.agg #[.int .i64 8, .string ⟨#[]⟩, .slice (some ⟨w6.heap.size + 1, 0, none⟩) 1 1, .int .i64 0, .int .i64 0, .string ⟨#[]⟩, .slice none 0 0, .slice (some ⟨w11.heap.size, 0, none⟩) 2 2]) := ValE.node (by constructor <;> decide) (by decide) (inN_up N2.out (bel_alloc' hB7 _)) k2
  have k3 := inK_one (by decide) v2 (by rw [size_new]; omega)
  rw [size_new] at k3
  have v3 : ValE ((w11.alloc (.cells #[.int .i64 7, .string ⟨#[43]⟩, .slice none 0 0, .int .i64 0, .int .i64 0, .string ⟨#[]⟩, .slice none 0 0, .slice (some ⟨g9, 0, none⟩) 2 2, .int .i64 1, .string ⟨#[118, 46, 50]⟩, .slice none 0 0, .int .i64 0, .int .i64 0, .string ⟨#[]⟩, .slice none 0 0, .slice none 0 0] 28)).alloc (.cells #[.int .i64 8, .string ⟨#[]⟩, .slice (some ⟨w6.heap.size + 1, 0, none⟩) 1 1, .int .i64 0, .int .i64 0, .string ⟨#[]⟩, .slice none 0 0, .slice (some ⟨w11.heap.size, 0, none⟩) 2 2] 28)) w.heap.size (fixE ⟨#[118, 46, 49]⟩ ⟨#[118, 46, 50]⟩) (.agg #[.int .i64 5, .string ⟨#[]⟩, .slice (some ⟨w6.heap.size, 0, none⟩) 1 1, .int .i64 0, .int .i64 0, .string ⟨#[]⟩, .slice none 0 0, .slice (some ⟨w11.heap.size + 1, 0, none⟩) 1 1]) := ValE.node (by constructor <;> decide) (by decide) (inN_up N1.out (bel_alloc' (bel_alloc' hB7 _) _)) k3
  have v4 := v3.below ((Below.refl _ _).alloc (Nat.le_refl _) (.cells #[.int .i64 5, .string ⟨#[]⟩, .slice (some ⟨w6.heap.size, 0, none⟩) 1 1, .int .i64 0, .int .i64 0, .string ⟨#[]⟩, .slice none 0 0, .slice (some ⟨w11.heap.size + 1, 0, none⟩) 1 1] 28))
  have z12 : (((w11.alloc (.cells #[.int .i64 7, .string ⟨#[43]⟩, .slice none 0 0, .int .i64 0, .int .i64 0, .string ⟨#[]⟩, .slice none 0 0, .slice (some ⟨g9, 0, none⟩) 2 2, .int .i64 1, .string ⟨#[118, 46, 50]⟩, .slice none 0 0, .int .i64 0, .int .i64 0, .string ⟨#[]⟩, .slice none 0 0, .slice none 0 0] 28)).alloc (.cells #[.int .i64 8, .string ⟨#[]⟩, .slice (some ⟨w6.heap.size + 1, 0, none⟩) 1 1, .int .i64 0, .int .i64 0, .string ⟨#[]⟩, .slice none 0 0, .slice (some ⟨w11.heap.size, 0, none⟩) 2 2] 28)).alloc (.cells #[.int .i64 5, .string ⟨#[]⟩, .slice (some ⟨w6.heap.size, 0, none⟩) 1 1, .int .i64 0, .int .i64 0, .string ⟨#[]⟩, .slice none 0 0, .slice (some ⟨w11.heap.size + 1, 0, none⟩) 1 1] 28)).heap[w11.heap.size + 1 + 1]? = some (.cells #[.int .i64 5, .string ⟨#[]⟩, .slice (some ⟨w6.heap.size, 0, none⟩) 1 1, .int .i64 0, .int .i64 0, .string ⟨#[]⟩, .slice none 0 0, .slice (some ⟨w11.heap.size + 1, 0, none⟩) 1 1] 28) := by
    have := heap_alloc_new ((w11.alloc (.cells #[.int .i64 7, .string ⟨#[43]⟩, .slice none 0 0, .int .i64 0, .int .i64 0, .string ⟨#[]⟩, .slice none 0 0, .slice (some ⟨g9, 0, none⟩) 2 2, .int .i64 1, .string ⟨#[118, 46, 50]⟩, .slice none 0 0, .int .i64 0, .int .i64 0, .string ⟨#[]⟩, .slice none 0 0, .slice none 0 0] 28)).alloc (.cells #[.int .i64 8, .string ⟨#[]⟩, .slice (some ⟨w6.heap.size + 1, 0, none⟩) 1 1, .int .i64 0, .int .i64 0, .string ⟨#[]⟩, .slice none 0 0, .slice (some ⟨w11.heap.size, 0, none⟩) 2 2] 28)) (.cells #[.int .i64 5, .string ⟨#[]⟩, .slice (some ⟨w6.heap.size, 0, none⟩) 1 1, .int .i64 0, .int .i64 0, .string ⟨#[]⟩, .slice none 0 0, .slice (some ⟨w11.heap.size + 1, 0, none⟩) 1 1] 28)
    rwa [size_new, size_new] at this
  have hb12 := bel_alloc' (bel_alloc' (bel_alloc' hB7 (.cells #[.int .i64 7, .string ⟨#[43]⟩, .slice none 0 0, .int .i64 0, .int .i64 0, .string ⟨#[]⟩, .slice none 0 0, .slice (some ⟨g9, 0, none⟩) 2 2, .int .i64 1, .string ⟨#[118, 46, 50]⟩, .slice none 0 0, .int .i64 0, .int .i64 0, .string ⟨#[]⟩, .slice none 0 0, .slice none 0 0] 28)) (.cells #[.int .i64 8, .string ⟨#[]⟩, .slice (some ⟨w6.heap.size + 1, 0, none⟩) 1 1, .int .i64 0, .int .i64 0, .string ⟨#[]⟩, .slice none 0 0, .slice (some ⟨w11.heap.size, 0, none⟩) 2 2] 28)) (.cells #[.int .i64 5, .string ⟨#[]⟩, .slice (some ⟨w6.heap.size, 0, none⟩) 1 1, .int .i64 0, .int .i64 0, .string ⟨#[]⟩, .slice none 0 0, .slice (some ⟨w11.heap.size + 1, 0, none⟩) 1 1] 28)
  generalize ((w11.alloc (.cells #[.int .i64 7, .string ⟨#[43]⟩, .slice none 0 0, .int .i64 0, .int .i64 0, .string ⟨#[]⟩, .slice none 0 0, .slice (some ⟨g9, 0, none⟩) 2 2, .int .i64 1, .string ⟨#[118, 46, 50]⟩, .slice none 0 0, .int .i64 0, .int .i64 0, .string ⟨#[]⟩, .slice none 0 0, .slice none 0 0] 28)).alloc (.cells #[.int .i64 8, .string ⟨#[]⟩, .slice (some ⟨w6.heap.size + 1, 0, none⟩) 1 1, .int .i64 0, .int .i64 0, .string ⟨#[]⟩, .slice none 0 0, .slice (some ⟨w11.heap.size, 0, none⟩) 2 2] 28)).alloc (.cells #[.int .i64 5, .string ⟨#[]⟩, .slice (some ⟨w6.heap.size, 0, none⟩) 1 1, .int .i64 0, .int .i64 0, .string ⟨#[]⟩, .slice none 0 0, .slice (some ⟨w11.heap.size + 1, 0, none⟩) 1 1] 28) = w12 at *
  generalize hg12 : w11.heap.size + 1 + 1 = g12 at *
  have HV4 := Lib.hid v4
  have HZ12 := Lib.hid z12
  have HB12 := Lib.hid (HB6.out.trans (HB7.out.mono (Nat.le_trans hCg (Nat.le_refl _)) |>.trans (hb12.mono (Nat.le_trans hCg HB7.out.size))))
  have HD12 := Lib.hid (HB7.out.trans (hb12.mono HB7.out.size))
  clear v1 k2 v2 k3 v3 v4 z12 hb12
  have ZG := Lib.hid ((HB12.out.block g hgl).trans HZ.out)
  obtain ⟨x0, x1, x2, x3, x4, x5, x6, x7⟩ := look8w ZG.out
  go_wp2_with fail
  refine (KF.out _ HB12.out).mono ?_
  rintro e w13 ⟨⟨l, v, rfl, hn, hsrt, hmem⟩, hb13⟩
  obtain rfl : l = [nV0] := sorted_one hsrt fun s => by rw [hmem, free_fix]; constructor; exact fun h => h.2; rintro rfl; exact ⟨by decide, rfl⟩
  obtain ⟨al, cl, rfl, hcl, hml, _, hr⟩ := hn
  obtain ⟨lb, lo, rfl, _, hcell⟩ := hr.resolve_left (fun h => by cases h)
  have hl0 := (hcell 0 (by decide)).1
  clear hcell hsrt hmem x0 x1 x2 x3 x4 x5 x6 x7
  have HL0 := Lib.hid hl0
  have HB13 := Lib.hid hb13
  clear hl0 hb13
  go_upto_region 6 with fail
  have hlz : lb < w13.heap.size := World.block_lt_of_cell? _ _ HL0.out
  have hl13 : w12.heap.size ≤ w13.heap.size := HB13.out.size
  have ZD := Lib.hid ((HB13.out.block db (by have := HD12.out.size; omega)).trans ((HD12.out.block db hdl).trans HZ6.out))
  have ZE := Lib.hid ((HB13.out.block g12 (lt_of_block HZ12.out)).trans HZ12.out)
  have hdz : db < w13.heap.size := lt_of_block ZD.out
  have hez : g12 < w13.heap.size := lt_of_block ZE.out
  have CC : Hid (∀ W, Below w13.heap.size w13 W → (fun W : World => W.cell? ⟨db, 0, none⟩ = some (.int .i64 dk) ∧ W.cell? ⟨db, 1, none⟩ = some (.int .i64 di) ∧ W.cell? ⟨db, 2, none⟩ = some (.string ds) ∧ W.cell? ⟨db, 3, none⟩ = some (.slice da dl.length dc) ∧ W.cell? ⟨g12, 0, none⟩ = some (.int .i64 5) ∧ W.cell? ⟨g12, 1, none⟩ = some (.string ⟨#[]⟩) ∧ W.cell? ⟨g12, 2, none⟩ = some (.slice (some ⟨w6.heap.size, 0, none⟩) 1 1) ∧ W.cell? ⟨g12, 3, none⟩ = some (.int .i64 0) ∧ W.cell? ⟨g12, 4, none⟩ = some (.int .i64 0) ∧ W.cell? ⟨g12, 5, none⟩ = some (.string ⟨#[]⟩) ∧ W.cell? ⟨g12, 6, none⟩ = some (.slice none 0 0) ∧ W.cell? ⟨g12, 7, none⟩ = some (.slice (some ⟨w11.heap.size + 1, 0, none⟩) 1 1) ∧ W.cell? ⟨lb, lo, none⟩ = some (.string ⟨#[118, 46, 48]⟩) ∧ Below w13.heap.size w13 W) W) := Lib.hid fun W hW => by
    have h1 := (hW.block db hdz).trans ZD.out
    have h2 := (hW.block g12 hez).trans ZE.out
    have h3 : W.cell? ⟨lb, lo, none⟩ = some (.string ⟨#[118, 46, 48]⟩) := cell_below hW HL0.out
    refine ⟨?_, ?_, ?_, ?_, ?_, ?_, ?_, ?_, ?_, ?_, ?_, ?_, h3, hW⟩
    · rw [Lib.cell_of_heap h1]; rfl
    · rw [Lib.cell_of_heap h1]; rfl
    · rw [Lib.cell_of_heap h1]; rfl
    · rw [Lib.cell_of_heap h1]; rfl
    all_goals (rw [Lib.cell_of_heap h2]; rfl)
  have OF : Hid (∀ W, (fun W : World => W.cell? ⟨db, 0, none⟩ = some (.int .i64 dk) ∧ W.cell? ⟨db, 1, none⟩ = some (.int .i64 di) ∧ W.cell? ⟨db, 2, none⟩ = some (.string ds) ∧ W.cell? ⟨db, 3, none⟩ = some (.slice da dl.length dc) ∧ W.cell? ⟨g12, 0, none⟩ = some (.int .i64 5) ∧ W.cell? ⟨g12, 1, none⟩ = some (.string ⟨#[]⟩) ∧ W.cell? ⟨g12, 2, none⟩ = some (.slice (some ⟨w6.heap.size, 0, none⟩) 1 1) ∧ W.cell? ⟨g12, 3, none⟩ = some (.int .i64 0) ∧ W.cell? ⟨g12, 4, none⟩ = some (.int .i64 0) ∧ W.cell? ⟨g12, 5, none⟩ = some (.string ⟨#[]⟩) ∧ W.cell? ⟨g12, 6, none⟩ = some (.slice none 0 0) ∧ W.cell? ⟨g12, 7, none⟩ = some (.slice (some ⟨w11.heap.size + 1, 0, none⟩) 1 1) ∧ W.cell? ⟨lb, lo, none⟩ = some (.string ⟨#[118, 46, 48]⟩) ∧ Below w13.heap.size w13 W) W → Below w13.heap.size w13 W) := Lib.hid fun W h => h.2.2.2.2.2.2.2.2.2.2.2.2.2
  obtain ⟨vnw, vdw, vkw, hew, hFw⟩ := HV4.out
  have HFW := Lib.hid hFw
  have HEW := Lib.hid hew
  have KDR : Hid (∀ W, Below w13.heap.size w13 W → Calls Tryz.prog 20 #[.agg #[.int .i64 5, .string ⟨#[]⟩, .slice (some ⟨w6.heap.size, 0, none⟩) 1 1, .int .i64 0, .int .i64 0, .string ⟨#[]⟩, .slice none 0 0, .slice (some ⟨w11.heap.size + 1, 0, none⟩) 1 1]] W fun e w' => (∃ a c, e = .returned (.agg #[.int .i64 dk, .int .i64 di, .string ds, .slice a dl.length c]) ∧ InS w' (fun b => W.heap.size ≤ b) dl (.slice a dl.length c)) ∧ Below W.heap.size W w') := Lib.hid fun W hW => by
    have hB : Below w12.heap.size w12 W := HB13.out.trans (hW.mono hl13)
    have h1 := (inF_up HFW.out hB).move (w' := W) (S' := fun b => b < W.heap.size) (fun _ _ h => h) fun _ _ _ _ h => h
    rw [show (.agg #[.int .i64 5, .string ⟨#[]⟩, .slice (some ⟨w6.heap.size, 0, none⟩) 1 1, .int .i64 0, .int .i64 0, .string ⟨#[]⟩, .slice none 0 0, .slice (some ⟨w11.heap.size + 1, 0, none⟩) 1 1] : Value) = _ from HEW.out]
    refine (rdat_any (fixE ⟨#[118, 46, 49]⟩ ⟨#[118, 46, 50]⟩) W (fun b => b < W.heap.size) vnw vdw vkw h1 (fun b h => h) (okE_of_check (check_fix2 (by decide +kernel) (by decide +kernel)))).mono ?_
    rintro e w' ⟨⟨v, rfl, hv⟩, hb⟩
    have hD := HD.out
    rw [numS_1, numS_2] at hD
    rw [hD] at hv ⊢
    obtain ⟨_, _, _, a, c, rfl, h2⟩ := hv
    exact ⟨⟨a, c, rfl, ⟨a, c, rfl, h2⟩⟩, hb⟩
  have KSM : Hid (∀ (W W' : World) a c, Below w13.heap.size w13 W → InS W (fun b => W'.heap.size ≤ b) dl (.slice a dl.length c) → Calls Tryz.prog 19 #[.agg #[.int .i64 dk, .int .i64 di, .string ds, .slice da dl.length dc], .agg #[.int .i64 dk, .int .i64 di, .string ds, .slice a dl.length c]] W fun e w' => e = .returned (.bool true) ∧ Below W.heap.size W w') := Lib.hid fun W W' a c hW hs => by
    have hB : Below w6.heap.size w6 W := HD12.out.trans ((HB13.out.mono HD12.out.size).trans (hW.mono (Nat.le_trans HD12.out.size hl13)))
    have hok := HV5.out
    have r1 : RepV W W.heap.size (.mk dk di ds dl) (.slice da dl.length dc) := InV.rep (S := fun b => w4.heap.size ≤ b) ⟨hok.1, hok.2.1, hok.2.2.1, HV6.out.move (fun _ h _ => h) fun _ _ _ _ hc => cell_below hB hc⟩
    have r2 : RepV W W.heap.size (.mk dk di ds dl) (.slice a dl.length c) := InV.rep (S := fun b => W'.heap.size ≤ b) ⟨hok.1, hok.2.1, hok.2.2.1, hs⟩
    refine (Dat.same_any (.mk dk di ds dl) (.mk dk di ds dl) W W.heap.size _ _ r1 r2 (Nat.le_refl _)).mono ?_
    rintro e w' ⟨rfl, hb⟩
    rw [Dat.sameB_refl]
    exact ⟨rfl, hb⟩
  have KCK : Hid (∀ W, Calls Tryz.prog 11 #[.agg #[.int .i64 3, .string ⟨#[]⟩, .slice none 0 0, .int .i64 0, .int .i64 0, .string ⟨#[]⟩, .slice none 0 0, .slice none 0 0]] W fun e w' => e = .returned (.int .i64 60) ∧ Below W.heap.size W w') := Lib.hid fun W => by
    have := checkE_any (.mk 3 ⟨#[]⟩ [] PT0 []) (fun b => b < W.heap.size) (.slice none 0 0) (.slice none 0 0) (.slice none 0 0) W ⟨⟨by constructor <;> decide, by decide, inN_nil⟩, ⟨by constructor <;> decide, by constructor <;> decide, by decide, none, 0, rfl, Nat.le_refl _, Nat.zero_le _, fun _ => rfl, .inl rfl⟩, inK_nil⟩ (fun b h => h)
    rw [check_if []] at this
    exact this
  have KAR : Hid (∀ W, Calls Tryz.prog 25 #[.string ⟨#[99, 97, 114]⟩] W fun e w' => e = .returned (.int .i64 1) ∧ W = w') := Lib.hid fun W => by
    have := ca_any ⟨#[99, 97, 114]⟩ W
    rw [show (⟨#[99, 97, 114]⟩ : ByteArray).data.toList = [99, 97, 114] from rfl, carA] at this
    exact this
  have B00 := Below.refl w13.heap.size w13
  have HBE : Hid (Below w.heap.size w w13) := Lib.hid (HB.out.trans ((HB12.out.trans (HB13.out.mono HB12.out.size)).mono HB.out.size))
  clear hew hFw
  go_region_held3 (fun W : World => W.cell? ⟨db, 0, none⟩ = some (.int .i64 dk) ∧ W.cell? ⟨db, 1, none⟩ = some (.int .i64 di) ∧ W.cell? ⟨db, 2, none⟩ = some (.string ds) ∧ W.cell? ⟨db, 3, none⟩ = some (.slice da dl.length dc) ∧ W.cell? ⟨g12, 0, none⟩ = some (.int .i64 5) ∧ W.cell? ⟨g12, 1, none⟩ = some (.string ⟨#[]⟩) ∧ W.cell? ⟨g12, 2, none⟩ = some (.slice (some ⟨w6.heap.size, 0, none⟩) 1 1) ∧ W.cell? ⟨g12, 3, none⟩ = some (.int .i64 0) ∧ W.cell? ⟨g12, 4, none⟩ = some (.int .i64 0) ∧ W.cell? ⟨g12, 5, none⟩ = some (.string ⟨#[]⟩) ∧ W.cell? ⟨g12, 6, none⟩ = some (.slice none 0 0) ∧ W.cell? ⟨g12, 7, none⟩ = some (.slice (some ⟨w11.heap.size + 1, 0, none⟩) 1 1) ∧ W.cell? ⟨lb, lo, none⟩ = some (.string ⟨#[118, 46, 48]⟩) ∧ Below w13.heap.size w13 W)
    (first | (with_reducible exact CC.out _ (Below.drew B00)) | (with_reducible exact CC.out _ BW3) | (with_reducible exact CC.out _ BW2) | (with_reducible exact CC.out _ BW))
    (first | (go_at_call 20; refine (KDR.out _ (OF.out _ (by assumption))).mono ?_; rintro e w14 ⟨⟨a14, c14, rfl, hd14⟩, hb14⟩; have BW := (OF.out _ (by assumption)).trans (hb14.mono (OF.out _ (by assumption)).size)) | (go_at_call 19; refine (KSM.out _ _ _ _ (OF.out _ (by assumption)) (by assumption)).mono ?_; rintro e w15 ⟨rfl, hb15⟩; have BW2 := (OF.out _ (by assumption)).trans (hb15.mono (OF.out _ (by assumption)).size)) | (go_at_call 11; refine (KCK.out _).mono ?_; rintro e w16 ⟨rfl, hb16⟩; have BW3 := (OF.out _ (by assumption)).trans (hb16.mono (OF.out _ (by assumption)).size)) | (go_at_call 25; refine (KAR.out _).mono ?_; rintro e w17 ⟨rfl, rfl⟩))
  go_wp2
  go_ret
  exact ⟨rfl, HBE.out.trans (BW3.mono HBE.out.size)⟩
end Go.Proofs.YtjofdlnopchaeaaGreatDoor.Core
