/-
Package core's count and seek: how often each name is bound, and free. No condition.
-/
import Derived.Test.YtkjgdnfkpebejaaWKE

namespace Go.Proofs.Ytkjgdnfkpebejaa.Core
open Go.ChangeShapes Go.WideShapes Go.ChangeAt Go.RowKit Go.Deep
open Dat (PT ok64)
set_option maxRecDepth 100000

/-- All that was there is as it was, but for two blocks. -/
def KQ (w0 : World) (x y : Nat) (W : World) : Prop := Below 0 w0 W ∧ ∀ b, b < w0.heap.size → b ≠ x → b ≠ y → W.heap[b]? = w0.heap[b]?
theorem KQ.refl (w : World) (x y : Nat) : KQ w x y w := ⟨Below.refl _ _, fun _ _ _ _ => rfl⟩
theorem KQ.trans {a b c : World} {x y : Nat} (h : KQ a x y b) (g : KQ b x y c) : KQ a x y c :=
  ⟨h.1.trans g.1, fun i h1 h2 h3 => (g.2 i (Nat.lt_of_lt_of_le h1 h.1.size) h2 h3).trans (h.2 i h1 h2 h3)⟩
theorem KQ.alloc {w W : World} {x y : Nat} (h : KQ w x y W) (o : Obj) : KQ w x y (W.alloc o) :=
  ⟨h.1.alloc (Nat.zero_le _) o, fun b h1 h2 h3 => (Below.heap_alloc W o b (Nat.lt_of_lt_of_le h1 h.1.size)).trans (h.2 b h1 h2 h3)⟩
theorem KQ.next {w W W' : World} {x y : Nat} (h : KQ w x y W) (hb : Below W.heap.size W W') : KQ w x y W' :=
  ⟨h.1.trans (hb.mono (Nat.zero_le _)), fun b h1 h2 h3 => (hb.block b (Nat.lt_of_lt_of_le h1 h.1.size)).trans (h.2 b h1 h2 h3)⟩
theorem KQ.grow {w W W' : World} {x y z : Nat} (h : KQ w x y W) (hg : W.grownBy W' (some z)) (hz : z = x ∨ z = y) : KQ w x y W' :=
  ⟨h.1.trans ⟨hg.os, hg.tape, hg.output, hg.size, fun _ h => absurd h (Nat.not_lt_zero _)⟩, fun b h1 h2 h3 => (hg.block b (Nat.lt_of_lt_of_le h1 h.1.size) (by rcases hz with rfl | rfl <;> simpa)).trans (h.2 b h1 h2 h3)⟩
/-- How often a name stands in a row. -/
def occ : List ByteArray → ByteArray → Int
  | [], _ => 0
  | t :: l, s => (if t = s then 1 else 0) + occ l s
theorem occ_bound : ∀ (l : List ByteArray) (s : ByteArray), 0 ≤ occ l s ∧ occ l s ≤ l.length
  | [], _ => by simp [occ]
  | t :: l, s => by
    have := occ_bound l s
    simp only [occ, List.length_cons]
    split <;> omega
theorem occ_snoc : ∀ (l : List ByteArray) (t s : ByteArray), occ (l ++ [t]) s = occ l s + if t = s then 1 else 0
  | [], t, s => by simp [occ]
  | u :: l, t, s => by simp only [List.cons_append, occ, occ_snoc l t s]; omega
/-- A map that holds such counts. -/
def MapB (w : World) (b n : Nat) (B : ByteArray → Int) : Prop := ∃ m, MapI w b n m ∧ ∀ s, s.size ≤ maxLen → (m s).getD 0 = B s
theorem MapB.at {w w' : World} {b n : Nat} {B : ByteArray → Int} (h : MapB w b n B) (hb : w'.heap[b]? = w.heap[b]?) : MapB w' b n B := let ⟨m, h1, h2⟩ := h; ⟨m, h1.at hb, h2⟩
theorem MapB.mono {w : World} {b n n' : Nat} {B : ByteArray → Int} (h : MapB w b n B) (hn : n ≤ n') : MapB w b n' B := let ⟨m, h1, h2⟩ := h; ⟨m, h1.mono hn, h2⟩
theorem MapB.ext {w : World} {b n : Nat} {B B' : ByteArray → Int} (h : MapB w b n B) (he : ∀ s, B s = B' s) : MapB w b n B' := let ⟨m, h1, h2⟩ := h; ⟨m, h1, fun s hs => by rw [← he]; exact h2 s hs⟩
theorem MapB.lt {w : World} {b n : Nat} {B : ByteArray → Int} (h : MapB w b n B) : b < w.heap.size := let ⟨_, h1, _⟩ := h; h1.lt
def addB (B : ByteArray → Int) (l : List ByteArray) (by_ : Int) : ByteArray → Int := fun s => B s + by_ * occ l s
theorem count_any (l : List ByteArray) (S : Nat → Prop) (v : Value) (fb : Nat) (by_ : Int) (bb n : Nat) (B : ByteArray → Int) (w : World) (hv : InN w S l v) (hS : ∀ b, S b → b ≠ bb) (h : MapB w bb n B) (hn : n + l.length ≤ 1000000000) (hb : by_ = 1 ∨ by_ = -1) (hB : ∀ s, -1000000000 ≤ B s ∧ B s ≤ 1000000000) :
    Calls Try.prog 54 #[.agg #[.map (some bb), .map (some fb)], v, .int .i64 by_] w fun e w' => e = .returned (.tuple #[]) ∧ MapB w' bb (n + l.length) (addB B l by_) ∧ KP w (some bb) w' := by
  have HV := Lib.hid hv
  obtain ⟨a, c, rfl, hl, hm, _, hr⟩ := hv
  have HR := Lib.hid hr
  unfold maxLen at hm
  have HM := Lib.hid h
  have hbl := h.lt
  generalize hw0 : w.alloc (.cells #[.map (some bb), .map (some fb)] 70) = w0
  have HW0 := Lib.hid hw0
  have Z0 : Hid (w0.heap[w.heap.size]? = some (.cells #[.map (some bb), .map (some fb)] 70 (0, 0))) := Lib.hid (by rw [← hw0]; exact heap_alloc_new _ _)
  have HB0 : Hid (KP w (some bb) w0) := Lib.hid (by rw [← hw0]; exact (KP.refl _ _).alloc _)
  have HZ0 : Hid (w0.heap.size = w.heap.size + 1) := Lib.hid (by rw [← hw0, size_new])
  have HM0 : Hid (MapB w0 bb n B) := Lib.hid (h.at (by rw [← hw0]; exact Below.heap_alloc _ _ _ hbl))
  clear hr h hw0
  go_enter Try.func54, Try.ntmps54
  go_wp2
  rw [HW0.out]
  go_loopw [10] (fun ix wr => ∃ j : Nat, j ≤ l.length ∧ ix = .int .i64 j ∧ MapB wr bb (n + j) (addB B (l.take j) by_) ∧ KP w0 (some bb) wr) (fun i _ => l.length - (intOf i).toNat)
  case atStart => exact ⟨0, Nat.zero_le _, rfl, by rw [List.take_zero]; exact HM0.out.ext fun s => by simp [addB, occ], KP.refl _ _⟩
  case round =>
    obtain ⟨j, hj, rfl, hmb, hkp⟩ := hrel
    have HKP := Lib.hid hkp
    by_cases hlt : j < l.length
    · obtain ⟨b, o, rfl, hs, hc⟩ := HR.out.resolve_left (by rintro rfl; cases hlt)
      have hbb := hS b hs
      have hblt := World.block_lt_of_cell? _ _ (hc j hlt).1
      have c0 : wr.cell? ⟨b, o + j, none⟩ = some (.string l[j]) := by
        rw [World.cell?_of_block (w := w) (a := ⟨b, o + j, none⟩) ((hkp.2 b (by rw [HZ0.out]; exact Nat.lt_succ_of_lt hblt) (by simpa using hbb)).trans (HB0.out.2 b hblt (by simpa using hbb)))]; exact (hc j hlt).1
      have x0 : wr.cell? ⟨w.heap.size, 0, none⟩ = some (.map (some bb)) := by
        rw [Lib.cell_of_heap ((hkp.2 w.heap.size (by rw [HZ0.out]; omega) (by simp; omega)).trans Z0.out)]; rfl
      have hsz1 := (hc j hlt).2
      have HTS : Hid (∀ s, addB B (l.take (j + 1)) by_ s = addB B (l.take j) by_ s + by_ * if l[j] = s then 1 else 0) := Lib.hid fun s => by
        rw [List.take_succ_eq_append_getElem hlt]
        unfold addB
        rw [occ_snoc, Int.mul_add]
        omega
      have HOC : Hid (∀ s, -1000000000 - 1000000000 ≤ addB B (l.take j) by_ s ∧ addB B (l.take j) by_ s ≤ 1000000000 + 1000000000) := Lib.hid fun s => by
        have h1 := occ_bound (l.take j) s
        have h2 := hB s
        rw [List.length_take] at h1
        unfold addB
        rcases hb with rfl | rfl <;> omega
      obtain ⟨m', hm', hmv⟩ := hmb
      have HMM := Lib.hid hm'
      have HMV := Lib.hid hmv
      have hbl2 := World.block_lt_of_cell? _ _ c0
      have hxl := World.block_lt_of_cell? _ _ x0
      clear hc hkp hm' hmv
      generalize addB B (l.take j) by_ = B' at *
      generalize l[j] = t at *
      have HV2 := Lib.hid (HMV.out t hsz1)
      have hoc := HOC.out t
      generalize hz : B' t = z at HV2 hoc
      have HZZ := Lib.hid hz
      clear hz
      obtain ⟨hz1, hz2⟩ := hoc
      have hby1 : -1 ≤ by_ := by omega
      have hby2 : by_ ≤ 1 := by omega
      have HOK : Hid (ok64 (z + by_)) := Lib.hid ⟨by omega, by omega⟩
      have HLT : Hid (n + j < maxLen) := Lib.hid (by unfold maxLen; omega)
      go_wp2_with (first | (at_lookup; refine wpList_look_m _ rfl _ _ rfl bb (n + j) m' rfl HMM.out t rfl hsz1 ?_; rw [HV2.out]) | (at_mapUpdate; refine wpList_store_m _ rfl _ _ _ rfl bb (n + j) m' rfl HMM.out HLT.out t (z + by_) rfl rfl hsz1 HOK.out ?_; intro w4 hm4 hg4))
      have HM4 : Hid (MapB w4 bb (n + (j + 1)) (addB B (l.take (j + 1)) by_)) := Lib.hid ⟨_, hm4, fun s hs => by
        rw [HTS.out s]
        unfold setM
        by_cases e : s = t
        · subst e; simp [HZZ.out]
        · have e2 : ¬ t = s := fun h => e h.symm
          simp [e, e2, HMV.out s hs]⟩
      have HK4 := Lib.hid (HKP.out.put ⟨hg4.os, hg4.tape, hg4.output, hg4.size, fun _ h => absurd h (Nat.not_lt_zero _)⟩ hg4.block)
      clear hm4 hg4
      go_wp2
      go_roundw
      case rel => exact ⟨j + 1, by omega, by go_num, HM4.out, HK4.out⟩
      case measure => simp [intOf]; omega
    · obtain rfl : j = l.length := by omega
      rw [List.take_length] at hmb
      have HMF := Lib.hid hmb
      clear hmb hkp
      go_wp2
      go_end0
      exact ⟨rfl, HMF.out, HB0.out.trans HKP.out⟩
end Go.Proofs.Ytkjgdnfkpebejaa.Core
