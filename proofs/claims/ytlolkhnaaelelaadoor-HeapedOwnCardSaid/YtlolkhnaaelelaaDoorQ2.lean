/-
Package heap's small functions: isNumbered, has, hasAll, isThing, is. No condition but that the heap lies in memory.
-/
import Derived.Test.YtlolkhnaaelelaaDoorQ1
import Derived.Test.YtlolkhnaaelelaaDoorWN
namespace Go.Proofs.YtlolkhnaaelelaaDoor.Hp
open Go.ChangeShapes Go.WideShapes Go.ChangeAt Go.RowKit Go.Deep
open Dat (PT ok64 RepV RepS RowX infoDatum)
set_option maxRecDepth 100000

def numB (i : Int) (s : ByteArray) (least most : Int) : Bool := decide (least ≤ i ∧ i ≤ most ∧ s.toList = [])
theorem isNumbered_any (k i : Int) (s : ByteArray) (least most : Int) (w : World) :
    Calls Tryd.prog 59 #[.agg #[.int .i64 k, .int .i64 i, .string s], .int .i64 least, .int .i64 most] w fun e w' => e = .returned (.bool (numB i s least most)) ∧ Below w.heap.size w w' := by
  have HR : Hid (numB i s least most = decide (least ≤ i ∧ i ≤ most ∧ s.toList = [])) := Lib.hid rfl
  generalize numB i s least most = r at HR
  by_cases h1 : least ≤ i
  · by_cases h2 : i ≤ most
    · by_cases h3 : s.toList = []
      all_goals
        go_enter Tryd.func59, Tryd.ntmps59
        go_wp2
        go_ret
        exact ⟨ret_bool (by rw [HR.out]; simp [*]), (Below.refl _ _).alloc (Nat.le_refl _) _⟩
    · go_enter Tryd.func59, Tryd.ntmps59
      go_wp2
      go_ret
      exact ⟨ret_bool (by rw [HR.out]; simp [*]; intros; omega), (Below.refl _ _).alloc (Nat.le_refl _) _⟩
  · go_enter Tryd.func59, Tryd.ntmps59
    go_wp2
    go_ret
    exact ⟨ret_bool (by rw [HR.out]; simp [*]; intros; omega), (Below.refl _ _).alloc (Nat.le_refl _) _⟩

/-- Is it a value of a heap of n things? -/
def hasB (n : Nat) (v : PV) : Bool :=
  if v.k = 0 then numB v.i v.s 0 1 else if v.k = 1 then numB v.i v.s (-1152921504606846976) 1152921504606846975 else if v.k = 2 then numB v.i v.s 0 255
  else if v.k = 3 then decide (v.i = 0) && nameB v.s.data.toList else if v.k = 4 ∨ v.k = 5 ∨ v.k = 6 ∨ v.k = 7 then numB v.i v.s 0 0 else if v.k = 8 then numB v.i v.s 0 ((n : Int) - 1) else false
theorem kind9 (k : Int) : k = 0 ∨ k = 1 ∨ k = 2 ∨ k = 3 ∨ k = 4 ∨ k = 5 ∨ k = 6 ∨ k = 7 ∨ k = 8 ∨ (k < 0 ∨ 8 < k) := by omega
def LenM (w : World) (hb n : Nat) : Prop := ∃ a c, w.cell? ⟨hb, 0, none⟩ = some (.slice a n c) ∧ n ≤ maxLen
theorem LenM.below {w w' : World} {hb n : Nat} (h : LenM w hb n) (hb' : Below w.heap.size w w') : LenM w' hb n := by
  obtain ⟨a, c, e, h1⟩ := h
  exact ⟨a, c, (hb'.cell (p := ⟨hb, 0, none⟩) (World.block_lt_of_cell? _ _ e)).trans e, h1⟩
theorem LenM.move {w w1 w2 : World} {hb n : Nat} (h : LenM w hb n) (h1 : Below w.heap.size w w1) (h2 : Below w1.heap.size w1 w2) : LenM w2 hb n := (h.below h1).below h2
set_option maxHeartbeats 1000000 in
theorem has_any (k i : Int) (s : ByteArray) (hb n : Nat) (w : World) (hs : s.size ≤ maxLen) (hl : LenM w hb n) :
    Calls Tryd.prog 39 #[.pointer (some ⟨hb, 0, none⟩), .agg #[.int .i64 k, .int .i64 i, .string s]] w fun e w' => e = .returned (.bool (hasB n ⟨k, i, s⟩)) ∧ Below w.heap.size w w' := by
  have HR : Hid (hasB n ⟨k, i, s⟩ = if k = 0 then numB i s 0 1 else if k = 1 then numB i s (-1152921504606846976) 1152921504606846975 else if k = 2 then numB i s 0 255
  else if k = 3 then decide (i = 0) && nameB s.data.toList else if k = 4 ∨ k = 5 ∨ k = 6 ∨ k = 7 then numB i s 0 0 else if k = 8 then numB i s 0 ((n : Int) - 1) else false) := Lib.hid rfl
  generalize hasB n ⟨k, i, s⟩ = r at HR
  obtain ⟨a, c, hc, hm⟩ := hl
  have hlt : hb < w.heap.size := World.block_lt_of_cell? _ _ hc
  have B0 := Lib.hid ((Below.refl w.heap.size w).alloc (Nat.le_refl _) (.cells #[.int .i64 k, .int .i64 i, .string s] 36))
  have hc0 := (B0.out.cell (p := ⟨hb, 0, none⟩) hlt).trans hc
  have HS := Lib.hid hs
  unfold maxLen at hm
  have KN := Lib.hid (fun a b W => isNumbered_any k i s a b W)
  have KM := Lib.hid (fun W => name_any s W hs)
  rcases kind9 k with rfl | rfl | rfl | rfl | rfl | rfl | rfl | rfl | rfl | hk
  all_goals try
    (go_enter Tryd.func39, Tryd.ntmps39
     go_wp2_with (go_at_call 59; ((with_reducible refine (KN.out _ _ _).mono ?_); rintro e w1 ⟨rfl, hb1⟩))
     go_ret
     exact ⟨ret_bool (by rw [HR.out]; rfl), B0.out.trans (hb1.mono B0.out.size)⟩)
  · by_cases hi : i = 0
    · subst hi
      go_enter Tryd.func39, Tryd.ntmps39
      go_wp2_with (go_at_call 60; ((with_reducible refine (KM.out _).mono ?_); rintro e w1 ⟨rfl, rfl⟩))
      go_ret
      exact ⟨ret_bool (by rw [HR.out]; rfl), B0.out⟩
    · have hi' : (i == 0) = false := by simpa using hi
      go_enter Tryd.func39, Tryd.ntmps39
      go_wp2
      go_ret
      exact ⟨ret_bool (by rw [HR.out]; simp [hi]), B0.out⟩
  · have Z := heap_alloc_new w (.cells #[.int .i64 8, .int .i64 i, .string s] 36)
    go_enter Tryd.func39, Tryd.ntmps39
    go_wp2
    generalize w.alloc (.cells #[.int .i64 8, .int .i64 i, .string s] 36) = w0 at hc0 B0 Z ⊢
    have z0 : w0.cell? ⟨w.heap.size, 0, none⟩ = some (.int .i64 8) := by rw [Lib.cell_of_heap Z]; rfl
    have z1 : w0.cell? ⟨w.heap.size, 1, none⟩ = some (.int .i64 i) := by rw [Lib.cell_of_heap Z]; rfl
    have z2 : w0.cell? ⟨w.heap.size, 2, none⟩ = some (.string s) := by rw [Lib.cell_of_heap Z]; rfl
    clear Z
    go_still_tail 7, (by kernel_rfl)
    change wpList _ _ _ _ _ w0.drew
    go_wp2_with (go_at_call 59; ((with_reducible refine (KN.out _ _ _).mono ?_); rintro e w1 ⟨rfl, hb1⟩))
    go_ret
    exact ⟨ret_bool (by rw [HR.out]; rfl), B0.out.drew.trans (hb1.mono B0.out.size)⟩
  · have b0 : (k == 0) = false := by simp; omega
    have b1 : (k == 1) = false := by simp; omega
    have b2 : (k == 2) = false := by simp; omega
    have b3 : (k == 3) = false := by simp; omega
    have b4 : (k == 4) = false := by simp; omega
    have b5 : (k == 5) = false := by simp; omega
    have b6 : (k == 6) = false := by simp; omega
    have b7 : (k == 7) = false := by simp; omega
    have b8 : (k == 8) = false := by simp; omega
    have HR2 : Hid (r = false) := Lib.hid (by rw [HR.out, if_neg (by omega), if_neg (by omega), if_neg (by omega), if_neg (by omega), if_neg (by omega), if_neg (by omega)])
    clear hk
    go_enter Tryd.func39, Tryd.ntmps39
    go_wp2
    go_ret
    exact ⟨ret_bool (by rw [HR2.out]), B0.out⟩

/-- The facts on one value of a row. -/
theorem InP.cells {w : World} {S : Nat → Prop} {l : List PV} {v : Value} (h : InP w S l v) (h0 : l ≠ []) : ∃ b o c, v = .slice (some ⟨b, o, none⟩) l.length c ∧ S b ∧ b < w.heap.size ∧ VAt w l b o := by
  obtain ⟨a, c, e, h1, h2, h3, h4⟩ := h
  obtain ⟨b, o, rfl, hs, hv⟩ := h4.resolve_left h0
  exact ⟨b, o, c, e, hs, hv.lt h0, hv⟩
theorem all_take {l : List PV} {p : PV → Bool} {j : Nat} (hj : j < l.length) (h : ∀ t ∈ l.take j, p t = true) (hn : p l[j] = true) : ∀ t ∈ l.take (j + 1), p t = true := by
  intro t ht
  rw [List.take_succ_eq_append_getElem hj] at ht
  rcases List.mem_append.1 ht with ht | ht
  · exact h t ht
  · obtain rfl : t = l[j] := by simpa using ht
    exact hn
set_option maxHeartbeats 1000000 in
theorem hasAll_any (l : List PV) (v : Value) (S : Nat → Prop) (hb n : Nat) (w : World) (h : InP w S l v) (hl : LenM w hb n) :
    Calls Tryd.prog 21 #[.pointer (some ⟨hb, 0, none⟩), v] w fun e w' => e = .returned (.bool (l.all (hasB n))) ∧ Below w.heap.size w w' := by
  have HI := Lib.hid h
  have HL := Lib.hid hl
  have HR : Hid (l.all (hasB n) = true ↔ ∀ t ∈ l, hasB n t = true) := Lib.hid List.all_eq_true
  generalize l.all (hasB n) = r at HR
  obtain ⟨a, c, rfl, h1, h2, h3, h4⟩ := h
  unfold maxLen at h2
  clear hl h3 h4
  go_enter Tryd.func21, Tryd.ntmps21
  go_wp2
  go_loopw [9] (fun i wr => ∃ j : Nat, j ≤ l.length ∧ i = .int .i64 j ∧ (∀ t ∈ l.take j, hasB n t = true) ∧ Below w.heap.size w wr) (fun i _ => l.length - (intOf i).toNat)
  case atStart => exact ⟨0, Nat.zero_le _, rfl, by simp, Below.refl _ _⟩
  case round =>
    obtain ⟨j, hj, rfl, hall, hbr⟩ := hrel
    have HA := Lib.hid hall
    have HB := Lib.hid hbr
    by_cases hlt : j < l.length
    · obtain ⟨b, o, c', e, hs, hbl, hv⟩ := HI.out.cells (by rintro rfl; cases hlt)
      cases e
      obtain ⟨c0, c1, c2, ok⟩ := hv.item j hlt
      replace c0 := (HB.out.cell (p := ⟨b, o + j * 3, none⟩) hbl).trans c0
      replace c1 := (HB.out.cell (p := ⟨b, o + j * 3 + 1, none⟩) hbl).trans c1
      replace c2 := (HB.out.cell (p := ⟨b, o + j * 3 + 2, none⟩) hbl).trans c2
      have HT : Hid (hasB n l[j] = true → ∀ t ∈ l.take (j + 1), hasB n t = true) := Lib.hid (all_take hlt HA.out)
      have HM : Hid (l[j] ∈ l) := Lib.hid (List.getElem_mem hlt)
      generalize l[j] = t at c0 c1 c2 ok HT HM
      obtain ⟨tk, ti, ts⟩ := t
      dsimp only at c0 c1 c2
      have hts : ts.size ≤ maxLen := ok.2.2
      have HLN := Lib.hid (fun W (hW : Below wr.heap.size wr W) => (HL.out.move hbr hW : LenM W hb n))
      clear hall hbr hv ok
      by_cases hok : hasB n ⟨tk, ti, ts⟩ = true
      · have KH := Lib.hid (fun W hW => hok ▸ has_any tk ti ts hb n W hts hW)
        have HT' := Lib.hid (HT.out hok)
        clear hok HT hts
        go_wp2_with (go_at_call 39; ((with_reducible refine (KH.out _ (HLN.out _ ((Below.refl _ _).alloc (Nat.le_refl _) _))).mono ?_); rintro e w1 ⟨rfl, hb1⟩))
        go_roundw
        case rel => exact ⟨j + 1, by omega, by go_num, HT'.out, HB.out.trans ((((Below.refl _ _).alloc (Nat.le_refl _) _).trans (hb1.mono (by simp))).mono HB.out.size)⟩
        case measure => simp [intOf]; omega
      · have hok' : hasB n ⟨tk, ti, ts⟩ = false := by simpa using hok
        have KH := Lib.hid (fun W hW => hok' ▸ has_any tk ti ts hb n W hts hW)
        have HF : Hid (r = false) := Lib.hid (by
          cases hr : r
          · rfl
          · exact absurd (HR.out.1 hr _ HM.out) (by simp [hok']))
        clear hok hok' HT hts
        go_wp2_with (go_at_call 39; ((with_reducible refine (KH.out _ (HLN.out _ ((Below.refl _ _).alloc (Nat.le_refl _) _))).mono ?_); rintro e w1 ⟨rfl, hb1⟩))
        go_ret
        exact ⟨ret_bool (by rw [HF.out]), HB.out.trans ((((Below.refl _ _).alloc (Nat.le_refl _) _).trans (hb1.mono (by simp))).mono HB.out.size)⟩
    · go_wp2
      go_ret
      exact ⟨ret_bool (by rw [Bool.eq_iff_iff, HR.out]; rw [List.take_of_length_le (by omega)] at hall; simpa using hall), HB.out⟩
end Go.Proofs.YtlolkhnaaelelaaDoor.Hp
