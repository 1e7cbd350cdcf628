/-
The law SignPlain of layer 3: its walk. Where the listed package-level variables are as the program lays them.
-/
import Derived.Test.YtiamojpeedllbaaGreatDoorY2
import Derived.Deep.RegionHeld3
namespace Go.Proofs.YtiamojpeedllbaaGreatDoor
open Go.ChangeShapes Go.WideShapes Go.ChangeAt Go.RowKit

/-- A row of one token, its cells. -/
theorem one_cells {W : World} {t : TkP} {v : Value} (h : TokAt W [t] v) : ∃ b o c, v = .slice (some ⟨b, o, none⟩) 1 c ∧ 1 ≤ c ∧ c ≤ maxLen ∧ b < W.heap.size ∧
    W.cell? ⟨b, o, none⟩ = some (.int .i64 t.t.kind) ∧ W.cell? ⟨b, o + 1, none⟩ = some (.string ⟨t.t.text.toArray⟩) ∧ W.cell? ⟨b, o + 2, none⟩ = some (.int .i64 t.t.int) ∧ W.cell? ⟨b, o + 3, none⟩ = some (.int .i64 (t.a : Int)) ∧ W.cell? ⟨b, o + 4, none⟩ = some (.int .i64 (t.b : Int)) := by
  obtain ⟨a, c, e, hc1, hc2, hcl⟩ := h
  rcases hcl with h0 | ⟨b, o, rfl, hlt, hcell⟩
  · cases h0
  obtain ⟨x0, x1, x2, x3, x4⟩ := cells_item hcell 0 (by simp)
  simp at x0 x1 x2 x3 x4
  exact ⟨b, o, c, by simpa using e, by simpa using hc1, hc2, hlt, x0, x1, x2, x3, x4⟩

theorem conv_one (c : UInt8) (W : World) : (convert 35 9 (.slice (some ⟨W.heap.size, 0, none⟩) 1 1)).run Tryz.prog (W.alloc (.cells #[.int .u8 (c.toNat : Int)] 5)) = .ok (.string ⟨#[c]⟩) (W.alloc (.cells #[.int .u8 (c.toNat : Int)] 5)) := by
  have h := run_convert_bytes_back (P := Tryz.prog) (W.alloc (.cells #[.int .u8 (c.toNat : Int)] 5)) 35 9 5 ⟨W.heap.size, 0, none⟩ 1 [c] Tryz.underlying35 Tryz.underlying5 Tryz.underlying9 (fun j hj => by
    match j, hj with
    | 0, _ => simp [Addr.add])
  exact h

/-- A token's text stands where it stood; the world has come of w. -/
def TxtSt (w : World) (b o : Nat) (u : Value) (W : World) : Prop := Below w.heap.size w W ∧ b < W.heap.size ∧ W.cell? ⟨b, o, none⟩ = some u
theorem TxtSt.drew {w W : World} {b o : Nat} {u : Value} (h : TxtSt w b o u W) : TxtSt w b o u W.drew := ⟨h.1.drew, h.2⟩
theorem TxtSt.alloc {w W : World} {b o : Nat} {u : Value} (h : TxtSt w b o u W) (x : Obj) : TxtSt w b o u (W.alloc x) :=
  ⟨h.1.alloc h.1.size x, by have := h.2.1; simp; omega, by
    have hb : (W.alloc x).heap[b]? = W.heap[b]? := Below.heap_alloc W x b h.2.1
    rw [World.cell?_of_block (w := W) (a := ⟨b, o, none⟩) hb]; exact h.2.2⟩
theorem TxtSt.cells {w W : World} {b o : Nat} {u : Value} (h : TxtSt w b o u W) : W.cell? ⟨b, o, none⟩ = some u ∧ TxtSt w b o u W := ⟨h.2.2, h⟩
theorem TxtSt.of {w W : World} {b o : Nat} {u : Value} {p : Prop} (h : p ∧ TxtSt w b o u W) : TxtSt w b o u W := h.2
theorem conv_two (c : UInt8) (W : World) : (convert 35 9 (.slice (some ⟨W.heap.size, 0, none⟩) 1 1)).run Tryz.prog (W.alloc (.cells #[.int .u8 (c.toNat : Int)] 5)).drew = .ok (.string ⟨#[c]⟩) (W.alloc (.cells #[.int .u8 (c.toNat : Int)] 5)).drew := by
  have h := run_convert_bytes_back (P := Tryz.prog) (W.alloc (.cells #[.int .u8 (c.toNat : Int)] 5)).drew 35 9 5 ⟨W.heap.size, 0, none⟩ 1 [c] Tryz.underlying35 Tryz.underlying5 Tryz.underlying9 (fun j hj => by
    match j, hj with
    | 0, _ => simp [Addr.add])
  exact h
theorem cat_back (c : UInt8) : (({ data := #[34, 92] } : ByteArray) ++ { data := #[c] } ++ { data := #[34] }).data.toList = [34, 92, c, 34] := by simp [ByteArray.data_append]
theorem byte_ways (c : UInt8) : ((c.toNat : Int) == 110) = true ∧ ¬ (c = 34 ∨ c = 92) ∧ c = 110 ∨ ((c.toNat : Int) == 110) = false ∧ ((c.toNat : Int) == 92) = true ∧ (c = 34 ∨ c = 92) ∨
    ((c.toNat : Int) == 110) = false ∧ ((c.toNat : Int) == 92) = false ∧ ((c.toNat : Int) == 34) = true ∧ (c = 34 ∨ c = 92) ∨ ((c.toNat : Int) == 110) = false ∧ ((c.toNat : Int) == 92) = false ∧ ((c.toNat : Int) == 34) = false ∧ ¬ (c = 34 ∨ c = 92) ∧ ¬ c = 110 := by
  have key : ∀ d : UInt8, ((c.toNat : Int) == (d.toNat : Int)) = true ↔ c = d := fun d => by
    rw [beq_iff_eq]
    exact ⟨fun h => UInt8.toNat_inj.1 (by omega), fun h => by rw [h]⟩
  have k1 := key 110
  have k2 := key 92
  have k3 := key 34
  simp only [show ((110 : UInt8).toNat : Int) = 110 from rfl, show ((92 : UInt8).toNat : Int) = 92 from rfl, show ((34 : UInt8).toNat : Int) = 34 from rfl] at k1 k2 k3
  cases e1 : ((c.toNat : Int) == 110) with
  | true =>
    have := k1.1 e1
    exact .inl ⟨rfl, by rw [this]; decide, this⟩
  | false =>
    have n1 : ¬ c = 110 := fun h => by rw [k1.2 h] at e1; cases e1
    cases e2 : ((c.toNat : Int) == 92) with
    | true => exact .inr (.inl ⟨rfl, rfl, .inr (k2.1 e2)⟩)
    | false =>
      have n2 : ¬ c = 92 := fun h => by rw [k2.2 h] at e2; cases e2
      cases e3 : ((c.toNat : Int) == 34) with
      | true => exact .inr (.inr (.inl ⟨rfl, rfl, rfl, .inl (k3.1 e3)⟩))
      | false =>
        have n3 : ¬ c = 34 := fun h => by rw [k3.2 h] at e3; cases e3
        exact .inr (.inr (.inr ⟨rfl, rfl, rfl, fun h => h.elim n3 n2, n1⟩))

set_option maxRecDepth 100000 in
set_option maxHeartbeats 8000000 in
theorem plain_walk (n : Int) (hn : Dat.ok64 n) (name : ByteArray) (hs : name.size ≤ maxLen) (c : UInt8) (w : World) (hL : LaidOk w) :
    Calls Tryz.prog 3 #[.int .i64 n, .string name, .int .u8 (c.toNat : Int)] w fun e w' => e = .returned (.bool true) ∧ Below w.heap.size w w' := by
  have HL := Lib.hid (fun W (h : Below w.heap.size w W) => hL.below h)
  have HF := Lib.hid (fun W h => fixed_any W h)
  have HTX := Lib.hid (fun W h => text_char c W h)
  have HTI := Lib.hid (fun W h => text_int n hn W h)
  have K4 : (∀ W, LaidOk W → Calls Tryz.prog 13 #[.string (({ data := #[34, 92] } : ByteArray) ++ { data := #[c] } ++ { data := #[34] })] W fun e w' => ToksOk (toksT [34, 92, c, 34]) W.heap.size e w' ∧ Below W.heap.size W w') := (fun W h => by
    have hsz : (({ data := #[34, 92] } : ByteArray) ++ { data := #[c] } ++ { data := #[34] }).size ≤ maxLen := by
      rw [← len_data, cat_back]; unfold maxLen; simp
    have := tokens_any _ W hsz h.1
    rwa [cat_back] at this)
  obtain ⟨q, hq⟩ : ∃ q : ByteArray, q = ⟨(Dat.charT c).toArray⟩ := ⟨_, rfl⟩
  rw [← hq] at HTX
  have hqd : q.data.toList = Dat.charT c := by rw [hq]
  have hql := char_len c
  have ht1 := toks_char c
  rw [← hqd, len_data] at ht1 hql
  have K1 := fun W (h : LaidOk W) => tokens_any q W (by unfold maxLen; omega) h.1
  rw [ht1] at K1
  have HK1 := Lib.hid K1
  have hq9 : (q.size : Int) ≤ 9 := by omega
  have hc0 : 0 ≤ (c.toNat : Int) := by omega
  have hc1 : (c.toNat : Int) < 256 := by have := c.toNat_lt; omega
  have HW := Lib.hid (byte_ways c)
  have HN := Lib.hid (fun W => rname_any name W hs)
  have KN := fun W (h : LaidOk W) => tokens_any name W hs h.1
  have hnq := toks_name name.data.toList
  rw [len_data] at hnq
  generalize toksT name.data.toList = QN at KN hnq
  have HKN := Lib.hid KN
  have HNM := Lib.hid hnq
  have htb := toks_back c
  generalize toksT [34, 92, c, 34] = QB at htb K4
  have HTB := Lib.hid htb
  have HK4 := Lib.hid K4
  unfold maxLen at hs
  clear K1 ht1 hql hqd hq hL KN hnq htb K4
  go_enter Tryz.func3, Tryz.ntmps3
  go_wp2_with fail
  refine (HF.out w (HL.out w (Below.refl _ _)).1).mono ?_
  rintro e w1 ⟨rfl, hb1⟩
  have B1 := Lib.hid hb1
  clear hb1
  go_wp2_with fail
  refine (HTX.out w1 (HL.out w1 B1.out)).mono ?_
  rintro e w2 ⟨rfl, hb2⟩
  have B2 := Lib.hid (B1.out.trans (hb2.mono B1.out.size))
  clear hb2
  go_wp2_with fail
  refine (HK1.out w2 (HL.out w2 B2.out)).mono ?_
  rintro e w3 ⟨⟨v, rfl, o3⟩, hb3⟩
  have B3 := Lib.hid (B2.out.trans (hb3.mono B2.out.size))
  obtain ⟨b, o, cp, rfl, p1, p2, p3, x0, x1, x2, x3, x4⟩ := one_cells o3.at
  clear hb3 o3
  unfold maxLen at p2
  simp only at x0 x1 x2 x3 x4
  go_wp2_with fail
  by_cases hok : okNum n
  · rw [if_pos hok, if_pos hok] at HTI
    obtain ⟨q2, hq2⟩ : ∃ q2 : ByteArray, q2 = ⟨(Lib.itoa n).toArray⟩ := ⟨_, rfl⟩
    rw [← hq2] at HTI
    have hqd2 : q2.data.toList = Lib.itoa n := by rw [hq2]
    have ht2 := toks_int n hok
    have hl2 := itoa_len n hok
    rw [← hqd2, len_data] at ht2 hl2
    have K2 := fun W (h : LaidOk W) => tokens_any q2 W (by unfold maxLen; omega) h.1
    rw [ht2] at K2
    have HK2 := Lib.hid K2
    have hl2' : (q2.size : Int) ≤ 20 := by omega
    clear K2 ht2 hl2 hqd2 hq2 hok
    refine (HTI.out w3 (HL.out w3 B3.out)).mono ?_
    rintro e w4 ⟨rfl, hb4⟩
    have B4 := Lib.hid (B3.out.trans (hb4.mono B3.out.size))
    clear hb4
    go_wp2_with fail
    refine (HK2.out w4 (HL.out w4 B4.out)).mono ?_
    rintro e w5 ⟨⟨v, rfl, o5⟩, hb5⟩
    have B5 := Lib.hid (B4.out.trans (hb5.mono B4.out.size))
    obtain ⟨b1, o1, cp1, rfl, q1, q2', q3, z0, z1, z2, z3, z4⟩ := one_cells o5.at
    clear hb5 o5
    unfold maxLen at q2'
    simp only at z0 z1 z2 z3 z4
    go_wp2_with fail
    refine (HKN.out w5 (HL.out w5 B5.out)).mono ?_
    rintro e w6 ⟨⟨vn, rfl, on⟩, hbn⟩
    have BN := Lib.hid (B5.out.trans (hbn.mono B5.out.size))
    clear hbn
    by_cases hnm : nameB name.data.toList = true
    · obtain rfl := HNM.out hnm
      obtain ⟨b2, o2, cp2, rfl, r1, r2, r3, y0, y1, y2, y3, y4⟩ := one_cells on.at
      clear on
      unfold maxLen at r2
      simp only at y0 y1 y2 y3 y4
      have HN1 := Lib.hid (HN.out w6)
      rw [hnm] at HN1
      clear hnm
      go_wp2_with fail
      refine HN1.out.mono ?_
      rintro e w' ⟨rfl, rfl⟩
      have hcv := conv_one c w6
      go_wp2_with fail
      refine (HK4.out _ (HL.out _ (BN.out.alloc BN.out.size _))).mono ?_
      rintro e wz ⟨⟨vz, rfl, oz⟩, hbz⟩
      have BZ := Lib.hid ((BN.out.alloc BN.out.size _).trans (hbz.mono (Nat.le_trans BN.out.size (by simp))))
      clear hbz hcv
      rcases HW.out with ⟨g1, g2, g3⟩ | ⟨g1, g2, g3⟩ | ⟨g1, g2, g3, g4⟩ | ⟨g1, g2, g3, g4, g5⟩
      · have hb9 := HTB.out
        rw [if_neg g2, if_pos g3] at hb9
        subst hb9
        obtain ⟨b9, o9, cp9, rfl, s1, s2, s3, u0, u1, u2, u3, u4⟩ := one_cells oz.at
        clear oz g2 g3
        unfold maxLen at s2
        simp only at u0 u1 u2 u3 u4
        go_wp2
        go_ret
        exact ⟨rfl, BZ.out⟩
      · have hb9 := HTB.out
        rw [if_pos g3] at hb9
        subst hb9
        obtain ⟨b9, o9, cp9, rfl, s1, s2, s3, u0, u1, u2, u3, u4⟩ := one_cells oz.at
        clear oz g3
        unfold maxLen at s2
        simp only at u0 u1 u2 u3 u4
        have T9 : TxtSt w b9 (o9 + 1) (.string ⟨[c].toArray⟩) wz := ⟨BZ.out, s3, u1⟩
        have hcv := conv_one c wz
        have hcw := conv_two c wz
        clear u0 u2 u3 u4
        go_wp2
        go_region_held (fun W => W.cell? ⟨b9, o9 + 1, none⟩ = some (.string ⟨[c].toArray⟩) ∧ TxtSt w b9 (o9 + 1) (.string ⟨[c].toArray⟩) W)
          (first | (exact TxtSt.cells (by assumption)) | (exact TxtSt.cells (TxtSt.drew (by assumption))) | (exact TxtSt.cells (TxtSt.alloc (by assumption) _)) | (exact TxtSt.cells (TxtSt.drew (TxtSt.alloc (by assumption) _))))
          (fail)
        all_goals
          go_wp2
          go_ret
          exact ⟨rfl, (TxtSt.of (w := w) (b := b9) (o := o9 + 1) (u := .string ⟨[c].toArray⟩) (by assumption)).1⟩
      · have hb9 := HTB.out
        rw [if_pos g4] at hb9
        subst hb9
        obtain ⟨b9, o9, cp9, rfl, s1, s2, s3, u0, u1, u2, u3, u4⟩ := one_cells oz.at
        clear oz g4
        unfold maxLen at s2
        simp only at u0 u1 u2 u3 u4
        have T9 : TxtSt w b9 (o9 + 1) (.string ⟨[c].toArray⟩) wz := ⟨BZ.out, s3, u1⟩
        have hcv := conv_one c wz
        have hcw := conv_two c wz
        clear u0 u2 u3 u4
        go_wp2
        go_region_held (fun W => W.cell? ⟨b9, o9 + 1, none⟩ = some (.string ⟨[c].toArray⟩) ∧ TxtSt w b9 (o9 + 1) (.string ⟨[c].toArray⟩) W)
          (first | (exact TxtSt.cells (by assumption)) | (exact TxtSt.cells (TxtSt.drew (by assumption))) | (exact TxtSt.cells (TxtSt.alloc (by assumption) _)) | (exact TxtSt.cells (TxtSt.drew (TxtSt.alloc (by assumption) _))))
          (fail)
        all_goals
          go_wp2
          go_ret
          exact ⟨rfl, (TxtSt.of (w := w) (b := b9) (o := o9 + 1) (u := .string ⟨[c].toArray⟩) (by assumption)).1⟩
      · have hb9 := HTB.out
        rw [if_neg g4, if_neg g5] at hb9
        subst hb9
        obtain ⟨a9, c9, rfl⟩ := TokOwn.shape oz
        clear oz g4 g5
        go_wp2
        go_ret
        exact ⟨rfl, BZ.out⟩
    · have hnm' : nameB name.data.toList = false := by simpa using hnm
      obtain ⟨an, cn, rfl⟩ := TokOwn.shape on
      clear on
      have HN1 := Lib.hid (HN.out w6)
      rw [hnm'] at HN1
      clear hnm hnm'
      obtain ⟨tsn, pln, ern⟩ := QN
      simp only
      go_wp2_with fail
      refine HN1.out.mono ?_
      rintro e w' ⟨rfl, rfl⟩
      have hcv := conv_one c w6
      go_wp2_with fail
      refine (HK4.out _ (HL.out _ (BN.out.alloc BN.out.size _))).mono ?_
      rintro e wz ⟨⟨vz, rfl, oz⟩, hbz⟩
      have BZ := Lib.hid ((BN.out.alloc BN.out.size _).trans (hbz.mono (Nat.le_trans BN.out.size (by simp))))
      clear hbz hcv
      rcases HW.out with ⟨g1, g2, g3⟩ | ⟨g1, g2, g3⟩ | ⟨g1, g2, g3, g4⟩ | ⟨g1, g2, g3, g4, g5⟩
      · have hb9 := HTB.out
        rw [if_neg g2, if_pos g3] at hb9
        subst hb9
        obtain ⟨b9, o9, cp9, rfl, s1, s2, s3, u0, u1, u2, u3, u4⟩ := one_cells oz.at
        clear oz g2 g3
        unfold maxLen at s2
        simp only at u0 u1 u2 u3 u4
        go_wp2
        go_ret
        exact ⟨rfl, BZ.out⟩
      · have hb9 := HTB.out
        rw [if_pos g3] at hb9
        subst hb9
        obtain ⟨b9, o9, cp9, rfl, s1, s2, s3, u0, u1, u2, u3, u4⟩ := one_cells oz.at
        clear oz g3
        unfold maxLen at s2
        simp only at u0 u1 u2 u3 u4
        have T9 : TxtSt w b9 (o9 + 1) (.string ⟨[c].toArray⟩) wz := ⟨BZ.out, s3, u1⟩
        have hcv := conv_one c wz
        have hcw := conv_two c wz
        clear u0 u2 u3 u4
        go_wp2
        go_region_held (fun W => W.cell? ⟨b9, o9 + 1, none⟩ = some (.string ⟨[c].toArray⟩) ∧ TxtSt w b9 (o9 + 1) (.string ⟨[c].toArray⟩) W)
          (first | (exact TxtSt.cells (by assumption)) | (exact TxtSt.cells (TxtSt.drew (by assumption))) | (exact TxtSt.cells (TxtSt.alloc (by assumption) _)) | (exact TxtSt.cells (TxtSt.drew (TxtSt.alloc (by assumption) _))))
          (fail)
        all_goals
          go_wp2
          go_ret
          exact ⟨rfl, (TxtSt.of (w := w) (b := b9) (o := o9 + 1) (u := .string ⟨[c].toArray⟩) (by assumption)).1⟩
      · have hb9 := HTB.out
        rw [if_pos g4] at hb9
        subst hb9
        obtain ⟨b9, o9, cp9, rfl, s1, s2, s3, u0, u1, u2, u3, u4⟩ := one_cells oz.at
        clear oz g4
        unfold maxLen at s2
        simp only at u0 u1 u2 u3 u4
        have T9 : TxtSt w b9 (o9 + 1) (.string ⟨[c].toArray⟩) wz := ⟨BZ.out, s3, u1⟩
        have hcv := conv_one c wz
        have hcw := conv_two c wz
        clear u0 u2 u3 u4
        go_wp2
        go_region_held (fun W => W.cell? ⟨b9, o9 + 1, none⟩ = some (.string ⟨[c].toArray⟩) ∧ TxtSt w b9 (o9 + 1) (.string ⟨[c].toArray⟩) W)
          (first | (exact TxtSt.cells (by assumption)) | (exact TxtSt.cells (TxtSt.drew (by assumption))) | (exact TxtSt.cells (TxtSt.alloc (by assumption) _)) | (exact TxtSt.cells (TxtSt.drew (TxtSt.alloc (by assumption) _))))
          (fail)
        all_goals
          go_wp2
          go_ret
          exact ⟨rfl, (TxtSt.of (w := w) (b := b9) (o := o9 + 1) (u := .string ⟨[c].toArray⟩) (by assumption)).1⟩
      · have hb9 := HTB.out
        rw [if_neg g4, if_neg g5] at hb9
        subst hb9
        obtain ⟨a9, c9, rfl⟩ := TokOwn.shape oz
        clear oz g4 g5
        go_wp2
        go_ret
        exact ⟨rfl, BZ.out⟩
  · rw [if_neg hok, if_neg hok] at HTI
    have K2 := fun W (h : LaidOk W) => tokens_any ⟨#[]⟩ W (by decide) h.1
    rw [show toksT (⟨#[]⟩ : ByteArray).data.toList = ([], 0, 0) by simp [toksT, gapS, runT]] at K2
    have HK2 := Lib.hid K2
    clear K2 hok
    refine (HTI.out w3 (HL.out w3 B3.out)).mono ?_
    rintro e w4 ⟨rfl, hb4⟩
    have B4 := Lib.hid (B3.out.trans (hb4.mono B3.out.size))
    clear hb4
    go_wp2_with fail
    refine (HK2.out w4 (HL.out w4 B4.out)).mono ?_
    rintro e w5 ⟨⟨v, rfl, o5⟩, hb5⟩
    have B5 := Lib.hid (B4.out.trans (hb5.mono B4.out.size))
    obtain ⟨a5, c5, rfl⟩ := TokOwn.shape o5
    clear hb5 o5
    go_wp2_with fail
    refine (HKN.out w5 (HL.out w5 B5.out)).mono ?_
    rintro e w6 ⟨⟨vn, rfl, on⟩, hbn⟩
    have BN := Lib.hid (B5.out.trans (hbn.mono B5.out.size))
    clear hbn
    by_cases hnm : nameB name.data.toList = true
    · obtain rfl := HNM.out hnm
      obtain ⟨b2, o2, cp2, rfl, r1, r2, r3, y0, y1, y2, y3, y4⟩ := one_cells on.at
      clear on
      unfold maxLen at r2
      simp only at y0 y1 y2 y3 y4
      have HN1 := Lib.hid (HN.out w6)
      rw [hnm] at HN1
      clear hnm
      go_wp2_with fail
      refine HN1.out.mono ?_
      rintro e w' ⟨rfl, rfl⟩
      have hcv := conv_one c w6
      go_wp2_with fail
      refine (HK4.out _ (HL.out _ (BN.out.alloc BN.out.size _))).mono ?_
      rintro e wz ⟨⟨vz, rfl, oz⟩, hbz⟩
      have BZ := Lib.hid ((BN.out.alloc BN.out.size _).trans (hbz.mono (Nat.le_trans BN.out.size (by simp))))
      clear hbz hcv
      rcases HW.out with ⟨g1, g2, g3⟩ | ⟨g1, g2, g3⟩ | ⟨g1, g2, g3, g4⟩ | ⟨g1, g2, g3, g4, g5⟩
      · have hb9 := HTB.out
        rw [if_neg g2, if_pos g3] at hb9
        subst hb9
        obtain ⟨b9, o9, cp9, rfl, s1, s2, s3, u0, u1, u2, u3, u4⟩ := one_cells oz.at
        clear oz g2 g3
        unfold maxLen at s2
        simp only at u0 u1 u2 u3 u4
        go_wp2
        go_ret
        exact ⟨rfl, BZ.out⟩
      · have hb9 := HTB.out
        rw [if_pos g3] at hb9
        subst hb9
        obtain ⟨b9, o9, cp9, rfl, s1, s2, s3, u0, u1, u2, u3, u4⟩ := one_cells oz.at
        clear oz g3
        unfold maxLen at s2
        simp only at u0 u1 u2 u3 u4
        have T9 : TxtSt w b9 (o9 + 1) (.string ⟨[c].toArray⟩) wz := ⟨BZ.out, s3, u1⟩
        have hcv := conv_one c wz
        have hcw := conv_two c wz
        clear u0 u2 u3 u4
        go_wp2
        go_region_held (fun W => W.cell? ⟨b9, o9 + 1, none⟩ = some (.string ⟨[c].toArray⟩) ∧ TxtSt w b9 (o9 + 1) (.string ⟨[c].toArray⟩) W)
          (first | (exact TxtSt.cells (by assumption)) | (exact TxtSt.cells (TxtSt.drew (by assumption))) | (exact TxtSt.cells (TxtSt.alloc (by assumption) _)) | (exact TxtSt.cells (TxtSt.drew (TxtSt.alloc (by assumption) _))))
          (fail)
        all_goals
          go_wp2
          go_ret
          exact ⟨rfl, (TxtSt.of (w := w) (b := b9) (o := o9 + 1) (u := .string ⟨[c].toArray⟩) (by assumption)).1⟩
      · have hb9 := HTB.out
        rw [if_pos g4] at hb9
        subst hb9
        obtain ⟨b9, o9, cp9, rfl, s1, s2, s3, u0, u1, u2, u3, u4⟩ := one_cells oz.at
        clear oz g4
        unfold maxLen at s2
        simp only at u0 u1 u2 u3 u4
        have T9 : TxtSt w b9 (o9 + 1) (.string ⟨[c].toArray⟩) wz := ⟨BZ.out, s3, u1⟩
        have hcv := conv_one c wz
        have hcw := conv_two c wz
        clear u0 u2 u3 u4
        go_wp2
        go_region_held (fun W => W.cell? ⟨b9, o9 + 1, none⟩ = some (.string ⟨[c].toArray⟩) ∧ TxtSt w b9 (o9 + 1) (.string ⟨[c].toArray⟩) W)
          (first | (exact TxtSt.cells (by assumption)) | (exact TxtSt.cells (TxtSt.drew (by assumption))) | (exact TxtSt.cells (TxtSt.alloc (by assumption) _)) | (exact TxtSt.cells (TxtSt.drew (TxtSt.alloc (by assumption) _))))
          (fail)
        all_goals
          go_wp2
          go_ret
          exact ⟨rfl, (TxtSt.of (w := w) (b := b9) (o := o9 + 1) (u := .string ⟨[c].toArray⟩) (by assumption)).1⟩
      · have hb9 := HTB.out
        rw [if_neg g4, if_neg g5] at hb9
        subst hb9
        obtain ⟨a9, c9, rfl⟩ := TokOwn.shape oz
        clear oz g4 g5
        go_wp2
        go_ret
        exact ⟨rfl, BZ.out⟩
    · have hnm' : nameB name.data.toList = false := by simpa using hnm
      obtain ⟨an, cn, rfl⟩ := TokOwn.shape on
      clear on
      have HN1 := Lib.hid (HN.out w6)
      rw [hnm'] at HN1
      clear hnm hnm'
      obtain ⟨tsn, pln, ern⟩ := QN
      simp only
      go_wp2_with fail
      refine HN1.out.mono ?_
      rintro e w' ⟨rfl, rfl⟩
      have hcv := conv_one c w6
      go_wp2_with fail
      refine (HK4.out _ (HL.out _ (BN.out.alloc BN.out.size _))).mono ?_
      rintro e wz ⟨⟨vz, rfl, oz⟩, hbz⟩
      have BZ := Lib.hid ((BN.out.alloc BN.out.size _).trans (hbz.mono (Nat.le_trans BN.out.size (by simp))))
      clear hbz hcv
      rcases HW.out with ⟨g1, g2, g3⟩ | ⟨g1, g2, g3⟩ | ⟨g1, g2, g3, g4⟩ | ⟨g1, g2, g3, g4, g5⟩
      · have hb9 := HTB.out
        rw [if_neg g2, if_pos g3] at hb9
        subst hb9
        obtain ⟨b9, o9, cp9, rfl, s1, s2, s3, u0, u1, u2, u3, u4⟩ := one_cells oz.at
        clear oz g2 g3
        unfold maxLen at s2
        simp only at u0 u1 u2 u3 u4
        go_wp2
        go_ret
        exact ⟨rfl, BZ.out⟩
      · have hb9 := HTB.out
        rw [if_pos g3] at hb9
        subst hb9
        obtain ⟨b9, o9, cp9, rfl, s1, s2, s3, u0, u1, u2, u3, u4⟩ := one_cells oz.at
        clear oz g3
        unfold maxLen at s2
        simp only at u0 u1 u2 u3 u4
        have T9 : TxtSt w b9 (o9 + 1) (.string ⟨[c].toArray⟩) wz := ⟨BZ.out, s3, u1⟩
        have hcv := conv_one c wz
        have hcw := conv_two c wz
        clear u0 u2 u3 u4
        go_wp2
        go_region_held (fun W => W.cell? ⟨b9, o9 + 1, none⟩ = some (.string ⟨[c].toArray⟩) ∧ TxtSt w b9 (o9 + 1) (.string ⟨[c].toArray⟩) W)
          (first | (exact TxtSt.cells (by assumption)) | (exact TxtSt.cells (TxtSt.drew (by assumption))) | (exact TxtSt.cells (TxtSt.alloc (by assumption) _)) | (exact TxtSt.cells (TxtSt.drew (TxtSt.alloc (by assumption) _))))
          (fail)
        all_goals
          go_wp2
          go_ret
          exact ⟨rfl, (TxtSt.of (w := w) (b := b9) (o := o9 + 1) (u := .string ⟨[c].toArray⟩) (by assumption)).1⟩
      · have hb9 := HTB.out
        rw [if_pos g4] at hb9
        subst hb9
        obtain ⟨b9, o9, cp9, rfl, s1, s2, s3, u0, u1, u2, u3, u4⟩ := one_cells oz.at
        clear oz g4
        unfold maxLen at s2
        simp only at u0 u1 u2 u3 u4
        have T9 : TxtSt w b9 (o9 + 1) (.string ⟨[c].toArray⟩) wz := ⟨BZ.out, s3, u1⟩
        have hcv := conv_one c wz
        have hcw := conv_two c wz
        clear u0 u2 u3 u4
        go_wp2
        go_region_held (fun W => W.cell? ⟨b9, o9 + 1, none⟩ = some (.string ⟨[c].toArray⟩) ∧ TxtSt w b9 (o9 + 1) (.string ⟨[c].toArray⟩) W)
          (first | (exact TxtSt.cells (by assumption)) | (exact TxtSt.cells (TxtSt.drew (by assumption))) | (exact TxtSt.cells (TxtSt.alloc (by assumption) _)) | (exact TxtSt.cells (TxtSt.drew (TxtSt.alloc (by assumption) _))))
          (fail)
        all_goals
          go_wp2
          go_ret
          exact ⟨rfl, (TxtSt.of (w := w) (b := b9) (o := o9 + 1) (u := .string ⟨[c].toArray⟩) (by assumption)).1⟩
      · have hb9 := HTB.out
        rw [if_neg g4, if_neg g5] at hb9
        subst hb9
        obtain ⟨a9, c9, rfl⟩ := TokOwn.shape oz
        clear oz g4 g5
        go_wp2
        go_ret
        exact ⟨rfl, BZ.out⟩
end Go.Proofs.YtiamojpeedllbaaGreatDoor
