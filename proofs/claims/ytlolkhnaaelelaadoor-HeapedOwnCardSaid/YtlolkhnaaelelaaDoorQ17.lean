/-
Package heap's teller: a value that is a pair; Tell of what is told so. No condition but that the heap lies in memory.
-/
import Derived.Test.YtlolkhnaaelelaaDoorQ16
namespace Go.Proofs.YtlolkhnaaelelaaDoor.Hp
open Go.ChangeShapes Go.WideShapes Go.ChangeAt Go.RowKit Go.Deep
open Dat (PT ok64 RepV RepS RowX infoDatum NewV NewS makeT make_any MakeOk numT numsT)
set_option maxRecDepth 100000

set_option maxHeartbeats 2000000 in
theorem value_pair (i : Int) (s : ByteArray) (ak ai : Int) (as_ : ByteArray) (bk bi : Int) (bs : ByteArray) (m : Nat) (hm : m ≤ 32) (d1 d2 : PT) (c1 c2 : Nat) (hb tb : Nat) (sv : Value) (T : List (Int × List PV)) (F : Nat → Prop) (hF : ¬ F tb) (hhb : F hb)
    (hi : 0 ≤ i) (hT : T[i.toNat]? = some (0, [⟨ak, ai, as_⟩, ⟨bk, bi, bs⟩]))
    (KA : ValC hb tb sv T F ⟨ak, ai, as_⟩ ((m : Int) + 1) d1 c1) (KB : ValC hb tb sv T F ⟨bk, bi, bs⟩ (m : Int) d2 c2) (hnum : numsT [d1] + numT d2 ≤ 200000) :
    ValC hb tb sv T F ⟨8, i, s⟩ (m : Int) (makeT [d1] d2) (1 + (c1 + c2)) := by
  intro n w hn ht hH hc
  obtain ⟨t1, z0, z1, kp, hs1⟩ := tel_start ht (.cells #[.int .i64 8, .int .i64 i, .string s] 36) (.cells #[.int .i64 0, .int .i64 0, .string ⟨#[]⟩, .slice none 0 0] 50) ((n : Int) + 1) (by omega)
  have hlt := lt_of_block ht
  obtain ⟨⟨a0, a1⟩, b0, b1⟩ := look2 (((two_new w (.cells #[.int .i64 8, .int .i64 i, .string s] 36) (.cells #[.int .i64 0, .int .i64 0, .string ⟨#[]⟩, .slice none 0 0] 50)).2.2.block tb hlt).trans ht)
  have hj : i.toNat < T.length := (List.getElem?_eq_some_iff.1 hT).1
  have hTj : T[i.toNat] = (0, [⟨ak, ai, as_⟩, ⟨bk, bi, bs⟩]) := (List.getElem?_eq_some_iff.1 hT).2
  have hH1 := hH.kept kp hF
  obtain ⟨tk, cap, g, pv, x0, x1, x2, x3, xl, x4, xm, _, x6, x7, x8⟩ := hH1.thing0 i.toNat hj (by rw [hTj]) (by rw [hTj]; simp)
  rw [hTj] at x3 xl x6 x8
  have hhb' : hb ≠ tb := fun e => hF (e ▸ hhb)
  have hc1 := (World.cell?_of_block (w := w) (a := ⟨hb, 0, none⟩) (kp.2 hb hH.lt (show hb ≠ tb from hhb'))).trans hc
  have hsv : sv = .slice (some ⟨tk, 0, none⟩) T.length cap := Option.some.inj (hc1.symm.trans x0)
  have HPP := Lib.hid x6.inP
  have HFG := Lib.hid (x8 (by simp))
  obtain ⟨pa, pc, rfl, p1, p2⟩ := x6.slice
  subst hsv
  have hL : i < (T.length : Int) := by omega
  have T1 := Lib.hid t1
  have Z1 := Lib.hid z1
  have KP := Lib.hid kp
  have HS1 := Lib.hid hs1
  have HH1 := Lib.hid hH1
  have HC1 := Lib.hid hc1
  have HF := Lib.hid hF
  have HHB := Lib.hid hhb
  have HKA := Lib.hid KA
  have HKB := Lib.hid KB
  have HNUM := Lib.hid hnum
  obtain ⟨⟨w0, w1, w2⟩, -⟩ := look3 z0
  obtain ⟨⟨tt0, tt1⟩, -⟩ := look2 t1
  have n1 : ((n : Int) == 200) = false := by simp; omega
  have n2 : ¬ (32 : Int) < (m : Int) := by omega
  have hn2 : n < 200 := by omega
  have HN := Lib.hid hn
  unfold maxLen at x2
  clear ht t1 z0 z1 kp hs1 hH hc hH1 hc1 hF hhb KA KB hnum x0 x6 x7 x8 hT hTj hhb' hn
  go_enter Tryd.func42, Tryd.ntmps42
  go_wp2_with fail
  generalize ((w.setCell ⟨tb, 1, none⟩ (.int .i64 ((n : Int) + 1))).alloc (.cells #[.int .i64 8, .int .i64 i, .string s] 36)).alloc (.cells #[.int .i64 0, .int .i64 0, .string ⟨#[]⟩, .slice none 0 0] 50) = W1 at *
  have l1 : w.heap.size + 1 < W1.heap.size := by rw [HS1.out]; omega
  have l2 : tk < W1.heap.size := World.block_lt_of_cell? _ _ x3
  have l3 : tb < W1.heap.size := by rw [HS1.out]; omega
  have l4 : w.heap.size < W1.heap.size := by omega
  go_region
  have B2 := (Below.refl W1.heap.size W1).drew
  have hs2 : W1.drew.heap.size = W1.heap.size := rfl
  have HKP := Lib.hid (pair_any ak ai as_ bk bi bs m hm d1 d2 c1 c2 hb tb _ T F HF.out HHB.out HKA.out HKB.out HNUM.out (n + 1) W1.drew (by have := HN.out; omega) ((B2.block tb l3).trans T1.out) (HH1.out.below B2) ((B2.cell (p := ⟨hb, 0, none⟩) HH1.out.lt).trans HC1.out) (· = g) (fun b e e2 => HF.out (e2 ▸ e ▸ HFG.out)) _ (HPP.out.belowP B2))
  have HB2 := Lib.hid B2
  have HS2 := Lib.hid hs2
  have Z2 := Lib.hid ((B2.block (w.heap.size + 1) l1).trans Z1.out)
  clear B2 hs2 HKA HKB
  generalize hr : makeT [d1] d2 = r at HKP
  have HRR := Lib.hid hr
  clear hr
  go_wp2_with fail
  generalize W1.drew = W2 at *
  refine HKP.out.mono ?_
  rintro e w3 ⟨⟨x', he, hnew⟩, t3, k3⟩
  obtain ⟨rk, ri, rs, rl⟩ := r
  have hnew' := hnew
  obtain ⟨za, zc, hze, _⟩ := hnew.2.2.2
  subst hze
  change e = .returned (.tuple #[.agg #[.int .i64 rk, .int .i64 ri, .string rs, .slice za rl.length zc], .bool true]) at he
  subst he
  have E6 := (k3.2 (w.heap.size + 1) (by rw [HS2.out]; omega) (show w.heap.size + 1 ≠ tb by omega)).trans Z2.out
  obtain ⟨⟨y0, y1, y2, y3⟩, f0, f1, f2, f3⟩ := look4 E6
  have HE := Lib.hid (put4 E6 (.int .i64 rk) (.int .i64 ri) (.string rs) (.slice za rl.length zc))
  have HT6 := Lib.hid ((put4_other (W := w3) (.int .i64 rk) (.int .i64 ri) (.string rs) (.slice za rl.length zc) (show tb ≠ w.heap.size + 1 by omega)).trans t3)
  have HK6 : Hid (KpF (TS tb) w ((((w3.setCell ⟨w.heap.size + 1, 0, none⟩ (.int .i64 rk)).setCell ⟨w.heap.size + 1, 1, none⟩ (.int .i64 ri)).setCell ⟨w.heap.size + 1, 2, none⟩ (.string rs)).setCell ⟨w.heap.size + 1, 3, none⟩ (.slice za rl.length zc))) := Lib.hid ⟨((KP.out.trans (KpF.of_below HB2.out)).trans k3).1.trans (put4_below (Below.refl 0 w3) (Nat.zero_le _) _ _ _ _), fun b hb hne => (put4_other _ _ _ _ (by omega)).trans (((KP.out.trans (KpF.of_below HB2.out)).trans k3).2 b hb hne)⟩
  have HN6 : Hid (NewV ((((w3.setCell ⟨w.heap.size + 1, 0, none⟩ (.int .i64 rk)).setCell ⟨w.heap.size + 1, 1, none⟩ (.int .i64 ri)).setCell ⟨w.heap.size + 1, 2, none⟩ (.string rs)).setCell ⟨w.heap.size + 1, 3, none⟩ (.slice za rl.length zc)) w.heap.size (.mk rk ri rs rl) (.slice za rl.length zc)) := Lib.hid (hnew'.move (by rw [HS2.out]; omega) fun b o v hb hv => (World.cell?_of_block (w := w3) (a := ⟨b, o, none⟩) (put4_other _ _ _ _ (show b ≠ w.heap.size + 1 by rw [HS2.out] at hb; omega))).trans hv)
  clear E6 hnew hnew' t3 k3
  go_wp2
  have hE := HE.out
  have hT := HT6.out
  have hK := HK6.out
  have hN := HN6.out
  clear HE HT6 HK6 HN6
  generalize (((w3.setCell ⟨w.heap.size + 1, 0, none⟩ (.int .i64 rk)).setCell ⟨w.heap.size + 1, 1, none⟩ (.int .i64 ri)).setCell ⟨w.heap.size + 1, 2, none⟩ (.string rs)).setCell ⟨w.heap.size + 1, 3, none⟩ (.slice za rl.length zc) = W at hE hT hK hN ⊢
  exact bodyPost_ret (res_db (t := 7) (p := 6) rfl _ _ (w.heap.size + 1) _ _ _ _ rfl hE) rfl (by rw [HRR.out]; exact ⟨⟨_, rfl, hN⟩, by rw [show n + (1 + (c1 + c2)) = n + 1 + (c1 + c2) by omega]; exact hT, hK⟩)
/-- What a value tells that is no thing, or a pair of such, and how many values are looked at. -/
inductive TellR (T : List (Int × List PV)) : Nat → PV → PT → Nat → Prop where
  | leaf (m : Nat) (v : PV) (hm : m ≤ 32) (h0 : 0 ≤ v.k) (h7 : v.k ≤ 7) (ho : okV v) : TellR T m v (shownT v) 1
  | pair (m : Nat) (i : Int) (s : ByteArray) (a b : PV) (d1 d2 : PT) (c1 c2 : Nat) (hm : m ≤ 32) (hi : 0 ≤ i) (hT : T[i.toNat]? = some (0, [a, b])) (ha : TellR T (m + 1) a d1 c1) (hb : TellR T m b d2 c2) : TellR T m ⟨8, i, s⟩ (makeT [d1] d2) (1 + (c1 + c2))
theorem shown_num (v : PV) : numT (shownT v) = 1 := by
  unfold shownT symT
  split
  · rfl
  · split
    · rfl
    · split
      · rfl
      · split
        · rfl
        · split <;> rfl
theorem tell_num {T : List (Int × List PV)} : ∀ {m : Nat} {v : PV} {d : PT} {c : Nat}, TellR T m v d c → numT d ≤ c
  | _, _, _, _, .leaf _ v _ _ _ _ => by rw [shown_num]; exact Nat.le_refl _
  | _, _, _, _, .pair _ _ _ _ _ d1 d2 _ _ _ _ _ ha hb => by
    have h1 := tell_num ha
    have h2 := tell_num hb
    obtain ⟨k, i, s, l⟩ := d2
    rw [numT] at h2
    unfold makeT
    dsimp only
    rw [if_neg (by simp)]
    split
    · rw [numT, Dat.numsT_append]
      simp only [numsT]
      omega
    · rw [numT, Dat.numsT_append]
      simp only [numsT, numT]
      omega
theorem value_any {hb tb : Nat} {sv : Value} {T : List (Int × List PV)} {F : Nat → Prop} (hF : ¬ F tb) (hhb : F hb) : ∀ {m : Nat} {v : PV} {d : PT} {c : Nat}, TellR T m v d c → c ≤ 200 → ValC hb tb sv T F v (m : Int) d c
  | _, _, _, _, .leaf m ⟨k, i, s⟩ hm h0 h7 ho, _ => fun n w hn ht _ _ => value_leaf k i s h0 h7 ho m n hm (by omega) tb sv w ht
  | _, _, _, _, .pair m i s ⟨ak, ai, as_⟩ ⟨bk, bi, bs⟩ d1 d2 c1 c2 hm hi hT ha hb', hc => by
    have h1 := value_any hF hhb (hb := hb) (tb := tb) (sv := sv) ha (by omega)
    have h2 := value_any hF hhb (hb := hb) (tb := tb) (sv := sv) hb' (by omega)
    have n1 := tell_num ha
    have n2 := tell_num hb'
    exact value_pair i s ak ai as_ bk bi bs m hm d1 d2 c1 c2 hb tb sv T F hF hhb hi hT h1 h2 (by simp only [numsT]; omega)
end Go.Proofs.YtlolkhnaaelelaaDoor.Hp
