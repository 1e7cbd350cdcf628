/-
Texts K62, K64, K65, K67, one behind the other (a claim bears sixty files). Conditions: as each says.
-/
import Derived.Test.YtjofdlnopchaeaaGreatDoorWKK
import Derived.Test.YtjofdlnopchaeaaGreatDoorWRG
import Derived.Deep.RegionWith
import Derived.Test.YtjofdlnopchaeaaGreatDoorWKJ

/-
How many data there are: the document's Huge. No condition.
-/
namespace Go.Proofs.YtjofdlnopchaeaaGreatDoor.Core
open Go.ChangeShapes Go.WideShapes Go.ChangeAt Go.RowKit Go.Deep
open Dat (PT ok64 RepV RepS RowX infoDatum numT numsT)
set_option maxRecDepth 100000

def LeftOk (t : PT) : Prop := ∀ (w : World) (S : Nat → Prop) (v : Value) (n : Nat), InV w S t v → n ≤ 1000000 →
  Calls Tryz.prog 39 #[t.val v, .int .i64 (n : Nat)] w fun e w' => e = .returned (.int .i64 ((n - numT t : Nat) : Int)) ∧ Below w.heap.size w w'
set_option maxHeartbeats 2000000 in
theorem left_step (k i : Int) (s : ByteArray) (l : List PT) (ih : ∀ t ∈ l, LeftOk t) : LeftOk (.mk k i s l) := by
  intro w S v n hv hn
  have IH := Lib.hid ih
  have HV := Lib.hid hv.2.2.2
  obtain ⟨_, _, _, a, c, rfl, hl, hm, _⟩ := hv
  unfold maxLen at hm
  show Calls Tryz.prog 39 #[.agg #[.int .i64 k, .int .i64 i, .string s, .slice a l.length c], .int .i64 (n : Nat)] w _
  have Z0 := Lib.hid (heap_alloc_new w (.cells #[.int .i64 k, .int .i64 i, .string s, .slice a l.length c] 25))
  have B0 := Lib.hid ((Below.refl w.heap.size w).alloc (Nat.le_refl _) (.cells #[.int .i64 k, .int .i64 i, .string s, .slice a l.length c] 25))
  have hwl : w.heap.size < (w.alloc (.cells #[.int .i64 k, .int .i64 i, .string s, .slice a l.length c] 25)).heap.size := by rw [size_new]; omega
  have HNT : Hid (numT (.mk k i s l) = 1 + numsT l) := Lib.hid rfl
  clear ih
  go_enter Tryz.func39, Tryz.ntmps39
  go_upto_region 1 with fail
  generalize w.alloc (.cells #[.int .i64 k, .int .i64 i, .string s, .slice a l.length c] 25) = w0 at *
  have key : ∃ m0 : Nat, m0 = n - 1 := ⟨_, rfl⟩
  obtain ⟨m0, hm0⟩ := key
  have HM0 := Lib.hid hm0
  have hm06 : m0 ≤ 1000000 := by omega
  have hcs : (0 < n ∧ (n : Int) - 1 = m0) ∨ (n = 0 ∧ m0 = 0) := by omega
  clear hm0
  rcases hcs with ⟨h0, h1⟩ | ⟨rfl, rfl⟩
  · have hni : (0 : Int) < n := by omega
    have H1 := Lib.hid h1
    clear h1
    go_upto_region 3 with fail
    rw [H1.out]
    clear hni h0 H1 hn
    go_wp2
    go_loopw [1, 5] (fun nv ix wr => ∃ j m : Nat, j ≤ l.length ∧ ix = .int .i64 j ∧ nv = .int .i64 m ∧ m = m0 - numsT (l.take j) ∧ Below w0.heap.size w0 wr) (fun _ ix _ => l.length - (intOf ix).toNat)
    case atStart => exact ⟨0, m0, Nat.zero_le _, rfl, rfl, by rw [List.take_zero]; simp [numsT], Below.refl _ _⟩
    case round =>
      obtain ⟨j, m, hj, rfl, rfl, hmm, hbr⟩ := hrel
      have HMM := Lib.hid hmm
      have HBR := Lib.hid hbr
      have hm6 : m ≤ 1000000 := by omega
      have ZR := Lib.hid ((hbr.block w.heap.size hwl).trans Z0.out)
      have x0 : wr.cell? ⟨w.heap.size, 3, none⟩ = some (.slice a l.length c) := by rw [Lib.cell_of_heap ZR.out]; rfl
      have HVR := Lib.hid ((insBelow HV.out B0.out) : InS w0 S l (.slice a l.length c))
      by_cases hlt : j < l.length
      · have HTK := Lib.hid (Dat.numsT_take l j hlt)
        have HLE := Lib.hid (Dat.numsT_le l j)
        by_cases h0 : 0 < m
        · have hmi : (0 : Int) < m := by omega
          obtain ⟨a0, c0, e0, _, _, _, hr0⟩ := id HVR.out
          obtain ⟨bk, ok, rfl, hsk, _⟩ := hr0.resolve_left (by rintro rfl; cases hlt)
          cases e0
          have hi := insItem (insBelow HVR.out hbr) j hlt
          have hIHj := IH.out l[j] (List.getElem_mem hlt)
          clear hr0 hmm hbr
          generalize l[j] = t at *
          obtain ⟨dk, di, ds, dl⟩ := t
          rw [inD_mk] at hi
          obtain ⟨d1, d2, d3, c0', c1', c2', vl, c3', hvl⟩ := hi
          have KL := Lib.hid (hIHj wr S vl m ⟨d1, d2, d3, hvl⟩ hm6)
          obtain ⟨da, dc, rfl, _⟩ := hvl
          have KL' : Hid (Calls Tryz.prog 39 #[.agg #[.int .i64 dk, .int .i64 di, .string ds, .slice da dl.length dc], .int .i64 (m : Nat)] wr fun e w' => e = .returned (.int .i64 ((m - numT (.mk dk di ds dl) : Nat) : Int)) ∧ Below wr.heap.size wr w') := KL
          have hbkl : bk < wr.heap.size := World.block_lt_of_cell? _ _ c0'
          have HM2 : Hid (m - numT (.mk dk di ds dl) = m0 - numsT (l.take (j + 1))) := Lib.hid (by have := HTK.out; have := HMM.out; omega)
          clear hIHj KL
          generalize m - numT (.mk dk di ds dl) = m2 at *
          go_wp2_with fail
          refine KL'.out.mono ?_
          rintro e w8 ⟨rfl, hb8⟩
          have HB8 := Lib.hid (HBR.out.trans (hb8.mono HBR.out.size))
          clear hb8 x0 c0' c1' c2' c3'
          go_wp2
          go_roundw
          case rel => exact ⟨j + 1, m2, by omega, by go_num, rfl, HM2.out, HB8.out⟩
          case measure => simp [intOf]; omega
        · obtain rfl : m = 0 := by omega
          have HR : Hid (((n - numT (.mk k i s l) : Nat) : Int) = 0) := Lib.hid (by have h1 := HMM.out; have h2 := HLE.out; have h3 := HNT.out; have h4 := HM0.out; omega)
          have HB9 := Lib.hid (B0.out.trans (hbr.mono B0.out.size))
          clear hmm hbr
          go_wp2
          go_ret
          exact ⟨by rw [HR.out]; rfl, HB9.out⟩
      · obtain rfl : j = l.length := by omega
        rw [List.take_length] at hmm
        have HR : Hid (((n - numT (.mk k i s l) : Nat) : Int) = (m : Int)) := Lib.hid (by have h3 := HNT.out; have h4 := HM0.out; omega)
        have HB9 := Lib.hid (B0.out.trans (hbr.mono B0.out.size))
        clear hmm hbr
        go_wp2
        go_ret
        exact ⟨by rw [HR.out]; rfl, HB9.out⟩
  · go_upto_region 3 with fail
    go_wp2
    go_loopw [1, 5] (fun nv ix wr => ∃ j m : Nat, j ≤ l.length ∧ ix = .int .i64 j ∧ nv = .int .i64 m ∧ m = 0 - numsT (l.take j) ∧ Below w0.heap.size w0 wr) (fun _ ix _ => l.length - (intOf ix).toNat)
    case atStart => exact ⟨0, 0, Nat.zero_le _, rfl, rfl, by rw [List.take_zero]; simp [numsT], Below.refl _ _⟩
    case round =>
      obtain ⟨j, m, hj, rfl, rfl, hmm, hbr⟩ := hrel
      have HMM := Lib.hid hmm
      have HBR := Lib.hid hbr
      have hm6 : m ≤ 1000000 := by omega
      have ZR := Lib.hid ((hbr.block w.heap.size hwl).trans Z0.out)
      have x0 : wr.cell? ⟨w.heap.size, 3, none⟩ = some (.slice a l.length c) := by rw [Lib.cell_of_heap ZR.out]; rfl
      have HVR := Lib.hid ((insBelow HV.out B0.out) : InS w0 S l (.slice a l.length c))
      by_cases hlt : j < l.length
      · have HTK := Lib.hid (Dat.numsT_take l j hlt)
        have HLE := Lib.hid (Dat.numsT_le l j)
        by_cases h0 : 0 < m
        · have hmi : (0 : Int) < m := by omega
          obtain ⟨a0, c0, e0, _, _, _, hr0⟩ := id HVR.out
          obtain ⟨bk, ok, rfl, hsk, _⟩ := hr0.resolve_left (by rintro rfl; cases hlt)
          cases e0
          have hi := insItem (insBelow HVR.out hbr) j hlt
          have hIHj := IH.out l[j] (List.getElem_mem hlt)
          clear hr0 hmm hbr
          generalize l[j] = t at *
          obtain ⟨dk, di, ds, dl⟩ := t
          rw [inD_mk] at hi
          obtain ⟨d1, d2, d3, c0', c1', c2', vl, c3', hvl⟩ := hi
          have KL := Lib.hid (hIHj wr S vl m ⟨d1, d2, d3, hvl⟩ hm6)
          obtain ⟨da, dc, rfl, _⟩ := hvl
          have KL' : Hid (Calls Tryz.prog 39 #[.agg #[.int .i64 dk, .int .i64 di, .string ds, .slice da dl.length dc], .int .i64 (m : Nat)] wr fun e w' => e = .returned (.int .i64 ((m - numT (.mk dk di ds dl) : Nat) : Int)) ∧ Below wr.heap.size wr w') := KL
          have hbkl : bk < wr.heap.size := World.block_lt_of_cell? _ _ c0'
          have HM2 : Hid (m - numT (.mk dk di ds dl) = 0 - numsT (l.take (j + 1))) := Lib.hid (by have := HTK.out; have := HMM.out; omega)
          clear hIHj KL
          generalize m - numT (.mk dk di ds dl) = m2 at *
          go_wp2_with fail
          refine KL'.out.mono ?_
          rintro e w8 ⟨rfl, hb8⟩
          have HB8 := Lib.hid (HBR.out.trans (hb8.mono HBR.out.size))
          clear hb8 x0 c0' c1' c2' c3'
          go_wp2
          go_roundw
          case rel => exact ⟨j + 1, m2, by omega, by go_num, rfl, HM2.out, HB8.out⟩
          case measure => simp [intOf]; omega
        · obtain rfl : m = 0 := by omega
          have HR : Hid (((0 - numT (.mk k i s l) : Nat) : Int) = 0) := Lib.hid (by have h1 := HMM.out; have h2 := HLE.out; have h3 := HNT.out; have h4 := HM0.out; omega)
          have HB9 := Lib.hid (B0.out.trans (hbr.mono B0.out.size))
          clear hmm hbr
          go_wp2
          go_ret
          exact ⟨by rw [HR.out]; rfl, HB9.out⟩
      · obtain rfl : j = l.length := by omega
        rw [List.take_length] at hmm
        have HR : Hid (((0 - numT (.mk k i s l) : Nat) : Int) = (m : Int)) := Lib.hid (by have h3 := HNT.out; have h4 := HM0.out; omega)
        have HB9 := Lib.hid (B0.out.trans (hbr.mono B0.out.size))
        clear hmm hbr
        go_wp2
        go_ret
        exact ⟨by rw [HR.out]; rfl, HB9.out⟩
mutual
theorem left_any : ∀ t : PT, LeftOk t
  | .mk k i s l => left_step k i s l (left_all l)
theorem left_all : ∀ l : List PT, ∀ t ∈ l, LeftOk t
  | [], t, h => by cases h
  | u :: l, t, h => (List.mem_cons.1 h).elim (fun e => e ▸ left_any u) (fun h => left_all l t h)
end
end Go.Proofs.YtjofdlnopchaeaaGreatDoor.Core

/-
Package core's Make: the expression of a datum. No condition but a bound on how large the datum is.
-/
namespace Go.Proofs.YtjofdlnopchaeaaGreatDoor.Core
open Go.ChangeShapes Go.WideShapes Go.ChangeAt Go.RowKit Go.Deep
open Dat (PT ok64 RepV RepS RowX infoDatum numT numsT)
set_option maxRecDepth 100000

/-- What each operation of Make's test is known to yield, where Check found something wrong. -/
def R3n (tv : Value) (c0 : Int) : Nat → Value → World → Prop
  | 0, v, _ => v = .bool true
  | 1, v, _ => v = .bool false
  | 2, v, _ => v = .bool false
  | 3, v, _ => v = tv
  | 4, v, _ => v = .int .i64 c0
  | 5, v, _ => v = .bool true
  | 6, v, _ => v = .bool true
  | 7, v, _ => v = .bool true
  | 13, v, _ => v = .bool true
  | _, _, _ => True
theorem R3n.mono {tv : Value} {c0 : Int} : ∀ (i : Nat) (v : Value) (W W' : World), R3n tv c0 i v W → Below W.heap.size W W' → R3n tv c0 i v W' := by
  intro i v W W' h _
  rcases i with _ | _ | _ | _ | _ | _ | _ | _ | _ | _ | _ | _ | _ | _ | i <;> exact h
/-- .. where Check found nothing. -/
def R3p (tv dv : Value) (dk di : Int) (ds : ByteArray) (dl : List PT) (C : Nat) (eqb : Bool) : Nat → Value → World → Prop
  | 0, v, _ => v = .bool true
  | 1, v, _ => v = .bool false
  | 2, v, _ => v = .bool false
  | 3, v, _ => v = tv
  | 4, v, _ => v = .int .i64 0
  | 5, v, _ => v = .bool false
  | 6, v, _ => v = .bool false
  | 7, v, _ => v = .bool false
  | 8, v, _ => v = tv
  | 9, v, W => ∃ a c, v = .agg #[.int .i64 dk, .int .i64 di, .string ds, .slice a dl.length c] ∧ InS W (fun b => C ≤ b) dl (.slice a dl.length c)
  | 10, v, _ => v = dv
  | 11, v, _ => v = .bool eqb
  | 12, v, _ => v = .bool (!eqb)
  | 13, v, _ => v = .bool (!eqb)
  | _, _, _ => True
theorem R3p.mono {tv dv : Value} {dk di : Int} {ds : ByteArray} {dl : List PT} {C : Nat} {eqb : Bool} : ∀ (i : Nat) (v : Value) (W W' : World), R3p tv dv dk di ds dl C eqb i v W → Below W.heap.size W W' → R3p tv dv dk di ds dl C eqb i v W' := by
  intro i v W W' h hb
  rcases i with _ | _ | _ | _ | _ | _ | _ | _ | _ | _ | _ | _ | _ | _ | i
  all_goals first | exact h | exact h.elim fun a h => h.elim fun c h => ⟨a, c, h.1, insBelow h.2 hb⟩
def okPT : PT → Prop
  | .mk k i s _ => ok64 k ∧ ok64 i ∧ s.size ≤ maxLen
theorem data_okay {t : PE} (h : okE t) : okPT (dataT t) := by
  obtain ⟨k, nm, ns, d, l⟩ := t
  rw [okE] at h
  have hl : ∀ m, okPT (listT m) := fun m => ⟨by constructor <;> decide, by constructor <;> decide, by decide⟩
  rw [dataT]
  split
  · exact hl _
  split
  · rename_i h1
    refine (⟨by constructor <;> decide, by constructor <;> decide, ?_⟩ : okPT (.mk 4 0 nm []))
    have hf := h.1
    unfold formE fieldsB nameOkB at hf
    simp only [Bool.and_eq_true] at hf
    have hn := hf.2.1.1
    rw [if_pos (.inl h1)] at hn
    unfold nameB at hn
    simp only [Bool.and_eq_true, decide_eq_true_eq] at hn
    have h3 := hn.1.1.1.2
    have h4 : nm.size = nm.data.toList.length := by rw [Array.length_toList]; rfl
    unfold maxLen
    omega
  split
  · exact hl _
  split
  · exact hl _
  split
  · exact hl _
  · exact hl _
/-- What Make answers. -/
def MakeIs (C : Nat) (d : PT) (e : Ending) (w : World) : Prop :=
  ∃ n r, MadeR 0 d n r ∧ ((∃ t vn vd vk, r = some t ∧ checkE t = 0 ∧ dataT t = d ∧ e = .returned (.tuple #[t.val vn vd vk, .int .i64 0]) ∧ InF w (fun b => C ≤ b) t vn vd vk) ∨
    ((∀ t, r = some t → checkE t = 0 → dataT t ≠ d) ∧ e = .returned (.tuple #[.agg #[.int .i64 0, .string ⟨#[]⟩, .slice none 0 0, .int .i64 0, .int .i64 0, .string ⟨#[]⟩, .slice none 0 0, .slice none 0 0], .int .i64 60])))
set_option maxHeartbeats 8000000 in
theorem make_any (d : PT) (S : Nat → Prop) (v : Value) (w : World) (hv : InV w S d v) (hS : ∀ b, S b → b < w.heap.size) (hsz : numT d ≤ 100000) :
    Calls Tryz.prog 22 #[d.val v] w fun e w' => MakeIs w.heap.size d e w' ∧ Below w.heap.size w w' := by
  obtain ⟨k, i, s, l⟩ := d
  have HV := Lib.hid hv
  have HSL := Lib.hid hS
  obtain ⟨_, _, _, a, c, rfl, _⟩ := hv
  show Calls Tryz.prog 22 #[.agg #[.int .i64 k, .int .i64 i, .string s, .slice a l.length c]] w _
  obtain ⟨z0, z1, zb⟩ := two_new w (.cells #[.int .i64 k, .int .i64 i, .string s, .slice a l.length c] 25) (.cells #[.int .i64 0, .string ⟨#[]⟩, .slice none 0 0, .int .i64 0, .int .i64 0, .string ⟨#[]⟩, .slice none 0 0, .slice none 0 0] 28)
  have hs0 : ((w.alloc (.cells #[.int .i64 k, .int .i64 i, .string s, .slice a l.length c] 25)).alloc (.cells #[.int .i64 0, .string ⟨#[]⟩, .slice none 0 0, .int .i64 0, .int .i64 0, .string ⟨#[]⟩, .slice none 0 0, .slice none 0 0] 28)).heap.size = w.heap.size + 2 := by rw [size_new, size_new]
  generalize hw0 : (w.alloc (.cells #[.int .i64 k, .int .i64 i, .string s, .slice a l.length c] 25)).alloc (.cells #[.int .i64 0, .string ⟨#[]⟩, .slice none 0 0, .int .i64 0, .int .i64 0, .string ⟨#[]⟩, .slice none 0 0, .slice none 0 0] 28) = w0 at z0 z1 zb hs0
  have HW0 := Lib.hid hw0
  have z01 : (w0.alloc (.cells #[.int .i64 0] 72)).heap[w.heap.size]? = _ := blk_skip' z0
  have z11 : (w0.alloc (.cells #[.int .i64 0] 72)).heap[w.heap.size + 1]? = _ := blk_skip' z1
  have zq : (w0.alloc (.cells #[.int .i64 0] 72)).heap[w0.heap.size]? = _ := heap_alloc_new w0 _
  have zb1 := bel_alloc' zb (.cells #[.int .i64 0] 72)
  have HS0 := Lib.hid hs0
  have HZ01 := Lib.hid z01
  have HZ11 := Lib.hid z11
  have HZQQ := Lib.hid zq
  have HZB1 := Lib.hid zb1
  clear hw0 hS hs0 z0 z1 zb z01 z11 zq zb1
  go_enter Tryz.func22, Tryz.ntmps22
  go_upto_region 1 with fail
  rw [HW0.out]
  go_upto_region 2 with fail
  have hs1 := size_new w0 (.cells #[.int .i64 0] 72)
  have z01 := HZ01.out
  have z11 := HZ11.out
  have zq := HZQQ.out
  have zb1 := HZB1.out
  have hs0 := HS0.out
  clear HZ01 HZ11 HZQQ HZB1
  generalize w0.alloc (.cells #[.int .i64 0] 72) = w1 at *
  generalize hqd : w0.heap.size = q at *
  have Z01 := Lib.hid z01
  have Z11 := Lib.hid z11
  have HZQ := Lib.hid zq
  have HB1 := Lib.hid zb1
  have hq2 : w.heap.size + 2 ≤ q := by omega
  have HV1 := Lib.hid (HV.out.below zb1)
  have KM := Lib.hid (made_any (.mk k i s l) w1 S q 0 _ HV1.out (fun b hb => by have := HSL.out b hb; omega) HZQ.out (by omega) hsz)
  have KM' : Hid (Calls Tryz.prog 40 #[.pointer (some ⟨q, 0, none⟩), .agg #[.int .i64 k, .int .i64 i, .string s, .slice a l.length c]] w1 fun e w' => MadeIs w1.heap.size q 0 (.mk k i s l) e w' ∧ KP w1 (some q) w') := KM
  obtain ⟨x0, x1, x2, x3⟩ := look4c Z01.out
  have hw1 : w.heap.size + 3 ≤ w1.heap.size := by omega
  have hqw : q < w1.heap.size := by omega
  clear z01 z11 zq zb1 hs1 KM hqd hs0 HS0
  go_wp2_with fail
  refine KM'.out.mono ?_
  rintro e w5 ⟨⟨n5, r5, hmr, _, _, hres⟩, hkp5⟩
  have HMR := Lib.hid hmr
  have hs5 : w1.heap.size ≤ w5.heap.size := hkp5.1.size
  have HB5 : Hid (Below w.heap.size w w5) := Lib.hid (HB1.out.trans (hkp5.below (C := w.heap.size) (by omega) (fun b e => by cases e; omega)))
  have Z05 := Lib.hid ((hkp5.2 w.heap.size (by omega) (fun e => by cases e; omega)).trans Z01.out)
  have Z15 := Lib.hid ((hkp5.2 (w.heap.size + 1) (by omega) (fun e => by cases e; omega)).trans Z11.out)
  clear hmr hkp5 KM' x0 x1 x2 x3
  rcases hres with ⟨rfl, rfl⟩ | ⟨⟨tk, tn, tns, ⟨tck, tci, tcs, tcl⟩, tl⟩, tvn, tvd, tvk, rfl, he8, hF8⟩
  · go_upto_region 3 with fail
    have Z16 := Lib.hid (blk_skip' (o := .cells #[.int .i64 0, .string ⟨#[]⟩, .slice none 0 0, .int .i64 0, .int .i64 0, .string ⟨#[]⟩, .slice none 0 0, .slice none 0 0] 28) Z15.out)
    have HB6a := Lib.hid (bel_alloc' HB5.out (.cells #[.int .i64 0, .string ⟨#[]⟩, .slice none 0 0, .int .i64 0, .int .i64 0, .string ⟨#[]⟩, .slice none 0 0, .slice none 0 0] 28))
    generalize w5.alloc (.cells #[.int .i64 0, .string ⟨#[]⟩, .slice none 0 0, .int .i64 0, .int .i64 0, .string ⟨#[]⟩, .slice none 0 0, .slice none 0 0] 28) = w6 at *
    go_region
    have Z16d : Hid (w6.drew.heap[w.heap.size + 1]? = _) := Lib.hid Z16.out
    have HB6d := Lib.hid (Below.drew HB6a.out)
    generalize w6.drew = w6d at *
    obtain ⟨t0, t1, t2, t3, t4, t5, t6, t7⟩ := look8 Z16d.out
    obtain ⟨g0, g1, g2, g3, g4, g5, g6, g7⟩ := free8 Z16d.out
    have HZ5 := Lib.hid (put8 (v0 := .int .i64 0) (v1 := .string ⟨#[]⟩) (v2 := .slice none 0 0) (v3 := .int .i64 0) (v4 := .int .i64 0) (v5 := .string ⟨#[]⟩) (v6 := .slice none 0 0) (v7 := .slice none 0 0) Z16d.out)
    have HB6 := Lib.hid (below8 HB6d.out (Nat.le_succ w.heap.size) (.int .i64 0) (.string ⟨#[]⟩) (.slice none 0 0) (.int .i64 0) (.int .i64 0) (.string ⟨#[]⟩) (.slice none 0 0) (.slice none 0 0))
    go_wp2
    refine bodyPost_ret (results_row_one (P := Tryz.prog) rfl _ _ (w.heap.size + 1) 28 _ (0, 0) _ rfl HZ5.out Tryz.underlying28 rfl (by kernel_rfl)) rfl ⟨⟨n5, none, HMR.out, .inr ⟨(fun t h => by cases h), rfl⟩⟩, HB6.out⟩
  · have HF8 := Lib.hid hF8
    obtain ⟨⟨_, _, tan, tcn, rfl, -⟩, ⟨_, _, _, tad, tcd, rfl, -⟩, tak, tcc, rfl, -⟩ := hF8
    have he' : e = .returned (.tuple #[.agg #[.int .i64 tk, .string tn, .slice tan tns.length tcn, .int .i64 tck, .int .i64 tci, .string tcs, .slice tad tcl.length tcd, .slice tak tl.length tcc], .bool true]) := he8
    subst he'
    clear he8
    go_upto_region 3 with fail
    have Z16 := Lib.hid (blk_skip' (o := .cells #[.int .i64 tk, .string tn, .slice tan tns.length tcn, .int .i64 tck, .int .i64 tci, .string tcs, .slice tad tcl.length tcd, .slice tak tl.length tcc] 28) Z15.out)
    have Z06 := Lib.hid (blk_skip' (o := .cells #[.int .i64 tk, .string tn, .slice tan tns.length tcn, .int .i64 tck, .int .i64 tci, .string tcs, .slice tad tcl.length tcd, .slice tak tl.length tcc] 28) Z05.out)
    have Z56 := Lib.hid (heap_alloc_new w5 (.cells #[.int .i64 tk, .string tn, .slice tan tns.length tcn, .int .i64 tck, .int .i64 tci, .string tcs, .slice tad tcl.length tcd, .slice tak tl.length tcc] 28))
    have HB6a := Lib.hid (bel_alloc' HB5.out (.cells #[.int .i64 tk, .string tn, .slice tan tns.length tcn, .int .i64 tck, .int .i64 tci, .string tcs, .slice tad tcl.length tcd, .slice tak tl.length tcc] 28))
    have HF6 := Lib.hid (HF8.out.below ((Below.refl _ _).alloc (Nat.le_refl _) (.cells #[.int .i64 tk, .string tn, .slice tan tns.length tcn, .int .i64 tck, .int .i64 tci, .string tcs, .slice tad tcl.length tcd, .slice tak tl.length tcc] 28)))
    have HV6 := Lib.hid (InS.move (w := w) (w' := w5.alloc (.cells #[.int .i64 tk, .string tn, .slice tan tns.length tcn, .int .i64 tck, .int .i64 tci, .string tcs, .slice tad tcl.length tcd, .slice tak tl.length tcc] 28)) (S := S) (S' := S) (fun _ h _ => h) (fun b o y hb hc => by
      rw [World.cell?_of_block (w := w) (a := ⟨b, o, none⟩) (HB6a.out.block b (HSL.out b hb))]; exact hc) HV.out.2.2.2)
    generalize w5.alloc (.cells #[.int .i64 tk, .string tn, .slice tan tns.length tcn, .int .i64 tck, .int .i64 tci, .string tcs, .slice tad tcl.length tcd, .slice tak tl.length tcc] 28) = w6 at *
    generalize hw5 : w5.heap.size = b5 at *
    have h5l : b5 < w6.heap.size := lt_of_block Z56.out
    have CC : Hid (∀ W, Below w6.heap.size w6 W → (fun W : World => W.cell? ⟨b5, 0, none⟩ = some (.int .i64 tk) ∧ W.cell? ⟨b5, 1, none⟩ = some (.string tn) ∧ W.cell? ⟨b5, 2, none⟩ = some (.slice tan tns.length tcn) ∧ W.cell? ⟨b5, 3, none⟩ = some (.int .i64 tck) ∧ W.cell? ⟨b5, 4, none⟩ = some (.int .i64 tci) ∧ W.cell? ⟨b5, 5, none⟩ = some (.string tcs) ∧ W.cell? ⟨b5, 6, none⟩ = some (.slice tad tcl.length tcd) ∧ W.cell? ⟨b5, 7, none⟩ = some (.slice tak tl.length tcc) ∧ W.cell? ⟨w.heap.size, 0, none⟩ = some (.int .i64 k) ∧ W.cell? ⟨w.heap.size, 1, none⟩ = some (.int .i64 i) ∧ W.cell? ⟨w.heap.size, 2, none⟩ = some (.string s) ∧ W.cell? ⟨w.heap.size, 3, none⟩ = some (.slice a l.length c) ∧ Below w6.heap.size w6 W) W) := Lib.hid fun W hW => by
      have h1 := (hW.block b5 h5l).trans Z56.out
      have h2 := (hW.block w.heap.size (lt_of_block Z06.out)).trans Z06.out
      refine ⟨?_, ?_, ?_, ?_, ?_, ?_, ?_, ?_, ?_, ?_, ?_, ?_, hW⟩
      · rw [Lib.cell_of_heap h1]; rfl
      · rw [Lib.cell_of_heap h1]; rfl
      · rw [Lib.cell_of_heap h1]; rfl
      · rw [Lib.cell_of_heap h1]; rfl
      · rw [Lib.cell_of_heap h1]; rfl
      · rw [Lib.cell_of_heap h1]; rfl
      · rw [Lib.cell_of_heap h1]; rfl
      · rw [Lib.cell_of_heap h1]; rfl
      all_goals (rw [Lib.cell_of_heap h2]; rfl)
    have OF : Hid (∀ W, (fun W : World => W.cell? ⟨b5, 0, none⟩ = some (.int .i64 tk) ∧ W.cell? ⟨b5, 1, none⟩ = some (.string tn) ∧ W.cell? ⟨b5, 2, none⟩ = some (.slice tan tns.length tcn) ∧ W.cell? ⟨b5, 3, none⟩ = some (.int .i64 tck) ∧ W.cell? ⟨b5, 4, none⟩ = some (.int .i64 tci) ∧ W.cell? ⟨b5, 5, none⟩ = some (.string tcs) ∧ W.cell? ⟨b5, 6, none⟩ = some (.slice tad tcl.length tcd) ∧ W.cell? ⟨b5, 7, none⟩ = some (.slice tak tl.length tcc) ∧ W.cell? ⟨w.heap.size, 0, none⟩ = some (.int .i64 k) ∧ W.cell? ⟨w.heap.size, 1, none⟩ = some (.int .i64 i) ∧ W.cell? ⟨w.heap.size, 2, none⟩ = some (.string s) ∧ W.cell? ⟨w.heap.size, 3, none⟩ = some (.slice a l.length c) ∧ Below w6.heap.size w6 W) W → Below w6.heap.size w6 W) := Lib.hid fun W h => h.2.2.2.2.2.2.2.2.2.2.2.2
    have HFT : Hid (∀ W, Below w6.heap.size w6 W → InF W (fun b => b < W.heap.size) (.mk tk tn tns (.mk tck tci tcs tcl) tl) (.slice tan tns.length tcn) (.slice tad tcl.length tcd) (.slice tak tl.length tcc)) := Lib.hid fun W hW => (HF6.out.below hW).move (fun _ _ h => h) fun _ _ _ _ h => h
    generalize hT : PE.mk tk tn tns (.mk tck tci tcs tcl) tl = T at *
    have HTV : Hid (T.val (.slice tan tns.length tcn) (.slice tad tcl.length tcd) (.slice tak tl.length tcc) = .agg #[.int .i64 tk, .string tn, .slice tan tns.length tcn, .int .i64 tck, .int .i64 tci, .string tcs, .slice tad tcl.length tcd, .slice tak tl.length tcc]) := Lib.hid (by rw [← hT]; rfl)
    have KC : Hid (∀ W, Below w6.heap.size w6 W → Calls Tryz.prog 11 #[.agg #[.int .i64 tk, .string tn, .slice tan tns.length tcn, .int .i64 tck, .int .i64 tci, .string tcs, .slice tad tcl.length tcd, .slice tak tl.length tcc]] W fun e w' => e = .returned (.int .i64 (checkE T)) ∧ Below W.heap.size W w') := Lib.hid fun W hW => by
      rw [← HTV.out]
      exact checkE_any T (fun b => b < W.heap.size) _ _ _ W (HFT.out W hW) (fun b h => h)
    have B00 := Below.refl w6.heap.size w6
    have hwl6 : w.heap.size + 1 < w6.heap.size := lt_of_block Z16.out
    have ZF : Hid (∀ W, Below w6.heap.size w6 W → W.heap[w.heap.size + 1]? = _) := Lib.hid fun W hW => (hW.block (w.heap.size + 1) hwl6).trans Z16.out
    clear hT hw5
    by_cases hc : checkE T = 0
    case neg =>
      have HIMP : Hid (∀ t, some T = some t → checkE t = 0 → dataT t ≠ .mk k i s l) := Lib.hid (fun t h h0 => by cases h; exact absurd h0 hc)
      have hcb : (checkE T != 0) = true := by simpa using hc
      clear hc
      generalize checkE T = c0 at *
      have hcd : (c0 != 0) = true := hcb
      refine Rg.wp_region_guard 14 (by kernel_rfl) w6.heap.size (Nat.le_refl _) (R3n (.agg #[.int .i64 tk, .string tn, .slice tan tns.length tcn, .int .i64 tck, .int .i64 tci, .string tcs, .slice tad tcl.length tcd, .slice tak tl.length tcc]) c0) R3n.mono (by kernel_rfl) ?_ ?_
      · intro i o d hiL hi hd vs W hb hR
        obtain ⟨y0, y1, y2, y3, y4, y5, y6, y7, x0, x1, x2, x3, _⟩ := CC.out W hb
        have HR := Lib.hid hR
        clear hR
        rcases i with _ | _ | _ | _ | _ | _ | _ | _ | _ | _ | _ | _ | _ | _ | i
        all_goals simp only [List.getElem?_cons_zero, List.getElem?_cons_succ, List.getElem?_nil, Option.some.injEq, reduceCtorEq] at hi
        all_goals try subst hi
        all_goals try simp only [Option.some.injEq] at hd
        all_goals try subst hd
        all_goals try simp only [List.take_succ_cons, List.take_zero, Rg.putAll, Act.put, List.setIfInBounds_toArray, List.set_cons_zero, List.set_cons_succ, Nat.zero_add, Nat.reduceAdd]
        · refine Rg.wpOp_go rfl rfl ?_
          go_simp
          exact ⟨_, rfl, rfl, Below.refl _ _⟩
        · rw [show vs 0 = _ from (HR.out 0 (by decide) (by kernel_rfl))]
          refine Rg.wpOp_go rfl rfl ?_
          go_simp
          exact ⟨_, rfl, rfl, Below.refl _ _⟩
        · rw [show vs 1 = _ from (HR.out 1 (by decide) (by kernel_rfl))]
          refine Rg.wpOp_go rfl rfl ?_
          go_simp
          exact ⟨_, rfl, rfl, Below.refl _ _⟩
        · rw [show vs 2 = _ from (HR.out 2 (by decide) (by kernel_rfl))]
          refine Rg.wpOp_go rfl rfl ?_
          go_simp
          exact ⟨_, rfl, rfl, Below.refl _ _⟩
        · rw [show vs 2 = _ from (HR.out 2 (by decide) (by kernel_rfl))]
          rw [show vs 3 = _ from (HR.out 3 (by decide) (by kernel_rfl))]
          refine Rg.wpOp_go rfl rfl ?_
          go_simp
          refine (KC.out _ hb).mono ?_
          rintro e w7 ⟨rfl, hb7⟩
          exact ⟨_, rfl, rfl, hb7⟩
        · rw [show vs 2 = _ from (HR.out 2 (by decide) (by kernel_rfl))]
          rw [show vs 4 = _ from (HR.out 4 (by decide) (by kernel_rfl))]
          refine Rg.wpOp_go rfl rfl ?_
          go_simp
          exact ⟨_, rfl, rfl, Below.refl _ _⟩
        · rw [show vs 2 = _ from (HR.out 2 (by decide) (by kernel_rfl))]
          rw [show vs 5 = _ from (HR.out 5 (by decide) (by kernel_rfl))]
          refine Rg.wpOp_go rfl rfl ?_
          go_simp
          exact ⟨_, rfl, rfl, Below.refl _ _⟩
        · rw [show vs 6 = _ from (HR.out 6 (by decide) (by kernel_rfl))]
          refine Rg.wpOp_go rfl rfl ?_
          go_simp
          exact ⟨_, rfl, rfl, Below.refl _ _⟩
        · rw [show vs 7 = _ from (HR.out 7 (by decide) (by kernel_rfl))]
          exact Rg.wpOp_skip rfl rfl ⟨_, rfl, trivial, Below.refl _ _⟩
        · rw [show vs 7 = _ from (HR.out 7 (by decide) (by kernel_rfl))]
          exact Rg.wpOp_skip rfl rfl ⟨_, rfl, trivial, Below.refl _ _⟩
        · rw [show vs 7 = _ from (HR.out 7 (by decide) (by kernel_rfl))]
          exact Rg.wpOp_skip rfl rfl ⟨_, rfl, trivial, Below.refl _ _⟩
        · rw [show vs 7 = _ from (HR.out 7 (by decide) (by kernel_rfl))]
          exact Rg.wpOp_skip rfl rfl ⟨_, rfl, trivial, Below.refl _ _⟩
        · rw [show vs 7 = _ from (HR.out 7 (by decide) (by kernel_rfl))]
          exact Rg.wpOp_skip rfl rfl ⟨_, rfl, trivial, Below.refl _ _⟩
        · rw [show vs 7 = _ from (HR.out 7 (by decide) (by kernel_rfl))]
          refine Rg.wpOp_go rfl rfl ?_
          go_simp
          exact ⟨_, rfl, rfl, Below.refl _ _⟩
      · intro vs W hBW hR
        simp only [List.take_succ_cons, List.take_zero, List.drop_succ_cons, List.drop_zero, Rg.putAll, Act.put, List.setIfInBounds_toArray, List.set_cons_zero, List.set_cons_succ, Nat.zero_add, Nat.reduceAdd]
        rw [show vs 13 = _ from hR 13 (by decide)]
        have Z17 := Lib.hid (ZF.out W hBW)
        have HB7 := Lib.hid (HB6a.out.trans (hBW.mono HB6a.out.size))
        clear hR
        obtain ⟨t0, t1, t2, t3, t4, t5, t6, t7⟩ := look8 Z17.out
        obtain ⟨g0, g1, g2, g3, g4, g5, g6, g7⟩ := free8 Z17.out
        have HZ5 := Lib.hid (put8 (v0 := .int .i64 0) (v1 := .string ⟨#[]⟩) (v2 := .slice none 0 0) (v3 := .int .i64 0) (v4 := .int .i64 0) (v5 := .string ⟨#[]⟩) (v6 := .slice none 0 0) (v7 := .slice none 0 0) Z17.out)
        have HB6 := Lib.hid (below8 HB7.out (Nat.le_succ w.heap.size) (.int .i64 0) (.string ⟨#[]⟩) (.slice none 0 0) (.int .i64 0) (.int .i64 0) (.string ⟨#[]⟩) (.slice none 0 0) (.slice none 0 0))
        go_wp2
        refine bodyPost_ret (results_row_one (P := Tryz.prog) rfl _ _ (w.heap.size + 1) 28 _ (0, 0) _ rfl HZ5.out Tryz.underlying28 rfl (by kernel_rfl)) rfl ⟨⟨n5, some T, HMR.out, .inr ⟨HIMP.out, rfl⟩⟩, HB6.out⟩
    case pos =>
    have HC := Lib.hid hc
    rw [hc] at KC
    generalize hD : dataT T = D at *
    obtain ⟨dk, di, ds, dl⟩ := D
    have HD := Lib.hid hD
    have KD : Hid (∀ W, Below w6.heap.size w6 W → Calls Tryz.prog 34 #[.agg #[.int .i64 tk, .string tn, .slice tan tns.length tcn, .int .i64 tck, .int .i64 tci, .string tcs, .slice tad tcl.length tcd, .slice tak tl.length tcc]] W fun e w' => (∃ a c, e = .returned (.agg #[.int .i64 dk, .int .i64 di, .string ds, .slice a dl.length c]) ∧ InS w' (fun b => W.heap.size ≤ b) dl (.slice a dl.length c)) ∧ Below W.heap.size W w') := Lib.hid fun W hW => by
      rw [← HTV.out]
      refine (datum_any T W (fun b => b < W.heap.size) _ _ _ (HFT.out W hW) (fun b h => h) (okE_of_check HC.out)).mono ?_
      rintro e w' ⟨⟨v, rfl, hv⟩, hb⟩
      rw [HD.out] at hv ⊢
      obtain ⟨_, _, _, a, c, rfl, h2⟩ := hv
      exact ⟨⟨a, c, rfl, ⟨a, c, rfl, h2⟩⟩, hb⟩
    have HOKD : Hid (ok64 dk ∧ ok64 di ∧ ds.size ≤ maxLen) := Lib.hid (by
      have := data_okay (t := T) (okE_of_check HC.out)
      rw [HD.out] at this
      exact this)
    have KE : Hid (∀ W a' c', Below w6.heap.size w6 W → InS W (fun b => w6.heap.size ≤ b) dl (.slice a' dl.length c') → Calls Tryz.prog 41 #[.agg #[.int .i64 dk, .int .i64 di, .string ds, .slice a' dl.length c'], .agg #[.int .i64 k, .int .i64 i, .string s, .slice a l.length c]] W fun e w' => e = .returned (.bool (Dat.sameB (.mk dk di ds dl) (.mk k i s l))) ∧ Below W.heap.size W w') := Lib.hid fun W a' c' hW hs => by
      have r1 : RepV W W.heap.size (.mk dk di ds dl) (.slice a' dl.length c') := InV.rep (S := fun b => w6.heap.size ≤ b) ⟨HOKD.out.1, HOKD.out.2.1, HOKD.out.2.2, hs⟩
      have r2 : RepV W W.heap.size (.mk k i s l) (.slice a l.length c) := InV.rep (S := S) ⟨HV.out.1, HV.out.2.1, HV.out.2.2.1, insBelow HV6.out hW⟩
      exact Dat.eq_any (.mk dk di ds dl) (.mk k i s l) W W.heap.size _ _ r1 r2 (Nat.le_refl _)
    have HEQ : Hid (Dat.sameB (.mk dk di ds dl) (.mk k i s l) = true ↔ (.mk dk di ds dl : PT) = .mk k i s l) := Lib.hid (by simp [Dat.sameB])
    generalize Dat.sameB (.mk dk di ds dl) (.mk k i s l) = eqb at *
    clear hc hD
    refine Rg.wp_region_guard 14 (by kernel_rfl) w6.heap.size (Nat.le_refl _) (R3p (.agg #[.int .i64 tk, .string tn, .slice tan tns.length tcn, .int .i64 tck, .int .i64 tci, .string tcs, .slice tad tcl.length tcd, .slice tak tl.length tcc]) (.agg #[.int .i64 k, .int .i64 i, .string s, .slice a l.length c]) dk di ds dl w6.heap.size eqb) R3p.mono (by kernel_rfl) ?_ ?_
    · intro i9 o d hiL hi hd vs W hb hR
      obtain ⟨y0, y1, y2, y3, y4, y5, y6, y7, x0, x1, x2, x3, _⟩ := CC.out W hb
      have HR := Lib.hid hR
      clear hR
      rcases i9 with _ | _ | _ | _ | _ | _ | _ | _ | _ | _ | _ | _ | _ | _ | i9
      all_goals simp only [List.getElem?_cons_zero, List.getElem?_cons_succ, List.getElem?_nil, Option.some.injEq, reduceCtorEq] at hi
      all_goals try subst hi
      all_goals try simp only [Option.some.injEq] at hd
      all_goals try subst hd
      all_goals try simp only [List.take_succ_cons, List.take_zero, Rg.putAll, Act.put, List.setIfInBounds_toArray, List.set_cons_zero, List.set_cons_succ, Nat.zero_add, Nat.reduceAdd]
      · refine Rg.wpOp_go rfl rfl ?_
        go_simp
        exact ⟨_, rfl, rfl, Below.refl _ _⟩
      · rw [show vs 0 = _ from (HR.out 0 (by decide) (by kernel_rfl))]
        refine Rg.wpOp_go rfl rfl ?_
        go_simp
        exact ⟨_, rfl, rfl, Below.refl _ _⟩
      · rw [show vs 1 = _ from (HR.out 1 (by decide) (by kernel_rfl))]
        refine Rg.wpOp_go rfl rfl ?_
        go_simp
        exact ⟨_, rfl, rfl, Below.refl _ _⟩
      · rw [show vs 2 = _ from (HR.out 2 (by decide) (by kernel_rfl))]
        refine Rg.wpOp_go rfl rfl ?_
        go_simp
        exact ⟨_, rfl, rfl, Below.refl _ _⟩
      · rw [show vs 2 = _ from (HR.out 2 (by decide) (by kernel_rfl))]
        rw [show vs 3 = _ from (HR.out 3 (by decide) (by kernel_rfl))]
        refine Rg.wpOp_go rfl rfl ?_
        go_simp
        refine (KC.out _ hb).mono ?_
        rintro e w7 ⟨rfl, hb7⟩
        exact ⟨_, rfl, rfl, hb7⟩
      · rw [show vs 2 = _ from (HR.out 2 (by decide) (by kernel_rfl))]
        rw [show vs 4 = _ from (HR.out 4 (by decide) (by kernel_rfl))]
        refine Rg.wpOp_go rfl rfl ?_
        go_simp
        exact ⟨_, rfl, rfl, Below.refl _ _⟩
      · rw [show vs 2 = _ from (HR.out 2 (by decide) (by kernel_rfl))]
        rw [show vs 5 = _ from (HR.out 5 (by decide) (by kernel_rfl))]
        refine Rg.wpOp_go rfl rfl ?_
        go_simp
        exact ⟨_, rfl, rfl, Below.refl _ _⟩
      · rw [show vs 6 = _ from (HR.out 6 (by decide) (by kernel_rfl))]
        refine Rg.wpOp_go rfl rfl ?_
        go_simp
        exact ⟨_, rfl, rfl, Below.refl _ _⟩
      · rw [show vs 7 = _ from (HR.out 7 (by decide) (by kernel_rfl))]
        refine Rg.wpOp_go rfl rfl ?_
        go_simp
        exact ⟨_, rfl, rfl, Below.refl _ _⟩
      · rw [show vs 7 = _ from (HR.out 7 (by decide) (by kernel_rfl))]
        rw [show vs 8 = _ from (HR.out 8 (by decide) (by kernel_rfl))]
        refine Rg.wpOp_go rfl rfl ?_
        go_simp
        refine (KD.out _ hb).mono ?_
        rintro e w7 ⟨⟨a7, c7, rfl, hd7⟩, hb7⟩
        exact ⟨_, rfl, ⟨a7, c7, rfl, hd7.move (fun b h _ => Nat.le_trans hb.size h) fun _ _ _ _ h => h⟩, hb7⟩
      · rw [show vs 7 = _ from (HR.out 7 (by decide) (by kernel_rfl))]
        refine Rg.wpOp_go rfl rfl ?_
        go_simp
        exact ⟨_, rfl, rfl, Below.refl _ _⟩
      · rw [show vs 7 = _ from (HR.out 7 (by decide) (by kernel_rfl))]
        rw [show vs 10 = _ from (HR.out 10 (by decide) (by kernel_rfl))]
        obtain ⟨a7, c7, h9, hd7⟩ := (HR.out 9 (by decide) (by kernel_rfl) : ∃ a c, vs 9 = _ ∧ _)
        rw [h9]
        refine Rg.wpOp_go rfl rfl ?_
        go_simp
        refine (KE.out _ a7 c7 hb hd7).mono ?_
        rintro e w7 ⟨rfl, hb7⟩
        exact ⟨_, rfl, rfl, hb7⟩
      · rw [show vs 7 = _ from (HR.out 7 (by decide) (by kernel_rfl))]
        rw [show vs 11 = _ from (HR.out 11 (by decide) (by kernel_rfl))]
        refine Rg.wpOp_go rfl rfl ?_
        go_simp
        exact ⟨_, rfl, rfl, Below.refl _ _⟩
      · rw [show vs 7 = _ from (HR.out 7 (by decide) (by kernel_rfl))]
        rw [show vs 12 = _ from (HR.out 12 (by decide) (by kernel_rfl))]
        refine Rg.wpOp_go rfl rfl ?_
        go_simp
        exact ⟨_, rfl, rfl, Below.refl _ _⟩
    · intro vs W hBW hR
      simp only [List.take_succ_cons, List.take_zero, List.drop_succ_cons, List.drop_zero, Rg.putAll, Act.put, List.setIfInBounds_toArray, List.set_cons_zero, List.set_cons_succ, Nat.zero_add, Nat.reduceAdd]
      rw [show vs 13 = _ from hR 13 (by decide)]
      obtain ⟨y0, y1, y2, y3, y4, y5, y6, y7, _, _, _, _, _⟩ := CC.out W hBW
      have Z17 := Lib.hid (ZF.out W hBW)
      have HB7 := Lib.hid (HB6a.out.trans (hBW.mono HB6a.out.size))
      clear hR
      obtain ⟨t0, t1, t2, t3, t4, t5, t6, t7⟩ := look8 Z17.out
      obtain ⟨g0, g1, g2, g3, g4, g5, g6, g7⟩ := free8 Z17.out
      cases eqb
      case false =>
        simp only [Bool.not_false]
        clear y0 y1 y2 y3 y4 y5 y6 y7
        have HZ5 := Lib.hid (put8 (v0 := .int .i64 0) (v1 := .string ⟨#[]⟩) (v2 := .slice none 0 0) (v3 := .int .i64 0) (v4 := .int .i64 0) (v5 := .string ⟨#[]⟩) (v6 := .slice none 0 0) (v7 := .slice none 0 0) Z17.out)
        have HB6 := Lib.hid (below8 HB7.out (Nat.le_succ w.heap.size) (.int .i64 0) (.string ⟨#[]⟩) (.slice none 0 0) (.int .i64 0) (.int .i64 0) (.string ⟨#[]⟩) (.slice none 0 0) (.slice none 0 0))
        have HNE : Hid (∀ t, some T = some t → checkE t = 0 → dataT t ≠ .mk k i s l) := Lib.hid (fun t h _ => by cases h; rw [HD.out]; exact fun e => by have := HEQ.out.2 e; cases this)
        go_wp2
        refine bodyPost_ret (results_row_one (P := Tryz.prog) rfl _ _ (w.heap.size + 1) 28 _ (0, 0) _ rfl HZ5.out Tryz.underlying28 rfl (by kernel_rfl)) rfl ⟨⟨n5, some T, HMR.out, .inr ⟨HNE.out, rfl⟩⟩, HB6.out⟩
      case true =>
        simp only [Bool.not_true]
        have HZ5 := Lib.hid (put8 (v0 := .int .i64 tk) (v1 := .string tn) (v2 := .slice tan tns.length tcn) (v3 := .int .i64 tck) (v4 := .int .i64 tci) (v5 := .string tcs) (v6 := .slice tad tcl.length tcd) (v7 := .slice tak tl.length tcc) Z17.out)
        have HB6 := Lib.hid (below8 HB7.out (Nat.le_succ w.heap.size) (.int .i64 tk) (.string tn) (.slice tan tns.length tcn) (.int .i64 tck) (.int .i64 tci) (.string tcs) (.slice tad tcl.length tcd) (.slice tak tl.length tcc))
        have HDE := Lib.hid (HD.out.trans (HEQ.out.1 rfl))
        have HFW : Hid (InF W (fun b => w1.heap.size ≤ b) T (.slice tan tns.length tcn) (.slice tad tcl.length tcd) (.slice tak tl.length tcc)) := Lib.hid (HF6.out.below hBW)
        go_wp2
        refine bodyPost_ret (results_row_one (P := Tryz.prog) rfl _ _ (w.heap.size + 1) 28 _ (0, 0) _ rfl HZ5.out Tryz.underlying28 rfl (by kernel_rfl)) rfl ⟨⟨n5, some T, HMR.out, .inl ⟨T, .slice tan tns.length tcn, .slice tad tcl.length tcd, .slice tak tl.length tcc, rfl, HC.out, HDE.out, by rw [HTV.out]; rfl, HFW.out.move (fun b hb _ => by have hb' : w1.heap.size ≤ b := hb; omega) fun b o y hb hc => by (have hb' : w1.heap.size ≤ b := hb); rw [World.cell?_of_block (w := W) (a := ⟨b, o, none⟩) (off8 _ _ _ _ _ _ _ _ (show b ≠ w.heap.size + 1 by omega))]; exact hc⟩⟩, HB6.out⟩
end Go.Proofs.YtjofdlnopchaeaaGreatDoor.Core

/-
The document's Huge, of one datum. No condition.
-/
namespace Go.Proofs.YtjofdlnopchaeaaGreatDoor.Core
open Go.ChangeShapes Go.WideShapes Go.ChangeAt Go.RowKit Go.Deep
open Dat (PT ok64 RepV RepS RowX infoDatum numT numsT)
set_option maxRecDepth 100000

theorem huge_any (t : PT) (S : Nat → Prop) (b c : Nat) (w : World) (hv : InS w S [t] (.slice (some ⟨b, 0, none⟩) 1 c)) :
    Calls Tryz.prog 21 #[.slice (some ⟨b, 0, none⟩) 1 c] w fun e w' => e = .returned (.bool (decide (100001 ≤ numT t))) ∧ Below w.heap.size w w' := by
  have hi := insItem hv 0 (by simp)
  simp only [List.getElem_cons_zero, Nat.zero_mul, Nat.add_zero] at hi
  obtain ⟨dk, di, ds, dl⟩ := t
  rw [inD_mk] at hi
  obtain ⟨d1, d2, d3, c0', c1', c2', vl, c3', hvl⟩ := hi
  have KL := Lib.hid (left_any (.mk dk di ds dl) w S vl 100001 ⟨d1, d2, d3, hvl⟩ (by omega))
  obtain ⟨da, dc, rfl, _⟩ := hvl
  have KL' : Hid (Calls Tryz.prog 39 #[.agg #[.int .i64 dk, .int .i64 di, .string ds, .slice da dl.length dc], .int .i64 100001] w fun e w' => e = .returned (.int .i64 ((100001 - numT (.mk dk di ds dl) : Nat) : Int)) ∧ Below w.heap.size w w') := KL
  have HD : Hid (((100001 - numT (.mk dk di ds dl) : Nat) : Int) = 0 ↔ 100001 ≤ numT (.mk dk di ds dl)) := Lib.hid (by omega)
  obtain ⟨a0, c1, e0, hc1, hm, _⟩ := hv
  cases e0
  unfold maxLen at hm
  simp only [List.length_cons, List.length_nil] at hc1
  have hbl : b < w.heap.size := World.block_lt_of_cell? _ _ c0'
  generalize numT (.mk dk di ds dl) = N at *
  clear KL
  go_enter Tryz.func21, Tryz.ntmps21
  go_wp2
  go_loopw [3, 4] (fun nv ix wr => (nv = .int .i64 100001 ∧ ix = .int .i64 0 ∧ wr = w) ∨ (∃ m : Nat, nv = .int .i64 m ∧ ix = .int .i64 1 ∧ (m : Int) = ((100001 - N : Nat) : Int) ∧ Below w.heap.size w wr)) (fun _ ix _ => 1 - (intOf ix).toNat)
  case atStart => exact .inl ⟨rfl, rfl, rfl⟩
  case round =>
    rcases hrel with ⟨rfl, rfl, rfl⟩ | ⟨m, rfl, rfl, hm2, hb⟩
    · go_wp2_with fail
      refine KL'.out.mono ?_
      rintro e w2 ⟨rfl, hb2⟩
      have HB2 := Lib.hid hb2
      clear hb2 c0' c1' c2' c3'
      go_wp2
      go_roundw
      case rel => exact .inr ⟨100001 - N, rfl, rfl, rfl, HB2.out⟩
      case measure => simp [intOf]
    · have HB2 := Lib.hid hb
      by_cases h0 : m = 0
      · subst h0
        have HR : Hid (decide (100001 ≤ N) = true) := Lib.hid (decide_eq_true (by omega))
        clear hb hm2
        go_wp2
        go_ret
        exact ⟨by rw [HR.out]; rfl, HB2.out⟩
      · have HR : Hid (decide (100001 ≤ N) = false) := Lib.hid (decide_eq_false (by omega))
        have hm0 : ((m : Int) == 0) = false := by simpa using h0
        clear hb hm2
        go_wp2
        all_goals
          go_ret
          exact ⟨by rw [HR.out]; first | rfl | simp [h0], HB2.out⟩
end Go.Proofs.YtjofdlnopchaeaaGreatDoor.Core

/-
How large an expression's datum is, and that Make answers the expression that its datum was told of. No condition.
-/
namespace Go.Proofs.YtjofdlnopchaeaaGreatDoor.Core
open Go.ChangeShapes Go.WideShapes Go.ChangeAt Go.RowKit Go.Deep
open Dat (PT ok64 RepV RepS RowX numT numsT)
theorem ins_box {w : World} {S : Nat → Prop} {k i : Int} {s : ByteArray} {l : List PT} {v : Value} {b : Nat} {ty : TypeId} (h : w.heap[b]? = some (.cells #[.int .i64 k, .int .i64 i, .string s, v] ty)) (hv : InV w S (.mk k i s l) v) : InS w (fun _ => True) [.mk k i s l] (.slice (some ⟨b, 0, none⟩) 1 1) := by
  obtain ⟨h1, h2, h3, h4⟩ := hv
  have h5 : InS w (fun _ => True) l v := insTo h4 fun _ _ _ => trivial
  obtain ⟨a, c, rfl, h6⟩ := h5
  refine ⟨_, _, rfl, Nat.le_refl _, by decide, (fun h => by cases h), .inr ⟨b, 0, rfl, trivial, ?_⟩⟩
  refine ⟨inD_mk.2 ⟨h1, h2, h3, ?_, ?_, ?_, _, ?_, a, c, rfl, h6⟩, trivial⟩
  all_goals (rw [Lib.cell_of_heap h]; rfl)
theorem pe0_in {W : World} {S : Nat → Prop} : InF W S PE0 (.slice none 0 0) (.slice none 0 0) (.slice none 0 0) :=
  ⟨⟨by constructor <;> decide, by decide, inN_nil⟩, ⟨by constructor <;> decide, by constructor <;> decide, by decide, none, 0, rfl, Nat.le_refl _, Nat.zero_le _, fun _ => rfl, .inl rfl⟩, inK_nil⟩
end Go.Proofs.YtjofdlnopchaeaaGreatDoor.Core
