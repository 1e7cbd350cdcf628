/-
Texts K29, K30, K31, one behind the other (a claim bears sixty files). Conditions: as each says.
-/
import Derived.Test.YtjofdlnopchaeaaGreatDoorK28
import Derived.Test.YtjofdlnopchaeaaGreatDoorK19
import Derived.StillTailTactics
import Derived.IntWalk
import Derived.Deep.AppendLies
import Derived.Lib.ItoaMem
import Derived.Deep.RegionHeld3

/-
Package core's gather: how often each name stands in an expression. No condition.
-/
namespace Go.Proofs.YtjofdlnopchaeaaGreatDoor.Core
open Go.ChangeShapes Go.WideShapes Go.ChangeAt Go.RowKit Go.Deep
open Dat (PT ok64)
set_option maxRecDepth 100000

mutual
/-- How large an expression is: its parts and their names. -/
def sizeE : PE → Nat
  | .mk _ _ ns _ l => 1 + ns.length + sizeEs l
def sizeEs : List PE → Nat
  | [] => 0
  | t :: l => sizeE t + sizeEs l
end
/-- A name once more. -/
def incM (m : ByteArray → Option Int) (s : ByteArray) : ByteArray → Option Int := setM m s ((m s).getD 0 + 1)
def gatN : (ByteArray → Option Int) → List ByteArray → ByteArray → Option Int
  | m, [] => m
  | m, s :: l => gatN (incM m s) l
mutual
/-- The names' counts behind an expression. -/
def gatE : (ByteArray → Option Int) → PE → ByteArray → Option Int
  | m, .mk k nm ns _ l => gatEs (gatN (if k = 7 then m else incM m nm) ns) l
def gatEs : (ByteArray → Option Int) → List PE → ByteArray → Option Int
  | m, [] => m
  | m, t :: l => gatEs (gatE m t) l
end
theorem gatN_snoc : ∀ (l : List ByteArray) (s : ByteArray) (m : ByteArray → Option Int), gatN m (l ++ [s]) = incM (gatN m l) s
  | [], _, _ => rfl
  | t :: l, s, m => gatN_snoc l s (incM m t)
theorem gatEs_snoc : ∀ (l : List PE) (t : PE) (m : ByteArray → Option Int), gatEs m (l ++ [t]) = gatE (gatEs m l) t
  | [], t, m => by simp only [List.nil_append, gatEs]
  | u :: l, t, m => by simp only [List.cons_append, gatEs]; exact gatEs_snoc l t _
theorem sizeEs_snoc : ∀ (l : List PE) (t : PE), sizeEs (l ++ [t]) = sizeEs l + sizeE t
  | [], t => by simp [sizeEs]
  | u :: l, t => by simp only [List.cons_append, sizeEs, sizeEs_snoc l t]; omega
theorem sizeEs_take (l : List PE) (j : Nat) : sizeEs (l.take j) ≤ sizeEs l := by
  induction l generalizing j with
  | nil => simp [sizeEs]
  | cons t l ih =>
    cases j with
    | zero => simp [sizeEs]
    | succ j => simp only [List.take_succ_cons, sizeEs]; have := ih j; omega
theorem KP.trans {a b c : World} {ob : Option Nat} (h : KP a ob b) (g : KP b ob c) : KP a ob c := h.put g.1 g.2
/-- Counts: no more than so many. -/
def Cnt (w : World) (b n : Nat) (m : ByteArray → Option Int) : Prop := MapI w b n m ∧ ∀ s, 0 ≤ (m s).getD 0 ∧ (m s).getD 0 ≤ n
theorem Cnt.inc {w : World} {b n : Nat} {m : ByteArray → Option Int} {s : ByteArray} (h : MapI w b (n + 1) (setM m s ((m s).getD 0 + 1))) (hc : ∀ s, 0 ≤ (m s).getD 0 ∧ (m s).getD 0 ≤ (n : Int)) : Cnt w b (n + 1) (incM m s) :=
  ⟨h, fun t => by
    unfold incM setM
    by_cases e : t = s
    · subst e; have := hc t; simp; omega
    · have := hc t; simp [e]; omega⟩
theorem Cnt.mono {w : World} {b n n' : Nat} {m : ByteArray → Option Int} (h : Cnt w b n m) (hn : n ≤ n') : Cnt w b n' m := ⟨h.1.mono hn, fun s => by have := h.2 s; omega⟩
theorem Cnt.at {w w' : World} {b n : Nat} {m : ByteArray → Option Int} (h : Cnt w b n m) (hb : w'.heap[b]? = w.heap[b]?) : Cnt w' b n m := ⟨h.1.at hb, h.2⟩
theorem MapI.store {w : World} {b n : Nat} {m : ByteArray → Option Int} (h : MapI w b n m) (hn : n < maxLen) (s : ByteArray) (c : Int) (hs : s.size ≤ maxLen) (hc : ok64 c) : ∃ w', (Instr.mapUpdate 49 (.map (some b)) (.string s) (.int .i64 c)).run Tryz.prog w = .ok () w' ∧ MapI w' b (n + 1) (setM m s c) ∧ w.grownBy w' (some b) := by
  obtain ⟨D, h1, h2⟩ := h
  obtain ⟨w', hrun, h3, h4⟩ := h1.update lawT Tryz.underlying49 hn (key_s hs) (plainElem_int Tryz.underlying3 (WalkArith.wf_i64 hc))
  refine ⟨w', hrun, ⟨_, h3, fun t ht => ?_⟩, h4⟩
  by_cases e : t = s
  · subst e
    rw [Maps.atKey_put_same h1.isMap (show WideAt.IsKeyLit (.string t.data.toList) from trivial), Maps.has_put_same h1.isMap (show WideAt.IsKeyLit (.string t.data.toList) from trivial)]
    simp [setM]
  · have hne : (Lit.string t.data.toList) ≠ .string s.data.toList := by
      intro h
      simp only [Lit.string.injEq] at h
      exact e (Go.WideShapes.bytes_inj h)
    rw [Maps.atKey_put_other hne, Maps.has_put_other hne]
    simpa [setM, e] using h2 t ht
def GatherOk (t : PE) : Prop := ∀ (w : World) (S : Nat → Prop) (rb sb n : Nat) (bv nv : Value) (m : ByteArray → Option Int) (vn vd vk : Value), InF w S t vn vd vk → (∀ b, S b → b < w.heap.size ∧ b ≠ sb) → w.heap[rb]? = some (.cells #[.map (some sb), bv, nv] 52 (0, 0)) → rb ≠ sb → Cnt w sb n m → n + sizeE t ≤ 1000000000 →
  Calls Tryz.prog 26 #[.pointer (some ⟨rb, 0, none⟩), t.val vn vd vk] w fun e w' => e = .returned (.tuple #[]) ∧ Cnt w' sb (n + sizeE t) (gatE m t) ∧ KP w (some sb) w'
set_option maxHeartbeats 1000000 in
theorem gather_no (k : Int) (hk : k ≠ 7) (nm : ByteArray) (ns : List ByteArray) (ck ci : Int) (cs : ByteArray) (cl : List PT) (l : List PE) (ih : ∀ t ∈ l, GatherOk t) : GatherOk (.mk k nm ns (.mk ck ci cs cl) l) := by
  intro w S rb sb n bv nv m vn vd vk h hS hr hne hC hsz
  have HI := Lib.hid h
  have HK := Lib.hid h.2.2
  have IH := Lib.hid ih
  have HNMS := Lib.hid h.1.2.1
  obtain ⟨⟨_, _, an, cn, rfl, hln, hmn, _, hrn⟩, ⟨_, _, _, ad, cd, rfl, hld, hmd, _⟩, ak, c, rfl, hl, hm, _⟩ := h
  have HRN := Lib.hid hrn
  unfold maxLen at hmn hm hmd
  show Calls Tryz.prog 26 #[.pointer (some ⟨rb, 0, none⟩), .agg #[.int .i64 k, .string nm, .slice an ns.length cn, .int .i64 ck, .int .i64 ci, .string cs, .slice ad cl.length cd, .slice ak l.length c]] w _
  generalize hw0 : w.alloc (.cells #[.int .i64 k, .string nm, .slice an ns.length cn, .int .i64 ck, .int .i64 ci, .string cs, .slice ad cl.length cd, .slice ak l.length c] 28) = w0
  have HW0 := Lib.hid hw0
  have hrl := lt_of_block hr
  have HB0 : Hid (KP w (some sb) w0) := Lib.hid (by rw [← hw0]; exact (KP.refl _ _).alloc _)
  have HZ0 : Hid (w0.heap.size = w.heap.size + 1) := Lib.hid (by rw [← hw0, size_new])
  have Z0 : Hid (w0.heap[w.heap.size]? = some (.cells #[.int .i64 k, .string nm, .slice an ns.length cn, .int .i64 ck, .int .i64 ci, .string cs, .slice ad cl.length cd, .slice ak l.length c] 28 (0, 0))) := Lib.hid (by rw [← hw0]; exact heap_alloc_new _ _)
  have HSB : Hid (sb < w.heap.size) := Lib.hid hC.1.lt
  have HR0 : Hid (∀ W, KP w0 (some sb) W → W.heap[rb]? = some (.cells #[.map (some sb), bv, nv] 52 (0, 0))) := Lib.hid fun W hW => (hW.2 rb (by rw [HZ0.out]; omega) (by simpa using hne)).trans ((HB0.out.2 rb hrl (by simpa using hne)).trans hr)
  have HX0 : Hid (∀ W, KP w0 (some sb) W → W.heap[w.heap.size]? = some (.cells #[.int .i64 k, .string nm, .slice an ns.length cn, .int .i64 ck, .int .i64 ci, .string cs, .slice ad cl.length cd, .slice ak l.length c] 28 (0, 0))) := Lib.hid fun W hW => (hW.2 w.heap.size (by rw [HZ0.out]; omega) (by have := HSB.out; simp; omega)).trans Z0.out
  have HC0 : Hid (Cnt w0 sb n m) := Lib.hid (hC.at (by rw [← hw0]; exact Below.heap_alloc _ _ _ HSB.out))
  have HMV : Hid (∀ W, KP w0 (some sb) W → InF W S (.mk k nm ns (.mk ck ci cs cl) l) (.slice an ns.length cn) (.slice ad cl.length cd) (.slice ak l.length c) ∧ ∀ b, S b → b < W.heap.size ∧ b ≠ sb) := Lib.hid fun W hW =>
    ⟨HI.out.move (fun _ h _ => h) fun b o v hs hc => by
      have hb := hS b hs
      rw [World.cell?_of_block (w := w) (a := ⟨b, o, none⟩) ((hW.2 b (by rw [HZ0.out]; omega) (by simpa using hb.2)).trans (HB0.out.2 b hb.1 (by simpa using hb.2)))]; exact hc, fun b h => ⟨by have := (hS b h).1; have := hW.1.size; rw [HZ0.out] at this; omega, (hS b h).2⟩⟩
  have KP0 : Hid (KP w0 (some sb) w0) := Lib.hid (KP.refl _ _)
  rw [sizeE] at hsz
  clear hw0 hr hC hrn ih
  have hk' : (k != 7) = true := by simpa using hk
  have r0 : w0.cell? ⟨rb, 0, none⟩ = some (.map (some sb)) := by rw [Lib.cell_of_heap (HR0.out _ KP0.out)]; rfl
  have hlk := HC0.out.1.look nm HNMS.out
  have hcc := HC0.out.2 nm
  obtain ⟨hc0, hc1⟩ := hcc
  have HOK : Hid (ok64 ((m nm).getD 0 + 1)) := Lib.hid ⟨by omega, by omega⟩
  have HLT : Hid (n < maxLen) := Lib.hid (by unfold maxLen; omega)
  have y0 : w0.cell? ⟨w.heap.size, 0, none⟩ = some (.int .i64 k) := by rw [Lib.cell_of_heap Z0.out]; rfl
  have y1 : w0.cell? ⟨w.heap.size, 1, none⟩ = some (.string nm) := by rw [Lib.cell_of_heap Z0.out]; rfl
  have HKN := Lib.hid hk
  clear hk
  have HCI := Lib.hid (fun w' h => Cnt.inc (w := w') (s := nm) (b := sb) (n := n) (m := m) h HC0.out.2)
  have hlk2 := (HC0.out.1.drewn).look nm HNMS.out
  have CC : Hid (∀ W, KP w0 (some sb) W → W.cell? ⟨rb, 0, none⟩ = some (.map (some sb)) ∧ W.cell? ⟨w.heap.size, 1, none⟩ = some (.string nm) ∧ KP w0 (some sb) W) := Lib.hid fun W hW =>
    ⟨by rw [Lib.cell_of_heap (HR0.out _ hW)]; rfl, by rw [Lib.cell_of_heap (HX0.out _ hW)]; rfl, hW⟩
  have KP1 := KP0.out
  generalize (m nm).getD 0 = cc at *
  have hwrap : IntKind.i64.wrap (cc + 1) = cc + 1 := IntWalk.i64_in _ (by omega)
  obtain ⟨w1, hrun, hm1, hg1⟩ := (HC0.out.1.drewn).store HLT.out nm _ HNMS.out HOK.out
  have kp1 := (KP1.drewn).put ⟨hg1.os, hg1.tape, hg1.output, hg1.size, fun _ h => absurd h (Nat.not_lt_zero _)⟩ hg1.block
  have HM1 := Lib.hid hm1
  clear hm1 hg1
  go_enter Tryz.func26, Tryz.ntmps26
  go_wp2
  rw [HW0.out]
  go_region_held3 (fun W => W.cell? ⟨rb, 0, none⟩ = some (.map (some sb)) ∧ W.cell? ⟨w.heap.size, 1, none⟩ = some (.string nm) ∧ KP w0 (some sb) W)
    (first | (with_reducible exact CC.out _ (by assumption)) | (with_reducible exact CC.out _ (KP.drewn (by assumption))))
    (fail)
  have HC1 : Hid (Cnt w1 sb (n + 1) (if k = 7 then m else incM m nm)) := Lib.hid (by rw [if_neg HKN.out]; exact HCI.out w1 HM1.out)
  have HK1 := Lib.hid kp1
  clear kp1 hlk hlk2 hrun KP1 y0 y1 r0 hwrap hc0 hc1
  have x2 : w1.cell? ⟨w.heap.size, 2, none⟩ = some (.slice an ns.length cn) := by rw [Lib.cell_of_heap (HX0.out _ HK1.out)]; rfl
  go_wp2
  go_loopw [22] (fun ix wr => ∃ j : Nat, j ≤ ns.length ∧ ix = .int .i64 j ∧ Cnt wr sb (n + 1 + j) (gatN (if k = 7 then m else incM m nm) (ns.take j)) ∧ KP w0 (some sb) wr) (fun i _ => ns.length - (intOf i).toNat)
  case atStart => exact ⟨0, Nat.zero_le _, rfl, by rw [List.take_zero, gatN]; exact HC1.out, HK1.out⟩
  case round =>
    obtain ⟨j, hj, rfl, hcnt, hkp⟩ := hrel
    have HCN := Lib.hid hcnt
    have HKP := Lib.hid hkp
    by_cases hlt : j < ns.length
    · obtain ⟨b, o, rfl, hs, hc⟩ := HRN.out.resolve_left (by rintro rfl; cases hlt)
      have hb := hS b hs
      have c0 : wr.cell? ⟨b, o + j, none⟩ = some (.string ns[j]) := by
        rw [World.cell?_of_block (w := w) (a := ⟨b, o + j, none⟩) ((hkp.2 b (by rw [HZ0.out]; omega) (by simpa using hb.2)).trans (HB0.out.2 b hb.1 (by simpa using hb.2)))]; exact (hc j hlt).1
      have hsz1 := (hc j hlt).2
      have HTS : Hid (gatN (if k = 7 then m else incM m nm) (ns.take (j + 1)) = incM (gatN (if k = 7 then m else incM m nm) (ns.take j)) ns[j]) := Lib.hid (by rw [List.take_succ_eq_append_getElem hlt, gatN_snoc])
      have r0 : wr.cell? ⟨rb, 0, none⟩ = some (.map (some sb)) := by rw [Lib.cell_of_heap (HR0.out _ hkp)]; rfl
      have hcc := hcnt.2 ns[j]
      have hbl := World.block_lt_of_cell? _ _ c0
      have hrbl := World.block_lt_of_cell? _ _ r0
      clear hc hcnt hkp
      generalize gatN (if k = 7 then m else incM m nm) (ns.take j) = m' at *
      generalize ns[j] = t at *
      obtain ⟨hc0, hc1⟩ := hcc
      have HOK : Hid (ok64 ((m' t).getD 0 + 1)) := Lib.hid ⟨by omega, by omega⟩
      have HLT : Hid (n + 1 + j < maxLen) := Lib.hid (by unfold maxLen; omega)
      go_wp2_with (first | (at_lookup; refine wpList_look_m _ rfl _ _ rfl sb (n + 1 + j) m' rfl HCN.out.1 t rfl hsz1 ?_) | (at_mapUpdate; refine wpList_store_m _ rfl _ _ _ rfl sb (n + 1 + j) m' rfl HCN.out.1 HLT.out t ((m' t).getD 0 + 1) rfl rfl hsz1 HOK.out ?_; intro w4 hm4 hg4))
      have HC4 := Lib.hid (Cnt.inc hm4 HCN.out.2)
      have HK4 := Lib.hid (HKP.out.put ⟨hg4.os, hg4.tape, hg4.output, hg4.size, fun _ h => absurd h (Nat.not_lt_zero _)⟩ hg4.block)
      clear hm4 hg4 hc0 hc1
      go_wp2
      go_roundw
      case rel => exact ⟨j + 1, by omega, by go_num, by rw [HTS.out]; exact HC4.out, HK4.out⟩
      case measure => simp [intOf]; omega
    · obtain rfl : j = ns.length := by omega
      rw [List.take_length] at hcnt
      have HC2 := Lib.hid hcnt
      have x7 : wr.cell? ⟨w.heap.size, 7, none⟩ = some (.slice ak l.length c) := by rw [Lib.cell_of_heap (HX0.out _ hkp)]; rfl
      clear hcnt hkp x2
      go_wp2
      go_loopw [37] (fun ix wr => ∃ j : Nat, j ≤ l.length ∧ ix = .int .i64 j ∧ Cnt wr sb (n + 1 + ns.length + sizeEs (l.take j)) (gatEs (gatN (if k = 7 then m else incM m nm) ns) (l.take j)) ∧ KP w0 (some sb) wr) (fun i _ => l.length - (intOf i).toNat)
      case atStart => exact ⟨0, Nat.zero_le _, rfl, by rw [List.take_zero, gatEs, sizeEs]; exact HC2.out, HKP.out⟩
      case round =>
        rename_i wr0
        clear x7
        obtain ⟨j, hj, rfl, hcnt, hkp⟩ := hrel
        have HCN3 := Lib.hid hcnt
        have HKP3 := Lib.hid hkp
        by_cases hlt : j < l.length
        · obtain ⟨b, o, c', ea, _, _, hS1, hE1⟩ := (HMV.out _ hkp).1.2.2.item j hlt
          cases ea
          have HTS : Hid (gatEs (gatN (if k = 7 then m else incM m nm) ns) (l.take (j + 1)) = gatE (gatEs (gatN (if k = 7 then m else incM m nm) ns) (l.take j)) l[j]) := Lib.hid (by rw [List.take_succ_eq_append_getElem hlt, gatEs_snoc])
          have HTZ : Hid (sizeEs (l.take (j + 1)) = sizeEs (l.take j) + sizeE l[j]) := Lib.hid (by rw [List.take_succ_eq_append_getElem hlt, sizeEs_snoc])
          have hIHj := IH.out l[j] (List.getElem_mem hlt)
          have hzz : sizeEs (l.take j) + sizeE l[j] ≤ sizeEs l := by rw [← HTZ.out]; exact sizeEs_take _ _
          have hS3 := (HMV.out _ hkp).2
          have HR3 := Lib.hid (HR0.out _ hkp)
          clear hcnt hkp
          generalize gatEs (gatN (if k = 7 then m else incM m nm) ns) (l.take j) = m' at *
          generalize sizeEs (l.take j) = z at *
          generalize l[j] = t at hE1 hIHj HTS HTZ hzz
          obtain ⟨tk, tn, tns, ⟨tck, tci, tcs, tcl⟩, tl⟩ := t
          obtain ⟨tvn, tvd, tvk, hF1, a0, a1, a2, a3, a4, a5, a6, a7⟩ := hE1.cells
          have hbb := World.block_lt_of_cell? _ _ a0
          have hrbl := lt_of_block HR3.out
          have KC := Lib.hid (fun o : Obj => hIHj (wr.alloc o) S rb sb (n + 1 + ns.length + z) bv nv m' tvn tvd tvk (hF1.below (bel_alloc' (Below.refl _ _) o)) (fun b h => ⟨by have := (hS3 b h).1; rw [size_new]; omega, (hS3 b h).2⟩) (Dat.blk_alloc HR3.out) hne (HCN3.out.at (Below.heap_alloc _ _ _ HCN3.out.1.lt)) (by omega))
          obtain ⟨⟨_, _, hn1'⟩, ⟨_, _, _, hd1'⟩, hk1'⟩ := hF1
          obtain ⟨_, _, rfl, -⟩ := hn1'
          obtain ⟨_, _, rfl, -⟩ := hd1'
          obtain ⟨_, _, rfl, -⟩ := hk1'
          unfold PE.val at KC
          generalize sizeE (.mk tk tn tns (.mk tck tci tcs tcl) tl) = z' at KC HTZ hzz
          generalize gatE m' (.mk tk tn tns (.mk tck tci tcs tcl) tl) = m3 at KC HTS
          clear hE1 hIHj hS3
          go_wp2_with fail
          refine (KC.out _).mono ?_
          rintro e w5 ⟨rfl, hc5, hk5⟩
          have HC5 := Lib.hid hc5
          have HK5 := Lib.hid ((HKP3.out.alloc _).trans hk5)
          clear hc5 hk5
          go_wp2
          go_roundw
          case rel => exact ⟨j + 1, by omega, by go_num, by rw [HTS.out, HTZ.out, ← Nat.add_assoc]; exact HC5.out, HK5.out⟩
          case measure => simp [intOf]; omega
        · obtain rfl : j = l.length := by omega
          rw [List.take_length] at hcnt
          have HCF : Hid (Cnt wr sb (n + sizeE (.mk k nm ns (.mk ck ci cs cl) l)) (gatE m (.mk k nm ns (.mk ck ci cs cl) l))) := Lib.hid (by
            rw [sizeE, gatE, show n + (1 + ns.length + sizeEs l) = n + 1 + ns.length + sizeEs l by omega]
            exact hcnt)
          clear hcnt hkp
          go_wp2
          go_end0
          exact ⟨rfl, HCF.out, HB0.out.trans HKP3.out⟩
set_option maxHeartbeats 1000000 in
theorem gather_7 (nm : ByteArray) (ns : List ByteArray) (ck ci : Int) (cs : ByteArray) (cl : List PT) (l : List PE) (ih : ∀ t ∈ l, GatherOk t) : GatherOk (.mk 7 nm ns (.mk ck ci cs cl) l) := by
  intro w S rb sb n bv nv m vn vd vk h hS hr hne hC hsz
  have HI := Lib.hid h
  have HK := Lib.hid h.2.2
  have IH := Lib.hid ih
  have HNMS := Lib.hid h.1.2.1
  obtain ⟨⟨_, _, an, cn, rfl, hln, hmn, _, hrn⟩, ⟨_, _, _, ad, cd, rfl, hld, hmd, _⟩, ak, c, rfl, hl, hm, _⟩ := h
  have HRN := Lib.hid hrn
  unfold maxLen at hmn hm hmd
  show Calls Tryz.prog 26 #[.pointer (some ⟨rb, 0, none⟩), .agg #[.int .i64 7, .string nm, .slice an ns.length cn, .int .i64 ck, .int .i64 ci, .string cs, .slice ad cl.length cd, .slice ak l.length c]] w _
  generalize hw0 : w.alloc (.cells #[.int .i64 7, .string nm, .slice an ns.length cn, .int .i64 ck, .int .i64 ci, .string cs, .slice ad cl.length cd, .slice ak l.length c] 28) = w0
  have HW0 := Lib.hid hw0
  have hrl := lt_of_block hr
  have HB0 : Hid (KP w (some sb) w0) := Lib.hid (by rw [← hw0]; exact (KP.refl _ _).alloc _)
  have HZ0 : Hid (w0.heap.size = w.heap.size + 1) := Lib.hid (by rw [← hw0, size_new])
  have Z0 : Hid (w0.heap[w.heap.size]? = some (.cells #[.int .i64 7, .string nm, .slice an ns.length cn, .int .i64 ck, .int .i64 ci, .string cs, .slice ad cl.length cd, .slice ak l.length c] 28 (0, 0))) := Lib.hid (by rw [← hw0]; exact heap_alloc_new _ _)
  have HSB : Hid (sb < w.heap.size) := Lib.hid hC.1.lt
  have HR0 : Hid (∀ W, KP w0 (some sb) W → W.heap[rb]? = some (.cells #[.map (some sb), bv, nv] 52 (0, 0))) := Lib.hid fun W hW => (hW.2 rb (by rw [HZ0.out]; omega) (by simpa using hne)).trans ((HB0.out.2 rb hrl (by simpa using hne)).trans hr)
  have HX0 : Hid (∀ W, KP w0 (some sb) W → W.heap[w.heap.size]? = some (.cells #[.int .i64 7, .string nm, .slice an ns.length cn, .int .i64 ck, .int .i64 ci, .string cs, .slice ad cl.length cd, .slice ak l.length c] 28 (0, 0))) := Lib.hid fun W hW => (hW.2 w.heap.size (by rw [HZ0.out]; omega) (by have := HSB.out; simp; omega)).trans Z0.out
  have HC0 : Hid (Cnt w0 sb n m) := Lib.hid (hC.at (by rw [← hw0]; exact Below.heap_alloc _ _ _ HSB.out))
  have HMV : Hid (∀ W, KP w0 (some sb) W → InF W S (.mk 7 nm ns (.mk ck ci cs cl) l) (.slice an ns.length cn) (.slice ad cl.length cd) (.slice ak l.length c) ∧ ∀ b, S b → b < W.heap.size ∧ b ≠ sb) := Lib.hid fun W hW =>
    ⟨HI.out.move (fun _ h _ => h) fun b o v hs hc => by
      have hb := hS b hs
      rw [World.cell?_of_block (w := w) (a := ⟨b, o, none⟩) ((hW.2 b (by rw [HZ0.out]; omega) (by simpa using hb.2)).trans (HB0.out.2 b hb.1 (by simpa using hb.2)))]; exact hc, fun b h => ⟨by have := (hS b h).1; have := hW.1.size; rw [HZ0.out] at this; omega, (hS b h).2⟩⟩
  have KP0 : Hid (KP w0 (some sb) w0) := Lib.hid (KP.refl _ _)
  rw [sizeE] at hsz
  clear hw0 hr hC hrn ih
  have HC1 : Hid (Cnt w0 sb (n + 1) m) := Lib.hid (HC0.out.mono (by omega))
  have HK1 := KP0
  go_enter Tryz.func26, Tryz.ntmps26
  go_wp2
  rw [HW0.out]
  have x2 : w0.cell? ⟨w.heap.size, 2, none⟩ = some (.slice an ns.length cn) := by rw [Lib.cell_of_heap (HX0.out _ HK1.out)]; rfl
  go_wp2
  go_loopw [22] (fun ix wr => ∃ j : Nat, j ≤ ns.length ∧ ix = .int .i64 j ∧ Cnt wr sb (n + 1 + j) (gatN m (ns.take j)) ∧ KP w0 (some sb) wr) (fun i _ => ns.length - (intOf i).toNat)
  case atStart => exact ⟨0, Nat.zero_le _, rfl, by rw [List.take_zero, gatN]; exact HC1.out, HK1.out⟩
  case round =>
    obtain ⟨j, hj, rfl, hcnt, hkp⟩ := hrel
    have HCN := Lib.hid hcnt
    have HKP := Lib.hid hkp
    by_cases hlt : j < ns.length
    · obtain ⟨b, o, rfl, hs, hc⟩ := HRN.out.resolve_left (by rintro rfl; cases hlt)
      have hb := hS b hs
      have c0 : wr.cell? ⟨b, o + j, none⟩ = some (.string ns[j]) := by
        rw [World.cell?_of_block (w := w) (a := ⟨b, o + j, none⟩) ((hkp.2 b (by rw [HZ0.out]; omega) (by simpa using hb.2)).trans (HB0.out.2 b hb.1 (by simpa using hb.2)))]; exact (hc j hlt).1
      have hsz1 := (hc j hlt).2
      have HTS : Hid (gatN m (ns.take (j + 1)) = incM (gatN m (ns.take j)) ns[j]) := Lib.hid (by rw [List.take_succ_eq_append_getElem hlt, gatN_snoc])
      have r0 : wr.cell? ⟨rb, 0, none⟩ = some (.map (some sb)) := by rw [Lib.cell_of_heap (HR0.out _ hkp)]; rfl
      have hcc := hcnt.2 ns[j]
      have hbl := World.block_lt_of_cell? _ _ c0
      have hrbl := World.block_lt_of_cell? _ _ r0
      clear hc hcnt hkp
      generalize gatN m (ns.take j) = m' at *
      generalize ns[j] = t at *
      obtain ⟨hc0, hc1⟩ := hcc
      have HOK : Hid (ok64 ((m' t).getD 0 + 1)) := Lib.hid ⟨by omega, by omega⟩
      have HLT : Hid (n + 1 + j < maxLen) := Lib.hid (by unfold maxLen; omega)
      go_wp2_with (first | (at_lookup; refine wpList_look_m _ rfl _ _ rfl sb (n + 1 + j) m' rfl HCN.out.1 t rfl hsz1 ?_) | (at_mapUpdate; refine wpList_store_m _ rfl _ _ _ rfl sb (n + 1 + j) m' rfl HCN.out.1 HLT.out t ((m' t).getD 0 + 1) rfl rfl hsz1 HOK.out ?_; intro w4 hm4 hg4))
      have HC4 := Lib.hid (Cnt.inc hm4 HCN.out.2)
      have HK4 := Lib.hid (HKP.out.put ⟨hg4.os, hg4.tape, hg4.output, hg4.size, fun _ h => absurd h (Nat.not_lt_zero _)⟩ hg4.block)
      clear hm4 hg4 hc0 hc1
      go_wp2
      go_roundw
      case rel => exact ⟨j + 1, by omega, by go_num, by rw [HTS.out]; exact HC4.out, HK4.out⟩
      case measure => simp [intOf]; omega
    · obtain rfl : j = ns.length := by omega
      rw [List.take_length] at hcnt
      have HC2 := Lib.hid hcnt
      have x7 : wr.cell? ⟨w.heap.size, 7, none⟩ = some (.slice ak l.length c) := by rw [Lib.cell_of_heap (HX0.out _ hkp)]; rfl
      clear hcnt hkp x2
      go_wp2
      go_loopw [37] (fun ix wr => ∃ j : Nat, j ≤ l.length ∧ ix = .int .i64 j ∧ Cnt wr sb (n + 1 + ns.length + sizeEs (l.take j)) (gatEs (gatN m ns) (l.take j)) ∧ KP w0 (some sb) wr) (fun i _ => l.length - (intOf i).toNat)
      case atStart => exact ⟨0, Nat.zero_le _, rfl, by rw [List.take_zero, gatEs, sizeEs]; exact HC2.out, HKP.out⟩
      case round =>
        rename_i wr0
        clear x7
        obtain ⟨j, hj, rfl, hcnt, hkp⟩ := hrel
        have HCN3 := Lib.hid hcnt
        have HKP3 := Lib.hid hkp
        by_cases hlt : j < l.length
        · obtain ⟨b, o, c', ea, _, _, hS1, hE1⟩ := (HMV.out _ hkp).1.2.2.item j hlt
          cases ea
          have HTS : Hid (gatEs (gatN m ns) (l.take (j + 1)) = gatE (gatEs (gatN m ns) (l.take j)) l[j]) := Lib.hid (by rw [List.take_succ_eq_append_getElem hlt, gatEs_snoc])
          have HTZ : Hid (sizeEs (l.take (j + 1)) = sizeEs (l.take j) + sizeE l[j]) := Lib.hid (by rw [List.take_succ_eq_append_getElem hlt, sizeEs_snoc])
          have hIHj := IH.out l[j] (List.getElem_mem hlt)
          have hzz : sizeEs (l.take j) + sizeE l[j] ≤ sizeEs l := by rw [← HTZ.out]; exact sizeEs_take _ _
          have hS3 := (HMV.out _ hkp).2
          have HR3 := Lib.hid (HR0.out _ hkp)
          clear hcnt hkp
          generalize gatEs (gatN m ns) (l.take j) = m' at *
          generalize sizeEs (l.take j) = z at *
          generalize l[j] = t at hE1 hIHj HTS HTZ hzz
          obtain ⟨tk, tn, tns, ⟨tck, tci, tcs, tcl⟩, tl⟩ := t
          obtain ⟨tvn, tvd, tvk, hF1, a0, a1, a2, a3, a4, a5, a6, a7⟩ := hE1.cells
          have hbb := World.block_lt_of_cell? _ _ a0
          have hrbl := lt_of_block HR3.out
          have KC := Lib.hid (fun o : Obj => hIHj (wr.alloc o) S rb sb (n + 1 + ns.length + z) bv nv m' tvn tvd tvk (hF1.below (bel_alloc' (Below.refl _ _) o)) (fun b h => ⟨by have := (hS3 b h).1; rw [size_new]; omega, (hS3 b h).2⟩) (Dat.blk_alloc HR3.out) hne (HCN3.out.at (Below.heap_alloc _ _ _ HCN3.out.1.lt)) (by omega))
          obtain ⟨⟨_, _, hn1'⟩, ⟨_, _, _, hd1'⟩, hk1'⟩ := hF1
          obtain ⟨_, _, rfl, -⟩ := hn1'
          obtain ⟨_, _, rfl, -⟩ := hd1'
          obtain ⟨_, _, rfl, -⟩ := hk1'
          unfold PE.val at KC
          generalize sizeE (.mk tk tn tns (.mk tck tci tcs tcl) tl) = z' at KC HTZ hzz
          generalize gatE m' (.mk tk tn tns (.mk tck tci tcs tcl) tl) = m3 at KC HTS
          clear hE1 hIHj hS3
          go_wp2_with fail
          refine (KC.out _).mono ?_
          rintro e w5 ⟨rfl, hc5, hk5⟩
          have HC5 := Lib.hid hc5
          have HK5 := Lib.hid ((HKP3.out.alloc _).trans hk5)
          clear hc5 hk5
          go_wp2
          go_roundw
          case rel => exact ⟨j + 1, by omega, by go_num, by rw [HTS.out, HTZ.out, ← Nat.add_assoc]; exact HC5.out, HK5.out⟩
          case measure => simp [intOf]; omega
        · obtain rfl : j = l.length := by omega
          rw [List.take_length] at hcnt
          have HCF : Hid (Cnt wr sb (n + sizeE (.mk 7 nm ns (.mk ck ci cs cl) l)) (gatE m (.mk 7 nm ns (.mk ck ci cs cl) l))) := Lib.hid (by
            rw [sizeE, gatE, if_pos rfl, show n + (1 + ns.length + sizeEs l) = n + 1 + ns.length + sizeEs l by omega]
            exact hcnt)
          clear hcnt hkp
          go_wp2
          go_end0
          exact ⟨rfl, HCF.out, HB0.out.trans HKP3.out⟩
theorem gather_step (k : Int) (nm : ByteArray) (ns : List ByteArray) (ck ci : Int) (cs : ByteArray) (cl : List PT) (l : List PE) (ih : ∀ t ∈ l, GatherOk t) : GatherOk (.mk k nm ns (.mk ck ci cs cl) l) := by
  by_cases hk : k = 7
  · subst hk; exact gather_7 nm ns ck ci cs cl l ih
  · exact gather_no k hk nm ns ck ci cs cl l ih
mutual
theorem gather_any : ∀ t : PE, GatherOk t
  | .mk k nm ns (.mk ck ci cs cl) l => gather_step k nm ns ck ci cs cl l (gather_all l)
theorem gather_all : ∀ l : List PE, ∀ t ∈ l, GatherOk t
  | [], t, h => by cases h
  | u :: l, t, h => (List.mem_cons.1 h).elim (fun e => e ▸ gather_any u) (fun h => gather_all l t h)
end
end Go.Proofs.YtjofdlnopchaeaaGreatDoor.Core

/-
New numbers, as a relation; what the renamer's memory holds; package core's numbers and nameNow. No condition.
-/
namespace Go.Proofs.YtjofdlnopchaeaaGreatDoor.Core
open Go.ChangeShapes Go.WideShapes Go.ChangeAt Go.RowKit Go.Deep
open Dat (PT ok64)
set_option maxRecDepth 100000

/-- .. as a loop finds them. -/
inductive NumsL (U : List ByteArray) : Nat → List Nat → Nat → Prop
  | nil (n : Nat) : NumsL U n [] n
  | skip {n n' : Nat} {l : List Nat} : NumsL U n l n' → numS n' ∈ U → NumsL U n l (n' + 1)
  | take {n n' : Nat} {l : List Nat} : NumsL U n l n' → numS n' ∉ U → NumsL U n (l ++ [n']) (n' + 1)
theorem NumsL.le {U : List ByteArray} {n n' : Nat} {l : List Nat} (h : NumsL U n l n') : n + l.length ≤ n' := by
  induction h with
  | nil => simp
  | skip _ _ ih => omega
  | take _ _ ih => simp; omega
open Classical in
/-- How many of a row are names of numbers from n on. -/
noncomputable def restN (U : List ByteArray) (n : Nat) : Nat := (U.filter fun u => decide (∃ i, n ≤ i ∧ u = numS i)).length
theorem digit_val : ∀ k : Fin 10, (UInt8.ofNat (48 + k.val)).toNat = 48 + k.val := by decide +kernel
def undecN (l : List UInt8) : Nat := l.foldl (fun a c => a * 10 + (c.toNat - 48)) 0
theorem undec_dec (u : Nat) : undecN (Lib.decDigits u) = u := by
  induction u using Nat.strongRecOn with
  | _ u ih =>
    rw [Lib.decDigits]
    split
    · have := digit_val ⟨u, by omega⟩
      simp only at this
      simp only [undecN, List.foldl_cons, List.foldl_nil]
      omega
    · have t := digit_val ⟨u % 10, by omega⟩
      simp only at t
      have h3 := ih (u / 10) (by omega)
      unfold undecN at h3 ⊢
      rw [List.foldl_append, h3]
      simp only [List.foldl_cons, List.foldl_nil]
      omega
theorem numS_inj {a b : Nat} (h : numS a = numS b) : a = b := by
  have h2 := congrArg (fun x : ByteArray => x.data.toList) h
  simp only [numS, List.cons_append, List.nil_append, List.cons.injEq, true_and] at h2
  rw [Lib.itoa_nonneg, Lib.itoa_nonneg] at h2
  have h3 := congrArg undecN h2
  rwa [undec_dec, undec_dec] at h3
theorem restN_le (U : List ByteArray) (n : Nat) : restN U (n + 1) ≤ restN U n := by
  unfold restN
  induction U with
  | nil => simp
  | cons u U ih =>
    simp only [List.filter_cons]
    by_cases h1 : ∃ i, n + 1 ≤ i ∧ u = numS i
    · have h2 : ∃ i, n ≤ i ∧ u = numS i := by obtain ⟨i, h, e⟩ := h1; exact ⟨i, by omega, e⟩
      simp only [h1, h2, decide_true, if_true, List.length_cons]
      omega
    · simp only [h1, decide_false, Bool.false_eq_true, if_false]
      split
      · simp only [List.length_cons]; omega
      · exact ih
theorem restN_lt {U : List ByteArray} {n : Nat} (h : numS n ∈ U) : restN U (n + 1) < restN U n := by
  unfold restN
  induction U with
  | nil => cases h
  | cons u U ih =>
    simp only [List.filter_cons]
    have hle := restN_le U n
    unfold restN at hle
    rcases List.mem_cons.1 h with e | h
    · have h2 : ∃ i, n ≤ i ∧ u = numS i := ⟨n, Nat.le_refl _, e.symm⟩
      have h1 : ¬ ∃ i, n + 1 ≤ i ∧ u = numS i := by
        rintro ⟨i, hi, e2⟩
        rw [← e] at e2
        have := numS_inj e2
        omega
      simp only [h1, h2, decide_true, decide_false, if_true, Bool.false_eq_true, if_false, List.length_cons]
      omega
    · have := ih h
      by_cases h1 : ∃ i, n + 1 ≤ i ∧ u = numS i
      · have h2 : ∃ i, n ≤ i ∧ u = numS i := by obtain ⟨i, h, e⟩ := h1; exact ⟨i, by omega, e⟩
        simp only [h1, h2, decide_true, if_true, List.length_cons]
        omega
      · simp only [h1, decide_false, Bool.false_eq_true, if_false]
        split
        · simp only [List.length_cons]; omega
        · exact this
theorem numS_size (n : Nat) (hn : n ≤ 1000000000) : (numS n).size ≤ maxLen := by
  have := Lib.itoa_length_le (n : Int) (by omega) (by omega)
  show ([118, 46] ++ Lib.itoa (n : Int)).toArray.size ≤ maxLen
  unfold maxLen
  simp
  omega

/-- A row of numbers of the call's own. -/
def RowN (w : World) (C : Nat) (l : List Nat) (v : Value) : Prop := w.ownsRow C 3 1 v l.length (l.map fun n : Nat => .int .i64 (n : Int))
theorem RowN.at {w w' : World} {C : Nat} {l : List Nat} {v : Value} (h : RowN w C l v) (hb : ∀ b, v.ownBlock = some b → w'.heap[b]? = w.heap[b]?) : RowN w' C l v := by
  refine ⟨h.1, h.2.imp id ?_⟩
  rintro ⟨g, cap, cur, rfl, h1, h2, h3⟩
  exact ⟨g, cap, cur, rfl, h1, (hb g rfl).trans h2, h3⟩
theorem RowN.nil (w : World) (C : Nat) : RowN w C [] (.slice none 0 0) := World.ownsRow_nil _ _ _ _
/-- What the renamer's memory holds: which names stand, by which numbers each name is bound now, and the next number. -/
structure RenSt (w : World) (C rb sb bb n N : Nat) (U : List ByteArray) (m : ByteArray → Option Int) (f : ByteArray → Value) (env : ByteArray → List Nat) (nx : Nat) : Prop where
  blk : w.heap[rb]? = some (.cells #[.map (some sb), .map (some bb), .int .i64 (nx : Int)] 52 (0, 0))
  cnt : MapI w sb n m
  use : ∀ s, (m s).getD 0 ≠ 0 ↔ s ∈ U
  map : MapV w bb N f
  rows : ∀ s, RowN w C (env s) (f s)
  old : ∀ s, ∀ i ∈ env s, i < nx
  apart : ∀ s t, s ≠ t → (f s).ownBlock = none ∨ (f s).ownBlock ≠ (f t).ownBlock
  rbC : C ≤ rb
  sbC : C ≤ sb
  bbC : C ≤ bb
  ne1 : rb ≠ sb
  ne2 : rb ≠ bb
  ne3 : sb ≠ bb
/-- No row's block is this one. -/
def NoRow (f : ByteArray → Value) (b : Nat) : Prop := ∀ s, (f s).ownBlock ≠ some b
/-- What a call of the renamer's leaves as it was. -/
def RenFr (C rb bb : Nat) (w : World) (f : ByteArray → Value) (w' : World) (f' : ByteArray → Value) : Prop :=
  Below C w w' ∧ ∀ b, b < w.heap.size → b ≠ rb → b ≠ bb → NoRow f b → w'.heap[b]? = w.heap[b]? ∧ NoRow f' b
theorem RenFr.refl (C rb bb : Nat) (w : World) (f : ByteArray → Value) : RenFr C rb bb w f w f := ⟨Below.refl _ _, fun _ _ _ _ h => ⟨rfl, h⟩⟩
theorem RenFr.trans {C rb bb : Nat} {w w1 w2 : World} {f f1 f2 : ByteArray → Value} (h : RenFr C rb bb w f w1 f1) (g : RenFr C rb bb w1 f1 w2 f2) : RenFr C rb bb w f w2 f2 :=
  ⟨h.1.trans g.1, fun b h1 h2 h3 h4 => by
    obtain ⟨a1, a2⟩ := h.2 b h1 h2 h3 h4
    obtain ⟨b1, b2⟩ := g.2 b (Nat.lt_of_lt_of_le h1 h.1.size) h2 h3 a2
    exact ⟨b1.trans a1, b2⟩⟩
theorem RenFr.of_below {C rb bb : Nat} {w w' : World} {f : ByteArray → Value} (hC : C ≤ w.heap.size) (h : Below w.heap.size w w') : RenFr C rb bb w f w' f := ⟨h.mono hC, fun b h1 _ _ h4 => ⟨h.block b h1, h4⟩⟩
theorem RenSt.below {w w' : World} {C rb sb bb n N : Nat} {U : List ByteArray} {m : ByteArray → Option Int} {f : ByteArray → Value} {env : ByteArray → List Nat} {nx : Nat} (h : RenSt w C rb sb bb n N U m f env nx) (hb : Below w.heap.size w w') : RenSt w' C rb sb bb n N U m f env nx :=
  ⟨(hb.block rb (lt_of_block h.blk)).trans h.blk, h.cnt.at (hb.block sb h.cnt.lt), h.use, h.map.at (hb.block bb h.map.lt), fun s => (h.rows s).at fun b e => hb.block b (World.ownsRow.lt (h.rows s) b e).2, h.old, h.apart, h.rbC, h.sbC, h.bbC, h.ne1, h.ne2, h.ne3⟩
theorem RenSt.row_ne {w : World} {C rb sb bb n N : Nat} {U : List ByteArray} {m : ByteArray → Option Int} {f : ByteArray → Value} {env : ByteArray → List Nat} {nx : Nat} (h : RenSt w C rb sb bb n N U m f env nx) (s : ByteArray) {b : Nat} (e : (f s).ownBlock = some b) : b ≠ rb ∧ b ≠ sb ∧ b ≠ bb := by
  obtain ⟨_, h2⟩ := h.rows s
  rcases h2 with ⟨e2, _⟩ | ⟨g, cap, cur, e2, _, hg, _⟩
  · rw [e2] at e; cases e
  · rw [e2] at e
    cases e
    refine ⟨?_, ?_, ?_⟩
    · rintro rfl
      rw [h.blk] at hg
      simp only [Option.some.injEq, Obj.cells.injEq] at hg
      exact absurd hg.2.1 (by decide)
    · rintro rfl
      obtain ⟨_, ⟨es, clock, hm, _⟩, _⟩ := h.cnt
      rw [hm] at hg; cases hg
    · rintro rfl
      obtain ⟨_, ⟨es, clock, hm, _⟩, _⟩ := h.map
      rw [hm] at hg; cases hg
end Go.Proofs.YtjofdlnopchaeaaGreatDoor.Core

/-
Package core's nameNow and numbers. No condition.
-/
namespace Go.Proofs.YtjofdlnopchaeaaGreatDoor.Core
open Go.ChangeShapes Go.WideShapes Go.ChangeAt Go.RowKit Go.Deep
open Dat (PT ok64)
set_option maxRecDepth 100000

/-- Which name a variable has now. -/
def nowT (env : ByteArray → List Nat) (s : ByteArray) : ByteArray := match (env s).getLast? with
  | none => s
  | some i => numS i
theorem nameNow_any (s : ByteArray) (w : World) (C rb sb bb n N : Nat) (U : List ByteArray) (m : ByteArray → Option Int) (f : ByteArray → Value) (env : ByteArray → List Nat) (nx : Nat) (h : RenSt w C rb sb bb n N U m f env nx) (hs : s.size ≤ maxLen) (ht : TabOk w) (hnx : nx ≤ 1000000000) :
    Calls Tryz.prog 45 #[.pointer (some ⟨rb, 0, none⟩), .string s] w fun e w' => e = .returned (.string (nowT env s)) ∧ Below w.heap.size w w' := by
  have hlk := h.map.look s hs
  have c1 : w.cell? ⟨rb, 1, none⟩ = some (.map (some bb)) := by rw [Lib.cell_of_heap h.blk]; rfl
  by_cases he : env s = []
  · have HR : Hid (nowT env s = s) := Lib.hid (by simp [nowT, he])
    have hr := h.rows s
    rw [he] at hr
    rcases hr.2 with ⟨e, _⟩ | ⟨g, cap, cur, e, _, _, _, hcm, _⟩
    · rw [e] at hlk
      clear he hr e
      go_enter Tryz.func45, Tryz.ntmps45
      go_wp2
      go_ret
      exact ⟨by rw [HR.out]; rfl, Below.refl _ _⟩
    · rw [e] at hlk
      clear he hr e
      go_enter Tryz.func45, Tryz.ntmps45
      go_wp2
      go_ret
      exact ⟨by rw [HR.out]; rfl, Below.refl _ _⟩
  · obtain ⟨l, i, hl⟩ : ∃ l i, env s = l ++ [i] := ⟨(env s).dropLast, (env s).getLast he, (List.dropLast_concat_getLast he).symm⟩
    have HR : Hid (nowT env s = numS i) := Lib.hid (by simp [nowT, hl])
    have hi := h.old s i (by rw [hl]; simp)
    have hr := h.rows s
    have KN := Lib.hid (fun W (hW : TabOk W) => numbered_any i W (by omega) hW)
    rw [hl] at hr
    rcases hr.2 with ⟨_, e⟩ | ⟨g, cap, cur, e, _, _, hn, hcm, _⟩
    · simp at e
    · have hc : w.cell? ⟨g, l.length, none⟩ = some (.int .i64 (i : Int)) := by
        have hr2 := hr
        unfold RowN at hr2
        rw [e] at hr2
        have := hr2.cells (g := g) rfl l.length (.int .i64 (i : Int)) (by simp)
        simpa [add_plain] using this
      rw [e] at hlk
      have HT := Lib.hid ht
      simp only [List.length_append, List.length_singleton] at hlk hn
      unfold maxLen at hcm
      clear hl he hr e ht
      generalize l.length = q at *
      go_enter Tryz.func45, Tryz.ntmps45
      go_wp2_with fail
      refine (KN.out _ HT.out).mono ?_
      rintro e w1 ⟨rfl, hb⟩
      go_wp2
      go_ret
      exact ⟨by rw [HR.out]; rfl, hb⟩
theorem NumsL.pot {U : List ByteArray} {n n' : Nat} {l : List Nat} (h : NumsL U n l n') : n' + restN U n' ≤ n + l.length + restN U n := by
  induction h with
  | nil => simp
  | skip _ hu ih => have := restN_lt hu; omega
  | @take n' l _ _ ih => have := restN_le U n'; simp only [List.length_append, List.length_singleton]; omega
theorem infoInt : (Tryz.prog.info? 3).map (fun i => (i.zero, i.size, i.bytes)) = some (some (.int .i64 0), 1, 8) := by kernel_rfl
theorem rowN_step {w' : World} {C g cap : Nat} {l : List Nat} {n : Nat} {xs : List Value} (hxs : xs = l.map fun n : Nat => .int .i64 (n : Int)) (hown : w'.ownsRow C 3 1 (.slice (some ⟨g, 0, none⟩) (l.length + 1) cap) (l.length + 1) (xs ++ [.int .i64 (n : Int)])) : RowN w' C (l ++ [n]) (.slice (some ⟨g, 0, none⟩) (l.length + 1) cap) := by
  subst hxs
  unfold RowN
  rw [List.length_append, List.map_append]
  exact hown
theorem wpList_append_n {ops : Array Oper} {rest : List Oper} {o : Oper} {a : Act} {w : World} {Q : Exit → Act → World → Prop} (hgd : o.guard = none) (sl x : Operand)
    (ho : o.op = .call { callee := .builtin .append, args := #[sl, x], argTypes := #[79, 79] }) (C : Nat) (l : List Nat) (v : Value) (hs : a.eval sl = v) (h : RowN w C l v) (B n : Nat) (hx : a.eval x = .slice (some ⟨B, 0, none⟩) 1 1)
    (hB : w.heap[B]? = some (.cells #[.int .i64 (n : Int)] 3 (0, 0))) (hlen : l.length ≤ 100000) (hC : C ≤ w.heap.size)
    (kk : ∀ g cap w', RowN w' C (l ++ [n]) (.slice (some ⟨g, 0, none⟩) (l.length + 1) cap) → w.grownBy w' v.ownBlock → (v.ownBlock = some g ∨ g = w.heap.size) → g < w'.heap.size → wpList Tryz.prog ops Q rest (a.put o.dst (.slice (some ⟨g, 0, none⟩) (l.length + 1) cap)) w') : wpList Tryz.prog ops Q (o :: rest) a w := by
  obtain ⟨i0, hi, hz0, hz1, hz2⟩ := info_parts infoInt
  refine wpList_append_lies w hgd sl x 79 ho C 3 i0 _ 1 8 Tryz.underlying79 hi hz0 hz1 hz2 rfl (by decide) v l.length _ hs h ⟨B, 0, none⟩ 1 1 [.int .i64 (n : Int)] hx rfl (World.news_of_block hB) ?_ (by decide) (by unfold maxLen; omega) (by omega) hC w.heap.size rfl ?_
  · intro u hu
    simp only [List.mem_cons, List.not_mem_nil, or_false] at hu
    subst hu; rfl
  · intro g cap w' hown hgrow hat hlt
    exact kk g cap w' (rowN_step rfl hown) hgrow hat hlt
theorem KP.nextB {w W W' : World} {ob : Option Nat} (h : KP w ob W) (hb : Below w.heap.size W W') : KP w ob W' := ⟨h.1.trans (hb.mono (Nat.zero_le _)), fun b h1 h2 => (hb.block b h1).trans (h.2 b h1 h2)⟩
/-- The next number that stands in memory. -/
def nxOf (w : World) (rb : Nat) : Nat := match w.cell? ⟨rb, 2, none⟩ with
  | some (.int _ z) => z.toNat
  | _ => 0
theorem nxOf_blk {w : World} {rb : Nat} {x y : Value} {k : IntKind} {z : Int} {T : TypeId} {fr : Nat × Nat} (h : w.heap[rb]? = some (.cells #[x, y, .int k z] T fr)) : nxOf w rb = z.toNat := by
  unfold nxOf
  rw [Lib.cell_of_heap h]; rfl
def lenV : Value → Nat
  | .slice _ n _ => n
  | _ => 0
theorem RowN.slice {w : World} {C : Nat} {l : List Nat} {v : Value} (h : RowN w C l v) : ∃ a c, v = .slice a l.length c ∧ (∀ b, v.ownBlock = some b → C ≤ b ∧ b < w.heap.size) := by
  have hl := h.lt
  rcases h.2 with ⟨rfl, h0⟩ | ⟨g, cap, cur, rfl, _⟩
  · exact ⟨none, 0, by rw [h0], hl⟩
  · exact ⟨_, cap, rfl, hl⟩
theorem tab_ne {w : World} {rb : Nat} {x y : Value} {z : Value} {T : TypeId} {fr : Nat × Nat} (ht : TabOk w) (hb : w.heap[rb]? = some (.cells #[x, y, z] T fr)) : 0 ≠ rb := by
  rintro rfl
  obtain ⟨T', fr', h⟩ := ht
  rw [hb] at h
  simp only [Option.some.injEq, Obj.cells.injEq] at h
  have := congrArg Array.size h.1
  simp [Lib.pow10Tab] at this
/-- What numbers answers. -/
def NumbersIs (C0 C rb sb bb n N : Nat) (U : List ByteArray) (m : ByteArray → Option Int) (f : ByteArray → Value) (env : ByteArray → List Nat) (nx many : Nat) (e : Ending) (w' : World) : Prop :=
  ∃ l n' v, e = .returned v ∧ NumsL U nx l n' ∧ l.length = many ∧ RowN w' C0 l v ∧ RenSt w' C rb sb bb n N U m f env n'
set_option maxHeartbeats 1000000 in
theorem numbers_any (many : Nat) (w : World) (C rb sb bb n N : Nat) (U : List ByteArray) (m : ByteArray → Option Int) (f : ByteArray → Value) (env : ByteArray → List Nat) (nx : Nat) (h : RenSt w C rb sb bb n N U m f env nx) (ht : TabOk w) (hm : many ≤ 100000) (hnx : nx + many + restN U nx ≤ 1000000000) :
    Calls Tryz.prog 46 #[.pointer (some ⟨rb, 0, none⟩), .int .i64 (many : Int)] w fun e w' => NumbersIs w.heap.size C rb sb bb n N U m f env nx many e w' ∧ KP w (some rb) w' := by
  have H := Lib.hid h
  have HRL := Lib.hid (lt_of_block h.blk)
  have HST : Hid (∀ W n', KP w (some rb) W → nx ≤ n' → W.heap[rb]? = some (.cells #[.map (some sb), .map (some bb), .int .i64 (n' : Int)] 52 (0, 0)) → RenSt W C rb sb bb n N U m f env n') := Lib.hid fun W n' hW hn hb =>
    ⟨hb, h.cnt.at (hW.2 sb h.cnt.lt (by simpa using h.ne1.symm)), h.use, h.map.at (hW.2 bb h.map.lt (by simpa using h.ne2.symm)), fun s => (h.rows s).at fun b e => hW.2 b (World.ownsRow.lt (h.rows s) b e).2 (by simpa using (h.row_ne s e).1), fun s i hi => Nat.lt_of_lt_of_le (h.old s i hi) hn, h.apart, h.rbC, h.sbC, h.bbC, h.ne1, h.ne2, h.ne3⟩
  have HTB : Hid (∀ W, KP w (some rb) W → TabOk W) := Lib.hid fun W hW => by
    have hne := tab_ne ht h.blk
    obtain ⟨T, fr, ht⟩ := ht
    exact ⟨T, fr, (hW.2 _ (lt_of_block ht) (by simpa using hne)).trans ht⟩
  have HMI : Hid (∀ W, KP w (some rb) W → MapI W sb n m) := Lib.hid fun W hW => h.cnt.at (hW.2 sb h.cnt.lt (by simpa using h.ne1.symm))
  have HUSE := Lib.hid h.use
  clear h ht
  go_enter Tryz.func46, Tryz.ntmps46
  go_wp2
  go_loopw [5] (fun v wr => ∃ l n', NumsL U nx l n' ∧ l.length ≤ many ∧ RowN wr w.heap.size l v ∧ wr.heap[rb]? = some (.cells #[.map (some sb), .map (some bb), .int .i64 (n' : Int)] 52 (0, 0)) ∧ KP w (some rb) wr) (fun v wr => (many - lenV v) + restN U (nxOf wr rb))
  case atStart => exact ⟨[], nx, .nil _, Nat.zero_le _, RowN.nil _ _, H.out.blk, KP.refl _ _⟩
  case round =>
    obtain ⟨l, n', hl, hlm, hrow, hblk, hkp⟩ := hrel
    have HL := Lib.hid hl
    have hpot := hl.pot
    have hle := hl.le
    have HROW := Lib.hid hrow
    have HBLK := Lib.hid hblk
    have HKP := Lib.hid hkp
    obtain ⟨av, cv, rfl, hown⟩ := hrow.slice
    have HOWN := Lib.hid hown
    clear hrow hown hl
    by_cases hlt : l.length < many
    · have c0 : wr.cell? ⟨rb, 0, none⟩ = some (.map (some sb)) := by rw [Lib.cell_of_heap hblk]; rfl
      have c2 : wr.cell? ⟨rb, 2, none⟩ = some (.int .i64 (n' : Int)) := by rw [Lib.cell_of_heap hblk]; rfl
      have hn' : n' ≤ 1000000000 := by omega
      have KN := Lib.hid (fun W (hW : KP w (some rb) W) => numbered_any n' W hn' (HTB.out W hW))
      have HKS := Lib.hid (numS_size n' hn')
      generalize hc : (m (numS n')).getD 0 = c
      have HLK : Hid (∀ W, KP w (some rb) W → (Instr.lookup 49 (.map (some sb)) (.string (numS n')) false).run Tryz.prog W = .ok (.int .i64 c) W) := Lib.hid fun W hW => by
        have := (HMI.out W hW).look (numS n') HKS.out
        rwa [hc] at this
      have HC : Hid (c ≠ 0 ↔ numS n' ∈ U) := Lib.hid (by rw [← hc]; exact HUSE.out _)
      have CC : Hid (∀ W, W.heap[rb]? = wr.heap[rb]? → KP w (some rb) W → W.cell? ⟨rb, 0, none⟩ = some (.map (some sb)) ∧ W.cell? ⟨rb, 2, none⟩ = some (.int .i64 (n' : Int)) ∧ KP w (some rb) W) := Lib.hid fun W hb hW =>
        ⟨by rw [Lib.cell_of_heap (hb.trans HBLK.out)]; rfl, by rw [Lib.cell_of_heap (hb.trans HBLK.out)]; rfl, hW⟩
      have OF : Hid (∀ W, (W.cell? ⟨rb, 0, none⟩ = some (.map (some sb)) ∧ W.cell? ⟨rb, 2, none⟩ = some (.int .i64 (n' : Int)) ∧ KP w (some rb) W) → KP w (some rb) W) := Lib.hid fun W h => h.2.2
      have e0 : wr.heap[rb]? = wr.heap[rb]? := rfl
      have hrl : rb < wr.heap.size := lt_of_block hblk
      clear hc
      by_cases hu : numS n' ∈ U
      · have hcn : (c == 0) = false := by simpa using HC.out.2 hu
        have HL2 := Lib.hid (NumsL.skip HL.out hu)
        have HRN := Lib.hid (restN_lt hu)
        clear hu hblk
        go_wp2
        go_region_held3 (fun W => W.cell? ⟨rb, 0, none⟩ = some (.map (some sb)) ∧ W.cell? ⟨rb, 2, none⟩ = some (.int .i64 (n' : Int)) ∧ KP w (some rb) W)
          (first | (with_reducible exact CC.out _ (by assumption) (by assumption)) | (exact CC.out wr.drew rfl (KP.drewn (by assumption))))
          (first | (go_at_call 47; refine (KN.out _ (OF.out _ (by assumption))).mono ?_; rintro e w6 ⟨rfl, hb6⟩; have kp6 := KP.next (OF.out _ (by assumption)) hb6; have e6 : w6.heap[rb]? = wr.heap[rb]? := hb6.block rb hrl; have hlk6 := HLK.out w6 kp6; have HB6 := Lib.hid hb6; clear hb6))
        have E6 := Lib.hid (e6.trans HBLK.out)
        have HK6 := Lib.hid kp6
        have d2 : w6.cell? ⟨rb, 2, none⟩ = some (.int .i64 (n' : Int)) := by rw [Lib.cell_of_heap E6.out]; rfl
        have f2 : w6.frozen? ⟨rb, 2, none⟩ = false := Lib.frozen_of_heap E6.out 2
        clear kp6 e6 hlk6 c0 c2 hkp e0
        go_wp2
        have HB7 := Lib.hid (heap_setCell_same w6 rb 2 _ 52 (.int .i64 ((n' : Int) + 1)) E6.out)
        have HK7 := Lib.hid (HK6.out.put ((Below.refl 0 w6).setCell (p := ⟨rb, 2, none⟩) (Nat.zero_le _) (.int .i64 ((n' : Int) + 1))) (fun b _ hne => Below.heap_setCell _ _ _ _ (fun e => hne (by rw [e]))))
        have HR7 : Hid (RowN (w6.setCell ⟨rb, 2, none⟩ (.int .i64 ((n' : Int) + 1))) w.heap.size l (.slice av l.length cv)) := Lib.hid (HROW.out.at fun b e => by
          have hb := HOWN.out b e
          rw [Below.heap_setCell _ _ _ _ (fun e => by have := HRL.out; have : b = rb := e; omega)]
          exact HB6.out.block b hb.2)
        go_roundw
        case rel => exact ⟨l, n' + 1, HL2.out, hlm, HR7.out, by rw [show ((n' + 1 : Nat) : Int) = (n' : Int) + 1 by omega]; exact HB7.out, HK7.out⟩
        case measure =>
          rw [nxOf_blk HB7.out, nxOf_blk HBLK.out]
          have := HRN.out
          simp only [Int.toNat_natCast, show ((n' : Int) + 1).toNat = n' + 1 by omega]
          omega
      · have hcz : c = 0 := by
          have := HC.out
          by_cases hz : c = 0
          · exact hz
          · exact absurd (this.1 hz) hu
        subst hcz
        have HL2 := Lib.hid (NumsL.take HL.out hu)
        have HRN := Lib.hid (restN_le U n')
        clear hu hblk
        go_wp2
        go_region_held3 (fun W => W.cell? ⟨rb, 0, none⟩ = some (.map (some sb)) ∧ W.cell? ⟨rb, 2, none⟩ = some (.int .i64 (n' : Int)) ∧ KP w (some rb) W)
          (first | (with_reducible exact CC.out _ (by assumption) (by assumption)) | (exact CC.out wr.drew rfl (KP.drewn (by assumption))))
          (first | (go_at_call 47; refine (KN.out _ (OF.out _ (by assumption))).mono ?_; rintro e w6 ⟨rfl, hb6⟩; have kp6 := KP.next (OF.out _ (by assumption)) hb6; have e6 : w6.heap[rb]? = wr.heap[rb]? := hb6.block rb hrl; have hlk6 := HLK.out w6 kp6; have HB6 := Lib.hid hb6; clear hb6))
        have E6 := Lib.hid (e6.trans HBLK.out)
        have HK6 := Lib.hid kp6
        have d2 : w6.cell? ⟨rb, 2, none⟩ = some (.int .i64 (n' : Int)) := by rw [Lib.cell_of_heap E6.out]; rfl
        have HROW6 : Hid (RowN (w6.alloc (.cells #[.int .i64 (n' : Int)] 3)) w.heap.size l (.slice av l.length cv)) := Lib.hid (HROW.out.at fun b e => by
          have hb := HOWN.out b e
          exact (Below.heap_alloc _ _ _ (Nat.lt_of_lt_of_le hb.2 HB6.out.size)).trans (HB6.out.block b hb.2))
        have HZ6 := Lib.hid HK6.out.1.size
        clear kp6 e6 hlk6 c0 c2 hkp e0
        go_wp2_with (at_builtin; refine wpList_append_n rfl _ _ rfl w.heap.size l _ rfl HROW6.out w6.heap.size n' rfl (heap_alloc_new w6 _) (by omega) (Nat.le_trans HZ6.out (by rw [size_new]; omega)) ?_; intro g cap w7 h7 hg7 hat7 hl7; have E7 := Lib.hid ((hg7.block rb (by rw [size_new]; exact Nat.lt_succ_of_lt (lt_of_block E6.out)) (fun e => by have := (HOWN.out rb e.symm).1; have := HRL.out; omega)).trans (Dat.blk_alloc E6.out)); have d7 : w7.cell? ⟨rb, 2, none⟩ = some (.int .i64 (n' : Int)) := (by rw [Lib.cell_of_heap E7.out]; rfl); have f7 : w7.frozen? ⟨rb, 2, none⟩ = false := Lib.frozen_of_heap E7.out 2)
        have HK7 := Lib.hid ((HK6.out.alloc (.cells #[.int .i64 (n' : Int)] 3)).nextB ⟨hg7.os, hg7.tape, hg7.output, hg7.size, fun b hb => hg7.block b (Nat.lt_of_lt_of_le hb (Nat.le_trans HZ6.out (by rw [size_new]; omega))) (fun e => by have := (HOWN.out b e.symm).1; omega)⟩)
        have H7 := Lib.hid h7
        have HG7 : Hid (g ≠ rb) := Lib.hid (by
          rcases hat7 with e | e
          · have := (HOWN.out g e).1; have := HRL.out; omega
          · rw [e, size_new]; have := HRL.out; have := HZ6.out; omega)
        clear h7 hg7 hat7 hl7 d2
        have HB8 := Lib.hid (heap_setCell_same w7 rb 2 _ 52 (.int .i64 ((n' : Int) + 1)) E7.out)
        have HK8 := Lib.hid (HK7.out.put ((Below.refl 0 w7).setCell (p := ⟨rb, 2, none⟩) (Nat.zero_le _) (.int .i64 ((n' : Int) + 1))) (fun b _ hne => Below.heap_setCell _ _ _ _ (fun e => hne (by rw [e]))))
        have HR8 : Hid (RowN (w7.setCell ⟨rb, 2, none⟩ (.int .i64 ((n' : Int) + 1))) w.heap.size (l ++ [n']) (.slice (some ⟨g, 0, none⟩) (l.length + 1) cap)) := Lib.hid (H7.out.at fun b e => by
          cases e
          exact Below.heap_setCell _ _ _ _ HG7.out)
        go_roundw
        case rel => exact ⟨l ++ [n'], n' + 1, HL2.out, by simp; omega, HR8.out, by rw [show ((n' + 1 : Nat) : Int) = (n' : Int) + 1 by omega]; exact HB8.out, HK8.out⟩
        case measure =>
          rw [nxOf_blk HB8.out, nxOf_blk HBLK.out]
          have := HRN.out
          simp only [Int.toNat_natCast, show ((n' : Int) + 1).toNat = n' + 1 by omega, lenV]
          omega
    · have hl2 : many ≤ l.length := by omega
      have HE : Hid (l.length = many) := Lib.hid (by omega)
      clear hblk hkp
      go_wp2
      go_ret
      exact ⟨⟨l, n', _, rfl, HL.out, HE.out, HROW.out, HST.out _ _ HKP.out (by omega) HBLK.out⟩, HKP.out⟩
end Go.Proofs.YtjofdlnopchaeaaGreatDoor.Core
