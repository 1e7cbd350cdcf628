/-
The law's bound: all names that an expression binds, behind those that there are. No condition.
-/
import Derived.Test.YtgajendgephkaaaGreatDoorWKG
import Derived.Test.YtgajendgephkaaaGreatDoorK43
import Derived.Laws.AppendOwnNone
import Derived.Laws.OwnMore
import Derived.Deep.DeepCutAuto
namespace Go.Proofs.YtgajendgephkaaaGreatDoor.Core
open Go.ChangeShapes Go.WideShapes Go.ChangeAt Go.RowKit Go.Deep
open Dat (PT ok64 RowX)
set_option maxRecDepth 100000

theorem run_append_owned_empty {w : World} {P : Program} (base : Nat) (t ty e : TypeId) (i : TypeInfo) (size : Nat) (ht : P.underlying t = some (.slice e)) (hi : P.info? e = some i)
    (v : Value) (n : Nat) (xs : List Value) (hown : w.ownsRow base e size v n xs) (a : Option Addr) (c : Nat) :
    (Builtin.append_ #[t, t] ty #[v, .slice a 0 c]).run P w = .ok v w := by
  cases a with
  | none => 
    rcases hown.2 with ⟨rfl, rfl⟩ | ⟨g, cap, cur, rfl, _, _, hnc, _⟩
    · simp [Builtin.append_, run_underlying ht, sizeOf, typeInfo, hi, Builtin.lenOf, Builtin.firstCells]
    · simp [Builtin.append_, run_underlying ht, sizeOf, typeInfo, hi, Builtin.lenOf, Builtin.firstCells, hnc, storeCells]
  | some ad =>
    rcases hown.2 with ⟨rfl, rfl⟩ | ⟨g, cap, cur, rfl, _, _, hnc, _⟩
    · simp [Builtin.append_, run_underlying ht, sizeOf, typeInfo, hi, Builtin.lenOf, Builtin.firstCells, loadCells, loadCellsFrom]
    · simp [Builtin.append_, run_underlying ht, sizeOf, typeInfo, hi, Builtin.lenOf, Builtin.firstCells, hnc, storeCells, loadCells, loadCellsFrom]
theorem wpList_append_ts {ops : Array Oper} {rest : List Oper} {o : Oper} {a : Act} {w : World} {Q : Exit → Act → World → Prop} (hgd : o.guard = none) (sl x : Operand)
    (ho : o.op = .call { callee := .builtin .append, args := #[sl, x], argTypes := #[22, 22] }) (C : Nat) (l : List ByteArray) (v : Value) (hs : a.eval sl = v) (h : OutT w C l v) (S : Nat → Prop) (ns : List ByteArray) (vn : Value) (hn : InN w S ns vn) (hx : a.eval x = vn) (hlen : l.length + ns.length ≤ 100000) (hC : C ≤ w.heap.size)
    (kk : ∀ v' w', OutT w' C (l ++ ns) v' → KP w v.ownBlock w' → (v'.ownBlock = v.ownBlock ∨ ∀ b, v'.ownBlock = some b → w.heap.size ≤ b) → wpList Tryz.prog ops Q rest (a.put o.dst v') w') : wpList Tryz.prog ops Q (o :: rest) a w := by
  obtain ⟨i0, hi, hz0, hz1, hz2⟩ := info_parts infoStr
  obtain ⟨an, cn, rfl, hln, hmn, _, hr⟩ := hn
  by_cases h0 : ns = []
  · subst h0
    refine wpList_plain hgd fun K hK => ?_
    have hrun := run_append_owned_empty (P := Tryz.prog) (w := w) C 22 o.type 9 i0 1 Tryz.underlying22 hi v l.length _ h an cn
    unfold Oper.wp
    simp only [List.length_nil] at hx
    simp [execOp, ho, resolve, invoke, builtin, hs, hx, hrun, Result.andThen]
    exact hK _ _ (kk v w (by rw [List.append_nil]; exact h) (KP.refl _ _) (.inl rfl))
  · obtain ⟨b, o1, rfl, hS, hc⟩ := hr.resolve_left h0
    have hp := List.length_pos_iff.2 h0
    refine wpList_append_lies w hgd sl x 22 ho C 9 i0 _ 1 16 Tryz.underlying22 hi hz0 hz1 hz2 rfl (by decide) v l.length _ hs h ⟨b, o1, none⟩ ns.length cn (ns.map .string) hx (by simp) ?_ ?_ hp (by unfold maxLen; omega) (by omega) hC w.heap.size rfl ?_
    · intro j u hu
      rw [List.getElem?_map] at hu
      cases e : ns[j]? with
      | none => rw [e] at hu; cases hu
      | some s =>
        rw [e] at hu
        simp only [Option.map_some, Option.some.injEq] at hu
        subst hu
        obtain ⟨hj, rfl⟩ := List.getElem?_eq_some_iff.1 e
        have := (hc j hj).1
        simpa [add_plain] using this
    · intro u hu
      simp only [List.mem_map] at hu
      obtain ⟨s, _, rfl⟩ := hu
      rfl
    · intro g cap w' hown hgrow hat hlt
      refine kk _ w' ?_ ⟨⟨hgrow.os, hgrow.tape, hgrow.output, hgrow.size, fun b hb => (Nat.not_lt_zero _ hb).elim⟩, fun b h1 h2 => hgrow.block b h1 h2⟩ (by rcases hat with e | e; exact .inl e.symm; exact .inr (fun b e2 => by cases e2; exact Nat.le_of_eq e.symm))
      unfold OutT
      rw [List.length_append, List.map_append]
      exact hown
/-- What bound answers. -/
def BoundIs (C : Nat) (l : List ByteArray) (v : Value) (w : World) (e : Ending) (w' : World) : Prop := ∃ v', e = .returned v' ∧ OutT w' C l v' ∧ KP w v.ownBlock w' ∧ (v'.ownBlock = v.ownBlock ∨ ∀ b, v'.ownBlock = some b → w.heap.size ≤ b)
def BoundOk (t : PE) : Prop := ∀ (w : World) (S : Nat → Prop) (C : Nat) (vn vd vk v : Value) (l : List ByteArray), InF w S t vn vd vk → (∀ b, S b → b < C) → OutT w C l v → C ≤ w.heap.size → l.length + (boundE t).length ≤ 100000 →
  Calls Tryz.prog 12 #[t.val vn vd vk, v] w fun e w' => BoundIs C (l ++ boundE t) v w e w'
theorem KP.thru {w0 wr w5 : World} {o o' : Option Nat} (h : KP w0 o wr) (ho : o' = o ∨ ∀ b, o' = some b → w0.heap.size ≤ b) (g : KP wr o' w5) : KP w0 o w5 :=
  ⟨h.1.trans g.1, fun b h1 h2 => (g.2 b (Nat.lt_of_lt_of_le h1 h.1.size) (fun e => by
    rcases ho with e2 | e2
    · exact h2 (e.trans e2)
    · have := e2 b e.symm; omega)).trans (h.2 b h1 h2)⟩
theorem own_down {a o : Option Nat} {n m : Nat} (h : a = o ∨ ∀ b, a = some b → n ≤ b) (hm : m ≤ n) : a = o ∨ ∀ b, a = some b → m ≤ b := h.imp id fun e b e2 => Nat.le_trans hm (e b e2)
theorem KP.toBelow {C : Nat} {w w' : World} {v : Value} {l : List ByteArray} (h : KP w v.ownBlock w') (ho : OutT w C l v) (hC : C ≤ w.heap.size) : Below C w w' := h.below hC (fun b e => (World.ownsRow.lt ho b e.symm).1)
theorem boundEs_snoc : ∀ (l : List PE) (t : PE), boundEs (l ++ [t]) = boundEs l ++ boundE t
  | [], t => by simp [boundEs]
  | u :: l, t => by simp only [List.cons_append, boundEs, boundEs_snoc l t, List.append_assoc]
theorem boundEs_take (l : List PE) (j : Nat) : (boundEs (l.take j)).length ≤ (boundEs l).length := by
  induction l generalizing j with
  | nil => simp [boundEs]
  | cons t l ih =>
    cases j with
    | zero => simp [boundEs]
    | succ j => simp only [List.take_succ_cons, boundEs, List.length_append]; have := ih j; omega
set_option maxHeartbeats 1000000 in
theorem bound_step (k : Int) (nm : ByteArray) (ns : List ByteArray) (ck ci : Int) (cs : ByteArray) (cl : List PT) (l : List PE) (ih : ∀ t ∈ l, BoundOk t) : BoundOk (.mk k nm ns (.mk ck ci cs cl) l) := by
  intro w S C vn vd vk v ls h hS ho hC hlen
  have HIH := Lib.hid ih
  have HN := Lib.hid h.1.2.2
  have HK := Lib.hid h.2.2
  have HSL := Lib.hid hS
  obtain ⟨⟨_, _, hn⟩, ⟨_, _, _, hd⟩, hk⟩ := h
  obtain ⟨an, cn, rfl, _⟩ := hn
  obtain ⟨ad, cd, rfl, _⟩ := hd
  obtain ⟨ak, c, rfl, hl, hm, _⟩ := hk
  unfold maxLen at hm
  rw [boundE, List.length_append] at hlen
  have HLEN := Lib.hid hlen
  have HRES : Hid (boundE (.mk k nm ns (.mk ck ci cs cl) l) = ns ++ boundEs l) := Lib.hid (by rw [boundE])
  rw [HRES.out]
  show Calls Tryz.prog 12 #[.agg #[.int .i64 k, .string nm, .slice an ns.length cn, .int .i64 ck, .int .i64 ci, .string cs, .slice ad cl.length cd, .slice ak l.length c], v] w _
  have Z0 := Lib.hid (heap_alloc_new w (.cells #[.int .i64 k, .string nm, .slice an ns.length cn, .int .i64 ck, .int .i64 ci, .string cs, .slice ad cl.length cd, .slice ak l.length c] 28))
  have B0 := Lib.hid ((Below.refl C w).alloc hC (.cells #[.int .i64 k, .string nm, .slice an ns.length cn, .int .i64 ck, .int .i64 ci, .string cs, .slice ad cl.length cd, .slice ak l.length c] 28))
  have HS0 := Lib.hid (size_new w (.cells #[.int .i64 k, .string nm, .slice an ns.length cn, .int .i64 ck, .int .i64 ci, .string cs, .slice ad cl.length cd, .slice ak l.length c] 28))
  have HO0 : Hid (OutT (w.alloc (.cells #[.int .i64 k, .string nm, .slice an ns.length cn, .int .i64 ck, .int .i64 ci, .string cs, .slice ad cl.length cd, .slice ak l.length c] 28)) C ls v) := Lib.hid (ho.at fun b e => Below.heap_alloc _ _ _ (World.ownsRow.lt ho b e).2)
  have HKP0 : Hid (KP w v.ownBlock (w.alloc (.cells #[.int .i64 k, .string nm, .slice an ns.length cn, .int .i64 ck, .int .i64 ci, .string cs, .slice ad cl.length cd, .slice ak l.length c] 28))) := Lib.hid ((KP.refl _ _).alloc _)
  have HVL : Hid (∀ b, v.ownBlock = some b → C ≤ b ∧ b < w.heap.size) := Lib.hid (World.ownsRow.lt ho)
  have hHl : w.heap.size < (w.alloc (.cells #[.int .i64 k, .string nm, .slice an ns.length cn, .int .i64 ck, .int .i64 ci, .string cs, .slice ad cl.length cd, .slice ak l.length c] 28)).heap.size := by rw [size_new]; exact Nat.lt_succ_self _
  clear ih ho
  go_enter Tryz.func12, Tryz.ntmps12
  go_upto_region 1 with fail
  generalize w.alloc (.cells #[.int .i64 k, .string nm, .slice an ns.length cn, .int .i64 ck, .int .i64 ci, .string cs, .slice ad cl.length cd, .slice ak l.length c] 28) = w0 at *
  have x2 : w0.cell? ⟨w.heap.size, 2, none⟩ = some (.slice an ns.length cn) := by rw [Lib.cell_of_heap Z0.out]; rfl
  have hlen1 : ls.length + ns.length ≤ 100000 := by omega
  have hC0 : C ≤ w0.heap.size := by omega
  go_wp2_with (at_builtin; refine wpList_append_ts rfl _ _ rfl C ls v rfl HO0.out S ns _ (HN.out.belowC HSL.out B0.out) rfl hlen1 hC0 ?_; intro v1 w1 ho1 hk1 ha1)
  have HO1 := Lib.hid ho1
  have HK1 := Lib.hid hk1
  have HA1 := Lib.hid ha1
  clear ho1 hk1 ha1 x2
  go_loopw [1, 5] (fun vv ix wr => ∃ j : Nat, j ≤ l.length ∧ ix = .int .i64 j ∧ OutT wr C ((ls ++ ns) ++ boundEs (l.take j)) vv ∧ KP w0 v.ownBlock wr ∧ (vv.ownBlock = v.ownBlock ∨ ∀ b, vv.ownBlock = some b → w0.heap.size ≤ b)) (fun _ i _ => l.length - (intOf i).toNat)
  case atStart => exact ⟨0, Nat.zero_le _, rfl, by rw [List.take_zero, boundEs, List.append_nil]; exact HO1.out, HK1.out, HA1.out⟩
  case round =>
    obtain ⟨j, hj, rfl, ho, hkp, ha⟩ := hrel
    have HO := Lib.hid ho
    have HKP := Lib.hid hkp
    have HA := Lib.hid ha
    have ZR := Lib.hid ((hkp.2 w.heap.size hHl (fun e => by have := (HVL.out _ e.symm).2; omega)).trans Z0.out)
    have x7 : wr.cell? ⟨w.heap.size, 7, none⟩ = some (.slice ak l.length c) := by rw [Lib.cell_of_heap ZR.out]; rfl
    by_cases hlt : j < l.length
    · have HBC : Hid (Below C w wr) := Lib.hid (B0.out.trans (hkp.below hC0 (fun b e => (HVL.out b e.symm).1)))
      obtain ⟨b, o, c', ea, _, _, hS1, hE1⟩ := (HK.out.belowC HSL.out HBC.out).item j hlt
      cases ea
      have HTS : Hid (boundEs (l.take (j + 1)) = boundEs (l.take j) ++ boundE l[j]) := Lib.hid (by rw [List.take_succ_eq_append_getElem hlt, boundEs_snoc])
      have hzz : (boundEs (l.take j)).length + (boundE l[j]).length ≤ (boundEs l).length := by rw [← List.length_append, ← HTS.out]; exact boundEs_take _ _
      have hIHj := HIH.out l[j] (List.getElem_mem hlt)
      clear ho hkp ha
      generalize boundEs (l.take j) = qs at *
      generalize l[j] = t at hE1 hIHj HTS hzz
      obtain ⟨tk, tn, tns, ⟨tck, tci, tcs, tcl⟩, tl⟩ := t
      obtain ⟨tvn, tvd, tvk, hF1, a0, a1, a2, a3, a4, a5, a6, a7⟩ := hE1.cells
      have KC := Lib.hid (hIHj wr S C tvn tvd tvk _ _ hF1 HSL.out HO.out (Nat.le_trans hC0 HKP.out.1.size) (by simp only [List.length_append]; omega))
      obtain ⟨⟨_, _, hn1'⟩, ⟨_, _, _, hd1'⟩, hk1'⟩ := hF1
      obtain ⟨_, _, rfl, -⟩ := hn1'
      obtain ⟨_, _, rfl, -⟩ := hd1'
      obtain ⟨_, _, rfl, -⟩ := hk1'
      unfold PE.val at KC
      generalize boundE (.mk tk tn tns (.mk tck tci tcs tcl) tl) = bt at KC HTS
      clear hE1 hIHj
      go_wp2_with fail
      refine KC.out.mono ?_
      rintro e w5 ⟨v5, rfl, ho5, hk5, ha5⟩
      have HO5 := Lib.hid ho5
      have HK5 := Lib.hid (HKP.out.thru HA.out hk5)
      have HA5 : Hid (v5.ownBlock = v.ownBlock ∨ ∀ b, v5.ownBlock = some b → w0.heap.size ≤ b) := Lib.hid (by
        rcases ha5 with e | e
        · rw [e]; exact HA.out
        · exact .inr fun b e2 => Nat.le_trans HKP.out.1.size (e b e2))
      clear ho5 hk5 ha5 a0 a1 a2 a3 a4 a5 a6 a7 x7
      go_wp2
      go_roundw
      case rel => exact ⟨j + 1, by omega, by go_num, by rw [HTS.out, ← List.append_assoc]; exact HO5.out, HK5.out, HA5.out⟩
      case measure => simp [intOf]; omega
    · obtain rfl : j = l.length := by omega
      rw [List.take_length] at ho
      have HOF := Lib.hid ho
      have HKF := Lib.hid (HKP0.out.trans hkp)
      have HAF := Lib.hid (own_down ha (Nat.le_of_lt hHl))
      clear ho hkp ha
      go_wp2
      go_ret
      exact ⟨_, rfl, by rw [← List.append_assoc]; exact HOF.out, HKF.out, HAF.out⟩
mutual
theorem bound_any : ∀ t : PE, BoundOk t
  | .mk k nm ns (.mk ck ci cs cl) l => bound_step k nm ns ck ci cs cl l (bound_all l)
theorem bound_all : ∀ l : List PE, ∀ t ∈ l, BoundOk t
  | [], t, h => by cases h
  | u :: l, t, h => (List.mem_cons.1 h).elim (fun e => e ▸ bound_any u) (fun h => bound_all l t h)
end
end Go.Proofs.YtgajendgephkaaaGreatDoor.Core
