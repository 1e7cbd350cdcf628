/-
The document's put and its free names, for every row and every expression in memory. No condition but that the rows are short.
-/
import Derived.Test.YtkjgdnfkpebejaaK38
import Derived.Test.YtkjgdnfkpebejaaWNB
import Derived.Laws.AppendOwnNone
import Derived.Laws.OwnMore
import Derived.Deep.DeepCutAuto

namespace Go.Proofs.Ytkjgdnfkpebejaa.Core
open Go.ChangeShapes Go.WideShapes Go.ChangeAt Go.RowKit Go.Deep
open Dat (PT ok64 RowX)
set_option maxRecDepth 100000

theorem run_append_owned_empty {w : World} {P : Program} (base : Nat) (t ty e : TypeId) (i : TypeInfo) (size : Nat) (ht : P.underlying t = some (.slice e)) (hi : P.info? e = some i)
    (v : Value) (n : Nat) (xs : List Value) (hown : w.ownsRow base e size v n xs) (a : Option Addr) (c : Nat) :
    (Builtin.append_ #[t, t] ty #[v, .slice a 0 c]).run P w = .ok v w := by
  cases a with
  | none => 
    rcases hown.2 with ⟨rfl, rfl⟩ | ⟨g, cap, cur, rfl, _, _, hnc, _⟩
    · simp [Builtin.append_, run_underlying ht, sizeOf, typeInfo, hi, Builtin.lenOf, Builtin.firstCells]
    · simp [Builtin.append_, run_underlying ht, sizeOf, typeInfo, hi, Builtin.lenOf, Builtin.firstCells, hnc, storeCells]
  | some ad =>
    rcases hown.2 with ⟨rfl, rfl⟩ | ⟨g, cap, cur, rfl, _, _, hnc, _⟩
    · simp [Builtin.append_, run_underlying ht, sizeOf, typeInfo, hi, Builtin.lenOf, Builtin.firstCells, loadCells, loadCellsFrom]
    · simp [Builtin.append_, run_underlying ht, sizeOf, typeInfo, hi, Builtin.lenOf, Builtin.firstCells, hnc, storeCells, loadCells, loadCellsFrom]
theorem wpList_append_ts {ops : Array Oper} {rest : List Oper} {o : Oper} {a : Act} {w : World} {Q : Exit → Act → World → Prop} (hgd : o.guard = none) (sl x : Operand)
    (ho : o.op = .call { callee := .builtin .append, args := #[sl, x], argTypes := #[22, 22] }) (C : Nat) (l : List ByteArray) (v : Value) (hs : a.eval sl = v) (h : OutT w C l v) (S : Nat → Prop) (ns : List ByteArray) (vn : Value) (hn : InN w S ns vn) (hx : a.eval x = vn) (hlen : l.length + ns.length ≤ 100000) (hC : C ≤ w.heap.size)
    (kk : ∀ v' w', OutT w' C (l ++ ns) v' → KP w v.ownBlock w' → (v'.ownBlock = v.ownBlock ∨ ∀ b, v'.ownBlock = some b → w.heap.size ≤ b) → wpList Try.prog ops Q rest (a.put o.dst v') w') : wpList Try.prog ops Q (o :: rest) a w := by
  obtain ⟨i0, hi, hz0, hz1, hz2⟩ := info_parts infoStr
  obtain ⟨an, cn, rfl, hln, hmn, _, hr⟩ := hn
  by_cases h0 : ns = []
  · subst h0
    refine wpList_plain hgd fun K hK => ?_
    have hrun := run_append_owned_empty (P := Try.prog) (w := w) C 22 o.type 9 i0 1 Try.underlying22 hi v l.length _ h an cn
    unfold Oper.wp
    simp only [List.length_nil] at hx
    simp [execOp, ho, resolve, invoke, builtin, hs, hx, hrun, Result.andThen]
    exact hK _ _ (kk v w (by rw [List.append_nil]; exact h) (KP.refl _ _) (.inl rfl))
  · obtain ⟨b, o1, rfl, hS, hc⟩ := hr.resolve_left h0
    have hp := List.length_pos_iff.2 h0
    refine wpList_append_lies w hgd sl x 22 ho C 9 i0 _ 1 16 Try.underlying22 hi hz0 hz1 hz2 rfl (by decide) v l.length _ hs h ⟨b, o1, none⟩ ns.length cn (ns.map .string) hx (by simp) ?_ ?_ hp (by unfold maxLen; omega) (by omega) hC w.heap.size rfl ?_
    · intro j u hu
      rw [List.getElem?_map] at hu
      cases e : ns[j]? with
      | none => rw [e] at hu; cases hu
      | some s =>
        rw [e] at hu
        simp only [Option.map_some, Option.some.injEq] at hu
        subst hu
        obtain ⟨hj, rfl⟩ := List.getElem?_eq_some_iff.1 e
        have := (hc j hj).1
        simpa [add_plain] using this
    · intro u hu
      simp only [List.mem_map] at hu
      obtain ⟨s, _, rfl⟩ := hu
      rfl
    · intro g cap w' hown hgrow hat hlt
      refine kk _ w' ?_ ⟨⟨hgrow.os, hgrow.tape, hgrow.output, hgrow.size, fun b hb => (Nat.not_lt_zero _ hb).elim⟩, fun b h1 h2 => hgrow.block b h1 h2⟩ (by rcases hat with e | e; exact .inl e.symm; exact .inr (fun b e2 => by cases e2; exact Nat.le_of_eq e.symm))
      unfold OutT
      rw [List.length_append, List.map_append]
      exact hown
theorem KP.thru {w0 wr w5 : World} {o o' : Option Nat} (h : KP w0 o wr) (ho : o' = o ∨ ∀ b, o' = some b → w0.heap.size ≤ b) (g : KP wr o' w5) : KP w0 o w5 :=
  ⟨h.1.trans g.1, fun b h1 h2 => (g.2 b (Nat.lt_of_lt_of_le h1 h.1.size) (fun e => by
    rcases ho with e2 | e2
    · exact h2 (e.trans e2)
    · have := e2 b e.symm; omega)).trans (h.2 b h1 h2)⟩
theorem own_down {a o : Option Nat} {n m : Nat} (h : a = o ∨ ∀ b, a = some b → n ≤ b) (hm : m ≤ n) : a = o ∨ ∀ b, a = some b → m ≤ b := h.imp id fun e b e2 => Nat.le_trans hm (e b e2)
theorem KP.toBelow {C : Nat} {w w' : World} {v : Value} {l : List ByteArray} (h : KP w v.ownBlock w') (ho : OutT w C l v) (hC : C ≤ w.heap.size) : Below C w w' := h.below hC (fun b e => (World.ownsRow.lt ho b e.symm).1)
theorem OutT.below {w w' : World} {C : Nat} {l : List ByteArray} {v : Value} (h : OutT w C l v) (hb : Below w.heap.size w w') : OutT w' C l v := h.at fun b e => hb.block b (World.ownsRow.lt h b e).2
theorem inN_lit {W : World} {B : Nat} {s : ByteArray} {ty : TypeId} (hB : W.heap[B]? = some (.cells #[.string s] ty)) (hs : s.size ≤ maxLen) : InN W (fun _ => True) [s] (.slice (some ⟨B, 0, none⟩) 1 1) :=
  ⟨_, 1, rfl, Nat.le_refl _, by decide, (fun h => by cases h), .inr ⟨B, 0, rfl, trivial, fun j hj => by
    obtain rfl : j = 0 := by simpa using hj
    exact ⟨by rw [Lib.cell_of_heap hB]; rfl, hs⟩⟩⟩
theorem OutT.lit0 {w : World} {C g : Nat} (hb : w.heap[g]? = some (.cells #[] 9 (0, 0))) (hg : C ≤ g) : OutT w C [] (.slice (some ⟨g, 0, none⟩) 0 0) :=
  ⟨rfl, .inr ⟨g, 0, #[], rfl, hg, hb, Nat.le_refl _, by decide, rfl, rfl⟩⟩
open Classical in
/-- One more text of a row that rises, with another put ahead of it where that is to stand. -/
noncomputable def putS (s : ByteArray) (p : Bool × List ByteArray) (x : ByteArray) : Bool × List ByteArray := if p.1 = false ∧ s.data.toList < x.data.toList then (true, (p.2 ++ [s]) ++ [x]) else (p.1, p.2 ++ [x])
theorem putS_done (s : ByteArray) : ∀ (l acc : List ByteArray), l.foldl (putS s) (true, acc) = (true, acc ++ l)
  | [], acc => by rw [List.foldl_nil, List.append_nil]
  | x :: l, acc => by
    rw [List.foldl_cons]
    have e : putS s (true, acc) x = (true, acc ++ [x]) := by unfold putS; rw [if_neg (fun h => by cases h.1)]
    rw [e, putS_done s l, List.append_assoc]
    rfl
theorem putS_ins (s : ByteArray) : ∀ (l acc : List ByteArray), (if (l.foldl (putS s) (false, acc)).1 = true then (l.foldl (putS s) (false, acc)).2 else (l.foldl (putS s) (false, acc)).2 ++ [s]) = acc ++ insT l s
  | [], acc => by rw [List.foldl_nil, insT, if_neg (by simp)]
  | x :: l, acc => by
    rw [List.foldl_cons, insT]
    by_cases h : s.data.toList < x.data.toList
    · have e : putS s (false, acc) x = (true, (acc ++ [s]) ++ [x]) := by unfold putS; rw [if_pos ⟨rfl, h⟩]
      rw [e, putS_done, if_pos rfl, if_pos h]
      simp
    · have e : putS s (false, acc) x = (false, acc ++ [x]) := by unfold putS; rw [if_neg (fun g => h g.2)]
      rw [e, putS_ins s l, if_neg h, List.append_assoc]
      rfl
theorem putS_take {s : ByteArray} {l : List ByteArray} {j : Nat} (hj : j < l.length) : (l.take (j + 1)).foldl (putS s) (false, []) = putS s ((l.take j).foldl (putS s) (false, [])) l[j] := by
  rw [List.take_succ_eq_append_getElem hj, List.foldl_append]
  rfl
theorem putS_len (s : ByteArray) : ∀ (l : List ByteArray) (p : Bool × List ByteArray), (l.foldl (putS s) p).2.length ≤ p.2.length + 2 * l.length
  | [], p => by rw [List.foldl_nil]; omega
  | x :: l, p => by
    rw [List.foldl_cons]
    have h := putS_len s l (putS s p x)
    have h2 : (putS s p x).2.length ≤ p.2.length + 2 := by
      unfold putS
      split
      · simp
      · simp
    rw [List.length_cons]
    omega
theorem putS_all {s : ByteArray} : ∀ (l : List ByteArray) (p : Bool × List ByteArray), ∀ t ∈ (l.foldl (putS s) p).2, t = s ∨ t ∈ l ∨ t ∈ p.2
  | [], p, t, h => .inr (.inr h)
  | x :: l, p, t, h => by
    rw [List.foldl_cons] at h
    rcases putS_all l _ t h with e | e | e
    · exact .inl e
    · exact .inr (.inl (List.mem_cons_of_mem _ e))
    · unfold putS at e
      split at e
      · simp only [List.mem_append, List.mem_singleton] at e
        rcases e with (e | e) | e
        · exact .inr (.inr e)
        · exact .inl e
        · exact .inr (.inl (by rw [e]; exact List.mem_cons_self))
      · simp only [List.mem_append, List.mem_singleton] at e
        rcases e with e | e
        · exact .inr (.inr e)
        · exact .inr (.inl (by rw [e]; exact List.mem_cons_self))
theorem InN.sizes {w : World} {S : Nat → Prop} {l : List ByteArray} {v : Value} (h : InN w S l v) : ∀ s ∈ l, s.size ≤ maxLen := by
  obtain ⟨a, c, _, _, _, _, hr⟩ := h
  intro s hs
  rcases hr with rfl | ⟨b, o, _, _, hc⟩
  · cases hs
  · obtain ⟨j, hj, rfl⟩ := List.getElem_of_mem hs
    exact (hc j hj).2
open Classical in
theorem put_any (l : List ByteArray) (S : Nat → Prop) (v : Value) (s : ByteArray) (w : World) (hv : InN w S l v) (hS : ∀ b, S b → b < w.heap.size) (hs : s.size ≤ maxLen) (hn : l.length ≤ 40000) :
    Calls Try.prog 60 #[v, .string s] w fun e w' => ∃ v', e = .returned v' ∧ InN w' (fun b => S b ∨ w.heap.size ≤ b) (putT l s) v' ∧ Below w.heap.size w w' := by
  have HV := Lib.hid hv
  have KH := Lib.hid (has_any l S v s w hv)
  have HSZ := Lib.hid hv.sizes
  have HSL := Lib.hid hS
  obtain ⟨a, c, rfl, hl, hm, _⟩ := hv
  unfold maxLen at hm
  by_cases hh : s ∈ l
  · have HR : Hid (putT l s = l) := Lib.hid (by unfold putT; rw [if_pos hh])
    rw [show hasB l s = true from by unfold hasB; exact decide_eq_true hh] at KH
    clear hh
    go_enter Try.func60, Try.ntmps60
    go_wp2_with fail
    refine KH.out.mono ?_
    rintro e w1 ⟨rfl, rfl⟩
    go_wp2
    go_ret
    exact ⟨_, rfl, by rw [HR.out]; exact HV.out.move (fun b h _ => .inl h) (fun _ _ _ _ h => h), Below.refl _ _⟩
  have HR : Hid (putT l s = insT l s) := Lib.hid (by unfold putT; rw [if_neg hh])
  have HIN := Lib.hid (putS_ins s l [])
  rw [show hasB l s = false from by unfold hasB; exact decide_eq_false hh] at KH
  clear hh
  have HO0 : Hid (OutT (w.alloc (.cells #[] 9)) w.heap.size [] (.slice (some ⟨w.heap.size, 0, none⟩) 0 0)) := Lib.hid (OutT.lit0 (heap_alloc_new w _) (Nat.le_refl _))
  have HB0 : Hid (Below w.heap.size w (w.alloc (.cells #[] 9))) := Lib.hid ((Below.refl _ _).alloc (Nat.le_refl _) _)
  go_enter Try.func60, Try.ntmps60
  go_wp2_with fail
  refine KH.out.mono ?_
  rintro e w1 ⟨rfl, rfl⟩
  go_wp2
  generalize w.alloc (.cells #[] 9) = w0 at *
  go_loopw [5, 6, 7] (fun ov dv iv wr => ∃ (j : Nat), j ≤ l.length ∧ iv = .int .i64 j ∧ dv = .bool ((l.take j).foldl (putS s) (false, [])).1 ∧ OutT wr w.heap.size ((l.take j).foldl (putS s) (false, [])).2 ov ∧ Below w.heap.size w wr) (fun _ _ iv _ => l.length - (intOf iv).toNat)
  case atStart => exact ⟨0, Nat.zero_le _, rfl, rfl, HO0.out, HB0.out⟩
  case round =>
    obtain ⟨j, hj, rfl, rfl, ho, hb⟩ := hrel
    have HO := Lib.hid ho
    have HB := Lib.hid hb
    have HLN := Lib.hid (putS_len s (l.take j) (false, []))
    clear ho hb
    by_cases hlt : j < l.length
    · have HST := Lib.hid (putS_take (s := s) hlt)
      have HTL : Hid ((l.take j).length ≤ 40000) := Lib.hid (by rw [List.length_take]; omega)
      obtain ⟨a0, c0, ea, _, _, _, hr⟩ := HV.out.below HB.out
      obtain ⟨b, o, rfl, hSb, hc⟩ := hr.resolve_left (by rintro rfl; cases hlt)
      cases ea
      obtain ⟨x0, hxs⟩ := hc j hlt
      have HXS := Lib.hid hxs
      have hbb := World.block_lt_of_cell? _ _ x0
      clear hr hc hxs
      generalize l[j] = x at *
      generalize (l.take j).foldl (putS s) (false, []) = pp at *
      obtain ⟨dn, ol⟩ := pp
      have hol : ol.length ≤ 80000 := by have := HLN.out; have := HTL.out; simp only [List.length_nil] at *; omega
      have hwr := HB.out.size
      have HBL := Lib.hid hbb
      cases dn
      · by_cases hlx : s.data.toList < x.data.toList
        · have HST2 : Hid ((l.take (j + 1)).foldl (putS s) (false, []) = (true, (ol ++ [s]) ++ [x])) := Lib.hid (by rw [HST.out]; unfold putS; rw [if_pos ⟨rfl, hlx⟩])
          have hlt' : Op.bytesLess s.toList x.toList = true := by rw [bytesLess_eq, ByteArray.toList_eq, ByteArray.toList_eq]; exact decide_eq_true hlx
          have HO1 : Hid (OutT (wr.alloc (.cells #[.string s] 9)) w.heap.size ol u5) := Lib.hid (HO.out.below ((Below.refl _ _).alloc (Nat.le_refl _) _))
          have HB1 : Hid (Below w.heap.size w (wr.alloc (.cells #[.string s] 9))) := Lib.hid (bel_alloc' HB.out _)
          have HSS := Lib.hid hs
          clear HST hlx
          go_upto_region 10 with (at_builtin; refine wpList_append_ts rfl _ _ rfl w.heap.size ol u5 rfl HO1.out (fun _ => True) [s] _ (inN_lit (heap_alloc_new _ _) HSS.out) rfl (by simp only [List.length_cons, List.length_nil]; omega) HB1.out.size ?_; intro v1 w1 ho1 hk1 ha1)
          have HO2 := Lib.hid ho1
          have hb2 := HB1.out.trans (hk1.toBelow HO1.out HB1.out.size)
          have HB2 := Lib.hid hb2
          have x1 : w1.cell? ⟨b, o + j, none⟩ = some (.string x) := by
            have e : w1.heap[b]? = (wr.alloc (.cells #[.string s] 9)).heap[b]? := (hk1.toBelow HO1.out HB1.out.size).block b (HSL.out b hSb)
            rw [World.cell?_of_block (w := wr.alloc (.cells #[.string s] 9)) (a := ⟨b, o + j, none⟩) e]
            exact cell_below ((Below.refl wr.heap.size wr).alloc (Nat.le_refl _) _) x0
          clear ho1 hk1 ha1 hb2
          have HO3 : Hid (OutT (w1.alloc (.cells #[.string x] 9)) w.heap.size (ol ++ [s]) v1) := Lib.hid (HO2.out.below ((Below.refl _ _).alloc (Nat.le_refl _) _))
          have HB3 : Hid (Below w.heap.size w (w1.alloc (.cells #[.string x] 9))) := Lib.hid (bel_alloc' HB2.out _)
          go_wp2_with (at_builtin; refine wpList_append_ts rfl _ _ rfl w.heap.size (ol ++ [s]) v1 rfl HO3.out (fun _ => True) [x] _ (inN_lit (heap_alloc_new _ _) HXS.out) rfl (by simp only [List.length_append, List.length_cons, List.length_nil]; omega) HB3.out.size ?_; intro v2 w2 ho1 hk1 ha1)
          have HO4 := Lib.hid ho1
          have HB4 : Hid (Below w.heap.size w w2) := Lib.hid (HB3.out.trans (hk1.toBelow HO3.out HB3.out.size))
          clear ho1 hk1 ha1
          go_wp2
          go_roundw
          case rel => exact ⟨j + 1, by omega, by go_num, by rw [HST2.out], by rw [HST2.out]; exact HO4.out, HB4.out⟩
          case measure => simp [intOf]; omega
        · have HST2 : Hid ((l.take (j + 1)).foldl (putS s) (false, []) = (false, ol ++ [x])) := Lib.hid (by rw [HST.out]; unfold putS; rw [if_neg (fun h => hlx h.2)])
          have hlt' : Op.bytesLess s.toList x.toList = false := by rw [bytesLess_eq, ByteArray.toList_eq, ByteArray.toList_eq]; exact decide_eq_false hlx
          have HO1 : Hid (OutT (wr.alloc (.cells #[.string x] 9)) w.heap.size ol u5) := Lib.hid (HO.out.below ((Below.refl _ _).alloc (Nat.le_refl _) _))
          have HB1 : Hid (Below w.heap.size w (wr.alloc (.cells #[.string x] 9))) := Lib.hid (bel_alloc' HB.out _)
          clear HST hlx
          go_wp2_with (at_builtin; refine wpList_append_ts rfl _ _ rfl w.heap.size ol u5 rfl HO1.out (fun _ => True) [x] _ (inN_lit (heap_alloc_new _ _) HXS.out) rfl (by simp only [List.length_cons, List.length_nil]; omega) HB1.out.size ?_; intro v1 w1 ho1 hk1 ha1)
          have HO2 := Lib.hid ho1
          have HB2 : Hid (Below w.heap.size w w1) := Lib.hid (HB1.out.trans (hk1.toBelow HO1.out HB1.out.size))
          clear ho1 hk1 ha1
          go_wp2
          go_roundw
          case rel => exact ⟨j + 1, by omega, by go_num, by rw [HST2.out], by rw [HST2.out]; exact HO2.out, HB2.out⟩
          case measure => simp [intOf]; omega
      · have HST2 : Hid ((l.take (j + 1)).foldl (putS s) (false, []) = (true, ol ++ [x])) := Lib.hid (by rw [HST.out]; unfold putS; rw [if_neg (fun h => by cases h.1)])
        clear HST
        have HO1 : Hid (OutT (wr.alloc (.cells #[.string x] 9)) w.heap.size ol u5) := Lib.hid (HO.out.below ((Below.refl _ _).alloc (Nat.le_refl _) _))
        have HB1 : Hid (Below w.heap.size w (wr.alloc (.cells #[.string x] 9))) := Lib.hid (bel_alloc' HB.out _)
        go_wp2_with (at_builtin; refine wpList_append_ts rfl _ _ rfl w.heap.size ol u5 rfl HO1.out (fun _ => True) [x] _ (inN_lit (heap_alloc_new _ _) HXS.out) rfl (by simp only [List.length_cons, List.length_nil]; omega) HB1.out.size ?_; intro v1 w1 ho1 hk1 ha1)
        have HO2 := Lib.hid ho1
        have HB2 : Hid (Below w.heap.size w w1) := Lib.hid (HB1.out.trans (hk1.toBelow HO1.out HB1.out.size))
        clear ho1 hk1 ha1
        go_wp2
        go_roundw
        case rel => exact ⟨j + 1, by omega, by go_num, by rw [HST2.out], by rw [HST2.out]; exact HO2.out, HB2.out⟩
        case measure => simp [intOf]; omega
    · obtain rfl : j = l.length := by omega
      rw [List.take_length] at HO HLN ⊢
      have HI := Lib.hid HIN.out
      have HALL := Lib.hid (putS_all (s := s) l (false, []))
      generalize l.foldl (putS s) (false, []) = pp at *
      obtain ⟨dn, ol⟩ := pp
      have hol : ol.length ≤ 80000 := by have := HLN.out; simp only [List.length_nil] at *; omega
      have HSS := Lib.hid hs
      cases dn
      · have HE : Hid (putT l s = ol ++ [s]) := Lib.hid (by rw [HR.out]; exact (HI.out.symm.trans (if_neg (by simp))))
        have HO1 : Hid (OutT (wr.alloc (.cells #[.string s] 9)) w.heap.size ol u5) := Lib.hid (HO.out.below ((Below.refl _ _).alloc (Nat.le_refl _) _))
        have HB1 : Hid (Below w.heap.size w (wr.alloc (.cells #[.string s] 9))) := Lib.hid (bel_alloc' HB.out _)
        clear HI HIN
        go_wp2_with (at_builtin; refine wpList_append_ts rfl _ _ rfl w.heap.size ol u5 rfl HO1.out (fun _ => True) [s] _ (inN_lit (heap_alloc_new _ _) HSS.out) rfl (by simp only [List.length_cons, List.length_nil]; omega) HB1.out.size ?_; intro v1 w1 ho1 hk1 ha1)
        have HO2 := Lib.hid ho1
        have HB2 : Hid (Below w.heap.size w w1) := Lib.hid (HB1.out.trans (hk1.toBelow HO1.out HB1.out.size))
        clear ho1 hk1 ha1
        go_wp2
        go_ret
        refine ⟨_, rfl, ?_, HB2.out⟩
        rw [HE.out]
        exact HO2.out.inN (fun t ht => by
          rcases List.mem_append.1 ht with h | h
          · rcases HALL.out t h with e | e | e
            · rw [e]; exact HSS.out
            · exact HSZ.out t e
            · cases e
          · rw [List.mem_singleton.1 h]; exact HSS.out) (fun b e => .inr (World.ownsRow.lt HO2.out b e).1)
      · have HE : Hid (putT l s = ol) := Lib.hid (by rw [HR.out]; exact (HI.out.symm.trans (if_pos rfl)))
        clear HI HIN
        go_wp2
        go_ret
        refine ⟨_, rfl, ?_, HB.out⟩
        rw [HE.out]
        exact HO.out.inN (fun t h => by
          rcases HALL.out t h with e | e | e
          · rw [e]; exact HSS.out
          · exact HSZ.out t e
          · cases e) (fun b e => .inr (World.ownsRow.lt HO.out b e).1)
end Go.Proofs.Ytkjgdnfkpebejaa.Core
