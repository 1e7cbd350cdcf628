/-
The law's bound: all names that an expression binds, behind those that there are. No condition.
-/
import Derived.Test.YtjofdlnopchaeaaGreatDoorWKG
import Derived.Test.YtjofdlnopchaeaaGreatDoorK43
import Derived.Laws.AppendOwnNone
import Derived.Laws.OwnMore
import Derived.Deep.DeepCutAuto
namespace Go.Proofs.YtjofdlnopchaeaaGreatDoor.Core
open Go.ChangeShapes Go.WideShapes Go.ChangeAt Go.RowKit Go.Deep
open Dat (PT ok64 RowX)
set_option maxRecDepth 100000

theorem run_append_owned_empty {w : World} {P : Program} (base : Nat) (t ty e : TypeId) (i : TypeInfo) (size : Nat) (ht : P.underlying t = some (.slice e)) (hi : P.info? e = some i)
    (v : Value) (n : Nat) (xs : List Value) (hown : w.ownsRow base e size v n xs) (a : Option Addr) (c : Nat) :
    (Builtin.append_ #[t, t] ty #[v, .slice a 0 c]).run P w = .ok v w := by
  cases a with
  | none => 
    rcases hown.2 with ⟨rfl, rfl⟩ | ⟨g, cap, cur, rfl, _, _, hnc, _⟩
    · simp [Builtin.append_, run_underlying ht, sizeOf, typeInfo, hi, Builtin.lenOf, Builtin.firstCells]
    · simp [Builtin.append_, run_underlying ht, sizeOf, typeInfo, hi, Builtin.lenOf, Builtin.firstCells, hnc, storeCells]
  | some ad =>
    rcases hown.2 with ⟨rfl, rfl⟩ | ⟨g, cap, cur, rfl, _, _, hnc, _⟩
    · simp [Builtin.append_, run_underlying ht, sizeOf, typeInfo, hi, Builtin.lenOf, Builtin.firstCells, loadCells, loadCellsFrom]
    · simp [Builtin.append_, run_underlying ht, sizeOf, typeInfo, hi, Builtin.lenOf, Builtin.firstCells, hnc, storeCells, loadCells, loadCellsFrom]
theorem wpList_append_ts {ops : Array Oper} {rest : List Oper} {o : Oper} {a : Act} {w : World} {Q : Exit → Act → World → Prop} (hgd : o.guard = none) (sl x : Operand)
    (ho : o.op = .call { callee := .builtin .append, args := #[sl, x], argTypes := #[22, 22] }) (C : Nat) (l : List ByteArray) (v : Value) (hs : a.eval sl = v) (h : OutT w C l v) (S : Nat → Prop) (ns : List ByteArray) (vn : Value) (hn : InN w S ns vn) (hx : a.eval x = vn) (hlen : l.length + ns.length ≤ 100000) (hC : C ≤ w.heap.size)
    (kk : ∀ v' w', OutT w' C (l ++ ns) v' → KP w v.ownBlock w' → (v'.ownBlock = v.ownBlock ∨ ∀ b, v'.ownBlock = some b → w.heap.size ≤ b) → wpList Tryz.prog ops Q rest (a.put o.dst v') w') : wpList Tryz.prog ops Q (o :: rest) a w := by
  obtain ⟨i0, hi, hz0, hz1, hz2⟩ := info_parts infoStr
  obtain ⟨an, cn, rfl, hln, hmn, _, hr⟩ := hn
  by_cases h0 : ns = []
  · subst h0
    refine wpList_plain hgd fun K hK => ?_
    have hrun := run_append_owned_empty (P := Tryz.prog) (w := w) C 22 o.type 9 i0 1 Tryz.underlying22 hi v l.length _ h an cn
    unfold Oper.wp
    simp only [List.length_nil] at hx
    simp [execOp, ho, resolve, invoke, builtin, hs, hx, hrun, Result.andThen]
    exact hK _ _ (kk v w (by rw [List.append_nil]; exact h) (KP.refl _ _) (.inl rfl))
  · obtain ⟨b, o1, rfl, hS, hc⟩ := hr.resolve_left h0
    have hp := List.length_pos_iff.2 h0
    refine wpList_append_lies w hgd sl x 22 ho C 9 i0 _ 1 16 Tryz.underlying22 hi hz0 hz1 hz2 rfl (by decide) v l.length _ hs h ⟨b, o1, none⟩ ns.length cn (ns.map .string) hx (by simp) ?_ ?_ hp (by unfold maxLen; omega) (by omega) hC w.heap.size rfl ?_
    · intro j u hu
      rw [List.getElem?_map] at hu
      cases e : ns[j]? with
      | none => rw [e] at hu; cases hu
      | some s =>
        rw [e] at hu
        simp only [Option.map_some, Option.some.injEq] at hu
        subst hu
        obtain ⟨hj, rfl⟩ := List.getElem?_eq_some_iff.1 e
        have := (hc j hj).1
        simpa [add_plain] using this
    · intro u hu
      simp only [List.mem_map] at hu
      obtain ⟨s, _, rfl⟩ := hu
      rfl
    · intro g cap w' hown hgrow hat hlt
      refine kk _ w' ?_ ⟨⟨hgrow.os, hgrow.tape, hgrow.output, hgrow.size, fun b hb => (Nat.not_lt_zero _ hb).elim⟩, fun b h1 h2 => hgrow.block b h1 h2⟩ (by rcases hat with e | e; exact .inl e.symm; exact .inr (fun b e2 => by cases e2; exact Nat.le_of_eq e.symm))
      unfold OutT
      rw [List.length_append, List.map_append]
      exact hown
theorem KP.toBelow {C : Nat} {w w' : World} {v : Value} {l : List ByteArray} (h : KP w v.ownBlock w') (ho : OutT w C l v) (hC : C ≤ w.heap.size) : Below C w w' := h.below hC (fun b e => (World.ownsRow.lt ho b e.symm).1)
end Go.Proofs.YtjofdlnopchaeaaGreatDoor.Core
