/-
The document's Read, in memory: its walk. No condition but the tokens'.
-/
import Derived.Test.YthfjlcflpneffaaGreatDoorF11
import Derived.Test.YthfjlcflpneffaaGreatDoorF12
import Derived.Test.YthfjlcflpneffaaGreatDoorWU
import Derived.Test.YthfjlcflpneffaaGreatDoorF3
namespace Go.Proofs.YthfjlcflpneffaaGreatDoor
open Go.ChangeShapes Go.WideShapes Go.ChangeAt Go.RowKit
open Dat (PT makeT RepS RepV numT numsT)

/-- What the document's Read answers. -/
def GotRR (l : List UInt8) (w : World) (e : Ending) (w' : World) : Prop :=
  Below w.heap.size w w' ∧ ∃ v, e = .returned (.tuple #[v, .int .i64 ((readT l).2.1 : Int), .int .i64 (readT l).2.2]) ∧ RepS w' w'.heap.size (readT l).1 v
def ReadI (N : Nat) (ts : List TkP) (w1 : World) (o s i : Value) (wr : World) : Prop :=
  ∃ (j : Nat) (st : List Op) (out : List PT) (q m c mo co : Nat), j ≤ ts.length ∧ i = .int .i64 (j : Int) ∧ runM N [] [] ts = runM N st out (ts.drop j) ∧ StFit m c st ∧ FitL 0 mo co out ∧ m + mo ≤ j ∧ OutOwn wr w1.heap.size q out o ∧ StkOwn wr w1.heap.size q st.reverse s ∧ Below w1.heap.size w1 wr

theorem toks_fine {l : List UInt8} (he : (toksT l).2.2 = 0) : (∀ p ∈ (toksT l).1, TkFine p.t (p.b - p.a)) ∧ (toksT l).1.length ≤ 2048 := by
  obtain ⟨h1, h2, h3, _⟩ := toks_ok he
  have hg := gapS_le false l
  obtain ⟨f1, f2, f3⟩ := run_fine l.length _ 0 (gapS false l) (Nat.le_refl _) (by omega)
  rw [← h3] at f1 f2 f3
  exact ⟨f1, by have := f3 (by omega); omega⟩
theorem snoc_cases {α : Type} (l : List α) : l = [] ∨ ∃ l1 o, l = l1 ++ [o] := by
  by_cases h : l = []
  · exact .inl h
  · exact .inr ⟨l.dropLast, l.getLast h, (List.dropLast_concat_getLast h).symm⟩
/-- May, at whatever stack. -/
theorem may_any (l : List Op) (w : World) (C q g cap : Nat) (h : StkOwn w C q l (.slice (some ⟨g, 0, none⟩) l.length cap)) (m c : Nat) (hfit : StFit m c l.reverse) (hm : m ≤ 2048) (k : Int) (hk : 0 ≤ k ∧ k ≤ 9) (s : ByteArray) (i a b : Int) (W : World) (hW : Below w.heap.size w W) :
    Calls Tryz.prog 22 #[.slice (some ⟨g, 0, none⟩) l.length cap, .agg #[.int .i64 k, .string s, .int .i64 i, .int .i64 a, .int .i64 b]] W fun e w' => e = .returned (.int .i64 (mayM l.reverse k)) ∧ Below W.heap.size W w' := by
  obtain ⟨h1, h2⟩ := st_nums hfit
  rcases snoc_cases l with rfl | ⟨st, o, rfl⟩
  · exact may_none cap g k hk s i a b W
  · rw [List.reverse_append, List.reverse_singleton, List.singleton_append] at h1 h2 ⊢
    obtain ⟨a1, a2, a3, _, _⟩ := h2 o (List.mem_cons_self ..)
    have h' := h.moved hW
    have hlen : (st ++ [o]).length = st.length + 1 := by simp
    obtain ⟨v, c0, c1, c2, c3, _⟩ := stk_top h' (l1 := st) (o := o) (l2 := []) (by simp)
    obtain ⟨av, cv, rfl, _⟩ := c3
    have hcap : st.length + 1 ≤ cap ∧ cap ≤ maxLen := by
      obtain ⟨g', cap', cur, e1, _, _, h3, h4, _⟩ := h
      cases e1
      rw [hlen] at h3
      exact ⟨h3, h4⟩
    rw [hlen]
    exact may_some o st.reverse st.length cap g av cv k hk s i a b W (by simp) (by simp at h1; omega) hcap.1 hcap.2 a1 ⟨a2.1, by omega⟩ (by omega) c0 c1 c2
/-- Closed, at whatever is open that may be closed. -/
theorem closed_any (o : Op) (al : Option Addr) (cl : Nat) (w : World) (S : Nat → Prop) (hS : ∀ b, w.heap.size ≤ b → S b) (hv : InS w S o.list (.slice al o.list.length cl)) (hk : o.kind = 0 ∨ o.kind = 2 ∨ o.kind = 3) (hd : 0 ≤ o.dot → o.kind = 0 ∧ (o.list.length : Int) = o.dot + 1) (hn : numsT o.list ≤ 10000) (W : World) (hW : Below w.heap.size w W) :
    Calls Tryz.prog 23 #[.agg #[.int .i64 o.kind, .slice al o.list.length cl, .int .i64 o.dot]] W fun e w' => GotC (closedM o) S e w' ∧ Below W.heap.size W w' := by
  have hv' := ins_below hv hW
  obtain ⟨ok, ol, od⟩ := o
  simp only at hv' hk hd hn ⊢
  by_cases h0 : 0 ≤ od
  · obtain ⟨rfl, he⟩ := hd h0
    rcases snoc_cases ol with rfl | ⟨l1, t, rfl⟩
    · simp at he; omega
    · rw [List.length_append, List.length_singleton] at he
      obtain rfl : od = (l1.length : Int) := by omega
      have hc : closedM ⟨0, l1 ++ [t], (l1.length : Int)⟩ = makeT l1 t := by
        unfold closedM
        rw [if_neg (show ¬ (0 : Int) = 2 by decide), if_neg (show ¬ (l1.length : Int) < 0 by omega)]
        simp
      have hl := len_nums (l1 ++ [t])
      rw [List.length_append] at hl
      rw [hc]
      refine closed_S 0 l1 t al cl W S (fun b hb => hS b (Nat.le_trans hW.size hb)) (by decide) hv' (by omega) (fun k i s m e => ?_) _ rfl
      subst e
      rw [nums_app, nums_one, numT] at hn
      have := len_nums m
      omega
  · have hc : closedM ⟨ok, ol, od⟩ = .mk (if ok = 2 then 7 else 5) 0 ⟨#[]⟩ ol := by
      unfold closedM
      by_cases h2 : ok = 2
      · rw [if_pos h2, if_pos h2]
      · rw [if_neg h2, if_pos (show od < 0 by omega), if_neg h2]
    rw [hc]
    have hkk : ok = 2 ∧ (if ok = 2 then (7 : Int) else 5) = 7 ∨ (ok == 2) = false ∧ od < 0 ∧ (if ok = 2 then (7 : Int) else 5) = 5 := by
      by_cases h2 : ok = 2
      · exact .inl ⟨h2, by rw [if_pos h2]⟩
      · exact .inr ⟨by simpa using h2, by omega, by rw [if_neg h2]⟩
    refine (closed_plain ok od ol.length al cl W _ hkk).mono ?_
    rintro e w' ⟨rfl, hb⟩
    exact ⟨⟨_, _, _, _, _, rfl, rfl, by split <;> exact Dat.ok_small (by decide), Dat.ok_small (by decide), by decide, ins_below hv' hb⟩, hb⟩

end Go.Proofs.YthfjlcflpneffaaGreatDoor
