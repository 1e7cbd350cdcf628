/-
Texts K29, K30, K31, one behind the other (a claim bears sixty files). Conditions: as each says.
-/
import Derived.Test.YtkjgdnfkpebejaaK28
import Derived.Test.YtkjgdnfkpebejaaK19
import Derived.StillTailTactics
import Derived.IntWalk
import Derived.Deep.AppendLies
import Derived.Lib.ItoaMem
import Derived.Deep.RegionHeld3

/-
Package core's gather: how often each name stands in an expression. No condition.
-/
namespace Go.Proofs.Ytkjgdnfkpebejaa.Core
open Go.ChangeShapes Go.WideShapes Go.ChangeAt Go.RowKit Go.Deep
open Dat (PT ok64)
set_option maxRecDepth 100000

mutual
/-- How large an expression is: its parts and their names. -/
def sizeE : PE → Nat
  | .mk _ _ ns _ l => 1 + ns.length + sizeEs l
def sizeEs : List PE → Nat
  | [] => 0
  | t :: l => sizeE t + sizeEs l
end
/-- A name once more. -/
def incM (m : ByteArray → Option Int) (s : ByteArray) : ByteArray → Option Int := setM m s ((m s).getD 0 + 1)
def gatN : (ByteArray → Option Int) → List ByteArray → ByteArray → Option Int
  | m, [] => m
  | m, s :: l => gatN (incM m s) l
mutual
/-- The names' counts behind an expression. -/
def gatE : (ByteArray → Option Int) → PE → ByteArray → Option Int
  | m, .mk k nm ns _ l => gatEs (gatN (if k = 7 then m else incM m nm) ns) l
def gatEs : (ByteArray → Option Int) → List PE → ByteArray → Option Int
  | m, [] => m
  | m, t :: l => gatEs (gatE m t) l
end
theorem gatN_snoc : ∀ (l : List ByteArray) (s : ByteArray) (m : ByteArray → Option Int), gatN m (l ++ [s]) = incM (gatN m l) s
  | [], _, _ => rfl
  | t :: l, s, m => gatN_snoc l s (incM m t)
theorem gatEs_snoc : ∀ (l : List PE) (t : PE) (m : ByteArray → Option Int), gatEs m (l ++ [t]) = gatE (gatEs m l) t
  | [], t, m => by simp only [List.nil_append, gatEs]
  | u :: l, t, m => by simp only [List.cons_append, gatEs]; exact gatEs_snoc l t _
theorem sizeEs_snoc : ∀ (l : List PE) (t : PE), sizeEs (l ++ [t]) = sizeEs l + sizeE t
  | [], t => by simp [sizeEs]
  | u :: l, t => by simp only [List.cons_append, sizeEs, sizeEs_snoc l t]; omega
theorem sizeEs_take (l : List PE) (j : Nat) : sizeEs (l.take j) ≤ sizeEs l := by
  induction l generalizing j with
  | nil => simp [sizeEs]
  | cons t l ih =>
    cases j with
    | zero => simp [sizeEs]
    | succ j => simp only [List.take_succ_cons, sizeEs]; have := ih j; omega
theorem KP.trans {a b c : World} {ob : Option Nat} (h : KP a ob b) (g : KP b ob c) : KP a ob c := h.put g.1 g.2
/-- Counts: no more than so many. -/
def Cnt (w : World) (b n : Nat) (m : ByteArray → Option Int) : Prop := MapI w b n m ∧ ∀ s, 0 ≤ (m s).getD 0 ∧ (m s).getD 0 ≤ n
theorem Cnt.inc {w : World} {b n : Nat} {m : ByteArray → Option Int} {s : ByteArray} (h : MapI w b (n + 1) (setM m s ((m s).getD 0 + 1))) (hc : ∀ s, 0 ≤ (m s).getD 0 ∧ (m s).getD 0 ≤ (n : Int)) : Cnt w b (n + 1) (incM m s) :=
  ⟨h, fun t => by
    unfold incM setM
    by_cases e : t = s
    · subst e; have := hc t; simp; omega
    · have := hc t; simp [e]; omega⟩
theorem Cnt.mono {w : World} {b n n' : Nat} {m : ByteArray → Option Int} (h : Cnt w b n m) (hn : n ≤ n') : Cnt w b n' m := ⟨h.1.mono hn, fun s => by have := h.2 s; omega⟩
theorem Cnt.at {w w' : World} {b n : Nat} {m : ByteArray → Option Int} (h : Cnt w b n m) (hb : w'.heap[b]? = w.heap[b]?) : Cnt w' b n m := ⟨h.1.at hb, h.2⟩
theorem MapI.store {w : World} {b n : Nat} {m : ByteArray → Option Int} (h : MapI w b n m) (hn : n < maxLen) (s : ByteArray) (c : Int) (hs : s.size ≤ maxLen) (hc : ok64 c) : ∃ w', (Instr.mapUpdate 68 (.map (some b)) (.string s) (.int .i64 c)).run Try.prog w = .ok () w' ∧ MapI w' b (n + 1) (setM m s c) ∧ w.grownBy w' (some b) := by
  obtain ⟨D, h1, h2⟩ := h
  obtain ⟨w', hrun, h3, h4⟩ := h1.update lawT Try.underlying68 hn (key_s hs) (plainElem_int Try.underlying3 (WalkArith.wf_i64 hc))
  refine ⟨w', hrun, ⟨_, h3, fun t ht => ?_⟩, h4⟩
  by_cases e : t = s
  · subst e
    rw [Maps.atKey_put_same h1.isMap (show WideAt.IsKeyLit (.string t.data.toList) from trivial), Maps.has_put_same h1.isMap (show WideAt.IsKeyLit (.string t.data.toList) from trivial)]
    simp [setM]
  · have hne : (Lit.string t.data.toList) ≠ .string s.data.toList := by
      intro h
      simp only [Lit.string.injEq] at h
      exact e (Go.WideShapes.bytes_inj h)
    rw [Maps.atKey_put_other hne, Maps.has_put_other hne]
    simpa [setM, e] using h2 t ht
theorem step_store_m (w : World) {ops : Array Oper} {o : Oper} {a : Act} {K : Act → World → Prop} {Q : Exit → Act → World → Prop} {E : Prop}
    (hgd : o.guard = none) (mo x v : Operand) (hop : o.op = Op.mapUpdate 68 mo x v) (b n : Nat) (m : ByteArray → Option Int)
    (hm : a.eval mo = .map (some b)) (hown : MapI w b n m) (hn : n < maxLen) (s : ByteArray) (c : Int) (hx : a.eval x = .string s) (hv : a.eval v = .int .i64 c) (hs : s.size ≤ maxLen) (hc : ok64 c)
    (hK : ∀ w', MapI w' b (n + 1) (setM m s c) → w.grownBy w' (some b) → K (a.put o.dst undef) w') : if Region.wanted o (yielded ops a.tmps) = true then Oper.wp Try.prog o a w K Q else E := by
  have hw : Region.wanted o (yielded ops a.tmps) = true := by simp [Region.wanted, hgd]
  rw [if_pos hw]
  obtain ⟨w', hrun, r1, r2⟩ := hown.store hn s c hs hc
  unfold Oper.wp
  simp [execOp, hop, hm, hx, hv, hrun, Result.andThen]
  exact hK _ r1 r2
end Go.Proofs.Ytkjgdnfkpebejaa.Core

/-
New numbers, as a relation; what the renamer's memory holds; package core's numbers and nameNow. No condition.
-/
namespace Go.Proofs.Ytkjgdnfkpebejaa.Core
open Go.ChangeShapes Go.WideShapes Go.ChangeAt Go.RowKit Go.Deep
open Dat (PT ok64)
set_option maxRecDepth 100000

/-- So many numbers from n on, of which the names are not in U; the number behind them. -/
inductive NumsR (U : List ByteArray) : Nat → Nat → List Nat → Nat → Prop
  | nil (n : Nat) : NumsR U n 0 [] n
  | skip {n m n' : Nat} {l : List Nat} : numS n ∈ U → NumsR U (n + 1) (m + 1) l n' → NumsR U n (m + 1) l n'
  | take {n m n' : Nat} {l : List Nat} : numS n ∉ U → NumsR U (n + 1) m l n' → NumsR U n (m + 1) (n :: l) n'
/-- .. as a loop finds them. -/
inductive NumsL (U : List ByteArray) : Nat → List Nat → Nat → Prop
  | nil (n : Nat) : NumsL U n [] n
  | skip {n n' : Nat} {l : List Nat} : NumsL U n l n' → numS n' ∈ U → NumsL U n l (n' + 1)
  | take {n n' : Nat} {l : List Nat} : NumsL U n l n' → numS n' ∉ U → NumsL U n (l ++ [n']) (n' + 1)
def numsLead (U : List ByteArray) (n n' : Nat) (l : List Nat) : Prop := NumsL U n l n'
theorem NumsL.le {U : List ByteArray} {n n' : Nat} {l : List Nat} (h : NumsL U n l n') : n + l.length ≤ n' := by
  induction h with
  | nil => simp
  | skip _ _ ih => omega
  | take _ _ ih => simp; omega
open Classical in
/-- How many of a row are names of numbers from n on. -/
noncomputable def restN (U : List ByteArray) (n : Nat) : Nat := (U.filter fun u => decide (∃ i, n ≤ i ∧ u = numS i)).length
theorem digit_val : ∀ k : Fin 10, (UInt8.ofNat (48 + k.val)).toNat = 48 + k.val := by decide +kernel
def undecN (l : List UInt8) : Nat := l.foldl (fun a c => a * 10 + (c.toNat - 48)) 0
theorem undec_dec (u : Nat) : undecN (Lib.decDigits u) = u := by
  induction u using Nat.strongRecOn with
  | _ u ih =>
    rw [Lib.decDigits]
    split
    · have := digit_val ⟨u, by omega⟩
      simp only at this
      simp only [undecN, List.foldl_cons, List.foldl_nil]
      omega
    · have t := digit_val ⟨u % 10, by omega⟩
      simp only at t
      have h3 := ih (u / 10) (by omega)
      unfold undecN at h3 ⊢
      rw [List.foldl_append, h3]
      simp only [List.foldl_cons, List.foldl_nil]
      omega
theorem numS_inj {a b : Nat} (h : numS a = numS b) : a = b := by
  have h2 := congrArg (fun x : ByteArray => x.data.toList) h
  simp only [numS, List.cons_append, List.nil_append, List.cons.injEq, true_and] at h2
  rw [Lib.itoa_nonneg, Lib.itoa_nonneg] at h2
  have h3 := congrArg undecN h2
  rwa [undec_dec, undec_dec] at h3
theorem restN_le (U : List ByteArray) (n : Nat) : restN U (n + 1) ≤ restN U n := by
  unfold restN
  induction U with
  | nil => simp
  | cons u U ih =>
    simp only [List.filter_cons]
    by_cases h1 : ∃ i, n + 1 ≤ i ∧ u = numS i
    · have h2 : ∃ i, n ≤ i ∧ u = numS i := by obtain ⟨i, h, e⟩ := h1; exact ⟨i, by omega, e⟩
      simp only [h1, h2, decide_true, if_true, List.length_cons]
      omega
    · simp only [h1, decide_false, Bool.false_eq_true, if_false]
      split
      · simp only [List.length_cons]; omega
      · exact ih
theorem restN_lt {U : List ByteArray} {n : Nat} (h : numS n ∈ U) : restN U (n + 1) < restN U n := by
  unfold restN
  induction U with
  | nil => cases h
  | cons u U ih =>
    simp only [List.filter_cons]
    have hle := restN_le U n
    unfold restN at hle
    rcases List.mem_cons.1 h with e | h
    · have h2 : ∃ i, n ≤ i ∧ u = numS i := ⟨n, Nat.le_refl _, e.symm⟩
      have h1 : ¬ ∃ i, n + 1 ≤ i ∧ u = numS i := by
        rintro ⟨i, hi, e2⟩
        rw [← e] at e2
        have := numS_inj e2
        omega
      simp only [h1, h2, decide_true, decide_false, if_true, Bool.false_eq_true, if_false, List.length_cons]
      omega
    · have := ih h
      by_cases h1 : ∃ i, n + 1 ≤ i ∧ u = numS i
      · have h2 : ∃ i, n ≤ i ∧ u = numS i := by obtain ⟨i, h, e⟩ := h1; exact ⟨i, by omega, e⟩
        simp only [h1, h2, decide_true, if_true, List.length_cons]
        omega
      · simp only [h1, decide_false, Bool.false_eq_true, if_false]
        split
        · simp only [List.length_cons]; omega
        · exact this
theorem numS_size (n : Nat) (hn : n ≤ 1000000000) : (numS n).size ≤ maxLen := by
  have := Lib.itoa_length_le (n : Int) (by omega) (by omega)
  show ([118, 46] ++ Lib.itoa (n : Int)).toArray.size ≤ maxLen
  unfold maxLen
  simp
  omega

/-- A row of numbers of the call's own. -/
def RowN (w : World) (C : Nat) (l : List Nat) (v : Value) : Prop := w.ownsRow C 3 1 v l.length (l.map fun n : Nat => .int .i64 (n : Int))
theorem RowN.at {w w' : World} {C : Nat} {l : List Nat} {v : Value} (h : RowN w C l v) (hb : ∀ b, v.ownBlock = some b → w'.heap[b]? = w.heap[b]?) : RowN w' C l v := by
  refine ⟨h.1, h.2.imp id ?_⟩
  rintro ⟨g, cap, cur, rfl, h1, h2, h3⟩
  exact ⟨g, cap, cur, rfl, h1, (hb g rfl).trans h2, h3⟩
theorem RowN.nil (w : World) (C : Nat) : RowN w C [] (.slice none 0 0) := World.ownsRow_nil _ _ _ _
/-- No row's block is this one. -/
def NoRow (f : ByteArray → Value) (b : Nat) : Prop := ∀ s, (f s).ownBlock ≠ some b
/-- What a call of the renamer's leaves as it was. -/
def RenFr (C rb bb : Nat) (w : World) (f : ByteArray → Value) (w' : World) (f' : ByteArray → Value) : Prop :=
  Below C w w' ∧ ∀ b, b < w.heap.size → b ≠ rb → b ≠ bb → NoRow f b → w'.heap[b]? = w.heap[b]? ∧ NoRow f' b
theorem RenFr.refl (C rb bb : Nat) (w : World) (f : ByteArray → Value) : RenFr C rb bb w f w f := ⟨Below.refl _ _, fun _ _ _ _ h => ⟨rfl, h⟩⟩
theorem RenFr.trans {C rb bb : Nat} {w w1 w2 : World} {f f1 f2 : ByteArray → Value} (h : RenFr C rb bb w f w1 f1) (g : RenFr C rb bb w1 f1 w2 f2) : RenFr C rb bb w f w2 f2 :=
  ⟨h.1.trans g.1, fun b h1 h2 h3 h4 => by
    obtain ⟨a1, a2⟩ := h.2 b h1 h2 h3 h4
    obtain ⟨b1, b2⟩ := g.2 b (Nat.lt_of_lt_of_le h1 h.1.size) h2 h3 a2
    exact ⟨b1.trans a1, b2⟩⟩
theorem RenFr.of_below {C rb bb : Nat} {w w' : World} {f : ByteArray → Value} (hC : C ≤ w.heap.size) (h : Below w.heap.size w w') : RenFr C rb bb w f w' f := ⟨h.mono hC, fun b h1 _ _ h4 => ⟨h.block b h1, h4⟩⟩
end Go.Proofs.Ytkjgdnfkpebejaa.Core

/-
Package core's nameNow and numbers. No condition.
-/
namespace Go.Proofs.Ytkjgdnfkpebejaa.Core
open Go.ChangeShapes Go.WideShapes Go.ChangeAt Go.RowKit Go.Deep
open Dat (PT ok64)
set_option maxRecDepth 100000

/-- Which name a variable has now. -/
def nowT (env : ByteArray → List Nat) (s : ByteArray) : ByteArray := match (env s).getLast? with
  | none => s
  | some i => numS i
theorem NumsL.pot {U : List ByteArray} {n n' : Nat} {l : List Nat} (h : NumsL U n l n') : n' + restN U n' ≤ n + l.length + restN U n := by
  induction h with
  | nil => simp
  | skip _ hu ih => have := restN_lt hu; omega
  | @take n' l _ _ ih => have := restN_le U n'; simp only [List.length_append, List.length_singleton]; omega
theorem infoInt : (Try.prog.info? 3).map (fun i => (i.zero, i.size, i.bytes)) = some (some (.int .i64 0), 1, 8) := by kernel_rfl
theorem rowN_step {w' : World} {C g cap : Nat} {l : List Nat} {n : Nat} {xs : List Value} (hxs : xs = l.map fun n : Nat => .int .i64 (n : Int)) (hown : w'.ownsRow C 3 1 (.slice (some ⟨g, 0, none⟩) (l.length + 1) cap) (l.length + 1) (xs ++ [.int .i64 (n : Int)])) : RowN w' C (l ++ [n]) (.slice (some ⟨g, 0, none⟩) (l.length + 1) cap) := by
  subst hxs
  unfold RowN
  rw [List.length_append, List.map_append]
  exact hown
theorem wpList_append_n {ops : Array Oper} {rest : List Oper} {o : Oper} {a : Act} {w : World} {Q : Exit → Act → World → Prop} (hgd : o.guard = none) (sl x : Operand)
    (ho : o.op = .call { callee := .builtin .append, args := #[sl, x], argTypes := #[47, 47] }) (C : Nat) (l : List Nat) (v : Value) (hs : a.eval sl = v) (h : RowN w C l v) (B n : Nat) (hx : a.eval x = .slice (some ⟨B, 0, none⟩) 1 1)
    (hB : w.heap[B]? = some (.cells #[.int .i64 (n : Int)] 3 (0, 0))) (hlen : l.length ≤ 100000) (hC : C ≤ w.heap.size)
    (kk : ∀ g cap w', RowN w' C (l ++ [n]) (.slice (some ⟨g, 0, none⟩) (l.length + 1) cap) → w.grownBy w' v.ownBlock → (v.ownBlock = some g ∨ g = w.heap.size) → g < w'.heap.size → wpList Try.prog ops Q rest (a.put o.dst (.slice (some ⟨g, 0, none⟩) (l.length + 1) cap)) w') : wpList Try.prog ops Q (o :: rest) a w := by
  obtain ⟨i0, hi, hz0, hz1, hz2⟩ := info_parts infoInt
  refine wpList_append_lies w hgd sl x 47 ho C 3 i0 _ 1 8 Try.underlying47 hi hz0 hz1 hz2 rfl (by decide) v l.length _ hs h ⟨B, 0, none⟩ 1 1 [.int .i64 (n : Int)] hx rfl (World.news_of_block hB) ?_ (by decide) (by unfold maxLen; omega) (by omega) hC w.heap.size rfl ?_
  · intro u hu
    simp only [List.mem_cons, List.not_mem_nil, or_false] at hu
    subst hu; rfl
  · intro g cap w' hown hgrow hat hlt
    exact kk g cap w' (rowN_step rfl hown) hgrow hat hlt
theorem KP.nextB {w W W' : World} {ob : Option Nat} (h : KP w ob W) (hb : Below w.heap.size W W') : KP w ob W' := ⟨h.1.trans (hb.mono (Nat.zero_le _)), fun b h1 h2 => (hb.block b h1).trans (h.2 b h1 h2)⟩
/-- The next number that stands in memory. -/
def nxOf (w : World) (rb : Nat) : Nat := match w.cell? ⟨rb, 2, none⟩ with
  | some (.int _ z) => z.toNat
  | _ => 0
theorem nxOf_blk {w : World} {rb : Nat} {x y : Value} {k : IntKind} {z : Int} {T : TypeId} {fr : Nat × Nat} (h : w.heap[rb]? = some (.cells #[x, y, .int k z] T fr)) : nxOf w rb = z.toNat := by
  unfold nxOf
  rw [Lib.cell_of_heap h]; rfl
def lenV : Value → Nat
  | .slice _ n _ => n
  | _ => 0
theorem RowN.slice {w : World} {C : Nat} {l : List Nat} {v : Value} (h : RowN w C l v) : ∃ a c, v = .slice a l.length c ∧ (∀ b, v.ownBlock = some b → C ≤ b ∧ b < w.heap.size) := by
  have hl := h.lt
  rcases h.2 with ⟨rfl, h0⟩ | ⟨g, cap, cur, rfl, _⟩
  · exact ⟨none, 0, by rw [h0], hl⟩
  · exact ⟨_, cap, rfl, hl⟩
end Go.Proofs.Ytkjgdnfkpebejaa.Core
