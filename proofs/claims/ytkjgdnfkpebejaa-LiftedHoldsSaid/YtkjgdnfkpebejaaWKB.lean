/-
Texts K7, K8, K9, one behind the other (a claim bears sixty files). Conditions: as each says.
-/
import Derived.Test.YtkjgdnfkpebejaaK6
import Derived.Maps.OwnSet

/-
Which expressions may be, as plain functions on trees: an expression's own fields, as the document tells them and as the code looks at them; what is wrong first, and how many have been looked at. No condition.
-/
namespace Go.Proofs.Ytkjgdnfkpebejaa.Core
open Go.ChangeShapes Go.WideShapes Go.ChangeAt Go.RowKit Go.Deep
open Dat (PT ok64 RepV RepS checkB sameB)

/-- An empty datum. -/
def PT0 : PT := .mk 0 0 ⟨#[]⟩ []
/-- An empty expression. -/
def PE0 : PE := .mk 0 ⟨#[]⟩ [] PT0 []
def PE.kind : PE → Int
  | .mk k _ _ _ _ => k
/-- Are the first ones all functions? -/
def funsB (l : List PE) : Bool := l.all fun e => decide (e.kind = 5)
open Classical in
/-- Does a kind take so many kids, and names? -/
noncomputable def kidsB (k : Int) (nm : ByteArray) (n : Nat) (l : List PE) : Bool :=
  if k = 0 ∨ k = 1 then decide (l.length = 0)
  else if k = 2 then decide (l.length = 1)
  else if k = 3 then decide (l.length = 3)
  else if k = 4 then decide (2 ≤ l.length)
  else if k = 5 then decide (n ≤ 6) && decide (l.length = 1)
  else if k = 6 then decide (1 ≤ l.length) && decide (l.length ≤ 7)
  else if k = 7 then decide ((l.length : Int) = arityT nm.data.toList)
  else if k = 8 ∨ k = 9 then decide (l.length = n + 1)
  else if k = 10 then decide (1 ≤ n) && decide (l.length = n + 1) && funsB (l.take n)
  else false
/-- What has the name to be? -/
def nameOkB (k : Int) (nm : ByteArray) : Bool :=
  if k = 1 ∨ k = 2 then nameB nm.data.toList else if k = 7 then decide (0 ≤ arityT nm.data.toList) else decide (nm.toList = [])
noncomputable def namesOkB (k : Int) (ns : List ByteArray) : Bool :=
  if k = 5 ∨ k = 8 ∨ k = 9 ∨ k = 10 then namesB ns else decide (ns.length = 0)
noncomputable def constOkB (k : Int) (d : PT) : Bool :=
  if k = 0 then constB d else sameB d PT0
noncomputable def fieldsB (k : Int) (nm : ByteArray) (ns : List ByteArray) (d : PT) : Bool := nameOkB k nm && namesOkB k ns && constOkB k d
/-- May an expression's own fields be? -/
noncomputable def formE : PE → Bool
  | .mk k nm ns d l => kidsB k nm ns.length l && fieldsB k nm ns d

mutual
/-- What is wrong first in an expression within so many, so many having been looked at; how many have been then. -/
noncomputable def chkE (deep n : Nat) : PE → Nat × Int
  | .mk k nm ns d l =>
    if n = 4096 then (n, 62)
    else if deep = 250 then (n + 1, 61)
    else if formE (.mk k nm ns d l) then chkEs (deep + 1) (n + 1) l
    else (n + 1, 60)
noncomputable def chkEs (deep n : Nat) : List PE → Nat × Int
  | [] => (n, 0)
  | t :: l => if (chkE deep n t).2 = 0 then chkEs deep (chkE deep n t).1 l else chkE deep n t
end
mutual
theorem chkE_le (deep n : Nat) (hn : n ≤ 4096) : ∀ t : PE, n ≤ (chkE deep n t).1 ∧ (chkE deep n t).1 ≤ 4096
  | .mk k nm ns d l => by
    rw [chkE]
    split
    · exact ⟨Nat.le_refl _, hn⟩
    split
    · exact ⟨by simp, by simp; omega⟩
    split
    · have := chkEs_le (deep + 1) (n + 1) (by omega) l
      exact ⟨by omega, this.2⟩
    · exact ⟨by simp, by simp; omega⟩
theorem chkEs_le (deep n : Nat) (hn : n ≤ 4096) : ∀ l : List PE, n ≤ (chkEs deep n l).1 ∧ (chkEs deep n l).1 ≤ 4096
  | [] => by rw [chkEs]; exact ⟨Nat.le_refl _, hn⟩
  | t :: l => by
    rw [chkEs]
    have h1 := chkE_le deep n hn t
    split
    · have := chkEs_le deep _ h1.2 l
      exact ⟨by omega, this.2⟩
    · exact h1
end
theorem chkEs_append (deep : Nat) : ∀ (l m : List PE) (n : Nat), (chkEs deep n l).2 = 0 → chkEs deep n (l ++ m) = chkEs deep (chkEs deep n l).1 m
  | [], m, n, _ => by rw [chkEs]; rfl
  | t :: l, m, n, h => by
    rw [List.cons_append, chkEs, chkEs]
    rw [chkEs] at h
    split
    · rw [if_pos ‹_›] at h
      exact chkEs_append deep l m _ h
    · rw [if_neg ‹_›] at h
      omega
theorem chkEs_take (deep n : Nat) (l : List PE) (j : Nat) (hj : j < l.length) (h : (chkEs deep n (l.take j)).2 = 0) : chkEs deep n (l.take (j + 1)) = chkE deep (chkEs deep n (l.take j)).1 l[j] := by
  rw [List.take_succ_eq_append_getElem hj, chkEs_append deep _ _ _ h, chkEs]
  split
  · rw [chkEs]
    rename_i h0
    exact Prod.ext rfl h0.symm
  · rfl
theorem chkEs_stop (deep : Nat) : ∀ (l m : List PE) (n : Nat), (chkEs deep n l).2 ≠ 0 → chkEs deep n (l ++ m) = chkEs deep n l
  | [], m, n, h => by rw [chkEs] at h; exact absurd rfl h
  | t :: l, m, n, h => by
    rw [List.cons_append, chkEs, chkEs]
    rw [chkEs] at h
    split
    · rw [if_pos ‹_›] at h
      exact chkEs_stop deep l m _ h
    · rfl
theorem chkEs_whole (deep n : Nat) (l : List PE) (j : Nat) (h : (chkEs deep n (l.take j)).2 ≠ 0) : chkEs deep n l = chkEs deep n (l.take j) := by
  have := chkEs_stop deep (l.take j) (l.drop j) n h
  rwa [List.take_append_drop] at this
/-- Check. -/
noncomputable def checkE (t : PE) : Int := (chkE 0 0 t).2
end Go.Proofs.Ytkjgdnfkpebejaa.Core

/-
What package core looks at in an expression's fields: is a datum empty, may it be a constant, are the kids functions. No condition.
-/
namespace Go.Proofs.Ytkjgdnfkpebejaa.Core
open Go.ChangeShapes Go.WideShapes Go.ChangeAt Go.RowKit Go.Deep
open Dat (PT ok64 RepV RepS checkB sameB)
set_option maxRecDepth 100000

theorem isEmpty_any (k i : Int) (s : ByteArray) (a : Option Addr) (n c : Nat) (r : Bool) (hr : r = (decide (k = 0) && decide (i = 0) && s.data.toList.isEmpty && decide (n = 0))) (w : World) :
    Calls Try.prog 70 #[.agg #[.int .i64 k, .int .i64 i, .string s, .slice a n c]] w fun e w' => e = .returned (.bool r) ∧ Below w.heap.size w w' := by
  rw [← ByteArray.toList_eq] at hr
  have HR := Lib.hid hr
  clear hr
  go_enter Try.func70, Try.ntmps70
  go_wp2
  all_goals
    go_ret
    refine ⟨ret_bool ?_, (Below.refl _ _).alloc (Nat.le_refl _) _⟩
    rw [HR.out]
    rw [Bool.eq_iff_iff]
    simp [*] <;> omega
theorem empty_iff {s : ByteArray} : s.data.toList.isEmpty = true ↔ s = ⟨#[]⟩ := by
  obtain ⟨⟨l⟩⟩ := s
  simp
theorem isEmpty_pt (k i : Int) (s : ByteArray) (l : List PT) (a : Option Addr) (c : Nat) (w : World) :
    Calls Try.prog 70 #[.agg #[.int .i64 k, .int .i64 i, .string s, .slice a l.length c]] w fun e w' => e = .returned (.bool (sameB (.mk k i s l) PT0)) ∧ Below w.heap.size w w' := by
  refine isEmpty_any k i s a l.length c _ ?_ w
  rw [Bool.eq_iff_iff]
  unfold PT0
  rw [Dat.sameB_mk]
  simp only [decide_eq_true_eq, Bool.and_eq_true, empty_iff, List.length_eq_zero_iff, and_assoc]
theorem leaf_nil {k i : Int} {s : ByteArray} {l : List PT} (hn : Dat.nestB k = false) (h : checkB (.mk k i s l) = 0) : l = [] := by
  unfold checkB at h
  rw [Dat.chk, if_neg (by omega), if_neg (by simp [hn])] at h
  split at h
  · exact Dat.form_leaf hn ‹_›
  · cases h
theorem const_is {k i : Int} {s : ByteArray} {l : List PT} (h : k = 0 ∨ k = 1 ∨ k = 2 ∨ k = 4 ∨ k = 5) : constB (.mk k i s l) = (decide (l.length = 0) && decide (checkB (.mk k i s l) = 0)) := by
  unfold constB
  rw [Bool.eq_iff_iff]
  simp only [Bool.and_eq_true, decide_eq_true_eq, Bool.or_eq_true]
  constructor
  · rintro ⟨h1, h2⟩
    refine ⟨?_, h1⟩
    rcases h2 with ((((rfl | rfl) | rfl) | rfl) | ⟨rfl, h2⟩)
    · rw [leaf_nil (by simp [Dat.nestB]) h1]; rfl
    · rw [leaf_nil (by simp [Dat.nestB]) h1]; rfl
    · rw [leaf_nil (by simp [Dat.nestB]) h1]; rfl
    · rw [leaf_nil (by simp [Dat.nestB]) h1]; rfl
    · exact h2
  · rintro ⟨h1, h2⟩
    refine ⟨h2, ?_⟩
    rcases h with rfl | rfl | rfl | rfl | rfl <;> simp [h1]
theorem isConstant_any (k i : Int) (s : ByteArray) (l : List PT) (v : Value) (w : World) (hv : RepV w w.heap.size (.mk k i s l) v) :
    Calls Try.prog 71 #[.agg #[.int .i64 k, .int .i64 i, .string s, v]] w fun e w' => e = .returned (.bool (constB (.mk k i s l))) ∧ Below w.heap.size w w' := by
  have HV := Lib.hid hv
  obtain ⟨a, c, rfl, hl, hm, _, _⟩ := hv.2.2.2
  have KC := Lib.hid (fun o : Obj => (Dat.check_any (.mk k i s l) (.slice a l.length c) (w.alloc o) w.heap.size ⟨HV.out.1, HV.out.2.1, HV.out.2.2.1, HV.out.2.2.2.below ((Below.refl _ _).alloc (Nat.le_refl _) _) (Nat.le_refl _)⟩ (by rw [size_new]; omega)).mono fun _ w' h => And.intro h.1 (((Below.refl w.heap.size w).alloc (Nat.le_refl _) o).trans (h.2.mono (by rw [size_new]; omega))))
  have HB0 := Lib.hid (fun o : Obj => (Below.refl w.heap.size w).alloc (Nat.le_refl _) o)
  unfold maxLen at hm
  clear hv
  by_cases hk : k = 0 ∨ k = 1 ∨ k = 2 ∨ k = 4 ∨ k = 5
  · have HC := Lib.hid (const_is (i := i) (s := s) (l := l) hk)
    by_cases hn : l.length = 0
    · have HR : Hid (constB (.mk k i s l) = decide (checkB (.mk k i s l) = 0)) := Lib.hid (by rw [HC.out]; simp [hn])
      have hnb : ((l.length : Int) == 0) = true := by simp [hn]
      clear hn
      unfold Dat.PT.val at KC
      generalize l.length = n at *
      generalize checkB (.mk k i s l) = ck at *
      generalize constB (.mk k i s l) = r at *
      rcases hk with rfl | rfl | rfl | rfl | rfl
      all_goals
        go_enter Try.func71, Try.ntmps71
        go_wp2_with fail
        refine (KC.out _).mono ?_
        rintro e w1 ⟨rfl, hb1⟩
        go_wp2
        go_ret
        refine ⟨ret_bool ?_, hb1⟩
        rw [HR.out]
        rw [Bool.eq_iff_iff]
        simp
    · have HR : Hid (constB (.mk k i s l) = false) := Lib.hid (by rw [HC.out]; simp [hn])
      have hnb : ((l.length : Int) == 0) = false := by simpa using hn
      clear hn HC KC
      generalize l.length = n at *
      generalize constB (.mk k i s l) = r at *
      rcases hk with rfl | rfl | rfl | rfl | rfl
      all_goals
        go_enter Try.func71, Try.ntmps71
        go_wp2
        go_ret
        exact ⟨ret_bool HR.out.symm, HB0.out _⟩
  · have HR : Hid (constB (.mk k i s l) = false) := Lib.hid (by
      unfold constB
      simp only [Bool.and_eq_false_iff, Bool.or_eq_false_iff, decide_eq_false_iff_not]
      right
      omega)
    have b0 : (k == 0) = false := by simp; omega
    have b1 : (k == 1) = false := by simp; omega
    have b2 : (k == 2) = false := by simp; omega
    have b4 : (k == 4) = false := by simp; omega
    have b5 : (k == 5) = false := by simp; omega
    clear hk KC
    go_enter Try.func71, Try.ntmps71
    go_wp2
    go_ret
    exact ⟨ret_bool HR.out.symm, HB0.out _⟩
end Go.Proofs.Ytkjgdnfkpebejaa.Core

/-
A map of the call's own from texts to ints, as a function of texts: read, written, made. No condition.
-/
namespace Go.Proofs.Ytkjgdnfkpebejaa.Core
open Go.ChangeShapes Go.WideShapes Go.ChangeAt Go.RowKit Go.Deep
open Go.Maps (Keyed IsMap)
set_option maxRecDepth 100000

theorem lawT : Keyed Try.prog 9 := Maps.string_keyed Try.underlying9
theorem zeroI (w : World) : (zeroValue 3).run Try.prog w = .ok (.int .i64 0) w := by kernel_rfl
theorem key_s {s : ByteArray} (hs : s.size ≤ maxLen) : keyOf Try.prog 9 (.string s) = some (.string s.data.toList) := Go.WideMaps.keyOf_string_mk Try.underlying9 hs
/-- The map in block b holds just what m says. -/
def MapI (w : World) (b n : Nat) (m : ByteArray → Option Int) : Prop := ∃ D : DataW Unit, w.ownsMap Try.prog 9 (plainElem Try.prog 3) b n D ∧ ∀ s : ByteArray, s.size ≤ maxLen → D.atKey (.string s.data.toList) (.lit (.int .i64 0)) = .lit (.int .i64 ((m s).getD 0)) ∧ Maps.has D (.string s.data.toList) = (m s).isSome
theorem MapI.made (w : World) : MapI (w.alloc (.map #[] 0)) w.heap.size 0 (fun _ => none) := ⟨_, World.ownsMap_made _ _ _ _, fun _ _ => ⟨rfl, rfl⟩⟩
theorem MapI.mono {w : World} {b n n' : Nat} {m : ByteArray → Option Int} (h : MapI w b n m) (hn : n ≤ n') : MapI w b n' m := let ⟨D, h1, h2⟩ := h; ⟨D, h1.mono hn, h2⟩
theorem MapI.kept {w w' : World} {b n : Nat} {m : ByteArray → Option Int} (h : MapI w b n m) {row : Option Nat} (hg : w.grownBy w' row) (hne : some b ≠ row) : MapI w' b n m := let ⟨D, h1, h2⟩ := h; ⟨D, h1.kept hg hne, h2⟩
theorem MapI.alloc {w : World} {b n : Nat} {m : ByteArray → Option Int} (h : MapI w b n m) (o : Obj) : MapI (w.alloc o) b n m := let ⟨D, h1, h2⟩ := h; ⟨D, h1.alloc o, h2⟩
theorem MapI.setCell {w : World} {b n : Nat} {m : ByteArray → Option Int} (h : MapI w b n m) {a : Addr} (ha : b ≠ a.block) (u : Value) : MapI (w.setCell a u) b n m := let ⟨D, h1, h2⟩ := h; ⟨D, h1.setCell ha u, h2⟩
theorem MapI.drewn {w : World} {b n : Nat} {m : ByteArray → Option Int} (h : MapI w b n m) : MapI w.drew b n m := let ⟨D, h1, h2⟩ := h; ⟨D, h1.drew, h2⟩
theorem MapI.below {w w' : World} {b n B : Nat} {m : ByteArray → Option Int} (h : MapI w b n m) (hb : Below B w w') (hlt : b < B) : MapI w' b n m := by
  obtain ⟨D, ⟨es, clock, h1, h2⟩, h3⟩ := h
  exact ⟨D, ⟨es, clock, (hb.block b hlt).trans h1, h2⟩, h3⟩
theorem MapI.lt {w : World} {b n : Nat} {m : ByteArray → Option Int} (h : MapI w b n m) : b < w.heap.size := let ⟨_, h1, _⟩ := h; h1.lt
theorem MapI.ext {w : World} {b n : Nat} {m m' : ByteArray → Option Int} (h : MapI w b n m) (hm : ∀ s, s.size ≤ maxLen → m s = m' s) : MapI w b n m' := let ⟨D, h1, h2⟩ := h; ⟨D, h1, fun s hs => by rw [← hm s hs]; exact h2 s hs⟩
/-- m with another value at a key. -/
def setM (m : ByteArray → Option Int) (s : ByteArray) (v : Int) : ByteArray → Option Int := fun t => if t = s then some v else m t
theorem wpList_look_m (w : World) {ops : Array Oper} {rest : List Oper} {o : Oper} {a : Act} {Q : Exit → Act → World → Prop}
    (hg : o.guard = none) (mo x : Operand) (hop : o.op = Op.lookup 68 mo x false) (b n : Nat) (m : ByteArray → Option Int)
    (hm : a.eval mo = .map (some b)) (hown : MapI w b n m) (s : ByteArray) (hx : a.eval x = .string s) (hs : s.size ≤ maxLen)
    (hK : wpList Try.prog ops Q rest (a.put o.dst (.int .i64 ((m s).getD 0))) w) : wpList Try.prog ops Q (o :: rest) a w := by
  obtain ⟨D, h1, h2⟩ := hown
  refine wpList_lookup_own_int w hg mo x 68 hop 9 3 .i64 lawT Try.underlying68 Try.underlying3 (zeroI _) b n D hm h1 _ _ hx (key_s hs) ?_
  intro c hat _
  rw [(h2 s hs).1] at hat
  cases hat
  exact hK
theorem wpList_store_m (w : World) {ops : Array Oper} {rest : List Oper} {o : Oper} {a : Act} {Q : Exit → Act → World → Prop}
    (hg : o.guard = none) (mo x v : Operand) (hop : o.op = Op.mapUpdate 68 mo x v) (b n : Nat) (m : ByteArray → Option Int)
    (hm : a.eval mo = .map (some b)) (hown : MapI w b n m) (hn : n < maxLen) (s : ByteArray) (c : Int) (hx : a.eval x = .string s) (hv : a.eval v = .int .i64 c) (hs : s.size ≤ maxLen) (hc : Dat.ok64 c)
    (hK : ∀ w', MapI w' b (n + 1) (setM m s c) → w.grownBy w' (some b) → wpList Try.prog ops Q rest (a.put o.dst undef) w') : wpList Try.prog ops Q (o :: rest) a w := by
  obtain ⟨D, h1, h2⟩ := hown
  refine wpList_mapUpdate_own w hg mo x v 68 hop 9 3 lawT Try.underlying68 _ b n D hm h1 hn _ _ _ hx hv (key_s hs) _ [] (plainElem_int Try.underlying3 (WalkArith.wf_i64 hc)) ?_
  intro w' h1' hg'
  refine hK w' ⟨_, h1', fun t ht => ?_⟩ hg'
  by_cases e : t = s
  · subst e
    rw [Maps.atKey_put_same h1.isMap (show WideAt.IsKeyLit (.string t.data.toList) from trivial), Maps.has_put_same h1.isMap (show WideAt.IsKeyLit (.string t.data.toList) from trivial)]
    simp [setM]
  · have hne : (Lit.string t.data.toList) ≠ .string s.data.toList := by
      intro h
      simp only [Lit.string.injEq] at h
      exact e (Go.WideShapes.bytes_inj h)
    rw [Maps.atKey_put_other hne, Maps.has_put_other hne]
    simpa [setM, e] using h2 t ht
end Go.Proofs.Ytkjgdnfkpebejaa.Core
