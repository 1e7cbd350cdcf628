/-
Texts D7, D8, D10, D11, one behind the other (a claim bears sixty files). Conditions: as each says.
-/
import Derived.Test.YtlolkhnaaelelaaDoorWN
import Derived.Test.YtlolkhnaaelelaaDoorD1
import Derived.OneCell

/-
Which fields a datum may have, itself: what the small tests of package data and of the document answer, for every datum. No condition.
-/
namespace Go.Proofs.YtlolkhnaaelelaaDoor.Dat
open Go.ChangeShapes Go.WideShapes Go.ChangeAt Go.RowKit
set_option maxRecDepth 100000

theorem mayBeTail_any (k : Int) (r : Bool) (hr : r = (decide (k ≠ 5) && decide (k ≠ 6))) (w : World) : Calls Tryd.prog 89 #[.int .i64 k] w fun e w' => e = .returned (.bool r) ∧ w = w' := by
  have HR := Lib.hid hr
  clear hr
  by_cases h5 : k = 5
  · subst h5
    go_enter Tryd.func89, Tryd.ntmps89
    go_wp2
    go_ret
    exact ⟨ret_bool (by rw [HR.out]; rfl), rfl⟩
  by_cases h6 : k = 6
  · subst h6
    go_enter Tryd.func89, Tryd.ntmps89
    go_wp2
    go_ret
    exact ⟨ret_bool (by rw [HR.out]; rfl), rfl⟩
  have hf : r = true := by rw [HR.out]; simp [h5, h6]
  have HF := Lib.hid hf
  clear hf
  have b5 : (k == 5) = false := by simpa using h5
  have b6 : (k == 6) = false := by simpa using h6
  have c5 : (k != 5) = true := by simpa using h5
  have c6 : (k != 6) = true := by simpa using h6
  go_enter Tryd.func89, Tryd.ntmps89
  go_wp2
  go_ret
  exact ⟨ret_bool HF.out.symm, rfl⟩

def PT.kind : PT → Int
  | .mk k _ _ _ => k
/-- Is the last one no list, and not dotted? -/
def tailB (l : List PT) : Bool := match l.getLast? with
  | some t => decide (t.kind ≠ 5) && decide (t.kind ≠ 6)
  | none => false
/-- May a datum's own fields be? -/
def formB (k i : Int) (s : List UInt8) (l : List PT) : Bool :=
  if k = 0 then decide (0 ≤ i) && decide (i ≤ 1) && s.isEmpty && decide (l.length = 0)
  else if k = 1 then decide (-1152921504606846976 ≤ i) && decide (i ≤ 1152921504606846975) && s.isEmpty && decide (l.length = 0)
  else if k = 2 then decide (0 ≤ i) && decide (i ≤ 255) && s.isEmpty && decide (l.length = 0)
  else if k = 3 then decide (i = 0) && decide (s.length ≤ 4096) && decide (l.length = 0)
  else if k = 4 then decide (i = 0) && nameB s && decide (l.length = 0)
  else if k = 5 ∨ k = 7 then decide (i = 0) && s.isEmpty
  else if k = 6 then decide (i = 0) && s.isEmpty && decide (2 ≤ l.length) && tailB l
  else false

end Go.Proofs.YtlolkhnaaelelaaDoor.Dat

/-
Which fields a datum may have, itself: package data's isFormed and the document's form, for every datum. No condition.
-/
namespace Go.Proofs.YtlolkhnaaelelaaDoor.Dat
open Go.ChangeShapes Go.WideShapes Go.ChangeAt Go.RowKit
set_option maxRecDepth 100000

theorem tailB_get (l : List PT) (h : 0 < l.length) : tailB l = (decide ((l[l.length - 1]).kind ≠ 5) && decide ((l[l.length - 1]).kind ≠ 6)) := by
  unfold tailB
  rw [List.getLast?_eq_getElem?, List.getElem?_eq_getElem (by omega)]
theorem formB_not6 (i : Int) (s : List UInt8) (l : List PT) (h : l.length < 2) : formB 6 i s l = false := by
  have : decide (2 ≤ l.length) = false := by simpa using h
  simp [formB, this]
theorem formB_6 (i : Int) (s : List UInt8) (l : List PT) (h : 2 ≤ l.length) : formB 6 i s l = (decide (i = 0) && s.isEmpty && (decide ((l[l.length - 1]).kind ≠ 5) && decide ((l[l.length - 1]).kind ≠ 6))) := by
  have : decide (2 ≤ l.length) = true := by simpa using h
  simp only [formB, this, tailB_get l (by omega)]
  simp
theorem kind_cell {w : World} {B : Nat} : ∀ {t : PT} {b o : Nat}, RepD w B t b o → w.cell? ⟨b, o, none⟩ = some (.int .i64 t.kind)
  | .mk _ _ _ _, _, _, h => (repD_mk.1 h).2.2.2.1
theorem kind_ways (k : Int) : (k = 0 ∨ k = 1 ∨ k = 2) ∨ k = 3 ∨ k = 4 ∨ (k = 5 ∨ k = 7) ∨ k = 6 ∨ (k < 0 ∨ 7 < k) := by omega

end Go.Proofs.YtlolkhnaaelelaaDoor.Dat

/-
What is wrong first in a datum: package data's Check, for every datum. No condition.
-/
namespace Go.Proofs.YtlolkhnaaelelaaDoor.Dat
open Go.ChangeShapes Go.WideShapes Go.ChangeAt Go.RowKit
set_option maxRecDepth 100000

def nestB (k : Int) : Bool := decide (k = 5) || decide (k = 6) || decide (k = 7)

mutual
/-- What is wrong first in a datum within so many, so many having been looked at; how many have been then. -/
def chk (deep n : Nat) : PT → Nat × Int
  | .mk k i s l =>
    if n = 4096 then (n, 22)
    else if nestB k && decide (deep = 32) then (n + 1, 21)
    else if formB k i s.data.toList l then chkL (deep + 1) (n + 1) l
    else (n + 1, 20)
def chkL (deep n : Nat) : List PT → Nat × Int
  | [] => (n, 0)
  | t :: l => if (chk deep n t).2 = 0 then chkL deep (chk deep n t).1 l else chk deep n t
end

theorem form_leaf {k i : Int} {s : List UInt8} {l : List PT} (hn : nestB k = false) (h : formB k i s l = true) : l = [] := by
  simp only [nestB, Bool.or_eq_false_iff, decide_eq_false_iff_not] at hn
  obtain ⟨⟨h5, h6⟩, h7⟩ := hn
  have : l.length = 0 := by
    unfold formB at h
    split at h
    · simp at h; exact List.length_eq_zero_iff.2 h.2
    split at h
    · simp at h; exact List.length_eq_zero_iff.2 h.2
    split at h
    · simp at h; exact List.length_eq_zero_iff.2 h.2
    split at h
    · simp at h; exact List.length_eq_zero_iff.2 h.2
    split at h
    · simp at h; exact List.length_eq_zero_iff.2 h.2
    split at h
    · omega
    · cases h
  exact List.length_eq_zero_iff.1 this

mutual
theorem chk_le (deep n : Nat) (hn : n ≤ 4096) : ∀ t : PT, n ≤ (chk deep n t).1 ∧ (chk deep n t).1 ≤ 4096
  | .mk k i s l => by
    rw [chk]
    split
    · exact ⟨Nat.le_refl _, hn⟩
    split
    · exact ⟨by simp, by simp; omega⟩
    split
    · have := chkL_le (deep + 1) (n + 1) (by omega) l
      exact ⟨by omega, this.2⟩
    · exact ⟨by simp, by simp; omega⟩
theorem chkL_le (deep n : Nat) (hn : n ≤ 4096) : ∀ l : List PT, n ≤ (chkL deep n l).1 ∧ (chkL deep n l).1 ≤ 4096
  | [] => by rw [chkL]; exact ⟨Nat.le_refl _, hn⟩
  | t :: l => by
    rw [chkL]
    have h1 := chk_le deep n hn t
    split
    · have := chkL_le deep _ h1.2 l
      exact ⟨by omega, this.2⟩
    · exact h1
end

/-- The loop over a list's items: what is left to look at. -/
theorem chkL_append (deep : Nat) : ∀ (l m : List PT) (n : Nat), (chkL deep n l).2 = 0 → chkL deep n (l ++ m) = chkL deep (chkL deep n l).1 m
  | [], m, n, _ => by rw [chkL]; rfl
  | t :: l, m, n, h => by
    rw [List.cons_append, chkL, chkL]
    rw [chkL] at h
    split
    · rw [if_pos ‹_›] at h
      exact chkL_append deep l m _ h
    · rw [if_neg ‹_›] at h
      omega
theorem chkL_take (deep n : Nat) (l : List PT) (j : Nat) (hj : j < l.length) (h : (chkL deep n (l.take j)).2 = 0) : chkL deep n (l.take (j + 1)) = chk deep (chkL deep n (l.take j)).1 l[j] := by
  rw [List.take_succ_eq_append_getElem hj, chkL_append deep _ _ _ h, chkL]
  split
  · rw [chkL]
    rename_i h0
    exact Prod.ext rfl h0.symm
  · rfl
theorem chkL_stop (deep : Nat) : ∀ (l m : List PT) (n : Nat), (chkL deep n l).2 ≠ 0 → chkL deep n (l ++ m) = chkL deep n l
  | [], m, n, h => by rw [chkL] at h; exact absurd rfl h
  | t :: l, m, n, h => by
    rw [List.cons_append, chkL, chkL]
    rw [chkL] at h
    split
    · rw [if_pos ‹_›] at h
      exact chkL_stop deep l m _ h
    · rfl
theorem chkL_whole (deep n : Nat) (l : List PT) (j : Nat) (h : (chkL deep n (l.take j)).2 ≠ 0) : chkL deep n l = chkL deep n (l.take j) := by
  have := chkL_stop deep (l.take j) (l.drop j) n h
  rwa [List.take_append_drop] at this
end Go.Proofs.YtlolkhnaaelelaaDoor.Dat

/-
What is wrong first in a datum: package data's Check, for every datum. No condition.
-/
namespace Go.Proofs.YtlolkhnaaelelaaDoor.Dat
open Go.ChangeShapes Go.WideShapes Go.ChangeAt Go.RowKit
set_option maxRecDepth 100000

/-- A datum's value. -/
def PT.val : PT → Value → Value
  | .mk k i s _, v => .agg #[.int .i64 k, .int .i64 i, .string s, v]
/-- A datum by value: its own fields in range, its items where the slice leads. -/
def RepV (w : World) (B : Nat) : PT → Value → Prop
  | .mk k i s l, v => ok64 k ∧ ok64 i ∧ s.size ≤ maxLen ∧ RepS w B l v

theorem blk_alloc {w : World} {o : Obj} {b : Nat} {x : Obj} (h : w.heap[b]? = some x) : (w.alloc o).heap[b]? = some x := (Below.heap_alloc w o b (lt_of_block h)).trans h

theorem size_setCell (w : World) (a : Addr) (v : Value) : (w.setCell a v).heap.size = w.heap.size := by simp [World.setCell]

/-- The box of a datum, behind a call that has made memory. -/
theorem box_cell {W w1 : World} {cs : Array Value} {T : TypeId} (hb : Below (W.alloc (.cells cs T)).heap.size (W.alloc (.cells cs T)) w1) (j : Nat) (v : Value) (hv : cs[j]? = some v) : w1.cell? ⟨W.heap.size, j, none⟩ = some v := by
  have h : w1.heap[W.heap.size]? = some (.cells cs T (0, 0)) := (hb.block W.heap.size (by simp)).trans (heap_alloc_new W _)
  rw [World.cell?]
  simp [h, hv]

theorem ret_i64 {a b : Int} (h : a = b) : Ending.returned (.int .i64 a) = .returned (.int .i64 b) := by rw [h]

/-- An item of a list, as a value in memory: its four cells. -/
theorem repAt_item {w : World} {B : Nat} {l : List PT} {b o j : Nat} (h : RepAt w B l b o) (hj : j < l.length) :
    ∃ k i s m v, l[j] = .mk k i s m ∧ ok64 k ∧ ok64 i ∧ s.size ≤ maxLen ∧ w.cell? ⟨b, o + j * 4, none⟩ = some (.int .i64 k) ∧ w.cell? ⟨b, o + j * 4 + 1, none⟩ = some (.int .i64 i) ∧ w.cell? ⟨b, o + j * 4 + 2, none⟩ = some (.string s) ∧
      w.cell? ⟨b, o + j * 4 + 3, none⟩ = some v ∧ RepS w B m v := by
  have hr := repAt_get h j hj
  match hl : l[j] with
  | .mk k i s m =>
    rw [hl, repD_mk] at hr
    obtain ⟨h1, h2, h3, c0, c1, c2, v, c3, hv⟩ := hr
    exact ⟨k, i, s, m, v, rfl, h1, h2, h3, c0, c1, c2, c3, hv⟩

/-- Check. -/
def checkB (t : PT) : Int := (chk 0 0 t).2

end Go.Proofs.YtlolkhnaaelelaaDoor.Dat
