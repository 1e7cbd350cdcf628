/-
Texts K15, K16, K17, K18, one behind the other (a claim bears sixty files). Conditions: as each says.
-/
import Derived.Test.YtkjgdnfkpebejaaK14
import Derived.Deep.AppendLies
import Derived.Deep.RegionHeld3

/-
Data that the call makes: rows of data of its own, whose data's rows lie in blocks of P; package core's symbol, list, word, behind, form. No condition.
-/
namespace Go.Proofs.Ytkjgdnfkpebejaa.Core
open Go.ChangeShapes Go.WideShapes Go.ChangeAt Go.RowKit Go.Deep
open Dat (PT ok64 RepV RepS RowX infoDatum NewV NewS NewD)
set_option maxRecDepth 100000

/-- A datum's value: its own fields in range, its row in blocks of S. -/
def InV (w : World) (S : Nat → Prop) : PT → Value → Prop
  | .mk k i s l, v => ok64 k ∧ ok64 i ∧ s.size ≤ maxLen ∧ InS w S l v
theorem InV.move {w w' : World} {S S' : Nat → Prop} (hS : ∀ b, S b → b < w.heap.size → S' b) (hc : ∀ b o v, S b → w.cell? ⟨b, o, none⟩ = some v → w'.cell? ⟨b, o, none⟩ = some v) : ∀ {t : PT} {v : Value}, InV w S t v → InV w' S' t v
  | .mk _ _ _ _, _, ⟨h1, h2, h3, h4⟩ => ⟨h1, h2, h3, h4.move hS hc⟩
theorem InV.below {w w' : World} {S : Nat → Prop} {t : PT} {v : Value} (h : InV w S t v) (hb : Below w.heap.size w w') : InV w' S t v := h.move (fun _ h _ => h) fun _ _ _ _ hc => cell_below hb hc
theorem InV.to {w : World} {S S' : Nat → Prop} {t : PT} {v : Value} (h : InV w S t v) (hS : ∀ b, S b → b < w.heap.size → S' b) : InV w S' t v := h.move hS fun _ _ _ _ hc => hc
theorem InV.rep {w : World} {S : Nat → Prop} : ∀ {t : PT} {v : Value}, InV w S t v → RepV w w.heap.size t v
  | .mk _ _ _ _, _, ⟨h1, h2, h3, h4⟩ => ⟨h1, h2, h3, h4.rep⟩
theorem insBelow {w w' : World} {S : Nat → Prop} {l : List PT} {v : Value} (h : InS w S l v) (hb : Below w.heap.size w w') : InS w' S l v := h.move (fun _ h _ => h) fun _ _ _ _ hc => cell_below hb hc
theorem insTo {w : World} {S S' : Nat → Prop} {l : List PT} {v : Value} (h : InS w S l v) (hS : ∀ b, S b → b < w.heap.size → S' b) : InS w S' l v := h.move hS fun _ _ _ _ hc => hc

/-- A row of data of the call's own, from block C on; its data's rows lie in blocks of P, and not in its own. -/
def OutD (w : World) (C : Nat) (P : Nat → Prop) (l : List PT) (v : Value) : Prop :=
  ∃ xs, w.ownsRow C 25 4 v l.length xs ∧ RowX (InS w (fun b => P b ∧ some b ≠ v.ownBlock)) l xs
theorem OutD.nil (w : World) (C : Nat) (P : Nat → Prop) : OutD w C P [] (.slice none 0 0) := ⟨[], World.ownsRow_nil _ _ _ _, by rw [RowX]⟩
theorem OutD.below {w w' : World} {C : Nat} {P : Nat → Prop} {l : List PT} {v : Value} (h : OutD w C P l v) (hb : Below w.heap.size w w') : OutD w' C P l v := by
  obtain ⟨xs, ho, hx⟩ := h
  refine ⟨xs, ⟨ho.1, ho.2.imp id ?_⟩, RowX.imp (fun m u hm => hm.move (fun _ h _ => h) fun _ _ _ _ hc => cell_below hb hc) hx⟩
  rintro ⟨g, cap, cur, rfl, h1, h2, h3⟩
  exact ⟨g, cap, cur, rfl, h1, (hb.block g (lt_of_block h2)).trans h2, h3⟩
theorem OutD.slice {w : World} {C : Nat} {P : Nat → Prop} {l : List PT} {v : Value} (h : OutD w C P l v) : ∃ a c, v = .slice a l.length c ∧ (∀ b, v.ownBlock = some b → C ≤ b ∧ b < w.heap.size) := by
  obtain ⟨xs, ho, _⟩ := h
  have hl := ho.lt
  rcases ho.2 with ⟨rfl, h0⟩ | ⟨g, cap, cur, rfl, _⟩
  · exact ⟨none, 0, by rw [h0], hl⟩
  · exact ⟨_, cap, rfl, hl⟩
theorem OutD.ins {w : World} {C : Nat} {P : Nat → Prop} {l : List PT} {v : Value} (h : OutD w C P l v) : InS w (fun b => P b ∨ C ≤ b) l v := by
  obtain ⟨xs, ho, hx⟩ := h
  exact (RowOwnS.ins ⟨xs, ho, RowX.imp (fun m u hm => hm.move (S' := P) (fun _ h _ => h.1) (fun _ _ _ _ h => h)) hx⟩ : InS w (fun b => P b ∨ C ≤ b) l v)
theorem rowX1 {w : World} {S : Nat → Prop} {k i : Int} {s : ByteArray} {m : List PT} {x : Value} (h1 : Dat.ok64 k) (h2 : Dat.ok64 i) (h3 : s.size ≤ maxLen) (hm : InS w S m x) : RowX (InS w S) [.mk k i s m] [.int .i64 k, .int .i64 i, .string s, x] := by
  rw [RowX]
  exact ⟨x, [], rfl, h1, h2, h3, hm, by rw [RowX]⟩
theorem outD_step {w w' : World} {C g cap : Nat} {P : Nat → Prop} {l : List PT} {v : Value} {xs : List Value} {k i : Int} {s : ByteArray} {m : List PT} {xv : Value} (hrx : RowX (InS w (fun b => P b ∧ some b ≠ v.ownBlock)) l xs)
    (h1 : Dat.ok64 k) (h2 : Dat.ok64 i) (h3 : s.size ≤ maxLen) (hm : InS w (fun b => P b ∧ some b ≠ v.ownBlock) m xv)
    (hown : w'.ownsRow C 25 4 (.slice (some ⟨g, 0, none⟩) (l.length + 1) cap) (l.length + 1) (xs ++ [.int .i64 k, .int .i64 i, .string s, xv])) (hgrow : w.grownBy w' v.ownBlock) (hat : v.ownBlock = some g ∨ g = w.heap.size) :
    OutD w' C P (l ++ [.mk k i s m]) (.slice (some ⟨g, 0, none⟩) (l.length + 1) cap) := by
  have mv : ∀ z u, InS w (fun b => P b ∧ some b ≠ v.ownBlock) z u → InS w' (fun b => P b ∧ some b ≠ some g) z u := fun z u hz => hz.move (fun b hb hlt => ⟨hb.1, by
      rcases hat with e | e
      · rw [← e]; exact hb.2
      · rw [e]; simp; omega⟩) (fun b o' y hb hc => by
    rw [World.cell?_of_block (w := w) (a := ⟨b, o', none⟩) (hgrow.block b (World.block_lt_of_cell? _ _ hc) hb.2)]; exact hc)
  exact ⟨_, by rw [List.length_append]; exact hown, RowX.append (rowX1 h1 h2 h3 (mv _ _ hm)) (RowX.imp mv hrx)⟩
theorem wpList_append_outD {ops : Array Oper} {rest : List Oper} {o : Oper} {a : Act} {w : World} {Q : Exit → Act → World → Prop} (hgd : o.guard = none) (sl x : Operand)
    (ho : o.op = .call { callee := .builtin .append, args := #[sl, x], argTypes := #[23, 23] }) (C : Nat) (P : Nat → Prop) (l : List PT) (v : Value) (hs : a.eval sl = v) (h : OutD w C P l v) (B : Nat) (k i : Int) (s : ByteArray) (m : List PT) (xv : Value) (hx : a.eval x = .slice (some ⟨B, 0, none⟩) 1 1)
    (hB : w.heap[B]? = some (.cells #[.int .i64 k, .int .i64 i, .string s, xv] 25 (0, 0))) (h1 : Dat.ok64 k) (h2 : Dat.ok64 i) (h3 : s.size ≤ maxLen) (hm : InS w (fun b => P b ∧ some b ≠ v.ownBlock) m xv) (hlen : l.length ≤ 100000) (hC : C ≤ w.heap.size)
    (kk : ∀ g cap w', OutD w' C P (l ++ [.mk k i s m]) (.slice (some ⟨g, 0, none⟩) (l.length + 1) cap) → Below C w w' → (∀ b, b < w.heap.size → some b ≠ v.ownBlock → w'.heap[b]? = w.heap[b]?) → wpList Try.prog ops Q rest (a.put o.dst (.slice (some ⟨g, 0, none⟩) (l.length + 1) cap)) w') : wpList Try.prog ops Q (o :: rest) a w := by
  obtain ⟨i0, hi, hz0, hz1, hz2⟩ := info_parts infoDatum
  obtain ⟨xs, hxs, hrx⟩ := h
  obtain ⟨ax, cx, rfl, _⟩ := id hm
  refine wpList_append_lies w hgd sl x 23 ho C 25 i0 _ 4 56 Try.underlying23 hi hz0 hz1 hz2 rfl (by decide) v l.length xs hs hxs ⟨B, 0, none⟩ 1 1 [.int .i64 k, .int .i64 i, .string s, .slice ax m.length cx] hx rfl (World.news_of_block hB) ?_ (by decide) (by unfold maxLen; omega) (by omega) hC w.heap.size rfl ?_
  · intro u hu
    simp only [List.mem_cons, List.not_mem_nil, or_false] at hu
    rcases hu with rfl | rfl | rfl | rfl <;> rfl
  · intro g cap w' hown hgrow hat hlt
    exact kk g cap w' (outD_step hrx h1 h2 h3 hm hown hgrow hat) ((Below.refl C w).grown hgrow hC (fun b hb => (hxs.lt b hb).1)) hgrow.block
theorem step_append_outD {ops : Array Oper} {o : Oper} {a : Act} {w : World} {K : Act → World → Prop} {Q : Exit → Act → World → Prop} {E : Prop} (hgd : o.guard = none) (sl x : Operand)
    (ho : o.op = .call { callee := .builtin .append, args := #[sl, x], argTypes := #[23, 23] }) (C : Nat) (P : Nat → Prop) (l : List PT) (v : Value) (hs : a.eval sl = v) (h : OutD w C P l v) (B : Nat) (k i : Int) (s : ByteArray) (m : List PT) (xv : Value) (hx : a.eval x = .slice (some ⟨B, 0, none⟩) 1 1)
    (hB : w.heap[B]? = some (.cells #[.int .i64 k, .int .i64 i, .string s, xv] 25 (0, 0))) (h1 : Dat.ok64 k) (h2 : Dat.ok64 i) (h3 : s.size ≤ maxLen) (hm : InS w (fun b => P b ∧ some b ≠ v.ownBlock) m xv) (hlen : l.length ≤ 100000) (hC : C ≤ w.heap.size)
    (kk : ∀ g cap w', OutD w' C P (l ++ [.mk k i s m]) (.slice (some ⟨g, 0, none⟩) (l.length + 1) cap) → Below C w w' → (∀ b, b < w.heap.size → some b ≠ v.ownBlock → w'.heap[b]? = w.heap[b]?) → K (a.put o.dst (.slice (some ⟨g, 0, none⟩) (l.length + 1) cap)) w') : if Region.wanted o (yielded ops a.tmps) = true then Oper.wp Try.prog o a w K Q else E := by
  obtain ⟨i0, hi, hz0, hz1, hz2⟩ := info_parts infoDatum
  obtain ⟨xs, hxs, hrx⟩ := h
  obtain ⟨ax, cx, rfl, _⟩ := id hm
  refine step_append_lies w hgd sl x 23 ho C 25 i0 _ 4 56 Try.underlying23 hi hz0 hz1 hz2 rfl (by decide) v l.length xs hs hxs ⟨B, 0, none⟩ 1 1 [.int .i64 k, .int .i64 i, .string s, .slice ax m.length cx] hx rfl (World.news_of_block hB) ?_ (by decide) (by unfold maxLen; omega) (by omega) hC w.heap.size rfl ?_
  · intro u hu
    simp only [List.mem_cons, List.not_mem_nil, or_false] at hu
    rcases hu with rfl | rfl | rfl | rfl <;> rfl
  · intro g cap w' hown hgrow hat hlt
    exact kk g cap w' (outD_step hrx h1 h2 h3 hm hown hgrow hat) ((Below.refl C w).grown hgrow hC (fun b hb => (hxs.lt b hb).1)) hgrow.block

/-- With which word the datum of a kind begins. -/
def wordT (k : Int) : List UInt8 :=
  if k = 0 then [113, 117, 111, 116, 101] else if k = 2 then [115, 101, 116, 33] else if k = 3 then [105, 102] else if k = 4 then [98, 101, 103, 105, 110] else if k = 5 then [108, 97, 109, 98, 100, 97] else if k = 6 then [99, 97, 108, 108] else if k = 7 then [112, 114, 105, 109] else if k = 8 then [108, 101, 116] else if k = 9 then [108, 101, 116, 114, 101, 99] else if k = 10 then [102, 105, 120] else []
def wordS (k : Int) : ByteArray := ⟨(wordT k).toArray⟩
end Go.Proofs.Ytkjgdnfkpebejaa.Core

/-
Package core's behind, form and symbols: the rows of data that they make. No condition.
-/
namespace Go.Proofs.Ytkjgdnfkpebejaa.Core
open Go.ChangeShapes Go.WideShapes Go.ChangeAt Go.RowKit Go.Deep
open Dat (PT ok64 RepV RepS RowX infoDatum NewV NewS NewD)
set_option maxRecDepth 100000

/-- What is answered is a row of these data, their rows in blocks of S. -/
def RowIs (S : Nat → Prop) (l : List PT) (e : Ending) (w : World) : Prop := ∃ v, e = .returned v ∧ InS w S l v
/-- What is answered is this datum, its rows in blocks of S. -/
def DatIs (S : Nat → Prop) (t : PT) (e : Ending) (w : World) : Prop := ∃ v, e = .returned (t.val v) ∧ InV w S t v
theorem put4 {W : World} {g : Nat} {x0 x1 x2 x3 : Value} (hb : W.heap[g]? = some (.cells #[x0, x1, x2, x3] 25 (0, 0))) (y0 y1 y2 y3 : Value) :
    ((((W.setCell ⟨g, 0, none⟩ y0).setCell ⟨g, 1, none⟩ y1).setCell ⟨g, 2, none⟩ y2).setCell ⟨g, 3, none⟩ y3).heap[g]? = some (.cells #[y0, y1, y2, y3] 25 (0, 0)) ∧
    (∀ b, b ≠ g → ((((W.setCell ⟨g, 0, none⟩ y0).setCell ⟨g, 1, none⟩ y1).setCell ⟨g, 2, none⟩ y2).setCell ⟨g, 3, none⟩ y3).heap[b]? = W.heap[b]?) ∧
    (∀ (C : Nat) (a : World), Below C a W → C ≤ g → Below C a ((((W.setCell ⟨g, 0, none⟩ y0).setCell ⟨g, 1, none⟩ y1).setCell ⟨g, 2, none⟩ y2).setCell ⟨g, 3, none⟩ y3)) :=
  ⟨Dat.row_set4 hb _ _ _ _, fun b hne => by
    rw [Below.heap_setCell _ _ _ _ hne, Below.heap_setCell _ _ _ _ hne, Below.heap_setCell _ _ _ _ hne, Below.heap_setCell _ _ _ _ hne],
   fun _ _ h hC => (((h.setCell (p := ⟨g, 0, none⟩) hC _).setCell (p := ⟨g, 1, none⟩) hC _).setCell (p := ⟨g, 2, none⟩) hC _).setCell (p := ⟨g, 3, none⟩) hC _⟩
theorem look4 {W : World} {g : Nat} {x0 x1 x2 x3 : Value} (hb : W.heap[g]? = some (.cells #[x0, x1, x2, x3] 25 (0, 0))) :
    (W.cell? ⟨g, 0, none⟩ = some x0 ∧ W.cell? ⟨g, 1, none⟩ = some x1 ∧ W.cell? ⟨g, 2, none⟩ = some x2 ∧ W.cell? ⟨g, 3, none⟩ = some x3) ∧
    (W.frozen? ⟨g, 0, none⟩ = false ∧ W.frozen? ⟨g, 1, none⟩ = false ∧ W.frozen? ⟨g, 2, none⟩ = false ∧ W.frozen? ⟨g, 3, none⟩ = false) := by
  refine ⟨⟨?_, ?_, ?_, ?_⟩, ?_, ?_, ?_, ?_⟩
  all_goals first | (rw [Lib.cell_of_heap hb]; rfl) | (simp [World.frozen?, hb])
theorem insOff {W W' : World} {S : Nat → Prop} {g : Nat} {l : List PT} {v : Value} (h : InS W S l v) (hg : ¬ S g) (hk : ∀ b, b ≠ g → W'.heap[b]? = W.heap[b]?) : InS W' S l v :=
  h.move (fun _ h _ => h) fun b o u hs hc => by
    rw [World.cell?_of_block (w := W) (a := ⟨b, o, none⟩) (hk b (fun e => hg (e ▸ hs)))]; exact hc
theorem rowS_lit {W : World} {base g : Nat} {S : Nat → Prop} {k i : Int} {s : ByteArray} {m : List PT} {x : Value} (h : W.heap[g]? = some (.cells #[.int .i64 k, .int .i64 i, .string s, x] 25 (0, 0))) (hb : base ≤ g) (hv : InV W S (.mk k i s m) x) : RowOwnS W base S [.mk k i s m] (.slice (some ⟨g, 0, none⟩) 1 1) :=
  ⟨[.int .i64 k, .int .i64 i, .string s, x], ⟨rfl, .inr ⟨g, 1, #[.int .i64 k, .int .i64 i, .string s, x], rfl, hb, h, Nat.le_refl _, by decide, rfl, rfl⟩⟩, rowX1 hv.1 hv.2.1 hv.2.2.1 hv.2.2.2⟩
/-- A symbol. -/
def symT (s : ByteArray) : PT := .mk 4 0 s []
/-- A list. -/
def listT (l : List PT) : PT := .mk 5 0 ⟨#[]⟩ l
theorem symV (w : World) (S : Nat → Prop) {s : ByteArray} (hs : s.size ≤ maxLen) : InV w S (symT s) (.slice none 0 0) :=
  ⟨⟨by decide, by decide⟩, ⟨by decide, by decide⟩, hs, none, 0, rfl, Nat.le_refl _, Nat.zero_le _, fun _ => rfl, .inl rfl⟩
theorem word_size (k : Int) : (wordS k).size ≤ maxLen := by
  have : (wordT k).length ≤ 6 := by
    unfold wordT
    repeat' split
    all_goals simp
  show (wordT k).toArray.size ≤ maxLen
  unfold maxLen
  simp
  omega
end Go.Proofs.Ytkjgdnfkpebejaa.Core

/-
Package core's symbols: the row of symbols. What a walk with a boxed expression and a datum of its own knows of the world. No condition.
-/
namespace Go.Proofs.Ytkjgdnfkpebejaa.Core
open Go.ChangeShapes Go.WideShapes Go.ChangeAt Go.RowKit Go.Deep
open Dat (PT ok64 RepV RepS RowX infoDatum NewV NewS NewD)
set_option maxRecDepth 100000

end Go.Proofs.Ytkjgdnfkpebejaa.Core

/-
The datum of an expression as a plain function; expressions that may be, as trees; package core's dataOf, where it is known of each kid. No condition.
-/
namespace Go.Proofs.Ytkjgdnfkpebejaa.Core
open Go.ChangeShapes Go.WideShapes Go.ChangeAt Go.RowKit Go.Deep
open Dat (PT ok64 RepV RepS RowX infoDatum NewV NewS NewD)
set_option maxRecDepth 100000

mutual
/-- May an expression be, as far as its parts' own fields go, and how many they are? -/
def okE : PE → Prop
  | .mk k nm ns d l => formE (.mk k nm ns d l) = true ∧ ns.length ≤ 4096 ∧ l.length ≤ 4096 ∧ okEs l
def okEs : List PE → Prop
  | [] => True
  | t :: l => okE t ∧ okEs l
end
theorem okEs_mem : ∀ {l : List PE}, okEs l → ∀ t ∈ l, okE t
  | [], _, t, h => by cases h
  | u :: l, ho, t, h => by
    rw [okEs] at ho
    exact (List.mem_cons.1 h).elim (fun e => e ▸ ho.1) (okEs_mem ho.2 t)
theorem names_few {k : Int} {nm : ByteArray} {ns : List ByteArray} {d : PT} {l : List PE} (h : formE (.mk k nm ns d l) = true) : ns.length ≤ 6 ∨ ns.length ≤ l.length := by
  unfold formE at h
  rw [Bool.and_eq_true] at h
  obtain ⟨h1, h2⟩ := h
  unfold fieldsB at h2
  simp only [Bool.and_eq_true] at h2
  have h3 := h2.1.2
  unfold namesOkB at h3
  split at h3
  · rename_i hk
    unfold kidsB at h1
    rcases hk with rfl | rfl | rfl | rfl
    · simp at h1; exact .inl h1.1
    · simp at h1; right; omega
    · simp at h1; right; omega
    · simp at h1; right; omega
  · left
    have := of_decide_eq_true h3
    omega
mutual
theorem chkE_pos (deep n : Nat) (hn : n ≤ 4096) : ∀ t : PE, (chkE deep n t).2 = 0 → n + 1 ≤ (chkE deep n t).1 ∧ (chkE deep n t).1 ≤ 4096 ∧ okE t
  | .mk k nm ns d l, h => by
    rw [chkE] at h ⊢
    split at h
    · cases h
    split at h
    · cases h
    split at h
    · rename_i h1 h2 h3
      rw [if_neg h1, if_neg h2, if_pos h3]
      obtain ⟨h4, h5, h6⟩ := chkEs_pos (deep + 1) (n + 1) (by omega) l h
      refine ⟨by omega, h5, ?_⟩
      rw [okE]
      refine ⟨h3, ?_, by omega, h6⟩
      rcases names_few h3 with h | h <;> omega
    · cases h
theorem chkEs_pos (deep n : Nat) (hn : n ≤ 4096) : ∀ l : List PE, (chkEs deep n l).2 = 0 → n + l.length ≤ (chkEs deep n l).1 ∧ (chkEs deep n l).1 ≤ 4096 ∧ okEs l
  | [], _ => by
    rw [chkEs, okEs]
    exact ⟨by simp, hn, trivial⟩
  | t :: l, h => by
    rw [chkEs] at h ⊢
    rw [okEs]
    split at h
    · rename_i h1
      rw [if_pos h1]
      obtain ⟨h2, h3, h4⟩ := chkE_pos deep n hn t h1
      obtain ⟨h5, h6, h7⟩ := chkEs_pos deep _ h3 l h
      exact ⟨by simp only [List.length_cons]; omega, h6, h4, h7⟩
    · rename_i h1
      exact absurd h h1
end
theorem okE_of_check {t : PE} (h : checkE t = 0) : okE t := (chkE_pos 0 0 (by omega) t h).2.2

/-- Names, each with what it is bound to. -/
def bindT : List ByteArray → List PT → List PT
  | s :: ns, d :: l => listT [symT s, d] :: bindT ns l
  | _, _ => []
mutual
/-- The datum of an expression. -/
def dataT : PE → PT
  | .mk k nm ns d l =>
    if k = 0 then listT [symT (wordS k), d]
    else if k = 1 then symT nm
    else if k = 2 ∨ k = 7 then listT (symT (wordS k) :: symT nm :: dataTs l)
    else if k = 5 then listT (symT (wordS k) :: listT (ns.map symT) :: dataTs l)
    else if k = 8 ∨ k = 9 ∨ k = 10 then listT (symT (wordS k) :: listT (bindT ns (dataTs l)) :: (dataTs l).drop ns.length)
    else listT (symT (wordS k) :: dataTs l)
def dataTs : List PE → List PT
  | [] => []
  | t :: l => dataT t :: dataTs l
end
theorem dataTs_map : ∀ l : List PE, dataTs l = l.map dataT
  | [] => by rw [dataTs]; rfl
  | t :: l => by rw [dataTs, dataTs_map l]; rfl
end Go.Proofs.Ytkjgdnfkpebejaa.Core
