/-
Texts K15, K16, K17, K18, one behind the other (a claim bears sixty files). Conditions: as each says.
-/
import Derived.Test.YtjofdlnopchaeaaGreatDoorK14
import Derived.Deep.AppendLies
import Derived.Deep.RegionHeld3

/-
Data that the call makes: rows of data of its own, whose data's rows lie in blocks of P; package core's symbol, list, word, behind, form. No condition.
-/
namespace Go.Proofs.YtjofdlnopchaeaaGreatDoor.Core
open Go.ChangeShapes Go.WideShapes Go.ChangeAt Go.RowKit Go.Deep
open Dat (PT ok64 RepV RepS RowX infoDatum NewV NewS NewD)
set_option maxRecDepth 100000

/-- A datum's value: its own fields in range, its row in blocks of S. -/
def InV (w : World) (S : Nat → Prop) : PT → Value → Prop
  | .mk k i s l, v => ok64 k ∧ ok64 i ∧ s.size ≤ maxLen ∧ InS w S l v
theorem InV.move {w w' : World} {S S' : Nat → Prop} (hS : ∀ b, S b → b < w.heap.size → S' b) (hc : ∀ b o v, S b → w.cell? ⟨b, o, none⟩ = some v → w'.cell? ⟨b, o, none⟩ = some v) : ∀ {t : PT} {v : Value}, InV w S t v → InV w' S' t v
  | .mk _ _ _ _, _, ⟨h1, h2, h3, h4⟩ => ⟨h1, h2, h3, h4.move hS hc⟩
theorem InV.below {w w' : World} {S : Nat → Prop} {t : PT} {v : Value} (h : InV w S t v) (hb : Below w.heap.size w w') : InV w' S t v := h.move (fun _ h _ => h) fun _ _ _ _ hc => cell_below hb hc
theorem InV.to {w : World} {S S' : Nat → Prop} {t : PT} {v : Value} (h : InV w S t v) (hS : ∀ b, S b → b < w.heap.size → S' b) : InV w S' t v := h.move hS fun _ _ _ _ hc => hc
theorem InV.rep {w : World} {S : Nat → Prop} : ∀ {t : PT} {v : Value}, InV w S t v → RepV w w.heap.size t v
  | .mk _ _ _ _, _, ⟨h1, h2, h3, h4⟩ => ⟨h1, h2, h3, h4.rep⟩
theorem insBelow {w w' : World} {S : Nat → Prop} {l : List PT} {v : Value} (h : InS w S l v) (hb : Below w.heap.size w w') : InS w' S l v := h.move (fun _ h _ => h) fun _ _ _ _ hc => cell_below hb hc
theorem insTo {w : World} {S S' : Nat → Prop} {l : List PT} {v : Value} (h : InS w S l v) (hS : ∀ b, S b → b < w.heap.size → S' b) : InS w S' l v := h.move hS fun _ _ _ _ hc => hc

/-- A row of data of the call's own, from block C on; its data's rows lie in blocks of P, and not in its own. -/
def OutD (w : World) (C : Nat) (P : Nat → Prop) (l : List PT) (v : Value) : Prop :=
  ∃ xs, w.ownsRow C 25 4 v l.length xs ∧ RowX (InS w (fun b => P b ∧ some b ≠ v.ownBlock)) l xs
theorem OutD.nil (w : World) (C : Nat) (P : Nat → Prop) : OutD w C P [] (.slice none 0 0) := ⟨[], World.ownsRow_nil _ _ _ _, by rw [RowX]⟩
theorem OutD.below {w w' : World} {C : Nat} {P : Nat → Prop} {l : List PT} {v : Value} (h : OutD w C P l v) (hb : Below w.heap.size w w') : OutD w' C P l v := by
  obtain ⟨xs, ho, hx⟩ := h
  refine ⟨xs, ⟨ho.1, ho.2.imp id ?_⟩, RowX.imp (fun m u hm => hm.move (fun _ h _ => h) fun _ _ _ _ hc => cell_below hb hc) hx⟩
  rintro ⟨g, cap, cur, rfl, h1, h2, h3⟩
  exact ⟨g, cap, cur, rfl, h1, (hb.block g (lt_of_block h2)).trans h2, h3⟩
theorem OutD.slice {w : World} {C : Nat} {P : Nat → Prop} {l : List PT} {v : Value} (h : OutD w C P l v) : ∃ a c, v = .slice a l.length c ∧ (∀ b, v.ownBlock = some b → C ≤ b ∧ b < w.heap.size) := by
  obtain ⟨xs, ho, _⟩ := h
  have hl := ho.lt
  rcases ho.2 with ⟨rfl, h0⟩ | ⟨g, cap, cur, rfl, _⟩
  · exact ⟨none, 0, by rw [h0], hl⟩
  · exact ⟨_, cap, rfl, hl⟩
theorem OutD.ins {w : World} {C : Nat} {P : Nat → Prop} {l : List PT} {v : Value} (h : OutD w C P l v) : InS w (fun b => P b ∨ C ≤ b) l v := by
  obtain ⟨xs, ho, hx⟩ := h
  exact (RowOwnS.ins ⟨xs, ho, RowX.imp (fun m u hm => hm.move (S' := P) (fun _ h _ => h.1) (fun _ _ _ _ h => h)) hx⟩ : InS w (fun b => P b ∨ C ≤ b) l v)
theorem rowX1 {w : World} {S : Nat → Prop} {k i : Int} {s : ByteArray} {m : List PT} {x : Value} (h1 : Dat.ok64 k) (h2 : Dat.ok64 i) (h3 : s.size ≤ maxLen) (hm : InS w S m x) : RowX (InS w S) [.mk k i s m] [.int .i64 k, .int .i64 i, .string s, x] := by
  rw [RowX]
  exact ⟨x, [], rfl, h1, h2, h3, hm, by rw [RowX]⟩
theorem outD_step {w w' : World} {C g cap : Nat} {P : Nat → Prop} {l : List PT} {v : Value} {xs : List Value} {k i : Int} {s : ByteArray} {m : List PT} {xv : Value} (hrx : RowX (InS w (fun b => P b ∧ some b ≠ v.ownBlock)) l xs)
    (h1 : Dat.ok64 k) (h2 : Dat.ok64 i) (h3 : s.size ≤ maxLen) (hm : InS w (fun b => P b ∧ some b ≠ v.ownBlock) m xv)
    (hown : w'.ownsRow C 25 4 (.slice (some ⟨g, 0, none⟩) (l.length + 1) cap) (l.length + 1) (xs ++ [.int .i64 k, .int .i64 i, .string s, xv])) (hgrow : w.grownBy w' v.ownBlock) (hat : v.ownBlock = some g ∨ g = w.heap.size) :
    OutD w' C P (l ++ [.mk k i s m]) (.slice (some ⟨g, 0, none⟩) (l.length + 1) cap) := by
  have mv : ∀ z u, InS w (fun b => P b ∧ some b ≠ v.ownBlock) z u → InS w' (fun b => P b ∧ some b ≠ some g) z u := fun z u hz => hz.move (fun b hb hlt => ⟨hb.1, by
      rcases hat with e | e
      · rw [← e]; exact hb.2
      · rw [e]; simp; omega⟩) (fun b o' y hb hc => by
    rw [World.cell?_of_block (w := w) (a := ⟨b, o', none⟩) (hgrow.block b (World.block_lt_of_cell? _ _ hc) hb.2)]; exact hc)
  exact ⟨_, by rw [List.length_append]; exact hown, RowX.append (rowX1 h1 h2 h3 (mv _ _ hm)) (RowX.imp mv hrx)⟩
theorem wpList_append_outD {ops : Array Oper} {rest : List Oper} {o : Oper} {a : Act} {w : World} {Q : Exit → Act → World → Prop} (hgd : o.guard = none) (sl x : Operand)
    (ho : o.op = .call { callee := .builtin .append, args := #[sl, x], argTypes := #[23, 23] }) (C : Nat) (P : Nat → Prop) (l : List PT) (v : Value) (hs : a.eval sl = v) (h : OutD w C P l v) (B : Nat) (k i : Int) (s : ByteArray) (m : List PT) (xv : Value) (hx : a.eval x = .slice (some ⟨B, 0, none⟩) 1 1)
    (hB : w.heap[B]? = some (.cells #[.int .i64 k, .int .i64 i, .string s, xv] 25 (0, 0))) (h1 : Dat.ok64 k) (h2 : Dat.ok64 i) (h3 : s.size ≤ maxLen) (hm : InS w (fun b => P b ∧ some b ≠ v.ownBlock) m xv) (hlen : l.length ≤ 100000) (hC : C ≤ w.heap.size)
    (kk : ∀ g cap w', OutD w' C P (l ++ [.mk k i s m]) (.slice (some ⟨g, 0, none⟩) (l.length + 1) cap) → Below C w w' → (∀ b, b < w.heap.size → some b ≠ v.ownBlock → w'.heap[b]? = w.heap[b]?) → wpList Tryz.prog ops Q rest (a.put o.dst (.slice (some ⟨g, 0, none⟩) (l.length + 1) cap)) w') : wpList Tryz.prog ops Q (o :: rest) a w := by
  obtain ⟨i0, hi, hz0, hz1, hz2⟩ := info_parts infoDatum
  obtain ⟨xs, hxs, hrx⟩ := h
  obtain ⟨ax, cx, rfl, _⟩ := id hm
  refine wpList_append_lies w hgd sl x 23 ho C 25 i0 _ 4 56 Tryz.underlying23 hi hz0 hz1 hz2 rfl (by decide) v l.length xs hs hxs ⟨B, 0, none⟩ 1 1 [.int .i64 k, .int .i64 i, .string s, .slice ax m.length cx] hx rfl (World.news_of_block hB) ?_ (by decide) (by unfold maxLen; omega) (by omega) hC w.heap.size rfl ?_
  · intro u hu
    simp only [List.mem_cons, List.not_mem_nil, or_false] at hu
    rcases hu with rfl | rfl | rfl | rfl <;> rfl
  · intro g cap w' hown hgrow hat hlt
    exact kk g cap w' (outD_step hrx h1 h2 h3 hm hown hgrow hat) ((Below.refl C w).grown hgrow hC (fun b hb => (hxs.lt b hb).1)) hgrow.block
theorem step_append_outD {ops : Array Oper} {o : Oper} {a : Act} {w : World} {K : Act → World → Prop} {Q : Exit → Act → World → Prop} {E : Prop} (hgd : o.guard = none) (sl x : Operand)
    (ho : o.op = .call { callee := .builtin .append, args := #[sl, x], argTypes := #[23, 23] }) (C : Nat) (P : Nat → Prop) (l : List PT) (v : Value) (hs : a.eval sl = v) (h : OutD w C P l v) (B : Nat) (k i : Int) (s : ByteArray) (m : List PT) (xv : Value) (hx : a.eval x = .slice (some ⟨B, 0, none⟩) 1 1)
    (hB : w.heap[B]? = some (.cells #[.int .i64 k, .int .i64 i, .string s, xv] 25 (0, 0))) (h1 : Dat.ok64 k) (h2 : Dat.ok64 i) (h3 : s.size ≤ maxLen) (hm : InS w (fun b => P b ∧ some b ≠ v.ownBlock) m xv) (hlen : l.length ≤ 100000) (hC : C ≤ w.heap.size)
    (kk : ∀ g cap w', OutD w' C P (l ++ [.mk k i s m]) (.slice (some ⟨g, 0, none⟩) (l.length + 1) cap) → Below C w w' → (∀ b, b < w.heap.size → some b ≠ v.ownBlock → w'.heap[b]? = w.heap[b]?) → K (a.put o.dst (.slice (some ⟨g, 0, none⟩) (l.length + 1) cap)) w') : if Region.wanted o (yielded ops a.tmps) = true then Oper.wp Tryz.prog o a w K Q else E := by
  obtain ⟨i0, hi, hz0, hz1, hz2⟩ := info_parts infoDatum
  obtain ⟨xs, hxs, hrx⟩ := h
  obtain ⟨ax, cx, rfl, _⟩ := id hm
  refine step_append_lies w hgd sl x 23 ho C 25 i0 _ 4 56 Tryz.underlying23 hi hz0 hz1 hz2 rfl (by decide) v l.length xs hs hxs ⟨B, 0, none⟩ 1 1 [.int .i64 k, .int .i64 i, .string s, .slice ax m.length cx] hx rfl (World.news_of_block hB) ?_ (by decide) (by unfold maxLen; omega) (by omega) hC w.heap.size rfl ?_
  · intro u hu
    simp only [List.mem_cons, List.not_mem_nil, or_false] at hu
    rcases hu with rfl | rfl | rfl | rfl <;> rfl
  · intro g cap w' hown hgrow hat hlt
    exact kk g cap w' (outD_step hrx h1 h2 h3 hm hown hgrow hat) ((Below.refl C w).grown hgrow hC (fun b hb => (hxs.lt b hb).1)) hgrow.block

theorem symbol_any (s : ByteArray) (w : World) :
    Calls Tryz.prog 59 #[.string s] w fun e w' => e = .returned (.agg #[.int .i64 4, .int .i64 0, .string s, .slice none 0 0]) ∧ Below w.heap.size w w' := by
  go_enter Tryz.func59, Tryz.ntmps59
  go_wp2
  exact bodyPost_ret (results_cell_row (P := Tryz.prog) rfl _ _ w.heap.size 25 _ (0, 0) _ rfl (heap_alloc_new w _) Tryz.underlying25 rfl (by kernel_rfl)) rfl ⟨rfl, (Below.refl _ _).alloc (Nat.le_refl _) _⟩
theorem list_any (a : Option Addr) (n c : Nat) (w : World) :
    Calls Tryz.prog 62 #[.slice a n c] w fun e w' => e = .returned (.agg #[.int .i64 5, .int .i64 0, .string ⟨#[]⟩, .slice a n c]) ∧ Below w.heap.size w w' := by
  go_enter Tryz.func62, Tryz.ntmps62
  go_wp2
  exact bodyPost_ret (results_cell_row (P := Tryz.prog) rfl _ _ w.heap.size 25 _ (0, 0) _ rfl (heap_alloc_new w _) Tryz.underlying25 rfl (by kernel_rfl)) rfl ⟨rfl, (Below.refl _ _).alloc (Nat.le_refl _) _⟩
/-- With which word the datum of a kind begins. -/
def wordT (k : Int) : List UInt8 :=
  if k = 0 then [113, 117, 111, 116, 101] else if k = 2 then [115, 101, 116, 33] else if k = 3 then [105, 102] else if k = 4 then [98, 101, 103, 105, 110] else if k = 5 then [108, 97, 109, 98, 100, 97] else if k = 6 then [99, 97, 108, 108] else if k = 7 then [112, 114, 105, 109] else if k = 8 then [108, 101, 116] else if k = 9 then [108, 101, 116, 114, 101, 99] else if k = 10 then [102, 105, 120] else []
def wordS (k : Int) : ByteArray := ⟨(wordT k).toArray⟩
theorem word_any (k : Int) (w : World) : Calls Tryz.prog 82 #[.int .i64 k] w fun e w' => e = .returned (.string (wordS k)) ∧ w = w' := by
  rcases kind_or k with rfl | rfl | rfl | rfl | rfl | rfl | rfl | rfl | rfl | rfl | rfl | hk
  all_goals try
    (go_enter Tryz.func82, Tryz.ntmps82
     go_wp2
     go_ret
     exact ⟨rfl, rfl⟩)
  have HR : Hid (wordS k = ⟨#[]⟩) := Lib.hid (by
    unfold wordS wordT
    rw [if_neg (by omega), if_neg (by omega), if_neg (by omega), if_neg (by omega), if_neg (by omega), if_neg (by omega), if_neg (by omega), if_neg (by omega), if_neg (by omega), if_neg (by omega)])
  have b0 : (k == 0) = false := by simp; omega
  have b2 : (k == 2) = false := by simp; omega
  have b3 : (k == 3) = false := by simp; omega
  have b4 : (k == 4) = false := by simp; omega
  have b5 : (k == 5) = false := by simp; omega
  have b6 : (k == 6) = false := by simp; omega
  have b7 : (k == 7) = false := by simp; omega
  have b8 : (k == 8) = false := by simp; omega
  have b9 : (k == 9) = false := by simp; omega
  have b10 : (k == 10) = false := by simp; omega
  clear hk
  go_enter Tryz.func82, Tryz.ntmps82
  go_wp2
  go_ret
  exact ⟨by rw [HR.out]; rfl, rfl⟩
end Go.Proofs.YtjofdlnopchaeaaGreatDoor.Core

/-
Package core's behind, form and symbols: the rows of data that they make. No condition.
-/
namespace Go.Proofs.YtjofdlnopchaeaaGreatDoor.Core
open Go.ChangeShapes Go.WideShapes Go.ChangeAt Go.RowKit Go.Deep
open Dat (PT ok64 RepV RepS RowX infoDatum NewV NewS NewD)
set_option maxRecDepth 100000

/-- What is answered is a row of these data, their rows in blocks of S. -/
def RowIs (S : Nat → Prop) (l : List PT) (e : Ending) (w : World) : Prop := ∃ v, e = .returned v ∧ InS w S l v
/-- What is answered is this datum, its rows in blocks of S. -/
def DatIs (S : Nat → Prop) (t : PT) (e : Ending) (w : World) : Prop := ∃ v, e = .returned (t.val v) ∧ InV w S t v
theorem put4 {W : World} {g : Nat} {x0 x1 x2 x3 : Value} (hb : W.heap[g]? = some (.cells #[x0, x1, x2, x3] 25 (0, 0))) (y0 y1 y2 y3 : Value) :
    ((((W.setCell ⟨g, 0, none⟩ y0).setCell ⟨g, 1, none⟩ y1).setCell ⟨g, 2, none⟩ y2).setCell ⟨g, 3, none⟩ y3).heap[g]? = some (.cells #[y0, y1, y2, y3] 25 (0, 0)) ∧
    (∀ b, b ≠ g → ((((W.setCell ⟨g, 0, none⟩ y0).setCell ⟨g, 1, none⟩ y1).setCell ⟨g, 2, none⟩ y2).setCell ⟨g, 3, none⟩ y3).heap[b]? = W.heap[b]?) ∧
    (∀ (C : Nat) (a : World), Below C a W → C ≤ g → Below C a ((((W.setCell ⟨g, 0, none⟩ y0).setCell ⟨g, 1, none⟩ y1).setCell ⟨g, 2, none⟩ y2).setCell ⟨g, 3, none⟩ y3)) :=
  ⟨Dat.row_set4 hb _ _ _ _, fun b hne => by
    rw [Below.heap_setCell _ _ _ _ hne, Below.heap_setCell _ _ _ _ hne, Below.heap_setCell _ _ _ _ hne, Below.heap_setCell _ _ _ _ hne],
   fun _ _ h hC => (((h.setCell (p := ⟨g, 0, none⟩) hC _).setCell (p := ⟨g, 1, none⟩) hC _).setCell (p := ⟨g, 2, none⟩) hC _).setCell (p := ⟨g, 3, none⟩) hC _⟩
theorem look4 {W : World} {g : Nat} {x0 x1 x2 x3 : Value} (hb : W.heap[g]? = some (.cells #[x0, x1, x2, x3] 25 (0, 0))) :
    (W.cell? ⟨g, 0, none⟩ = some x0 ∧ W.cell? ⟨g, 1, none⟩ = some x1 ∧ W.cell? ⟨g, 2, none⟩ = some x2 ∧ W.cell? ⟨g, 3, none⟩ = some x3) ∧
    (W.frozen? ⟨g, 0, none⟩ = false ∧ W.frozen? ⟨g, 1, none⟩ = false ∧ W.frozen? ⟨g, 2, none⟩ = false ∧ W.frozen? ⟨g, 3, none⟩ = false) := by
  refine ⟨⟨?_, ?_, ?_, ?_⟩, ?_, ?_, ?_, ?_⟩
  all_goals first | (rw [Lib.cell_of_heap hb]; rfl) | (simp [World.frozen?, hb])
theorem insOff {W W' : World} {S : Nat → Prop} {g : Nat} {l : List PT} {v : Value} (h : InS W S l v) (hg : ¬ S g) (hk : ∀ b, b ≠ g → W'.heap[b]? = W.heap[b]?) : InS W' S l v :=
  h.move (fun _ h _ => h) fun b o u hs hc => by
    rw [World.cell?_of_block (w := W) (a := ⟨b, o, none⟩) (hk b (fun e => hg (e ▸ hs)))]; exact hc
theorem rowS_lit {W : World} {base g : Nat} {S : Nat → Prop} {k i : Int} {s : ByteArray} {m : List PT} {x : Value} (h : W.heap[g]? = some (.cells #[.int .i64 k, .int .i64 i, .string s, x] 25 (0, 0))) (hb : base ≤ g) (hv : InV W S (.mk k i s m) x) : RowOwnS W base S [.mk k i s m] (.slice (some ⟨g, 0, none⟩) 1 1) :=
  ⟨[.int .i64 k, .int .i64 i, .string s, x], ⟨rfl, .inr ⟨g, 1, #[.int .i64 k, .int .i64 i, .string s, x], rfl, hb, h, Nat.le_refl _, by decide, rfl, rfl⟩⟩, rowX1 hv.1 hv.2.1 hv.2.2.1 hv.2.2.2⟩
theorem behind_any (k i : Int) (s : ByteArray) (m : List PT) (x : Value) (l : List PT) (v : Value) (S : Nat → Prop) (w : World) (hf : InV w S (.mk k i s m) x) (hv : InS w S l v) (hlen : l.length ≤ 900000) :
    Calls Tryz.prog 60 #[.agg #[.int .i64 k, .int .i64 i, .string s, x], v] w fun e w' => RowIs (fun b => (S b ∧ b < w.heap.size) ∨ w.heap.size ≤ b) (.mk k i s m :: l) e w' ∧ Below w.heap.size w w' := by
  obtain ⟨z0, z1, zb⟩ := two_new w (.cells #[.int .i64 k, .int .i64 i, .string s, x] 25) (.cells #[.int .i64 k, .int .i64 i, .string s, x] 25)
  have HO := Lib.hid (rowS_lit (base := w.heap.size) z1 (by omega) ((hf.to (S' := fun b => S b ∧ b < w.heap.size) (fun _ h1 h2 => ⟨h1, h2⟩)).below zb))
  have HV := Lib.hid (InS.src (insBelow (insTo (S' := fun b => S b ∧ b < w.heap.size) hv (fun _ h1 h2 => ⟨h1, h2⟩)) zb))
  have HB := Lib.hid zb
  obtain ⟨ax, cx, rfl, _⟩ := hf.2.2.2
  obtain ⟨av, cv, rfl, _⟩ := hv
  clear z0 z1 zb hf
  go_enter Tryz.func60, Tryz.ntmps60
  go_wp2_with (at_builtin; refine wpList_append_rowS rfl _ _ rfl w.heap.size (fun b => S b ∧ b < w.heap.size) (fun _ h => h.2) [.mk k i s m] l _ _ rfl rfl HO.out HV.out (by simp; omega) HB.out.size ?_; intro v' w' h1 h2 h3)
  obtain ⟨g, cap, rfl⟩ := rowS_shape h1 (by simp)
  go_ret
  exact ⟨⟨_, rfl, h1.ins⟩, HB.out.trans h2⟩
/-- A symbol. -/
def symT (s : ByteArray) : PT := .mk 4 0 s []
/-- A list. -/
def listT (l : List PT) : PT := .mk 5 0 ⟨#[]⟩ l
theorem symV (w : World) (S : Nat → Prop) {s : ByteArray} (hs : s.size ≤ maxLen) : InV w S (symT s) (.slice none 0 0) :=
  ⟨⟨by decide, by decide⟩, ⟨by decide, by decide⟩, hs, none, 0, rfl, Nat.le_refl _, Nat.zero_le _, fun _ => rfl, .inl rfl⟩
theorem word_size (k : Int) : (wordS k).size ≤ maxLen := by
  have : (wordT k).length ≤ 6 := by
    unfold wordT
    repeat' split
    all_goals simp
  show (wordT k).toArray.size ≤ maxLen
  unfold maxLen
  simp
  omega
theorem form_any (k : Int) (l : List PT) (v : Value) (S : Nat → Prop) (w : World) (hv : InS w S l v) (hlen : l.length ≤ 900000) :
    Calls Tryz.prog 58 #[.int .i64 k, v] w fun e w' => DatIs (fun b => (S b ∧ b < w.heap.size) ∨ w.heap.size ≤ b) (listT (symT (wordS k) :: l)) e w' ∧ Below w.heap.size w w' := by
  have Z0 := Lib.hid (heap_alloc_new w (.cells #[.int .i64 0, .int .i64 0, .string ⟨#[]⟩, .slice none 0 0] 25))
  have B0 := Lib.hid ((Below.refl w.heap.size w).alloc (Nat.le_refl _) (.cells #[.int .i64 0, .int .i64 0, .string ⟨#[]⟩, .slice none 0 0] 25))
  have HV := Lib.hid hv
  have KW := Lib.hid (fun W => word_any k W)
  have KS := Lib.hid (fun W => symbol_any (wordS k) W)
  have HWS := Lib.hid (word_size k)
  have HS0 : Hid ((w.alloc (.cells #[.int .i64 0, .int .i64 0, .string ⟨#[]⟩, .slice none 0 0] 25)).heap.size = w.heap.size + 1) := Lib.hid (size_new _ _)
  obtain ⟨av, cv, rfl, _⟩ := hv
  generalize wordS k = s at *
  generalize hw0 : w.alloc (.cells #[.int .i64 0, .int .i64 0, .string ⟨#[]⟩, .slice none 0 0] 25) = w0 at Z0 B0 HS0
  have HW0 := Lib.hid hw0
  clear hw0
  go_enter Tryz.func58, Tryz.ntmps58
  go_wp2_with fail
  rw [HW0.out]
  refine (KW.out _).mono ?_
  rintro e w1 ⟨rfl, rfl⟩
  go_wp2_with fail
  refine (KS.out _).mono ?_
  rintro e w2 ⟨rfl, hb2⟩
  have B2 := Lib.hid (B0.out.trans (hb2.mono B0.out.size))
  have Z2 := Lib.hid ((hb2.block w.heap.size (by rw [HS0.out]; omega)).trans Z0.out)
  have HV2 := Lib.hid (insBelow (insTo (S' := fun b => (S b ∧ b < w.heap.size) ∨ w.heap.size + 1 ≤ b) HV.out (fun _ h1 h2 => .inl ⟨h1, h2⟩)) B2.out)
  have HZ2 : Hid (w.heap.size + 1 ≤ w2.heap.size) := Lib.hid (by rw [← HS0.out]; exact hb2.size)
  have KB := Lib.hid (behind_any 4 0 s [] (.slice none 0 0) l (.slice av l.length cv) _ w2 (symV w2 _ HWS.out) HV2.out hlen)
  clear hb2
  go_wp2_with fail
  refine KB.out.mono ?_
  rintro e w3 ⟨⟨v3, rfl, hv3⟩, hb3⟩
  have B3 := Lib.hid (B2.out.trans (hb3.mono B2.out.size))
  have Z3 := Lib.hid ((hb3.block w.heap.size (by have := HZ2.out; omega)).trans Z2.out)
  have HV3 := Lib.hid hv3
  obtain ⟨a3, c3, rfl, _⟩ := hv3
  have HZ3 := Lib.hid hb3.size
  clear hb3
  go_wp2_with fail
  refine (list_any _ _ _ _).mono ?_
  rintro e w4 ⟨rfl, hb4⟩
  have B4 := Lib.hid (B3.out.trans (hb4.mono B3.out.size))
  have Z4 := Lib.hid ((hb4.block w.heap.size (by have := HZ2.out; have := HZ3.out; omega)).trans Z3.out)
  have HV4 := Lib.hid (insBelow HV3.out hb4)
  have l4 := look4 Z4.out
  obtain ⟨⟨p0, p1, p2, p3⟩, q0, q1, q2, q3⟩ := l4
  clear hb4
  go_wp2
  obtain ⟨E4, K4, B5⟩ := put4 Z4.out (.int .i64 5) (.int .i64 0) (.string ⟨#[]⟩) (.slice a3 (.mk 4 0 s [] :: l : List PT).length c3)
  exact bodyPost_ret (results_cell_row (P := Tryz.prog) rfl _ _ w.heap.size 25 _ (0, 0) _ rfl E4 Tryz.underlying25 rfl (by kernel_rfl)) rfl ⟨⟨_, rfl, ⟨by decide, by decide⟩, ⟨by decide, by decide⟩, by decide, insTo (insOff HV4.out (by have := HZ2.out; rintro (⟨h | h, _⟩ | h) <;> omega) K4) (fun b h _ => by have := HZ2.out; rcases h with ⟨h | h, _⟩ | h; exact .inl h; exact .inr (by omega); exact .inr (by omega))⟩, B5 _ _ B4.out (Nat.le_refl _)⟩
end Go.Proofs.YtjofdlnopchaeaaGreatDoor.Core

/-
Package core's symbols: the row of symbols. What a walk with a boxed expression and a datum of its own knows of the world. No condition.
-/
namespace Go.Proofs.YtjofdlnopchaeaaGreatDoor.Core
open Go.ChangeShapes Go.WideShapes Go.ChangeAt Go.RowKit Go.Deep
open Dat (PT ok64 RepV RepS RowX infoDatum NewV NewS NewD)
set_option maxRecDepth 100000

theorem symbols_any (l : List ByteArray) (S : Nat → Prop) (v : Value) (w : World) (hv : InN w S l v) (hn : l.length ≤ 100000) :
    Calls Tryz.prog 63 #[v] w fun e w' => RowIs (fun b => w.heap.size ≤ b) (l.map symT) e w' ∧ Below w.heap.size w w' := by
  have HV := Lib.hid hv
  obtain ⟨a, c, rfl, hl, hm, _, hr⟩ := hv
  have HR := Lib.hid hr
  unfold maxLen at hm
  clear hr
  go_enter Tryz.func63, Tryz.ntmps63
  go_wp2
  go_loopw [3, 8] (fun v i wr => ∃ j : Nat, j ≤ l.length ∧ i = .int .i64 j ∧ OutD wr w.heap.size (fun b => w.heap.size ≤ b) ((l.take j).map symT) v ∧ Below w.heap.size w wr) (fun _ i _ => l.length - (intOf i).toNat)
  case atStart => exact ⟨0, Nat.zero_le _, rfl, by rw [List.take_zero, List.map_nil]; exact OutD.nil _ _ _, Below.refl _ _⟩
  case round =>
    obtain ⟨j, hj, rfl, ho, hbr⟩ := hrel
    have HO := Lib.hid ho
    have HBR := Lib.hid hbr
    by_cases hlt : j < l.length
    · obtain ⟨b, o, rfl, hs, hc⟩ := HR.out.resolve_left (by rintro rfl; cases hlt)
      have c0 := cell_below hbr (hc j hlt).1
      have hsz := (hc j hlt).2
      have HTS : Hid ((l.take (j + 1)).map symT = (l.take j).map symT ++ [symT l[j]]) := Lib.hid (by rw [List.take_succ_eq_append_getElem hlt, List.map_append]; rfl)
      have HLN : Hid (((l.take j).map symT).length ≤ 100000) := Lib.hid (by rw [List.length_map, List.length_take]; omega)
      have KS := Lib.hid (fun W => symbol_any l[j] W)
      have hbl : b < wr.heap.size := World.block_lt_of_cell? _ _ c0
      have HL1 : Hid (((l.take j).map symT).length = j) := Lib.hid (by rw [List.length_map, List.length_take]; omega)
      clear hc ho hbr
      obtain ⟨av, cv, rfl, hown⟩ := HO.out.slice
      generalize l[j] = t at *
      generalize (l.take j).map symT = q at *
      clear hown
      go_wp2_with fail
      refine (KS.out _).mono ?_
      rintro e w2 ⟨rfl, hb2⟩
      have HB2 := Lib.hid hb2
      have HO2 := Lib.hid ((HO.out.below hb2).below (bel_alloc' (Below.refl _ _) (.cells #[.int .i64 4, .int .i64 0, .string t, .slice none 0 0] 25)))
      have HB3 := Lib.hid ((HBR.out.trans (hb2.mono HBR.out.size)).trans ((bel_alloc' (Below.refl _ _) (.cells #[.int .i64 4, .int .i64 0, .string t, .slice none 0 0] 25) : Below w2.heap.size w2 _).mono (Nat.le_trans HBR.out.size hb2.size)))
      clear hb2
      go_wp2_with (at_builtin; refine wpList_append_outD rfl _ _ rfl w.heap.size (fun b => w.heap.size ≤ b) q _ rfl HO2.out w2.heap.size 4 0 t [] (.slice none 0 0) rfl (heap_alloc_new w2 _) ⟨by decide, by decide⟩ ⟨by decide, by decide⟩ hsz (symV _ _ hsz).2.2.2 HLN.out HB3.out.size ?_; intro g cap w3 h1 h2 h3)
      have H1 := Lib.hid h1
      have HB4 := Lib.hid (HB3.out.trans h2)
      clear h1 h2 h3
      go_wp2
      go_roundw
      case rel => exact ⟨j + 1, by omega, by go_num, by rw [HTS.out]; exact H1.out, HB4.out⟩
      case measure => simp [intOf]; omega
    · obtain rfl : j = l.length := by omega
      rw [List.take_length] at ho
      have HO2 := Lib.hid ho.ins
      obtain ⟨av, cv, rfl, hown⟩ := ho.slice
      clear ho hbr hown
      go_wp2
      go_ret
      exact ⟨⟨_, rfl, insTo HO2.out (fun _ h _ => h.elim id id)⟩, HBR.out⟩
end Go.Proofs.YtjofdlnopchaeaaGreatDoor.Core

/-
The datum of an expression as a plain function; expressions that may be, as trees; package core's dataOf, where it is known of each kid. No condition.
-/
namespace Go.Proofs.YtjofdlnopchaeaaGreatDoor.Core
open Go.ChangeShapes Go.WideShapes Go.ChangeAt Go.RowKit Go.Deep
open Dat (PT ok64 RepV RepS RowX infoDatum NewV NewS NewD)
set_option maxRecDepth 100000

mutual
/-- May an expression be, as far as its parts' own fields go, and how many they are? -/
def okE : PE → Prop
  | .mk k nm ns d l => formE (.mk k nm ns d l) = true ∧ ns.length ≤ 4096 ∧ l.length ≤ 4096 ∧ okEs l
def okEs : List PE → Prop
  | [] => True
  | t :: l => okE t ∧ okEs l
end
theorem okEs_mem : ∀ {l : List PE}, okEs l → ∀ t ∈ l, okE t
  | [], _, t, h => by cases h
  | u :: l, ho, t, h => by
    rw [okEs] at ho
    exact (List.mem_cons.1 h).elim (fun e => e ▸ ho.1) (okEs_mem ho.2 t)
theorem names_few {k : Int} {nm : ByteArray} {ns : List ByteArray} {d : PT} {l : List PE} (h : formE (.mk k nm ns d l) = true) : ns.length ≤ 6 ∨ ns.length ≤ l.length := by
  unfold formE at h
  rw [Bool.and_eq_true] at h
  obtain ⟨h1, h2⟩ := h
  unfold fieldsB at h2
  simp only [Bool.and_eq_true] at h2
  have h3 := h2.1.2
  unfold namesOkB at h3
  split at h3
  · rename_i hk
    unfold kidsB at h1
    rcases hk with rfl | rfl | rfl | rfl
    · simp at h1; exact .inl h1.1
    · simp at h1; right; omega
    · simp at h1; right; omega
    · simp at h1; right; omega
  · left
    have := of_decide_eq_true h3
    omega
mutual
theorem chkE_pos (deep n : Nat) (hn : n ≤ 4096) : ∀ t : PE, (chkE deep n t).2 = 0 → n + 1 ≤ (chkE deep n t).1 ∧ (chkE deep n t).1 ≤ 4096 ∧ okE t
  | .mk k nm ns d l, h => by
    rw [chkE] at h ⊢
    split at h
    · cases h
    split at h
    · cases h
    split at h
    · rename_i h1 h2 h3
      rw [if_neg h1, if_neg h2, if_pos h3]
      obtain ⟨h4, h5, h6⟩ := chkEs_pos (deep + 1) (n + 1) (by omega) l h
      refine ⟨by omega, h5, ?_⟩
      rw [okE]
      refine ⟨h3, ?_, by omega, h6⟩
      rcases names_few h3 with h | h <;> omega
    · cases h
theorem chkEs_pos (deep n : Nat) (hn : n ≤ 4096) : ∀ l : List PE, (chkEs deep n l).2 = 0 → n + l.length ≤ (chkEs deep n l).1 ∧ (chkEs deep n l).1 ≤ 4096 ∧ okEs l
  | [], _ => by
    rw [chkEs, okEs]
    exact ⟨by simp, hn, trivial⟩
  | t :: l, h => by
    rw [chkEs] at h ⊢
    rw [okEs]
    split at h
    · rename_i h1
      rw [if_pos h1]
      obtain ⟨h2, h3, h4⟩ := chkE_pos deep n hn t h1
      obtain ⟨h5, h6, h7⟩ := chkEs_pos deep _ h3 l h
      exact ⟨by simp only [List.length_cons]; omega, h6, h4, h7⟩
    · rename_i h1
      exact absurd h h1
end
theorem okE_of_check {t : PE} (h : checkE t = 0) : okE t := (chkE_pos 0 0 (by omega) t h).2.2

/-- Names, each with what it is bound to. -/
def bindT : List ByteArray → List PT → List PT
  | s :: ns, d :: l => listT [symT s, d] :: bindT ns l
  | _, _ => []
mutual
/-- The datum of an expression. -/
def dataT : PE → PT
  | .mk k nm ns d l =>
    if k = 0 then listT [symT (wordS k), d]
    else if k = 1 then symT nm
    else if k = 2 ∨ k = 7 then listT (symT (wordS k) :: symT nm :: dataTs l)
    else if k = 5 then listT (symT (wordS k) :: listT (ns.map symT) :: dataTs l)
    else if k = 8 ∨ k = 9 ∨ k = 10 then listT (symT (wordS k) :: listT (bindT ns (dataTs l)) :: (dataTs l).drop ns.length)
    else listT (symT (wordS k) :: dataTs l)
def dataTs : List PE → List PT
  | [] => []
  | t :: l => dataT t :: dataTs l
end
theorem dataTs_map : ∀ l : List PE, dataTs l = l.map dataT
  | [] => by rw [dataTs]; rfl
  | t :: l => by rw [dataTs, dataTs_map l]; rfl
def DatumOk (t : PE) : Prop := ∀ (w : World) (S : Nat → Prop) (vn vd vk : Value), InF w S t vn vd vk → (∀ b, S b → b < w.heap.size) → okE t →
  Calls Tryz.prog 34 #[t.val vn vd vk] w fun e w' => DatIs (fun b => w.heap.size ≤ b) (dataT t) e w' ∧ Below w.heap.size w w'
set_option maxHeartbeats 1000000 in
theorem dataOf_any (l : List PE) (ih : ∀ t ∈ l, DatumOk t) (S : Nat → Prop) (v : Value) (w : World) (hv : InK w S l v) (hS : ∀ b, S b → b < w.heap.size) (hok : okEs l) (hn : l.length ≤ 4096) :
    Calls Tryz.prog 61 #[v] w fun e w' => RowIs (fun b => w.heap.size ≤ b) (dataTs l) e w' ∧ Below w.heap.size w w' := by
  have HK := Lib.hid hv
  have IH := Lib.hid ih
  have HOKS := Lib.hid (fun t ht => okEs_mem hok t ht)
  obtain ⟨a, c, rfl, hl, hm, _⟩ := hv
  unfold maxLen at hm
  clear ih hok
  rw [dataTs_map]
  go_enter Tryz.func61, Tryz.ntmps61
  go_wp2
  go_loopw [3, 8] (fun v i wr => ∃ j : Nat, j ≤ l.length ∧ i = .int .i64 j ∧ OutD wr w.heap.size (fun b => w.heap.size ≤ b) ((l.take j).map dataT) v ∧ Below w.heap.size w wr) (fun _ i _ => l.length - (intOf i).toNat)
  case atStart => exact ⟨0, Nat.zero_le _, rfl, by rw [List.take_zero, List.map_nil]; exact OutD.nil _ _ _, Below.refl _ _⟩
  case round =>
    obtain ⟨j, hj, rfl, ho, hbr⟩ := hrel
    have HO := Lib.hid ho
    have HBR := Lib.hid hbr
    by_cases hlt : j < l.length
    · obtain ⟨b, o, c', ea, _, _, hS1, hE1⟩ := (HK.out.belowT hS HBR.out).item j hlt
      cases ea
      have HTS : Hid ((l.take (j + 1)).map dataT = (l.take j).map dataT ++ [dataT l[j]]) := Lib.hid (by rw [List.take_succ_eq_append_getElem hlt, List.map_append]; rfl)
      have HLN : Hid (((l.take j).map dataT).length ≤ 100000) := Lib.hid (by rw [List.length_map, List.length_take]; omega)
      have hIHj := IH.out l[j] (List.getElem_mem hlt)
      have hokj := HOKS.out l[j] (List.getElem_mem hlt)
      obtain ⟨av, cv, rfl, hown⟩ := HO.out.slice
      have HOWN := Lib.hid hown
      clear ho hbr hown
      generalize (l.take j).map dataT = q at *
      generalize l[j] = t at hE1 hIHj hokj HTS
      obtain ⟨tk, tn, tns, ⟨tck, tci, tcs, tcl⟩, tl⟩ := t
      obtain ⟨tvn, tvd, tvk, hF1, a0, a1, a2, a3, a4, a5, a6, a7⟩ := hE1.cells
      have hbb := World.block_lt_of_cell? _ _ a0
      have KC := Lib.hid (fun o : Obj => hIHj (wr.alloc o) S tvn tvd tvk (hF1.below (bel_alloc' (Below.refl _ _) o)) (fun b h => by have := hS b h; have := HBR.out.size; rw [size_new]; omega) hokj)
      obtain ⟨⟨_, _, hn1'⟩, ⟨_, _, _, hd1'⟩, hk1'⟩ := hF1
      obtain ⟨_, _, rfl, -⟩ := hn1'
      obtain ⟨_, _, rfl, -⟩ := hd1'
      obtain ⟨_, _, rfl, -⟩ := hk1'
      unfold PE.val at KC
      generalize dataT (.mk tk tn tns (.mk tck tci tcs tcl) tl) = d at KC HTS
      obtain ⟨dk, di, ds, dm⟩ := d
      clear hE1 hIHj hokj
      go_wp2_with fail
      refine (KC.out _).mono ?_
      rintro e w2 ⟨⟨v2, he, hv2⟩, hb2⟩
      obtain ⟨z1, z2, z3, z4⟩ := hv2
      obtain ⟨a2v, c2v, rfl, _⟩ := id z4
      change e = .returned (.agg #[.int .i64 dk, .int .i64 di, .string ds, .slice a2v dm.length c2v]) at he
      subst he
      have HB2 := Lib.hid ((bel_alloc' (Below.refl _ _) _).trans (hb2.mono (by rw [size_new]; omega)))
      have HZ := Lib.hid z4
      have HO2 := Lib.hid ((HO.out.below HB2.out).below (bel_alloc' (Below.refl _ _) (.cells #[.int .i64 dk, .int .i64 di, .string ds, .slice a2v dm.length c2v] 25)))
      have HB3 := Lib.hid ((HBR.out.trans (HB2.out.mono HBR.out.size)).trans ((bel_alloc' (Below.refl _ _) (.cells #[.int .i64 dk, .int .i64 di, .string ds, .slice a2v dm.length c2v] 25) : Below w2.heap.size w2 _).mono (Nat.le_trans HBR.out.size HB2.out.size)))
      have HM := Lib.hid (insBelow (insTo (S' := fun b => w.heap.size ≤ b ∧ some b ≠ (Value.slice av q.length cv).ownBlock) HZ.out (fun b h1 h2 => by
        rw [size_new] at h1
        have := HBR.out.size
        refine ⟨by omega, fun e => ?_⟩
        have := (HOWN.out b e.symm).2
        omega)) (bel_alloc' (Below.refl _ _) (.cells #[.int .i64 dk, .int .i64 di, .string ds, .slice a2v dm.length c2v] 25)))
      clear hb2 z4
      go_wp2_with (at_builtin; refine wpList_append_outD rfl _ _ rfl w.heap.size (fun b => w.heap.size ≤ b) q _ rfl HO2.out w2.heap.size dk di ds dm (.slice a2v dm.length c2v) rfl (heap_alloc_new w2 _) z1 z2 z3 HM.out HLN.out HB3.out.size ?_; intro g cap w3 h1 h2 h3)
      have H1 := Lib.hid h1
      have HB4 := Lib.hid (HB3.out.trans h2)
      clear h1 h2 h3
      go_wp2
      go_roundw
      case rel => exact ⟨j + 1, by omega, by go_num, by rw [HTS.out]; exact H1.out, HB4.out⟩
      case measure => simp [intOf]; omega
    · obtain rfl : j = l.length := by omega
      rw [List.take_length] at ho
      have HO2 := Lib.hid ho.ins
      obtain ⟨av, cv, rfl, hown⟩ := ho.slice
      clear ho hbr hown
      go_wp2
      go_ret
      exact ⟨⟨_, rfl, insTo HO2.out (fun _ h _ => h.elim id id)⟩, HBR.out⟩
end Go.Proofs.YtjofdlnopchaeaaGreatDoor.Core
