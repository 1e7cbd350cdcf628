/-
Package heap's Do as a caller sees it: make-vector, vector-ref, vector-set!; how the ways of a statement whose order Go leaves open come to one. No condition but that the heap lies in memory.
-/
import Derived.Test.YtcilmfjgbnfcgaaDoorQ20
import Derived.Test.YtcilmfjgbnfcgaaDoorQ10b
import Derived.Test.YtcilmfjgbnfcgaaDoorQ10d
namespace Go.Proofs.YtcilmfjgbnfcgaaDoor.Hp
open Go.ChangeShapes Go.WideShapes Go.ChangeAt Go.RowKit Go.Deep
open Dat (PT ok64 RepV RepS RowX infoDatum NewV NewS makeT make_any MakeOk numT numsT)
set_option maxRecDepth 100000

section
variable {hb : Nat} {T : List (Int × List PV)} {F : Nat → Prop} {w : World} {S : Nat → Prop} {v : Value}
theorem do_mkvec (n : Int) (x : PV) (h0 : 0 ≤ n) (h1 : n ≤ 1000) (h : HeapM w hb T F) (hF : ∀ b, F b → b < w.heap.size) (hP : InP w S [⟨1, n, ⟨#[]⟩⟩, x] v) (hx : hasB T.length x = true) (hT : T.length ≤ 100000) :
    Calls Tryd.prog 13 #[.pointer (some ⟨hb, 0, none⟩), .string ⟨#[109, 97, 107, 101, 45, 118, 101, 99, 116, 111, 114]⟩, v] w fun e w' => DoOk w hb F ⟨8, T.length, ⟨#[]⟩⟩ 0 (T ++ [(1, repl n.toNat x)]) e w' := by
  obtain ⟨xk, xi, xs⟩ := x
  have := do_any ⟨#[109, 97, 107, 101, 45, 118, 101, 99, 116, 111, 114]⟩ [2, 0] (by decide) [⟨1, n, ⟨#[]⟩⟩, ⟨xk, xi, xs⟩] v S hb T F w _ wanted_make_vector h hF hP (by decide) (fun _ _ _ => done_mkvec 1 n xk xi ⟨#[]⟩ xs hb T F w hT)
  rw [doG_yes rfl (by simp [hx, has_num (m := T.length) (n := n) (by omega) (by omega)]) (by simp [allIs, isB])] at this
  have e : fillT T 1 n ⟨xk, xi, xs⟩ = (⟨8, T.length, ⟨#[]⟩⟩, 0, T ++ [(1, repl n.toNat ⟨xk, xi, xs⟩)]) := if_pos ⟨h0, h1⟩
  rw [e] at this
  exact this
theorem do_vref (i : Int) (s : ByteArray) (n : Int) (x : PV) (l : List PV) (hn0 : 0 ≤ n) (hn1 : n ≤ 1000) (h : HeapM w hb T F) (hF : ∀ b, F b → b < w.heap.size) (hP : InP w S [⟨8, i, s⟩, ⟨1, n, ⟨#[]⟩⟩] v) (h1 : hasB T.length ⟨8, i, s⟩ = true) (hi : 0 ≤ i) (hT : T[i.toNat]? = some (1, l)) (hx : l[n.toNat]? = some x) :
    Calls Tryd.prog 13 #[.pointer (some ⟨hb, 0, none⟩), .string ⟨#[118, 101, 99, 116, 111, 114, 45, 114, 101, 102]⟩, v] w fun e w' => DoOk w hb F x 0 T e w' := by
  have hj := (List.getElem?_eq_some_iff.1 hT).1
  have := do_any ⟨#[118, 101, 99, 116, 111, 114, 45, 114, 101, 102]⟩ [8, 2] (by decide) [⟨8, i, s⟩, ⟨1, n, ⟨#[]⟩⟩] v S hb T F w _ wanted_vector_ref h hF hP (by decide) (fun _ _ _ => done_vref 8 i 1 n s ⟨#[]⟩ hb T F w hi (by omega))
  rw [doG_yes rfl (by simp [h1, has_num (m := T.length) (n := n) (by omega) (by omega)]) (by simp [allIs, isB, thB_mk hT])] at this
  have e : partT T ⟨8, i, s⟩ n = (x, 0) := by simp [partT, hT, hn0, hx]
  rw [e] at this
  exact this
theorem do_vset (i : Int) (s : ByteArray) (n : Int) (x : PV) (l : List PV) (hn0 : -1000 ≤ n) (hn1 : n ≤ 1000) (h : HeapM w hb T F) (hF : ∀ b, F b → b < w.heap.size) (hP : InP w S [⟨8, i, s⟩, ⟨1, n, ⟨#[]⟩⟩, x] v) (h1 : hasB T.length ⟨8, i, s⟩ = true) (hx : hasB T.length x = true) (hi : 0 ≤ i) (hT : T[i.toNat]? = some (1, l)) :
    Calls Tryd.prog 13 #[.pointer (some ⟨hb, 0, none⟩), .string ⟨#[118, 101, 99, 116, 111, 114, 45, 115, 101, 116, 33]⟩, v] w fun e w' => DoOk w hb F (putT T ⟨8, i, s⟩ n x).1 (putT T ⟨8, i, s⟩ n x).2.1 (putT T ⟨8, i, s⟩ n x).2.2 e w' := by
  have hj := (List.getElem?_eq_some_iff.1 hT).1
  obtain ⟨xk, xi, xs⟩ := x
  have := do_any ⟨#[118, 101, 99, 116, 111, 114, 45, 115, 101, 116, 33]⟩ [8, 2, 0] (by decide) [⟨8, i, s⟩, ⟨1, n, ⟨#[]⟩⟩, ⟨xk, xi, xs⟩] v S hb T F w _ wanted_vector_set_x h hF hP (by decide) (fun _ _ _ => done_vset 8 i 1 n xk xi s ⟨#[]⟩ xs hb T F w hi (by omega))
  rwa [doG_yes rfl (by simp [h1, hx, has_num (m := T.length) (n := n) (by omega) (by omega)]) (by simp [allIs, isB, thB_mk hT])] at this
end
/-- What is wanted where a statement has run to its end. -/
def MQ (J : Act → World → Prop) : Exit → Act → World → Prop
  | .normal, a, w => J a w
  | _, _, _ => False
/-- A statement whose order Go leaves open: the ways it may go come to one. -/
theorem wp_merge {P : Program} {c : Code} {Q : Exit → Act → World → Prop} {a : Act} {w : World} {f : Nat → Act} (I : Nat → World → Prop) (h1 : c.wp P (MQ fun a' W' => ∃ x, a' = f x ∧ I x W') a w) (h2 : ∀ x W', I x W' → Q .normal (f x) W') : c.wp P Q a w :=
  Code.wp_mono (fun e a' W' h => by
    cases e <;> first | exact h.elim | (obtain ⟨x, rfl, h⟩ := h; exact h2 x W' h)) h1
theorem wp_merge2 {P : Program} {c : Code} {Q : Exit → Act → World → Prop} {a : Act} {w : World} {f : Nat → Nat → Act} (I : Nat → Nat → World → Prop) (h1 : c.wp P (MQ fun a' W' => ∃ x y, a' = f x y ∧ I x y W') a w) (h2 : ∀ x y W', I x y W' → Q .normal (f x y) W') : c.wp P Q a w :=
  Code.wp_mono (fun e a' W' h => by
    cases e <;> first | exact h.elim | (obtain ⟨x, y, rfl, h⟩ := h; exact h2 x y W' h)) h1
theorem MQ.mk {J : Act → World → Prop} {a : Act} {w : World} (h : J a w) : MQ J .normal a w := h
end Go.Proofs.YtcilmfjgbnfcgaaDoor.Hp
