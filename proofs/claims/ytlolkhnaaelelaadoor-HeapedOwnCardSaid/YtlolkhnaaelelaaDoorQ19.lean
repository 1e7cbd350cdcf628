/-
Package heap's Do, primitive by primitive, as a caller sees it: cons, car, cdr, eq?, quotient, make-vector, vector-ref, vector-set!. Where the table of what is reckoned is as the program lays it.
-/
import Derived.Test.YtlolkhnaaelelaaDoorQ14
import Derived.Test.YtlolkhnaaelelaaDoorQ18
import Derived.Test.YtlolkhnaaelelaaDoorQ8b
namespace Go.Proofs.YtlolkhnaaelelaaDoor.Hp
open Go.ChangeShapes Go.WideShapes Go.ChangeAt Go.RowKit Go.Deep
open Dat (PT ok64 RepV RepS RowX infoDatum NewV NewS makeT make_any MakeOk numT numsT)
set_option maxRecDepth 100000

theorem HeapM.shrink {w : World} {hb : Nat} {T : List (Int × List PV)} {F : Nat → Prop} (h : HeapM w hb T F) : HeapM w hb T (fun b => F b ∧ b < w.heap.size) := by
  obtain ⟨sv, xs, g, pv, mv, h1, h2, h3, h4, h5⟩ := h
  refine ⟨sv, xs, g, pv, mv, h1, ⟨h2, lt_of_block h1⟩, h3, fun b hb => ⟨h4 b hb, (h3.lt b hb).2⟩, fun j hj => ?_⟩
  obtain ⟨a1, a3, a4, a5, a6, a7⟩ := h5 j hj
  refine ⟨a1, a3, a4, fun hn => ⟨a5 hn, ?_⟩, fun b e => ⟨a6 b e, ?_⟩, a7⟩
  · obtain ⟨cur, q⟩ := a4.cells hn
    exact lt_of_block q
  · obtain ⟨es, c, q⟩ := a4.obj e
    exact lt_of_block q
/-- What a caller has of a call: the answer, the heap, and that all else is as it was. -/
theorem DoOk.use {w w' : World} {hb C : Nat} {F : Nat → Prop} {u : PV} {err : Int} {T : List (Int × List PV)} {e : Ending} (h : DoOk w hb F u err T e w') (hF : ∀ b, F b → C ≤ b ∧ b < w.heap.size) (hC : C ≤ w.heap.size) :
    e = VE u err ∧ ∃ F' : Nat → Prop, HeapM w' hb T F' ∧ (∀ b, F' b → C ≤ b ∧ b < w'.heap.size) ∧ Below C w w' ∧ ∀ R, R < w.heap.size → ¬ F R → ¬ F' R ∧ w'.heap[R]? = w.heap[R]? := by
  obtain ⟨h1, F', h2, h3⟩ := h
  refine ⟨h1, _, h2.shrink, fun b hb => ⟨?_, hb.2⟩, h3.below (fun b hb => (hF b hb).1) hC, fun R h4 h5 => ⟨fun h6 => ?_, h3.1.2 R h4 h5⟩⟩
  · rcases h3.2 b hb.1 with h | h
    · exact (hF b h).1
    · omega
  · rcases h3.2 R h6.1 with h | h
    · exact h5 h
    · omega
theorem lit_inP {W : World} {B : Nat} {l : List PV} {fr : Nat × Nat} (h : W.heap[B]? = some (.cells (vCells l).toArray 36 fr)) (ho : ∀ v ∈ l, okV v) (hl : l.length ≤ 1000) : InP W (· = B) l (.slice (some ⟨B, 0, none⟩) l.length l.length) := by
  refine ⟨some ⟨B, 0, none⟩, l.length, rfl, Nat.le_refl _, by unfold maxLen; omega, (fun h => by cases h), .inr ⟨B, 0, rfl, rfl, fun j u hu => ?_, ho⟩⟩
  rw [Lib.cell_of_heap h, Nat.zero_add]
  simpa using hu
theorem doG_yes {T : List (Int × List PV)} {ws : List Int} {l : List PV} {r : PV × Int × List (Int × List PV)} (h1 : ws.length = l.length) (h2 : l.all (hasB T.length) = true) (h3 : allIs T ws l = true) : doG T ws l r = r := by
  unfold doG
  rw [if_pos ⟨h1, h2⟩, if_pos h3]
theorem doG_has {T : List (Int × List PV)} {ws : List Int} {l : List PV} {r : PV × Int × List (Int × List PV)} (h2 : l.all (hasB T.length) = false) : doG T ws l r = (⟨0, 0, ⟨#[]⟩⟩, 1, T) := by
  unfold doG
  rw [if_neg (by rintro ⟨_, h⟩; rw [h2] at h; cases h)]
theorem is_any_want (T : List (Int × List PV)) (v : PV) : isB T v 0 = true := by simp [isB]
/-- A value is a thing of this kind. -/
theorem thB_mk {T : List (Int × List PV)} {i : Int} {s : ByteArray} {kd : Int} {l : List PV} (h : T[i.toNat]? = some (kd, l)) : thB T ⟨8, i, s⟩ kd = true := by
  simp [thB, h]
theorem has_num {m : Nat} {n : Int} (h0 : -1152921504606846976 ≤ n) (h1 : n ≤ 1152921504606846975) : hasB m ⟨1, n, ⟨#[]⟩⟩ = true := by
  have e : (⟨#[]⟩ : ByteArray).toList = [] := by kernel_rfl
  simp [hasB, numB, h0, h1, e]
section
variable {hb : Nat} {T : List (Int × List PV)} {F : Nat → Prop} {w : World} {S : Nat → Prop} {v : Value}
theorem do_cons (a b : PV) (hR : RecOk w) (h : HeapM w hb T F) (hF : ∀ b, F b → b < w.heap.size) (hP : InP w S [a, b] v) (h1 : hasB T.length a = true) (h2 : hasB T.length b = true) (hT : T.length ≤ 100000) :
    Calls Tryd.prog 11 #[.pointer (some ⟨hb, 0, none⟩), .string ⟨#[99, 111, 110, 115]⟩, v] w fun e w' => DoOk w hb F ⟨8, T.length, ⟨#[]⟩⟩ 0 (T ++ [(0, [a, b])]) e w' := by
  have := do_any ⟨#[99, 111, 110, 115]⟩ [0, 0] (by decide) [a, b] v S hb T F w (⟨8, T.length, ⟨#[]⟩⟩, 0, T ++ [(0, [a, b])]) wanted_cons h hF hP (by decide) (fun _ _ _ => done_cons [a, b] hb T F w hR (by simp) hT)
  rwa [doG_yes rfl (by simp [h1, h2]) (by simp [allIs, is_any_want])] at this
theorem do_car_bad (a : PV) (h : HeapM w hb T F) (hF : ∀ b, F b → b < w.heap.size) (hP : InP w S [a] v) (h1 : hasB T.length a = false) :
    Calls Tryd.prog 11 #[.pointer (some ⟨hb, 0, none⟩), .string ⟨#[99, 97, 114]⟩, v] w fun e w' => DoOk w hb F ⟨0, 0, ⟨#[]⟩⟩ 1 T e w' := by
  have := do_any ⟨#[99, 97, 114]⟩ [7] (by decide) [a] v S hb T F w (⟨0, 0, ⟨#[]⟩⟩, 1, T) wanted_car h hF hP (by decide) (fun h _ _ => absurd h (by simp [h1]))
  rwa [doG_has (by simp [h1])] at this
theorem do_car (i : Int) (s : ByteArray) (x : PV) (l : List PV) (h : HeapM w hb T F) (hF : ∀ b, F b → b < w.heap.size) (hP : InP w S [⟨8, i, s⟩] v) (h1 : hasB T.length ⟨8, i, s⟩ = true) (hi : 0 ≤ i) (hT : T[i.toNat]? = some (0, x :: l)) :
    Calls Tryd.prog 11 #[.pointer (some ⟨hb, 0, none⟩), .string ⟨#[99, 97, 114]⟩, v] w fun e w' => DoOk w hb F x 0 T e w' := by
  have hj := (List.getElem?_eq_some_iff.1 hT).1
  have := do_any ⟨#[99, 97, 114]⟩ [7] (by decide) [⟨8, i, s⟩] v S hb T F w _ wanted_car h hF hP (by decide) (fun _ _ _ => done_car 8 i s hb T F w hi (by omega))
  rw [doG_yes rfl (by simp [h1]) (by simp [allIs, isB, thB_mk hT])] at this
  have e : partT T ⟨8, i, s⟩ 0 = (x, 0) := by simp [partT, hT]
  rw [e] at this
  exact this
theorem do_cdr (i : Int) (s : ByteArray) (x y : PV) (l : List PV) (h : HeapM w hb T F) (hF : ∀ b, F b → b < w.heap.size) (hP : InP w S [⟨8, i, s⟩] v) (h1 : hasB T.length ⟨8, i, s⟩ = true) (hi : 0 ≤ i) (hT : T[i.toNat]? = some (0, x :: y :: l)) :
    Calls Tryd.prog 11 #[.pointer (some ⟨hb, 0, none⟩), .string ⟨#[99, 100, 114]⟩, v] w fun e w' => DoOk w hb F y 0 T e w' := by
  have hj := (List.getElem?_eq_some_iff.1 hT).1
  have := do_any ⟨#[99, 100, 114]⟩ [7] (by decide) [⟨8, i, s⟩] v S hb T F w _ wanted_cdr h hF hP (by decide) (fun _ _ _ => done_cdr 8 i s hb T F w hi (by omega))
  rw [doG_yes rfl (by simp [h1]) (by simp [allIs, isB, thB_mk hT])] at this
  have e : partT T ⟨8, i, s⟩ 1 = (y, 0) := by simp [partT, hT]
  rw [e] at this
  exact this
theorem do_quo_zero (hR : RecOk w) (h : HeapM w hb T F) (hF : ∀ b, F b → b < w.heap.size) (hP : InP w S [⟨1, 7, ⟨#[]⟩⟩, ⟨1, 0, ⟨#[]⟩⟩] v) :
    Calls Tryd.prog 11 #[.pointer (some ⟨hb, 0, none⟩), .string ⟨#[113, 117, 111, 116, 105, 101, 110, 116]⟩, v] w fun e w' => DoOk w hb F ⟨0, 0, ⟨#[]⟩⟩ 82 T e w' := by
  have := do_anyR ⟨#[113, 117, 111, 116, 105, 101, 110, 116]⟩ [2, 2] (by decide) [⟨1, 7, ⟨#[]⟩⟩, ⟨1, 0, ⟨#[]⟩⟩] v S hb T F w _ (fun W hW => wanted_quotient W (hR.at hW)) h hF hP (by decide) (fun _ _ _ => done_quotient 1 7 1 0 ⟨#[]⟩ ⟨#[]⟩ hb T F w hR ⟨by decide, by decide⟩ ⟨by decide, by decide⟩)
  rw [doG_yes rfl (by simp [has_num]) (by simp [allIs, isB])] at this
  have e : recT 3 7 0 = (⟨0, 0, ⟨#[]⟩⟩, 82) := by simp [recT]
  rw [e] at this
  exact this
theorem do_eqq (k i : Int) (s : ByteArray) (k' i' : Int) (s' : ByteArray) (r : Bool) (hr : r = decide (k = k' ∧ i = i' ∧ s = s')) (hR : RecOk w) (h : HeapM w hb T F) (hF : ∀ b, F b → b < w.heap.size) (hP : InP w S [⟨k, i, s⟩, ⟨k', i', s'⟩] v) (h1 : hasB T.length ⟨k, i, s⟩ = true) (h2 : hasB T.length ⟨k', i', s'⟩ = true) :
    Calls Tryd.prog 11 #[.pointer (some ⟨hb, 0, none⟩), .string ⟨#[101, 113, 63]⟩, v] w fun e w' => DoOk w hb F ⟨0, if r then 1 else 0, ⟨#[]⟩⟩ 0 T e w' := by
  have := do_any ⟨#[101, 113, 63]⟩ [0, 0] (by decide) [⟨k, i, s⟩, ⟨k', i', s'⟩] v S hb T F w _ wanted_eq_q h hF hP (by decide) (fun _ _ _ => done_eqq k i k' i' s s' hb T F w hR r hr)
  rwa [doG_yes rfl (by simp [h1, h2]) (by simp [allIs, is_any_want])] at this
end
end Go.Proofs.YtlolkhnaaelelaaDoor.Hp
