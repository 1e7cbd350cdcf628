/-
Texts Q19, Q20, Q22, Q28, one behind the other (a claim bears sixty files). Conditions: as each says.
-/
import Derived.Test.YtpejhilfopjckaaDoorQ14
import Derived.Test.YtpejhilfopjckaaDoorQGf
import Derived.Test.YtpejhilfopjckaaDoorQGd
import Derived.Test.YtpejhilfopjckaaDoorTie
import Derived.Test.YtpejhilfopjckaaDoorCards
import Derived.Lib.LaidTab
import Derived.LaidMore
import Derived.Lay
import Derived.Stop.Joined
import Derived.SevenTiedAt

/-
Package heap's Do, primitive by primitive, as a caller sees it: cons, car, cdr, eq?, quotient, make-vector, vector-ref, vector-set!. Where the table of what is reckoned is as the program lays it.
-/
namespace Go.Proofs.YtpejhilfopjckaaDoor.Hp
open Go.ChangeShapes Go.WideShapes Go.ChangeAt Go.RowKit Go.Deep
open Dat (PT ok64 RepV RepS RowX infoDatum NewV NewS makeT make_any MakeOk numT numsT)
set_option maxRecDepth 100000

theorem HeapM.shrink {w : World} {hb : Nat} {T : List (Int × List PV)} {F : Nat → Prop} (h : HeapM w hb T F) : HeapM w hb T (fun b => F b ∧ b < w.heap.size) := by
  obtain ⟨sv, xs, g, pv, mv, h1, h2, h3, h4, h5⟩ := h
  refine ⟨sv, xs, g, pv, mv, h1, ⟨h2, lt_of_block h1⟩, h3, fun b hb => ⟨h4 b hb, (h3.lt b hb).2⟩, fun j hj => ?_⟩
  obtain ⟨a1, a3, a4, a5, a6, a7⟩ := h5 j hj
  refine ⟨a1, a3, a4, fun hn => ⟨a5 hn, ?_⟩, fun b e => ⟨a6 b e, ?_⟩, a7⟩
  · obtain ⟨cur, q⟩ := a4.cells hn
    exact lt_of_block q
  · obtain ⟨es, c, q⟩ := a4.obj e
    exact lt_of_block q
/-- What a caller has of a call: the answer, the heap, and that all else is as it was. -/
theorem DoOk.use {w w' : World} {hb C : Nat} {F : Nat → Prop} {u : PV} {err : Int} {T : List (Int × List PV)} {e : Ending} (h : DoOk w hb F u err T e w') (hF : ∀ b, F b → C ≤ b ∧ b < w.heap.size) (hC : C ≤ w.heap.size) :
    e = VE u err ∧ ∃ F' : Nat → Prop, HeapM w' hb T F' ∧ (∀ b, F' b → C ≤ b ∧ b < w'.heap.size) ∧ Below C w w' ∧ ∀ R, R < w.heap.size → ¬ F R → ¬ F' R ∧ w'.heap[R]? = w.heap[R]? := by
  obtain ⟨h1, F', h2, h3⟩ := h
  refine ⟨h1, _, h2.shrink, fun b hb => ⟨?_, hb.2⟩, h3.below (fun b hb => (hF b hb).1) hC, fun R h4 h5 => ⟨fun h6 => ?_, h3.1.2 R h4 h5⟩⟩
  · rcases h3.2 b hb.1 with h | h
    · exact (hF b h).1
    · omega
  · rcases h3.2 R h6.1 with h | h
    · exact h5 h
    · omega
theorem lit_inP {W : World} {B : Nat} {l : List PV} {fr : Nat × Nat} (h : W.heap[B]? = some (.cells (vCells l).toArray 36 fr)) (ho : ∀ v ∈ l, okV v) (hl : l.length ≤ 1000) : InP W (· = B) l (.slice (some ⟨B, 0, none⟩) l.length l.length) := by
  refine ⟨some ⟨B, 0, none⟩, l.length, rfl, Nat.le_refl _, by unfold maxLen; omega, (fun h => by cases h), .inr ⟨B, 0, rfl, rfl, fun j u hu => ?_, ho⟩⟩
  rw [Lib.cell_of_heap h, Nat.zero_add]
  simpa using hu
theorem doG_yes {T : List (Int × List PV)} {ws : List Int} {l : List PV} {r : PV × Int × List (Int × List PV)} (h1 : ws.length = l.length) (h2 : l.all (hasB T.length) = true) (h3 : allIs T ws l = true) : doG T ws l r = r := by
  unfold doG
  rw [if_pos ⟨h1, h2⟩, if_pos h3]
theorem doG_has {T : List (Int × List PV)} {ws : List Int} {l : List PV} {r : PV × Int × List (Int × List PV)} (h2 : l.all (hasB T.length) = false) : doG T ws l r = (⟨0, 0, ⟨#[]⟩⟩, 1, T) := by
  unfold doG
  rw [if_neg (by rintro ⟨_, h⟩; rw [h2] at h; cases h)]
theorem is_any_want (T : List (Int × List PV)) (v : PV) : isB T v 0 = true := by simp [isB]
/-- A value is a thing of this kind. -/
theorem thB_mk {T : List (Int × List PV)} {i : Int} {s : ByteArray} {kd : Int} {l : List PV} (h : T[i.toNat]? = some (kd, l)) : thB T ⟨8, i, s⟩ kd = true := by
  simp [thB, h]
theorem has_num {m : Nat} {n : Int} (h0 : -1152921504606846976 ≤ n) (h1 : n ≤ 1152921504606846975) : hasB m ⟨1, n, ⟨#[]⟩⟩ = true := by
  have e : (⟨#[]⟩ : ByteArray).toList = [] := by kernel_rfl
  simp [hasB, numB, h0, h1, e]
section
variable {hb : Nat} {T : List (Int × List PV)} {F : Nat → Prop} {w : World} {S : Nat → Prop} {v : Value}
theorem do_cons (a b : PV) (hR : RecOk w) (h : HeapM w hb T F) (hF : ∀ b, F b → b < w.heap.size) (hP : InP w S [a, b] v) (h1 : hasB T.length a = true) (h2 : hasB T.length b = true) (hT : T.length ≤ 100000) :
    Calls Tryd.prog 10 #[.pointer (some ⟨hb, 0, none⟩), .string ⟨#[99, 111, 110, 115]⟩, v] w fun e w' => DoOk w hb F ⟨8, T.length, ⟨#[]⟩⟩ 0 (T ++ [(0, [a, b])]) e w' := by
  have := do_any ⟨#[99, 111, 110, 115]⟩ [0, 0] (by decide) [a, b] v S hb T F w (⟨8, T.length, ⟨#[]⟩⟩, 0, T ++ [(0, [a, b])]) wanted_cons h hF hP (by decide) (fun _ _ _ => done_cons [a, b] hb T F w hR (by simp) hT)
  rwa [doG_yes rfl (by simp [h1, h2]) (by simp [allIs, is_any_want])] at this
theorem do_car_bad (a : PV) (h : HeapM w hb T F) (hF : ∀ b, F b → b < w.heap.size) (hP : InP w S [a] v) (h1 : hasB T.length a = false) :
    Calls Tryd.prog 10 #[.pointer (some ⟨hb, 0, none⟩), .string ⟨#[99, 97, 114]⟩, v] w fun e w' => DoOk w hb F ⟨0, 0, ⟨#[]⟩⟩ 1 T e w' := by
  have := do_any ⟨#[99, 97, 114]⟩ [7] (by decide) [a] v S hb T F w (⟨0, 0, ⟨#[]⟩⟩, 1, T) wanted_car h hF hP (by decide) (fun h _ _ => absurd h (by simp [h1]))
  rwa [doG_has (by simp [h1])] at this
theorem do_car (i : Int) (s : ByteArray) (x : PV) (l : List PV) (h : HeapM w hb T F) (hF : ∀ b, F b → b < w.heap.size) (hP : InP w S [⟨8, i, s⟩] v) (h1 : hasB T.length ⟨8, i, s⟩ = true) (hi : 0 ≤ i) (hT : T[i.toNat]? = some (0, x :: l)) :
    Calls Tryd.prog 10 #[.pointer (some ⟨hb, 0, none⟩), .string ⟨#[99, 97, 114]⟩, v] w fun e w' => DoOk w hb F x 0 T e w' := by
  have hj := (List.getElem?_eq_some_iff.1 hT).1
  have := do_any ⟨#[99, 97, 114]⟩ [7] (by decide) [⟨8, i, s⟩] v S hb T F w _ wanted_car h hF hP (by decide) (fun _ _ _ => done_car 8 i s hb T F w hi (by omega))
  rw [doG_yes rfl (by simp [h1]) (by simp [allIs, isB, thB_mk hT])] at this
  have e : partT T ⟨8, i, s⟩ 0 = (x, 0) := by simp [partT, hT]
  rw [e] at this
  exact this
theorem do_quo_zero (hR : RecOk w) (h : HeapM w hb T F) (hF : ∀ b, F b → b < w.heap.size) (hP : InP w S [⟨1, 7, ⟨#[]⟩⟩, ⟨1, 0, ⟨#[]⟩⟩] v) :
    Calls Tryd.prog 10 #[.pointer (some ⟨hb, 0, none⟩), .string ⟨#[113, 117, 111, 116, 105, 101, 110, 116]⟩, v] w fun e w' => DoOk w hb F ⟨0, 0, ⟨#[]⟩⟩ 82 T e w' := by
  have := do_anyR ⟨#[113, 117, 111, 116, 105, 101, 110, 116]⟩ [2, 2] (by decide) [⟨1, 7, ⟨#[]⟩⟩, ⟨1, 0, ⟨#[]⟩⟩] v S hb T F w _ (fun W hW => wanted_quotient W (hR.at hW)) h hF hP (by decide) (fun _ _ _ => done_quotient 1 7 1 0 ⟨#[]⟩ ⟨#[]⟩ hb T F w hR ⟨by decide, by decide⟩ ⟨by decide, by decide⟩)
  rw [doG_yes rfl (by simp [has_num]) (by simp [allIs, isB])] at this
  have e : recT 3 7 0 = (⟨0, 0, ⟨#[]⟩⟩, 82) := by simp [recT]
  rw [e] at this
  exact this
end
end Go.Proofs.YtpejhilfopjckaaDoor.Hp

/-
The fixed calls of layer 8's laws. Where the table of what is reckoned is as the program lays it.
-/
namespace Go.Proofs.YtpejhilfopjckaaDoor.Hp
open Go.ChangeShapes Go.WideShapes Go.ChangeAt Go.RowKit Go.Deep
open Dat (PT ok64 RepV RepS RowX infoDatum NewV NewS makeT make_any MakeOk numT numsT)
set_option maxRecDepth 100000

/-- How things stand for a caller who began at w: a heap of his own. -/
def Ctx (w : World) (hb : Nat) (T : List (Int × List PV)) (F : Nat → Prop) (W : World) : Prop := HeapM W hb T F ∧ (∀ b, F b → w.heap.size ≤ b ∧ b < W.heap.size) ∧ Below w.heap.size w W
theorem Ctx.below {w W W' : World} {hb : Nat} {T : List (Int × List PV)} {F : Nat → Prop} (h : Ctx w hb T F W) (hb' : Below W.heap.size W W') : Ctx w hb T F W' :=
  ⟨h.1.below hb', fun b hb => ⟨(h.2.1 b hb).1, Nat.lt_of_lt_of_le (h.2.1 b hb).2 hb'.size⟩, h.2.2.trans (hb'.mono h.2.2.size)⟩
/-- A block of the caller's own. -/
def Loc (F : Nat → Prop) (W : World) (R : Nat) (o : Obj) : Prop := W.heap[R]? = some o ∧ ¬ F R
theorem Loc.below {W W' : World} {F : Nat → Prop} {R : Nat} {o : Obj} (h : Loc F W R o) (hb : Below W.heap.size W W') : Loc F W' R o := ⟨(hb.block R (lt_of_block h.1)).trans h.1, h.2⟩
theorem Ctx.loc {w W : World} {hb : Nat} {T : List (Int × List PV)} {F : Nat → Prop} (h : Ctx w hb T F W) (o : Obj) : Loc F (W.alloc o) W.heap.size o := ⟨heap_alloc_new W o, fun hf => by have := (h.2.1 _ hf).2; omega⟩
theorem Ctx.use {w W w' : World} {hb : Nat} {T T' : List (Int × List PV)} {F : Nat → Prop} {u : PV} {err : Int} {e : Ending} (h : Ctx w hb T F W) (hd : DoOk W hb F u err T' e w') :
    e = VE u err ∧ ∃ F', Ctx w hb T' F' w' ∧ W.heap.size ≤ w'.heap.size ∧ ∀ R o, Loc F W R o → Loc F' w' R o := by
  obtain ⟨h1, F', h2, h3, h4, h5⟩ := hd.use h.2.1 h.2.2.size
  refine ⟨h1, F', ⟨h2, h3, h.2.2.trans h4⟩, ?_, fun R o hl => ?_⟩
  · obtain ⟨_, _, _, hs⟩ := hd; exact hs.1.1.size
  · obtain ⟨a, b⟩ := h5 R (lt_of_block hl.1) hl.2
    exact ⟨b.trans hl.1, a⟩
theorem Ctx.lt {w W : World} {hb : Nat} {T : List (Int × List PV)} {F : Nat → Prop} (h : Ctx w hb T F W) : ∀ b, F b → b < W.heap.size := fun b hb => (h.2.1 b hb).2
theorem Ctx.rec {w W : World} {hb : Nat} {T : List (Int × List PV)} {F : Nat → Prop} (h : Ctx w hb T F W) (hR : RecOk w) : RecOk W := hR.at h.2.2
theorem al (W : World) (o : Obj) : Below W.heap.size W (W.alloc o) := (Below.refl _ _).alloc (Nat.le_refl _) o
theorem ok_num {n : Int} (h0 : -9223372036854775808 ≤ n) (h1 : n ≤ 9223372036854775807) (k : Int) (hk0 : 0 ≤ k) (hk1 : k ≤ 8) : okV ⟨k, n, ⟨#[]⟩⟩ := ⟨⟨by show _ ≤ k; omega, by show k ≤ _; omega⟩, ⟨h0, h1⟩, (by decide : (⟨#[]⟩ : ByteArray).size ≤ maxLen)⟩
set_option maxHeartbeats 2000000 in
theorem fixed_any (w : World) (hR : RecOk w) : Calls Tryd.prog 6 #[] w fun e w' => e = .returned (.bool true) ∧ Below w.heap.size w w' := by
  have HR := Lib.hid hR
  clear hR
  go_enter Tryd.func6, Tryd.ntmps6
  go_wp2_with fail
  refine (new_any _).mono ?_
  rintro e w1 ⟨rfl, h1, hb1, hlt1⟩
  have C1 : Hid (Ctx w w.heap.size [] (· = w.heap.size) w1) := Lib.hid ⟨h1, fun b e => ⟨by omega, by omega⟩, hb1⟩
  clear h1 hb1 hlt1
  -- cons
  go_wp2_with fail
  refine (num_any 1 _).mono ?_
  rintro e w2 ⟨rfl, hb2⟩
  have C2 := Lib.hid (C1.out.below hb2)
  clear hb2 C1
  go_wp2_with fail
  refine (num_any 2 _).mono ?_
  rintro e w3 ⟨rfl, hb3⟩
  have C3 := Lib.hid (C2.out.below hb3)
  clear hb3 C2
  have KC := Lib.hid (do_cons ⟨1, 1, ⟨#[]⟩⟩ ⟨1, 2, ⟨#[]⟩⟩ ((C3.out.below (al w3 (.cells #[.int .i64 1, .int .i64 1, .string ⟨#[]⟩, .int .i64 1, .int .i64 2, .string ⟨#[]⟩] 36))).rec HR.out) (C3.out.below (al w3 _)).1 (C3.out.below (al w3 _)).lt (lit_inP (l := [⟨1, 1, ⟨#[]⟩⟩, ⟨1, 2, ⟨#[]⟩⟩]) (heap_alloc_new w3 _) (by intro v hv; simp only [List.mem_cons, List.not_mem_nil, or_false] at hv; rcases hv with rfl | rfl <;> exact ok_num (by decide) (by decide) 1 (by decide) (by decide)) (by decide)) (has_num (by decide) (by decide)) (has_num (by decide) (by decide)) (by decide))
  have C4 := Lib.hid (C3.out.below (al w3 (.cells #[.int .i64 1, .int .i64 1, .string ⟨#[]⟩, .int .i64 1, .int .i64 2, .string ⟨#[]⟩] 36)))
  clear C3
  go_wp2_with fail
  refine KC.out.mono ?_
  rintro e w5 hd
  obtain ⟨rfl, F5, c5, s5, l5⟩ := C4.out.use hd
  have C5 : Hid (Ctx w w.heap.size [(0, [⟨1, 1, ⟨#[]⟩⟩, ⟨1, 2, ⟨#[]⟩⟩])] F5 w5) := Lib.hid c5
  clear hd c5 s5 l5 C4 KC
  -- car of it
  have LP := Lib.hid (C5.out.loc (.cells #[.int .i64 8, .int .i64 0, .string ⟨#[]⟩] 36))
  have C6 := Lib.hid (C5.out.below (al w5 (.cells #[.int .i64 8, .int .i64 0, .string ⟨#[]⟩] 36)))
  have C7 := Lib.hid (C6.out.below (al (w5.alloc (.cells #[.int .i64 8, .int .i64 0, .string ⟨#[]⟩] 36)) (.cells #[.int .i64 8, .int .i64 0, .string ⟨#[]⟩] 36)))
  have LP7 := Lib.hid (LP.out.below (al (w5.alloc (.cells #[.int .i64 8, .int .i64 0, .string ⟨#[]⟩] 36)) (.cells #[.int .i64 8, .int .i64 0, .string ⟨#[]⟩] 36)))
  have hv0 : hasB 1 ⟨8, 0, ⟨#[]⟩⟩ = true := by simp [hasB, numB]
  have KC := Lib.hid (do_car 0 ⟨#[]⟩ ⟨1, 1, ⟨#[]⟩⟩ [⟨1, 2, ⟨#[]⟩⟩] C7.out.1 C7.out.lt (lit_inP (l := [⟨8, 0, ⟨#[]⟩⟩]) (heap_alloc_new _ _) (by intro v hv; simp only [List.mem_cons, List.not_mem_nil, or_false] at hv; rcases hv with rfl; exact ok_num (by decide) (by decide) 8 (by decide) (by decide)) (by decide)) hv0 (by decide) rfl)
  rw [size_new] at KC
  clear C6 LP
  unfold VE
  go_wp2_with fail
  generalize (w5.alloc (.cells #[.int .i64 8, .int .i64 0, .string ⟨#[]⟩] 36)).alloc (.cells #[.int .i64 8, .int .i64 0, .string ⟨#[]⟩] 36) = w7 at *
  refine KC.out.mono ?_
  rintro e w8 hd
  obtain ⟨rfl, F8, c8, s8, l8⟩ := C7.out.use hd
  have C8 := Lib.hid c8
  have LP8 := Lib.hid (l8 _ _ LP7.out)
  clear hd c8 s8 l8 C7 LP7 KC
  -- the quotient
  have LA := Lib.hid (C8.out.loc (.cells #[.int .i64 1, .int .i64 1, .string ⟨#[]⟩] 36))
  have C9 := Lib.hid (C8.out.below (al w8 (.cells #[.int .i64 1, .int .i64 1, .string ⟨#[]⟩] 36)))
  have LP9 := Lib.hid (LP8.out.below (al w8 (.cells #[.int .i64 1, .int .i64 1, .string ⟨#[]⟩] 36)))
  clear LP8 C8
  unfold VE
  go_wp2_with fail
  generalize w8.alloc (.cells #[.int .i64 1, .int .i64 1, .string ⟨#[]⟩] 36) = w9 at *
  refine (num_any 7 _).mono ?_
  rintro e w10 ⟨rfl, hb10⟩
  have C10 := Lib.hid (C9.out.below hb10)
  have LP10 := Lib.hid (LP9.out.below hb10)
  have LA10 := Lib.hid (LA.out.below hb10)
  clear hb10 C9 LP9 LA
  go_wp2_with fail
  refine (num_any 0 _).mono ?_
  rintro e w11 ⟨rfl, hb11⟩
  have C11 := Lib.hid (C10.out.below hb11)
  have LP11 := Lib.hid (LP10.out.below hb11)
  have LA11 := Lib.hid (LA10.out.below hb11)
  clear hb11 C10 LP10 LA10
  have C12 := Lib.hid (C11.out.below (al w11 (.cells #[.int .i64 1, .int .i64 7, .string ⟨#[]⟩, .int .i64 1, .int .i64 0, .string ⟨#[]⟩] 36)))
  have LP12 := Lib.hid (LP11.out.below (al w11 (.cells #[.int .i64 1, .int .i64 7, .string ⟨#[]⟩, .int .i64 1, .int .i64 0, .string ⟨#[]⟩] 36)))
  have LA12 := Lib.hid (LA11.out.below (al w11 (.cells #[.int .i64 1, .int .i64 7, .string ⟨#[]⟩, .int .i64 1, .int .i64 0, .string ⟨#[]⟩] 36)))
  have KQ := Lib.hid (do_quo_zero (C12.out.rec HR.out) C12.out.1 C12.out.lt (lit_inP (l := [⟨1, 7, ⟨#[]⟩⟩, ⟨1, 0, ⟨#[]⟩⟩]) (heap_alloc_new w11 _) (by intro v hv; simp only [List.mem_cons, List.not_mem_nil, or_false] at hv; rcases hv with rfl | rfl <;> exact ok_num (by decide) (by decide) 1 (by decide) (by decide)) (by decide)))
  clear C11 LP11 LA11
  go_wp2_with fail
  generalize w11.alloc (.cells #[.int .i64 1, .int .i64 7, .string ⟨#[]⟩, .int .i64 1, .int .i64 0, .string ⟨#[]⟩] 36) = w12 at *
  refine KQ.out.mono ?_
  rintro e w13 hd
  obtain ⟨rfl, F13, c13, s13, l13⟩ := C12.out.use hd
  have LP13 := Lib.hid (l13 _ _ LP12.out)
  have LA13 := Lib.hid (l13 _ _ LA12.out)
  have C13 := Lib.hid c13
  clear hd c13 s13 l13 C12 LP12 LA12 KQ
  -- car of no thing
  have C14 := Lib.hid (C13.out.below (al w13 (.cells #[.int .i64 0, .int .i64 0, .string ⟨#[]⟩] 36)))
  have LP14 := Lib.hid (LP13.out.below (al w13 (.cells #[.int .i64 0, .int .i64 0, .string ⟨#[]⟩] 36)))
  have LA14 := Lib.hid (LA13.out.below (al w13 (.cells #[.int .i64 0, .int .i64 0, .string ⟨#[]⟩] 36)))
  clear C13 LP13 LA13
  have C15 := Lib.hid (C14.out.below (al (w13.alloc (.cells #[.int .i64 0, .int .i64 0, .string ⟨#[]⟩] 36)) (.cells #[.int .i64 8, .int .i64 9, .string ⟨#[]⟩] 36)))
  have LP15 := Lib.hid (LP14.out.below (al (w13.alloc (.cells #[.int .i64 0, .int .i64 0, .string ⟨#[]⟩] 36)) (.cells #[.int .i64 8, .int .i64 9, .string ⟨#[]⟩] 36)))
  have LA15 := Lib.hid (LA14.out.below (al (w13.alloc (.cells #[.int .i64 0, .int .i64 0, .string ⟨#[]⟩] 36)) (.cells #[.int .i64 8, .int .i64 9, .string ⟨#[]⟩] 36)))
  have hv9 : hasB 1 ⟨8, 9, ⟨#[]⟩⟩ = false := by simp [hasB, numB]
  have KB := Lib.hid (do_car_bad ⟨8, 9, ⟨#[]⟩⟩ C15.out.1 C15.out.lt (lit_inP (l := [⟨8, 9, ⟨#[]⟩⟩]) (heap_alloc_new _ _) (by intro v hv; simp only [List.mem_cons, List.not_mem_nil, or_false] at hv; rcases hv with rfl; exact ok_num (by decide) (by decide) 8 (by decide) (by decide)) (by decide)) hv9)
  rw [size_new] at KB
  clear C14 LP14 LA14 hv9
  unfold VE
  go_wp2_with fail
  generalize (w13.alloc (.cells #[.int .i64 0, .int .i64 0, .string ⟨#[]⟩] 36)).alloc (.cells #[.int .i64 8, .int .i64 9, .string ⟨#[]⟩] 36) = w15 at *
  refine KB.out.mono ?_
  rintro e w16 hd
  obtain ⟨rfl, F16, c16, s16, l16⟩ := C15.out.use hd
  have LP16 := Lib.hid (l16 _ _ LP15.out)
  have LA16 := Lib.hid (l16 _ _ LA15.out)
  have C16 := Lib.hid c16
  clear hd c16 s16 l16 C15 LP15 LA15 KB
  -- what the pair shows
  have C17 := Lib.hid (C16.out.below (al w16 (.cells #[.int .i64 0, .int .i64 0, .string ⟨#[]⟩] 36)))
  have LP17 := Lib.hid (LP16.out.below (al w16 (.cells #[.int .i64 0, .int .i64 0, .string ⟨#[]⟩] 36)))
  have LA17 := Lib.hid (LA16.out.below (al w16 (.cells #[.int .i64 0, .int .i64 0, .string ⟨#[]⟩] 36)))
  clear C16 LP16 LA16
  obtain ⟨⟨p0, p1, p2⟩, -⟩ := look3 LP17.out.1
  have hD : TellR [(0, [⟨1, 1, ⟨#[]⟩⟩, ⟨1, 2, ⟨#[]⟩⟩])] 0 ⟨8, 0, ⟨#[]⟩⟩ (makeT [shownT ⟨1, 1, ⟨#[]⟩⟩] (shownT ⟨1, 2, ⟨#[]⟩⟩)) (1 + (1 + 1)) :=
    .pair 0 0 ⟨#[]⟩ ⟨1, 1, ⟨#[]⟩⟩ ⟨1, 2, ⟨#[]⟩⟩ _ _ 1 1 (by decide) (by decide) rfl (.leaf 1 _ (by decide) (by decide) (by decide) (ok_num (by decide) (by decide) 1 (by decide) (by decide))) (.leaf 0 _ (by decide) (by decide) (by decide) (ok_num (by decide) (by decide) 1 (by decide) (by decide)))
  have eD : makeT [shownT ⟨1, 1, ⟨#[]⟩⟩] (shownT ⟨1, 2, ⟨#[]⟩⟩) = .mk 6 0 ⟨#[]⟩ [.mk 1 1 ⟨#[]⟩ [], .mk 1 2 ⟨#[]⟩ []] := by simp [makeT, shownT]
  rw [eD] at hD
  have KT := Lib.hid (tell_any 8 0 ⟨#[]⟩ _ _ _ _ F16 _ C17.out.1 C17.out.lt (by decide) hv0 hD (by decide))
  clear hD eD hv0
  unfold VE
  go_wp2_with fail
  generalize w16.alloc (.cells #[.int .i64 0, .int .i64 0, .string ⟨#[]⟩] 36) = w17 at *
  refine KT.out.mono ?_
  rintro e w18 ⟨⟨x, he, hx⟩, hb18⟩
  have hx' := hx
  obtain ⟨xa, xc, hxe, _⟩ := hx.2.2.2
  subst hxe
  change e = .returned (.tuple #[.agg #[.int .i64 6, .int .i64 0, .string ⟨#[]⟩, .slice xa 2 xc], .bool true]) at he
  subst he
  have C18 := Lib.hid (C17.out.below hb18)
  have LP18 := Lib.hid (LP17.out.below hb18)
  have LA18 := Lib.hid (LA17.out.below hb18)
  have X18 := Lib.hid hx'
  clear hx hx' hb18 C17 LP17 LA17 KT p0 p1 p2
  -- what is wanted of it, and all answers
  obtain ⟨e0, e1, e2, eB⟩ := three_new w18 (.cells #[.int .i64 6, .int .i64 0, .string ⟨#[]⟩, .slice xa 2 xc] 50) (.cells #[.int .i64 1, .int .i64 1, .string ⟨#[]⟩, .slice none 0 0, .int .i64 1, .int .i64 2, .string ⟨#[]⟩, .slice none 0 0] 50) (.cells #[.int .i64 6, .int .i64 0, .string ⟨#[]⟩, .slice (some ⟨w18.heap.size + 1, 0, none⟩) 2 2] 50)
  have CE := Lib.hid (C18.out.below eB)
  have LPE := Lib.hid (LP18.out.below eB)
  have LAE := Lib.hid (LA18.out.below eB)
  have E0 := Lib.hid e0
  have E1 := Lib.hid e1
  have E2 := Lib.hid e2
  have EB := Lib.hid eB
  have hsE : (((w18.alloc (.cells #[.int .i64 6, .int .i64 0, .string ⟨#[]⟩, .slice xa 2 xc] 50)).alloc (.cells #[.int .i64 1, .int .i64 1, .string ⟨#[]⟩, .slice none 0 0, .int .i64 1, .int .i64 2, .string ⟨#[]⟩, .slice none 0 0] 50)).alloc (.cells #[.int .i64 6, .int .i64 0, .string ⟨#[]⟩, .slice (some ⟨w18.heap.size + 1, 0, none⟩) 2 2] 50)).heap.size = w18.heap.size + 1 + 1 + 1 := by rw [size_new, size_new, size_new]
  clear e0 e1 e2 eB C18 LP18 LA18
  go_wp2_with fail
  generalize ((w18.alloc (.cells #[.int .i64 6, .int .i64 0, .string ⟨#[]⟩, .slice xa 2 xc] 50)).alloc (.cells #[.int .i64 1, .int .i64 1, .string ⟨#[]⟩, .slice none 0 0, .int .i64 1, .int .i64 2, .string ⟨#[]⟩, .slice none 0 0] 50)).alloc (.cells #[.int .i64 6, .int .i64 0, .string ⟨#[]⟩, .slice (some ⟨w18.heap.size + 1, 0, none⟩) 2 2] 50) = wE at *
  have hl5 := lt_of_block LPE.out.1
  have hl8 := lt_of_block LAE.out.1
  have CL : Hid (∀ W, Below wE.heap.size wE W → W.cell? ⟨w5.heap.size, 0, none⟩ = some (.int .i64 8) ∧ W.cell? ⟨w5.heap.size, 1, none⟩ = some (.int .i64 0) ∧ W.cell? ⟨w5.heap.size, 2, none⟩ = some (.string ⟨#[]⟩) ∧ W.cell? ⟨w8.heap.size, 0, none⟩ = some (.int .i64 1) ∧ W.cell? ⟨w8.heap.size, 1, none⟩ = some (.int .i64 1) ∧ W.cell? ⟨w8.heap.size, 2, none⟩ = some (.string ⟨#[]⟩) ∧ W.cell? ⟨w18.heap.size, 0, none⟩ = some (.int .i64 6) ∧ W.cell? ⟨w18.heap.size, 1, none⟩ = some (.int .i64 0) ∧ W.cell? ⟨w18.heap.size, 2, none⟩ = some (.string ⟨#[]⟩) ∧ W.cell? ⟨w18.heap.size, 3, none⟩ = some (.slice xa 2 xc) ∧ W.cell? ⟨w18.heap.size + 1 + 1, 0, none⟩ = some (.int .i64 6) ∧ W.cell? ⟨w18.heap.size + 1 + 1, 1, none⟩ = some (.int .i64 0) ∧ W.cell? ⟨w18.heap.size + 1 + 1, 2, none⟩ = some (.string ⟨#[]⟩) ∧ W.cell? ⟨w18.heap.size + 1 + 1, 3, none⟩ = some (.slice (some ⟨w18.heap.size + 1, 0, none⟩) 2 2) ∧ Below wE.heap.size wE W) := Lib.hid fun W hb => by
    obtain ⟨⟨p0, p1, p2⟩, -⟩ := look3 ((hb.block _ hl5).trans LPE.out.1)
    obtain ⟨⟨a0, a1, a2⟩, -⟩ := look3 ((hb.block _ hl8).trans LAE.out.1)
    obtain ⟨⟨d0, d1, d2, d3⟩, -⟩ := look4 ((hb.block _ (by omega)).trans E0.out)
    obtain ⟨⟨q0, q1, q2, q3⟩, -⟩ := look4 ((hb.block _ (by omega)).trans E2.out)
    exact ⟨p0, p1, p2, a0, a1, a2, d0, d1, d2, d3, q0, q1, q2, q3, hb⟩
  have OF : Hid (∀ W, (W.cell? ⟨w5.heap.size, 0, none⟩ = some (.int .i64 8) ∧ W.cell? ⟨w5.heap.size, 1, none⟩ = some (.int .i64 0) ∧ W.cell? ⟨w5.heap.size, 2, none⟩ = some (.string ⟨#[]⟩) ∧ W.cell? ⟨w8.heap.size, 0, none⟩ = some (.int .i64 1) ∧ W.cell? ⟨w8.heap.size, 1, none⟩ = some (.int .i64 1) ∧ W.cell? ⟨w8.heap.size, 2, none⟩ = some (.string ⟨#[]⟩) ∧ W.cell? ⟨w18.heap.size, 0, none⟩ = some (.int .i64 6) ∧ W.cell? ⟨w18.heap.size, 1, none⟩ = some (.int .i64 0) ∧ W.cell? ⟨w18.heap.size, 2, none⟩ = some (.string ⟨#[]⟩) ∧ W.cell? ⟨w18.heap.size, 3, none⟩ = some (.slice xa 2 xc) ∧ W.cell? ⟨w18.heap.size + 1 + 1, 0, none⟩ = some (.int .i64 6) ∧ W.cell? ⟨w18.heap.size + 1 + 1, 1, none⟩ = some (.int .i64 0) ∧ W.cell? ⟨w18.heap.size + 1 + 1, 2, none⟩ = some (.string ⟨#[]⟩) ∧ W.cell? ⟨w18.heap.size + 1 + 1, 3, none⟩ = some (.slice (some ⟨w18.heap.size + 1, 0, none⟩) 2 2) ∧ Below wE.heap.size wE W) → Below wE.heap.size wE W) := Lib.hid fun W h => h.2.2.2.2.2.2.2.2.2.2.2.2.2.2
  have KN : Hid (∀ W, Below wE.heap.size wE W → Calls Tryd.prog 18 #[.int .i64 1] W fun e w' => e = .returned (.agg #[.int .i64 1, .int .i64 1, .string ⟨#[]⟩]) ∧ Below wE.heap.size wE w') := Lib.hid fun W hb => (num_any 1 W).mono fun _ _ h => ⟨h.1, hb.trans (h.2.mono hb.size)⟩
  have KS : Hid (∀ W, Below wE.heap.size wE W → Calls Tryd.prog 17 #[.agg #[.int .i64 6, .int .i64 0, .string ⟨#[]⟩, .slice xa 2 xc], .agg #[.int .i64 6, .int .i64 0, .string ⟨#[]⟩, .slice (some ⟨w18.heap.size + 1, 0, none⟩) 2 2]] W fun e w' => e = .returned (.bool true) ∧ Below wE.heap.size wE w') := Lib.hid fun W hb => by
    have B := EB.out.trans (hb.mono EB.out.size)
    have r1 : RepV W W.heap.size (.mk 6 0 ⟨#[]⟩ [.mk 1 1 ⟨#[]⟩ [], .mk 1 2 ⟨#[]⟩ []]) (.slice xa 2 xc) := Dat.RepV.mono (Dat.RepV.below X18.out.rep B (Nat.le_refl _)) B.size
    have r2 : RepV W W.heap.size (.mk 6 0 ⟨#[]⟩ [.mk 1 1 ⟨#[]⟩ [], .mk 1 2 ⟨#[]⟩ []]) (.slice (some ⟨w18.heap.size + 1, 0, none⟩) 2 2) :=
      ⟨⟨by decide, by decide⟩, ⟨by decide, by decide⟩, by decide, Dat.repS_two (by have := hb.size; omega) ((hb.block _ (by omega)).trans E1.out) ⟨⟨by decide, by decide⟩, ⟨by decide, by decide⟩, by decide, Dat.rep_none _ _⟩ ⟨⟨by decide, by decide⟩, ⟨by decide, by decide⟩, by decide, Dat.rep_none _ _⟩⟩
    have := Dat.same_any (.mk 6 0 ⟨#[]⟩ [.mk 1 1 ⟨#[]⟩ [], .mk 1 2 ⟨#[]⟩ []]) (.mk 6 0 ⟨#[]⟩ [.mk 1 1 ⟨#[]⟩ [], .mk 1 2 ⟨#[]⟩ []]) W W.heap.size _ _ r1 r2 (Nat.le_refl _)
    rw [Dat.sameB_refl] at this
    exact this.mono fun _ _ h => ⟨h.1, hb.trans (h.2.mono hb.size)⟩
  have KC : Hid (∀ W, Below wE.heap.size wE W → Calls Tryd.prog 12 #[.pointer (some ⟨w.heap.size, 0, none⟩)] W fun e w' => e = .returned (.int .i64 1) ∧ Below wE.heap.size wE w') := Lib.hid fun W hb => (count_any _ _ _ W (CE.out.below hb).1).mono fun _ _ h => ⟨h.1, h.2 ▸ hb⟩
  have BZ : Below wE.heap.size wE wE := Below.refl _ _
  have HCE := Lib.hid CE.out.2.2
  clear C5 E0 E1 E2 X18 hl5 hl8 hsE LPE LAE
  go_region_held3 (fun W => W.cell? ⟨w5.heap.size, 0, none⟩ = some (.int .i64 8) ∧ W.cell? ⟨w5.heap.size, 1, none⟩ = some (.int .i64 0) ∧ W.cell? ⟨w5.heap.size, 2, none⟩ = some (.string ⟨#[]⟩) ∧ W.cell? ⟨w8.heap.size, 0, none⟩ = some (.int .i64 1) ∧ W.cell? ⟨w8.heap.size, 1, none⟩ = some (.int .i64 1) ∧ W.cell? ⟨w8.heap.size, 2, none⟩ = some (.string ⟨#[]⟩) ∧ W.cell? ⟨w18.heap.size, 0, none⟩ = some (.int .i64 6) ∧ W.cell? ⟨w18.heap.size, 1, none⟩ = some (.int .i64 0) ∧ W.cell? ⟨w18.heap.size, 2, none⟩ = some (.string ⟨#[]⟩) ∧ W.cell? ⟨w18.heap.size, 3, none⟩ = some (.slice xa 2 xc) ∧ W.cell? ⟨w18.heap.size + 1 + 1, 0, none⟩ = some (.int .i64 6) ∧ W.cell? ⟨w18.heap.size + 1 + 1, 1, none⟩ = some (.int .i64 0) ∧ W.cell? ⟨w18.heap.size + 1 + 1, 2, none⟩ = some (.string ⟨#[]⟩) ∧ W.cell? ⟨w18.heap.size + 1 + 1, 3, none⟩ = some (.slice (some ⟨w18.heap.size + 1, 0, none⟩) 2 2) ∧ Below wE.heap.size wE W)
    (first | (exact CL.out _ (by assumption)) | (exact CL.out _ (Below.drew (by assumption))))
    (first
      | (go_at_call 18; refine (KN.out _ (OF.out _ (by assumption))).mono ?_; rintro e w7 ⟨rfl, hb7⟩)
      | (go_at_call 17; refine (KS.out _ (OF.out _ (by assumption))).mono ?_; rintro e w7 ⟨rfl, hb7⟩)
      | (go_at_call 12; refine (KC.out _ (OF.out _ (by assumption))).mono ?_; rintro e w7 ⟨rfl, hb7⟩))
  all_goals
    go_wp2
    go_ret
    exact ⟨rfl, HCE.out.trans ((OF.out _ (by assumption)).mono HCE.out.size)⟩
end Go.Proofs.YtpejhilfopjckaaDoor.Hp

/-
What the laws' proofs of layer 8 share beside their walks: the table of what is reckoned out of the row's condition; the start of the witness; arguments that are data; an argument behind a call that has made memory.
-/
namespace Go.Proofs.YtpejhilfopjckaaDoor
open Go.ChangeShapes Go.WideShapes Go.ChangeAt Go.WideMaps Go.WideElems Go.RowKit
set_option maxRecDepth 100000

theorem own : ownKnob Tryd.prog.godebug = none := by kernel_rfl
theorem laidOut : laidOutB Tryd.prog = true := by kernel_rfl
/-- The listed variables, as every row of this seat lists them. -/
def laid8 : List (String × DataW Unit) := Rows.heapedTellsRow.laid
/-- An array of strings that reads as the table holds the table's strings, cell for cell. -/
theorem cells_of_strs {H : Type} {enc : TypeId × Value → H} {P : Program} {w : World} {base : Nat} {sp : Nat → Bool} {held : Bool} {fuel : Nat} {t e : TypeId} {n : Nat} {cs : List Value} {zs : List (List UInt8)} {p : List MemPlace}
    (ht : P.underlying t = some (.array n e)) (he : P.underlying e = some .string) (hce : P.cellsOf e = 1) (hct : P.cellsOf t = n)
    (h : DataW.trod enc P w base sp held fuel t cs = some (.agg (zs.map fun z => .lit (.string z)), p)) : cs = zs.map fun z => Value.string ⟨z.toArray⟩ := by
  cases fuel with
  | zero => simp [DataW.trod] at h
  | succ fuel =>
    simp only [DataW.trod, ht, hce, hct, Nat.mul_one] at h
    split at h
    · rename_i hl
      obtain ⟨xs, hm, hx⟩ := Option.map_eq_some_iff.1 h
      have hxs : xs.map (·.1) = zs.map fun z => (DataW.lit (.string z) : DataW H) := by
        have := congrArg Prod.fst hx
        simpa using this
      have hxl : xs.length = n := by simpa using Lib.mapM_length hm
      have hzl : zs.length = n := by
        have := congrArg List.length hxs
        simp at this
        omega
      apply List.ext_getElem?
      intro i
      by_cases hi : i < n
      · obtain ⟨b, hb, hf⟩ := Lib.mapM_at hm i i (by simp [hi])
        obtain ⟨z, hc, rfl, _⟩ := DataW.trod_string he hf
        have h1 : cs[i]? = some (.string z) := by
          have := congrArg (·[0]?) hc
          simpa [List.getElem?_take, List.getElem?_drop] using this
        have h2 : (xs.map (·.1))[i]? = some (DataW.lit (.string z.data.toList) : DataW H) := by simp [hb]
        rw [hxs] at h2
        simp only [List.getElem?_map, Option.map_eq_some_iff, DataW.lit.injEq, Lit.string.injEq] at h2
        obtain ⟨z', hz', rfl⟩ := h2
        simp [h1, hz']
      · rw [List.getElem?_eq_none (by omega), List.getElem?_eq_none (by simp; omega)]
    · cases h
theorem rec_global : Tryd.prog.globalNamed "scrimshaw/heap.reckoning" = some 0 := by kernel_rfl
theorem rec_type : (Tryd.prog.globals[0]?).map (·.type) = some 122 := by kernel_rfl
theorem recOk_of_laid {W : World} (h : laidMetH Tryd.prog laid8 W) : Hp.RecOk W := by
  rw [MakeChecks.laidMetH_plain _ _ _ (by kernel_rfl)] at h
  obtain ⟨ps, ⟨g0, t0, cs0, f0, p0, q0, hg0, ht0, hv0, hd0, _, _⟩, _⟩ := h
  obtain rfl := Option.some.inj (rec_global.symm.trans hg0)
  obtain rfl := Option.some.inj (rec_type.symm.trans ht0)
  have hcs := cells_of_strs (zs := [[43], [45], [42], [113, 117, 111, 116, 105, 101, 110, 116], [114, 101, 109, 97, 105, 110, 100, 101, 114]]) Tryd.underlying122 Tryd.underlying9 (by kernel_rfl) (by kernel_rfl) hd0
  simp only [World.var?] at hv0
  erw [rec_global] at hv0
  simp only [Option.bind_some] at hv0
  split at hv0
  · rename_i c T fr hb
    simp only [Option.some.injEq] at hv0
    subst hv0
    have hc2 : c = #[.string ⟨#[43]⟩, .string ⟨#[45]⟩, .string ⟨#[42]⟩, .string ⟨#[113, 117, 111, 116, 105, 101, 110, 116]⟩, .string ⟨#[114, 101, 109, 97, 105, 110, 100, 101, 114]⟩] := Array.ext' hcs
    exact ⟨T, fr, by rw [hb, hc2]⟩
  · cases hv0
/-- The witness' own heap meets the condition. -/
theorem door_met (os : Os) (args : Array Value) : laidMetH Tryd.prog laid8 ((World.laidAll Tryd.prog os laid8).forCall (fun _ _ => 0) ⟨#[], args, []⟩).memory := by
  rw [MakeChecks.laidMetH_plain _ _ _ (by kernel_rfl)]
  exact laidMet_laidAll _ (by kernel_rfl) (by kernel_rfl)
/-- An argument reads behind the call as it did before. -/
theorem arg_stays {H : Type} {enc : TypeId × Value → H} {t : TypeId} (hr : Tryd.prog.readableRec t = true) (hrow : t < Tryd.prog.types.size) {W W' : World} {v : Value} {d : DataW H} {ps : List MemPlace}
    (h : DataW.Trod enc Tryd.prog W 0 (fun _ => true) true t v d ps) (hb : Below W.heap.size W W') (hlt : ∀ x ∈ ps, x.block < W.heap.size) (sp : Nat → Bool) (hsp : ∀ x ∈ ps, sp x.block = true) :
    DataW.Trod enc Tryd.prog W' 0 sp true t v d ps :=
  WideElems.Trod_stays laidOut hr hrow h (fun x hx => hb.same (hlt x hx)) hsp
section
variable {H : Type} {enc : TypeId × Value → H} {w : World} {spare : Nat → Bool} {held : Bool} {r : Reach} {b0 : Nat}
end
end Go.Proofs.YtpejhilfopjckaaDoor

/-
A row of values that is an argument; append of one to a fresh row. No condition.
-/
namespace Go.Proofs.YtpejhilfopjckaaDoor.Hp
open Go.ChangeShapes Go.WideShapes Go.ChangeAt Go.RowKit Go.Deep
open Dat (PT ok64 RepV RepS RowX infoDatum NewV NewS makeT make_any MakeOk numT numsT)
set_option maxRecDepth 100000

theorem vat_mk {w : World} {b : Nat} : ∀ (l : List PV) {o : Nat}, (∀ (j : Nat) (h : j < l.length), w.cell? ⟨b, o + j * 3, none⟩ = some (.int .i64 l[j].k) ∧ w.cell? ⟨b, o + j * 3 + 1, none⟩ = some (.int .i64 l[j].i) ∧ w.cell? ⟨b, o + j * 3 + 2, none⟩ = some (.string l[j].s) ∧ okV l[j]) → VAt w l b o
  | [], o, _ => ⟨fun j u h => by simp [vCells] at h, fun v h => by cases h⟩
  | v :: l, o, h => by
    have ih := vat_mk (w := w) (b := b) l (o := o + 3) (fun j hj => by
      have := h (j + 1) (by simpa using hj)
      rw [show o + (j + 1) * 3 = o + 3 + j * 3 by omega] at this
      simpa using this)
    have h0 := h 0 (by simp)
    simp only [Nat.zero_mul, Nat.add_zero, List.getElem_cons_zero] at h0
    refine ⟨fun j u hj => ?_, fun x hx => ?_⟩
    · match j with
      | 0 => simp [vCells] at hj; subst hj; exact h0.1
      | 1 => simp [vCells] at hj; subst hj; exact h0.2.1
      | 2 => simp [vCells] at hj; subst hj; exact h0.2.2.1
      | j + 3 =>
        simp only [vCells, List.getElem?_cons_succ] at hj
        have := ih.1 j u hj
        rwa [show o + 3 + j = o + (j + 3) by omega] at this
    · rcases List.mem_cons.1 hx with rfl | hx
      · exact h0.2.2.2
      · exact ih.2 x hx
section
variable {H : Type} {enc : TypeId × Value → H} {w : World} {spare : Nat → Bool} {held : Bool} {r : Reach} {b0 : Nat}
theorem cv : Tryd.prog.cellsOf 36 = 3 := by kernel_rfl
theorem cv_0 : Tryd.prog.cellsOf 3 = 1 := by kernel_rfl
theorem cv_1 : Tryd.prog.cellsOf 9 = 1 := by kernel_rfl
theorem open_val {n : Nat} {cs : List Value} {x : DataW H × List MemPlace} (h : DataW.trod enc Tryd.prog w 0 spare held n 36 cs = some x) : ∃ t : PV, cs = [.int .i64 t.k, .int .i64 t.i, .string t.s] ∧ okV t := by
  obtain ⟨xs, m, rfl, _, hcl, hxl, hf⟩ := DataW.trod_struct Tryd.underlying36 h
  rw [cv] at hcl
  match xs, hxl, cs, hcl with
  | [y0, y1, y2], _, [v0, v1, v2], _ =>
    have g0 := hf 0 _ rfl
    have g1 := hf 1 _ rfl
    have g2 := hf 2 _ rfl
    change DataW.trod enc Tryd.prog w 0 spare held m 3 (List.take (Tryd.prog.cellsOf 3) [v0, v1, v2]) = some y0 at g0
    change DataW.trod enc Tryd.prog w 0 spare held m 3 (List.take (Tryd.prog.cellsOf 3) [v1, v2]) = some y1 at g1
    change DataW.trod enc Tryd.prog w 0 spare held m 9 (List.take (Tryd.prog.cellsOf 9) [v2]) = some y2 at g2
    rw [cv_0] at g0 g1
    rw [cv_1] at g2
    simp only [List.take_succ_cons, List.take_zero] at g0 g1 g2
    obtain ⟨k, e0, _, w0⟩ := DataW.trod_int Tryd.underlying3 g0
    obtain ⟨i, e1, _, w1⟩ := DataW.trod_int Tryd.underlying3 g1
    obtain ⟨s, e2, _, w2⟩ := DataW.trod_string Tryd.underlying9 g2
    simp only [List.cons.injEq, and_true] at e0 e1 e2
    subst e0 e1 e2
    exact ⟨⟨k, i, s⟩, rfl, Dat.ok64_of w0, Dat.ok64_of w1, w2⟩
theorem open_vals {n : Nat} {cs : List Value} {x : DataW H × List MemPlace} (h : DataW.trod enc Tryd.prog w 0 spare held n 30 cs = some x) : ∃ v l, cs = [v] ∧ InP w (· < w.heap.size) l v := by
  rcases DataW.trod_slice Tryd.underlying30 h with ⟨rfl, _⟩ | ⟨⟨b, o, spot⟩, len, cap, elems, rest, m, rfl, rfl, rfl, _, hl, hm, hlen, hel, _, _⟩
  · exact ⟨_, [], rfl, none, 0, rfl, Nat.le_refl _, Nat.zero_le _, fun _ => rfl, .inl rfl⟩
  rw [cv] at hel
  by_cases h0 : len = 0
  · obtain rfl : elems = [] := List.length_eq_zero_iff.1 (hlen.trans h0)
    subst h0
    exact ⟨_, [], rfl, some _, cap, rfl, Nat.zero_le _, hm, (fun h => by cases h), .inl rfl⟩
  have hs : spot = none := by
    have he := hel 0 (by omega)
    rw [List.getElem?_eq_getElem (by omega), Option.bind_eq_some_iff] at he
    obtain ⟨cs', hc, ht⟩ := he
    obtain ⟨_, hcl, hat⟩ := World.cells?_some hc
    obtain ⟨t, rfl, _⟩ := open_val ht
    have a0 := hat 0 (by decide)
    simpa [Addr.add] using World.cell?_spot a0
  subst hs
  have each : ∀ i, i < len → ∃ t : PV, b < w.heap.size ∧ w.cell? ⟨b, o + i * 3, none⟩ = some (.int .i64 t.k) ∧ w.cell? ⟨b, o + i * 3 + 1, none⟩ = some (.int .i64 t.i) ∧ w.cell? ⟨b, o + i * 3 + 2, none⟩ = some (.string t.s) ∧ okV t := by
    intro i hi
    have he := hel i hi
    rw [List.getElem?_eq_getElem (by omega), Option.bind_eq_some_iff] at he
    obtain ⟨cs', hc, ht⟩ := he
    obtain ⟨_, hcl, hat⟩ := World.cells?_some hc
    obtain ⟨t, rfl, ok⟩ := open_val ht
    have a0 := hat 0 (by decide)
    have a1 := hat 1 (by decide)
    have a2 := hat 2 (by decide)
    simp only [add_plain, List.getElem?_cons_zero, List.getElem?_cons_succ] at a0 a1 a2
    exact ⟨t, World.block_lt_of_cell? _ _ a0, a0, a1, a2, ok⟩
  obtain ⟨_, hb, _⟩ := each 0 (by omega)
  obtain ⟨f, hf⟩ : ∃ f : Nat → PV, ∀ i, i < len → w.cell? ⟨b, o + i * 3, none⟩ = some (.int .i64 (f i).k) ∧ w.cell? ⟨b, o + i * 3 + 1, none⟩ = some (.int .i64 (f i).i) ∧ w.cell? ⟨b, o + i * 3 + 2, none⟩ = some (.string (f i).s) ∧ okV (f i) :=
    ⟨fun i => if hi : i < len then (each i hi).choose else ⟨0, 0, ⟨#[]⟩⟩, fun i hi => by
      have := (each i hi).choose_spec.2
      simpa [hi] using this⟩
  refine ⟨_, (List.range len).map f, rfl, some ⟨b, o, none⟩, cap, by simp, by simpa using hl, hm, (fun h => by cases h), .inr ⟨b, o, rfl, hb, vat_mk _ fun j hj => ?_⟩⟩
  simp at hj
  simpa using hf j hj
end
theorem wpList_append_vals {ops : Array Oper} {rest : List Oper} {o : Oper} {a : Act} {w : World} {Q : Exit → Act → World → Prop} (hgd : o.guard = none) (s x : Operand)
    (ho : o.op = .call { callee := .builtin .append, args := #[s, x], argTypes := #[30, 30] }) (base : Nat) (S : Nat → Prop) (m : List PV) (v u : Value) (hs : a.eval s = v) (hx : a.eval x = u)
    (hown : w.ownsRow base 36 3 v 0 []) (hm : InP w S m u) (hlen : m.length ≤ 4398046511104) (hbase : base ≤ w.heap.size)
    (h : ∀ v' w', w'.ownsRow base 36 3 v' m.length (vCells m) → Below base w w' → wpList Tryd.prog ops Q rest (a.put o.dst v') w') : wpList Tryd.prog ops Q (o :: rest) a w := by
  obtain ⟨i0, hi, hz0, hz1, hz2⟩ := info_parts infoVal
  obtain ⟨ad, c, rfl, hlc, hcm, hna, hr⟩ := hm
  have hlow : ∀ k, v.ownBlock = some k → base ≤ k := fun k hk => (hown.lt k hk).1
  refine wpList_plain hgd fun K hK => ?_
  match ad with
  | none =>
    obtain rfl := hna rfl
    obtain rfl : m = [] := by
      rcases hr with hr | ⟨_, _, e, _⟩
      · exact hr
      · cases e
    refine Lib.wp_append_run w s x 30 30 ho v _ hs hx _ _ (run_append_owned_none (P := Tryd.prog) (w := w) base 30 o.type 36 i0 3 Tryd.underlying30 hi v 0 [] hown) ?_
    exact hK _ _ (h v w hown (Below.refl _ _))
  | some ad =>
    refine wp_append_own w s x 30 ho base 36 i0 _ 3 32 Tryd.underlying30 hi hz0 hz1 hz2 rfl (by decide) v 0 [] hs hown ad m.length c (vCells m) hx (vCells_len m) (fun j u hj => ?_) (vCells_one m) (by unfold maxLen; omega) (by omega) hbase ?_
    · rcases hr with rfl | ⟨b, o, e, _, hv⟩
      · simp [vCells] at hj
      · cases e
        rw [add_plain]
        exact hv.1 j u hj
    · intro v' w' h1 h2 _
      exact hK _ _ (h v' w' (by simpa using h1) ((Below.refl base w).grown h2 hbase hlow))
end Go.Proofs.YtpejhilfopjckaaDoor.Hp
