/-
The fixed calls of layer 8's laws. Where the table of what is reckoned is as the program lays it.
-/
import Derived.Test.YtlolkhnaaelelaaDoorQ19
namespace Go.Proofs.YtlolkhnaaelelaaDoor.Hp
open Go.ChangeShapes Go.WideShapes Go.ChangeAt Go.RowKit Go.Deep
open Dat (PT ok64 RepV RepS RowX infoDatum NewV NewS makeT make_any MakeOk numT numsT)
set_option maxRecDepth 100000

/-- How things stand for a caller who began at w: a heap of his own. -/
def Ctx (w : World) (hb : Nat) (T : List (Int × List PV)) (F : Nat → Prop) (W : World) : Prop := HeapM W hb T F ∧ (∀ b, F b → w.heap.size ≤ b ∧ b < W.heap.size) ∧ Below w.heap.size w W
theorem Ctx.below {w W W' : World} {hb : Nat} {T : List (Int × List PV)} {F : Nat → Prop} (h : Ctx w hb T F W) (hb' : Below W.heap.size W W') : Ctx w hb T F W' :=
  ⟨h.1.below hb', fun b hb => ⟨(h.2.1 b hb).1, Nat.lt_of_lt_of_le (h.2.1 b hb).2 hb'.size⟩, h.2.2.trans (hb'.mono h.2.2.size)⟩
/-- A block of the caller's own. -/
def Loc (F : Nat → Prop) (W : World) (R : Nat) (o : Obj) : Prop := W.heap[R]? = some o ∧ ¬ F R
theorem Loc.below {W W' : World} {F : Nat → Prop} {R : Nat} {o : Obj} (h : Loc F W R o) (hb : Below W.heap.size W W') : Loc F W' R o := ⟨(hb.block R (lt_of_block h.1)).trans h.1, h.2⟩
theorem Ctx.loc {w W : World} {hb : Nat} {T : List (Int × List PV)} {F : Nat → Prop} (h : Ctx w hb T F W) (o : Obj) : Loc F (W.alloc o) W.heap.size o := ⟨heap_alloc_new W o, fun hf => by have := (h.2.1 _ hf).2; omega⟩
theorem Ctx.use {w W w' : World} {hb : Nat} {T T' : List (Int × List PV)} {F : Nat → Prop} {u : PV} {err : Int} {e : Ending} (h : Ctx w hb T F W) (hd : DoOk W hb F u err T' e w') :
    e = VE u err ∧ ∃ F', Ctx w hb T' F' w' ∧ W.heap.size ≤ w'.heap.size ∧ ∀ R o, Loc F W R o → Loc F' w' R o := by
  obtain ⟨h1, F', h2, h3, h4, h5⟩ := hd.use h.2.1 h.2.2.size
  refine ⟨h1, F', ⟨h2, h3, h.2.2.trans h4⟩, ?_, fun R o hl => ?_⟩
  · obtain ⟨_, _, _, hs⟩ := hd; exact hs.1.1.size
  · obtain ⟨a, b⟩ := h5 R (lt_of_block hl.1) hl.2
    exact ⟨b.trans hl.1, a⟩
theorem Ctx.lt {w W : World} {hb : Nat} {T : List (Int × List PV)} {F : Nat → Prop} (h : Ctx w hb T F W) : ∀ b, F b → b < W.heap.size := fun b hb => (h.2.1 b hb).2
theorem Ctx.rec {w W : World} {hb : Nat} {T : List (Int × List PV)} {F : Nat → Prop} (h : Ctx w hb T F W) (hR : RecOk w) : RecOk W := hR.at h.2.2
theorem al (W : World) (o : Obj) : Below W.heap.size W (W.alloc o) := (Below.refl _ _).alloc (Nat.le_refl _) o
theorem ok_num {n : Int} (h0 : -9223372036854775808 ≤ n) (h1 : n ≤ 9223372036854775807) (k : Int) (hk0 : 0 ≤ k) (hk1 : k ≤ 8) : okV ⟨k, n, ⟨#[]⟩⟩ := ⟨⟨by show _ ≤ k; omega, by show k ≤ _; omega⟩, ⟨h0, h1⟩, (by decide : (⟨#[]⟩ : ByteArray).size ≤ maxLen)⟩
set_option maxHeartbeats 2000000 in
theorem fixed_any (w : World) (hR : RecOk w) : Calls Tryd.prog 7 #[] w fun e w' => e = .returned (.bool true) ∧ Below w.heap.size w w' := by
  have HR := Lib.hid hR
  clear hR
  go_enter Tryd.func7, Tryd.ntmps7
  go_wp2_with fail
  refine (new_any _).mono ?_
  rintro e w1 ⟨rfl, h1, hb1, hlt1⟩
  have C1 : Hid (Ctx w w.heap.size [] (· = w.heap.size) w1) := Lib.hid ⟨h1, fun b e => ⟨by omega, by omega⟩, hb1⟩
  clear h1 hb1 hlt1
  -- cons
  go_wp2_with fail
  refine (num_any 1 _).mono ?_
  rintro e w2 ⟨rfl, hb2⟩
  have C2 := Lib.hid (C1.out.below hb2)
  clear hb2 C1
  go_wp2_with fail
  refine (num_any 2 _).mono ?_
  rintro e w3 ⟨rfl, hb3⟩
  have C3 := Lib.hid (C2.out.below hb3)
  clear hb3 C2
  have KC := Lib.hid (do_cons ⟨1, 1, ⟨#[]⟩⟩ ⟨1, 2, ⟨#[]⟩⟩ ((C3.out.below (al w3 (.cells #[.int .i64 1, .int .i64 1, .string ⟨#[]⟩, .int .i64 1, .int .i64 2, .string ⟨#[]⟩] 36))).rec HR.out) (C3.out.below (al w3 _)).1 (C3.out.below (al w3 _)).lt (lit_inP (l := [⟨1, 1, ⟨#[]⟩⟩, ⟨1, 2, ⟨#[]⟩⟩]) (heap_alloc_new w3 _) (by intro v hv; simp only [List.mem_cons, List.not_mem_nil, or_false] at hv; rcases hv with rfl | rfl <;> exact ok_num (by decide) (by decide) 1 (by decide) (by decide)) (by decide)) (has_num (by decide) (by decide)) (has_num (by decide) (by decide)) (by decide))
  have C4 := Lib.hid (C3.out.below (al w3 (.cells #[.int .i64 1, .int .i64 1, .string ⟨#[]⟩, .int .i64 1, .int .i64 2, .string ⟨#[]⟩] 36)))
  clear C3
  go_wp2_with fail
  refine KC.out.mono ?_
  rintro e w5 hd
  obtain ⟨rfl, F5, c5, s5, l5⟩ := C4.out.use hd
  have C5 : Hid (Ctx w w.heap.size [(0, [⟨1, 1, ⟨#[]⟩⟩, ⟨1, 2, ⟨#[]⟩⟩])] F5 w5) := Lib.hid c5
  clear hd c5 s5 l5 C4 KC
  -- car of it
  have LP := Lib.hid (C5.out.loc (.cells #[.int .i64 8, .int .i64 0, .string ⟨#[]⟩] 36))
  have C6 := Lib.hid (C5.out.below (al w5 (.cells #[.int .i64 8, .int .i64 0, .string ⟨#[]⟩] 36)))
  have C7 := Lib.hid (C6.out.below (al (w5.alloc (.cells #[.int .i64 8, .int .i64 0, .string ⟨#[]⟩] 36)) (.cells #[.int .i64 8, .int .i64 0, .string ⟨#[]⟩] 36)))
  have LP7 := Lib.hid (LP.out.below (al (w5.alloc (.cells #[.int .i64 8, .int .i64 0, .string ⟨#[]⟩] 36)) (.cells #[.int .i64 8, .int .i64 0, .string ⟨#[]⟩] 36)))
  have hv0 : hasB 1 ⟨8, 0, ⟨#[]⟩⟩ = true := by simp [hasB, numB]
  have KC := Lib.hid (do_car 0 ⟨#[]⟩ ⟨1, 1, ⟨#[]⟩⟩ [⟨1, 2, ⟨#[]⟩⟩] C7.out.1 C7.out.lt (lit_inP (l := [⟨8, 0, ⟨#[]⟩⟩]) (heap_alloc_new _ _) (by intro v hv; simp only [List.mem_cons, List.not_mem_nil, or_false] at hv; rcases hv with rfl; exact ok_num (by decide) (by decide) 8 (by decide) (by decide)) (by decide)) hv0 (by decide) rfl)
  rw [size_new] at KC
  clear C6 LP
  unfold VE
  go_wp2_with fail
  generalize (w5.alloc (.cells #[.int .i64 8, .int .i64 0, .string ⟨#[]⟩] 36)).alloc (.cells #[.int .i64 8, .int .i64 0, .string ⟨#[]⟩] 36) = w7 at *
  refine KC.out.mono ?_
  rintro e w8 hd
  obtain ⟨rfl, F8, c8, s8, l8⟩ := C7.out.use hd
  have C8 := Lib.hid c8
  have LP8 := Lib.hid (l8 _ _ LP7.out)
  clear hd c8 s8 l8 C7 LP7 KC
  -- the quotient
  have LA := Lib.hid (C8.out.loc (.cells #[.int .i64 1, .int .i64 1, .string ⟨#[]⟩] 36))
  have C9 := Lib.hid (C8.out.below (al w8 (.cells #[.int .i64 1, .int .i64 1, .string ⟨#[]⟩] 36)))
  have LP9 := Lib.hid (LP8.out.below (al w8 (.cells #[.int .i64 1, .int .i64 1, .string ⟨#[]⟩] 36)))
  clear LP8 C8
  unfold VE
  go_wp2_with fail
  generalize w8.alloc (.cells #[.int .i64 1, .int .i64 1, .string ⟨#[]⟩] 36) = w9 at *
  refine (num_any 7 _).mono ?_
  rintro e w10 ⟨rfl, hb10⟩
  have C10 := Lib.hid (C9.out.below hb10)
  have LP10 := Lib.hid (LP9.out.below hb10)
  have LA10 := Lib.hid (LA.out.below hb10)
  clear hb10 C9 LP9 LA
  go_wp2_with fail
  refine (num_any 0 _).mono ?_
  rintro e w11 ⟨rfl, hb11⟩
  have C11 := Lib.hid (C10.out.below hb11)
  have LP11 := Lib.hid (LP10.out.below hb11)
  have LA11 := Lib.hid (LA10.out.below hb11)
  clear hb11 C10 LP10 LA10
  have C12 := Lib.hid (C11.out.below (al w11 (.cells #[.int .i64 1, .int .i64 7, .string ⟨#[]⟩, .int .i64 1, .int .i64 0, .string ⟨#[]⟩] 36)))
  have LP12 := Lib.hid (LP11.out.below (al w11 (.cells #[.int .i64 1, .int .i64 7, .string ⟨#[]⟩, .int .i64 1, .int .i64 0, .string ⟨#[]⟩] 36)))
  have LA12 := Lib.hid (LA11.out.below (al w11 (.cells #[.int .i64 1, .int .i64 7, .string ⟨#[]⟩, .int .i64 1, .int .i64 0, .string ⟨#[]⟩] 36)))
  have KQ := Lib.hid (do_quo_zero (C12.out.rec HR.out) C12.out.1 C12.out.lt (lit_inP (l := [⟨1, 7, ⟨#[]⟩⟩, ⟨1, 0, ⟨#[]⟩⟩]) (heap_alloc_new w11 _) (by intro v hv; simp only [List.mem_cons, List.not_mem_nil, or_false] at hv; rcases hv with rfl | rfl <;> exact ok_num (by decide) (by decide) 1 (by decide) (by decide)) (by decide)))
  clear C11 LP11 LA11
  go_wp2_with fail
  generalize w11.alloc (.cells #[.int .i64 1, .int .i64 7, .string ⟨#[]⟩, .int .i64 1, .int .i64 0, .string ⟨#[]⟩] 36) = w12 at *
  refine KQ.out.mono ?_
  rintro e w13 hd
  obtain ⟨rfl, F13, c13, s13, l13⟩ := C12.out.use hd
  have LP13 := Lib.hid (l13 _ _ LP12.out)
  have LA13 := Lib.hid (l13 _ _ LA12.out)
  have C13 := Lib.hid c13
  clear hd c13 s13 l13 C12 LP12 LA12 KQ
  -- car of no thing
  have C14 := Lib.hid (C13.out.below (al w13 (.cells #[.int .i64 0, .int .i64 0, .string ⟨#[]⟩] 36)))
  have LP14 := Lib.hid (LP13.out.below (al w13 (.cells #[.int .i64 0, .int .i64 0, .string ⟨#[]⟩] 36)))
  have LA14 := Lib.hid (LA13.out.below (al w13 (.cells #[.int .i64 0, .int .i64 0, .string ⟨#[]⟩] 36)))
  clear C13 LP13 LA13
  have C15 := Lib.hid (C14.out.below (al (w13.alloc (.cells #[.int .i64 0, .int .i64 0, .string ⟨#[]⟩] 36)) (.cells #[.int .i64 8, .int .i64 9, .string ⟨#[]⟩] 36)))
  have LP15 := Lib.hid (LP14.out.below (al (w13.alloc (.cells #[.int .i64 0, .int .i64 0, .string ⟨#[]⟩] 36)) (.cells #[.int .i64 8, .int .i64 9, .string ⟨#[]⟩] 36)))
  have LA15 := Lib.hid (LA14.out.below (al (w13.alloc (.cells #[.int .i64 0, .int .i64 0, .string ⟨#[]⟩] 36)) (.cells #[.int .i64 8, .int .i64 9, .string ⟨#[]⟩] 36)))
  have hv9 : hasB 1 ⟨8, 9, ⟨#[]⟩⟩ = false := by simp [hasB, numB]
  have KB := Lib.hid (do_car_bad ⟨8, 9, ⟨#[]⟩⟩ C15.out.1 C15.out.lt (lit_inP (l := [⟨8, 9, ⟨#[]⟩⟩]) (heap_alloc_new _ _) (by intro v hv; simp only [List.mem_cons, List.not_mem_nil, or_false] at hv; rcases hv with rfl; exact ok_num (by decide) (by decide) 8 (by decide) (by decide)) (by decide)) hv9)
  rw [size_new] at KB
  clear C14 LP14 LA14 hv9
  unfold VE
  go_wp2_with fail
  generalize (w13.alloc (.cells #[.int .i64 0, .int .i64 0, .string ⟨#[]⟩] 36)).alloc (.cells #[.int .i64 8, .int .i64 9, .string ⟨#[]⟩] 36) = w15 at *
  refine KB.out.mono ?_
  rintro e w16 hd
  obtain ⟨rfl, F16, c16, s16, l16⟩ := C15.out.use hd
  have LP16 := Lib.hid (l16 _ _ LP15.out)
  have LA16 := Lib.hid (l16 _ _ LA15.out)
  have C16 := Lib.hid c16
  clear hd c16 s16 l16 C15 LP15 LA15 KB
  -- what the pair shows
  have C17 := Lib.hid (C16.out.below (al w16 (.cells #[.int .i64 0, .int .i64 0, .string ⟨#[]⟩] 36)))
  have LP17 := Lib.hid (LP16.out.below (al w16 (.cells #[.int .i64 0, .int .i64 0, .string ⟨#[]⟩] 36)))
  have LA17 := Lib.hid (LA16.out.below (al w16 (.cells #[.int .i64 0, .int .i64 0, .string ⟨#[]⟩] 36)))
  clear C16 LP16 LA16
  obtain ⟨⟨p0, p1, p2⟩, -⟩ := look3 LP17.out.1
  have hD : TellR [(0, [⟨1, 1, ⟨#[]⟩⟩, ⟨1, 2, ⟨#[]⟩⟩])] 0 ⟨8, 0, ⟨#[]⟩⟩ (makeT [shownT ⟨1, 1, ⟨#[]⟩⟩] (shownT ⟨1, 2, ⟨#[]⟩⟩)) (1 + (1 + 1)) :=
    .pair 0 0 ⟨#[]⟩ ⟨1, 1, ⟨#[]⟩⟩ ⟨1, 2, ⟨#[]⟩⟩ _ _ 1 1 (by decide) (by decide) rfl (.leaf 1 _ (by decide) (by decide) (by decide) (ok_num (by decide) (by decide) 1 (by decide) (by decide))) (.leaf 0 _ (by decide) (by decide) (by decide) (ok_num (by decide) (by decide) 1 (by decide) (by decide)))
  have eD : makeT [shownT ⟨1, 1, ⟨#[]⟩⟩] (shownT ⟨1, 2, ⟨#[]⟩⟩) = .mk 6 0 ⟨#[]⟩ [.mk 1 1 ⟨#[]⟩ [], .mk 1 2 ⟨#[]⟩ []] := by simp [makeT, shownT]
  rw [eD] at hD
  have KT := Lib.hid (tell_any 8 0 ⟨#[]⟩ _ _ _ _ F16 _ C17.out.1 C17.out.lt (by decide) hv0 hD (by decide))
  clear hD eD hv0
  unfold VE
  go_wp2_with fail
  generalize w16.alloc (.cells #[.int .i64 0, .int .i64 0, .string ⟨#[]⟩] 36) = w17 at *
  refine KT.out.mono ?_
  rintro e w18 ⟨⟨x, he, hx⟩, hb18⟩
  have hx' := hx
  obtain ⟨xa, xc, hxe, _⟩ := hx.2.2.2
  subst hxe
  change e = .returned (.tuple #[.agg #[.int .i64 6, .int .i64 0, .string ⟨#[]⟩, .slice xa 2 xc], .bool true]) at he
  subst he
  have C18 := Lib.hid (C17.out.below hb18)
  have LP18 := Lib.hid (LP17.out.below hb18)
  have LA18 := Lib.hid (LA17.out.below hb18)
  have X18 := Lib.hid hx'
  clear hx hx' hb18 C17 LP17 LA17 KT p0 p1 p2
  -- what is wanted of it, and all answers
  obtain ⟨e0, e1, e2, eB⟩ := three_new w18 (.cells #[.int .i64 6, .int .i64 0, .string ⟨#[]⟩, .slice xa 2 xc] 50) (.cells #[.int .i64 1, .int .i64 1, .string ⟨#[]⟩, .slice none 0 0, .int .i64 1, .int .i64 2, .string ⟨#[]⟩, .slice none 0 0] 50) (.cells #[.int .i64 6, .int .i64 0, .string ⟨#[]⟩, .slice (some ⟨w18.heap.size + 1, 0, none⟩) 2 2] 50)
  have CE := Lib.hid (C18.out.below eB)
  have LPE := Lib.hid (LP18.out.below eB)
  have LAE := Lib.hid (LA18.out.below eB)
  have E0 := Lib.hid e0
  have E1 := Lib.hid e1
  have E2 := Lib.hid e2
  have EB := Lib.hid eB
  have hsE : (((w18.alloc (.cells #[.int .i64 6, .int .i64 0, .string ⟨#[]⟩, .slice xa 2 xc] 50)).alloc (.cells #[.int .i64 1, .int .i64 1, .string ⟨#[]⟩, .slice none 0 0, .int .i64 1, .int .i64 2, .string ⟨#[]⟩, .slice none 0 0] 50)).alloc (.cells #[.int .i64 6, .int .i64 0, .string ⟨#[]⟩, .slice (some ⟨w18.heap.size + 1, 0, none⟩) 2 2] 50)).heap.size = w18.heap.size + 1 + 1 + 1 := by rw [size_new, size_new, size_new]
  clear e0 e1 e2 eB C18 LP18 LA18
  go_wp2_with fail
  generalize ((w18.alloc (.cells #[.int .i64 6, .int .i64 0, .string ⟨#[]⟩, .slice xa 2 xc] 50)).alloc (.cells #[.int .i64 1, .int .i64 1, .string ⟨#[]⟩, .slice none 0 0, .int .i64 1, .int .i64 2, .string ⟨#[]⟩, .slice none 0 0] 50)).alloc (.cells #[.int .i64 6, .int .i64 0, .string ⟨#[]⟩, .slice (some ⟨w18.heap.size + 1, 0, none⟩) 2 2] 50) = wE at *
  have hl5 := lt_of_block LPE.out.1
  have hl8 := lt_of_block LAE.out.1
  have CL : Hid (∀ W, Below wE.heap.size wE W → W.cell? ⟨w5.heap.size, 0, none⟩ = some (.int .i64 8) ∧ W.cell? ⟨w5.heap.size, 1, none⟩ = some (.int .i64 0) ∧ W.cell? ⟨w5.heap.size, 2, none⟩ = some (.string ⟨#[]⟩) ∧ W.cell? ⟨w8.heap.size, 0, none⟩ = some (.int .i64 1) ∧ W.cell? ⟨w8.heap.size, 1, none⟩ = some (.int .i64 1) ∧ W.cell? ⟨w8.heap.size, 2, none⟩ = some (.string ⟨#[]⟩) ∧ W.cell? ⟨w18.heap.size, 0, none⟩ = some (.int .i64 6) ∧ W.cell? ⟨w18.heap.size, 1, none⟩ = some (.int .i64 0) ∧ W.cell? ⟨w18.heap.size, 2, none⟩ = some (.string ⟨#[]⟩) ∧ W.cell? ⟨w18.heap.size, 3, none⟩ = some (.slice xa 2 xc) ∧ W.cell? ⟨w18.heap.size + 1 + 1, 0, none⟩ = some (.int .i64 6) ∧ W.cell? ⟨w18.heap.size + 1 + 1, 1, none⟩ = some (.int .i64 0) ∧ W.cell? ⟨w18.heap.size + 1 + 1, 2, none⟩ = some (.string ⟨#[]⟩) ∧ W.cell? ⟨w18.heap.size + 1 + 1, 3, none⟩ = some (.slice (some ⟨w18.heap.size + 1, 0, none⟩) 2 2) ∧ Below wE.heap.size wE W) := Lib.hid fun W hb => by
    obtain ⟨⟨p0, p1, p2⟩, -⟩ := look3 ((hb.block _ hl5).trans LPE.out.1)
    obtain ⟨⟨a0, a1, a2⟩, -⟩ := look3 ((hb.block _ hl8).trans LAE.out.1)
    obtain ⟨⟨d0, d1, d2, d3⟩, -⟩ := look4 ((hb.block _ (by omega)).trans E0.out)
    obtain ⟨⟨q0, q1, q2, q3⟩, -⟩ := look4 ((hb.block _ (by omega)).trans E2.out)
    exact ⟨p0, p1, p2, a0, a1, a2, d0, d1, d2, d3, q0, q1, q2, q3, hb⟩
  have OF : Hid (∀ W, (W.cell? ⟨w5.heap.size, 0, none⟩ = some (.int .i64 8) ∧ W.cell? ⟨w5.heap.size, 1, none⟩ = some (.int .i64 0) ∧ W.cell? ⟨w5.heap.size, 2, none⟩ = some (.string ⟨#[]⟩) ∧ W.cell? ⟨w8.heap.size, 0, none⟩ = some (.int .i64 1) ∧ W.cell? ⟨w8.heap.size, 1, none⟩ = some (.int .i64 1) ∧ W.cell? ⟨w8.heap.size, 2, none⟩ = some (.string ⟨#[]⟩) ∧ W.cell? ⟨w18.heap.size, 0, none⟩ = some (.int .i64 6) ∧ W.cell? ⟨w18.heap.size, 1, none⟩ = some (.int .i64 0) ∧ W.cell? ⟨w18.heap.size, 2, none⟩ = some (.string ⟨#[]⟩) ∧ W.cell? ⟨w18.heap.size, 3, none⟩ = some (.slice xa 2 xc) ∧ W.cell? ⟨w18.heap.size + 1 + 1, 0, none⟩ = some (.int .i64 6) ∧ W.cell? ⟨w18.heap.size + 1 + 1, 1, none⟩ = some (.int .i64 0) ∧ W.cell? ⟨w18.heap.size + 1 + 1, 2, none⟩ = some (.string ⟨#[]⟩) ∧ W.cell? ⟨w18.heap.size + 1 + 1, 3, none⟩ = some (.slice (some ⟨w18.heap.size + 1, 0, none⟩) 2 2) ∧ Below wE.heap.size wE W) → Below wE.heap.size wE W) := Lib.hid fun W h => h.2.2.2.2.2.2.2.2.2.2.2.2.2.2
  have KN : Hid (∀ W, Below wE.heap.size wE W → Calls Tryd.prog 19 #[.int .i64 1] W fun e w' => e = .returned (.agg #[.int .i64 1, .int .i64 1, .string ⟨#[]⟩]) ∧ Below wE.heap.size wE w') := Lib.hid fun W hb => (num_any 1 W).mono fun _ _ h => ⟨h.1, hb.trans (h.2.mono hb.size)⟩
  have KS : Hid (∀ W, Below wE.heap.size wE W → Calls Tryd.prog 18 #[.agg #[.int .i64 6, .int .i64 0, .string ⟨#[]⟩, .slice xa 2 xc], .agg #[.int .i64 6, .int .i64 0, .string ⟨#[]⟩, .slice (some ⟨w18.heap.size + 1, 0, none⟩) 2 2]] W fun e w' => e = .returned (.bool true) ∧ Below wE.heap.size wE w') := Lib.hid fun W hb => by
    have B := EB.out.trans (hb.mono EB.out.size)
    have r1 : RepV W W.heap.size (.mk 6 0 ⟨#[]⟩ [.mk 1 1 ⟨#[]⟩ [], .mk 1 2 ⟨#[]⟩ []]) (.slice xa 2 xc) := Dat.RepV.mono (Dat.RepV.below X18.out.rep B (Nat.le_refl _)) B.size
    have r2 : RepV W W.heap.size (.mk 6 0 ⟨#[]⟩ [.mk 1 1 ⟨#[]⟩ [], .mk 1 2 ⟨#[]⟩ []]) (.slice (some ⟨w18.heap.size + 1, 0, none⟩) 2 2) :=
      ⟨⟨by decide, by decide⟩, ⟨by decide, by decide⟩, by decide, Dat.repS_two (by have := hb.size; omega) ((hb.block _ (by omega)).trans E1.out) ⟨⟨by decide, by decide⟩, ⟨by decide, by decide⟩, by decide, Dat.rep_none _ _⟩ ⟨⟨by decide, by decide⟩, ⟨by decide, by decide⟩, by decide, Dat.rep_none _ _⟩⟩
    have := Dat.same_any (.mk 6 0 ⟨#[]⟩ [.mk 1 1 ⟨#[]⟩ [], .mk 1 2 ⟨#[]⟩ []]) (.mk 6 0 ⟨#[]⟩ [.mk 1 1 ⟨#[]⟩ [], .mk 1 2 ⟨#[]⟩ []]) W W.heap.size _ _ r1 r2 (Nat.le_refl _)
    rw [Dat.sameB_refl] at this
    exact this.mono fun _ _ h => ⟨h.1, hb.trans (h.2.mono hb.size)⟩
  have KC : Hid (∀ W, Below wE.heap.size wE W → Calls Tryd.prog 13 #[.pointer (some ⟨w.heap.size, 0, none⟩)] W fun e w' => e = .returned (.int .i64 1) ∧ Below wE.heap.size wE w') := Lib.hid fun W hb => (count_any _ _ _ W (CE.out.below hb).1).mono fun _ _ h => ⟨h.1, h.2 ▸ hb⟩
  have BZ : Below wE.heap.size wE wE := Below.refl _ _
  have HCE := Lib.hid CE.out.2.2
  clear C5 E0 E1 E2 X18 hl5 hl8 hsE LPE LAE
  go_region_held3 (fun W => W.cell? ⟨w5.heap.size, 0, none⟩ = some (.int .i64 8) ∧ W.cell? ⟨w5.heap.size, 1, none⟩ = some (.int .i64 0) ∧ W.cell? ⟨w5.heap.size, 2, none⟩ = some (.string ⟨#[]⟩) ∧ W.cell? ⟨w8.heap.size, 0, none⟩ = some (.int .i64 1) ∧ W.cell? ⟨w8.heap.size, 1, none⟩ = some (.int .i64 1) ∧ W.cell? ⟨w8.heap.size, 2, none⟩ = some (.string ⟨#[]⟩) ∧ W.cell? ⟨w18.heap.size, 0, none⟩ = some (.int .i64 6) ∧ W.cell? ⟨w18.heap.size, 1, none⟩ = some (.int .i64 0) ∧ W.cell? ⟨w18.heap.size, 2, none⟩ = some (.string ⟨#[]⟩) ∧ W.cell? ⟨w18.heap.size, 3, none⟩ = some (.slice xa 2 xc) ∧ W.cell? ⟨w18.heap.size + 1 + 1, 0, none⟩ = some (.int .i64 6) ∧ W.cell? ⟨w18.heap.size + 1 + 1, 1, none⟩ = some (.int .i64 0) ∧ W.cell? ⟨w18.heap.size + 1 + 1, 2, none⟩ = some (.string ⟨#[]⟩) ∧ W.cell? ⟨w18.heap.size + 1 + 1, 3, none⟩ = some (.slice (some ⟨w18.heap.size + 1, 0, none⟩) 2 2) ∧ Below wE.heap.size wE W)
    (first | (exact CL.out _ (by assumption)) | (exact CL.out _ (Below.drew (by assumption))))
    (first
      | (go_at_call 19; refine (KN.out _ (OF.out _ (by assumption))).mono ?_; rintro e w7 ⟨rfl, hb7⟩)
      | (go_at_call 18; refine (KS.out _ (OF.out _ (by assumption))).mono ?_; rintro e w7 ⟨rfl, hb7⟩)
      | (go_at_call 13; refine (KC.out _ (OF.out _ (by assumption))).mono ?_; rintro e w7 ⟨rfl, hb7⟩))
  all_goals
    go_wp2
    go_ret
    exact ⟨rfl, HCE.out.trans ((OF.out _ (by assumption)).mono HCE.out.size)⟩
end Go.Proofs.YtlolkhnaaelelaaDoor.Hp
