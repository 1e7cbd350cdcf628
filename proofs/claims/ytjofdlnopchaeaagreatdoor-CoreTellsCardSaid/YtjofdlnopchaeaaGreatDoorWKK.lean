/-
Texts K60, K61, one behind the other (a claim bears sixty files). Conditions: as each says.
-/
import Derived.Test.YtjofdlnopchaeaaGreatDoorWKJ
import Derived.Test.YtjofdlnopchaeaaGreatDoorWRG
import Derived.Deep.DeepCutAuto
import Derived.Deep.RegionHeld3
import Derived.Deep.DeepMust

/-
Package core's withoutKids: a datum's expression but for kids, and the kids' data. No condition but a bound on rows.
-/
namespace Go.Proofs.YtjofdlnopchaeaaGreatDoor.Core
open Go.ChangeShapes Go.WideShapes Go.ChangeAt Go.RowKit Go.Deep
open Dat (PT ok64 RepV RepS RowX infoDatum)
set_option maxRecDepth 100000
/-- Eight cells of a block at once. -/
theorem look8 {W : World} {g : Nat} {x0 x1 x2 x3 x4 x5 x6 x7 : Value} {ty : TypeId} (hb : W.heap[g]? = some (.cells #[x0, x1, x2, x3, x4, x5, x6, x7] ty)) :
    W.cell? ⟨g, 0, none⟩ = some x0 ∧ W.cell? ⟨g, 1, none⟩ = some x1 ∧ W.cell? ⟨g, 2, none⟩ = some x2 ∧ W.cell? ⟨g, 3, none⟩ = some x3 ∧ W.cell? ⟨g, 4, none⟩ = some x4 ∧ W.cell? ⟨g, 5, none⟩ = some x5 ∧ W.cell? ⟨g, 6, none⟩ = some x6 ∧ W.cell? ⟨g, 7, none⟩ = some x7 := by
  refine ⟨?_, ?_, ?_, ?_, ?_, ?_, ?_, ?_⟩
  all_goals (rw [Lib.cell_of_heap hb]; rfl)
theorem look4c {W : World} {g : Nat} {x0 x1 x2 x3 : Value} {ty : TypeId} (hb : W.heap[g]? = some (.cells #[x0, x1, x2, x3] ty)) :
    W.cell? ⟨g, 0, none⟩ = some x0 ∧ W.cell? ⟨g, 1, none⟩ = some x1 ∧ W.cell? ⟨g, 2, none⟩ = some x2 ∧ W.cell? ⟨g, 3, none⟩ = some x3 := by
  refine ⟨?_, ?_, ?_, ?_⟩
  all_goals (rw [Lib.cell_of_heap hb]; rfl)
theorem free8 {W : World} {g : Nat} {x0 x1 x2 x3 x4 x5 x6 x7 : Value} {ty : TypeId} (hb : W.heap[g]? = some (.cells #[x0, x1, x2, x3, x4, x5, x6, x7] ty)) :
    W.frozen? ⟨g, 0, none⟩ = false ∧ W.frozen? ⟨g, 1, none⟩ = false ∧ W.frozen? ⟨g, 2, none⟩ = false ∧ W.frozen? ⟨g, 3, none⟩ = false ∧ W.frozen? ⟨g, 4, none⟩ = false ∧ W.frozen? ⟨g, 5, none⟩ = false ∧ W.frozen? ⟨g, 6, none⟩ = false ∧ W.frozen? ⟨g, 7, none⟩ = false :=
  ⟨Lib.frozen_of_heap hb 0, Lib.frozen_of_heap hb 1, Lib.frozen_of_heap hb 2, Lib.frozen_of_heap hb 3, Lib.frozen_of_heap hb 4, Lib.frozen_of_heap hb 5, Lib.frozen_of_heap hb 6, Lib.frozen_of_heap hb 7⟩
theorem results_row_two {P : Program} {fn : Func} {t u p : Tmp} {ty : TypeId} (h : fn.results = #[.cell p ty, .tmp t, .tmp u]) (tmps : Array Value) (w : World) (g : Nat) (t' : TypeId) (cs : Array Value) (fr : Nat × Nat) (d : TypeDesc)
    (hp : tmps.getD p undef = .pointer (some ⟨g, 0, none⟩)) (hg : w.heap[g]? = some (.cells cs t' fr))
    (hu : P.underlying ty = some d) (hd : (match d with | .struct _ | .array _ _ => true | _ => false) = true) (hi : (P.info? ty).map (·.size) = some cs.size) :
    (results fn tmps).run P w = .ok (.tuple #[.agg cs, tmps.getD t undef, tmps.getD u undef]) w := by
  have hp' : tmps[p]?.getD undef = .pointer (some ⟨g, 0, none⟩) := by simpa using hp
  simp [results, h, hp', asAddr, run_loadVar_row w g t' ty cs fr d hg hu hd hi]
/-- What withoutKids answers. -/
def HeadIs (C : Nat) (S : Nat → Prop) (d : PT) (e : Ending) (w : World) : Prop :=
  (headT d = none ∧ ∃ k nm a n c u, e = .returned (.tuple #[.agg #[.int .i64 k, .string nm, .slice a n c, .int .i64 0, .int .i64 0, .string ⟨#[]⟩, .slice none 0 0, .slice none 0 0], u, .bool false])) ∨
  ∃ k nm ns ck ci cs kids vn vk, headT d = some (.mk k nm ns (.mk ck ci cs []) [], kids) ∧ e = .returned (.tuple #[.agg #[.int .i64 k, .string nm, vn, .int .i64 ck, .int .i64 ci, .string cs, .slice none 0 0, .slice none 0 0], vk, .bool true]) ∧
    ok64 k ∧ nm.size ≤ maxLen ∧ ok64 ck ∧ ok64 ci ∧ cs.size ≤ maxLen ∧ InN w (fun b => C ≤ b) ns vn ∧ InS w (fun b => S b ∨ C ≤ b) kids vk
/-- What each operation of the fifth statement is known to yield. -/
def R5 (b0 bl ol tn c : Nat) (y sl : Value) (C : Nat) : Nat → Value → World → Prop
  | 0, v, _ => v = .pointer (some ⟨b0, 3, none⟩)
  | 1, v, _ => v = .slice (some ⟨bl, ol, none⟩) tn c
  | 2, v, _ => v = .pointer (some ⟨bl, ol + 4, none⟩)
  | 3, v, _ => v = y
  | 4, v, _ => v = .pointer (some ⟨b0, 3, none⟩)
  | 5, v, _ => v = .slice (some ⟨bl, ol, none⟩) tn c
  | 6, v, _ => v = sl
  | 7, v, W => ∃ g, v = .pointer (some ⟨g, 0, none⟩) ∧ C ≤ g ∧ W.heap[g]? = some (.cells #[.int .i64 0, .int .i64 0, .string ⟨#[]⟩, .slice none 0 0] 25 (0, 0))
  | _, _, _ => True
theorem R5.mono {b0 bl ol tn c : Nat} {y sl : Value} {C : Nat} : ∀ (i : Nat) (v : Value) (W W' : World), R5 b0 bl ol tn c y sl C i v W → Below W.heap.size W W' → R5 b0 bl ol tn c y sl C i v W' := by
  intro i v W W' h hb
  match i, h with
  | 0, h => exact h
  | 1, h => exact h
  | 2, h => exact h
  | 3, h => exact h
  | 4, h => exact h
  | 5, h => exact h
  | 6, h => exact h
  | 7, ⟨g, e, h1, h2⟩ => exact ⟨g, e, h1, (hb.block g (lt_of_block h2)).trans h2⟩
  | n + 8, h => exact trivial
theorem ins_two {w : World} {S : Nat → Prop} {x y : PT} {r : List PT} {b o n c : Nat} (h : InS w S (x :: y :: r) (.slice (some ⟨b, o, none⟩) n c)) : InS w S r (.slice (some ⟨b, o + 8, none⟩) (n - 2) (c - 2)) := by
  obtain ⟨a, c', e, hl, hm, ha, hr⟩ := id h
  cases e
  cases r with
  | nil => exact ⟨_, c - 2, rfl, Nat.zero_le _, by unfold maxLen at hm ⊢; omega, (fun h => by cases h), .inl rfl⟩
  | cons z r =>
    have := InS.dropQ h (q := 2) (by simp)
    simpa using this
/-- .. by the kind. -/
def headK (kd : Nat) (yk yi : Int) (ys : ByteArray) (yl r : List PT) : Option (PE × List PT) :=
  if kd = 0 then some (.mk 0 ⟨#[]⟩ [] (.mk yk yi ys []) [], [])
  else if kd = 2 ∨ kd = 7 then some (.mk (kd : Nat) ys [] PT0 [], r)
  else if kd = 5 then some (.mk 5 ⟨#[]⟩ (yl.map txt) PT0 [], r)
  else if kd = 8 ∨ kd = 9 ∨ kd = 10 then (bindsT yl).map fun x => (.mk (kd : Nat) ⟨#[]⟩ x.1 PT0 [], x.2 ++ r)
  else if kd = 3 ∨ kd = 4 ∨ kd = 6 then some (.mk (kd : Nat) ⟨#[]⟩ [] PT0 [], .mk yk yi ys yl :: r)
  else none
theorem head_more {k i : Int} {s : ByteArray} {xk xi : Int} {xs : ByteArray} {xl : List PT} {yk yi : Int} {ys : ByteArray} {yl r : List PT} (hk : ¬ k = 4) : headT (.mk k i s (.mk xk xi xs xl :: .mk yk yi ys yl :: r)) = headK (kindT xs) yk yi ys yl r := by
  show (if k = 4 then _ else _) = _
  rw [if_neg hk]
  rfl
theorem ins_one {w : World} {S : Nat → Prop} {x y : PT} {r : List PT} {b o n c : Nat} (h : InS w S (x :: y :: r) (.slice (some ⟨b, o, none⟩) n c)) : InS w S (y :: r) (.slice (some ⟨b, o + 4, none⟩) (n - 1) (c - 1)) := by
  obtain ⟨a, c', e, hl, hm, ha, hr⟩ := id h
  cases e
  have := InS.dropQ h (q := 1) (by simp)
  simpa using this
/-- What each operation of the statement that hands on all kids is known to yield. -/
def R23 (b0 bl ol tn c kd : Nat) : Nat → Value → Prop
  | 0, v => v = .int .i64 kd
  | 1, v => v = .agg #[.int .i64 kd, .string ⟨#[]⟩, .slice none 0 0, .int .i64 0, .int .i64 0, .string ⟨#[]⟩, .slice none 0 0, .slice none 0 0]
  | 2, v => v = .pointer (some ⟨b0, 3, none⟩)
  | 3, v => v = .slice (some ⟨bl, ol, none⟩) tn c
  | 4, v => v = .slice (some ⟨bl, ol + 4, none⟩) (tn - 1) (c - 1)
  | 6, v => v = .slice (some ⟨bl, ol + 4, none⟩) (tn - 1) (c - 1)
  | 7, v => v = .bool true
  | _, _ => True
theorem insPut8 {W : World} {S : Nat → Prop} {C q : Nat} {l : List PT} {v : Value} {v0 v1 v2 v3 v4 v5 v6 v7 : Value} (h : InS W S l v) (hS : ∀ b, S b → b ≠ q) : InS ((((((((W.setCell ⟨q, 0, none⟩ v0).setCell ⟨q, 1, none⟩ v1).setCell ⟨q, 2, none⟩ v2).setCell ⟨q, 3, none⟩ v3).setCell ⟨q, 4, none⟩ v4).setCell ⟨q, 5, none⟩ v5).setCell ⟨q, 6, none⟩ v6).setCell ⟨q, 7, none⟩ v7) (fun b => S b ∨ C ≤ b) l v :=
  h.move (fun b hb _ => .inl hb) fun b o y hb hc => by rw [World.cell?_of_block (w := W) (a := ⟨b, o, none⟩) (off8 _ _ _ _ _ _ _ _ (hS b hb))]; exact hc
theorem innPut8 {W : World} {S T : Nat → Prop} {q : Nat} {l : List ByteArray} {v : Value} {v0 v1 v2 v3 v4 v5 v6 v7 : Value} (h : InN W S l v) (hS : ∀ b, S b → b ≠ q) (hT : ∀ b, S b → T b) : InN ((((((((W.setCell ⟨q, 0, none⟩ v0).setCell ⟨q, 1, none⟩ v1).setCell ⟨q, 2, none⟩ v2).setCell ⟨q, 3, none⟩ v3).setCell ⟨q, 4, none⟩ v4).setCell ⟨q, 5, none⟩ v5).setCell ⟨q, 6, none⟩ v6).setCell ⟨q, 7, none⟩ v7) T l v :=
  h.move (fun b hb _ => hT b hb) fun b o y hb hc => by rw [World.cell?_of_block (w := W) (a := ⟨b, o, none⟩) (off8 _ _ _ _ _ _ _ _ (hS b hb))]; exact hc
theorem len_nums : ∀ l : List PT, l.length ≤ Dat.numsT l
  | [] => by simp [Dat.numsT]
  | .mk _ _ _ m :: l => by have := len_nums l; simp [Dat.numsT, Dat.numT]; omega
theorem head_short {k i : Int} {s : ByteArray} {l : List PT} (hk : ¬ k = 4) (h : l.length < 2) : headT (.mk k i s l) = none := by
  match l, h with
  | [], _ => show (if k = 4 then _ else none) = none; rw [if_neg hk]
  | [_], _ => show (if k = 4 then _ else none) = none; rw [if_neg hk]
set_option maxHeartbeats 16000000 in
theorem withoutKids_any (k i : Int) (s : ByteArray) (l : List PT) (S : Nat → Prop) (v : Value) (w : World) (hv : InS w S l v) (hs : s.size ≤ maxLen) (hS : ∀ b, S b → b < w.heap.size) (hn : Dat.numsT l ≤ 100000) :
    Calls Tryz.prog 66 #[.agg #[.int .i64 k, .int .i64 i, .string s, v]] w fun e w' => HeadIs w.heap.size S (.mk k i s l) e w' ∧ Below w.heap.size w w' := by
  have HV := Lib.hid hv
  have HSL := Lib.hid hS
  have HN := Lib.hid hn
  have HSZ := Lib.hid hs
  obtain ⟨a, c, rfl, hl, hm, _, hr⟩ := hv
  have HR := Lib.hid hr
  unfold maxLen at hm
  obtain ⟨z0, z1, zb⟩ := two_new w (.cells #[.int .i64 k, .int .i64 i, .string s, .slice a l.length c] 25) (.cells #[.int .i64 0, .string ⟨#[]⟩, .slice none 0 0, .int .i64 0, .int .i64 0, .string ⟨#[]⟩, .slice none 0 0, .slice none 0 0] 28)
  have hs0 : ((w.alloc (.cells #[.int .i64 k, .int .i64 i, .string s, .slice a l.length c] 25)).alloc (.cells #[.int .i64 0, .string ⟨#[]⟩, .slice none 0 0, .int .i64 0, .int .i64 0, .string ⟨#[]⟩, .slice none 0 0, .slice none 0 0] 28)).heap.size = w.heap.size + 2 := by rw [size_new, size_new]
  generalize hw0 : (w.alloc (.cells #[.int .i64 k, .int .i64 i, .string s, .slice a l.length c] 25)).alloc (.cells #[.int .i64 0, .string ⟨#[]⟩, .slice none 0 0, .int .i64 0, .int .i64 0, .string ⟨#[]⟩, .slice none 0 0, .slice none 0 0] 28) = w0 at z0 z1 zb hs0
  have HW0 := Lib.hid hw0
  have Z0 := Lib.hid z0
  have Z1 := Lib.hid z1
  have ZB := Lib.hid zb
  have HS0 := Lib.hid hs0
  obtain ⟨x0, x1, x2, x3⟩ := look4c z0
  obtain ⟨t0, t1, t2, t3, t4, t5, t6, t7⟩ := look8 z1
  obtain ⟨g0, g1, g2, g3, g4, g5, g6, g7⟩ := free8 z1
  clear hw0 z0 z1 zb hr hS hn hs hs0
  go_enter Tryz.func66, Tryz.ntmps66
  go_upto_region 1 with fail
  rw [HW0.out]
  by_cases hk : k = 4
  · subst hk
    have HZ5 := Lib.hid (put8 (v0 := .int .i64 1) (v1 := .string s) (v2 := .slice none 0 0) (v3 := .int .i64 0) (v4 := .int .i64 0) (v5 := .string ⟨#[]⟩) (v6 := .slice none 0 0) (v7 := .slice none 0 0) Z1.out)
    have HB6 := Lib.hid (below8 ZB.out (Nat.le_succ w.heap.size) (.int .i64 1) (.string s) (.slice none 0 0) (.int .i64 0) (.int .i64 0) (.string ⟨#[]⟩) (.slice none 0 0) (.slice none 0 0))
    go_wp2
    refine bodyPost_ret (results_row_two (P := Tryz.prog) rfl _ _ (w.heap.size + 1) 28 _ (0, 0) _ rfl HZ5.out Tryz.underlying28 rfl (by kernel_rfl)) rfl ⟨.inr ⟨1, s, [], 0, 0, ⟨#[]⟩, [], .slice none 0 0, .slice none 0 0, by simp [headT, PT0], rfl, by constructor <;> decide, HSZ.out, by constructor <;> decide, by constructor <;> decide, by decide, inN_nil, ⟨none, 0, rfl, Nat.le_refl _, Nat.zero_le _, fun _ => rfl, .inl rfl⟩⟩, HB6.out⟩
  have hkb : (k == 4) = false := by simpa using hk
  by_cases h2 : l.length < 2
  · have HZ5 := Lib.hid (put8 (v0 := .int .i64 0) (v1 := .string ⟨#[]⟩) (v2 := .slice none 0 0) (v3 := .int .i64 0) (v4 := .int .i64 0) (v5 := .string ⟨#[]⟩) (v6 := .slice none 0 0) (v7 := .slice none 0 0) Z1.out)
    have HB6 := Lib.hid (below8 ZB.out (Nat.le_succ w.heap.size) (.int .i64 0) (.string ⟨#[]⟩) (.slice none 0 0) (.int .i64 0) (.int .i64 0) (.string ⟨#[]⟩) (.slice none 0 0) (.slice none 0 0))
    have h2i : decide ((l.length : Int) < 2) = true := by simp; omega
    have HH : Hid (headT (.mk k i s l) = none) := Lib.hid (head_short hk h2)
    go_wp2
    refine bodyPost_ret (results_row_two (P := Tryz.prog) rfl _ _ (w.heap.size + 1) 28 _ (0, 0) _ rfl HZ5.out Tryz.underlying28 rfl (by kernel_rfl)) rfl ⟨.inl ⟨HH.out, 0, ⟨#[]⟩, none, 0, 0, _, rfl⟩, HB6.out⟩
  obtain ⟨x, y, r, rfl⟩ : ∃ x y r, l = x :: y :: r := two_more h2
  obtain ⟨bl, ol, rfl, hsl, _⟩ := HR.out.resolve_left (fun h => by cases h)
  have i0 := insItem (insBelow HV.out ZB.out) 0 (by simp)
  have i1 := insItem (insBelow HV.out ZB.out) 1 (by simp)
  simp only [List.getElem_cons_zero, List.getElem_cons_succ, Nat.zero_mul, Nat.add_zero, Nat.one_mul] at i0 i1
  obtain ⟨xk, xi, xs, xl⟩ := x
  obtain ⟨yk, yi, ys, yl⟩ := y
  rw [inD_mk] at i0 i1
  obtain ⟨_, _, hxs, _, _, d2, _⟩ := i0
  obtain ⟨hyk, hyi, hys, e0, e1, e2, vy, e3, hvy⟩ := i1
  have HVY := Lib.hid hvy
  obtain ⟨ay, cy, rfl, _⟩ := hvy
  have hlen2 : 2 ≤ (PT.mk xk xi xs xl :: PT.mk yk yi ys yl :: r).length := by simp
  have HTN : Hid ((PT.mk xk xi xs xl :: PT.mk yk yi ys yl :: r).length = r.length + 2) := Lib.hid (by simp)
  generalize (PT.mk xk xi xs xl :: PT.mk yk yi ys yl :: r).length = tn at *
  have hblw : bl < w.heap.size := HSL.out bl hsl
  have h2i : decide ((tn : Int) < 2) = false := by simp; omega
  have h1i : (1 : Int) < tn := by omega
  have h3i : (2 : Int) ≤ tn := by omega
  have htc : (tn : Int) ≤ c := by omega
  have hbl0 : bl < w0.heap.size := Nat.lt_of_lt_of_le hblw ZB.out.size
  have hwl0 : w.heap.size < w0.heap.size := by rw [HS0.out]; omega
  go_upto_region 5 with fail
  have HCB : Hid (∀ W, Below w0.heap.size w0 W → W.cell? ⟨w.heap.size, 3, none⟩ = some (.slice (some ⟨bl, ol, none⟩) tn c) ∧ W.cell? ⟨bl, ol + 4, none⟩ = some (.int .i64 yk) ∧ W.cell? ⟨bl, ol + 4 + 1, none⟩ = some (.int .i64 yi) ∧ W.cell? ⟨bl, ol + 4 + 2, none⟩ = some (.string ys) ∧ W.cell? ⟨bl, ol + 4 + 3, none⟩ = some (.slice ay yl.length cy) ∧ W.cell? ⟨bl, ol + 2, none⟩ = some (.string xs)) := Lib.hid fun W hW =>
    ⟨cell_below hW x3, cell_below hW e0, cell_below hW e1, cell_below hW e2, cell_below hW e3, cell_below hW d2⟩
  clear t0 t1 t2 t3 t4 t5 t6 t7 g0 g1 g2 g3 g4 g5 g6 g7 x0 x1 x2 x3 e0 e1 e2 e3 d2
  go_cut [5, 6] from 22 to 29 (fun v5 v6 wx => ∃ g a6 c6, v5 = .pointer (some ⟨g, 0, none⟩) ∧ w0.heap.size ≤ g ∧ v6 = .slice a6 r.length c6 ∧ InS wx S r (.slice a6 r.length c6) ∧ c6 ≤ maxLen ∧ wx.heap[g]? = some (.cells #[.int .i64 yk, .int .i64 yi, .string ys, .slice ay yl.length cy] 25 (0, 0)) ∧ Below w0.heap.size w0 wx)
  case first =>
   have hwl1 : w.heap.size < w0.heap.size := hwl0
   obtain ⟨x3, e0, e1, e2, e3, d2⟩ := HCB.out w0 (Below.refl _ _)
   by_cases hc2 : c = 2
   · have HR0 : Hid (r.length = 0) := Lib.hid (by have := HTN.out; omega)
     have HD2 : Hid (∀ W, Below w0.heap.size w0 W → InS W S r (.slice (some ⟨bl, ol, none⟩) r.length 0)) := Lib.hid fun W hW => by
       obtain rfl := List.eq_nil_of_length_eq_zero HR0.out
       exact ⟨_, 0, rfl, Nat.le_refl _, Nat.zero_le _, (fun h => by cases h), .inl rfl⟩
     subst hc2
     go_region_held3 (fun W => W.cell? ⟨w.heap.size, 3, none⟩ = some (.slice (some ⟨bl, ol, none⟩) tn 2) ∧ W.cell? ⟨bl, ol + 4, none⟩ = some (.int .i64 yk) ∧ W.cell? ⟨bl, ol + 4 + 1, none⟩ = some (.int .i64 yi) ∧ W.cell? ⟨bl, ol + 4 + 2, none⟩ = some (.string ys) ∧ W.cell? ⟨bl, ol + 4 + 3, none⟩ = some (.slice ay yl.length cy)) (go_keep) (fail)
     all_goals
       go_wp2_with fail
       go_meet
       case rel => exact ⟨w0.heap.size, _, _, rfl, Nat.le_refl _, by rw [HR0.out], HD2.out _ (bel_alloc' (Below.refl _ _) _).drew, by decide, heap_alloc_new w0 _, (bel_alloc' (Below.refl _ _) _).drew⟩
   · have HTR : Hid (r.length = tn - 2) := Lib.hid (by have := HTN.out; omega)
     have HD3 : Hid (∀ W, Below w0.heap.size w0 W → InS W S r (.slice (some ⟨bl, ol + 8, none⟩) r.length (c - 2))) := Lib.hid fun W hW => by
       have h1 := ins_two (HV.out) 
       rw [HTR.out]
       exact insBelow h1 (ZB.out.trans (hW.mono ZB.out.size))
     go_region_held3 (fun W => W.cell? ⟨w.heap.size, 3, none⟩ = some (.slice (some ⟨bl, ol, none⟩) tn c) ∧ W.cell? ⟨bl, ol + 4, none⟩ = some (.int .i64 yk) ∧ W.cell? ⟨bl, ol + 4 + 1, none⟩ = some (.int .i64 yi) ∧ W.cell? ⟨bl, ol + 4 + 2, none⟩ = some (.string ys) ∧ W.cell? ⟨bl, ol + 4 + 3, none⟩ = some (.slice ay yl.length cy)) (go_keep) (fail)
     all_goals
       go_wp2_with fail
       go_meet
       case rel => exact ⟨w0.heap.size, _, _, rfl, Nat.le_refl _, by rw [HTR.out], HD3.out _ (bel_alloc' (Below.refl _ _) _).drew, by unfold maxLen; omega, heap_alloc_new w0 _, (bel_alloc' (Below.refl _ _) _).drew⟩
  case rest =>
  obtain ⟨g, a6, c6, rfl, hg, rfl, hr6, hc6, hz, hb⟩ := hcut
  have HZG := Lib.hid hz
  have HBC := Lib.hid (ZB.out.trans (hb.mono ZB.out.size))
  have HR6 := Lib.hid hr6
  have ZC1 := Lib.hid ((hb.block (w.heap.size + 1) (by rw [HS0.out]; omega)).trans Z1.out)
  obtain ⟨x3, _, _, _, _, d2⟩ := HCB.out wc hb
  have HTV : Hid (InS wc S yl (.slice ay yl.length cy)) := Lib.hid (insBelow HVY.out hb)
  have HVC : Hid (InS wc S (.mk xk xi xs xl :: .mk yk yi ys yl :: r) (.slice (some ⟨bl, ol, none⟩) tn c)) := Lib.hid (insBelow HV.out HBC.out)
  have HHD : Hid (headT (.mk k i s (.mk xk xi xs xl :: .mk yk yi ys yl :: r)) = headK (kindT xs) yk yi ys yl r) := Lib.hid (head_more hk)
  have hkl := kindT_le xs
  have KK := Lib.hid (kindOf_any xs wc)
  have hwc0 : w0.heap.size ≤ wc.heap.size := hb.size
  have hgl : g < wc.heap.size := lt_of_block hz
  have hww : w.heap.size + 1 < wc.heap.size := by have := HS0.out; omega
  have hyl := HN.out
  have HYK := Lib.hid (And.intro hyk (And.intro hyi hys))
  have HNQ : Hid (∀ b, S b → b ≠ w.heap.size + 1) := Lib.hid fun b hb => by have := HSL.out b hb; omega
  have HLE : Hid (yl.length + r.length ≤ 100000) := Lib.hid (by have := len_nums yl; have := len_nums r; simp [Dat.numsT, Dat.numT] at hyl; omega)
  have ZT : Hid (∀ W : World, W.heap[w.heap.size + 1]? = some (.cells #[.int .i64 0, .string ⟨#[]⟩, .slice none 0 0, .int .i64 0, .int .i64 0, .string ⟨#[]⟩, .slice none 0 0, .slice none 0 0] 28 (0, 0)) → W.cell? ⟨w.heap.size + 1, 0, none⟩ = some (.int .i64 0) ∧ W.frozen? ⟨w.heap.size + 1, 0, none⟩ = false ∧ W.cell? ⟨w.heap.size + 1, 1, none⟩ = some (.string ⟨#[]⟩) ∧ W.frozen? ⟨w.heap.size + 1, 1, none⟩ = false ∧ W.cell? ⟨w.heap.size + 1, 2, none⟩ = some (.slice none 0 0) ∧ W.frozen? ⟨w.heap.size + 1, 2, none⟩ = false ∧ W.cell? ⟨w.heap.size + 1, 3, none⟩ = some (.int .i64 0) ∧ W.frozen? ⟨w.heap.size + 1, 3, none⟩ = false ∧ W.cell? ⟨w.heap.size + 1, 4, none⟩ = some (.int .i64 0) ∧ W.frozen? ⟨w.heap.size + 1, 4, none⟩ = false ∧ W.cell? ⟨w.heap.size + 1, 5, none⟩ = some (.string ⟨#[]⟩) ∧ W.frozen? ⟨w.heap.size + 1, 5, none⟩ = false ∧ W.cell? ⟨w.heap.size + 1, 6, none⟩ = some (.slice none 0 0) ∧ W.frozen? ⟨w.heap.size + 1, 6, none⟩ = false ∧ W.cell? ⟨w.heap.size + 1, 7, none⟩ = some (.slice none 0 0) ∧ W.frozen? ⟨w.heap.size + 1, 7, none⟩ = false) := Lib.hid fun W h => by
    refine ⟨?_, ?_, ?_, ?_, ?_, ?_, ?_, ?_, ?_, ?_, ?_, ?_, ?_, ?_, ?_, ?_⟩
    all_goals first | exact Lib.frozen_of_heap h _ | (rw [Lib.cell_of_heap h]; rfl)
  generalize kindT xs = kd at *
  clear hz hb hr6 hk
  go_wp2_with fail
  refine KK.out.mono ?_
  rintro e wd ⟨rfl, rfl⟩
  go_upto_region 8 with fail
  obtain ⟨y0, y1, y2, y3⟩ := look4c HZG.out
  obtain ⟨t0, t1, t2, t3, t4, t5, t6, t7⟩ := look8 ZC1.out
  obtain ⟨g0, g1, g2, g3, g4, g5, g6, g7⟩ := free8 ZC1.out
  obtain rfl | rfl | rfl | rfl | rfl | rfl | rfl | rfl | rfl | rfl | rfl | rfl : kd = 0 ∨ kd = 1 ∨ kd = 2 ∨ kd = 3 ∨ kd = 4 ∨ kd = 5 ∨ kd = 6 ∨ kd = 7 ∨ kd = 8 ∨ kd = 9 ∨ kd = 10 ∨ kd = 11 := by omega
  · have HZ5 := Lib.hid (put8 (v0 := .int .i64 0) (v1 := .string ⟨#[]⟩) (v2 := .slice none 0 0) (v3 := .int .i64 yk) (v4 := .int .i64 yi) (v5 := .string ys) (v6 := .slice none 0 0) (v7 := .slice none 0 0) ZC1.out)
    have HB6 := Lib.hid (below8 HBC.out (Nat.le_succ w.heap.size) (.int .i64 0) (.string ⟨#[]⟩) (.slice none 0 0) (.int .i64 yk) (.int .i64 yi) (.string ys) (.slice none 0 0) (.slice none 0 0))
    go_wp2
    refine bodyPost_ret (results_row_two (P := Tryz.prog) rfl _ _ (w.heap.size + 1) 28 _ (0, 0) _ rfl HZ5.out Tryz.underlying28 rfl (by kernel_rfl)) rfl ⟨.inr ⟨0, ⟨#[]⟩, [], yk, yi, ys, [], .slice none 0 0, .slice none 0 0, by rw [HHD.out]; simp [headK], rfl, by constructor <;> decide, by decide, HYK.out.1, HYK.out.2.1, HYK.out.2.2, inN_nil, ⟨none, 0, rfl, Nat.le_refl _, Nat.zero_le _, fun _ => rfl, .inl rfl⟩⟩, HB6.out⟩
  · have HZ5 := Lib.hid (put8 (v0 := .int .i64 0) (v1 := .string ⟨#[]⟩) (v2 := .slice none 0 0) (v3 := .int .i64 0) (v4 := .int .i64 0) (v5 := .string ⟨#[]⟩) (v6 := .slice none 0 0) (v7 := .slice none 0 0) ZC1.out)
    have HB6 := Lib.hid (below8 HBC.out (Nat.le_succ w.heap.size) (.int .i64 0) (.string ⟨#[]⟩) (.slice none 0 0) (.int .i64 0) (.int .i64 0) (.string ⟨#[]⟩) (.slice none 0 0) (.slice none 0 0))
    go_wp2
    refine bodyPost_ret (results_row_two (P := Tryz.prog) rfl _ _ (w.heap.size + 1) 28 _ (0, 0) _ rfl HZ5.out Tryz.underlying28 rfl (by kernel_rfl)) rfl ⟨.inl ⟨by rw [HHD.out]; simp [headK], 0, ⟨#[]⟩, none, 0, 0, _, rfl⟩, HB6.out⟩
  · have HZ5 := Lib.hid (put8 (v0 := .int .i64 2) (v1 := .string ys) (v2 := .slice none 0 0) (v3 := .int .i64 0) (v4 := .int .i64 0) (v5 := .string ⟨#[]⟩) (v6 := .slice none 0 0) (v7 := .slice none 0 0) ZC1.out)
    have HB6 := Lib.hid (below8 HBC.out (Nat.le_succ w.heap.size) (.int .i64 2) (.string ys) (.slice none 0 0) (.int .i64 0) (.int .i64 0) (.string ⟨#[]⟩) (.slice none 0 0) (.slice none 0 0))
    go_wp2
    refine bodyPost_ret (results_row_two (P := Tryz.prog) rfl _ _ (w.heap.size + 1) 28 _ (0, 0) _ rfl HZ5.out Tryz.underlying28 rfl (by kernel_rfl)) rfl ⟨.inr ⟨2, ys, [], 0, 0, ⟨#[]⟩, r, .slice none 0 0, _, by rw [HHD.out]; simp [headK, PT0], rfl, by constructor <;> decide, HYK.out.2.2, by constructor <;> decide, by constructor <;> decide, by decide, inN_nil, insPut8 HR6.out HNQ.out⟩, HB6.out⟩
  · have ZC1D : Hid (wc.drew.heap[w.heap.size + 1]? = _) := Lib.hid ZC1.out
    have HBCD := Lib.hid (Below.drew HBC.out)
    have HZ5 := Lib.hid (put8 (v0 := .int .i64 3) (v1 := .string ⟨#[]⟩) (v2 := .slice none 0 0) (v3 := .int .i64 0) (v4 := .int .i64 0) (v5 := .string ⟨#[]⟩) (v6 := .slice none 0 0) (v7 := .slice none 0 0) ZC1D.out)
    have HB6 := Lib.hid (below8 HBCD.out (Nat.le_succ w.heap.size) (.int .i64 3) (.string ⟨#[]⟩) (.slice none 0 0) (.int .i64 0) (.int .i64 0) (.string ⟨#[]⟩) (.slice none 0 0) (.slice none 0 0))
    have hc1 : ¬ c = 1 := by omega
    have h1j : (1 : Int) ≤ tn := by omega
    clear y0 y1 y2 y3 d2 KK h1i h3i h2i hlen2
    go_upto_region 23 with fail
    refine Rg.wp_region_store 5 (by kernel_rfl) ((((((((wc.drew.setCell ⟨w.heap.size + 1, 0, none⟩ (.int .i64 3)).setCell ⟨w.heap.size + 1, 1, none⟩ (.string ⟨#[]⟩)).setCell ⟨w.heap.size + 1, 2, none⟩ (.slice none 0 0)).setCell ⟨w.heap.size + 1, 3, none⟩ (.int .i64 0)).setCell ⟨w.heap.size + 1, 4, none⟩ (.int .i64 0)).setCell ⟨w.heap.size + 1, 5, none⟩ (.string ⟨#[]⟩)).setCell ⟨w.heap.size + 1, 6, none⟩ (.slice none 0 0)).setCell ⟨w.heap.size + 1, 7, none⟩ (.slice none 0 0)) (R23 w.heap.size bl ol tn c 3) (by kernel_rfl) (by decide) ?_ ?_ ?_
    · intro i o d his hi hd vs W hW hR
      have hx : W.cell? ⟨w.heap.size, 3, none⟩ = some (.slice (some ⟨bl, ol, none⟩) tn c) := by
        rcases hW with rfl | rfl
        · exact x3
        · rw [World.cell?_of_block (w := wc.drew) (a := ⟨w.heap.size, 3, none⟩) (off8 _ _ _ _ _ _ _ _ (by simp))]
          exact x3
      have HR := Lib.hid hR
      clear hR hW t0 g0 t1 g1 t2 g2 t3 g3 t4 g4 t5 g5 t6 g6 t7 g7 x3
      rcases i with _ | _ | _ | _ | _ | _ | _ | _ | i
      all_goals simp only [List.getElem?_cons_zero, List.getElem?_cons_succ, List.getElem?_nil, Option.some.injEq, reduceCtorEq] at hi
      all_goals subst hi
      all_goals simp only [Option.some.injEq, reduceCtorEq] at hd
      all_goals subst hd
      all_goals simp only [Rg.putAll, Act.put, List.setIfInBounds_toArray, List.set_cons_zero, List.set_cons_succ, Nat.zero_add, Nat.reduceAdd]
      · go_simp
        exact ⟨_, rfl, rfl, rfl⟩
      · rw [show vs 0 = _ from HR.out 0 (by decide) (by kernel_rfl)]
        go_simp
        exact ⟨_, rfl, rfl, rfl⟩
      · go_simp
        exact ⟨_, rfl, rfl, rfl⟩
      · rw [show vs 2 = _ from HR.out 2 (by decide) (by kernel_rfl)]
        go_simp
        exact ⟨_, rfl, rfl, rfl⟩
      · rw [show vs 3 = _ from HR.out 3 (by decide) (by kernel_rfl)]
        go_simp
        exact ⟨_, rfl, rfl, rfl⟩
      · rw [show vs 4 = _ from HR.out 4 (by decide) (by kernel_rfl)]
        go_simp
        exact ⟨_, rfl, rfl, rfl⟩
      · go_simp
        exact ⟨_, rfl, rfl, rfl⟩
    · intro o ho vs hR
      simp only [List.getElem?_cons_zero, List.getElem?_cons_succ, Option.some.injEq] at ho
      subst ho
      simp only [Rg.putAll, Act.put, List.setIfInBounds_toArray, List.set_cons_zero, List.set_cons_succ, Nat.zero_add, Nat.reduceAdd]
      rw [show vs 1 = _ from hR 1 (by decide) (by kernel_rfl)]
      clear hR
      go_simp
      exact ⟨rfl, rfl⟩
    · intro vs hR
      simp only [Rg.putAll, Act.put, List.setIfInBounds_toArray, List.set_cons_zero, List.set_cons_succ, Nat.zero_add, Nat.reduceAdd]
      rw [show vs 6 = _ from hR 6 (by decide) (by decide), show vs 7 = _ from hR 7 (by decide) (by decide)]
      clear hR
      go_wp2
      refine bodyPost_ret (results_row_two (P := Tryz.prog) rfl _ _ (w.heap.size + 1) 28 _ (0, 0) _ rfl HZ5.out Tryz.underlying28 rfl (by kernel_rfl)) rfl ⟨.inr ⟨3, ⟨#[]⟩, [], 0, 0, ⟨#[]⟩, .mk yk yi ys yl :: r, .slice none 0 0, _, by rw [HHD.out]; simp [headK, PT0], rfl, by constructor <;> decide, by decide, by constructor <;> decide, by constructor <;> decide, by decide, inN_nil, insPut8 (W := wc.drew) (ins_one HVC.out).drewn HNQ.out⟩, HB6.out⟩
  · have ZC1D : Hid (wc.drew.heap[w.heap.size + 1]? = _) := Lib.hid ZC1.out
    have HBCD := Lib.hid (Below.drew HBC.out)
    have HZ5 := Lib.hid (put8 (v0 := .int .i64 4) (v1 := .string ⟨#[]⟩) (v2 := .slice none 0 0) (v3 := .int .i64 0) (v4 := .int .i64 0) (v5 := .string ⟨#[]⟩) (v6 := .slice none 0 0) (v7 := .slice none 0 0) ZC1D.out)
    have HB6 := Lib.hid (below8 HBCD.out (Nat.le_succ w.heap.size) (.int .i64 4) (.string ⟨#[]⟩) (.slice none 0 0) (.int .i64 0) (.int .i64 0) (.string ⟨#[]⟩) (.slice none 0 0) (.slice none 0 0))
    have hc1 : ¬ c = 1 := by omega
    have h1j : (1 : Int) ≤ tn := by omega
    clear y0 y1 y2 y3 d2 KK h1i h3i h2i hlen2
    go_upto_region 23 with fail
    refine Rg.wp_region_store 5 (by kernel_rfl) ((((((((wc.drew.setCell ⟨w.heap.size + 1, 0, none⟩ (.int .i64 4)).setCell ⟨w.heap.size + 1, 1, none⟩ (.string ⟨#[]⟩)).setCell ⟨w.heap.size + 1, 2, none⟩ (.slice none 0 0)).setCell ⟨w.heap.size + 1, 3, none⟩ (.int .i64 0)).setCell ⟨w.heap.size + 1, 4, none⟩ (.int .i64 0)).setCell ⟨w.heap.size + 1, 5, none⟩ (.string ⟨#[]⟩)).setCell ⟨w.heap.size + 1, 6, none⟩ (.slice none 0 0)).setCell ⟨w.heap.size + 1, 7, none⟩ (.slice none 0 0)) (R23 w.heap.size bl ol tn c 4) (by kernel_rfl) (by decide) ?_ ?_ ?_
    · intro i o d his hi hd vs W hW hR
      have hx : W.cell? ⟨w.heap.size, 3, none⟩ = some (.slice (some ⟨bl, ol, none⟩) tn c) := by
        rcases hW with rfl | rfl
        · exact x3
        · rw [World.cell?_of_block (w := wc.drew) (a := ⟨w.heap.size, 3, none⟩) (off8 _ _ _ _ _ _ _ _ (by simp))]
          exact x3
      have HR := Lib.hid hR
      clear hR hW t0 g0 t1 g1 t2 g2 t3 g3 t4 g4 t5 g5 t6 g6 t7 g7 x3
      rcases i with _ | _ | _ | _ | _ | _ | _ | _ | i
      all_goals simp only [List.getElem?_cons_zero, List.getElem?_cons_succ, List.getElem?_nil, Option.some.injEq, reduceCtorEq] at hi
      all_goals subst hi
      all_goals simp only [Option.some.injEq, reduceCtorEq] at hd
      all_goals subst hd
      all_goals simp only [Rg.putAll, Act.put, List.setIfInBounds_toArray, List.set_cons_zero, List.set_cons_succ, Nat.zero_add, Nat.reduceAdd]
      · go_simp
        exact ⟨_, rfl, rfl, rfl⟩
      · rw [show vs 0 = _ from HR.out 0 (by decide) (by kernel_rfl)]
        go_simp
        exact ⟨_, rfl, rfl, rfl⟩
      · go_simp
        exact ⟨_, rfl, rfl, rfl⟩
      · rw [show vs 2 = _ from HR.out 2 (by decide) (by kernel_rfl)]
        go_simp
        exact ⟨_, rfl, rfl, rfl⟩
      · rw [show vs 3 = _ from HR.out 3 (by decide) (by kernel_rfl)]
        go_simp
        exact ⟨_, rfl, rfl, rfl⟩
      · rw [show vs 4 = _ from HR.out 4 (by decide) (by kernel_rfl)]
        go_simp
        exact ⟨_, rfl, rfl, rfl⟩
      · go_simp
        exact ⟨_, rfl, rfl, rfl⟩
    · intro o ho vs hR
      simp only [List.getElem?_cons_zero, List.getElem?_cons_succ, Option.some.injEq] at ho
      subst ho
      simp only [Rg.putAll, Act.put, List.setIfInBounds_toArray, List.set_cons_zero, List.set_cons_succ, Nat.zero_add, Nat.reduceAdd]
      rw [show vs 1 = _ from hR 1 (by decide) (by kernel_rfl)]
      clear hR
      go_simp
      exact ⟨rfl, rfl⟩
    · intro vs hR
      simp only [Rg.putAll, Act.put, List.setIfInBounds_toArray, List.set_cons_zero, List.set_cons_succ, Nat.zero_add, Nat.reduceAdd]
      rw [show vs 6 = _ from hR 6 (by decide) (by decide), show vs 7 = _ from hR 7 (by decide) (by decide)]
      clear hR
      go_wp2
      refine bodyPost_ret (results_row_two (P := Tryz.prog) rfl _ _ (w.heap.size + 1) 28 _ (0, 0) _ rfl HZ5.out Tryz.underlying28 rfl (by kernel_rfl)) rfl ⟨.inr ⟨4, ⟨#[]⟩, [], 0, 0, ⟨#[]⟩, .mk yk yi ys yl :: r, .slice none 0 0, _, by rw [HHD.out]; simp [headK, PT0], rfl, by constructor <;> decide, by decide, by constructor <;> decide, by constructor <;> decide, by decide, inN_nil, insPut8 (W := wc.drew) (ins_one HVC.out).drewn HNQ.out⟩, HB6.out⟩
  · have KT := Lib.hid (texts_any yl S _ wc HTV.out (by have := HLE.out; omega))
    clear t0 g0 t1 g1 t2 g2 t3 g3 t4 g4 t5 g5 t6 g6 t7 g7
    go_wp2_with fail
    refine KT.out.mono ?_
    rintro e w5 ⟨⟨vt, rfl, hn5⟩, hb5⟩
    have HN5 := Lib.hid hn5
    obtain ⟨at5, ct5, rfl, -⟩ := hn5
    generalize (yl.map txt).length = ml at *
    have HR5 := Lib.hid (insBelow HR6.out hb5)
    have HB5 := Lib.hid (HBC.out.trans (hb5.mono HBC.out.size))
    have ZC5 := Lib.hid ((hb5.block (w.heap.size + 1) hww).trans ZC1.out)
    clear hb5
    obtain ⟨t0, t1, t2, t3, t4, t5, t6, t7⟩ := look8 ZC5.out
    obtain ⟨g0, g1, g2, g3, g4, g5, g6, g7⟩ := free8 ZC5.out
    have HZ5 := Lib.hid (put8 (v0 := .int .i64 5) (v1 := .string ⟨#[]⟩) (v2 := .slice at5 ml ct5) (v3 := .int .i64 0) (v4 := .int .i64 0) (v5 := .string ⟨#[]⟩) (v6 := .slice none 0 0) (v7 := .slice none 0 0) ZC5.out)
    have HB6 := Lib.hid (below8 HB5.out (Nat.le_succ w.heap.size) (.int .i64 5) (.string ⟨#[]⟩) (.slice at5 ml ct5) (.int .i64 0) (.int .i64 0) (.string ⟨#[]⟩) (.slice none 0 0) (.slice none 0 0))
    go_wp2
    refine bodyPost_ret (results_row_two (P := Tryz.prog) rfl _ _ (w.heap.size + 1) 28 _ (0, 0) _ rfl HZ5.out Tryz.underlying28 rfl (by kernel_rfl)) rfl ⟨.inr ⟨5, ⟨#[]⟩, yl.map txt, 0, 0, ⟨#[]⟩, r, _, _, by rw [HHD.out]; simp [headK, PT0], rfl, by constructor <;> decide, by decide, by constructor <;> decide, by constructor <;> decide, by decide, innPut8 (HN5.out.move (fun b hb _ => hb) fun _ _ _ _ h => h) (fun b hb => by omega) (fun b hb => by omega), insPut8 HR5.out HNQ.out⟩, HB6.out⟩
  · have ZC1D : Hid (wc.drew.heap[w.heap.size + 1]? = _) := Lib.hid ZC1.out
    have HBCD := Lib.hid (Below.drew HBC.out)
    have HZ5 := Lib.hid (put8 (v0 := .int .i64 6) (v1 := .string ⟨#[]⟩) (v2 := .slice none 0 0) (v3 := .int .i64 0) (v4 := .int .i64 0) (v5 := .string ⟨#[]⟩) (v6 := .slice none 0 0) (v7 := .slice none 0 0) ZC1D.out)
    have HB6 := Lib.hid (below8 HBCD.out (Nat.le_succ w.heap.size) (.int .i64 6) (.string ⟨#[]⟩) (.slice none 0 0) (.int .i64 0) (.int .i64 0) (.string ⟨#[]⟩) (.slice none 0 0) (.slice none 0 0))
    have hc1 : ¬ c = 1 := by omega
    have h1j : (1 : Int) ≤ tn := by omega
    clear y0 y1 y2 y3 d2 KK h1i h3i h2i hlen2
    go_upto_region 23 with fail
    refine Rg.wp_region_store 5 (by kernel_rfl) ((((((((wc.drew.setCell ⟨w.heap.size + 1, 0, none⟩ (.int .i64 6)).setCell ⟨w.heap.size + 1, 1, none⟩ (.string ⟨#[]⟩)).setCell ⟨w.heap.size + 1, 2, none⟩ (.slice none 0 0)).setCell ⟨w.heap.size + 1, 3, none⟩ (.int .i64 0)).setCell ⟨w.heap.size + 1, 4, none⟩ (.int .i64 0)).setCell ⟨w.heap.size + 1, 5, none⟩ (.string ⟨#[]⟩)).setCell ⟨w.heap.size + 1, 6, none⟩ (.slice none 0 0)).setCell ⟨w.heap.size + 1, 7, none⟩ (.slice none 0 0)) (R23 w.heap.size bl ol tn c 6) (by kernel_rfl) (by decide) ?_ ?_ ?_
    · intro i o d his hi hd vs W hW hR
      have hx : W.cell? ⟨w.heap.size, 3, none⟩ = some (.slice (some ⟨bl, ol, none⟩) tn c) := by
        rcases hW with rfl | rfl
        · exact x3
        · rw [World.cell?_of_block (w := wc.drew) (a := ⟨w.heap.size, 3, none⟩) (off8 _ _ _ _ _ _ _ _ (by simp))]
          exact x3
      have HR := Lib.hid hR
      clear hR hW t0 g0 t1 g1 t2 g2 t3 g3 t4 g4 t5 g5 t6 g6 t7 g7 x3
      rcases i with _ | _ | _ | _ | _ | _ | _ | _ | i
      all_goals simp only [List.getElem?_cons_zero, List.getElem?_cons_succ, List.getElem?_nil, Option.some.injEq, reduceCtorEq] at hi
      all_goals subst hi
      all_goals simp only [Option.some.injEq, reduceCtorEq] at hd
      all_goals subst hd
      all_goals simp only [Rg.putAll, Act.put, List.setIfInBounds_toArray, List.set_cons_zero, List.set_cons_succ, Nat.zero_add, Nat.reduceAdd]
      · go_simp
        exact ⟨_, rfl, rfl, rfl⟩
      · rw [show vs 0 = _ from HR.out 0 (by decide) (by kernel_rfl)]
        go_simp
        exact ⟨_, rfl, rfl, rfl⟩
      · go_simp
        exact ⟨_, rfl, rfl, rfl⟩
      · rw [show vs 2 = _ from HR.out 2 (by decide) (by kernel_rfl)]
        go_simp
        exact ⟨_, rfl, rfl, rfl⟩
      · rw [show vs 3 = _ from HR.out 3 (by decide) (by kernel_rfl)]
        go_simp
        exact ⟨_, rfl, rfl, rfl⟩
      · rw [show vs 4 = _ from HR.out 4 (by decide) (by kernel_rfl)]
        go_simp
        exact ⟨_, rfl, rfl, rfl⟩
      · go_simp
        exact ⟨_, rfl, rfl, rfl⟩
    · intro o ho vs hR
      simp only [List.getElem?_cons_zero, List.getElem?_cons_succ, Option.some.injEq] at ho
      subst ho
      simp only [Rg.putAll, Act.put, List.setIfInBounds_toArray, List.set_cons_zero, List.set_cons_succ, Nat.zero_add, Nat.reduceAdd]
      rw [show vs 1 = _ from hR 1 (by decide) (by kernel_rfl)]
      clear hR
      go_simp
      exact ⟨rfl, rfl⟩
    · intro vs hR
      simp only [Rg.putAll, Act.put, List.setIfInBounds_toArray, List.set_cons_zero, List.set_cons_succ, Nat.zero_add, Nat.reduceAdd]
      rw [show vs 6 = _ from hR 6 (by decide) (by decide), show vs 7 = _ from hR 7 (by decide) (by decide)]
      clear hR
      go_wp2
      refine bodyPost_ret (results_row_two (P := Tryz.prog) rfl _ _ (w.heap.size + 1) 28 _ (0, 0) _ rfl HZ5.out Tryz.underlying28 rfl (by kernel_rfl)) rfl ⟨.inr ⟨6, ⟨#[]⟩, [], 0, 0, ⟨#[]⟩, .mk yk yi ys yl :: r, .slice none 0 0, _, by rw [HHD.out]; simp [headK, PT0], rfl, by constructor <;> decide, by decide, by constructor <;> decide, by constructor <;> decide, by decide, inN_nil, insPut8 (W := wc.drew) (ins_one HVC.out).drewn HNQ.out⟩, HB6.out⟩
  · have HZ5 := Lib.hid (put8 (v0 := .int .i64 7) (v1 := .string ys) (v2 := .slice none 0 0) (v3 := .int .i64 0) (v4 := .int .i64 0) (v5 := .string ⟨#[]⟩) (v6 := .slice none 0 0) (v7 := .slice none 0 0) ZC1.out)
    have HB6 := Lib.hid (below8 HBC.out (Nat.le_succ w.heap.size) (.int .i64 7) (.string ys) (.slice none 0 0) (.int .i64 0) (.int .i64 0) (.string ⟨#[]⟩) (.slice none 0 0) (.slice none 0 0))
    go_wp2
    refine bodyPost_ret (results_row_two (P := Tryz.prog) rfl _ _ (w.heap.size + 1) 28 _ (0, 0) _ rfl HZ5.out Tryz.underlying28 rfl (by kernel_rfl)) rfl ⟨.inr ⟨7, ys, [], 0, 0, ⟨#[]⟩, r, .slice none 0 0, _, by rw [HHD.out]; simp [headK, PT0], rfl, by constructor <;> decide, HYK.out.2.2, by constructor <;> decide, by constructor <;> decide, by decide, inN_nil, insPut8 HR6.out HNQ.out⟩, HB6.out⟩
  · have KB := Lib.hid (bindingsOf_any yl S _ wc HTV.out (fun b hb => by have := HSL.out b hb; omega) (by have := HLE.out; omega))
    clear t0 g0 t1 g1 t2 g2 t3 g3 t4 g4 t5 g5 t6 g6 t7 g7
    go_wp2_with fail
    refine KB.out.mono ?_
    rintro e w5 ⟨hbi, hb5⟩
    have HR5 := Lib.hid (insBelow HR6.out hb5)
    have HB5 := Lib.hid (HBC.out.trans (hb5.mono HBC.out.size))
    have ZC5 := Lib.hid ((hb5.block (w.heap.size + 1) hww).trans ZC1.out)
    have hs5 : wc.heap.size ≤ w5.heap.size := hb5.size
    clear hb5
    rcases hbi with ⟨hnone, rfl⟩ | ⟨ns, ks, vn, vk, hsome, rfl, hn5, hz5, ho5⟩
    · have HNO := Lib.hid hnone
      have HM5 : Hid (InS w5 (fun b => S b ∧ some b ≠ (Value.slice none 0 0).ownBlock) r (.slice a6 r.length c6)) := Lib.hid (HR5.out.move (fun b hb _ => ⟨hb, fun e => by cases e⟩) fun _ _ _ _ h => h)
      clear hnone
      go_wp2_with (at_builtin; refine wpList_append_outDs rfl _ _ rfl wc.heap.size S [] _ rfl (OutD.nil _ _ _) r _ HM5.out rfl (by have := HLE.out; simp only [List.length_nil]; omega) hs5 ?_; intro v6 w6 h1 h2 h3; have ZC6 := Lib.hid ((h2.2 (w.heap.size + 1) (by omega) (fun e => by cases e)).trans ZC5.out); have HB6a := Lib.hid (HB5.out.trans (h2.below (Nat.le_trans (Nat.le_of_lt (Nat.lt_of_succ_lt hww)) hs5) (fun b e => by cases e))); have T6 := ZT.out w6 ZC6.out; obtain ⟨t0, g0, t1, g1, t2, g2, t3, g3, t4, g4, t5, g5, t6, g6, t7, g7⟩ := T6; clear h1 h2 h3)
      have HZ5 := Lib.hid (put8 (v0 := .int .i64 8) (v1 := .string ⟨#[]⟩) (v2 := .slice none 0 0) (v3 := .int .i64 0) (v4 := .int .i64 0) (v5 := .string ⟨#[]⟩) (v6 := .slice none 0 0) (v7 := .slice none 0 0) ZC6.out)
      have HB6 := Lib.hid (below8 HB6a.out (Nat.le_succ w.heap.size) (.int .i64 8) (.string ⟨#[]⟩) (.slice none 0 0) (.int .i64 0) (.int .i64 0) (.string ⟨#[]⟩) (.slice none 0 0) (.slice none 0 0))
      go_wp2
      refine bodyPost_ret (results_row_two (P := Tryz.prog) rfl _ _ (w.heap.size + 1) 28 _ (0, 0) _ rfl HZ5.out Tryz.underlying28 rfl (by kernel_rfl)) rfl ⟨.inl ⟨by rw [HHD.out]; simp [headK, HNO.out], 8, ⟨#[]⟩, none, 0, 0, _, rfl⟩, HB6.out⟩
    · have hvn := hn5.inN (S := fun b => wc.heap.size ≤ b) hz5 (fun b e => (World.ownsRow.lt hn5 b e).1)
      have HLK := Lib.hid (binds_len hsome).2
      have HSM := Lib.hid hsome
      have HO5 := Lib.hid hn5
      have HD5 := Lib.hid ho5
      have HZ5n := Lib.hid hz5
      have HOW : Hid (∀ b, vk.ownBlock = some b → wc.heap.size ≤ b) := Lib.hid fun b e => (ho5.slice.choose_spec.choose_spec.2 b e).1
      have HM5 : Hid (InS w5 (fun b => S b ∧ some b ≠ vk.ownBlock) r (.slice a6 r.length c6)) := Lib.hid (HR5.out.move (fun b hb _ => ⟨hb, fun e => by have := HOW.out b e.symm; have := HSL.out b hb; omega⟩) fun _ _ _ _ h => h)
      obtain ⟨an5, cn5, rfl, -⟩ := hvn
      clear hsome hn5 ho5 hz5
      generalize ns.length = nsl at *
      go_wp2_with (at_builtin; refine wpList_append_outDs rfl _ _ rfl wc.heap.size S ks _ rfl HD5.out r _ HM5.out rfl (by have := HLE.out; have := HLK.out; omega) hs5 ?_; intro v6 w6 h1 h2 h3; have ZC6 := Lib.hid ((h2.2 (w.heap.size + 1) (by omega) (fun e => by have := HOW.out _ e.symm; omega)).trans ZC5.out); have HB6a := Lib.hid (HB5.out.trans (h2.below (C := w.heap.size) (Nat.le_trans (Nat.le_of_lt (Nat.lt_of_succ_lt hww)) hs5) (fun b e => by have := HOW.out b e.symm; omega))); have HO6 := HO5.out.at (w' := w6) (fun b e => h2.2 b (World.ownsRow.lt HO5.out b e).2 (fun e2 => own_ne HO5.out HD5.out e rfl e2.symm)); have HNI := Lib.hid (HO6.inN (S := fun b => wc.heap.size ≤ b) HZ5n.out (fun b e => (World.ownsRow.lt HO6 b e).1)); have HKI := Lib.hid h1.ins; have T6 := ZT.out w6 ZC6.out; obtain ⟨t0, g0, t1, g1, t2, g2, t3, g3, t4, g4, t5, g5, t6, g6, t7, g7⟩ := T6; clear h1 h2 h3 HO6)
      have HZ5 := Lib.hid (put8 (v0 := .int .i64 8) (v1 := .string ⟨#[]⟩) (v2 := .slice an5 nsl cn5) (v3 := .int .i64 0) (v4 := .int .i64 0) (v5 := .string ⟨#[]⟩) (v6 := .slice none 0 0) (v7 := .slice none 0 0) ZC6.out)
      have HB6 := Lib.hid (below8 HB6a.out (Nat.le_succ w.heap.size) (.int .i64 8) (.string ⟨#[]⟩) (.slice an5 nsl cn5) (.int .i64 0) (.int .i64 0) (.string ⟨#[]⟩) (.slice none 0 0) (.slice none 0 0))
      go_wp2
      refine bodyPost_ret (results_row_two (P := Tryz.prog) rfl _ _ (w.heap.size + 1) 28 _ (0, 0) _ rfl HZ5.out Tryz.underlying28 rfl (by kernel_rfl)) rfl ⟨.inr ⟨8, ⟨#[]⟩, ns, 0, 0, ⟨#[]⟩, ks ++ r, _, _, by rw [HHD.out]; simp [headK, HSM.out, PT0], rfl, by constructor <;> decide, by decide, by constructor <;> decide, by constructor <;> decide, by decide, innPut8 HNI.out (fun b hb => by omega) (fun b hb => by omega), (insPut8 (C := w.heap.size) HKI.out (fun b hb => hb.elim (HNQ.out b) (fun h => by omega))).move (fun b hb _ => hb.elim (fun h => h.elim .inl fun h => .inr (by omega)) .inr) (fun _ _ _ _ h => h)⟩, HB6.out⟩
  · have KB := Lib.hid (bindingsOf_any yl S _ wc HTV.out (fun b hb => by have := HSL.out b hb; omega) (by have := HLE.out; omega))
    clear t0 g0 t1 g1 t2 g2 t3 g3 t4 g4 t5 g5 t6 g6 t7 g7
    go_wp2_with fail
    refine KB.out.mono ?_
    rintro e w5 ⟨hbi, hb5⟩
    have HR5 := Lib.hid (insBelow HR6.out hb5)
    have HB5 := Lib.hid (HBC.out.trans (hb5.mono HBC.out.size))
    have ZC5 := Lib.hid ((hb5.block (w.heap.size + 1) hww).trans ZC1.out)
    have hs5 : wc.heap.size ≤ w5.heap.size := hb5.size
    clear hb5
    rcases hbi with ⟨hnone, rfl⟩ | ⟨ns, ks, vn, vk, hsome, rfl, hn5, hz5, ho5⟩
    · have HNO := Lib.hid hnone
      have HM5 : Hid (InS w5 (fun b => S b ∧ some b ≠ (Value.slice none 0 0).ownBlock) r (.slice a6 r.length c6)) := Lib.hid (HR5.out.move (fun b hb _ => ⟨hb, fun e => by cases e⟩) fun _ _ _ _ h => h)
      clear hnone
      go_wp2_with (at_builtin; refine wpList_append_outDs rfl _ _ rfl wc.heap.size S [] _ rfl (OutD.nil _ _ _) r _ HM5.out rfl (by have := HLE.out; simp only [List.length_nil]; omega) hs5 ?_; intro v6 w6 h1 h2 h3; have ZC6 := Lib.hid ((h2.2 (w.heap.size + 1) (by omega) (fun e => by cases e)).trans ZC5.out); have HB6a := Lib.hid (HB5.out.trans (h2.below (Nat.le_trans (Nat.le_of_lt (Nat.lt_of_succ_lt hww)) hs5) (fun b e => by cases e))); have T6 := ZT.out w6 ZC6.out; obtain ⟨t0, g0, t1, g1, t2, g2, t3, g3, t4, g4, t5, g5, t6, g6, t7, g7⟩ := T6; clear h1 h2 h3)
      have HZ5 := Lib.hid (put8 (v0 := .int .i64 9) (v1 := .string ⟨#[]⟩) (v2 := .slice none 0 0) (v3 := .int .i64 0) (v4 := .int .i64 0) (v5 := .string ⟨#[]⟩) (v6 := .slice none 0 0) (v7 := .slice none 0 0) ZC6.out)
      have HB6 := Lib.hid (below8 HB6a.out (Nat.le_succ w.heap.size) (.int .i64 9) (.string ⟨#[]⟩) (.slice none 0 0) (.int .i64 0) (.int .i64 0) (.string ⟨#[]⟩) (.slice none 0 0) (.slice none 0 0))
      go_wp2
      refine bodyPost_ret (results_row_two (P := Tryz.prog) rfl _ _ (w.heap.size + 1) 28 _ (0, 0) _ rfl HZ5.out Tryz.underlying28 rfl (by kernel_rfl)) rfl ⟨.inl ⟨by rw [HHD.out]; simp [headK, HNO.out], 9, ⟨#[]⟩, none, 0, 0, _, rfl⟩, HB6.out⟩
    · have hvn := hn5.inN (S := fun b => wc.heap.size ≤ b) hz5 (fun b e => (World.ownsRow.lt hn5 b e).1)
      have HLK := Lib.hid (binds_len hsome).2
      have HSM := Lib.hid hsome
      have HO5 := Lib.hid hn5
      have HD5 := Lib.hid ho5
      have HZ5n := Lib.hid hz5
      have HOW : Hid (∀ b, vk.ownBlock = some b → wc.heap.size ≤ b) := Lib.hid fun b e => (ho5.slice.choose_spec.choose_spec.2 b e).1
      have HM5 : Hid (InS w5 (fun b => S b ∧ some b ≠ vk.ownBlock) r (.slice a6 r.length c6)) := Lib.hid (HR5.out.move (fun b hb _ => ⟨hb, fun e => by have := HOW.out b e.symm; have := HSL.out b hb; omega⟩) fun _ _ _ _ h => h)
      obtain ⟨an5, cn5, rfl, -⟩ := hvn
      clear hsome hn5 ho5 hz5
      generalize ns.length = nsl at *
      go_wp2_with (at_builtin; refine wpList_append_outDs rfl _ _ rfl wc.heap.size S ks _ rfl HD5.out r _ HM5.out rfl (by have := HLE.out; have := HLK.out; omega) hs5 ?_; intro v6 w6 h1 h2 h3; have ZC6 := Lib.hid ((h2.2 (w.heap.size + 1) (by omega) (fun e => by have := HOW.out _ e.symm; omega)).trans ZC5.out); have HB6a := Lib.hid (HB5.out.trans (h2.below (C := w.heap.size) (Nat.le_trans (Nat.le_of_lt (Nat.lt_of_succ_lt hww)) hs5) (fun b e => by have := HOW.out b e.symm; omega))); have HO6 := HO5.out.at (w' := w6) (fun b e => h2.2 b (World.ownsRow.lt HO5.out b e).2 (fun e2 => own_ne HO5.out HD5.out e rfl e2.symm)); have HNI := Lib.hid (HO6.inN (S := fun b => wc.heap.size ≤ b) HZ5n.out (fun b e => (World.ownsRow.lt HO6 b e).1)); have HKI := Lib.hid h1.ins; have T6 := ZT.out w6 ZC6.out; obtain ⟨t0, g0, t1, g1, t2, g2, t3, g3, t4, g4, t5, g5, t6, g6, t7, g7⟩ := T6; clear h1 h2 h3 HO6)
      have HZ5 := Lib.hid (put8 (v0 := .int .i64 9) (v1 := .string ⟨#[]⟩) (v2 := .slice an5 nsl cn5) (v3 := .int .i64 0) (v4 := .int .i64 0) (v5 := .string ⟨#[]⟩) (v6 := .slice none 0 0) (v7 := .slice none 0 0) ZC6.out)
      have HB6 := Lib.hid (below8 HB6a.out (Nat.le_succ w.heap.size) (.int .i64 9) (.string ⟨#[]⟩) (.slice an5 nsl cn5) (.int .i64 0) (.int .i64 0) (.string ⟨#[]⟩) (.slice none 0 0) (.slice none 0 0))
      go_wp2
      refine bodyPost_ret (results_row_two (P := Tryz.prog) rfl _ _ (w.heap.size + 1) 28 _ (0, 0) _ rfl HZ5.out Tryz.underlying28 rfl (by kernel_rfl)) rfl ⟨.inr ⟨9, ⟨#[]⟩, ns, 0, 0, ⟨#[]⟩, ks ++ r, _, _, by rw [HHD.out]; simp [headK, HSM.out, PT0], rfl, by constructor <;> decide, by decide, by constructor <;> decide, by constructor <;> decide, by decide, innPut8 HNI.out (fun b hb => by omega) (fun b hb => by omega), (insPut8 (C := w.heap.size) HKI.out (fun b hb => hb.elim (HNQ.out b) (fun h => by omega))).move (fun b hb _ => hb.elim (fun h => h.elim .inl fun h => .inr (by omega)) .inr) (fun _ _ _ _ h => h)⟩, HB6.out⟩
  · have KB := Lib.hid (bindingsOf_any yl S _ wc HTV.out (fun b hb => by have := HSL.out b hb; omega) (by have := HLE.out; omega))
    clear t0 g0 t1 g1 t2 g2 t3 g3 t4 g4 t5 g5 t6 g6 t7 g7
    go_wp2_with fail
    refine KB.out.mono ?_
    rintro e w5 ⟨hbi, hb5⟩
    have HR5 := Lib.hid (insBelow HR6.out hb5)
    have HB5 := Lib.hid (HBC.out.trans (hb5.mono HBC.out.size))
    have ZC5 := Lib.hid ((hb5.block (w.heap.size + 1) hww).trans ZC1.out)
    have hs5 : wc.heap.size ≤ w5.heap.size := hb5.size
    clear hb5
    rcases hbi with ⟨hnone, rfl⟩ | ⟨ns, ks, vn, vk, hsome, rfl, hn5, hz5, ho5⟩
    · have HNO := Lib.hid hnone
      have HM5 : Hid (InS w5 (fun b => S b ∧ some b ≠ (Value.slice none 0 0).ownBlock) r (.slice a6 r.length c6)) := Lib.hid (HR5.out.move (fun b hb _ => ⟨hb, fun e => by cases e⟩) fun _ _ _ _ h => h)
      clear hnone
      go_wp2_with (at_builtin; refine wpList_append_outDs rfl _ _ rfl wc.heap.size S [] _ rfl (OutD.nil _ _ _) r _ HM5.out rfl (by have := HLE.out; simp only [List.length_nil]; omega) hs5 ?_; intro v6 w6 h1 h2 h3; have ZC6 := Lib.hid ((h2.2 (w.heap.size + 1) (by omega) (fun e => by cases e)).trans ZC5.out); have HB6a := Lib.hid (HB5.out.trans (h2.below (Nat.le_trans (Nat.le_of_lt (Nat.lt_of_succ_lt hww)) hs5) (fun b e => by cases e))); have T6 := ZT.out w6 ZC6.out; obtain ⟨t0, g0, t1, g1, t2, g2, t3, g3, t4, g4, t5, g5, t6, g6, t7, g7⟩ := T6; clear h1 h2 h3)
      have HZ5 := Lib.hid (put8 (v0 := .int .i64 10) (v1 := .string ⟨#[]⟩) (v2 := .slice none 0 0) (v3 := .int .i64 0) (v4 := .int .i64 0) (v5 := .string ⟨#[]⟩) (v6 := .slice none 0 0) (v7 := .slice none 0 0) ZC6.out)
      have HB6 := Lib.hid (below8 HB6a.out (Nat.le_succ w.heap.size) (.int .i64 10) (.string ⟨#[]⟩) (.slice none 0 0) (.int .i64 0) (.int .i64 0) (.string ⟨#[]⟩) (.slice none 0 0) (.slice none 0 0))
      go_wp2
      refine bodyPost_ret (results_row_two (P := Tryz.prog) rfl _ _ (w.heap.size + 1) 28 _ (0, 0) _ rfl HZ5.out Tryz.underlying28 rfl (by kernel_rfl)) rfl ⟨.inl ⟨by rw [HHD.out]; simp [headK, HNO.out], 10, ⟨#[]⟩, none, 0, 0, _, rfl⟩, HB6.out⟩
    · have hvn := hn5.inN (S := fun b => wc.heap.size ≤ b) hz5 (fun b e => (World.ownsRow.lt hn5 b e).1)
      have HLK := Lib.hid (binds_len hsome).2
      have HSM := Lib.hid hsome
      have HO5 := Lib.hid hn5
      have HD5 := Lib.hid ho5
      have HZ5n := Lib.hid hz5
      have HOW : Hid (∀ b, vk.ownBlock = some b → wc.heap.size ≤ b) := Lib.hid fun b e => (ho5.slice.choose_spec.choose_spec.2 b e).1
      have HM5 : Hid (InS w5 (fun b => S b ∧ some b ≠ vk.ownBlock) r (.slice a6 r.length c6)) := Lib.hid (HR5.out.move (fun b hb _ => ⟨hb, fun e => by have := HOW.out b e.symm; have := HSL.out b hb; omega⟩) fun _ _ _ _ h => h)
      obtain ⟨an5, cn5, rfl, -⟩ := hvn
      clear hsome hn5 ho5 hz5
      generalize ns.length = nsl at *
      go_wp2_with (at_builtin; refine wpList_append_outDs rfl _ _ rfl wc.heap.size S ks _ rfl HD5.out r _ HM5.out rfl (by have := HLE.out; have := HLK.out; omega) hs5 ?_; intro v6 w6 h1 h2 h3; have ZC6 := Lib.hid ((h2.2 (w.heap.size + 1) (by omega) (fun e => by have := HOW.out _ e.symm; omega)).trans ZC5.out); have HB6a := Lib.hid (HB5.out.trans (h2.below (C := w.heap.size) (Nat.le_trans (Nat.le_of_lt (Nat.lt_of_succ_lt hww)) hs5) (fun b e => by have := HOW.out b e.symm; omega))); have HO6 := HO5.out.at (w' := w6) (fun b e => h2.2 b (World.ownsRow.lt HO5.out b e).2 (fun e2 => own_ne HO5.out HD5.out e rfl e2.symm)); have HNI := Lib.hid (HO6.inN (S := fun b => wc.heap.size ≤ b) HZ5n.out (fun b e => (World.ownsRow.lt HO6 b e).1)); have HKI := Lib.hid h1.ins; have T6 := ZT.out w6 ZC6.out; obtain ⟨t0, g0, t1, g1, t2, g2, t3, g3, t4, g4, t5, g5, t6, g6, t7, g7⟩ := T6; clear h1 h2 h3 HO6)
      have HZ5 := Lib.hid (put8 (v0 := .int .i64 10) (v1 := .string ⟨#[]⟩) (v2 := .slice an5 nsl cn5) (v3 := .int .i64 0) (v4 := .int .i64 0) (v5 := .string ⟨#[]⟩) (v6 := .slice none 0 0) (v7 := .slice none 0 0) ZC6.out)
      have HB6 := Lib.hid (below8 HB6a.out (Nat.le_succ w.heap.size) (.int .i64 10) (.string ⟨#[]⟩) (.slice an5 nsl cn5) (.int .i64 0) (.int .i64 0) (.string ⟨#[]⟩) (.slice none 0 0) (.slice none 0 0))
      go_wp2
      refine bodyPost_ret (results_row_two (P := Tryz.prog) rfl _ _ (w.heap.size + 1) 28 _ (0, 0) _ rfl HZ5.out Tryz.underlying28 rfl (by kernel_rfl)) rfl ⟨.inr ⟨10, ⟨#[]⟩, ns, 0, 0, ⟨#[]⟩, ks ++ r, _, _, by rw [HHD.out]; simp [headK, HSM.out, PT0], rfl, by constructor <;> decide, by decide, by constructor <;> decide, by constructor <;> decide, by decide, innPut8 HNI.out (fun b hb => by omega) (fun b hb => by omega), (insPut8 (C := w.heap.size) HKI.out (fun b hb => hb.elim (HNQ.out b) (fun h => by omega))).move (fun b hb _ => hb.elim (fun h => h.elim .inl fun h => .inr (by omega)) .inr) (fun _ _ _ _ h => h)⟩, HB6.out⟩
  · have HZ5 := Lib.hid (put8 (v0 := .int .i64 0) (v1 := .string ⟨#[]⟩) (v2 := .slice none 0 0) (v3 := .int .i64 0) (v4 := .int .i64 0) (v5 := .string ⟨#[]⟩) (v6 := .slice none 0 0) (v7 := .slice none 0 0) ZC1.out)
    have HB6 := Lib.hid (below8 HBC.out (Nat.le_succ w.heap.size) (.int .i64 0) (.string ⟨#[]⟩) (.slice none 0 0) (.int .i64 0) (.int .i64 0) (.string ⟨#[]⟩) (.slice none 0 0) (.slice none 0 0))
    go_wp2
    refine bodyPost_ret (results_row_two (P := Tryz.prog) rfl _ _ (w.heap.size + 1) 28 _ (0, 0) _ rfl HZ5.out Tryz.underlying28 rfl (by kernel_rfl)) rfl ⟨.inl ⟨by rw [HHD.out]; simp [headK], 0, ⟨#[]⟩, none, 0, 0, _, rfl⟩, HB6.out⟩
end Go.Proofs.YtjofdlnopchaeaaGreatDoor.Core

/-
Package core's made: what is made of a datum and of its kids. No condition but a bound on how large the datum is.
-/
namespace Go.Proofs.YtjofdlnopchaeaaGreatDoor.Core
open Go.ChangeShapes Go.WideShapes Go.ChangeAt Go.RowKit Go.Deep
open Dat (PT ok64 RepV RepS RowX infoDatum numT numsT)
set_option maxRecDepth 100000

theorem nums_app : ∀ l m : List PT, numsT (l ++ m) = numsT l + numsT m
  | [], m => by simp [numsT]
  | t :: l, m => by rw [List.cons_append, numsT, numsT, nums_app l m]; omega
theorem binds_size : ∀ {l : List PT} {ns : List ByteArray} {ks : List PT}, bindsT l = some (ns, ks) → numsT ks ≤ numsT l
  | [], ns, ks, h => by
    rw [bindsT] at h
    simp only [Option.some.injEq, Prod.mk.injEq] at h
    obtain ⟨rfl, rfl⟩ := h
    simp [numsT]
  | .mk _ _ _ (x :: y :: _) :: q, ns, ks, h => by
    rw [bindsT] at h
    cases hq : bindsT q with
    | none => rw [hq] at h; cases h
    | some z =>
      obtain ⟨ns', ks'⟩ := z
      rw [hq] at h
      simp only [Option.map_some, Option.some.injEq, Prod.mk.injEq] at h
      obtain ⟨rfl, rfl⟩ := h
      have := binds_size hq
      simp only [numsT, numT]; omega
  | .mk _ _ _ [] :: q, ns, ks, h => by simp [bindsT] at h
  | .mk _ _ _ [_] :: q, ns, ks, h => by simp [bindsT] at h
/-- The kids' data are smaller. -/
theorem head_size {d : PT} {e : PE} {kids : List PT} (h : headT d = some (e, kids)) : numsT kids < numT d := by
  obtain ⟨k, i, s, l⟩ := d
  by_cases hk : k = 4
  · unfold headT at h
    simp only [hk, if_true, Option.some.injEq, Prod.mk.injEq] at h
    obtain ⟨_, rfl⟩ := h
    simp only [numsT, numT]; omega
  by_cases h2 : l.length < 2
  · rw [head_short hk h2] at h; cases h
  obtain ⟨⟨xk, xi, xs, xl⟩, ⟨yk, yi, ys, yl⟩, r, rfl⟩ := two_more h2
  rw [head_more hk] at h
  simp only [numT, numsT]
  unfold headK at h
  split at h
  · simp only [Option.some.injEq, Prod.mk.injEq] at h
    obtain ⟨_, rfl⟩ := h
    simp [numsT]; omega
  split at h
  · simp only [Option.some.injEq, Prod.mk.injEq] at h
    obtain ⟨_, rfl⟩ := h
    omega
  split at h
  · simp only [Option.some.injEq, Prod.mk.injEq] at h
    obtain ⟨_, rfl⟩ := h
    omega
  split at h
  · cases hb : bindsT yl with
    | none => rw [hb] at h; cases h
    | some z =>
      obtain ⟨ns, ks⟩ := z
      rw [hb] at h
      simp only [Option.map_some, Option.some.injEq, Prod.mk.injEq] at h
      obtain ⟨_, rfl⟩ := h
      have := binds_size hb
      rw [nums_app]; omega
  split at h
  · simp only [Option.some.injEq, Prod.mk.injEq] at h
    obtain ⟨_, rfl⟩ := h
    simp only [numsT, numT]; omega
  · cases h
theorem nums_mem : ∀ {l : List PT} {t : PT}, t ∈ l → numT t ≤ numsT l
  | u :: l, t, h => by
    rw [numsT]
    rcases List.mem_cons.1 h with rfl | h
    · omega
    · have := nums_mem h; omega
theorem KP.ofBelow {w w' : World} {ob : Option Nat} (h : Below w.heap.size w w') : KP w ob w' := ⟨h.mono (Nat.zero_le _), fun b hb _ => h.block b hb⟩
theorem KP.trans' {w w1 w2 : World} {ob : Option Nat} (h : KP w ob w1) (g : Below w1.heap.size w1 w2) (_ : w.heap.size ≤ w1.heap.size) : KP w ob w2 :=
  ⟨h.1.trans (g.mono (Nat.zero_le _)), fun b hb hne => (g.block b (Nat.lt_of_lt_of_le hb h.1.size)).trans (h.2 b hb hne)⟩
theorem KP.put8 {w W : World} {ob : Option Nat} (h : KP w ob W) {q : Nat} (hq : w.heap.size ≤ q) (v0 v1 v2 v3 v4 v5 v6 v7 : Value) : KP w ob ((((((((W.setCell ⟨q, 0, none⟩ v0).setCell ⟨q, 1, none⟩ v1).setCell ⟨q, 2, none⟩ v2).setCell ⟨q, 3, none⟩ v3).setCell ⟨q, 4, none⟩ v4).setCell ⟨q, 5, none⟩ v5).setCell ⟨q, 6, none⟩ v6).setCell ⟨q, 7, none⟩ v7) :=
  ⟨below8 h.1 (Nat.zero_le _) v0 v1 v2 v3 v4 v5 v6 v7, fun b hb hne => (off8 v0 v1 v2 v3 v4 v5 v6 v7 (by omega)).trans (h.2 b hb hne)⟩
/-- What made answers. -/
def MadeIs (C q n : Nat) (d : PT) (e : Ending) (w : World) : Prop :=
  ∃ n' r, MadeR n d n' r ∧ n' ≤ 4096 ∧ w.heap[q]? = some (.cells #[.int .i64 (n' : Nat)] 72 (0, 0)) ∧
    ((r = none ∧ e = .returned (.tuple #[.agg #[.int .i64 0, .string ⟨#[]⟩, .slice none 0 0, .int .i64 0, .int .i64 0, .string ⟨#[]⟩, .slice none 0 0, .slice none 0 0], .bool false])) ∨
    ∃ t vn vd vk, r = some t ∧ e = .returned (.tuple #[t.val vn vd vk, .bool true]) ∧ InF w (fun b => C ≤ b) t vn vd vk)
def MadeOk (d : PT) : Prop := ∀ (w : World) (S : Nat → Prop) (q n : Nat) (v : Value), InV w S d v → (∀ b, S b → b < w.heap.size ∧ b ≠ q) → w.heap[q]? = some (.cells #[.int .i64 (n : Nat)] 72 (0, 0)) → n ≤ 4096 → numT d ≤ 100000 →
  Calls Tryz.prog 40 #[.pointer (some ⟨q, 0, none⟩), d.val v] w fun e w' => MadeIs w.heap.size q n d e w' ∧ KP w (some q) w'
set_option maxHeartbeats 8000000 in
theorem made_step (k i : Int) (s : ByteArray) (l : List PT) (ih : ∀ t, numT t < numT (.mk k i s l) → MadeOk t) : MadeOk (.mk k i s l) := by
  intro w S q n v hv hS hq hn hsz
  have IH := Lib.hid ih
  have HV := Lib.hid hv
  have HSL := Lib.hid hS
  have HSZ := Lib.hid hsz
  obtain ⟨_, _, _, a, c, rfl, _⟩ := hv
  show Calls Tryz.prog 40 #[.pointer (some ⟨q, 0, none⟩), .agg #[.int .i64 k, .int .i64 i, .string s, .slice a l.length c]] w _
  obtain ⟨z0, z1, zb⟩ := two_new w (.cells #[.int .i64 k, .int .i64 i, .string s, .slice a l.length c] 25) (.cells #[.int .i64 0, .string ⟨#[]⟩, .slice none 0 0, .int .i64 0, .int .i64 0, .string ⟨#[]⟩, .slice none 0 0, .slice none 0 0] 28)
  have hs0 : ((w.alloc (.cells #[.int .i64 k, .int .i64 i, .string s, .slice a l.length c] 25)).alloc (.cells #[.int .i64 0, .string ⟨#[]⟩, .slice none 0 0, .int .i64 0, .int .i64 0, .string ⟨#[]⟩, .slice none 0 0, .slice none 0 0] 28)).heap.size = w.heap.size + 2 := by rw [size_new, size_new]
  generalize hw0 : (w.alloc (.cells #[.int .i64 k, .int .i64 i, .string s, .slice a l.length c] 25)).alloc (.cells #[.int .i64 0, .string ⟨#[]⟩, .slice none 0 0, .int .i64 0, .int .i64 0, .string ⟨#[]⟩, .slice none 0 0, .slice none 0 0] 28) = w0 at z0 z1 zb hs0
  have HW0 := Lib.hid hw0
  have Z0 := Lib.hid z0
  have Z1 := Lib.hid z1
  have ZB := Lib.hid zb
  have HS0 := Lib.hid hs0
  have hql := lt_of_block hq
  have zq := (zb.block q hql).trans hq
  have HQ := Lib.hid zq
  have q0 : w0.cell? ⟨q, 0, none⟩ = some (.int .i64 (n : Nat)) := by rw [Lib.cell_of_heap zq]; rfl
  have qf : w0.frozen? ⟨q, 0, none⟩ = false := Lib.frozen_of_heap zq 0
  obtain ⟨t0, t1, t2, t3, t4, t5, t6, t7⟩ := look8 z1
  obtain ⟨g0, g1, g2, g3, g4, g5, g6, g7⟩ := free8 z1
  clear hw0 z0 z1 zb hS hs0 ih zq hq hsz
  go_enter Tryz.func40, Tryz.ntmps40
  go_upto_region 1 with fail
  rw [HW0.out]
  by_cases h4 : n = 4096
  · subst h4
    have HZ5 := Lib.hid (put8 (v0 := .int .i64 0) (v1 := .string ⟨#[]⟩) (v2 := .slice none 0 0) (v3 := .int .i64 0) (v4 := .int .i64 0) (v5 := .string ⟨#[]⟩) (v6 := .slice none 0 0) (v7 := .slice none 0 0) Z1.out)
    have HB6 := Lib.hid (below8 (ZB.out.mono (Nat.zero_le _)) (Nat.zero_le (w.heap.size + 1)) (.int .i64 0) (.string ⟨#[]⟩) (.slice none 0 0) (.int .i64 0) (.int .i64 0) (.string ⟨#[]⟩) (.slice none 0 0) (.slice none 0 0))
    have HKP : Hid (KP w (some q) _) := Lib.hid (KP.ofBelow (below8 ZB.out (Nat.le_succ w.heap.size) (.int .i64 0) (.string ⟨#[]⟩) (.slice none 0 0) (.int .i64 0) (.int .i64 0) (.string ⟨#[]⟩) (.slice none 0 0) (.slice none 0 0)))
    have HQ2 := Lib.hid ((off8 (W := w0) (b := w.heap.size + 1) (.int .i64 0) (.string ⟨#[]⟩) (.slice none 0 0) (.int .i64 0) (.int .i64 0) (.string ⟨#[]⟩) (.slice none 0 0) (.slice none 0 0) (c := q) (by omega)).trans HQ.out)
    go_wp2
    refine bodyPost_ret (results_row_one (P := Tryz.prog) rfl _ _ (w.heap.size + 1) 28 _ (0, 0) _ rfl HZ5.out Tryz.underlying28 rfl (by kernel_rfl)) rfl ⟨⟨4096, none, .many _, Nat.le_refl _, HQ2.out, .inl ⟨rfl, rfl⟩⟩, HKP.out⟩
  have hn1 : n + 1 ≤ 4096 := by omega
  have h4b : ((n : Int) == 4096) = false := by simp; omega
  have h4c : ¬ (n : Int) = 4096 := by omega
  have HN4 := Lib.hid h4
  clear h4
  go_upto_region 4 with fail
  have hs1 := size_put w0 ⟨q, 0, none⟩ (.int .i64 ((n : Int) + 1))
  have hq1 : (w0.setCell ⟨q, 0, none⟩ (.int .i64 ((n : Int) + 1))).heap[q]? = some (.cells #[.int .i64 ((n + 1 : Nat) : Int)] 72 (0, 0)) := by
    rw [show ((n + 1 : Nat) : Int) = (n : Int) + 1 by omega]
    exact Go.Joins.block_setCell HQ.out _
  have ho1 : ∀ b, b ≠ q → (w0.setCell ⟨q, 0, none⟩ (.int .i64 ((n : Int) + 1))).heap[b]? = w0.heap[b]? := fun b hb => Below.heap_setCell _ _ _ _ hb
  have hb01 : Below 0 w0 (w0.setCell ⟨q, 0, none⟩ (.int .i64 ((n : Int) + 1))) := (Below.refl _ _).setCell (p := ⟨q, 0, none⟩) (Nat.zero_le _) _
  generalize w0.setCell ⟨q, 0, none⟩ (.int .i64 ((n : Int) + 1)) = w1 at *
  have hw01 : w.heap.size + 2 = w1.heap.size := by rw [hs1, HS0.out]
  have HV1 : Hid (InS w1 S l (.slice a l.length c)) := Lib.hid (HV.out.2.2.2.move (fun _ h _ => h) fun b o y hb hc => by
    have h1 := HSL.out b hb
    rw [World.cell?_of_block (w := w) (a := ⟨b, o, none⟩) ((ho1 b h1.2).trans (ZB.out.block b h1.1))]; exact hc)
  have HQ1 := Lib.hid hq1
  have Z01 := Lib.hid ((ho1 w.heap.size (by omega)).trans Z0.out)
  have Z11 := Lib.hid ((ho1 (w.heap.size + 1) (by omega)).trans Z1.out)
  have HKP1 : Hid (KP w (some q) w1) := Lib.hid ⟨(ZB.out.mono (Nat.zero_le _)).trans hb01, fun b hb hne => (ho1 b (fun e => hne (by rw [e]))).trans (ZB.out.block b hb)⟩
  have KW := Lib.hid (withoutKids_any k i s l S _ w1 HV1.out HV.out.2.2.1 (fun b hb => by have := (HSL.out b hb).1; omega) (by have := HSZ.out; simp only [numT] at this; omega))
  clear hs1 hq1 ho1 hb01 t0 g0 t1 g1 t2 g2 t3 g3 t4 g4 t5 g5 t6 g6 t7 g7 q0 qf
  obtain ⟨x0, x1, x2, x3⟩ := look4c Z01.out
  go_wp2_with fail
  refine KW.out.mono ?_
  rintro e w5 ⟨hh, hb5⟩
  have HB5 := Lib.hid hb5
  have hs5 : w1.heap.size ≤ w5.heap.size := hb5.size
  have HKP5 : Hid (KP w (some q) w5) := Lib.hid (HKP1.out.trans' hb5 (by omega))
  have HQ5 := Lib.hid ((hb5.block q (by omega)).trans HQ1.out)
  have Z15 := Lib.hid ((hb5.block (w.heap.size + 1) (by omega)).trans Z11.out)
  clear hb5 x0 x1 x2 x3 KW
  rcases hh with ⟨hnone, k5, nm5, a5, n5, c5, u5, rfl⟩ | ⟨k5, nm5, ns5, ck5, ci5, cs5, kids, vn5, vk5, hsome, rfl, o1, o2, o3, o4, o5, hn5, hk5⟩
  · have HNO := Lib.hid hnone
    clear hnone
    go_upto_region 5 with fail
    generalize hE5 : Obj.cells #[.int .i64 k5, .string nm5, .slice a5 n5 c5, .int .i64 0, .int .i64 0, .string ⟨#[]⟩, .slice none 0 0, .slice none 0 0] 28 (0, 0) = oe
    have Z16 := Lib.hid (blk_skip' (o := oe) Z15.out)
    have HQ6 := Lib.hid (blk_skip' (o := oe) HQ5.out)
    have HKP6 := Lib.hid (HKP5.out.alloc oe)
    have hs6 := size_new w5 oe
    generalize w5.alloc oe = w6 at *
    obtain ⟨t0, t1, t2, t3, t4, t5, t6, t7⟩ := look8 Z16.out
    obtain ⟨g0, g1, g2, g3, g4, g5, g6, g7⟩ := free8 Z16.out
    have HZ5 := Lib.hid (put8 (v0 := .int .i64 0) (v1 := .string ⟨#[]⟩) (v2 := .slice none 0 0) (v3 := .int .i64 0) (v4 := .int .i64 0) (v5 := .string ⟨#[]⟩) (v6 := .slice none 0 0) (v7 := .slice none 0 0) Z16.out)
    have HB6 := Lib.hid (below8 (HKP6.out.1) (Nat.zero_le (w.heap.size + 1)) (.int .i64 0) (.string ⟨#[]⟩) (.slice none 0 0) (.int .i64 0) (.int .i64 0) (.string ⟨#[]⟩) (.slice none 0 0) (.slice none 0 0))
    have HQ7 := Lib.hid ((off8 (W := w6) (b := w.heap.size + 1) (.int .i64 0) (.string ⟨#[]⟩) (.slice none 0 0) (.int .i64 0) (.int .i64 0) (.string ⟨#[]⟩) (.slice none 0 0) (.slice none 0 0) (c := q) (by omega)).trans HQ6.out)
    have HKP7 := Lib.hid (HKP6.out.put8 (q := w.heap.size + 1) (by omega) (.int .i64 0) (.string ⟨#[]⟩) (.slice none 0 0) (.int .i64 0) (.int .i64 0) (.string ⟨#[]⟩) (.slice none 0 0) (.slice none 0 0))
    clear hE5 hs6
    go_wp2
    refine bodyPost_ret (results_row_one (P := Tryz.prog) rfl _ _ (w.heap.size + 1) 28 _ (0, 0) _ rfl HZ5.out Tryz.underlying28 rfl (by kernel_rfl)) rfl ⟨⟨n + 1, none, .bad HN4.out HNO.out, hn1, HQ7.out, .inl ⟨rfl, rfl⟩⟩, HKP7.out⟩
  have HSM := Lib.hid hsome
  have HO := Lib.hid (And.intro o1 (And.intro o2 (And.intro o3 (And.intro o4 o5))))
  have HNM := Lib.hid hn5
  have HKD : Hid (InS w5 (fun b => (S b ∨ w1.heap.size ≤ b) ∧ b < w5.heap.size) kids vk5) := Lib.hid (hk5.move (fun b hb hl => ⟨hb, hl⟩) fun _ _ _ _ h => h)
  obtain ⟨an5, cn5, rfl, -⟩ := hn5
  obtain ⟨ak5, ck6, rfl, hkl, hkm, -⟩ := hk5
  unfold maxLen at hkm
  have HSZK := Lib.hid (head_size hsome)
  clear hsome o1 o2 o3 o4 o5
  go_upto_region 7 with fail
  have z6 := heap_alloc_new w5 (.cells #[.int .i64 k5, .string nm5, .slice an5 ns5.length cn5, .int .i64 ck5, .int .i64 ci5, .string cs5, .slice none 0 0, .slice none 0 0] 28)
  have Z16 := Lib.hid (blk_skip' (o := .cells #[.int .i64 k5, .string nm5, .slice an5 ns5.length cn5, .int .i64 ck5, .int .i64 ci5, .string cs5, .slice none 0 0, .slice none 0 0] 28) Z15.out)
  have HQ6 := Lib.hid (blk_skip' (o := .cells #[.int .i64 k5, .string nm5, .slice an5 ns5.length cn5, .int .i64 ck5, .int .i64 ci5, .string cs5, .slice none 0 0, .slice none 0 0] 28) HQ5.out)
  have HKP6 := Lib.hid (HKP5.out.alloc (.cells #[.int .i64 k5, .string nm5, .slice an5 ns5.length cn5, .int .i64 ck5, .int .i64 ci5, .string cs5, .slice none 0 0, .slice none 0 0] 28))
  have hs6 := size_new w5 (.cells #[.int .i64 k5, .string nm5, .slice an5 ns5.length cn5, .int .i64 ck5, .int .i64 ci5, .string cs5, .slice none 0 0, .slice none 0 0] 28)
  have hb6 : Below w5.heap.size w5 (w5.alloc (.cells #[.int .i64 k5, .string nm5, .slice an5 ns5.length cn5, .int .i64 ck5, .int .i64 ci5, .string cs5, .slice none 0 0, .slice none 0 0] 28)) := (Below.refl _ _).alloc (Nat.le_refl _) _
  generalize w5.alloc (.cells #[.int .i64 k5, .string nm5, .slice an5 ns5.length cn5, .int .i64 ck5, .int .i64 ci5, .string cs5, .slice none 0 0, .slice none 0 0] 28) = w6 at *
  generalize heb : w5.heap.size = eb at *
  have HZ6 := Lib.hid z6
  have HKD6 : Hid (InS w6 (fun b => (S b ∨ w1.heap.size ≤ b) ∧ b < eb) kids (.slice ak5 kids.length ck6)) := Lib.hid (HKD.out.move (fun _ h _ => h) fun b o y hb hc => by
    rw [World.cell?_of_block (w := w5) (a := ⟨b, o, none⟩) (hb6.block b hb.2)]; exact hc)
  have HNM6 : Hid (InN w6 (fun b => w1.heap.size ≤ b ∧ b < eb) ns5 (.slice an5 ns5.length cn5)) := Lib.hid (HNM.out.move (fun b hb hl => ⟨hb, by omega⟩) fun b o y hb hc => by
    have hl := World.block_lt_of_cell? _ _ hc
    dsimp only at hl
    rw [World.cell?_of_block (w := w5) (a := ⟨b, o, none⟩) (hb6.block b (by omega))]; exact hc)
  have hql6 : q < eb := by omega
  have hwl6 : w.heap.size + 1 < eb := by omega
  have HEB := Lib.hid heb
  have HS6 := Lib.hid hs6
  have hls6 : eb < w6.heap.size := by omega
  clear z6 hb6 heb hs6 HKD HNM
  go_wp2
  go_loopw [37] (fun ix wr => ∃ (j n1 : Nat) (rl : List PE) (kv : Value), j ≤ kids.length ∧ ix = .int .i64 j ∧ MadesR (n + 1) (kids.take j) n1 (some rl) ∧ n1 ≤ 4096 ∧ rl.length = j ∧ wr.heap[q]? = some (.cells #[.int .i64 (n1 : Nat)] 72 (0, 0)) ∧ wr.heap[eb]? = some (.cells #[.int .i64 k5, .string nm5, .slice an5 ns5.length cn5, .int .i64 ck5, .int .i64 ci5, .string cs5, .slice none 0 0, kv] 28 (0, 0)) ∧ OutE wr w6.heap.size (fun b => w6.heap.size ≤ b) rl kv ∧ Below 0 w6 wr ∧ ∀ b, b < w6.heap.size → b ≠ q → b ≠ eb → wr.heap[b]? = w6.heap[b]?) (fun ix _ => kids.length - (intOf ix).toNat)
  case atStart => exact ⟨0, n + 1, [], .slice none 0 0, Nat.zero_le _, rfl, by rw [List.take_zero]; exact .nil _, hn1, rfl, HQ6.out, HZ6.out, OutE.nil _ _ _, Below.refl _ _, fun _ _ _ _ => rfl⟩
  case round =>
    obtain ⟨j, n1, rl, kv, hj, rfl, hmd, hn1', hrl, hqr, her, hor, hb0r, hkr⟩ := hrel
    have HMD := Lib.hid hmd
    have HRL := Lib.hid hrl
    have HQR := Lib.hid hqr
    have HER := Lib.hid her
    have HOR := Lib.hid hor
    have HB0R := Lib.hid hb0r
    have HKR := Lib.hid hkr
    have hsr : w6.heap.size ≤ wr.heap.size := hb0r.size
    have HKDR : Hid (InS wr (fun b => (S b ∨ w1.heap.size ≤ b) ∧ b < eb) kids (.slice ak5 kids.length ck6)) := Lib.hid (HKD6.out.move (fun _ h _ => h) fun b o y hb hc => by
      have hbq : b ≠ q := by
        rcases hb.1 with h | h
        · exact (HSL.out b h).2
        · omega
      rw [World.cell?_of_block (w := w6) (a := ⟨b, o, none⟩) (hkr b (by omega) hbq (by omega))]; exact hc)
    have Z1R := Lib.hid ((hkr (w.heap.size + 1) (by omega) (by omega) (by omega)).trans Z16.out)
    by_cases hlt : j < kids.length
    · obtain ⟨a0, c0, e0, _, _, _, hr0⟩ := id HKDR.out
      obtain ⟨bk, ok, rfl, hsk, _⟩ := hr0.resolve_left (by rintro rfl; cases hlt)
      cases e0
      have hi := insItem HKDR.out j hlt
      have HTS : Hid (kids.take (j + 1) = kids.take j ++ [kids[j]]) := Lib.hid (List.take_succ_eq_append_getElem hlt)
      have HTD : Hid (kids = kids.take j ++ kids[j] :: kids.drop (j + 1)) := Lib.hid (by rw [← List.drop_eq_getElem_cons hlt, List.take_append_drop])
      have HKS : Hid (numT kids[j] < numT (.mk k i s l)) := Lib.hid (Nat.lt_of_le_of_lt (nums_mem (List.getElem_mem hlt)) HSZK.out)
      clear hmd hrl hqr her hor hb0r hkr hr0
      generalize kids[j] = kid at *
      have IHK := Lib.hid (IH.out kid HKS.out)
      obtain ⟨dk, di, ds, dl⟩ := kid
      rw [inD_mk] at hi
      obtain ⟨d1, d2, d3, c0', c1', c2', vl, c3', hvl⟩ := hi
      have HIV : Hid (InV wr (fun b => (S b ∨ w1.heap.size ≤ b) ∧ b < eb) (.mk dk di ds dl) vl) := Lib.hid ⟨d1, d2, d3, hvl⟩
      obtain ⟨da, dc, rfl, _⟩ := hvl
      have hbkl : bk < wr.heap.size := World.block_lt_of_cell? _ _ c0'
      go_upto_region 10 with fail
      have hz7 := heap_alloc_new wr (.cells #[.int .i64 dk, .int .i64 di, .string ds, .slice da dl.length dc] 25)
      have hb7 : Below wr.heap.size wr (wr.alloc (.cells #[.int .i64 dk, .int .i64 di, .string ds, .slice da dl.length dc] 25)) := (Below.refl _ _).alloc (Nat.le_refl _) _
      have HQ7 := Lib.hid (blk_skip' (o := .cells #[.int .i64 dk, .int .i64 di, .string ds, .slice da dl.length dc] 25) HQR.out)
      have hs7 := size_new wr (.cells #[.int .i64 dk, .int .i64 di, .string ds, .slice da dl.length dc] 25)
      have HIV7 := Lib.hid (HIV.out.below hb7)
      generalize wr.alloc (.cells #[.int .i64 dk, .int .i64 di, .string ds, .slice da dl.length dc] 25) = w7 at *
      have HB7 := Lib.hid hb7
      have KM := Lib.hid (IHK.out w7 _ q n1 _ HIV7.out (fun b hb => ⟨by omega, by rcases hb.1 with h | h; exact (HSL.out b h).2; omega⟩) HQ7.out hn1' (by have := HSZ.out; have := HKS.out; omega))
      have KM' : Hid (Calls Tryz.prog 40 #[.pointer (some ⟨q, 0, none⟩), .agg #[.int .i64 dk, .int .i64 di, .string ds, .slice da dl.length dc]] w7 fun e w' => MadeIs w7.heap.size q n1 (.mk dk di ds dl) e w' ∧ KP w7 (some q) w') := KM
      obtain ⟨x0, x1, x2, x3⟩ := look4c hz7
      clear hz7 hb7 KM c0' c1' c2' c3'
      go_wp2_with fail
      refine KM'.out.mono ?_
      rintro e w8 ⟨⟨n2, r8, hmr, hn2, hq8, hres⟩, hkp8⟩
      have HMR := Lib.hid hmr
      have HQ8 := Lib.hid hq8
      have HKP8 := Lib.hid hkp8
      have hs8 : w7.heap.size ≤ w8.heap.size := hkp8.1.size
      have HOLD : Hid (∀ b, b < wr.heap.size → b ≠ q → w8.heap[b]? = wr.heap[b]?) := Lib.hid fun b hb hne => (hkp8.2 b (by omega) (fun e => hne (by cases e; rfl))).trans (HB7.out.block b hb)
      have Z18 := Lib.hid ((HOLD.out (w.heap.size + 1) (by omega) (by omega)).trans Z1R.out)
      have HE8 := Lib.hid ((HOLD.out eb (by omega) (by omega)).trans HER.out)
      have HB08 : Hid (Below 0 w6 w8) := Lib.hid (HB0R.out.trans ((HB7.out.mono (Nat.zero_le _)).trans hkp8.1))
      have HK8 : Hid (∀ b, b < w6.heap.size → b ≠ q → b ≠ eb → w8.heap[b]? = w6.heap[b]?) := Lib.hid fun b h1 h2 h3 => (HOLD.out b (by omega) h2).trans (HKR.out b h1 h2 h3)
      have HKP8w : Hid (KP w (some q) w8) := Lib.hid ⟨HKP6.out.1.trans HB08.out, fun b hb hne => (HK8.out b (by omega) (fun e => hne (by rw [e])) (by omega)).trans (HKP6.out.2 b hb hne)⟩
      clear hmr hq8 hkp8 KM' x0 x1 x2 x3
      rcases hres with ⟨rfl, rfl⟩ | ⟨⟨tk, tn, tns, ⟨tck, tci, tcs, tcl⟩, tl⟩, tvn, tvd, tvk, rfl, he8, hF8⟩
      · go_upto_region 11 with fail
        have Z19 := Lib.hid (blk_skip' (o := .cells #[.int .i64 0, .string ⟨#[]⟩, .slice none 0 0, .int .i64 0, .int .i64 0, .string ⟨#[]⟩, .slice none 0 0, .slice none 0 0] 28) Z18.out)
        have HQ9 := Lib.hid (blk_skip' (o := .cells #[.int .i64 0, .string ⟨#[]⟩, .slice none 0 0, .int .i64 0, .int .i64 0, .string ⟨#[]⟩, .slice none 0 0, .slice none 0 0] 28) HQ8.out)
        have HKP9 := Lib.hid (HKP8w.out.alloc (.cells #[.int .i64 0, .string ⟨#[]⟩, .slice none 0 0, .int .i64 0, .int .i64 0, .string ⟨#[]⟩, .slice none 0 0, .slice none 0 0] 28))
        have hs9 := size_new w8 (.cells #[.int .i64 0, .string ⟨#[]⟩, .slice none 0 0, .int .i64 0, .int .i64 0, .string ⟨#[]⟩, .slice none 0 0, .slice none 0 0] 28)
        generalize w8.alloc (.cells #[.int .i64 0, .string ⟨#[]⟩, .slice none 0 0, .int .i64 0, .int .i64 0, .string ⟨#[]⟩, .slice none 0 0, .slice none 0 0] 28) = w9 at *
        obtain ⟨t0, t1, t2, t3, t4, t5, t6, t7⟩ := look8 Z19.out
        obtain ⟨g0, g1, g2, g3, g4, g5, g6, g7⟩ := free8 Z19.out
        have HZ5 := Lib.hid (put8 (v0 := .int .i64 0) (v1 := .string ⟨#[]⟩) (v2 := .slice none 0 0) (v3 := .int .i64 0) (v4 := .int .i64 0) (v5 := .string ⟨#[]⟩) (v6 := .slice none 0 0) (v7 := .slice none 0 0) Z19.out)
        have HB6 := Lib.hid (below8 HKP9.out.1 (Nat.zero_le (w.heap.size + 1)) (.int .i64 0) (.string ⟨#[]⟩) (.slice none 0 0) (.int .i64 0) (.int .i64 0) (.string ⟨#[]⟩) (.slice none 0 0) (.slice none 0 0))
        have HQ10 := Lib.hid ((off8 (W := w9) (b := w.heap.size + 1) (.int .i64 0) (.string ⟨#[]⟩) (.slice none 0 0) (.int .i64 0) (.int .i64 0) (.string ⟨#[]⟩) (.slice none 0 0) (.slice none 0 0) (c := q) (by omega)).trans HQ9.out)
        have HKP10 := Lib.hid (HKP9.out.put8 (q := w.heap.size + 1) (by omega) (.int .i64 0) (.string ⟨#[]⟩) (.slice none 0 0) (.int .i64 0) (.int .i64 0) (.string ⟨#[]⟩) (.slice none 0 0) (.slice none 0 0))
        have HMM : Hid (MadesR (n + 1) kids n2 none) := Lib.hid (by rw [HTD.out]; exact madesR_stop HMD.out HMR.out)
        clear hs9
        go_wp2
        refine bodyPost_ret (results_row_one (P := Tryz.prog) rfl _ _ (w.heap.size + 1) 28 _ (0, 0) _ rfl HZ5.out Tryz.underlying28 rfl (by kernel_rfl)) rfl ⟨⟨n2, none, .no HN4.out HSM.out HMM.out, hn2, HQ10.out, .inl ⟨rfl, rfl⟩⟩, HKP10.out⟩
      · have HF8 := Lib.hid hF8
        obtain ⟨⟨_, _, tan, tcn, rfl, -⟩, ⟨_, _, _, tad, tcd, rfl, -⟩, tak, tcc, rfl, -⟩ := hF8
        have he' : e = .returned (.tuple #[.agg #[.int .i64 tk, .string tn, .slice tan tns.length tcn, .int .i64 tck, .int .i64 tci, .string tcs, .slice tad tcl.length tcd, .slice tak tl.length tcc], .bool true]) := he8
        subst he'
        obtain ⟨av, cv, rfl, hown⟩ := HOR.out.slice
        have HOWN := Lib.hid hown
        clear he8 hown
        go_upto_region 13 with fail
        have z9 := heap_alloc_new w8 (.cells #[.int .i64 tk, .string tn, .slice tan tns.length tcn, .int .i64 tck, .int .i64 tci, .string tcs, .slice tad tcl.length tcd, .slice tak tl.length tcc] 28)
        have HQ9 := Lib.hid (blk_skip' (o := .cells #[.int .i64 tk, .string tn, .slice tan tns.length tcn, .int .i64 tck, .int .i64 tci, .string tcs, .slice tad tcl.length tcd, .slice tak tl.length tcc] 28) HQ8.out)
        have HE9 := Lib.hid (blk_skip' (o := .cells #[.int .i64 tk, .string tn, .slice tan tns.length tcn, .int .i64 tck, .int .i64 tci, .string tcs, .slice tad tcl.length tcd, .slice tak tl.length tcc] 28) HE8.out)
        have hs9 := size_new w8 (.cells #[.int .i64 tk, .string tn, .slice tan tns.length tcn, .int .i64 tck, .int .i64 tci, .string tcs, .slice tad tcl.length tcd, .slice tak tl.length tcc] 28)
        have hb9 : Below w8.heap.size w8 (w8.alloc (.cells #[.int .i64 tk, .string tn, .slice tan tns.length tcn, .int .i64 tck, .int .i64 tci, .string tcs, .slice tad tcl.length tcd, .slice tak tl.length tcc] 28)) := (Below.refl _ _).alloc (Nat.le_refl _) _
        generalize w8.alloc (.cells #[.int .i64 tk, .string tn, .slice tan tns.length tcn, .int .i64 tck, .int .i64 tci, .string tcs, .slice tad tcl.length tcd, .slice tak tl.length tcc] 28) = w9 at *
        have HB9 := Lib.hid hb9
        have Z9 := Lib.hid z9
        have k7 : w9.cell? ⟨eb, 7, none⟩ = some (.slice av rl.length cv) := by rw [Lib.cell_of_heap HE9.out]; rfl
        obtain ⟨x0, x1, x2, x3, x4, x5, x6, x7⟩ := look8 Z9.out
        have hb10 : Below w9.heap.size w9 (w9.alloc (.cells #[.int .i64 tk, .string tn, .slice tan tns.length tcn, .int .i64 tck, .int .i64 tci, .string tcs, .slice tad tcl.length tcd, .slice tak tl.length tcc] 28)) := (Below.refl _ _).alloc (Nat.le_refl _) _
        have hs10 := size_new w9 (.cells #[.int .i64 tk, .string tn, .slice tan tns.length tcn, .int .i64 tck, .int .i64 tci, .string tcs, .slice tad tcl.length tcd, .slice tak tl.length tcc] 28)
        have HOLD10 : Hid (∀ b, b < wr.heap.size → b ≠ q → (w9.alloc (.cells #[.int .i64 tk, .string tn, .slice tan tns.length tcn, .int .i64 tck, .int .i64 tci, .string tcs, .slice tad tcl.length tcd, .slice tak tl.length tcc] 28)).heap[b]? = wr.heap[b]?) := Lib.hid fun b hb hne => (hb10.block b (by omega)).trans ((HB9.out.block b (by omega)).trans (HOLD.out b hb hne))
        have HQ10 := Lib.hid ((hb10.block q (by omega)).trans HQ9.out)
        have HE10 := Lib.hid ((hb10.block eb (by omega)).trans HE9.out)
        have HOR10 : Hid (OutE (w9.alloc (.cells #[.int .i64 tk, .string tn, .slice tan tns.length tcn, .int .i64 tck, .int .i64 tci, .string tcs, .slice tad tcl.length tcd, .slice tak tl.length tcc] 28)) w6.heap.size (fun b => w6.heap.size ≤ b) rl (.slice av rl.length cv)) := Lib.hid (HOR.out.at (fun b e => by
          have := HOWN.out b e
          exact HOLD10.out b this.2 (by omega)) (fun b hb hl => ⟨HOLD10.out b hl (by omega), hb⟩))
        have HF10 : Hid (InF (w9.alloc (.cells #[.int .i64 tk, .string tn, .slice tan tns.length tcn, .int .i64 tck, .int .i64 tci, .string tcs, .slice tad tcl.length tcd, .slice tak tl.length tcc] 28)) (fun b => w6.heap.size ≤ b ∧ some b ≠ (Value.slice av rl.length cv).ownBlock) (.mk tk tn tns (.mk tck tci tcs tcl) tl) (.slice tan tns.length tcn) (.slice tad tcl.length tcd) (.slice tak tl.length tcc)) := Lib.hid (((HF8.out.below HB9.out).below hb10).move (fun b hb _ => ⟨by omega, fun e => by have := (HOWN.out b e.symm).2; omega⟩) fun _ _ _ _ h => h)
        have HKL : Hid (rl.length ≤ 100000) := Lib.hid (by have h1 := len_nums kids; have h2 := HSZK.out; have h3 := HSZ.out; have h4 := HRL.out; omega)
        have HC10 : Hid (w6.heap.size ≤ (w9.alloc (.cells #[.int .i64 tk, .string tn, .slice tan tns.length tcn, .int .i64 tck, .int .i64 tci, .string tcs, .slice tad tcl.length tcd, .slice tak tl.length tcc] 28)).heap.size) := Lib.hid (by omega)
        have HB010 : Hid (Below 0 w6 (w9.alloc (.cells #[.int .i64 tk, .string tn, .slice tan tns.length tcn, .int .i64 tck, .int .i64 tci, .string tcs, .slice tad tcl.length tcd, .slice tak tl.length tcc] 28))) := Lib.hid (HB08.out.trans ((HB9.out.mono (Nat.zero_le _)).trans (hb10.mono (Nat.zero_le _))))
        have HK10 : Hid (∀ b, b < w6.heap.size → b ≠ q → b ≠ eb → (w9.alloc (.cells #[.int .i64 tk, .string tn, .slice tan tns.length tcn, .int .i64 tck, .int .i64 tci, .string tcs, .slice tad tcl.length tcd, .slice tak tl.length tcc] 28)).heap[b]? = w6.heap[b]?) := Lib.hid fun b h1 h2 h3 => (HOLD10.out b (by omega) h2).trans (HKR.out b h1 h2 h3)
        have hl10 : eb < (w9.alloc (.cells #[.int .i64 tk, .string tn, .slice tan tns.length tcn, .int .i64 tck, .int .i64 tci, .string tcs, .slice tad tcl.length tcd, .slice tak tl.length tcc] 28)).heap.size ∧ q < (w9.alloc (.cells #[.int .i64 tk, .string tn, .slice tan tns.length tcn, .int .i64 tck, .int .i64 tci, .string tcs, .slice tad tcl.length tcd, .slice tak tl.length tcc] 28)).heap.size := ⟨by omega, by omega⟩
        have HL10 := Lib.hid hl10
        clear hl10 hb10 hs10 hb9 z9 hs9
        go_upto_region 14 with (at_builtin; refine wpList_append_e rfl _ _ rfl w6.heap.size (fun b => w6.heap.size ≤ b) rl (.slice av rl.length cv) rfl HOR10.out w9.heap.size tk tn tns tck tci tcs tcl tl _ _ _ rfl (heap_alloc_new w9 _) HF10.out HKL.out HC10.out ?_; intro g cap w11 h1 h2 h3; go_must (have HE11 := Lib.hid ((h2.block eb HL10.out.1 (fun e => by have := (HOWN.out _ e.symm).1; omega)).trans HE10.out)); go_must (have HQ11 := Lib.hid ((h2.block q HL10.out.2 (fun e => by have := (HOWN.out _ e.symm).1; omega)).trans HQ10.out)); go_must (have HO11 := Lib.hid h1); go_must (have HG11 := Lib.hid h2); go_must (have k11 : w11.cell? ⟨eb, 7, none⟩ = some (.slice av rl.length cv) := by (rw [Lib.cell_of_heap HE11.out]; rfl)); go_must (have f11 : w11.frozen? ⟨eb, 7, none⟩ = false := Lib.frozen_of_heap HE11.out 7); go_must (clear h1 h2 h3))
        go_wp2
        go_roundw
        case rel =>
          refine ⟨j + 1, n2, rl ++ [.mk tk tn tns (.mk tck tci tcs tcl) tl], .slice (some ⟨g, 0, none⟩) (rl.length + 1) cap, by omega, by go_num, by rw [HTS.out]; exact madesR_snoc HMD.out HMR.out, hn2, by rw [List.length_append, HRL.out]; rfl, (Below.heap_setCell _ _ _ _ (show q ≠ eb by omega)).trans HQ11.out, Go.Joins.block_setCell HE11.out _, ?_, ?_, ?_⟩
          · exact HO11.out.at (fun b e => Below.heap_setCell _ _ _ _ (show b ≠ eb by have := (HO11.out.slice.choose_spec.choose_spec.2 b e).1; omega)) (fun b hb _ => ⟨Below.heap_setCell _ _ _ _ (show b ≠ eb by have hb' : w6.heap.size ≤ b := hb; omega), hb⟩)
          · exact ((HB010.out.trans ⟨HG11.out.os, HG11.out.tape, HG11.out.output, HG11.out.size, fun k hk => absurd hk (Nat.not_lt_zero k)⟩)).setCell (p := ⟨eb, 7, none⟩) (Nat.zero_le _) _
          · intro b h1 h2 h3
            have h4 : (w11.setCell ⟨eb, 7, none⟩ (.slice (some ⟨g, 0, none⟩) (rl.length + 1) cap)).heap[b]? = w11.heap[b]? := Below.heap_setCell _ _ _ _ h3
            exact h4.trans ((HG11.out.block b (by have := HC10.out; omega) (fun e => by have := (HOWN.out _ e.symm).1; omega)).trans (HK10.out b h1 h2 h3))
        case measure => simp [intOf]; omega
    · obtain rfl : j = kids.length := by omega
      rw [List.take_length] at hmd
      have HMD := Lib.hid hmd
      obtain ⟨av, cv, rfl, hown⟩ := HOR.out.slice
      have HRV : Hid (InK wr (fun b => w6.heap.size ≤ b) rl (.slice av rl.length cv)) := Lib.hid (hor.inK (fun b h => h) (fun b e => (hown b e).1))
      have HNR : Hid (InN wr (fun b => w1.heap.size ≤ b ∧ b < eb) ns5 (.slice an5 ns5.length cn5)) := Lib.hid (HNM6.out.move (fun _ h _ => h) fun b o y hb hc => by
        rw [World.cell?_of_block (w := w6) (a := ⟨b, o, none⟩) (hkr b (by omega) (by omega) (by omega))]; exact hc)
      have HKPR : Hid (KP w (some q) wr) := Lib.hid ⟨HKP6.out.1.trans hb0r, fun b hb hne => (hkr b (by omega) (fun e => hne (by rw [e])) (by omega)).trans (HKP6.out.2 b hb hne)⟩
      clear hmd hrl hqr hor hb0r hkr hown
      obtain ⟨x0, x1, x2, x3, x4, x5, x6, x7⟩ := look8 HER.out
      obtain ⟨t0, t1, t2, t3, t4, t5, t6, t7⟩ := look8 Z1R.out
      obtain ⟨g0, g1, g2, g3, g4, g5, g6, g7⟩ := free8 Z1R.out
      have HZ5 := Lib.hid (put8 (v0 := .int .i64 k5) (v1 := .string nm5) (v2 := .slice an5 ns5.length cn5) (v3 := .int .i64 ck5) (v4 := .int .i64 ci5) (v5 := .string cs5) (v6 := .slice none 0 0) (v7 := .slice av rl.length cv) Z1R.out)
      have HB6 := Lib.hid (below8 HKPR.out.1 (Nat.zero_le (w.heap.size + 1)) (.int .i64 k5) (.string nm5) (.slice an5 ns5.length cn5) (.int .i64 ck5) (.int .i64 ci5) (.string cs5) (.slice none 0 0) (.slice av rl.length cv))
      have HQ10 := Lib.hid ((off8 (W := wr) (b := w.heap.size + 1) (.int .i64 k5) (.string nm5) (.slice an5 ns5.length cn5) (.int .i64 ck5) (.int .i64 ci5) (.string cs5) (.slice none 0 0) (.slice av rl.length cv) (c := q) (by omega)).trans HQR.out)
      have HKP10 := Lib.hid (HKPR.out.put8 (q := w.heap.size + 1) (by omega) (.int .i64 k5) (.string nm5) (.slice an5 ns5.length cn5) (.int .i64 ck5) (.int .i64 ci5) (.string cs5) (.slice none 0 0) (.slice av rl.length cv))
      go_wp2
      refine bodyPost_ret (results_row_one (P := Tryz.prog) rfl _ _ (w.heap.size + 1) 28 _ (0, 0) _ rfl HZ5.out Tryz.underlying28 rfl (by kernel_rfl)) rfl ⟨⟨n1, some (.mk k5 nm5 ns5 (.mk ck5 ci5 cs5 []) rl), .yes HN4.out HSM.out HMD.out, hn1', HQ10.out, .inr ⟨_, _, _, _, rfl, rfl, ⟨HO.out.1, HO.out.2.1, innPut8 HNR.out (fun b hb => by have hb' : w1.heap.size ≤ b ∧ b < eb := hb; omega) (fun b hb => by have hb' : w1.heap.size ≤ b ∧ b < eb := hb; omega)⟩, ⟨HO.out.2.2.1, HO.out.2.2.2.1, HO.out.2.2.2.2, none, 0, rfl, Nat.le_refl _, Nat.zero_le _, fun _ => rfl, .inl rfl⟩, HRV.out.move (fun b hb _ => by have hb' : w6.heap.size ≤ b := hb; omega) fun b o y hb hc => by (have hb' : w6.heap.size ≤ b := hb); rw [World.cell?_of_block (w := wr) (a := ⟨b, o, none⟩) (off8 _ _ _ _ _ _ _ _ (show b ≠ w.heap.size + 1 by omega))]; exact hc⟩⟩, HKP10.out⟩
theorem made_all : ∀ (m : Nat) (d : PT), numT d ≤ m → MadeOk d
  | 0, .mk k i s l, h => by simp only [numT] at h; omega
  | m + 1, .mk k i s l, h => made_step k i s l fun t ht => made_all m t (by omega)
theorem made_any (d : PT) : MadeOk d := made_all _ d (Nat.le_refl _)
end Go.Proofs.YtjofdlnopchaeaaGreatDoor.Core
