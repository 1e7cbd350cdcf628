/-
Texts Q5, Q6, one behind the other (a claim bears sixty files). Conditions: as each says.
-/
import Derived.Test.YtpejhilfopjckaaDoorQGa
import Derived.Deep.DeepCutAuto

/-
Package heap's part and change. No condition but that the heap lies in memory, and that the value is a thing of its own.
-/
namespace Go.Proofs.YtpejhilfopjckaaDoor.Hp
open Go.ChangeShapes Go.WideShapes Go.ChangeAt Go.RowKit Go.Deep
open Dat (PT ok64 RepV RepS RowX infoDatum)
set_option maxRecDepth 100000

/-- What is answered is a value and an error. -/
def VE (u : PV) (err : Int) : Ending := .returned (.tuple #[.agg #[.int .i64 u.k, .int .i64 u.i, .string u.s], .int .i64 err])
theorem partT_in {T : List (Int × List PV)} {v : PV} {a : Int} (hj : v.i.toNat < T.length) (h0 : 0 ≤ a) (hi : a.toNat < T[v.i.toNat].2.length) : partT T v a = (T[v.i.toNat].2[a.toNat], 0) := by
  simp [partT, List.getElem?_eq_getElem hj, h0, List.getElem?_eq_getElem hi]
theorem partT_out {T : List (Int × List PV)} {v : PV} {a : Int} (hj : v.i.toNat < T.length) (h : a < 0 ∨ (T[v.i.toNat].2.length : Int) ≤ a) : partT T v a = (⟨0, 0, ⟨#[]⟩⟩, 83) := by
  unfold partT
  rw [List.getElem?_eq_getElem hj]
  by_cases h0 : 0 ≤ a
  · simp only [h0, if_true]
    rw [List.getElem?_eq_none (by omega)]
  · simp only [h0, if_false]
theorem PartsM.slice {w : World} {l : List PV} {g : Nat} {v : Value} (h : PartsM w l g v) : ∃ a c, v = .slice a l.length c ∧ l.length ≤ c ∧ c ≤ maxLen := by
  rcases h with ⟨rfl, a, c, e, h1, h2⟩ | ⟨h0, ho, cap, cur, e, h1, h2, h3, h4, h5⟩
  · exact ⟨a, c, e, Nat.zero_le _, h1⟩
  · exact ⟨_, cap, e, h1, h2⟩
/-- What is behind a call: a value, an error, and the heap. -/
def DoOk (w : World) (hb : Nat) (F : Nat → Prop) (u : PV) (err : Int) (T : List (Int × List PV)) (e : Ending) (w' : World) : Prop := e = VE u err ∧ ∃ F', HeapM w' hb T F' ∧ Stp F w F' w'
theorem DoOk.of {w w' : World} {hb : Nat} {F : Nat → Prop} {u : PV} {err : Int} {T : List (Int × List PV)} {e : Ending} (h : HeapM w hb T F) (he : e = VE u err) (hb' : Below w.heap.size w w') : DoOk w hb F u err T e w' :=
  ⟨he, F, h.below hb', Stp.of_below hb'⟩
/-- What a thing's part is set to. -/
def putT (T : List (Int × List PV)) (v : PV) (a : Int) (u : PV) : PV × Int × List (Int × List PV) :=
  if 0 ≤ a ∧ a.toNat < ((T[v.i.toNat]?.map (·.2)).getD []).length then (⟨5, 0, ⟨#[]⟩⟩, 0, setT T v.i.toNat a.toNat u) else (⟨0, 0, ⟨#[]⟩⟩, 83, T)
theorem putT_in {T : List (Int × List PV)} {v : PV} {a : Int} {u : PV} (hj : v.i.toNat < T.length) (h0 : 0 ≤ a) (hi : a.toNat < T[v.i.toNat].2.length) : putT T v a u = (⟨5, 0, ⟨#[]⟩⟩, 0, setT T v.i.toNat a.toNat u) := by
  unfold putT
  rw [List.getElem?_eq_getElem hj, if_pos ⟨h0, hi⟩]
theorem putT_out {T : List (Int × List PV)} {v : PV} {a : Int} {u : PV} (hj : v.i.toNat < T.length) (h : a < 0 ∨ (T[v.i.toNat].2.length : Int) ≤ a) : putT T v a u = (⟨0, 0, ⟨#[]⟩⟩, 83, T) := by
  unfold putT
  rw [List.getElem?_eq_getElem hj, if_neg (fun h' => by simp only [Option.map_some, Option.getD_some] at h'; omega)]
set_option maxHeartbeats 1000000 in
theorem thingOf_any (k i : Int) (s : ByteArray) (hb tb n cap : Nat) (w : World) (hc : w.cell? ⟨hb, 0, none⟩ = some (.slice (some ⟨tb, 0, none⟩) n cap)) (h0 : 0 ≤ i) (hlt : i < n) (_h1 : n ≤ cap) (_h2 : cap ≤ maxLen) :
    Calls Tryd.prog 50 #[.pointer (some ⟨hb, 0, none⟩), .agg #[.int .i64 k, .int .i64 i, .string s]] w fun e w' => e = .returned (.pointer (some ⟨tb, i.toNat * 4, none⟩)) ∧ Below w.heap.size w w' := by
  have Z := heap_alloc_new w (.cells #[.int .i64 k, .int .i64 i, .string s] 36)
  have B0 := Lib.hid ((Below.refl w.heap.size w).alloc (Nat.le_refl _) (.cells #[.int .i64 k, .int .i64 i, .string s] 36))
  have c0 := (B0.out.cell (p := ⟨hb, 0, none⟩) (World.block_lt_of_cell? _ _ hc)).trans hc
  unfold maxLen at _h2
  clear hc
  go_enter Tryd.func50, Tryd.ntmps50
  go_wp2
  generalize w.alloc (.cells #[.int .i64 k, .int .i64 i, .string s] 36) = w0 at *
  have z1 : w0.cell? ⟨w.heap.size, 1, none⟩ = some (.int .i64 i) := by rw [Lib.cell_of_heap Z]; rfl
  clear Z
  go_quiet (fail)
  go_wp2
  go_ret
  exact ⟨rfl, Dat.below_drewN B0.out _⟩
/-- Part i of a thing of n parts, whose four cells lie from ⟨tb, o⟩ on, is u. -/
def PartC (w : World) (tb o n i : Nat) (u : PV) : Prop :=
  ∃ g nf cp mv, w.cell? ⟨tb, o + 1, none⟩ = some (.int .i64 (n : Int)) ∧ w.cell? ⟨tb, o + 2, none⟩ = some (.slice (some ⟨g, 0, none⟩) nf cp) ∧ w.cell? ⟨tb, o + 3, none⟩ = some mv ∧ nf ≤ cp ∧ cp ≤ maxLen ∧ i < n ∧ okV u ∧
    ((∃ q : PV, (∀ W : World, Below w.heap.size w W → (Instr.lookup 81 mv (.int .i64 i) true).run Tryd.prog W = .ok (.tuple #[q.val, .bool false]) W) ∧ ∃ c : Nat, c < nf ∧ min (i : Int) ((nf : Int) - 1) = c ∧
        w.cell? ⟨g, c * 3, none⟩ = some (.int .i64 u.k) ∧ w.cell? ⟨g, c * 3 + 1, none⟩ = some (.int .i64 u.i) ∧ w.cell? ⟨g, c * 3 + 2, none⟩ = some (.string u.s)) ∨
     (∀ W : World, Below w.heap.size w W → (Instr.lookup 81 mv (.int .i64 i) true).run Tryd.prog W = .ok (.tuple #[u.val, .bool true]) W))
theorem PartC.below {w w' : World} {tb o n i : Nat} {u : PV} (h : PartC w tb o n i u) (hb : Below w.heap.size w w') : PartC w' tb o n i u := by
  obtain ⟨g, nf, cp, mv, c1, c2, c3, p3, p4, hi, hu, hl⟩ := h
  have cl : ∀ {b j : Nat} {x : Value}, w.cell? ⟨b, j, none⟩ = some x → w'.cell? ⟨b, j, none⟩ = some x := fun {b j x} hx => (hb.cell (p := ⟨b, j, none⟩) (World.block_lt_of_cell? _ _ hx)).trans hx
  refine ⟨g, nf, cp, mv, cl c1, cl c2, cl c3, p3, p4, hi, hu, hl.imp ?_ ?_⟩
  · rintro ⟨q, h1, c, h2, h3, h4, h5, h6⟩
    exact ⟨q, fun W hW => h1 W (hb.trans (hW.mono hb.size)), c, h2, h3, cl h4, cl h5, cl h6⟩
  · exact fun h1 W hW => h1 W (hb.trans (hW.mono hb.size))
set_option maxHeartbeats 2000000 in
/-- A part of a thing, by the thing's cells, wherever they lie. -/
theorem part_gen (tb o n i : Nat) (u : PV) (w : World) (h : PartC w tb o n i u) :
    Calls Tryd.prog 51 #[.pointer (some ⟨tb, o, none⟩), .int .i64 (i : Int)] w fun e w' => e = VE u 0 ∧ Below w.heap.size w w' := by
  have Z := heap_alloc_new w (.cells #[.int .i64 0, .int .i64 0, .string ⟨#[]⟩] 36)
  have B0 := (Below.refl w.heap.size w).alloc (Nat.le_refl _) (.cells #[.int .i64 0, .int .i64 0, .string ⟨#[]⟩] 36)
  obtain ⟨g, nf, cp, mv, c1, c2, c3, p3, p4, hin, vk, hlook⟩ := h.below B0
  have ha : (0 : Int) ≤ (i : Int) := by omega
  have hL : (i : Int) < ((n : Nat) : Int) := by omega
  obtain ⟨uk, ui, us⟩ := u
  dsimp only at hlook
  unfold maxLen at p4
  have ha2 : ¬ (i : Int) < 0 := by omega
  have ha3 : ¬ (n : Int) ≤ (i : Int) := by omega
  clear h
  generalize (i : Int) = a at *
  rcases hlook with ⟨⟨qk, qi, qs⟩, hlk, c, hcn, hmin, v0, v1, v2⟩ | hlk
  · replace hlk := hlk _ (Below.refl _ _)
    unfold PV.val at hlk
    have hc1 : (0 : Int) ≤ (c : Int) := by omega
    have hc2 : (c : Int) < (nf : Int) := by omega
    go_enter Tryd.func51, Tryd.ntmps51
    go_upto_region 3 with fail
    generalize w.alloc (.cells #[.int .i64 0, .int .i64 0, .string ⟨#[]⟩] 36) = w0 at *
    have B1 := (Below.refl w0.heap.size w0).alloc (Nat.le_refl _) (.cells #[.int .i64 qk, .int .i64 qi, .string qs] 36)
    have d2 := (B1.cell (p := ⟨tb, o + 2, none⟩) (World.block_lt_of_cell? _ _ c2)).trans c2
    have e0 := (B1.cell (p := ⟨g, c * 3, none⟩) (World.block_lt_of_cell? _ _ v0)).trans v0
    have e1 := (B1.cell (p := ⟨g, c * 3 + 1, none⟩) (World.block_lt_of_cell? _ _ v1)).trans v1
    have e2 := (B1.cell (p := ⟨g, c * 3 + 2, none⟩) (World.block_lt_of_cell? _ _ v2)).trans v2
    have Z1 := (B1.block w.heap.size (lt_of_block Z)).trans Z
    have HB := Lib.hid (B0.trans (B1.mono B0.size))
    go_upto_region 6 with fail
    clear c1 c2 c3 v0 v1 v2 Z B0 B1
    generalize w0.alloc (.cells #[.int .i64 qk, .int .i64 qi, .string qs] 36) = w1 at *
    obtain ⟨⟨y0, y1, y2⟩, f0, f1, f2⟩ := look3 Z1
    have H1 := Lib.hid Z1
    clear Z1 hlk
    go_region
    go_wp2
    exact bodyPost_ret (res_ve rfl _ _ w.heap.size _ _ _ rfl (put3 H1.out _ _ _)) rfl ⟨rfl, (put3_below HB.out (Nat.le_refl _) _ _ _).drew⟩
  · replace hlk := hlk _ (Below.refl _ _)
    unfold PV.val at hlk
    go_enter Tryd.func51, Tryd.ntmps51
    go_upto_region 3 with fail
    generalize w.alloc (.cells #[.int .i64 0, .int .i64 0, .string ⟨#[]⟩] 36) = w0 at *
    have B1 := (Below.refl w0.heap.size w0).alloc (Nat.le_refl _) (.cells #[.int .i64 uk, .int .i64 ui, .string us] 36)
    have Z1 := (B1.block w.heap.size (lt_of_block Z)).trans Z
    have Y1 := heap_alloc_new w0 (.cells #[.int .i64 uk, .int .i64 ui, .string us] 36)
    have HB := Lib.hid (B0.trans (B1.mono B0.size))
    go_upto_region 5 with fail
    clear c1 c2 c3 Z B0 B1
    generalize w0.alloc (.cells #[.int .i64 uk, .int .i64 ui, .string us] 36) = w1 at *
    obtain ⟨⟨x0, x1, x2⟩, -⟩ := look3 Y1
    obtain ⟨⟨y0, y1, y2⟩, f0, f1, f2⟩ := look3 Z1
    have H1 := Lib.hid Z1
    clear Z1 Y1 hlk
    go_wp2
    exact bodyPost_ret (res_ve rfl _ _ w.heap.size _ _ _ rfl (put3 H1.out _ _ _)) rfl ⟨rfl, put3_below HB.out (Nat.le_refl _) _ _ _⟩
set_option maxHeartbeats 2000000 in
/-- A part of a thing, by the thing's cells. -/
theorem ppart_any (T : List (Int × List PV)) (v : PV) (a : Int) (hb : Nat) (F : Nat → Prop) (w : World) (h : HeapM w hb T F) (h0 : 0 ≤ v.i) (hlt : v.i < T.length) (tb cap : Nat) (hc : w.cell? ⟨hb, 0, none⟩ = some (.slice (some ⟨tb, 0, none⟩) T.length cap)) :
    Calls Tryd.prog 51 #[.pointer (some ⟨tb, v.i.toNat * 4, none⟩), .int .i64 a] w fun e w' => e = VE (partT T v a).1 (partT T v a).2 ∧ Below w.heap.size w w' := by
  have Z := heap_alloc_new w (.cells #[.int .i64 0, .int .i64 0, .string ⟨#[]⟩] 36)
  have B0 := (Below.refl w.heap.size w).alloc (Nat.le_refl _) (.cells #[.int .i64 0, .int .i64 0, .string ⟨#[]⟩] 36)
  have hj : v.i.toNat < T.length := by omega
  have h' := h.below B0
  have hc' := (B0.cell (p := ⟨hb, 0, none⟩) (World.block_lt_of_cell? _ _ hc)).trans hc
  by_cases hin : 0 ≤ a ∧ a.toNat < T[v.i.toNat].2.length
  · obtain ⟨ha, hin⟩ := hin
    obtain ⟨tb', cap', g, nf, cp, mv, c0, p1, p2, c1, c2, c3, p3, p4, vk, hlook⟩ := h.part v.i.toNat hj a.toNat hin
    rw [hc] at c0
    obtain rfl : tb = tb' := by injection c0 with c0; injection c0 with c0; injection c0 with c0; injection c0 with c0
    have q := part_gen tb (v.i.toNat * 4) _ a.toNat _ w ⟨g, nf, cp, mv, c1, c2, c3, p3, p4, hin, vk, hlook⟩
    rw [Int.toNat_of_nonneg ha] at q
    rw [partT_in hj ha hin]
    exact q
  · have hin' : a < 0 ∨ (T[v.i.toNat].2.length : Int) ≤ a := by omega
    have HR : Hid (partT T v a = (⟨0, 0, ⟨#[]⟩⟩, 83)) := Lib.hid (partT_out hj hin')
    obtain ⟨tb', cap', g, pv, _, c0, p1, p2, -, c1, -, -, -, -, -, -⟩ := h'.thing v.i.toNat hj
    rw [hc'] at c0
    obtain rfl : tb = tb' := by injection c0 with c0; injection c0 with c0; injection c0 with c0; injection c0 with c0
    generalize partT T v a = r at HR
    generalize T[v.i.toNat].2.length = n at c1 hin'
    have HB := Lib.hid B0
    obtain ⟨⟨y0, y1, y2⟩, f0, f1, f2⟩ := look3 Z
    have H1 := Lib.hid Z
    clear h h' hc hc' c0 hin Z B0
    rcases hin' with hin' | hin'
    · have hin2 : decide (a < 0) = true := by simpa using hin'
      go_enter Tryd.func51, Tryd.ntmps51
      go_wp2
      exact bodyPost_ret (res_ve rfl _ _ w.heap.size _ _ _ rfl H1.out) rfl ⟨by rw [HR.out]; rfl, HB.out⟩
    · by_cases hn : a < 0
      · exfalso; omega
      · have hin3 : decide (a < 0) = false := decide_eq_false hn
        have hin4 : decide ((n : Int) ≤ a) = true := decide_eq_true hin'
        go_enter Tryd.func51, Tryd.ntmps51
        go_wp2
        exact bodyPost_ret (res_ve rfl _ _ w.heap.size _ _ _ rfl H1.out) rfl ⟨by rw [HR.out]; rfl, HB.out⟩

theorem three_new (w : World) (o p q : Obj) : (((w.alloc o).alloc p).alloc q).heap[w.heap.size]? = some o ∧ (((w.alloc o).alloc p).alloc q).heap[w.heap.size + 1]? = some p ∧ (((w.alloc o).alloc p).alloc q).heap[w.heap.size + 1 + 1]? = some q ∧ Below w.heap.size w (((w.alloc o).alloc p).alloc q) := by
  obtain ⟨h0, h1, h2⟩ := two_new w o p
  have hs : ((w.alloc o).alloc p).heap.size = w.heap.size + 1 + 1 := by rw [size_new, size_new]
  refine ⟨(Below.heap_alloc _ q _ (by omega)).trans h0, (Below.heap_alloc _ q _ (by omega)).trans h1, ?_, h2.alloc (by omega) _⟩
  have := heap_alloc_new ((w.alloc o).alloc p) q
  rwa [hs] at this
theorem put_row {W : World} {g o R : Nat} {u : PV} {x0 x1 x2 : Value} (hne : R ≠ g) (hR : W.heap[R]? = some (.cells #[x0, x1, x2] 36 (0, 0))) (y0 y1 y2 : Value) :
    ((((set3 W g o u).setCell ⟨R, 0, none⟩ y0).setCell ⟨R, 1, none⟩ y1).setCell ⟨R, 2, none⟩ y2).heap[R]? = some (.cells #[y0, y1, y2] 36 (0, 0)) := put3 ((set3_other hne).trans hR) _ _ _
theorem HeapM.drew {w : World} {hb : Nat} {T : List (Int × List PV)} {F : Nat → Prop} (h : HeapM w hb T F) : HeapM w.drew hb T F := h.move (fun _ _ _ => rfl) fun _ h => h
theorem Stp.drew {F F' : Nat → Prop} {w w' : World} (h : Stp F w F' w') : Stp F w F' w'.drew := ⟨⟨h.1.1.drew, h.1.2⟩, h.2⟩
theorem DoOk.drew {w w' : World} {hb : Nat} {F : Nat → Prop} {u : PV} {err : Int} {T : List (Int × List PV)} {e : Ending} (h : DoOk w hb F u err T e w') : DoOk w hb F u err T e w'.drew := by
  obtain ⟨h1, F', h2, h3⟩ := h
  exact ⟨h1, F', h2.drew, h3.drew⟩
theorem mapTurned.other {w w' : World} {b c : Nat} (h : w.mapTurned w' b) (hc : c ≠ b) : w'.heap[c]? = w.heap[c]? := by
  obtain ⟨es0, cl0, es', cl', q1, rfl⟩ := h
  exact Go.ChangeMaps.heap_setBlock_other q1 _ hc
theorem mapTurned.size {w w' : World} {b : Nat} (h : w.mapTurned w' b) : w'.heap.size = w.heap.size := by
  obtain ⟨es0, cl0, es', cl', q1, rfl⟩ := h
  simp [Go.ChangeMaps.setBlock]
theorem mapTurned.below {w w' : World} {b : Nat} (h : w.mapTurned w' b) : Below 0 w w' := by
  obtain ⟨es0, cl0, es', cl', q1, rfl⟩ := h
  exact ⟨rfl, rfl, rfl, by simp [Go.ChangeMaps.setBlock], fun k hk => absurd hk (Nat.not_lt_zero k)⟩
end Go.Proofs.YtpejhilfopjckaaDoor.Hp

/-
slices.Clone of values; package heap's add: a new thing in memory. No condition but that the heap lies in memory, and a bound on how many things there are.
-/
namespace Go.Proofs.YtpejhilfopjckaaDoor.Hp
open Go.ChangeShapes Go.WideShapes Go.ChangeAt Go.RowKit Go.Deep
open Dat (PT ok64 RepV RepS RowX infoDatum)
set_option maxRecDepth 100000

theorem parts_of_own {w : World} {C : Nat} {l : List PV} {v : Value} (h : w.ownsRow C 36 3 v l.length (vCells l)) (ho : ∀ u ∈ l, okV u) : ∃ g, PartsM w l g v ∧ (l ≠ [] → C ≤ g ∧ g < w.heap.size) := by
  rcases h.2 with ⟨rfl, h0⟩ | ⟨g, cap, cur, rfl, b1, b2, b3, b4, b5, b6⟩
  · exact ⟨0, .inl ⟨List.length_eq_zero_iff.1 h0, none, 0, by rw [], Nat.zero_le _, fun _ => rfl⟩, fun h => absurd (List.length_eq_zero_iff.1 h0) h⟩
  · by_cases h0 : l = []
    · subst h0
      exact ⟨g, .inl ⟨rfl, _, cap, rfl, b4, fun h => by cases h⟩, fun h => absurd rfl h⟩
    · exact ⟨g, .inr ⟨h0, ho, cap, cur, rfl, b3, b4, b2, b5, b6⟩, fun _ => ⟨b1, lt_of_block b2⟩⟩
/-- What is answered is a row of these values in a new block. -/
def NewP (C : Nat) (l : List PV) (e : Ending) (w : World) : Prop := ∃ v g, e = .returned v ∧ PartsM w l g v ∧ (l ≠ [] → C ≤ g ∧ g < w.heap.size)
set_option maxHeartbeats 1000000 in
theorem clone_any (l : List PV) (v : Value) (S : Nat → Prop) (w : World) (h : InP w S l v) (hlen : l.length ≤ 1000000) :
    Calls Tryd.prog 24 #[v] w fun e w' => NewP w.heap.size l e w' ∧ Below w.heap.size w w' := by
  obtain ⟨i0, hi, hz0, hz1, hz2⟩ := info_parts infoVal
  obtain ⟨a, c, rfl, h1, h2, h3, h4⟩ := h
  match a with
  | none =>
    obtain rfl : l = [] := by
      rcases h4 with h4 | ⟨b, o, e, _⟩
      · exact h4
      · cases e
    have he : ∀ w : World, (binOp .eql 30 (.slice none 0 0) (.slice none 0 0)).run Tryd.prog w = .ok (.bool true) w := fun _ => rfl
    obtain rfl := h3 rfl
    clear h1 h2 h3 h4
    show Calls Tryd.prog 24 #[.slice none 0 0] w _
    go_enter Tryd.func24, Tryd.ntmps24
    go_wp2
    go_ret
    exact ⟨⟨_, 0, rfl, .inl ⟨rfl, none, 0, rfl, Nat.zero_le _, fun _ => rfl⟩, fun h => absurd rfl h⟩, Below.refl _ _⟩
  | some ad =>
    have hsrc : (∀ j u, (vCells l)[j]? = some u → (w.alloc (.cells #[] 36)).cell? (ad.add j) = some u) ∧ ∀ u ∈ l, okV u := by
      rcases h4 with rfl | ⟨b, o, e, _, hv⟩
      · exact ⟨fun j u h => by simp [vCells] at h, fun u h => by cases h⟩
      · cases e
        refine ⟨fun j u hu => ?_, hv.2⟩
        rw [add_plain]
        have := hv.1 j u hu
        exact (((Below.refl w.heap.size w).alloc (Nat.le_refl _) (.cells #[] 36)).cell (p := ⟨b, o + j, none⟩) (World.block_lt_of_cell? _ _ this)).trans this
    have HS := Lib.hid hsrc
    have HO : Hid ((w.alloc (.cells #[] 36)).ownsRow w.heap.size 36 3 (.slice (some ⟨w.heap.size, 0, none⟩) 0 0) 0 []) :=
      Lib.hid ⟨rfl, .inr ⟨w.heap.size, 0, #[], rfl, Nat.le_refl _, heap_alloc_new w _, Nat.le_refl _, Nat.zero_le _, rfl, rfl⟩⟩
    have he : ∀ w : World, (binOp .eql 30 (.slice (some ad) l.length c) (.slice none 0 0)).run Tryd.prog w = .ok (.bool false) w := fun _ => rfl
    have HL := Lib.hid (vCells_len l)
    clear h3 h4 hsrc
    go_enter Tryd.func24, Tryd.ntmps24
    go_wp2_with (at_builtin; refine wpList_append_own _ rfl _ _ 30 rfl w.heap.size 36 i0 _ 3 32 Tryd.underlying30 hi hz0 hz1 hz2 rfl (by decide) (.slice (some ⟨w.heap.size, 0, none⟩) 0 0) 0 [] rfl HO.out ad l.length c (vCells l) rfl HL.out HS.out.1 (vCells_one l) (by unfold maxLen; omega) (by omega) (by rw [size_new]; omega) ?_; intro v' w' ho hg _)
    have HOO := Lib.hid ho
    have HB := Lib.hid (((Below.refl w.heap.size w).alloc (Nat.le_refl _) (.cells #[] 36)).grown hg (by rw [size_new]; omega) (by intro k hk; cases hk; exact Nat.le_refl _))
    clear ho hg
    go_ret
    simp only [Nat.zero_add, List.nil_append] at HOO
    obtain ⟨g, hp, hg⟩ := parts_of_own HOO.out HS.out.2
    exact ⟨⟨_, g, rfl, hp, hg⟩, HB.out⟩

/-- The heap with one thing more. -/
theorem HeapM.snoc {w w' : World} {hb : Nat} {T : List (Int × List PV)} {F F' : Nat → Prop} {kind : Int} {l : List PV} {g0 : Nat} {p0 : Value} {sv : Value} (hk : ok64 kind) (hp : Piece w' (kind, l) g0 p0 (.map none)) (hg0 : l ≠ [] → ¬ F g0)
    {xs : List Value} {g : Nat → Nat} {pv mv : Nat → Value} (h5 : Each w T F xs g pv mv) (hxl : xs.length = T.length * 4)
    (hmv : ∀ j (h : j < T.length), T[j].2 ≠ [] → w'.heap[g j]? = w.heap[g j]?) (hmm : ∀ j (_ : j < T.length) b, mv j = .map (some b) → w'.heap[b]? = w.heap[b]?)
    (hhb : w'.heap[hb]? = some (.cells #[sv] 57 (0, 0))) (hown : w'.ownsRow 0 83 4 sv (T.length + 1) (xs ++ [.int .i64 kind, .int .i64 (l.length : Int), p0, .map none]))
    (hF : ∀ b, F b → F' b) (hFh : F' hb) (hFs : ∀ b, sv.ownBlock = some b → F' b) (hFg : l ≠ [] → F' g0) : HeapM w' hb (T ++ [(kind, l)]) F' := by
  refine ⟨sv, _, fun j => if j = T.length then g0 else g j, fun j => if j = T.length then p0 else pv j, fun j => if j = T.length then .map none else mv j, hhb, hFh, by simpa using hown, hFs, fun j hj => ?_⟩
  have hj' : j ≤ T.length := by simp at hj; omega
  rcases Nat.lt_or_ge j T.length with hlt | hge
  · obtain ⟨⟨a1, a2, a7, a8⟩, a3, a4, a5, am, a6⟩ := h5 j hlt
    have e : (T ++ [(kind, l)])[j] = T[j] := List.getElem_append_left hlt
    have hjne : ¬ j = T.length := by omega
    simp only [e, hjne, if_false]
    refine ⟨⟨by rw [List.getElem?_append_left (by omega)]; exact a1, by rw [List.getElem?_append_left (by omega)]; exact a2, by rw [List.getElem?_append_left (by omega)]; exact a7, by rw [List.getElem?_append_left (by omega)]; exact a8⟩, a3, a4.move (hmv j hlt) (hmm j hlt), fun h => hF _ (a5 h), fun b h => hF _ (am b h), fun k hk hne => ?_⟩
    rcases Nat.lt_or_ge k T.length with hk' | hk'
    · rw [if_neg (by omega), if_neg (by omega)]
      rw [show (T ++ [(kind, l)])[k] = T[k] from List.getElem_append_left hk']
      exact a6 k hk' hne
    · have : k = T.length := by simp at hk; omega
      subst this
      rw [if_pos rfl, if_pos rfl]
      refine ⟨fun h1 h2 e => ?_, fun q => q⟩
      refine hg0 (by simpa using h2) ?_
      rw [← e]
      exact a5 h1
  · have : j = T.length := by omega
    subst this
    have e : (T ++ [(kind, l)])[T.length] = (kind, l) := by simp
    simp only [e, if_true]
    refine ⟨⟨by rw [List.getElem?_append_right (by omega)]; simp [hxl], by rw [List.getElem?_append_right (by omega)]; simp [hxl], by rw [List.getElem?_append_right (by omega)]; simp [hxl], by rw [List.getElem?_append_right (by omega)]; simp [hxl]⟩, hk, hp, hFg, fun b h => by simp at h, fun k hk' hne => ⟨fun h1 h2 => ?_, fun _ => by first | trivial | rfl⟩⟩
    have hk2 : k < T.length := by simp at hk'; omega
    rw [if_neg (by omega)]
    intro e2
    refine hg0 h1 ?_
    rw [e2]
    exact (h5 k hk2).2.2.2.1 (by rwa [show (T ++ [(kind, l)])[k] = T[k] from List.getElem_append_left hk2] at h2)

/-- What is behind add: the heap with one thing more; its parts lie in g0. -/
def AddOk (w : World) (hb : Nat) (F : Nat → Prop) (l : List PV) (g0 : Nat) (T : List (Int × List PV)) (n : Int) (e : Ending) (w' : World) : Prop :=
  e = .returned (.agg #[.int .i64 8, .int .i64 n, .string ⟨#[]⟩]) ∧ ∃ F', HeapM w' hb T F' ∧ KpF F w w' ∧ ∀ b, F' b → F b ∨ (l ≠ [] ∧ b = g0) ∨ w.heap.size ≤ b
theorem ne_of_types {w : World} {b c : Nat} {x y : Array Value} {t u : TypeId} {f g : Nat × Nat} (h : w.heap[b]? = some (.cells x t f)) (k : w.heap[c]? = some (.cells y u g)) (hn : t ≠ u) : b ≠ c := by
  intro e
  subst e
  rw [h] at k
  exact hn (Obj.cells.inj (Option.some.inj k)).2.1
set_option maxHeartbeats 1000000 in
theorem add_end {w w1 : World} {hb tb cap g0 : Nat} {T : List (Int × List PV)} {F : Nat → Prop} {kind : Int} {l lf : List PV} {pa sa : Option Addr} {pc sc : Nat} {xs : List Value} {g : Nat → Nat} {pv mv : Nat → Value} {o p : Obj} {z0 z1 z2 y0 y1 y2 : Value}
    (hk : ok64 kind) (hp : PartsM w lf g0 (.slice pa lf.length pc)) (hpp : ∀ W : World, PartsM W lf g0 (.slice pa lf.length pc) → Piece W (kind, l) g0 (.slice pa lf.length pc) (.map none)) (hll : l ≠ [] → lf ≠ []) (hg0 : lf ≠ [] → ¬ F g0 ∧ g0 < w.heap.size) (_hF : ∀ b, F b → b < w.heap.size) (h2 : F hb) (h1 : w.heap[hb]? = some (.cells #[.slice sa T.length sc] 57 (0, 0)))
    (h3 : w.ownsRow 0 83 4 (.slice sa T.length sc) T.length xs) (h4 : ∀ b, (Value.slice sa T.length sc).ownBlock = some b → F b)
    (h5 : Each w T F xs g pv mv)
    (_hne : some hb ≠ (Value.slice sa T.length sc).ownBlock ∧ some w.heap.size ≠ (Value.slice sa T.length sc).ownBlock)
    (hoo : w1.ownsRow 0 83 4 (.slice (some ⟨tb, 0, none⟩) (T.length + 1) cap) (T.length + 1) (xs ++ [.int .i64 kind, .int .i64 (l.length : Int), .slice pa lf.length pc, .map none]))
    (hgg : ((w.alloc o).alloc p).grownBy w1 (Value.slice sa T.length sc).ownBlock) (hat : (Value.slice sa T.length sc).ownBlock = some tb ∨ tb = w.heap.size + 1 + 1)
    (e1 : w1.heap[hb]? = some (.cells #[.slice sa T.length sc] 57 (0, 0))) (e2 : w1.heap[w.heap.size]? = some (.cells #[z0, z1, z2] 36 (0, 0))) :
    ∃ F', HeapM ((((w1.setCell ⟨hb, 0, none⟩ (.slice (some ⟨tb, 0, none⟩) (T.length + 1) cap)).setCell ⟨w.heap.size, 0, none⟩ y0).setCell ⟨w.heap.size, 1, none⟩ y1).setCell ⟨w.heap.size, 2, none⟩ y2) hb (T ++ [(kind, l)]) F' ∧
      KpF F w ((((w1.setCell ⟨hb, 0, none⟩ (.slice (some ⟨tb, 0, none⟩) (T.length + 1) cap)).setCell ⟨w.heap.size, 0, none⟩ y0).setCell ⟨w.heap.size, 1, none⟩ y1).setCell ⟨w.heap.size, 2, none⟩ y2) ∧ ∀ b, F' b → F b ∨ (lf ≠ [] ∧ b = g0) ∨ w.heap.size ≤ b := by
  have hbl := lt_of_block h1
  have htb : w1.heap[tb]? = some (.cells ((w1.heap[tb]?.map fun o => match o with | .cells c _ _ => c | _ => #[]).getD #[]) 83 (0, 0)) := by
    rcases hoo.2 with ⟨e, _⟩ | ⟨tb', cap', cur, e, _, b2, _⟩
    · cases e
    · cases e
      rw [b2]
      rfl
  have k1 : tb ≠ hb := ne_of_types htb e1 (by decide)
  have k2 : tb ≠ w.heap.size := ne_of_types htb e2 (by decide)
  have off : ∀ b, b ≠ hb → b ≠ w.heap.size → ((((w1.setCell ⟨hb, 0, none⟩ (.slice (some ⟨tb, 0, none⟩) (T.length + 1) cap)).setCell ⟨w.heap.size, 0, none⟩ y0).setCell ⟨w.heap.size, 1, none⟩ y1).setCell ⟨w.heap.size, 2, none⟩ y2).heap[b]? = w1.heap[b]? := fun b n1 n2 => by
    rw [put3_other _ _ _ n2, Below.heap_setCell _ _ _ _ n1]
  have old : ∀ b, b < w.heap.size → b ≠ hb → some b ≠ (Value.slice sa T.length sc).ownBlock → ((((w1.setCell ⟨hb, 0, none⟩ (.slice (some ⟨tb, 0, none⟩) (T.length + 1) cap)).setCell ⟨w.heap.size, 0, none⟩ y0).setCell ⟨w.heap.size, 1, none⟩ y1).setCell ⟨w.heap.size, 2, none⟩ y2).heap[b]? = w.heap[b]? := fun b hlt n1 n2 => by
    rw [off b n1 (by omega), hgg.block b (by rw [size_new, size_new]; omega) n2]
    exact (two_new w o p).2.2.block b hlt
  have hown : ∀ b, some b = (Value.slice sa T.length sc).ownBlock → ∃ cur, w.heap[b]? = some (.cells cur 83 (0, 0)) := fun b hb => by
    rcases h3.2 with ⟨e, _⟩ | ⟨tb', cap', cur, e, _, b2, _⟩
    · rw [e] at hb; cases hb
    · rw [e] at hb; cases hb; exact ⟨cur, b2⟩
  refine ⟨fun b => F b ∨ (lf ≠ [] ∧ b = g0) ∨ b = tb, ?_, ⟨?_, fun b hlt hn => ?_⟩, fun b hb => ?_⟩
  · refine HeapM.snoc (w := w) (g0 := g0) (p0 := .slice pa lf.length pc) (F := F) (sv := .slice (some ⟨tb, 0, none⟩) (T.length + 1) cap) hk (hpp _ (hp.move fun hl => ?_)) (fun hl => (hg0 (hll hl)).1) h5 h3.1 (fun j hj hl => ?_) (fun j hj b hl => ?_) ?_ ?_ (fun b h => .inl h) (.inl h2) (fun b hb => .inr (.inr (by cases hb; rfl))) (fun h => .inr (.inl ⟨hll h, rfl⟩))
    · exact old g0 (hg0 hl).2 (fun e => (hg0 hl).1 (e ▸ h2)) (fun e => (hg0 hl).1 (h4 _ e.symm))
    · obtain ⟨cur, c3⟩ := (h5 j hj).2.2.1.cells hl
      refine old _ (lt_of_block c3) (ne_of_types c3 h1 (by decide)) (fun e => ?_)
      obtain ⟨cur2, q⟩ := hown _ e
      exact ne_of_types c3 q (by decide) rfl
    · obtain ⟨es, cl, c3⟩ := (h5 j hj).2.2.1.obj hl
      refine old _ (lt_of_block c3) (fun e => ?_) (fun e => ?_)
      · rw [e, h1] at c3
        cases c3
      · obtain ⟨cur2, q⟩ := hown _ e
        rw [c3] at q
        cases q
    · rw [put3_other _ _ _ (by omega)]
      exact heap_setCell_same w1 hb 0 _ _ _ e1
    · exact ⟨hoo.1, hoo.2.imp id fun ⟨tb', cap', cur, e, b1, b2, b3⟩ => ⟨tb', cap', cur, e, b1, by cases e; exact (off tb k1 k2).trans b2, b3⟩⟩
  · exact put3_below ((((two_new w o p).2.2.mono (Nat.zero_le _)).grown hgg (Nat.zero_le _) (fun _ _ => Nat.zero_le _)).setCell (p := ⟨hb, 0, none⟩) (Nat.zero_le _) _) (Nat.zero_le _) _ _ _
  · exact old b hlt (fun e => hn (e ▸ h2)) (fun e => hn (h4 _ e.symm))
  · rcases hb with hb | ⟨hl, rfl⟩ | rfl
    · exact .inl hb
    · exact .inr (.inl ⟨hl, rfl⟩)
    · rcases hat with hat | hat
      · exact .inl (h4 _ hat)
      · exact .inr (.inr (by omega))
set_option maxHeartbeats 1000000 in
/-- A new thing: lf are its first parts. -/
theorem add_gen (kind : Int) (l lf : List PV) (g0 : Nat) (p0 : Value) (hb : Nat) (T : List (Int × List PV)) (F : Nat → Prop) (w : World) (h : HeapM w hb T F) (hF : ∀ b, F b → b < w.heap.size) (hk : ok64 kind) (hp : PartsM w lf g0 p0) (hpp : ∀ W : World, PartsM W lf g0 p0 → Piece W (kind, l) g0 p0 (.map none)) (hll : l ≠ [] → lf ≠ []) (hg0 : lf ≠ [] → ¬ F g0 ∧ g0 < w.heap.size) (hT : T.length ≤ 100000) :
    Calls Tryd.prog 23 #[.pointer (some ⟨hb, 0, none⟩), .int .i64 kind, .int .i64 (l.length : Int), p0] w fun e w' => AddOk w hb F lf g0 (T ++ [(kind, l)]) T.length e w' := by
  obtain ⟨i0, hi, hz0, hz1, hz2⟩ := info_parts infoPiece
  obtain ⟨sv, xs, g, pv, mv, h1, h2, h3, h4, h5⟩ := h
  have H5 := Lib.hid h5
  obtain ⟨pa, pc, rfl, _, _⟩ := hp.slice
  have HP := Lib.hid hp
  have HPP := Lib.hid hpp
  have hbl := lt_of_block h1
  obtain ⟨Z0, Z1, B0⟩ := two_new w (.cells #[.int .i64 0, .int .i64 0, .string ⟨#[]⟩] 36) (.cells #[.int .i64 kind, .int .i64 (l.length : Int), .slice pa lf.length pc, .map none] 83)
  have c0 : w.cell? ⟨hb, 0, none⟩ = some sv := by rw [Lib.cell_of_heap h1]; rfl
  have f0 : w.frozen? ⟨hb, 0, none⟩ = false := Lib.frozen_of_heap h1 0
  have hsl : ∃ a c, sv = .slice a T.length c := by
    rcases h3.2 with ⟨rfl, h0⟩ | ⟨tb, cap, cur, rfl, _⟩
    · exact ⟨none, 0, by rw [h0]⟩
    · exact ⟨_, cap, rfl⟩
  obtain ⟨sa, sc, rfl⟩ := hsl
  have HO : Hid (((w.alloc (.cells #[.int .i64 0, .int .i64 0, .string ⟨#[]⟩] 36)).alloc (.cells #[.int .i64 kind, .int .i64 (l.length : Int), .slice pa lf.length pc, .map none] 83)).ownsRow 0 83 4 (.slice sa T.length sc) T.length xs) := Lib.hid ⟨h3.1, h3.2.imp id (by
    rintro ⟨tb, cap, cur, e, b1, b2, b3⟩
    exact ⟨tb, cap, cur, e, b1, (B0.block tb (lt_of_block b2)).trans b2, b3⟩)⟩
  have HNE : Hid (some hb ≠ (Value.slice sa T.length sc).ownBlock ∧ some w.heap.size ≠ (Value.slice sa T.length sc).ownBlock) := Lib.hid (by
    refine ⟨fun e => ?_, fun e => ?_⟩
    · rcases h3.2 with ⟨e2, h0⟩ | ⟨tb, cap, cur, e2, b1, b2, _⟩
      · rw [e2] at e; cases e
      · rw [e2] at e
        cases e
        rw [h1] at b2
        have b2 := Obj.cells.inj (Option.some.inj b2)
        exact absurd b2.2.1 (by decide)
    · have := hF _ (h4 _ e.symm); omega)
  have H1 := Lib.hid h1
  have H2 := Lib.hid h2
  have H3 := Lib.hid h3
  have H4 := Lib.hid h4
  have HF := Lib.hid hF
  have HG := Lib.hid hg0
  clear h1 h2 h3 h4 h5 hp hpp hF hg0 Z0 Z1 B0
  go_enter Tryd.func23, Tryd.ntmps23
  go_wp2_with
    (at_builtin
     refine wpList_append_lies _ rfl _ _ 55 rfl 0 83 i0 _ 4 48 Tryd.underlying55 hi hz0 hz1 hz2 rfl (by decide) (.slice sa T.length sc) T.length xs rfl HO.out ⟨w.heap.size + 1, 0, none⟩ 1 1 [.int .i64 kind, .int .i64 (l.length : Int), .slice pa lf.length pc, .map none] rfl rfl (World.news_of_block (two_new w _ _).2.1) (by intro u hu; simp only [List.mem_cons, List.not_mem_nil, or_false] at hu; rcases hu with rfl | rfl | rfl | rfl <;> rfl) (by decide) (by unfold maxLen; omega) (by omega) (Nat.zero_le _) (w.heap.size + 1 + 1) (by rw [size_new, size_new]) ?_
     intro tb cap w1 ho hg hat hlt
     have e1 := (hg.block hb (by rw [size_new, size_new]; omega) HNE.out.1).trans (((two_new w _ _).2.2.block hb hbl).trans H1.out)
     have e2 := (hg.block w.heap.size (by rw [size_new, size_new]; omega) HNE.out.2).trans (two_new w _ _).1
     have c1 : w1.cell? ⟨hb, 0, none⟩ = some (.slice sa T.length sc) := by rw [Lib.cell_of_heap e1]; rfl
     have f1 : w1.frozen? ⟨hb, 0, none⟩ = false := Lib.frozen_of_heap e1 0
     obtain ⟨⟨y0, y1, y2⟩, f2, f3, f4⟩ := look3 e2
     have HOO := Lib.hid ho
     have HGG := Lib.hid hg
     have HAT := Lib.hid hat
     have E1 := Lib.hid e1
     have E2 := Lib.hid e2
     clear ho hg hat e1 e2)
  have E := add_end (l := l) (y0 := .int .i64 8) (y1 := .int .i64 T.length) (y2 := .string ⟨#[]⟩) hk HP.out HPP.out hll HG.out HF.out H2.out H1.out H3.out H4.out H5.out HNE.out HOO.out HGG.out HAT.out E1.out E2.out
  have E3 := put3 (W := w1.setCell ⟨hb, 0, none⟩ (.slice (some ⟨tb, 0, none⟩) (T.length + 1) cap)) ((Below.heap_setCell _ _ _ _ (by show w.heap.size ≠ hb; omega)).trans E2.out) (.int .i64 8) (.int .i64 T.length) (.string ⟨#[]⟩)
  generalize (((w1.setCell ⟨hb, 0, none⟩ (.slice (some ⟨tb, 0, none⟩) (T.length + 1) cap)).setCell ⟨w.heap.size, 0, none⟩ (.int .i64 8)).setCell ⟨w.heap.size, 1, none⟩ (.int .i64 T.length)).setCell ⟨w.heap.size, 2, none⟩ (.string ⟨#[]⟩) = W at E E3 ⊢
  exact bodyPost_ret (res_v rfl _ _ w.heap.size _ _ _ rfl E3) rfl ⟨rfl, E⟩
theorem add_any (kind : Int) (l : List PV) (g0 : Nat) (p0 : Value) (hb : Nat) (T : List (Int × List PV)) (F : Nat → Prop) (w : World) (h : HeapM w hb T F) (hF : ∀ b, F b → b < w.heap.size) (hk : ok64 kind) (hp : PartsM w l g0 p0) (hg0 : l ≠ [] → ¬ F g0 ∧ g0 < w.heap.size) (hT : T.length ≤ 100000) :
    Calls Tryd.prog 23 #[.pointer (some ⟨hb, 0, none⟩), .int .i64 kind, .int .i64 (l.length : Int), p0] w fun e w' => AddOk w hb F l g0 (T ++ [(kind, l)]) T.length e w' :=
  add_gen kind l l g0 p0 hb T F w h hF hk hp (fun _ q => .inl ⟨rfl, q⟩) id hg0 hT
end Go.Proofs.YtpejhilfopjckaaDoor.Hp
