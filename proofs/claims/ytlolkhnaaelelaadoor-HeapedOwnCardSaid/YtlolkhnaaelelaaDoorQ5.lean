/-
Package heap's part and change. No condition but that the heap lies in memory, and that the value is a thing of its own.
-/
import Derived.Test.YtlolkhnaaelelaaDoorQ4
import Derived.Deep.DeepCutAuto
namespace Go.Proofs.YtlolkhnaaelelaaDoor.Hp
open Go.ChangeShapes Go.WideShapes Go.ChangeAt Go.RowKit Go.Deep
open Dat (PT ok64 RepV RepS RowX infoDatum)
set_option maxRecDepth 100000

/-- What is answered is a value and an error. -/
def VE (u : PV) (err : Int) : Ending := .returned (.tuple #[.agg #[.int .i64 u.k, .int .i64 u.i, .string u.s], .int .i64 err])
theorem partT_in {T : List (Int × List PV)} {v : PV} {a : Int} (hj : v.i.toNat < T.length) (h0 : 0 ≤ a) (hi : a.toNat < T[v.i.toNat].2.length) : partT T v a = (T[v.i.toNat].2[a.toNat], 0) := by
  simp [partT, List.getElem?_eq_getElem hj, h0, List.getElem?_eq_getElem hi]
theorem partT_out {T : List (Int × List PV)} {v : PV} {a : Int} (hj : v.i.toNat < T.length) (h : a < 0 ∨ (T[v.i.toNat].2.length : Int) ≤ a) : partT T v a = (⟨0, 0, ⟨#[]⟩⟩, 83) := by
  unfold partT
  rw [List.getElem?_eq_getElem hj]
  by_cases h0 : 0 ≤ a
  · simp only [h0, if_true]
    rw [List.getElem?_eq_none (by omega)]
  · simp only [h0, if_false]
theorem PartsM.slice {w : World} {l : List PV} {g : Nat} {v : Value} (h : PartsM w l g v) : ∃ a c, v = .slice a l.length c ∧ l.length ≤ c ∧ c ≤ maxLen := by
  rcases h with ⟨rfl, a, c, e, h1, h2⟩ | ⟨h0, ho, cap, cur, e, h1, h2, h3, h4, h5⟩
  · exact ⟨a, c, e, Nat.zero_le _, h1⟩
  · exact ⟨_, cap, e, h1, h2⟩
/-- What is behind a call: a value, an error, and the heap. -/
def DoOk (w : World) (hb : Nat) (F : Nat → Prop) (u : PV) (err : Int) (T : List (Int × List PV)) (e : Ending) (w' : World) : Prop := e = VE u err ∧ ∃ F', HeapM w' hb T F' ∧ Stp F w F' w'
theorem DoOk.of {w w' : World} {hb : Nat} {F : Nat → Prop} {u : PV} {err : Int} {T : List (Int × List PV)} {e : Ending} (h : HeapM w hb T F) (he : e = VE u err) (hb' : Below w.heap.size w w') : DoOk w hb F u err T e w' :=
  ⟨he, F, h.below hb', Stp.of_below hb'⟩
/-- What a thing's part is set to. -/
def putT (T : List (Int × List PV)) (v : PV) (a : Int) (u : PV) : PV × Int × List (Int × List PV) :=
  if 0 ≤ a ∧ a.toNat < ((T[v.i.toNat]?.map (·.2)).getD []).length then (⟨5, 0, ⟨#[]⟩⟩, 0, setT T v.i.toNat a.toNat u) else (⟨0, 0, ⟨#[]⟩⟩, 83, T)
theorem putT_in {T : List (Int × List PV)} {v : PV} {a : Int} {u : PV} (hj : v.i.toNat < T.length) (h0 : 0 ≤ a) (hi : a.toNat < T[v.i.toNat].2.length) : putT T v a u = (⟨5, 0, ⟨#[]⟩⟩, 0, setT T v.i.toNat a.toNat u) := by
  unfold putT
  rw [List.getElem?_eq_getElem hj, if_pos ⟨h0, hi⟩]
theorem putT_out {T : List (Int × List PV)} {v : PV} {a : Int} {u : PV} (hj : v.i.toNat < T.length) (h : a < 0 ∨ (T[v.i.toNat].2.length : Int) ≤ a) : putT T v a u = (⟨0, 0, ⟨#[]⟩⟩, 83, T) := by
  unfold putT
  rw [List.getElem?_eq_getElem hj, if_neg (fun h' => by simp only [Option.map_some, Option.getD_some] at h'; omega)]
set_option maxHeartbeats 1000000 in
theorem thingOf_any (k i : Int) (s : ByteArray) (hb tb n cap : Nat) (w : World) (hc : w.cell? ⟨hb, 0, none⟩ = some (.slice (some ⟨tb, 0, none⟩) n cap)) (h0 : 0 ≤ i) (hlt : i < n) (_h1 : n ≤ cap) (_h2 : cap ≤ maxLen) :
    Calls Tryd.prog 51 #[.pointer (some ⟨hb, 0, none⟩), .agg #[.int .i64 k, .int .i64 i, .string s]] w fun e w' => e = .returned (.pointer (some ⟨tb, i.toNat * 4, none⟩)) ∧ Below w.heap.size w w' := by
  have Z := heap_alloc_new w (.cells #[.int .i64 k, .int .i64 i, .string s] 36)
  have B0 := Lib.hid ((Below.refl w.heap.size w).alloc (Nat.le_refl _) (.cells #[.int .i64 k, .int .i64 i, .string s] 36))
  have c0 := (B0.out.cell (p := ⟨hb, 0, none⟩) (World.block_lt_of_cell? _ _ hc)).trans hc
  unfold maxLen at _h2
  clear hc
  go_enter Tryd.func51, Tryd.ntmps51
  go_wp2
  generalize w.alloc (.cells #[.int .i64 k, .int .i64 i, .string s] 36) = w0 at *
  have z1 : w0.cell? ⟨w.heap.size, 1, none⟩ = some (.int .i64 i) := by rw [Lib.cell_of_heap Z]; rfl
  clear Z
  go_quiet (fail)
  go_wp2
  go_ret
  exact ⟨rfl, Dat.below_drewN B0.out _⟩
/-- Part i of a thing of n parts, whose four cells lie from ⟨tb, o⟩ on, is u. -/
def PartC (w : World) (tb o n i : Nat) (u : PV) : Prop :=
  ∃ g nf cp mv, w.cell? ⟨tb, o + 1, none⟩ = some (.int .i64 (n : Int)) ∧ w.cell? ⟨tb, o + 2, none⟩ = some (.slice (some ⟨g, 0, none⟩) nf cp) ∧ w.cell? ⟨tb, o + 3, none⟩ = some mv ∧ nf ≤ cp ∧ cp ≤ maxLen ∧ i < n ∧ okV u ∧
    ((∃ q : PV, (∀ W : World, Below w.heap.size w W → (Instr.lookup 81 mv (.int .i64 i) true).run Tryd.prog W = .ok (.tuple #[q.val, .bool false]) W) ∧ ∃ c : Nat, c < nf ∧ min (i : Int) ((nf : Int) - 1) = c ∧
        w.cell? ⟨g, c * 3, none⟩ = some (.int .i64 u.k) ∧ w.cell? ⟨g, c * 3 + 1, none⟩ = some (.int .i64 u.i) ∧ w.cell? ⟨g, c * 3 + 2, none⟩ = some (.string u.s)) ∨
     (∀ W : World, Below w.heap.size w W → (Instr.lookup 81 mv (.int .i64 i) true).run Tryd.prog W = .ok (.tuple #[u.val, .bool true]) W))
theorem PartC.below {w w' : World} {tb o n i : Nat} {u : PV} (h : PartC w tb o n i u) (hb : Below w.heap.size w w') : PartC w' tb o n i u := by
  obtain ⟨g, nf, cp, mv, c1, c2, c3, p3, p4, hi, hu, hl⟩ := h
  have cl : ∀ {b j : Nat} {x : Value}, w.cell? ⟨b, j, none⟩ = some x → w'.cell? ⟨b, j, none⟩ = some x := fun {b j x} hx => (hb.cell (p := ⟨b, j, none⟩) (World.block_lt_of_cell? _ _ hx)).trans hx
  refine ⟨g, nf, cp, mv, cl c1, cl c2, cl c3, p3, p4, hi, hu, hl.imp ?_ ?_⟩
  · rintro ⟨q, h1, c, h2, h3, h4, h5, h6⟩
    exact ⟨q, fun W hW => h1 W (hb.trans (hW.mono hb.size)), c, h2, h3, cl h4, cl h5, cl h6⟩
  · exact fun h1 W hW => h1 W (hb.trans (hW.mono hb.size))
set_option maxHeartbeats 2000000 in
/-- A part of a thing, by the thing's cells, wherever they lie. -/
theorem part_gen (tb o n i : Nat) (u : PV) (w : World) (h : PartC w tb o n i u) :
    Calls Tryd.prog 52 #[.pointer (some ⟨tb, o, none⟩), .int .i64 (i : Int)] w fun e w' => e = VE u 0 ∧ Below w.heap.size w w' := by
  have Z := heap_alloc_new w (.cells #[.int .i64 0, .int .i64 0, .string ⟨#[]⟩] 36)
  have B0 := (Below.refl w.heap.size w).alloc (Nat.le_refl _) (.cells #[.int .i64 0, .int .i64 0, .string ⟨#[]⟩] 36)
  obtain ⟨g, nf, cp, mv, c1, c2, c3, p3, p4, hin, vk, hlook⟩ := h.below B0
  have ha : (0 : Int) ≤ (i : Int) := by omega
  have hL : (i : Int) < ((n : Nat) : Int) := by omega
  obtain ⟨uk, ui, us⟩ := u
  dsimp only at hlook
  unfold maxLen at p4
  have ha2 : ¬ (i : Int) < 0 := by omega
  have ha3 : ¬ (n : Int) ≤ (i : Int) := by omega
  clear h
  generalize (i : Int) = a at *
  rcases hlook with ⟨⟨qk, qi, qs⟩, hlk, c, hcn, hmin, v0, v1, v2⟩ | hlk
  · replace hlk := hlk _ (Below.refl _ _)
    unfold PV.val at hlk
    have hc1 : (0 : Int) ≤ (c : Int) := by omega
    have hc2 : (c : Int) < (nf : Int) := by omega
    go_enter Tryd.func52, Tryd.ntmps52
    go_upto_region 3 with fail
    generalize w.alloc (.cells #[.int .i64 0, .int .i64 0, .string ⟨#[]⟩] 36) = w0 at *
    have B1 := (Below.refl w0.heap.size w0).alloc (Nat.le_refl _) (.cells #[.int .i64 qk, .int .i64 qi, .string qs] 36)
    have d2 := (B1.cell (p := ⟨tb, o + 2, none⟩) (World.block_lt_of_cell? _ _ c2)).trans c2
    have e0 := (B1.cell (p := ⟨g, c * 3, none⟩) (World.block_lt_of_cell? _ _ v0)).trans v0
    have e1 := (B1.cell (p := ⟨g, c * 3 + 1, none⟩) (World.block_lt_of_cell? _ _ v1)).trans v1
    have e2 := (B1.cell (p := ⟨g, c * 3 + 2, none⟩) (World.block_lt_of_cell? _ _ v2)).trans v2
    have Z1 := (B1.block w.heap.size (lt_of_block Z)).trans Z
    have HB := Lib.hid (B0.trans (B1.mono B0.size))
    go_upto_region 6 with fail
    clear c1 c2 c3 v0 v1 v2 Z B0 B1
    generalize w0.alloc (.cells #[.int .i64 qk, .int .i64 qi, .string qs] 36) = w1 at *
    obtain ⟨⟨y0, y1, y2⟩, f0, f1, f2⟩ := look3 Z1
    have H1 := Lib.hid Z1
    clear Z1 hlk
    go_region
    go_wp2
    exact bodyPost_ret (res_ve rfl _ _ w.heap.size _ _ _ rfl (put3 H1.out _ _ _)) rfl ⟨rfl, (put3_below HB.out (Nat.le_refl _) _ _ _).drew⟩
  · replace hlk := hlk _ (Below.refl _ _)
    unfold PV.val at hlk
    go_enter Tryd.func52, Tryd.ntmps52
    go_upto_region 3 with fail
    generalize w.alloc (.cells #[.int .i64 0, .int .i64 0, .string ⟨#[]⟩] 36) = w0 at *
    have B1 := (Below.refl w0.heap.size w0).alloc (Nat.le_refl _) (.cells #[.int .i64 uk, .int .i64 ui, .string us] 36)
    have Z1 := (B1.block w.heap.size (lt_of_block Z)).trans Z
    have Y1 := heap_alloc_new w0 (.cells #[.int .i64 uk, .int .i64 ui, .string us] 36)
    have HB := Lib.hid (B0.trans (B1.mono B0.size))
    go_upto_region 5 with fail
    clear c1 c2 c3 Z B0 B1
    generalize w0.alloc (.cells #[.int .i64 uk, .int .i64 ui, .string us] 36) = w1 at *
    obtain ⟨⟨x0, x1, x2⟩, -⟩ := look3 Y1
    obtain ⟨⟨y0, y1, y2⟩, f0, f1, f2⟩ := look3 Z1
    have H1 := Lib.hid Z1
    clear Z1 Y1 hlk
    go_wp2
    exact bodyPost_ret (res_ve rfl _ _ w.heap.size _ _ _ rfl (put3 H1.out _ _ _)) rfl ⟨rfl, put3_below HB.out (Nat.le_refl _) _ _ _⟩
set_option maxHeartbeats 2000000 in
/-- A part of a thing, by the thing's cells. -/
theorem ppart_any (T : List (Int × List PV)) (v : PV) (a : Int) (hb : Nat) (F : Nat → Prop) (w : World) (h : HeapM w hb T F) (h0 : 0 ≤ v.i) (hlt : v.i < T.length) (tb cap : Nat) (hc : w.cell? ⟨hb, 0, none⟩ = some (.slice (some ⟨tb, 0, none⟩) T.length cap)) :
    Calls Tryd.prog 52 #[.pointer (some ⟨tb, v.i.toNat * 4, none⟩), .int .i64 a] w fun e w' => e = VE (partT T v a).1 (partT T v a).2 ∧ Below w.heap.size w w' := by
  have Z := heap_alloc_new w (.cells #[.int .i64 0, .int .i64 0, .string ⟨#[]⟩] 36)
  have B0 := (Below.refl w.heap.size w).alloc (Nat.le_refl _) (.cells #[.int .i64 0, .int .i64 0, .string ⟨#[]⟩] 36)
  have hj : v.i.toNat < T.length := by omega
  have h' := h.below B0
  have hc' := (B0.cell (p := ⟨hb, 0, none⟩) (World.block_lt_of_cell? _ _ hc)).trans hc
  by_cases hin : 0 ≤ a ∧ a.toNat < T[v.i.toNat].2.length
  · obtain ⟨ha, hin⟩ := hin
    obtain ⟨tb', cap', g, nf, cp, mv, c0, p1, p2, c1, c2, c3, p3, p4, vk, hlook⟩ := h.part v.i.toNat hj a.toNat hin
    rw [hc] at c0
    obtain rfl : tb = tb' := by injection c0 with c0; injection c0 with c0; injection c0 with c0; injection c0 with c0
    have q := part_gen tb (v.i.toNat * 4) _ a.toNat _ w ⟨g, nf, cp, mv, c1, c2, c3, p3, p4, hin, vk, hlook⟩
    rw [Int.toNat_of_nonneg ha] at q
    rw [partT_in hj ha hin]
    exact q
  · have hin' : a < 0 ∨ (T[v.i.toNat].2.length : Int) ≤ a := by omega
    have HR : Hid (partT T v a = (⟨0, 0, ⟨#[]⟩⟩, 83)) := Lib.hid (partT_out hj hin')
    obtain ⟨tb', cap', g, pv, _, c0, p1, p2, -, c1, -, -, -, -, -, -⟩ := h'.thing v.i.toNat hj
    rw [hc'] at c0
    obtain rfl : tb = tb' := by injection c0 with c0; injection c0 with c0; injection c0 with c0; injection c0 with c0
    generalize partT T v a = r at HR
    generalize T[v.i.toNat].2.length = n at c1 hin'
    have HB := Lib.hid B0
    obtain ⟨⟨y0, y1, y2⟩, f0, f1, f2⟩ := look3 Z
    have H1 := Lib.hid Z
    clear h h' hc hc' c0 hin Z B0
    rcases hin' with hin' | hin'
    · have hin2 : decide (a < 0) = true := by simpa using hin'
      go_enter Tryd.func52, Tryd.ntmps52
      go_wp2
      exact bodyPost_ret (res_ve rfl _ _ w.heap.size _ _ _ rfl H1.out) rfl ⟨by rw [HR.out]; rfl, HB.out⟩
    · by_cases hn : a < 0
      · exfalso; omega
      · have hin3 : decide (a < 0) = false := decide_eq_false hn
        have hin4 : decide ((n : Int) ≤ a) = true := decide_eq_true hin'
        go_enter Tryd.func52, Tryd.ntmps52
        go_wp2
        exact bodyPost_ret (res_ve rfl _ _ w.heap.size _ _ _ rfl H1.out) rfl ⟨by rw [HR.out]; rfl, HB.out⟩

theorem three_new (w : World) (o p q : Obj) : (((w.alloc o).alloc p).alloc q).heap[w.heap.size]? = some o ∧ (((w.alloc o).alloc p).alloc q).heap[w.heap.size + 1]? = some p ∧ (((w.alloc o).alloc p).alloc q).heap[w.heap.size + 1 + 1]? = some q ∧ Below w.heap.size w (((w.alloc o).alloc p).alloc q) := by
  obtain ⟨h0, h1, h2⟩ := two_new w o p
  have hs : ((w.alloc o).alloc p).heap.size = w.heap.size + 1 + 1 := by rw [size_new, size_new]
  refine ⟨(Below.heap_alloc _ q _ (by omega)).trans h0, (Below.heap_alloc _ q _ (by omega)).trans h1, ?_, h2.alloc (by omega) _⟩
  have := heap_alloc_new ((w.alloc o).alloc p) q
  rwa [hs] at this
theorem put_row {W : World} {g o R : Nat} {u : PV} {x0 x1 x2 : Value} (hne : R ≠ g) (hR : W.heap[R]? = some (.cells #[x0, x1, x2] 36 (0, 0))) (y0 y1 y2 : Value) :
    ((((set3 W g o u).setCell ⟨R, 0, none⟩ y0).setCell ⟨R, 1, none⟩ y1).setCell ⟨R, 2, none⟩ y2).heap[R]? = some (.cells #[y0, y1, y2] 36 (0, 0)) := put3 ((set3_other hne).trans hR) _ _ _
theorem HeapM.drew {w : World} {hb : Nat} {T : List (Int × List PV)} {F : Nat → Prop} (h : HeapM w hb T F) : HeapM w.drew hb T F := h.move (fun _ _ _ => rfl) fun _ h => h
theorem Stp.drew {F F' : Nat → Prop} {w w' : World} (h : Stp F w F' w') : Stp F w F' w'.drew := ⟨⟨h.1.1.drew, h.1.2⟩, h.2⟩
theorem DoOk.drew {w w' : World} {hb : Nat} {F : Nat → Prop} {u : PV} {err : Int} {T : List (Int × List PV)} {e : Ending} (h : DoOk w hb F u err T e w') : DoOk w hb F u err T e w'.drew := by
  obtain ⟨h1, F', h2, h3⟩ := h
  exact ⟨h1, F', h2.drew, h3.drew⟩
theorem put_heap {w W : World} {R hb : Nat} {T : List (Int × List PV)} {F : Nat → Prop} (h : HeapM W hb T F) (hs : Stp F w F W) (hF : ¬ F R) (hR : w.heap.size ≤ R) (y0 y1 y2 : Value) :
    HeapM (((W.setCell ⟨R, 0, none⟩ y0).setCell ⟨R, 1, none⟩ y1).setCell ⟨R, 2, none⟩ y2) hb T F ∧ Stp F w F (((W.setCell ⟨R, 0, none⟩ y0).setCell ⟨R, 1, none⟩ y1).setCell ⟨R, 2, none⟩ y2) := by
  refine ⟨h.move (fun b hb _ => put3_other _ _ _ (fun e => hF (e ▸ hb))) fun _ h => h, ⟨⟨hs.1.1.trans (put3_below (Below.refl 0 W) (Nat.zero_le _) _ _ _), fun b hb hn => ?_⟩, fun b hb => .inl hb⟩⟩
  rw [put3_other _ _ _ (by omega)]
  exact hs.1.2 b hb hn
theorem mapTurned.other {w w' : World} {b c : Nat} (h : w.mapTurned w' b) (hc : c ≠ b) : w'.heap[c]? = w.heap[c]? := by
  obtain ⟨es0, cl0, es', cl', q1, rfl⟩ := h
  exact Go.ChangeMaps.heap_setBlock_other q1 _ hc
theorem mapTurned.size {w w' : World} {b : Nat} (h : w.mapTurned w' b) : w'.heap.size = w.heap.size := by
  obtain ⟨es0, cl0, es', cl', q1, rfl⟩ := h
  simp [Go.ChangeMaps.setBlock]
theorem mapTurned.below {w w' : World} {b : Nat} (h : w.mapTurned w' b) : Below 0 w w' := by
  obtain ⟨es0, cl0, es', cl', q1, rfl⟩ := h
  exact ⟨rfl, rfl, rfl, by simp [Go.ChangeMaps.setBlock], fun k hk => absurd hk (Nat.not_lt_zero k)⟩
end Go.Proofs.YtlolkhnaaelelaaDoor.Hp
