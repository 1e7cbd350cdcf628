/-
Package heap's part and put. No condition but that the heap lies in memory, and that the value is a thing of its own.
-/
import Derived.Test.YtjhfafoelccfnaaDoorQ4
namespace Go.Proofs.YtjhfafoelccfnaaDoor.Hp
open Go.ChangeShapes Go.WideShapes Go.ChangeAt Go.RowKit Go.Deep
open Dat (PT ok64 RepV RepS RowX infoDatum)
set_option maxRecDepth 100000

/-- What is answered is a value and an error. -/
def VE (u : PV) (err : Int) : Ending := .returned (.tuple #[.agg #[.int .i64 u.k, .int .i64 u.i, .string u.s], .int .i64 err])
theorem partT_in {T : List (Int × List PV)} {v : PV} {a : Int} (hj : v.i.toNat < T.length) (h0 : 0 ≤ a) (hi : a.toNat < T[v.i.toNat].2.length) : partT T v a = (T[v.i.toNat].2[a.toNat], 0) := by
  simp [partT, List.getElem?_eq_getElem hj, h0, List.getElem?_eq_getElem hi]
theorem partT_out {T : List (Int × List PV)} {v : PV} {a : Int} (hj : v.i.toNat < T.length) (h : a < 0 ∨ (T[v.i.toNat].2.length : Int) ≤ a) : partT T v a = (⟨0, 0, ⟨#[]⟩⟩, 83) := by
  unfold partT
  rw [List.getElem?_eq_getElem hj]
  by_cases h0 : 0 ≤ a
  · simp only [h0, if_true]
    rw [List.getElem?_eq_none (by omega)]
  · simp only [h0, if_false]
theorem PartsM.slice {w : World} {l : List PV} {g : Nat} {v : Value} (h : PartsM w l g v) : ∃ a c, v = .slice a l.length c ∧ l.length ≤ c ∧ c ≤ maxLen := by
  rcases h with ⟨rfl, a, c, e, h1, h2⟩ | ⟨h0, ho, cap, cur, e, h1, h2, h3, h4, h5⟩
  · exact ⟨a, c, e, Nat.zero_le _, h1⟩
  · exact ⟨_, cap, e, h1, h2⟩
/-- What is behind a call: a value, an error, and the heap. -/
def DoOk (w : World) (hb : Nat) (F : Nat → Prop) (u : PV) (err : Int) (T : List (Int × List PV)) (e : Ending) (w' : World) : Prop := e = VE u err ∧ ∃ F', HeapM w' hb T F' ∧ Stp F w F' w'
theorem DoOk.of {w w' : World} {hb : Nat} {F : Nat → Prop} {u : PV} {err : Int} {T : List (Int × List PV)} {e : Ending} (h : HeapM w hb T F) (he : e = VE u err) (hb' : Below w.heap.size w w') : DoOk w hb F u err T e w' :=
  ⟨he, F, h.below hb', Stp.of_below hb'⟩
/-- What a thing's part is set to. -/
def putT (T : List (Int × List PV)) (v : PV) (a : Int) (u : PV) : PV × Int × List (Int × List PV) :=
  if 0 ≤ a ∧ a.toNat < ((T[v.i.toNat]?.map (·.2)).getD []).length then (⟨5, 0, ⟨#[]⟩⟩, 0, setT T v.i.toNat a.toNat u) else (⟨0, 0, ⟨#[]⟩⟩, 83, T)
theorem putT_in {T : List (Int × List PV)} {v : PV} {a : Int} {u : PV} (hj : v.i.toNat < T.length) (h0 : 0 ≤ a) (hi : a.toNat < T[v.i.toNat].2.length) : putT T v a u = (⟨5, 0, ⟨#[]⟩⟩, 0, setT T v.i.toNat a.toNat u) := by
  unfold putT
  rw [List.getElem?_eq_getElem hj, if_pos ⟨h0, hi⟩]
theorem putT_out {T : List (Int × List PV)} {v : PV} {a : Int} {u : PV} (hj : v.i.toNat < T.length) (h : a < 0 ∨ (T[v.i.toNat].2.length : Int) ≤ a) : putT T v a u = (⟨0, 0, ⟨#[]⟩⟩, 83, T) := by
  unfold putT
  rw [List.getElem?_eq_getElem hj, if_neg (fun h' => by simp only [Option.map_some, Option.getD_some] at h'; omega)]
set_option maxHeartbeats 1000000 in
theorem part_any (k i : Int) (s : ByteArray) (a : Int) (hb : Nat) (T : List (Int × List PV)) (F : Nat → Prop) (w : World) (h : HeapM w hb T F) (h0 : 0 ≤ i) (hlt : i < T.length) :
    Calls Tryd.prog 59 #[.pointer (some ⟨hb, 0, none⟩), .agg #[.int .i64 k, .int .i64 i, .string s], .int .i64 a] w fun e w' => e = VE (partT T ⟨k, i, s⟩ a).1 (partT T ⟨k, i, s⟩ a).2 ∧ Below w.heap.size w w' := by
  obtain ⟨Z0, Z1, B0⟩ := two_new w (.cells #[.int .i64 k, .int .i64 i, .string s] 36) (.cells #[.int .i64 0, .int .i64 0, .string ⟨#[]⟩] 36)
  have hj : i.toNat < T.length := by omega
  have h' := h.below B0
  by_cases hin : 0 ≤ a ∧ a.toNat < T[i.toNat].2.length
  · obtain ⟨ha, hin⟩ := hin
    have HR : Hid (partT T ⟨k, i, s⟩ a = (T[i.toNat].2[a.toNat], 0)) := Lib.hid (partT_in hj ha hin)
    obtain ⟨tb, cap, g, cp, c0, p1, p2, c1, p3, p4, v0, v1, v2, -, -, -, -, -, -⟩ := h'.part i.toNat hj a.toNat hin
    generalize partT T ⟨k, i, s⟩ a = r at HR
    have hL : a < ((T[i.toNat].2.length : Nat) : Int) := by omega
    generalize T[i.toNat].2[a.toNat] = u at v0 v1 v2 HR
    generalize T[i.toNat].2.length = n at c1 p3 hL hin
    obtain ⟨uk, ui, us⟩ := u
    dsimp only at v0 v1 v2
    unfold maxLen at p2 p4
    clear h h'
    go_enter Tryd.func59, Tryd.ntmps59
    go_wp2
    generalize (w.alloc (.cells #[.int .i64 k, .int .i64 i, .string s] 36)).alloc (.cells #[.int .i64 0, .int .i64 0, .string ⟨#[]⟩] 36) = w0 at c0 c1 v0 v1 v2 Z0 Z1 B0 ⊢
    have z1 := (look3 Z0).1.2.1
    obtain ⟨⟨y0, y1, y2⟩, f0, f1, f2⟩ := look3 Z1
    have H1 := Lib.hid Z1
    have HB := Lib.hid B0
    clear Z0 Z1 B0
    go_region
    go_wp2
    exact bodyPost_ret (res_ve rfl _ _ (w.heap.size + 1) _ _ _ rfl (put3 H1.out _ _ _)) rfl ⟨by rw [HR.out]; rfl, (put3_below HB.out (Nat.le_succ _) _ _ _).drew⟩
  · have hin' : a < 0 ∨ (T[i.toNat].2.length : Int) ≤ a := by omega
    have HR : Hid (partT T ⟨k, i, s⟩ a = (⟨0, 0, ⟨#[]⟩⟩, 83)) := Lib.hid (partT_out hj hin')
    obtain ⟨tb, cap, g, pv, c0, p1, p2, -, c1, -, hp, -, -⟩ := h'.thing i.toNat hj
    obtain ⟨pa, pc, rfl, p3, p4⟩ := hp.slice
    generalize partT T ⟨k, i, s⟩ a = r at HR
    generalize T[i.toNat].2.length = n at c1 p3 hin'
    unfold maxLen at p2 p4
    clear h h' hp hin
    rcases hin' with hin' | hin'
    · have hin2 : decide (a < 0) = true := by simpa using hin'
      go_enter Tryd.func59, Tryd.ntmps59
      go_wp2
      generalize (w.alloc (.cells #[.int .i64 k, .int .i64 i, .string s] 36)).alloc (.cells #[.int .i64 0, .int .i64 0, .string ⟨#[]⟩] 36) = w0 at c0 c1 Z0 Z1 B0 ⊢
      have z1 := (look3 Z0).1.2.1
      obtain ⟨⟨y0, y1, y2⟩, f0, f1, f2⟩ := look3 Z1
      have H1 := Lib.hid Z1
      have HB := Lib.hid B0
      clear Z0 Z1 B0
      go_region
      go_wp2
      all_goals
        exact bodyPost_ret (res_ve rfl _ _ (w.heap.size + 1) _ _ _ rfl (put3 H1.out _ _ _)) rfl ⟨by rw [HR.out]; rfl, (put3_below HB.out (Nat.le_succ _) _ _ _).drew⟩
    · have hin3 : ¬ a < 0 := by omega
      go_enter Tryd.func59, Tryd.ntmps59
      go_wp2
      generalize (w.alloc (.cells #[.int .i64 k, .int .i64 i, .string s] 36)).alloc (.cells #[.int .i64 0, .int .i64 0, .string ⟨#[]⟩] 36) = w0 at c0 c1 Z0 Z1 B0 ⊢
      have z1 := (look3 Z0).1.2.1
      obtain ⟨⟨y0, y1, y2⟩, f0, f1, f2⟩ := look3 Z1
      have H1 := Lib.hid Z1
      have HB := Lib.hid B0
      clear Z0 Z1 B0
      go_region
      go_wp2
      all_goals
        exact bodyPost_ret (res_ve rfl _ _ (w.heap.size + 1) _ _ _ rfl (put3 H1.out _ _ _)) rfl ⟨by rw [HR.out]; rfl, (put3_below HB.out (Nat.le_succ _) _ _ _).drew⟩

theorem HeapM.part_at {w w0 : World} {hb : Nat} {T : List (Int × List PV)} {F : Nat → Prop} (h : HeapM w hb T F) (B0 : Below w.heap.size w w0) (j : Nat) (hj : j < T.length) (i : Nat) (hi : i < T[j].2.length) :
    ∃ tb cap g cp, w0.cell? ⟨hb, 0, none⟩ = some (.slice (some ⟨tb, 0, none⟩) T.length cap) ∧ T.length ≤ cap ∧ cap ≤ maxLen ∧ w0.cell? ⟨tb, j * 2 + 1, none⟩ = some (.slice (some ⟨g, 0, none⟩) T[j].2.length cp) ∧ T[j].2.length ≤ cp ∧ cp ≤ maxLen ∧
      w0.cell? ⟨g, i * 3, none⟩ = some (.int .i64 T[j].2[i].k) ∧ w0.cell? ⟨g, i * 3 + 1, none⟩ = some (.int .i64 T[j].2[i].i) ∧ w0.cell? ⟨g, i * 3 + 2, none⟩ = some (.string T[j].2[i].s) ∧
      (∀ o, w0.frozen? ⟨g, o, none⟩ = false) ∧ g < w.heap.size ∧ (∀ u, okV u → HeapM (set3 w0 g (i * 3) u) hb (setT T j i u) F ∧ Stp F w F (set3 w0 g (i * 3) u)) := by
  obtain ⟨tb, cap, g, cp, c0, p1, p2, c1, p3, p4, v0, v1, v2, vo, f, t1, t2, t3, t4⟩ := (h.below B0).part j hj i hi
  obtain ⟨tb', cap', g', cp', c0', -, -, c1', -, -, -, -, -, -, -, -, -, t3', -⟩ := h.part j hj i hi
  have e0 := (B0.cell (p := ⟨hb, 0, none⟩) (World.block_lt_of_cell? _ _ c0')).trans c0'
  rw [c0] at e0
  obtain rfl : tb = tb' := by injection e0 with e0; injection e0 with e0; injection e0 with e0; injection e0 with e0
  have e1 := (B0.cell (p := ⟨tb, j * 2 + 1, none⟩) (World.block_lt_of_cell? _ _ c1')).trans c1'
  rw [c1] at e1
  obtain rfl : g = g' := by injection e1 with e1; injection e1 with e1; injection e1 with e1; injection e1 with e1
  exact ⟨tb, cap, g, cp, c0, p1, p2, c1, p3, p4, v0, v1, v2, f, t3', fun u hu => ⟨(t4 u hu).1, (Stp.of_below B0).trans (t4 u hu).2⟩⟩
theorem three_new (w : World) (o p q : Obj) : (((w.alloc o).alloc p).alloc q).heap[w.heap.size]? = some o ∧ (((w.alloc o).alloc p).alloc q).heap[w.heap.size + 1]? = some p ∧ (((w.alloc o).alloc p).alloc q).heap[w.heap.size + 1 + 1]? = some q ∧ Below w.heap.size w (((w.alloc o).alloc p).alloc q) := by
  obtain ⟨h0, h1, h2⟩ := two_new w o p
  have hs : ((w.alloc o).alloc p).heap.size = w.heap.size + 1 + 1 := by rw [size_new, size_new]
  refine ⟨(Below.heap_alloc _ q _ (by omega)).trans h0, (Below.heap_alloc _ q _ (by omega)).trans h1, ?_, h2.alloc (by omega) _⟩
  have := heap_alloc_new ((w.alloc o).alloc p) q
  rwa [hs] at this
theorem put_row {W : World} {g o R : Nat} {u : PV} {x0 x1 x2 : Value} (hne : R ≠ g) (hR : W.heap[R]? = some (.cells #[x0, x1, x2] 36 (0, 0))) (y0 y1 y2 : Value) :
    ((((set3 W g o u).setCell ⟨R, 0, none⟩ y0).setCell ⟨R, 1, none⟩ y1).setCell ⟨R, 2, none⟩ y2).heap[R]? = some (.cells #[y0, y1, y2] 36 (0, 0)) := put3 ((set3_other hne).trans hR) _ _ _
theorem HeapM.drew {w : World} {hb : Nat} {T : List (Int × List PV)} {F : Nat → Prop} (h : HeapM w hb T F) : HeapM w.drew hb T F := h.move (fun _ _ _ => rfl) fun _ h => h
theorem Stp.drew {F F' : Nat → Prop} {w w' : World} (h : Stp F w F' w') : Stp F w F' w'.drew := ⟨⟨h.1.1.drew, h.1.2⟩, h.2⟩
theorem DoOk.drew {w w' : World} {hb : Nat} {F : Nat → Prop} {u : PV} {err : Int} {T : List (Int × List PV)} {e : Ending} (h : DoOk w hb F u err T e w') : DoOk w hb F u err T e w'.drew := by
  obtain ⟨h1, F', h2, h3⟩ := h
  exact ⟨h1, F', h2.drew, h3.drew⟩
theorem put_heap {w W : World} {R hb : Nat} {T : List (Int × List PV)} {F : Nat → Prop} (h : HeapM W hb T F) (hs : Stp F w F W) (hF : ¬ F R) (hR : w.heap.size ≤ R) (y0 y1 y2 : Value) :
    HeapM (((W.setCell ⟨R, 0, none⟩ y0).setCell ⟨R, 1, none⟩ y1).setCell ⟨R, 2, none⟩ y2) hb T F ∧ Stp F w F (((W.setCell ⟨R, 0, none⟩ y0).setCell ⟨R, 1, none⟩ y1).setCell ⟨R, 2, none⟩ y2) := by
  refine ⟨h.move (fun b hb _ => put3_other _ _ _ (fun e => hF (e ▸ hb))) fun _ h => h, ⟨⟨hs.1.1.trans (put3_below (Below.refl 0 W) (Nat.zero_le _) _ _ _), fun b hb hn => ?_⟩, fun b hb => .inl hb⟩⟩
  rw [put3_other _ _ _ (by omega)]
  exact hs.1.2 b hb hn
set_option maxHeartbeats 1000000 in
theorem put_any (k i : Int) (s : ByteArray) (a : Int) (uk ui : Int) (us : ByteArray) (hu : okV ⟨uk, ui, us⟩) (hb : Nat) (T : List (Int × List PV)) (F : Nat → Prop) (w : World) (h : HeapM w hb T F) (hF : ∀ b, F b → b < w.heap.size) (h0 : 0 ≤ i) (hlt : i < T.length) :
    Calls Tryd.prog 60 #[.pointer (some ⟨hb, 0, none⟩), .agg #[.int .i64 k, .int .i64 i, .string s], .int .i64 a, .agg #[.int .i64 uk, .int .i64 ui, .string us]] w
      fun e w' => DoOk w hb F (putT T ⟨k, i, s⟩ a ⟨uk, ui, us⟩).1 (putT T ⟨k, i, s⟩ a ⟨uk, ui, us⟩).2.1 (putT T ⟨k, i, s⟩ a ⟨uk, ui, us⟩).2.2 e w' := by
  obtain ⟨Z0, Z1, Z2, B0⟩ := three_new w (.cells #[.int .i64 k, .int .i64 i, .string s] 36) (.cells #[.int .i64 uk, .int .i64 ui, .string us] 36) (.cells #[.int .i64 0, .int .i64 0, .string ⟨#[]⟩] 36)
  have hj : i.toNat < T.length := by omega
  by_cases hin : 0 ≤ a ∧ a.toNat < T[i.toNat].2.length
  · obtain ⟨ha, hin⟩ := hin
    have HR := Lib.hid (putT_in (v := ⟨k, i, s⟩) (u := ⟨uk, ui, us⟩) hj ha hin)
    obtain ⟨tb, cap, g, cp, c0, p1, p2, c1, p3, p4, v0, v1, v2, ff, hg, tt⟩ := h.part_at B0 i.toNat hj a.toNat hin
    generalize putT T ⟨k, i, s⟩ a ⟨uk, ui, us⟩ = r at HR
    have hL : a < ((T[i.toNat].2.length : Nat) : Int) := by omega
    have f3 := ff (a.toNat * 3)
    have f4 := ff (a.toNat * 3 + 1)
    have f5 := ff (a.toNat * 3 + 2)
    have TT := Lib.hid (tt _ hu)
    have HG : Hid (w.heap.size + 1 + 1 ≠ g) := Lib.hid (by omega)
    have HNF : Hid (¬ F (w.heap.size + 1 + 1)) := Lib.hid (fun hf => by have := hF _ hf; omega)
    generalize T[i.toNat].2[a.toNat] = u at v0 v1 v2
    generalize T[i.toNat].2.length = n at c1 p3 hL hin
    obtain ⟨xk, xi, xs⟩ := u
    dsimp only at v0 v1 v2
    unfold maxLen at p2 p4
    clear h ff tt hu hF
    go_enter Tryd.func60, Tryd.ntmps60
    go_wp2
    generalize ((w.alloc (.cells #[.int .i64 k, .int .i64 i, .string s] 36)).alloc (.cells #[.int .i64 uk, .int .i64 ui, .string us] 36)).alloc (.cells #[.int .i64 0, .int .i64 0, .string ⟨#[]⟩] 36) = w0 at *
    have z1 := (look3 Z0).1.2.1
    obtain ⟨⟨u0, u1, u2⟩, -⟩ := look3 Z1
    obtain ⟨⟨y0, y1, y2⟩, f0, f1, f2⟩ := look3 Z2
    have H1 := Lib.hid Z2
    clear Z0 Z1 Z2 B0
    go_region
    go_wp2
    obtain ⟨q1, q2⟩ := put_heap TT.out.1 TT.out.2 HNF.out (by omega) (.int .i64 5) (.int .i64 0) (.string ⟨#[]⟩)
    have E0 := put_row (u := ⟨uk, ui, us⟩) (o := a.toNat * 3) HG.out H1.out (.int .i64 5) (.int .i64 0) (.string ⟨#[]⟩)
    have Q : DoOk w hb F r.1 r.2.1 r.2.2 (VE ⟨5, 0, ⟨#[]⟩⟩ 0) (((((set3 w0 g (a.toNat * 3) ⟨uk, ui, us⟩).setCell ⟨w.heap.size + 1 + 1, 0, none⟩ (.int .i64 5)).setCell ⟨w.heap.size + 1 + 1, 1, none⟩ (.int .i64 0)).setCell ⟨w.heap.size + 1 + 1, 2, none⟩ (.string ⟨#[]⟩))) := ⟨by rw [HR.out], F, by rw [HR.out]; exact q1, q2⟩
    unfold set3 at E0 Q
    dsimp only at E0 Q
    clear q1 q2 TT HG
    generalize (((((w0.setCell ⟨g, a.toNat * 3, none⟩ (.int .i64 uk)).setCell ⟨g, a.toNat * 3 + 1, none⟩ (.int .i64 ui)).setCell ⟨g, a.toNat * 3 + 2, none⟩ (.string us)).setCell ⟨w.heap.size + 1 + 1, 0, none⟩ (.int .i64 5)).setCell ⟨w.heap.size + 1 + 1, 1, none⟩ (.int .i64 0)).setCell ⟨w.heap.size + 1 + 1, 2, none⟩ (.string ⟨#[]⟩) = W at E0 Q ⊢
    have E1 : W.drew.heap[w.heap.size + 1 + 1]? = some (.cells #[.int .i64 5, .int .i64 0, .string ⟨#[]⟩] 36 (0, 0)) := E0
    have Q1 := Q.drew
    generalize W.drew = W1 at E1 Q1 ⊢
    exact bodyPost_ret (res_ve (t := 9) (p := 8) rfl _ _ (w.heap.size + 1 + 1) _ _ _ rfl E1) rfl Q1
  · have hin' : a < 0 ∨ (T[i.toNat].2.length : Int) ≤ a := by omega
    have HR := Lib.hid (putT_out (v := ⟨k, i, s⟩) (u := ⟨uk, ui, us⟩) hj hin')
    obtain ⟨tb, cap, g, pv, c0, p1, p2, -, c1, -, hp, -, -⟩ := (h.below B0).thing i.toNat hj
    obtain ⟨pa, pc, rfl, p3, p4⟩ := hp.slice
    generalize putT T ⟨k, i, s⟩ a ⟨uk, ui, us⟩ = r at HR
    generalize T[i.toNat].2.length = n at c1 p3 hin'
    unfold maxLen at p2 p4
    have HH := Lib.hid h
    clear h hp hin hF hu
    rcases hin' with hin' | hin'
    · have hin2 : decide (a < 0) = true := by simpa using hin'
      go_enter Tryd.func60, Tryd.ntmps60
      go_wp2
      generalize ((w.alloc (.cells #[.int .i64 k, .int .i64 i, .string s] 36)).alloc (.cells #[.int .i64 uk, .int .i64 ui, .string us] 36)).alloc (.cells #[.int .i64 0, .int .i64 0, .string ⟨#[]⟩] 36) = w0 at *
      have z1 := (look3 Z0).1.2.1
      obtain ⟨⟨y0, y1, y2⟩, f0, f1, f2⟩ := look3 Z2
      have H1 := Lib.hid Z2
      have HB := Lib.hid B0
      clear Z0 Z1 Z2 B0
      go_region
      go_wp2
      all_goals
        exact bodyPost_ret (res_ve (t := 9) (p := 8) rfl _ _ (w.heap.size + 1 + 1) _ _ _ rfl (put3 H1.out _ _ _)) rfl (by rw [HR.out]; exact DoOk.of HH.out rfl (put3_below HB.out (by omega) _ _ _).drew)
    · have hin3 : ¬ a < 0 := by omega
      go_enter Tryd.func60, Tryd.ntmps60
      go_wp2
      generalize ((w.alloc (.cells #[.int .i64 k, .int .i64 i, .string s] 36)).alloc (.cells #[.int .i64 uk, .int .i64 ui, .string us] 36)).alloc (.cells #[.int .i64 0, .int .i64 0, .string ⟨#[]⟩] 36) = w0 at *
      have z1 := (look3 Z0).1.2.1
      obtain ⟨⟨y0, y1, y2⟩, f0, f1, f2⟩ := look3 Z2
      have H1 := Lib.hid Z2
      have HB := Lib.hid B0
      clear Z0 Z1 Z2 B0
      go_region
      go_wp2
      all_goals
        exact bodyPost_ret (res_ve (t := 9) (p := 8) rfl _ _ (w.heap.size + 1 + 1) _ _ _ rfl (put3 H1.out _ _ _)) rfl (by rw [HR.out]; exact DoOk.of HH.out rfl (put3_below HB.out (by omega) _ _ _).drew)
end Go.Proofs.YtjhfafoelccfnaaDoor.Hp
