/-
The document's heap in memory: things of a kind and a row of parts; how a part is read and written. No condition but that it lies in memory.
-/
import Derived.Test.YtpejhilfopjckaaDoorQGb
namespace Go.Proofs.YtpejhilfopjckaaDoor.Hp
open Go.ChangeShapes Go.WideShapes Go.ChangeAt Go.RowKit Go.Deep
open Dat (PT ok64 RepV RepS RowX infoDatum)
set_option maxRecDepth 100000

theorem infoThing : (Tryd.prog.info? 43).map (fun i => (i.zero, i.size, i.bytes)) = some (some (.agg #[.int .i64 0, .slice none 0 0]), 2, 32) := by kernel_rfl

/-- A heap at the block hb: its things are T; all that belongs to it lies in blocks of F. -/
def HeapR (w : World) (hb : Nat) (T : List (Int × List PV)) (F : Nat → Prop) : Prop :=
  ∃ (sv : Value) (xs : List Value) (g : Nat → Nat) (pv : Nat → Value), w.heap[hb]? = some (.cells #[sv] 28 (0, 0)) ∧ F hb ∧
    w.ownsRow 0 43 2 sv T.length xs ∧ (∀ b, sv.ownBlock = some b → F b) ∧
    (∀ j (h : j < T.length), xs[j * 2]? = some (.int .i64 T[j].1) ∧ xs[j * 2 + 1]? = some (pv j) ∧ ok64 T[j].1 ∧ PartsM w T[j].2 (g j) (pv j) ∧ (T[j].2 ≠ [] → F (g j)) ∧
      ∀ k (hk : k < T.length), j ≠ k → T[j].2 ≠ [] → T[k].2 ≠ [] → g j ≠ g k)

theorem HeapR.move {w w' : World} {hb : Nat} {T : List (Int × List PV)} {F F' : Nat → Prop} (h : HeapR w hb T F) (hc : ∀ b, F b → b < w.heap.size → w'.heap[b]? = w.heap[b]?) (hF : ∀ b, F b → F' b) : HeapR w' hb T F' := by
  obtain ⟨sv, xs, g, pv, h1, h2, h3, h4, h5⟩ := h
  have mv : ∀ {b : Nat} {o : Obj}, F b → w.heap[b]? = some o → w'.heap[b]? = some o := fun hf ho => (hc _ hf (lt_of_block ho)).trans ho
  refine ⟨sv, xs, g, pv, mv h2 h1, hF _ h2, ⟨h3.1, h3.2.imp id ?_⟩, fun b hb => hF _ (h4 b hb), fun j hj => ?_⟩
  · rintro ⟨t, cap, cur, e, a1, a2, a3⟩
    exact ⟨t, cap, cur, e, a1, mv (h4 t (by rw [e]; rfl)) a2, a3⟩
  · obtain ⟨a1, a2, a3, a4, a5, a6⟩ := h5 j hj
    refine ⟨a1, a2, a3, ?_, fun h => hF _ (a5 h), a6⟩
    rcases a4 with a4 | ⟨h0, ho, cap, cur, e, b1, b2, b3, b4, b5⟩
    · exact .inl a4
    · exact .inr ⟨h0, ho, cap, cur, e, b1, b2, mv (a5 h0) b3, b4, b5⟩
theorem HeapR.below {w w' : World} {hb : Nat} {T : List (Int × List PV)} {F : Nat → Prop} (h : HeapR w hb T F) (hb' : Below w.heap.size w w') : HeapR w' hb T F :=
  h.move (fun b _ hlt => hb'.block b hlt) fun _ h => h
theorem HeapR.lt {w : World} {hb : Nat} {T : List (Int × List PV)} {F : Nat → Prop} (h : HeapR w hb T F) : hb < w.heap.size := by
  obtain ⟨sv, xs, g, pv, h1, _⟩ := h
  exact lt_of_block h1
/-- One of the things. -/
theorem HeapR.thing {w : World} {hb : Nat} {T : List (Int × List PV)} {F : Nat → Prop} (h : HeapR w hb T F) (j : Nat) (hj : j < T.length) :
    ∃ tb cap g pv, w.cell? ⟨hb, 0, none⟩ = some (.slice (some ⟨tb, 0, none⟩) T.length cap) ∧ T.length ≤ cap ∧ cap ≤ maxLen ∧ w.cell? ⟨tb, j * 2, none⟩ = some (.int .i64 T[j].1) ∧ w.cell? ⟨tb, j * 2 + 1, none⟩ = some pv ∧ ok64 T[j].1 ∧ PartsM w T[j].2 g pv ∧ F tb ∧ (T[j].2 ≠ [] → F g) := by
  obtain ⟨sv, xs, g, pv, h1, h2, h3, h4, h5⟩ := h
  obtain ⟨a1, a2, a3, a4, a5, a6⟩ := h5 j hj
  rcases h3.2 with ⟨_, h0⟩ | ⟨tb, cap, cur, rfl, b1, b2, b3, b4, b5, b6⟩
  · omega
  · refine ⟨tb, cap, g j, pv j, by rw [Lib.cell_of_heap h1]; rfl, b3, b4, ?_, ?_, a3, a4, h4 tb rfl, a5⟩
    · rw [Lib.cell_of_heap b2]; exact take_at b6 a1
    · rw [Lib.cell_of_heap b2]; exact take_at b6 a2
/-- How many there are. -/
theorem HeapR.len {w : World} {hb : Nat} {T : List (Int × List PV)} {F : Nat → Prop} (h : HeapR w hb T F) : ∃ a c, w.cell? ⟨hb, 0, none⟩ = some (.slice a T.length c) ∧ T.length ≤ maxLen := by
  obtain ⟨sv, xs, g, pv, h1, h2, h3, h4, h5⟩ := h
  rcases h3.2 with ⟨rfl, h0⟩ | ⟨tb, cap, cur, rfl, b1, b2, b3, b4, b5, b6⟩
  · exact ⟨none, 0, by rw [Lib.cell_of_heap h1, h0]; rfl, by rw [h0]; exact Nat.zero_le _⟩
  · exact ⟨_, cap, by rw [Lib.cell_of_heap h1]; rfl, by omega⟩
/-- The facts on one part of a thing, and what comes of the heap when another value is put there. -/
theorem HeapR.part {w : World} {hb : Nat} {T : List (Int × List PV)} {F : Nat → Prop} (h : HeapR w hb T F) (j : Nat) (hj : j < T.length) (i : Nat) (hi : i < T[j].2.length) :
    ∃ tb cap g cp, w.cell? ⟨hb, 0, none⟩ = some (.slice (some ⟨tb, 0, none⟩) T.length cap) ∧ T.length ≤ cap ∧ cap ≤ maxLen ∧ w.cell? ⟨tb, j * 2 + 1, none⟩ = some (.slice (some ⟨g, 0, none⟩) T[j].2.length cp) ∧ T[j].2.length ≤ cp ∧ cp ≤ maxLen ∧
      w.cell? ⟨g, i * 3, none⟩ = some (.int .i64 T[j].2[i].k) ∧ w.cell? ⟨g, i * 3 + 1, none⟩ = some (.int .i64 T[j].2[i].i) ∧ w.cell? ⟨g, i * 3 + 2, none⟩ = some (.string T[j].2[i].s) ∧ okV T[j].2[i] ∧
      (∀ o, w.frozen? ⟨g, o, none⟩ = false) ∧ F tb ∧ F g ∧ g < w.heap.size ∧ (∀ u, okV u → HeapR (set3 w g (i * 3) u) hb (setT T j i u) F ∧ Stp F w F (set3 w g (i * 3) u)) := by
  obtain ⟨sv, xs, g, pv, h1, h2, h3, h4, h5⟩ := h
  obtain ⟨a1, a2, a3, a4, a5, a6⟩ := h5 j hj
  have hne : T[j].2 ≠ [] := fun e => by rw [e] at hi; cases hi
  have hv := a4.at hne
  obtain ⟨v0, v1, v2, vo⟩ := hv.item i hi
  simp only [Nat.zero_add] at v0 v1 v2
  have hF := a5 hne
  rcases a4 with a4 | ⟨_, ho, cp, cur, e, c1, c2, c3, c4, c5⟩
  · exact absurd a4.1 hne
  rw [e] at a2
  rcases h3.2 with ⟨_, h0⟩ | ⟨tb, cap, ct, rfl, b1, b2, b3, b4, b5, b6⟩
  · omega
  have ghb : hb ≠ g j := by
    intro e
    rw [e, c3] at h1
    have h1 := Obj.cells.inj (Option.some.inj h1)
    exact absurd h1.2.1 (by decide)
  have gtb : tb ≠ g j := by
    intro e
    rw [e, c3] at b2
    have b2 := Obj.cells.inj (Option.some.inj b2)
    exact absurd b2.2.1 (by decide)
  refine ⟨tb, cap, g j, cp, by rw [Lib.cell_of_heap h1]; rfl, b3, b4, by rw [Lib.cell_of_heap b2]; exact take_at b6 a2, c1, c2, v0, v1, v2, vo, fun o => Lib.frozen_of_heap c3 o, h4 tb rfl, hF, lt_of_block c3, fun u hu => ⟨?_, ?_⟩⟩
  · refine ⟨_, xs, g, pv, (set3_other ghb).trans h1, h2, ⟨by rw [setT_len]; exact h3.1, .inr ⟨tb, cap, ct, by rw [setT_len], b1, (set3_other gtb).trans b2, by rw [setT_len]; exact b3, b4, b5, by rw [setT_len]; exact b6⟩⟩, h4, fun k hk => ?_⟩
    have hk' : k < T.length := by rw [setT_len] at hk; exact hk
    obtain ⟨d1, d2, d3, d4, d5, d6⟩ := h5 k hk'
    have hne2 : ∀ (m : Nat) (hm : m < (setT T j i u).length), (setT T j i u)[m].2 ≠ [] → (T[m]'(by rw [setT_len] at hm; exact hm)).2 ≠ [] := by
      intro m hm h
      rw [setT_get hj m hm] at h
      by_cases e : m = j
      · subst e; rw [if_pos rfl] at h; exact set_ne_nil.1 h
      · rw [if_neg e] at h; exact h
    refine ⟨?_, d2, ?_, ?_, fun h => d5 (hne2 k hk h), fun m hm hkm h1 h2 => d6 m (by rw [setT_len] at hm; exact hm) hkm (hne2 k hk h1) (hne2 m hm h2)⟩
    · rw [setT_get hj k hk]
      by_cases e : k = j
      · subst e; rw [if_pos rfl]; exact d1
      · rw [if_neg e]; exact d1
    · rw [setT_get hj k hk]
      by_cases e : k = j
      · subst e; rw [if_pos rfl]; exact d3
      · rw [if_neg e]; exact d3
    · rw [setT_get hj k hk]
      by_cases ek : k = j
      · subst ek
        rw [if_pos rfl]
        refine .inr ⟨set_ne_nil.2 hne, fun x hx => ?_, cp, _, by rw [List.length_set]; exact e, by rw [List.length_set]; exact c1, c2, set3_same c3, by simpa using c4, ?_⟩
        · rcases List.mem_or_eq_of_mem_set hx with hx | rfl
          · exact ho x hx
          · exact hu
        · simp only [Array.toList_setIfInBounds, List.length_set]
          rw [List.take_set, List.take_set, List.take_set, c5, vCells_set, if_pos hi]
      · rw [if_neg ek]
        exact d4.move fun hn => set3_other (d6 j hj ek hn hne)
  · refine ⟨⟨set3_below (Nat.zero_le _), fun b _ hb => set3_other (fun e => hb (e ▸ hF))⟩, fun b hb => .inl hb⟩

/-! ### how a function ends whose first result is a value -/
/-- What is behind a call: a value, an error, and the heap. -/
def DoR (w : World) (hb : Nat) (F : Nat → Prop) (u : PV) (err : Int) (T : List (Int × List PV)) (e : Ending) (w' : World) : Prop := e = VE u err ∧ ∃ F', HeapR w' hb T F' ∧ Stp F w F' w'
theorem DoR.of {w w' : World} {hb : Nat} {F : Nat → Prop} {u : PV} {err : Int} {T : List (Int × List PV)} {e : Ending} (h : HeapR w hb T F) (he : e = VE u err) (hb' : Below w.heap.size w w') : DoR w hb F u err T e w' :=
  ⟨he, F, h.below hb', Stp.of_below hb'⟩
set_option maxHeartbeats 1000000 in
theorem rget_any (k i : Int) (s : ByteArray) (a : Int) (hb : Nat) (T : List (Int × List PV)) (F : Nat → Prop) (w : World) (h : HeapR w hb T F) (h0 : 0 ≤ i) (hlt : i < T.length) :
    Calls Tryd.prog 36 #[.pointer (some ⟨hb, 0, none⟩), .agg #[.int .i64 k, .int .i64 i, .string s], .int .i64 a] w fun e w' => e = VE (partT T ⟨k, i, s⟩ a).1 (partT T ⟨k, i, s⟩ a).2 ∧ Below w.heap.size w w' := by
  obtain ⟨Z0, Z1, B0⟩ := two_new w (.cells #[.int .i64 k, .int .i64 i, .string s] 36) (.cells #[.int .i64 0, .int .i64 0, .string ⟨#[]⟩] 36)
  have hj : i.toNat < T.length := by omega
  have h' := h.below B0
  by_cases hin : 0 ≤ a ∧ a.toNat < T[i.toNat].2.length
  · obtain ⟨ha, hin⟩ := hin
    have HR : Hid (partT T ⟨k, i, s⟩ a = (T[i.toNat].2[a.toNat], 0)) := Lib.hid (partT_in hj ha hin)
    obtain ⟨tb, cap, g, cp, c0, p1, p2, c1, p3, p4, v0, v1, v2, -, -, -, -, -, -⟩ := h'.part i.toNat hj a.toNat hin
    generalize partT T ⟨k, i, s⟩ a = r at HR
    have hL : a < ((T[i.toNat].2.length : Nat) : Int) := by omega
    generalize T[i.toNat].2[a.toNat] = u at v0 v1 v2 HR
    generalize T[i.toNat].2.length = n at c1 p3 hL hin
    obtain ⟨uk, ui, us⟩ := u
    dsimp only at v0 v1 v2
    unfold maxLen at p2 p4
    clear h h'
    go_enter Tryd.func36, Tryd.ntmps36
    go_wp2
    generalize (w.alloc (.cells #[.int .i64 k, .int .i64 i, .string s] 36)).alloc (.cells #[.int .i64 0, .int .i64 0, .string ⟨#[]⟩] 36) = w0 at c0 c1 v0 v1 v2 Z0 Z1 B0 ⊢
    have z1 := (look3 Z0).1.2.1
    obtain ⟨⟨y0, y1, y2⟩, f0, f1, f2⟩ := look3 Z1
    have H1 := Lib.hid Z1
    have HB := Lib.hid B0
    clear Z0 Z1 B0
    go_region
    go_wp2
    exact bodyPost_ret (res_ve rfl _ _ (w.heap.size + 1) _ _ _ rfl (put3 H1.out _ _ _)) rfl ⟨by rw [HR.out]; rfl, (put3_below HB.out (Nat.le_succ _) _ _ _).drew⟩
  · have hin' : a < 0 ∨ (T[i.toNat].2.length : Int) ≤ a := by omega
    have HR : Hid (partT T ⟨k, i, s⟩ a = (⟨0, 0, ⟨#[]⟩⟩, 83)) := Lib.hid (partT_out hj hin')
    obtain ⟨tb, cap, g, pv, c0, p1, p2, -, c1, -, hp, -, -⟩ := h'.thing i.toNat hj
    obtain ⟨pa, pc, rfl, p3, p4⟩ := hp.slice
    generalize partT T ⟨k, i, s⟩ a = r at HR
    generalize T[i.toNat].2.length = n at c1 p3 hin'
    unfold maxLen at p2 p4
    clear h h' hp hin
    rcases hin' with hin' | hin'
    · have hin2 : decide (a < 0) = true := by simpa using hin'
      go_enter Tryd.func36, Tryd.ntmps36
      go_wp2
      generalize (w.alloc (.cells #[.int .i64 k, .int .i64 i, .string s] 36)).alloc (.cells #[.int .i64 0, .int .i64 0, .string ⟨#[]⟩] 36) = w0 at c0 c1 Z0 Z1 B0 ⊢
      have z1 := (look3 Z0).1.2.1
      obtain ⟨⟨y0, y1, y2⟩, f0, f1, f2⟩ := look3 Z1
      have H1 := Lib.hid Z1
      have HB := Lib.hid B0
      clear Z0 Z1 B0
      go_region
      go_wp2
      all_goals
        exact bodyPost_ret (res_ve rfl _ _ (w.heap.size + 1) _ _ _ rfl (put3 H1.out _ _ _)) rfl ⟨by rw [HR.out]; rfl, (put3_below HB.out (Nat.le_succ _) _ _ _).drew⟩
    · have hin3 : ¬ a < 0 := by omega
      go_enter Tryd.func36, Tryd.ntmps36
      go_wp2
      generalize (w.alloc (.cells #[.int .i64 k, .int .i64 i, .string s] 36)).alloc (.cells #[.int .i64 0, .int .i64 0, .string ⟨#[]⟩] 36) = w0 at c0 c1 Z0 Z1 B0 ⊢
      have z1 := (look3 Z0).1.2.1
      obtain ⟨⟨y0, y1, y2⟩, f0, f1, f2⟩ := look3 Z1
      have H1 := Lib.hid Z1
      have HB := Lib.hid B0
      clear Z0 Z1 B0
      go_region
      go_wp2
      all_goals
        exact bodyPost_ret (res_ve rfl _ _ (w.heap.size + 1) _ _ _ rfl (put3 H1.out _ _ _)) rfl ⟨by rw [HR.out]; rfl, (put3_below HB.out (Nat.le_succ _) _ _ _).drew⟩

theorem HeapR.part_at {w w0 : World} {hb : Nat} {T : List (Int × List PV)} {F : Nat → Prop} (h : HeapR w hb T F) (B0 : Below w.heap.size w w0) (j : Nat) (hj : j < T.length) (i : Nat) (hi : i < T[j].2.length) :
    ∃ tb cap g cp, w0.cell? ⟨hb, 0, none⟩ = some (.slice (some ⟨tb, 0, none⟩) T.length cap) ∧ T.length ≤ cap ∧ cap ≤ maxLen ∧ w0.cell? ⟨tb, j * 2 + 1, none⟩ = some (.slice (some ⟨g, 0, none⟩) T[j].2.length cp) ∧ T[j].2.length ≤ cp ∧ cp ≤ maxLen ∧
      w0.cell? ⟨g, i * 3, none⟩ = some (.int .i64 T[j].2[i].k) ∧ w0.cell? ⟨g, i * 3 + 1, none⟩ = some (.int .i64 T[j].2[i].i) ∧ w0.cell? ⟨g, i * 3 + 2, none⟩ = some (.string T[j].2[i].s) ∧
      (∀ o, w0.frozen? ⟨g, o, none⟩ = false) ∧ g < w.heap.size ∧ (∀ u, okV u → HeapR (set3 w0 g (i * 3) u) hb (setT T j i u) F ∧ Stp F w F (set3 w0 g (i * 3) u)) := by
  obtain ⟨tb, cap, g, cp, c0, p1, p2, c1, p3, p4, v0, v1, v2, vo, f, t1, t2, t3, t4⟩ := (h.below B0).part j hj i hi
  obtain ⟨tb', cap', g', cp', c0', -, -, c1', -, -, -, -, -, -, -, -, -, t3', -⟩ := h.part j hj i hi
  have e0 := (B0.cell (p := ⟨hb, 0, none⟩) (World.block_lt_of_cell? _ _ c0')).trans c0'
  rw [c0] at e0
  obtain rfl : tb = tb' := by injection e0 with e0; injection e0 with e0; injection e0 with e0; injection e0 with e0
  have e1 := (B0.cell (p := ⟨tb, j * 2 + 1, none⟩) (World.block_lt_of_cell? _ _ c1')).trans c1'
  rw [c1] at e1
  obtain rfl : g = g' := by injection e1 with e1; injection e1 with e1; injection e1 with e1; injection e1 with e1
  exact ⟨tb, cap, g, cp, c0, p1, p2, c1, p3, p4, v0, v1, v2, f, t3', fun u hu => ⟨(t4 u hu).1, (Stp.of_below B0).trans (t4 u hu).2⟩⟩
theorem HeapR.drew {w : World} {hb : Nat} {T : List (Int × List PV)} {F : Nat → Prop} (h : HeapR w hb T F) : HeapR w.drew hb T F := h.move (fun _ _ _ => rfl) fun _ h => h
theorem DoR.drew {w w' : World} {hb : Nat} {F : Nat → Prop} {u : PV} {err : Int} {T : List (Int × List PV)} {e : Ending} (h : DoR w hb F u err T e w') : DoR w hb F u err T e w'.drew := by
  obtain ⟨h1, F', h2, h3⟩ := h
  exact ⟨h1, F', h2.drew, h3.drew⟩
theorem putR_heap {w W : World} {R hb : Nat} {T : List (Int × List PV)} {F : Nat → Prop} (h : HeapR W hb T F) (hs : Stp F w F W) (hF : ¬ F R) (hR : w.heap.size ≤ R) (y0 y1 y2 : Value) :
    HeapR (((W.setCell ⟨R, 0, none⟩ y0).setCell ⟨R, 1, none⟩ y1).setCell ⟨R, 2, none⟩ y2) hb T F ∧ Stp F w F (((W.setCell ⟨R, 0, none⟩ y0).setCell ⟨R, 1, none⟩ y1).setCell ⟨R, 2, none⟩ y2) := by
  refine ⟨h.move (fun b hb _ => put3_other _ _ _ (fun e => hF (e ▸ hb))) fun _ h => h, ⟨⟨hs.1.1.trans (put3_below (Below.refl 0 W) (Nat.zero_le _) _ _ _), fun b hb hn => ?_⟩, fun b hb => .inl hb⟩⟩
  rw [put3_other _ _ _ (by omega)]
  exact hs.1.2 b hb hn
set_option maxHeartbeats 1000000 in
theorem rput_any (k i : Int) (s : ByteArray) (a : Int) (uk ui : Int) (us : ByteArray) (hu : okV ⟨uk, ui, us⟩) (hb : Nat) (T : List (Int × List PV)) (F : Nat → Prop) (w : World) (h : HeapR w hb T F) (hF : ∀ b, F b → b < w.heap.size) (h0 : 0 ≤ i) (hlt : i < T.length) :
    Calls Tryd.prog 37 #[.pointer (some ⟨hb, 0, none⟩), .agg #[.int .i64 k, .int .i64 i, .string s], .int .i64 a, .agg #[.int .i64 uk, .int .i64 ui, .string us]] w
      fun e w' => DoR w hb F (putT T ⟨k, i, s⟩ a ⟨uk, ui, us⟩).1 (putT T ⟨k, i, s⟩ a ⟨uk, ui, us⟩).2.1 (putT T ⟨k, i, s⟩ a ⟨uk, ui, us⟩).2.2 e w' := by
  obtain ⟨Z0, Z1, Z2, B0⟩ := three_new w (.cells #[.int .i64 k, .int .i64 i, .string s] 36) (.cells #[.int .i64 uk, .int .i64 ui, .string us] 36) (.cells #[.int .i64 0, .int .i64 0, .string ⟨#[]⟩] 36)
  have hj : i.toNat < T.length := by omega
  by_cases hin : 0 ≤ a ∧ a.toNat < T[i.toNat].2.length
  · obtain ⟨ha, hin⟩ := hin
    have HR := Lib.hid (putT_in (v := ⟨k, i, s⟩) (u := ⟨uk, ui, us⟩) hj ha hin)
    obtain ⟨tb, cap, g, cp, c0, p1, p2, c1, p3, p4, v0, v1, v2, ff, hg, tt⟩ := h.part_at B0 i.toNat hj a.toNat hin
    generalize putT T ⟨k, i, s⟩ a ⟨uk, ui, us⟩ = r at HR
    have hL : a < ((T[i.toNat].2.length : Nat) : Int) := by omega
    have f3 := ff (a.toNat * 3)
    have f4 := ff (a.toNat * 3 + 1)
    have f5 := ff (a.toNat * 3 + 2)
    have TT := Lib.hid (tt _ hu)
    have HG : Hid (w.heap.size + 1 + 1 ≠ g) := Lib.hid (by omega)
    have HNF : Hid (¬ F (w.heap.size + 1 + 1)) := Lib.hid (fun hf => by have := hF _ hf; omega)
    generalize T[i.toNat].2[a.toNat] = u at v0 v1 v2
    generalize T[i.toNat].2.length = n at c1 p3 hL hin
    obtain ⟨xk, xi, xs⟩ := u
    dsimp only at v0 v1 v2
    unfold maxLen at p2 p4
    clear h ff tt hu hF
    go_enter Tryd.func37, Tryd.ntmps37
    go_wp2
    generalize ((w.alloc (.cells #[.int .i64 k, .int .i64 i, .string s] 36)).alloc (.cells #[.int .i64 uk, .int .i64 ui, .string us] 36)).alloc (.cells #[.int .i64 0, .int .i64 0, .string ⟨#[]⟩] 36) = w0 at *
    have z1 := (look3 Z0).1.2.1
    obtain ⟨⟨u0, u1, u2⟩, -⟩ := look3 Z1
    obtain ⟨⟨y0, y1, y2⟩, f0, f1, f2⟩ := look3 Z2
    have H1 := Lib.hid Z2
    clear Z0 Z1 Z2 B0
    go_region
    go_wp2
    obtain ⟨q1, q2⟩ := putR_heap TT.out.1 TT.out.2 HNF.out (by omega) (.int .i64 5) (.int .i64 0) (.string ⟨#[]⟩)
    have E0 := put_row (u := ⟨uk, ui, us⟩) (o := a.toNat * 3) HG.out H1.out (.int .i64 5) (.int .i64 0) (.string ⟨#[]⟩)
    have Q : DoR w hb F r.1 r.2.1 r.2.2 (VE ⟨5, 0, ⟨#[]⟩⟩ 0) (((((set3 w0 g (a.toNat * 3) ⟨uk, ui, us⟩).setCell ⟨w.heap.size + 1 + 1, 0, none⟩ (.int .i64 5)).setCell ⟨w.heap.size + 1 + 1, 1, none⟩ (.int .i64 0)).setCell ⟨w.heap.size + 1 + 1, 2, none⟩ (.string ⟨#[]⟩))) := ⟨by rw [HR.out], F, by rw [HR.out]; exact q1, q2⟩
    unfold set3 at E0 Q
    dsimp only at E0 Q
    clear q1 q2 TT HG
    generalize (((((w0.setCell ⟨g, a.toNat * 3, none⟩ (.int .i64 uk)).setCell ⟨g, a.toNat * 3 + 1, none⟩ (.int .i64 ui)).setCell ⟨g, a.toNat * 3 + 2, none⟩ (.string us)).setCell ⟨w.heap.size + 1 + 1, 0, none⟩ (.int .i64 5)).setCell ⟨w.heap.size + 1 + 1, 1, none⟩ (.int .i64 0)).setCell ⟨w.heap.size + 1 + 1, 2, none⟩ (.string ⟨#[]⟩) = W at E0 Q ⊢
    have E1 : W.drew.heap[w.heap.size + 1 + 1]? = some (.cells #[.int .i64 5, .int .i64 0, .string ⟨#[]⟩] 36 (0, 0)) := E0
    have Q1 := Q.drew
    generalize W.drew = W1 at E1 Q1 ⊢
    exact bodyPost_ret (res_ve (t := 9) (p := 8) rfl _ _ (w.heap.size + 1 + 1) _ _ _ rfl E1) rfl Q1
  · have hin' : a < 0 ∨ (T[i.toNat].2.length : Int) ≤ a := by omega
    have HR := Lib.hid (putT_out (v := ⟨k, i, s⟩) (u := ⟨uk, ui, us⟩) hj hin')
    obtain ⟨tb, cap, g, pv, c0, p1, p2, -, c1, -, hp, -, -⟩ := (h.below B0).thing i.toNat hj
    obtain ⟨pa, pc, rfl, p3, p4⟩ := hp.slice
    generalize putT T ⟨k, i, s⟩ a ⟨uk, ui, us⟩ = r at HR
    generalize T[i.toNat].2.length = n at c1 p3 hin'
    unfold maxLen at p2 p4
    have HH := Lib.hid h
    clear h hp hin hF hu
    rcases hin' with hin' | hin'
    · have hin2 : decide (a < 0) = true := by simpa using hin'
      go_enter Tryd.func37, Tryd.ntmps37
      go_wp2
      generalize ((w.alloc (.cells #[.int .i64 k, .int .i64 i, .string s] 36)).alloc (.cells #[.int .i64 uk, .int .i64 ui, .string us] 36)).alloc (.cells #[.int .i64 0, .int .i64 0, .string ⟨#[]⟩] 36) = w0 at *
      have z1 := (look3 Z0).1.2.1
      obtain ⟨⟨y0, y1, y2⟩, f0, f1, f2⟩ := look3 Z2
      have H1 := Lib.hid Z2
      have HB := Lib.hid B0
      clear Z0 Z1 Z2 B0
      go_region
      go_wp2
      all_goals
        exact bodyPost_ret (res_ve (t := 9) (p := 8) rfl _ _ (w.heap.size + 1 + 1) _ _ _ rfl (put3 H1.out _ _ _)) rfl (by rw [HR.out]; exact DoR.of HH.out rfl (put3_below HB.out (by omega) _ _ _).drew)
    · have hin3 : ¬ a < 0 := by omega
      go_enter Tryd.func37, Tryd.ntmps37
      go_wp2
      generalize ((w.alloc (.cells #[.int .i64 k, .int .i64 i, .string s] 36)).alloc (.cells #[.int .i64 uk, .int .i64 ui, .string us] 36)).alloc (.cells #[.int .i64 0, .int .i64 0, .string ⟨#[]⟩] 36) = w0 at *
      have z1 := (look3 Z0).1.2.1
      obtain ⟨⟨y0, y1, y2⟩, f0, f1, f2⟩ := look3 Z2
      have H1 := Lib.hid Z2
      have HB := Lib.hid B0
      clear Z0 Z1 Z2 B0
      go_region
      go_wp2
      all_goals
        exact bodyPost_ret (res_ve (t := 9) (p := 8) rfl _ _ (w.heap.size + 1 + 1) _ _ _ rfl (put3 H1.out _ _ _)) rfl (by rw [HR.out]; exact DoR.of HH.out rfl (put3_below HB.out (by omega) _ _ _).drew)
end Go.Proofs.YtpejhilfopjckaaDoor.Hp
