/-
Texts Q7, Q7b, one behind the other (a claim bears sixty files). Conditions: as each says.
-/
import Derived.Test.YtpejhilfopjckaaDoorQGb
import Derived.Test.YtpejhilfopjckaaDoorWT

/-
How one goes on from a new thing. No condition.
-/
namespace Go.Proofs.YtpejhilfopjckaaDoor.Hp
open Go.ChangeShapes Go.WideShapes Go.ChangeAt Go.RowKit Go.Deep
open Dat (PT ok64 RepV RepS RowX infoDatum)
set_option maxRecDepth 100000

def repl (n : Nat) (v : PV) : List PV := List.replicate n v
/-- How one goes on from a thing that was made in a new block. -/
theorem AddOk.doOk {w w0 w' : World} {hb : Nat} {F : Nat → Prop} {l : List PV} {g0 : Nat} {T : List (Int × List PV)} {n : Int} {e : Ending} (h : AddOk w0 hb F l g0 T n e w') (hb0 : Below w.heap.size w w0) (hg : l ≠ [] → w.heap.size ≤ g0) :
    e = .returned (.agg #[.int .i64 8, .int .i64 n, .string ⟨#[]⟩]) ∧ ∃ F', HeapM w' hb T F' ∧ Stp F w F' w' ∧ ∀ R, R < w0.heap.size → ¬ F R → (l ≠ [] → R ≠ g0) → ¬ F' R ∧ w'.heap[R]? = w0.heap[R]? := by
  obtain ⟨h1, F', h2, h3, h4⟩ := h
  refine ⟨h1, F', h2, ⟨⟨(hb0.mono (Nat.zero_le _)).trans h3.1, fun b hlt hn => ?_⟩, fun b hb => ?_⟩, fun R h5 h6 h7 => ⟨fun hR => ?_, h3.2 R h5 h6⟩⟩
  · rw [h3.2 b (Nat.lt_of_lt_of_le hlt hb0.size) hn]
    exact hb0.block b hlt
  · have := hb0.size
    rcases h4 b hb with h | ⟨h, e⟩ | h
    · exact .inl h
    · have := hg h; exact .inr (by omega)
    · exact .inr (by omega)
  · rcases h4 R hR with h | ⟨h, e⟩ | h
    · exact h6 h
    · exact h7 h e
    · omega
/-- A value put into the result's cell. -/
theorem put_res {w W : World} {R hb : Nat} {T : List (Int × List PV)} {F F' : Nat → Prop} (h : HeapM W hb T F') (hs : Stp F w F' W) (hF : ¬ F' R) (hR : w.heap.size ≤ R) (y0 y1 y2 : Value) :
    HeapM (((W.setCell ⟨R, 0, none⟩ y0).setCell ⟨R, 1, none⟩ y1).setCell ⟨R, 2, none⟩ y2) hb T F' ∧ Stp F w F' (((W.setCell ⟨R, 0, none⟩ y0).setCell ⟨R, 1, none⟩ y1).setCell ⟨R, 2, none⟩ y2) := by
  refine ⟨h.move (fun b hb _ => put3_other _ _ _ (fun e => hF (e ▸ hb))) fun _ h => h, ⟨⟨hs.1.1.trans (put3_below (Below.refl 0 W) (Nat.zero_le _) _ _ _), fun b hb hn => ?_⟩, hs.2⟩⟩
  rw [put3_other _ _ _ (by omega)]
  exact hs.1.2 b hb hn
/-- What comes of filled. -/
def fillT (T : List (Int × List PV)) (kind n : Int) (u : PV) : PV × Int × List (Int × List PV) :=
  if 0 ≤ n ∧ n ≤ 1000 then (⟨8, T.length, ⟨#[]⟩⟩, 0, T ++ [(kind, repl n.toNat u)]) else (⟨0, 0, ⟨#[]⟩⟩, 83, T)
theorem repl_length (n : Nat) (v : PV) : (repl n v).length = n := List.length_replicate
/-- What is filled with one part is a thing. -/
theorem piece_filled {W : World} {kd : Int} (hk : kd ≠ 0) {m : Nat} (hm : m ≤ 1000) {u : PV} (hu : okV u) {g : Nat} {a : Option Addr} {n c : Nat} (h : PartsM W [u] g (.slice a n c)) : Piece W (kd, repl m u) g (.slice a n c) (.map none) := by
  by_cases h1 : m = 1
  · subst h1
    exact .inl ⟨rfl, h⟩
  · by_cases h0 : m = 0
    · subst h0
      exact .inr (.inl ⟨rfl, rfl, a, n, c, rfl⟩)
    · refine .inr (.inr ⟨hk, by rw [repl_length]; omega, by rw [repl_length]; exact hm, fun v hv => ?_, u, h, .inl ⟨rfl, by rw [repl_length]; rfl⟩⟩)
      rw [List.eq_of_mem_replicate hv]
      exact hu
set_option maxHeartbeats 1000000 in
theorem filled_any (kind n : Int) (uk ui : Int) (us : ByteArray) (hu : okV ⟨uk, ui, us⟩) (hb : Nat) (T : List (Int × List PV)) (F : Nat → Prop) (w : World) (h : HeapM w hb T F) (hF : ∀ b, F b → b < w.heap.size) (hk : ok64 kind) (hk0 : kind ≠ 0) (hT : T.length ≤ 100000) :
    Calls Tryd.prog 49 #[.pointer (some ⟨hb, 0, none⟩), .int .i64 kind, .int .i64 n, .agg #[.int .i64 uk, .int .i64 ui, .string us]] w
      fun e w' => DoOk w hb F (fillT T kind n ⟨uk, ui, us⟩).1 (fillT T kind n ⟨uk, ui, us⟩).2.1 (fillT T kind n ⟨uk, ui, us⟩).2.2 e w' := by
  obtain ⟨Z0, Z1, B0⟩ := two_new w (.cells #[.int .i64 uk, .int .i64 ui, .string us] 36) (.cells #[.int .i64 0, .int .i64 0, .string ⟨#[]⟩] 36)
  by_cases hn : 0 ≤ n ∧ n ≤ 1000
  · obtain ⟨hn0, hn1⟩ := hn
    have HR : Hid (fillT T kind n ⟨uk, ui, us⟩ = (⟨8, T.length, ⟨#[]⟩⟩, 0, T ++ [(kind, repl n.toNat ⟨uk, ui, us⟩)])) := Lib.hid (if_pos ⟨hn0, hn1⟩)
    generalize fillT T kind n ⟨uk, ui, us⟩ = r at HR
    obtain ⟨m, rfl⟩ := Int.eq_ofNat_of_zero_le hn0
    rw [Int.toNat_natCast] at HR
    obtain ⟨Y0, Y1, Y2, C0⟩ := three_new w (.cells #[.int .i64 uk, .int .i64 ui, .string us] 36) (.cells #[.int .i64 0, .int .i64 0, .string ⟨#[]⟩] 36) (.cells #[.int .i64 uk, .int .i64 ui, .string us] 36)
    have hsz : (((w.alloc (.cells #[.int .i64 uk, .int .i64 ui, .string us] 36)).alloc (.cells #[.int .i64 0, .int .i64 0, .string ⟨#[]⟩] 36)).alloc (.cells #[.int .i64 uk, .int .i64 ui, .string us] 36)).heap.size = w.heap.size + 1 + 1 + 1 := by rw [size_new, size_new, size_new]
    have hP : PartsM (((w.alloc (.cells #[.int .i64 uk, .int .i64 ui, .string us] 36)).alloc (.cells #[.int .i64 0, .int .i64 0, .string ⟨#[]⟩] 36)).alloc (.cells #[.int .i64 uk, .int .i64 ui, .string us] 36)) [⟨uk, ui, us⟩] (w.heap.size + 1 + 1) (.slice (some ⟨w.heap.size + 1 + 1, 0, none⟩) 1 1) :=
      .inr ⟨by simp, fun v hv => by rw [List.mem_singleton.1 hv]; exact hu, 1, _, rfl, Nat.le_refl _, by unfold maxLen; omega, Y2, rfl, rfl⟩
    have KA := add_gen kind (repl m ⟨uk, ui, us⟩) [⟨uk, ui, us⟩] (w.heap.size + 1 + 1) _ hb T F _ (h.below C0) (fun b h => by have := hF b h; rw [hsz]; omega) hk hP (fun W q => piece_filled hk0 (by omega) hu q) (fun _ => by simp) (fun _ => ⟨fun hf => by have := hF _ hf; omega, by rw [hsz]; omega⟩) hT
    rw [repl_length] at KA
    replace KA := Lib.hid KA
    have HF := Lib.hid hF
    have HSZ := Lib.hid hsz
    have HY1 := Lib.hid Y1
    have HC0 := Lib.hid C0
    clear Y0 Y1 Y2 C0 Z0 Z1 B0 h hF hu hsz hP
    go_enter Tryd.func49, Tryd.ntmps49
    go_wp2_with fail
    refine KA.out.mono ?_
    rintro e w2 hA
    obtain ⟨rfl, F', q1, q2, q3⟩ := hA.doOk (w := w) HC0.out (fun h => by omega)
    obtain ⟨q4, q5⟩ := q3 (w.heap.size + 1) (by rw [HSZ.out]; omega) (fun hf => by have := HF.out _ hf; omega) (fun h e => by omega)
    have E2 := q5.trans HY1.out
    have Q := put_res q1 q2 q4 (Nat.le_succ _) (.int .i64 8) (.int .i64 T.length) (.string ⟨#[]⟩)
    have HE := Lib.hid (put3 E2 (.int .i64 8) (.int .i64 T.length) (.string ⟨#[]⟩))
    obtain ⟨⟨y0, y1, y2⟩, f0, f1, f2⟩ := look3 E2
    have HQ := Lib.hid Q
    clear hA q1 q2 q3 q4 q5 E2 Q
    go_wp2
    have hE := HE.out
    have Q' : DoOk w hb F r.1 r.2.1 r.2.2 (VE ⟨8, T.length, ⟨#[]⟩⟩ 0) (((w2.setCell ⟨w.heap.size + 1, 0, none⟩ (.int .i64 8)).setCell ⟨w.heap.size + 1, 1, none⟩ (.int .i64 T.length)).setCell ⟨w.heap.size + 1, 2, none⟩ (.string ⟨#[]⟩)) := ⟨by rw [HR.out], F', by rw [HR.out]; exact HQ.out.1, HQ.out.2⟩
    clear HE HQ
    generalize (((w2.setCell ⟨w.heap.size + 1, 0, none⟩ (.int .i64 8)).setCell ⟨w.heap.size + 1, 1, none⟩ (.int .i64 T.length)).setCell ⟨w.heap.size + 1, 2, none⟩ (.string ⟨#[]⟩)) = W at hE Q' ⊢
    exact bodyPost_ret (res_ve (t := 9) (p := 8) rfl _ _ (w.heap.size + 1) _ _ _ rfl hE) rfl Q'
  · have HR : Hid (fillT T kind n ⟨uk, ui, us⟩ = (⟨0, 0, ⟨#[]⟩⟩, 83, T)) := Lib.hid (if_neg hn)
    generalize fillT T kind n ⟨uk, ui, us⟩ = r at HR
    have HH := Lib.hid h
    have HB := Lib.hid B0
    have H1 := Lib.hid Z1
    clear h hF hu Z0 Z1 B0
    by_cases hn0 : n < 0
    · clear hn
      go_enter Tryd.func49, Tryd.ntmps49
      go_wp2
      exact bodyPost_ret (res_ve (t := 9) (p := 8) rfl _ _ (w.heap.size + 1) _ _ _ rfl H1.out) rfl (by rw [HR.out]; exact DoOk.of HH.out rfl HB.out)
    · have hn1 : 1000 < n := by omega
      clear hn
      go_enter Tryd.func49, Tryd.ntmps49
      go_wp2
      exact bodyPost_ret (res_ve (t := 9) (p := 8) rfl _ _ (w.heap.size + 1) _ _ _ rfl H1.out) rfl (by rw [HR.out]; exact DoOk.of HH.out rfl HB.out)
end Go.Proofs.YtpejhilfopjckaaDoor.Hp

/-
Package heap's change: another part in a place of a thing. No condition but that the heap lies in memory, and that the value is a thing of its own.
-/
namespace Go.Proofs.YtpejhilfopjckaaDoor.Hp
open Go.ChangeShapes Go.WideShapes Go.ChangeAt Go.RowKit Go.Deep
open Dat (PT ok64 RepV RepS RowX infoDatum)
set_option maxRecDepth 100000

/-- How things stand behind a write: the heap, and a block of the call's own. -/
theorem res_done {w W : World} {R hb : Nat} {T : List (Int × List PV)} {F F' : Nat → Prop} (h : HeapM W hb T F') (hs : Stp F w F' W) (hF : ¬ F' R) (hR : w.heap.size ≤ R) {x0 x1 x2 : Value} (hZ : W.heap[R]? = some (.cells #[x0, x1, x2] 36 (0, 0))) (y : PV) :
    DoOk w hb F y 0 T (VE y 0) (((W.setCell ⟨R, 0, none⟩ (.int .i64 y.k)).setCell ⟨R, 1, none⟩ (.int .i64 y.i)).setCell ⟨R, 2, none⟩ (.string y.s)) ∧
    (((W.setCell ⟨R, 0, none⟩ (.int .i64 y.k)).setCell ⟨R, 1, none⟩ (.int .i64 y.i)).setCell ⟨R, 2, none⟩ (.string y.s)).heap[R]? = some (.cells #[.int .i64 y.k, .int .i64 y.i, .string y.s] 36 (0, 0)) := by
  obtain ⟨q1, q2⟩ := put_res h hs hF hR (.int .i64 y.k) (.int .i64 y.i) (.string y.s)
  exact ⟨⟨rfl, F', q1, q2⟩, put3 hZ _ _ _⟩
/-- Draws are of no moment. -/
theorem HeapM.same {w W W' : World} {hb : Nat} {F F' : Nat → Prop} {T : List (Int × List PV)} (h2 : HeapM W hb T F') (h3 : Stp F w F' W) (hh : W'.heap = W.heap) (ho : W'.os = W.os) (ht : W'.tape = W.tape) (hp : W'.output = W.output) : HeapM W' hb T F' ∧ Stp F w F' W' :=
  ⟨h2.move (fun b _ _ => by rw [hh]) (fun _ q => q), ⟨⟨ho.trans h3.1.1.os, ht.trans h3.1.1.tape, hp.trans h3.1.1.output, by rw [hh]; exact h3.1.1.size, fun k hk => absurd hk (Nat.not_lt_zero k)⟩, fun b q1 q2 => by rw [hh]; exact h3.1.2 b q1 q2⟩, h3.2⟩
theorem slice_inj {tb tb' n n' c c' : Nat} {v : Option Value} (h : v = some (.slice (some ⟨tb, 0, none⟩) n c)) (k : v = some (.slice (some ⟨tb', 0, none⟩) n' c')) : tb = tb' ∧ n = n' := by
  rw [h] at k
  cases k
  exact ⟨rfl, rfl⟩
/-- A map is made for a thing that has none. -/
theorem HeapM.mk {w : World} {hb tb g cap nf cp : Nat} {T : List (Int × List PV)} {F : Nat → Prop} (h : HeapM w hb T F) (j : Nat) (hj : j < T.length) (i : Nat) (hi : i < T[j].2.length) (hc : w.cell? ⟨hb, 0, none⟩ = some (.slice (some ⟨tb, 0, none⟩) T.length cap))
    (c2 : w.cell? ⟨tb, j * 4 + 2, none⟩ = some (.slice (some ⟨g, 0, none⟩) nf cp)) (e : nf ≠ T[j].2.length) (c3 : w.cell? ⟨tb, j * 4 + 3, none⟩ = some (.map none)) (hF : ∀ b, F b → b < w.heap.size) :
    HeapM ((w.alloc (.map #[] 0)).setCell ⟨tb, j * 4 + 3, none⟩ (.map (some w.heap.size))) hb T (fun b => F b ∨ b = w.heap.size) := by
  obtain ⟨tb', cap', g', nf', cp', mv, q0, _, _, _, q2, q3, _, _, _, _, hw⟩ := h.put j hj i hi
  obtain ⟨rfl, _⟩ := slice_inj hc q0
  obtain ⟨_, rfl⟩ := slice_inj c2 q2
  rw [c3] at q3
  obtain rfl := Option.some.inj q3
  rcases hw with ⟨e', _⟩ | ⟨_, _, tt⟩ | ⟨_, b, em, _⟩
  · exact absurd e' e
  · exact tt hF
  · cases em
/-- A part is put into a thing's map. -/
theorem HeapM.turn {w : World} {hb tb g cap nf cp b : Nat} {T : List (Int × List PV)} {F : Nat → Prop} (h : HeapM w hb T F) (j : Nat) (hj : j < T.length) (i : Nat) (hi : i < T[j].2.length) (hc : w.cell? ⟨hb, 0, none⟩ = some (.slice (some ⟨tb, 0, none⟩) T.length cap))
    (c2 : w.cell? ⟨tb, j * 4 + 2, none⟩ = some (.slice (some ⟨g, 0, none⟩) nf cp)) (e : nf ≠ T[j].2.length) (c3 : w.cell? ⟨tb, j * 4 + 3, none⟩ = some (.map (some b))) :
    F b ∧ ∀ u, okV u → ∃ w', (Instr.mapUpdate 81 (.map (some b)) (.int .i64 i) u.val).run Tryd.prog w = .ok () w' ∧ w.mapTurned w' b ∧ HeapM w' hb (setT T j i u) F := by
  obtain ⟨tb', cap', g', nf', cp', mv, q0, _, _, _, q2, q3, _, _, _, _, hw⟩ := h.put j hj i hi
  obtain ⟨rfl, _⟩ := slice_inj hc q0
  obtain ⟨_, rfl⟩ := slice_inj c2 q2
  rw [c3] at q3
  obtain rfl := Option.some.inj q3
  rcases hw with ⟨e', _⟩ | ⟨_, em, _⟩ | ⟨_, b', em, hF, tt⟩
  · exact absurd e' e
  · cases em
  · cases em
    exact ⟨hF, tt⟩
theorem mapTurned.stp {F : Nat → Prop} {w w' : World} {b : Nat} (h : w.mapTurned w' b) (hF : F b) : Stp F w F w' := ⟨⟨mapTurned.below h, fun _ _ hc => mapTurned.other h (fun e => hc (e ▸ hF))⟩, fun _ q => .inl q⟩
theorem mapTurned.cells {w w' : World} {b c : Nat} {x : Array Value} {t : TypeId} {f : Nat × Nat} (h : w.mapTurned w' b) (hc : w.heap[c]? = some (.cells x t f)) : w'.heap[c]? = some (.cells x t f) := by
  refine (mapTurned.other h fun e => ?_).trans hc
  obtain ⟨es, cl, es', cl', q, _⟩ := h
  rw [e, q] at hc
  cases hc
/-- The row of the things' cells. -/
theorem HeapM.tbl {w : World} {hb tb cap : Nat} {T : List (Int × List PV)} {F : Nat → Prop} (h : HeapM w hb T F) (hc : w.cell? ⟨hb, 0, none⟩ = some (.slice (some ⟨tb, 0, none⟩) T.length cap)) : ∃ cu, F tb ∧ w.heap[tb]? = some (.cells cu 83 (0, 0)) := by
  obtain ⟨sv, xs, g, pv, mv, h1, h2, h3, h4, h5⟩ := h
  have e : w.cell? ⟨hb, 0, none⟩ = some sv := by rw [Lib.cell_of_heap h1]; rfl
  rw [hc] at e
  obtain rfl := Option.some.inj e
  rcases h3.2 with ⟨e, _⟩ | ⟨tb', cap', ct, e, b1, b2, _⟩
  · cases e
  · cases e
    exact ⟨ct, h4 tb rfl, b2⟩
/-- What is where behind that. -/
theorem HeapM.mk_cells {w : World} {hb tb g cap nf cp k : Nat} {T : List (Int × List PV)} {F : Nat → Prop} (h : HeapM w hb T F) (hc : w.cell? ⟨hb, 0, none⟩ = some (.slice (some ⟨tb, 0, none⟩) T.length cap))
    (c2 : w.cell? ⟨tb, k + 2, none⟩ = some (.slice (some ⟨g, 0, none⟩) nf cp)) (c3 : w.cell? ⟨tb, k + 3, none⟩ = some (.map none)) (n : Nat) :
    ((w.alloc (.map #[] 0)).setCell ⟨tb, k + 3, none⟩ (.map (some n))).cell? ⟨hb, 0, none⟩ = some (.slice (some ⟨tb, 0, none⟩) T.length cap) ∧
    ((w.alloc (.map #[] 0)).setCell ⟨tb, k + 3, none⟩ (.map (some n))).cell? ⟨tb, k + 2, none⟩ = some (.slice (some ⟨g, 0, none⟩) nf cp) ∧
    ((w.alloc (.map #[] 0)).setCell ⟨tb, k + 3, none⟩ (.map (some n))).cell? ⟨tb, k + 3, none⟩ = some (.map (some n)) := by
  obtain ⟨cu, _, q⟩ := h.tbl hc
  have hl := lt_of_block q
  have e := heap_setCell_same (w.alloc (.map #[] 0)) tb (k + 3) cu _ (.map (some n)) ((Below.heap_alloc w _ tb hl).trans q)
  have hne : hb ≠ tb := fun e => by
    obtain ⟨sv, xs, g, pv, mv, h1, _⟩ := h
    rw [e, q] at h1
    exact absurd (Obj.cells.inj (Option.some.inj h1)).2.1 (by decide)
  rw [Lib.cell_of_heap q] at c2 c3
  have hk : k + 3 < cu.size := (Array.getElem?_eq_some_iff.1 c3).1
  refine ⟨?_, ?_, ?_⟩
  · exact (World.cell?_of_block (w := w) (a := ⟨hb, 0, none⟩) ((Below.heap_setCell _ _ _ _ hne).trans (Below.heap_alloc w _ hb h.lt))).trans hc
  · rw [Lib.cell_of_heap e, Array.getElem?_setIfInBounds_ne (by omega)]
    exact c2
  · rw [Lib.cell_of_heap e, Array.getElem?_setIfInBounds_self_of_lt hk]
theorem Stp.mkmap {F : Nat → Prop} {w w2 : World} {tb k : Nat} (h : Stp F w F w2) (hF : F tb) (o : Obj) (v : Value) : Stp F w (fun b => F b ∨ b = w2.heap.size) ((w2.alloc o).setCell ⟨tb, k, none⟩ v) := by
  refine ⟨⟨h.1.1.trans (((Below.refl 0 w2).alloc (Nat.zero_le _) o).setCell (p := ⟨tb, k, none⟩) (Nat.zero_le _) v), fun b hb hn => ?_⟩, fun b hb => ?_⟩
  · rw [Below.heap_setCell _ _ _ _ (show b ≠ tb from fun e => hn (by rw [e]; exact hF)), Below.heap_alloc w2 o b (Nat.lt_of_lt_of_le hb h.1.1.size)]
    exact h.1.2 b hb hn
  · rcases hb with hb | rfl
    · exact h.2 b hb
    · exact .inr h.1.1.size
set_option maxHeartbeats 2000000 in
theorem change_any (T : List (Int × List PV)) (v : PV) (a : Int) (uk ui : Int) (us : ByteArray) (hu : okV ⟨uk, ui, us⟩) (hb : Nat) (F : Nat → Prop) (w : World) (h : HeapM w hb T F) (hF : ∀ b, F b → b < w.heap.size) (h0 : 0 ≤ v.i) (hlt : v.i < T.length) (tb cap : Nat) (hc : w.cell? ⟨hb, 0, none⟩ = some (.slice (some ⟨tb, 0, none⟩) T.length cap)) :
    Calls Tryd.prog 52 #[.pointer (some ⟨tb, v.i.toNat * 4, none⟩), .int .i64 a, .agg #[.int .i64 uk, .int .i64 ui, .string us]] w fun e w' => DoOk w hb F (putT T v a ⟨uk, ui, us⟩).1 (putT T v a ⟨uk, ui, us⟩).2.1 (putT T v a ⟨uk, ui, us⟩).2.2 e w' := by
  have hj : v.i.toNat < T.length := by omega
  obtain ⟨Z0, Z1, B0⟩ := two_new w (.cells #[.int .i64 uk, .int .i64 ui, .string us] 36) (.cells #[.int .i64 0, .int .i64 0, .string ⟨#[]⟩] 36)
  have hsz : ((w.alloc (.cells #[.int .i64 uk, .int .i64 ui, .string us] 36)).alloc (.cells #[.int .i64 0, .int .i64 0, .string ⟨#[]⟩] 36)).heap.size = w.heap.size + 1 + 1 := by rw [size_new, size_new]
  have hc0 := (B0.cell (p := ⟨hb, 0, none⟩) (World.block_lt_of_cell? _ _ hc)).trans hc
  have h2 := h.below B0
  obtain ⟨tb', cap', _, _, _, c0, _, _, _, c1, _⟩ := h2.thing v.i.toNat hj
  rw [hc0] at c0
  obtain rfl : tb = tb' := by injection c0 with c0; injection c0 with c0; injection c0 with c0; injection c0 with c0
  by_cases hin : 0 ≤ a ∧ a.toNat < T[v.i.toNat].2.length
  · obtain ⟨ha, hin⟩ := hin
    have HR := Lib.hid (putT_in (v := v) (u := ⟨uk, ui, us⟩) hj ha hin)
    have ea : ((a.toNat : Nat) : Int) = a := Int.toNat_of_nonneg ha
    generalize putT T v a ⟨uk, ui, us⟩ = r at HR
    have hL : a < ((T[v.i.toNat].2.length : Nat) : Int) := by omega
    have ha2 : ¬ a < 0 := by omega
    have ha3 : ¬ ((T[v.i.toNat].2.length : Nat) : Int) ≤ a := by omega
    have HH := Lib.hid h2
    have HC := Lib.hid hc0
    have HF := Lib.hid hF
    have H0 := Lib.hid Z0
    have H1 := Lib.hid Z1
    have HB := Lib.hid B0
    have HS := Lib.hid hsz
    have HIN := Lib.hid hin
    clear h h2 hc hc0 c0 hF Z0 Z1 B0 hsz
    go_enter Tryd.func52, Tryd.ntmps52
    go_upto_region 3 with fail
    generalize (w.alloc (.cells #[.int .i64 uk, .int .i64 ui, .string us] 36)).alloc (.cells #[.int .i64 0, .int .i64 0, .string ⟨#[]⟩] 36) = w0 at *
    clear c1
    have B1 := (Below.refl w0.heap.size w0).alloc (Nat.le_refl _) (.cells #[.int .i64 5, .int .i64 0, .string ⟨#[]⟩] 36)
    have Y2 := heap_alloc_new w0 (.cells #[.int .i64 5, .int .i64 0, .string ⟨#[]⟩] 36)
    have Y1 := (B1.block (w.heap.size + 1) (by rw [HS.out]; omega)).trans H1.out
    have Y0 := (B1.block w.heap.size (by rw [HS.out]; omega)).trans H0.out
    have S0 := Stp.of_below (F := F) (HB.out.trans (B1.mono HB.out.size))
    have h3 := HH.out.below B1
    have hc3 := (B1.cell (p := ⟨hb, 0, none⟩) (World.block_lt_of_cell? _ _ HC.out)).trans HC.out
    have hs3 : (w0.alloc (.cells #[.int .i64 5, .int .i64 0, .string ⟨#[]⟩] 36)).heap.size = w.heap.size + 1 + 1 + 1 := by rw [size_new, HS.out]
    go_upto_region 4 with fail
    generalize w0.alloc (.cells #[.int .i64 5, .int .i64 0, .string ⟨#[]⟩] 36) = w1 at *
    clear B1 HH HC H0 H1 HB
    obtain ⟨⟨z0, z1, z2⟩, -⟩ := look3 Y0
    obtain ⟨⟨d0, d1, d2⟩, -⟩ := look3 Y2
    obtain ⟨⟨y0, y1, y2⟩, f0, f1, f2⟩ := look3 Y1
    obtain ⟨tb', cap', g, nf, cp, mv, c0, p1, p2, c1, c2, c3, p3, p4, hft, ft, hw⟩ := h3.put v.i.toNat hj a.toNat HIN.out
    rw [hc3] at c0
    obtain rfl : tb = tb' := by injection c0 with c0; injection c0 with c0; injection c0 with c0; injection c0 with c0
    rw [ea] at hw
    have NF1 : ∀ R, w.heap.size ≤ R → ¬ F R := fun R hR hf => by have := HF.out _ hf; omega
    unfold maxLen at p2 p4
    clear c0
    rcases hw with ⟨e, hFg, hgl, fg, ⟨x0, x1, x2, v0, v1, v2⟩, tt⟩ | ⟨e, em, tt⟩ | ⟨e, b, em, hFb, tt⟩
    · have f3 := fg (a.toNat * 3)
      have f4 := fg (a.toNat * 3 + 1)
      have f5 := fg (a.toNat * 3 + 2)
      have gne : ∀ R, w.heap.size ≤ R → R ≠ g := fun R hR e => NF1 R hR (e ▸ hFg)
      obtain ⟨q1, q2⟩ := tt _ hu
      have D2 := (set3_other (u := ⟨uk, ui, us⟩) (o := a.toNat * 3) (gne w0.heap.size (by rw [HS.out]; omega))).trans Y2
      have D1 := (set3_other (u := ⟨uk, ui, us⟩) (o := a.toNat * 3) (gne (w.heap.size + 1) (by omega))).trans Y1
      have K := Lib.hid (fun (W' : World) hh ho ht hp => HeapM.same (W' := W') q1 (S0.trans q2) hh ho ht hp)
      unfold set3 at D1 D2 K
      dsimp only at D1 D2 K
      have hnn : (((T[v.i.toNat].2.length : Nat) : Int) == (nf : Int)) = true := by rw [e]; simp
      rw [← e] at hL
      generalize T[v.i.toNat].2.length = n at c1 hnn ha3
      clear tt q1 q2 fg hft hFg ft S0 h3 Y0 Y1 Y2 HIN gne hc3 HS hs3 e y0 y1 y2 f0 f1 f2 d0 d1 d2
      replace D1 := Lib.hid D1
      replace D2 := Lib.hid D2
      go_quiet (fail)
      go_upto_region 5 with fail
      go_region
      generalize hW : ((((w1.drewN (nq + 1)).setCell ⟨g, a.toNat * 3, none⟩ (.int .i64 uk)).setCell ⟨g, a.toNat * 3 + 1, none⟩ (.int .i64 ui)).setCell ⟨g, a.toNat * 3 + 2, none⟩ (.string us)) = W
      obtain ⟨hM, hS⟩ := K.out W (by rw [← hW]; rfl) (by rw [← hW]; rfl) (by rw [← hW]; rfl) (by rw [← hW]; rfl)
      have hh : W.heap = ((((w1.setCell ⟨g, a.toNat * 3, none⟩ (.int .i64 uk)).setCell ⟨g, a.toNat * 3 + 1, none⟩ (.int .i64 ui)).setCell ⟨g, a.toNat * 3 + 2, none⟩ (.string us))).heap := by rw [← hW]; rfl
      have E2 := D2.out
      have E1 := D1.out
      rw [← hh] at E1 E2
      clear hW hh K D1 D2 v0 v1 v2 c1 c2 c3 z0 z1 z2 f3 f4 f5
      obtain ⟨⟨s0, s1, s2⟩, -⟩ := look3 E2
      obtain ⟨⟨t0, t1, t2⟩, k0, k1, k2⟩ := look3 E1
      have Q := Lib.hid (res_done hM hS (NF1 _ (by omega)) (by omega) E1 ⟨5, 0, ⟨#[]⟩⟩)
      clear E1 E2 hM hS
      go_wp2
      refine bodyPost_ret (res_ve (t := 7) (p := 6) rfl _ _ (w.heap.size + 1) _ _ _ rfl Q.out.2) rfl ?_
      rw [HR.out]
      exact Q.out.1
    · subst em
      have heq : ∀ W : World, (binOp .eql 81 (.map none) (.map none)).run Tryd.prog W = .ok (.bool true) W := fun _ => rfl
      have HFT := Lib.hid ft
      have hnn : (((T[v.i.toNat].2.length : Nat) : Int) == (nf : Int)) = false := by simp; omega
      have E := Lib.hid e
      have HT := Lib.hid tt
      have H3 := Lib.hid h3
      have HS0 := Lib.hid S0
      generalize hnl : T[v.i.toNat].2.length = n at c1 hnn ha3 hL
      have HNL := Lib.hid hnl
      clear tt hft h3 S0 e hnl y0 y1 y2 f0 f1 f2 d0 d1 d2 z0 z1 z2
      go_quiet (fail)
      generalize hW : w1.drewN nq = w2
      have hh : w2.heap = w1.heap := by rw [← hW]; rfl
      have hft2 : (w2.alloc (.map #[] 0)).frozen? ⟨tb, v.i.toNat * 4 + 3, none⟩ = false := by
        have q : (w2.alloc (.map #[] 0)).heap[tb]? = w1.heap[tb]? := (Below.heap_alloc w2 _ tb (by rw [hh]; exact World.block_lt_of_cell? _ _ c3)).trans (by rw [hh])
        have := HFT.out (v.i.toNat * 4 + 3)
        unfold World.frozen? at this ⊢
        rw [q]
        exact this
      obtain ⟨hM, hS⟩ := HeapM.same (W' := w2) H3.out HS0.out hh (by rw [← hW]; rfl) (by rw [← hW]; rfl) (by rw [← hW]; rfl)
      rw [← hh] at Y0 Y1 Y2
      replace hc3 := (World.cell?_of_block (w := w1) (w' := w2) (a := ⟨hb, 0, none⟩) (by rw [hh])).trans hc3
      replace c2 := (World.cell?_of_block (w := w1) (w' := w2) (a := ⟨tb, v.i.toNat * 4 + 2, none⟩) (by rw [hh])).trans c2
      replace c3 := (World.cell?_of_block (w := w1) (w' := w2) (a := ⟨tb, v.i.toNat * 4 + 3, none⟩) (by rw [hh])).trans c3
      have hs2 : w2.heap.size = w.heap.size + 1 + 1 + 1 := by rw [hh]; exact hs3
      clear hW hh HT H3 HS0 c1 hs3
      have hmm := @run_makeMap Tryd.prog
      have htl : tb < w2.heap.size := World.block_lt_of_cell? _ _ c3
      have ntb : ∀ {c : Nat} {x : Array Value}, w2.heap[c]? = some (.cells x 36 (0, 0)) → c ≠ tb := fun q e => by
        obtain ⟨cu, _, q2⟩ := hM.tbl hc3
        rw [e, q2] at q
        exact absurd (Obj.cells.inj (Option.some.inj q)).2.1 (by decide)
      have c3a : (w2.alloc (.map #[] 0)).cell? ⟨tb, v.i.toNat * 4 + 3, none⟩ = some (.map none) := ((Below.refl w2.heap.size w2).alloc (Nat.le_refl _) (.map #[] 0) |>.cell (p := ⟨tb, v.i.toNat * 4 + 3, none⟩) htl).trans c3
      have hFlt : ∀ b, F b → b < w2.heap.size := fun b hf => by have := HF.out b hf; omega
      have hM4 := hM.mk v.i.toNat hj a.toNat HIN.out hc3 c2 E.out c3 hFlt
      have hS4 := hS.mkmap (k := v.i.toNat * 4 + 3) (hM.tbl hc3).choose_spec.1 (.map #[] 0) (.map (some w2.heap.size))
      obtain ⟨hc4, c24, c34⟩ := hM.mk_cells hc3 c2 c3 w2.heap.size
      have up : ∀ {c : Nat} {x : Array Value}, w2.heap[c]? = some (.cells x 36 (0, 0)) → ((w2.alloc (.map #[] 0)).setCell ⟨tb, v.i.toNat * 4 + 3, none⟩ (.map (some w2.heap.size))).heap[c]? = some (.cells x 36 (0, 0)) := fun q => by
        rw [Below.heap_setCell _ _ _ _ (ntb q), Below.heap_alloc w2 _ _ (lt_of_block q)]
        exact q
      have Y04 := up Y0
      have Y14 := up Y1
      have Y24 := up Y2
      rw [hs2] at hM4 hS4 hc4 c24 c34 Y04 Y14 Y24
      have HM4 := Lib.hid hM4
      have HS4 := Lib.hid hS4
      have HC4 := Lib.hid hc4
      have H24 := Lib.hid c24
      have H34 := Lib.hid c34
      have HY0 := Lib.hid Y04
      have HY1 := Lib.hid Y14
      have HY2 := Lib.hid Y24
      clear hM hS hM4 hS4 hc4 c24 c34 Y04 Y14 Y24 up ntb hFlt hc3 c2 Y0 Y1 Y2
      go_upto_region 9 with fail
      generalize ((w2.alloc (.map #[] 0)).setCell ⟨tb, v.i.toNat * 4 + 3, none⟩ (.map (some (w.heap.size + 1 + 1 + 1)))) = w4 at *
      have hM := HM4.out
      have hS := HS4.out
      have hc3 := HC4.out
      have c2 := H24.out
      have Y0 := HY0.out
      have Y1 := HY1.out
      have Y2 := HY2.out
      clear c3 c3a hft2 HM4 HS4 HC4 H24 HY0 HY1 HY2 htl hmm
      have c3 := H34.out
      clear H34
      have HNR : Hid (¬ (F (w.heap.size + 1) ∨ w.heap.size + 1 = w.heap.size + 1 + 1 + 1)) := Lib.hid (fun h => by
        rcases h with h | h
        · exact NF1 _ (by omega) h
        · omega)
      have hMd := hM.drew
      have hSd := hS.drew
      obtain ⟨hFb, tu⟩ := hMd.turn v.i.toNat hj a.toNat HIN.out hc3 c2 E.out c3
      obtain ⟨w3, hrun, hturn, hM3⟩ := tu _ hu
      rw [ea] at hrun
      unfold PV.val at hrun
      obtain ⟨⟨u0, u1, u2⟩, -⟩ := look3 Y0
      have E1 := mapTurned.cells hturn (show w4.drew.heap[w.heap.size + 1]? = _ from Y1)
      have E2 := mapTurned.cells hturn (show w4.drew.heap[w0.heap.size]? = _ from Y2)
      have Q := Lib.hid (res_done hM3 (hSd.trans (mapTurned.stp hturn hFb)) HNR.out (by omega) E1 ⟨5, 0, ⟨#[]⟩⟩)
      obtain ⟨⟨s0, s1, s2⟩, -⟩ := look3 E2
      obtain ⟨⟨t0, t1, t2⟩, k0, k1, k2⟩ := look3 E1
      clear hMd hSd tu hturn hM3 E1 E2 hM hS Y0 Y1 Y2 c2 hc3
      go_region
      go_wp2
      refine bodyPost_ret (res_ve (t := 7) (p := 6) rfl _ _ (w.heap.size + 1) _ _ _ rfl Q.out.2) rfl ?_
      rw [HR.out]
      exact Q.out.1
    · subst em
      have heq : ∀ W : World, (binOp .eql 81 (.map (some b)) (.map none)).run Tryd.prog W = .ok (.bool false) W := fun _ => rfl
      have hnn : (((T[v.i.toNat].2.length : Nat) : Int) == (nf : Int)) = false := by simp; omega
      have E := Lib.hid e
      have HT := Lib.hid tt
      have H3 := Lib.hid h3
      have HS0 := Lib.hid S0
      generalize hnl : T[v.i.toNat].2.length = n at c1 hnn ha3 hL
      have HNL := Lib.hid hnl
      clear tt hft h3 S0 e hnl y0 y1 y2 f0 f1 f2 d0 d1 d2 z0 z1 z2
      go_quiet (fail)
      generalize hW : w1.drewN nq = w2
      have hh : w2.heap = w1.heap := by rw [← hW]; rfl
      obtain ⟨hM, hS⟩ := HeapM.same (W' := w2) H3.out HS0.out hh (by rw [← hW]; rfl) (by rw [← hW]; rfl) (by rw [← hW]; rfl)
      rw [← hh] at Y0 Y1 Y2
      replace hc3 := (World.cell?_of_block (w := w1) (w' := w2) (a := ⟨hb, 0, none⟩) (by rw [hh])).trans hc3
      replace c2 := (World.cell?_of_block (w := w1) (w' := w2) (a := ⟨tb, v.i.toNat * 4 + 2, none⟩) (by rw [hh])).trans c2
      replace c3 := (World.cell?_of_block (w := w1) (w' := w2) (a := ⟨tb, v.i.toNat * 4 + 3, none⟩) (by rw [hh])).trans c3
      have hs2 : w2.heap.size = w.heap.size + 1 + 1 + 1 := by rw [hh]; exact hs3
      clear hW hh HT H3 HS0 c1 hs3
      have HNR : Hid (¬ F (w.heap.size + 1)) := Lib.hid (NF1 _ (by omega))
      have hMd := hM.drew
      have hSd := hS.drew
      obtain ⟨hFb, tu⟩ := hMd.turn v.i.toNat hj a.toNat HIN.out hc3 c2 E.out c3
      obtain ⟨w3, hrun, hturn, hM3⟩ := tu _ hu
      rw [ea] at hrun
      unfold PV.val at hrun
      obtain ⟨⟨u0, u1, u2⟩, -⟩ := look3 Y0
      have E1 := mapTurned.cells hturn (show w2.drew.heap[w.heap.size + 1]? = _ from Y1)
      have E2 := mapTurned.cells hturn (show w2.drew.heap[w0.heap.size]? = _ from Y2)
      have Q := Lib.hid (res_done hM3 (hSd.trans (mapTurned.stp hturn hFb)) HNR.out (by omega) E1 ⟨5, 0, ⟨#[]⟩⟩)
      obtain ⟨⟨s0, s1, s2⟩, -⟩ := look3 E2
      obtain ⟨⟨t0, t1, t2⟩, k0, k1, k2⟩ := look3 E1
      clear hMd hSd tu hturn hM3 E1 E2 hM hS Y0 Y1 Y2 c2 hc3
      go_upto_region 9 with fail
      go_region
      go_wp2
      refine bodyPost_ret (res_ve (t := 7) (p := 6) rfl _ _ (w.heap.size + 1) _ _ _ rfl Q.out.2) rfl ?_
      rw [HR.out]
      exact Q.out.1
  · have hin' : a < 0 ∨ (T[v.i.toNat].2.length : Int) ≤ a := by omega
    have HR := Lib.hid (putT_out (v := v) (u := ⟨uk, ui, us⟩) hj hin')
    generalize putT T v a ⟨uk, ui, us⟩ = r at HR
    have HH := Lib.hid h
    have HB := Lib.hid B0
    have H1 := Lib.hid Z1
    generalize T[v.i.toNat].2.length = n at c1 hin'
    clear h h2 hc hc0 c0 hF Z0 Z1 B0 hsz hin hu
    rcases hin' with hin' | hin'
    · have hin2 : decide (a < 0) = true := by simpa using hin'
      go_enter Tryd.func52, Tryd.ntmps52
      go_wp2
      exact bodyPost_ret (res_ve (t := 7) (p := 6) rfl _ _ (w.heap.size + 1) _ _ _ rfl H1.out) rfl (by rw [HR.out]; exact DoOk.of HH.out rfl HB.out)
    · by_cases hn : a < 0
      · exfalso; omega
      · have hin3 : decide (a < 0) = false := decide_eq_false hn
        have hin4 : decide ((n : Int) ≤ a) = true := decide_eq_true hin'
        go_enter Tryd.func52, Tryd.ntmps52
        go_wp2
        exact bodyPost_ret (res_ve (t := 7) (p := 6) rfl _ _ (w.heap.size + 1) _ _ _ rfl H1.out) rfl (by rw [HR.out]; exact DoOk.of HH.out rfl HB.out)
end Go.Proofs.YtpejhilfopjckaaDoor.Hp
