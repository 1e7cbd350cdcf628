/-
Contracts of the document's Same at rows of tokens that are the same. No condition.
-/
import Derived.Test.YtiamojpeedllbaaGreatDoorT15
import Derived.Deep.QuietTactic
import Derived.BigQuiet
namespace Go.Proofs.YtiamojpeedllbaaGreatDoor
open Go.ChangeShapes Go.WideShapes Go.ChangeAt Go.RowKit

theorem below_drewN {B : Nat} {a w : World} (h : Below B a w) (n : Nat) : Below B a (w.drewN n) := ⟨h.os, h.tape, h.output, h.size, h.block⟩
/-- A slice's value leads to the tokens. -/
def TokAt (w : World) (ts : List TkP) (v : Value) : Prop :=
  ∃ a c, v = .slice a ts.length c ∧ ts.length ≤ c ∧ c ≤ maxLen ∧ (ts = [] ∨ ∃ g o, a = some ⟨g, o, none⟩ ∧ g < w.heap.size ∧ ∀ (j : Nat) x, (cellsOf ts)[j]? = some x → w.cell? ⟨g, o + j, none⟩ = some x)
theorem TokOwn.at {w : World} {base : Nat} {ts : List TkP} {v : Value} (h : TokOwn w base ts v) : TokAt w ts v := by
  have hc := fun g hv => World.ownsRow.cells (w := w) h (g := g) hv
  rcases h.2 with ⟨rfl, h0⟩ | ⟨g, cap, cur, rfl, hb, hg, hn, hcm, hcs, ht⟩
  · obtain rfl := List.eq_nil_of_length_eq_zero h0
    exact ⟨none, 0, rfl, Nat.le_refl _, Nat.zero_le _, .inl rfl⟩
  · refine ⟨some ⟨g, 0, none⟩, cap, rfl, hn, hcm, .inr ⟨g, 0, rfl, lt_of_block hg, fun j x hj => ?_⟩⟩
    have := hc g rfl j x hj
    simpa [add_plain] using this
theorem TokAt.below {w w' : World} {ts : List TkP} {v : Value} (h : TokAt w ts v) {B : Nat} (hb : Below B w w') (hB : w.heap.size ≤ B) : TokAt w' ts v := by
  obtain ⟨a, c, e, h1, h2, h3⟩ := h
  refine ⟨a, c, e, h1, h2, h3.imp id ?_⟩
  rintro ⟨g, o, ha, hlt, hc⟩
  refine ⟨g, o, ha, by have := hb.size; omega, fun j x hj => ?_⟩
  rw [hb.cell (p := ⟨g, o + j, none⟩) (by show g < _; omega)]
  exact hc j x hj
theorem cellsOf_get (ts : List TkP) (j : Nat) (h : j < ts.length) (f : Nat) (hf : f < 5) : (cellsOf ts)[j * 5 + f]? = ts[j].cells[f]? := by
  induction ts generalizing j with
  | nil => simp at h
  | cons q ts ih =>
    have hq : q.cells.length = 5 := rfl
    have e : cellsOf (q :: ts) = q.cells ++ cellsOf ts := by simp [cellsOf]
    rw [e]
    match j with
    | 0 => rw [List.getElem?_append_left (by omega)]; simp
    | j + 1 =>
      rw [List.getElem?_append_right (by omega), hq, show (j + 1) * 5 + f - 5 = j * 5 + f by omega, ih j (by simpa using h)]
      simp
theorem cells_item {w : World} {ts : List TkP} {g o : Nat} (hc : ∀ (j : Nat) x, (cellsOf ts)[j]? = some x → w.cell? ⟨g, o + j, none⟩ = some x) (j : Nat) (h : j < ts.length) :
    w.cell? ⟨g, o + j * 5, none⟩ = some (.int .i64 ts[j].t.kind) ∧ w.cell? ⟨g, o + j * 5 + 1, none⟩ = some (.string ⟨ts[j].t.text.toArray⟩) ∧ w.cell? ⟨g, o + j * 5 + 2, none⟩ = some (.int .i64 ts[j].t.int) ∧
      w.cell? ⟨g, o + j * 5 + 3, none⟩ = some (.int .i64 (ts[j].a : Int)) ∧ w.cell? ⟨g, o + j * 5 + 4, none⟩ = some (.int .i64 (ts[j].b : Int)) := by
  have one := fun f (hf : f < 5) x (hx : ts[j].cells[f]? = some x) => hc (j * 5 + f) x (by rw [cellsOf_get ts j h f hf]; exact hx)
  exact ⟨one 0 (by omega) _ rfl, one 1 (by omega) _ rfl, one 2 (by omega) _ rfl, one 3 (by omega) _ rfl, one 4 (by omega) _ rfl⟩

set_option maxRecDepth 100000 in
theorem same_any (ts : List TkP) (va vb : Value) (w : World) (ha : TokAt w ts va) (hb : TokAt w ts vb) (hn : ts.length ≤ 4096) :
    Calls Tryz.prog 24 #[va, vb] w fun e w' => e = .returned (.bool true) ∧ Below w.heap.size w w' := by
  obtain ⟨a, c, rfl, h1, h2, h3⟩ := ha
  obtain ⟨b, d, rfl, k1, k2, k3⟩ := hb
  unfold maxLen at h2 k2
  rcases h3 with rfl | ⟨g, o, rfl, hg, hc⟩
  · clear k3
    go_enter Tryz.func24, Tryz.ntmps24
    go_wp2
    refine wp_loop_rounds 1 ?_
    rw [rounds_succ]
    go_wp2
    go_ret
    exact ⟨rfl, Below.refl _ _⟩
  rcases k3 with rfl | ⟨g', o', rfl, hg', hc'⟩
  · clear hc
    go_enter Tryz.func24, Tryz.ntmps24
    go_wp2
    refine wp_loop_rounds 1 ?_
    rw [rounds_succ]
    go_wp2
    go_ret
    exact ⟨rfl, Below.refl _ _⟩
  have HC := Lib.hid hc
  have HC' := Lib.hid hc'
  clear hc hc'
  go_enter Tryz.func24, Tryz.ntmps24
  go_wp2
  go_loopw [5] (fun i wr => ∃ k : Nat, k ≤ ts.length ∧ i = .int .i64 k ∧ Below w.heap.size w wr) (fun i _ => ts.length - (intOf i).toNat)
  case atStart => exact ⟨0, Nat.zero_le _, rfl, Below.refl _ _⟩
  case round =>
    obtain ⟨k, hk, rfl, hbr⟩ := hrel
    have HB := Lib.hid hbr
    have hcr : ∀ (j : Nat) x, (cellsOf ts)[j]? = some x → wr.cell? ⟨g, o + j, none⟩ = some x := fun j x hj => by
      rw [hbr.cell (p := ⟨g, o + j, none⟩) (by show g < _; omega)]; exact HC.out j x hj
    have hcr' : ∀ (j : Nat) x, (cellsOf ts)[j]? = some x → wr.cell? ⟨g', o' + j, none⟩ = some x := fun j x hj => by
      rw [hbr.cell (p := ⟨g', o' + j, none⟩) (by show g' < _; omega)]; exact HC'.out j x hj
    clear hbr
    by_cases hlt : k < ts.length
    · obtain ⟨x0, x1, x2, x3, x4⟩ := cells_item hcr k hlt
      obtain ⟨y0, y1, y2, y3, y4⟩ := cells_item hcr' k hlt
      clear hcr hcr'
      generalize ts[k] = q at x0 x1 x2 x3 x4 y0 y1 y2 y3 y4
      obtain ⟨⟨qk, qt, qi⟩, qa, qb⟩ := q
      simp only at x0 x1 x2 x3 x4 y0 y1 y2 y3 y4
      go_wp2
      go_quiet (fail)
      go_wp2
      go_roundw
      case rel => exact ⟨k + 1, by omega, by go_num, below_drewN HB.out _⟩
      case measure => simp [intOf]; omega
    · obtain rfl : k = ts.length := by omega
      clear hcr hcr'
      go_wp2
      go_ret
      exact ⟨rfl, HB.out⟩

theorem run_step {N cnt : Nat} {l l' : List UInt8} {t : Tk} {n : Nat} {q : List TkP × Nat × Int} (hc : cnt ≠ 2048) (h0 : l ≠ []) (ho : oneT l = (t, n, 0)) (hr : gapS false (l.drop n) = l') (hn : runT N (cnt + 1) l' = q) :
    runT N cnt l = (⟨t, N - l.length, N - l.length + n⟩ :: q.1, q.2) := by
  have h := runT_rest N cnt l h0 hc (by rw [ho])
  unfold restT at h
  rw [h, ho]
  simp only
  rw [hr, hn]
/-- The fixed calls' sources. -/
theorem fix1 : toksT [40, 97, 32, 35, 116, 41, 32, 59, 32, 120] = ([⟨⟨0, [], 0⟩, 0, 1⟩, ⟨⟨9, [97], 0⟩, 1, 2⟩, ⟨⟨5, [], 1⟩, 3, 5⟩, ⟨⟨1, [], 0⟩, 5, 6⟩], 0, 0) := by
  have h1 : oneT [40, 97, 32, 35, 116, 41, 32, 59, 32, 120] = (⟨0, [], 0⟩, 1, 0) := by rw [oneT_cons, if_pos rfl]
  have h2 : oneT [97, 32, 35, 116, 41, 32, 59, 32, 120] = (⟨9, [97], 0⟩, 1, 0) := by
    rw [one_word _ (by decide) (by decide) (by decide) (by decide) (by decide), show wordL [97, 32, 35, 116, 41, 32, 59, 32, 120] = [97] by decide +kernel, if_neg (by simp), wordT, if_neg (by decide), if_neg (by decide +kernel), if_neg (by decide)]
    rfl
  have h3 : oneT [35, 116, 41, 32, 59, 32, 120] = (⟨5, [], 1⟩, 2, 0) := by
    rw [one_hash, hashT_else (by simp) (by simp), show wordL [116, 41, 32, 59, 32, 120] = [116] by decide +kernel, if_pos rfl]
  have h4 : oneT [41, 32, 59, 32, 120] = (⟨1, [], 0⟩, 1, 0) := by rw [oneT_cons, if_neg (by decide), if_pos rfl]
  have g1 : gapS false (List.drop 1 [40, 97, 32, 35, 116, 41, 32, 59, 32, 120]) = [97, 32, 35, 116, 41, 32, 59, 32, 120] := by decide +kernel
  have g2 : gapS false (List.drop 1 [97, 32, 35, 116, 41, 32, 59, 32, 120]) = [35, 116, 41, 32, 59, 32, 120] := by decide +kernel
  have g3 : gapS false (List.drop 2 [35, 116, 41, 32, 59, 32, 120]) = [41, 32, 59, 32, 120] := by decide +kernel
  have g4 : gapS false (List.drop 1 [41, 32, 59, 32, 120]) = [] := by decide +kernel
  have r4 := run_step (N := 10) (cnt := 3) (by decide) (by simp) h4 g4 rfl
  have r3 := run_step (N := 10) (cnt := 2) (by decide) (by simp) h3 g3 r4
  have r2 := run_step (N := 10) (cnt := 1) (by decide) (by simp) h2 g2 r3
  have r := run_step (N := 10) (cnt := 0) (by decide) (by simp) h1 g1 r2
  have hg : gapS false [40, 97, 32, 35, 116, 41, 32, 59, 32, 120] = [40, 97, 32, 35, 116, 41, 32, 59, 32, 120] := by decide +kernel
  rw [toks_of (by decide), hg]
  simp only [List.length_cons, List.length_nil, Nat.zero_add, Nat.reduceAdd]
  rw [r]
  simp [runT]
theorem fix2 : toksT [32, 35, 116, 116] = ([], 1, 31) := by
  have h3 : (oneT [35, 116, 116]).2.2 = 31 := by
    rw [one_hash, hashT_else (by simp) (by simp), show wordL [116, 116] = [116, 116] by decide +kernel, if_neg (by decide), if_neg (by decide)]
  have hg : gapS false [32, 35, 116, 116] = [35, 116, 116] := by decide +kernel
  rw [toks_of (by decide), hg, runT_bad _ _ _ _ (by decide) (by rw [h3]; decide), h3]
  simp
end Go.Proofs.YtiamojpeedllbaaGreatDoor
