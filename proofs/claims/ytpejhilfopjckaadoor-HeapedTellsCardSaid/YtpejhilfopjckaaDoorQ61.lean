/-
The document's add: a new thing in its heap, its parts copied. No condition but that the heap lies in memory, and bounds on how many things and parts there are.
-/
import Derived.Test.YtpejhilfopjckaaDoorQ60
import Derived.Test.YtpejhilfopjckaaDoorQ12
import Derived.Test.YtpejhilfopjckaaDoorRG
import Derived.Lib.AppendZeros
namespace Go.Proofs.YtpejhilfopjckaaDoor.Hp
open Go.ChangeShapes Go.WideShapes Go.ChangeAt Go.RowKit Go.Deep
open Dat (PT ok64 RepV RepS RowX infoDatum)
set_option maxRecDepth 100000

theorem below_setRow {w : World} {g : Nat} (hg : w.heap[g]? = some (.cells #[] 36 (0, 0))) : Below w.heap.size w (w.setRow g #[]) := by
  refine ⟨rfl, rfl, rfl, by simp [World.setRow], fun k _ => ?_⟩
  by_cases e : k = g
  · subst e
    rw [setRow_heap w k _ _ _ _ hg, hg]
  · exact setRow_other w g k _ e
/-- append of a row of values to a row that holds nothing and has no room. -/
theorem append_zero (W : World) (g : Nat) (hg : W.heap[g]? = some (.cells #[] 36 (0, 0))) (l : List PV) (S : Nat → Prop) (u : Value) (hm : InP W S l u) (hlen : l.length ≤ 1000000) :
    ∃ v' g' W', (Builtin.append_ #[30, 30] 30 #[.slice (some ⟨g, 0, none⟩) 0 0, u]).run Tryd.prog W = .ok v' W' ∧ Below W.heap.size W W' ∧ PartsM W' l g' v' ∧ (l ≠ [] → W.heap.size ≤ g' ∧ g' < W'.heap.size) := by
  obtain ⟨i0, hi, hz0, hz1, hz2⟩ := info_parts infoVal
  have hok := okV_all hm
  obtain ⟨ad, c, rfl, hlc, hcm, hna, hr⟩ := hm
  have hown : W.ownsRow 0 36 3 (.slice (some ⟨g, 0, none⟩) 0 0) 0 [] := ⟨rfl, .inr ⟨g, 0, #[], rfl, Nat.zero_le _, hg, Nat.le_refl _, Nat.zero_le _, rfl, rfl⟩⟩
  match ad with
  | none =>
    obtain rfl := hna rfl
    obtain rfl : l = [] := by
      rcases hr with hr | ⟨_, _, e, _⟩
      · exact hr
      · cases e
    exact ⟨_, 0, W, run_append_owned_none (P := Tryd.prog) (w := W) 0 30 30 36 i0 3 Tryd.underlying30 hi _ 0 [] hown, Below.refl _ _, .inl ⟨rfl, _, 0, rfl, Nat.zero_le _, fun h => by cases h⟩, fun h => absurd rfl h⟩
  | some ad =>
    have hnews : ∀ j x, (vCells l)[j]? = some x → W.cell? (ad.add j) = some x := fun j x hj => by
      rcases hr with rfl | ⟨b, o, e, _, hv⟩
      · simp [vCells] at hj
      · cases e
        rw [add_plain]
        exact hv.1 j x hj
    by_cases h0 : l = []
    · subst h0
      refine ⟨_, 0, _, run_append_room (P := Tryd.prog) W 30 30 36 i0 Tryd.underlying30 hi g 0 0 #[] hg ad 0 c [] (by simp) (fun j x h => by simp at h) (fun u h => by cases h) (Nat.le_refl _) (by simp), ?_, .inl ⟨rfl, _, 0, rfl, Nat.zero_le _, fun h => by cases h⟩, fun h => absurd rfl h⟩
      simpa using below_setRow hg
    · have hp := List.length_pos_iff.2 h0
      obtain ⟨v', w', hrun, ho, _, _⟩ := run_append_own (P := Tryd.prog) W 0 30 30 36 i0 _ 3 32 Tryd.underlying30 hi hz0 hz1 hz2 rfl (by decide) _ 0 [] hown ad l.length c (vCells l) (vCells_len l) hnews (vCells_one l) (by unfold maxLen; omega) (by omega) (Nat.zero_le _)
      have hgrow := run_append_grow (P := Tryd.prog) W 30 30 36 i0 _ Tryd.underlying30 hi hz0 ⟨g, 0, none⟩ 0 0 [] (by simp) (fun j x h => by simp at h) ad l.length c (vCells l) (by rw [hz1]; exact vCells_len l) hnews (by omega) (by omega) (growslice_fits (by omega) (by rw [hz2]; omega))
      rw [hrun] at hgrow
      have hv := (Result.ok.inj hgrow).1
      have hw := (Result.ok.inj hgrow).2
      simp only [Nat.zero_add, List.nil_append] at ho hv
      obtain ⟨g', hpm, _⟩ := parts_of_own ho hok
      refine ⟨v', g', w', hrun, ?_, hpm, fun _ => ?_⟩
      · rw [hw]
        exact ((Below.refl W.heap.size W).drew).alloc (Nat.le_refl _) _
      · rcases hpm with hpm | ⟨_, _, cap, cur, e, _⟩
        · exact absurd hpm.1 h0
        · rw [hv] at e
          injection e with e
          injection e with e
          injection e with e
          subst e
          refine ⟨Nat.le_refl _, ?_⟩
          rw [hw, size_new]
          exact Nat.lt_succ_self _
/-- What is known of each thing of the document's heap. -/
abbrev EachR (w : World) (T : List (Int × List PV)) (F : Nat → Prop) (xs : List Value) (g : Nat → Nat) (pv : Nat → Value) : Prop :=
  ∀ j (h : j < T.length), xs[j * 2]? = some (.int .i64 T[j].1) ∧ xs[j * 2 + 1]? = some (pv j) ∧ ok64 T[j].1 ∧ PartsM w T[j].2 (g j) (pv j) ∧ (T[j].2 ≠ [] → F (g j)) ∧
      ∀ k (hk : k < T.length), j ≠ k → T[j].2 ≠ [] → T[k].2 ≠ [] → g j ≠ g k
/-- What is behind a call that answers a value. -/
def SureR (w : World) (hb : Nat) (F : Nat → Prop) (u : PV) (T : List (Int × List PV)) (e : Ending) (w' : World) : Prop := e = .returned (.agg #[.int .i64 u.k, .int .i64 u.i, .string u.s]) ∧ ∃ F', HeapR w' hb T F' ∧ Stp F w F' w'
theorem HeapR.snoc {w w' : World} {hb : Nat} {T : List (Int × List PV)} {F F' : Nat → Prop} {kind : Int} {l : List PV} {g0 : Nat} {p0 : Value} {sv : Value} (hk : ok64 kind) (hp : PartsM w' l g0 p0) (hg0 : l ≠ [] → ¬ F g0)
    {xs : List Value} {g : Nat → Nat} {pv : Nat → Value} (h5 : EachR w T F xs g pv) (hxl : xs.length = T.length * 2)
    (hmv : ∀ j (h : j < T.length), T[j].2 ≠ [] → w'.heap[g j]? = w.heap[g j]?)
    (hhb : w'.heap[hb]? = some (.cells #[sv] 28 (0, 0))) (hown : w'.ownsRow 0 43 2 sv (T.length + 1) (xs ++ [.int .i64 kind, p0]))
    (hF : ∀ b, F b → F' b) (hFh : F' hb) (hFs : ∀ b, sv.ownBlock = some b → F' b) (hFg : l ≠ [] → F' g0) : HeapR w' hb (T ++ [(kind, l)]) F' := by
  refine ⟨sv, _, fun j => if j = T.length then g0 else g j, fun j => if j = T.length then p0 else pv j, hhb, hFh, by simpa using hown, hFs, fun j hj => ?_⟩
  have hj' : j ≤ T.length := by simp at hj; omega
  rcases Nat.lt_or_ge j T.length with hlt | hge
  · obtain ⟨a1, a2, a3, a4, a5, a6⟩ := h5 j hlt
    have e : (T ++ [(kind, l)])[j] = T[j] := List.getElem_append_left hlt
    have hjne : ¬ j = T.length := by omega
    simp only [e, hjne, if_false]
    refine ⟨by rw [List.getElem?_append_left (by omega)]; exact a1, by rw [List.getElem?_append_left (by omega)]; exact a2, a3, a4.move (hmv j hlt), fun h => hF _ (a5 h), fun k hk hne h1 h2 => ?_⟩
    rcases Nat.lt_or_ge k T.length with hk' | hk'
    · rw [if_neg (by omega)]
      rw [show (T ++ [(kind, l)])[k] = T[k] from List.getElem_append_left hk'] at h2
      exact a6 k hk' hne h1 h2
    · have : k = T.length := by simp at hk; omega
      subst this
      rw [if_pos rfl]
      refine fun e => hg0 (by simpa using h2) ?_
      rw [← e]
      exact a5 h1
  · have : j = T.length := by omega
    subst this
    have e : (T ++ [(kind, l)])[T.length] = (kind, l) := by simp
    simp only [e, if_true]
    refine ⟨by rw [List.getElem?_append_right (by omega)]; simp [hxl], by rw [List.getElem?_append_right (by omega)]; simp [hxl], hk, hp, hFg, fun k hk' hne h1 h2 => ?_⟩
    have hk2 : k < T.length := by simp at hk'; omega
    rw [if_neg (by omega)]
    intro e2
    refine hg0 h1 ?_
    rw [e2]
    exact (h5 k hk2).2.2.2.2.1 (by rwa [show (T ++ [(kind, l)])[k] = T[k] from List.getElem_append_left hk2] at h2)
set_option maxHeartbeats 1000000 in
theorem addR_end {w W w1 : World} {hb tb cap g0 R0 : Nat} {T : List (Int × List PV)} {F : Nat → Prop} {kind : Int} {l : List PV} {pa sa : Option Addr} {pc sc : Nat} {xs : List Value} {g : Nat → Nat} {pv : Nat → Value} {z0 z1 z2 y0 y1 y2 : Value}
    (hk : ok64 kind) (hp : PartsM W l g0 (.slice pa l.length pc)) (hg0 : l ≠ [] → w.heap.size ≤ g0 ∧ g0 < W.heap.size ∧ g0 ≠ R0) (hF : ∀ b, F b → b < w.heap.size) (h2 : F hb) (h1 : w.heap[hb]? = some (.cells #[.slice sa T.length sc] 28 (0, 0)))
    (h3 : w.ownsRow 0 43 2 (.slice sa T.length sc) T.length xs) (h4 : ∀ b, (Value.slice sa T.length sc).ownBlock = some b → F b)
    (h5 : EachR w T F xs g pv) (hB : Below w.heap.size w W)
    (hoo : w1.ownsRow 0 43 2 (.slice (some ⟨tb, 0, none⟩) (T.length + 1) cap) (T.length + 1) (xs ++ [.int .i64 kind, .slice pa l.length pc]))
    (hgg : W.grownBy w1 (Value.slice sa T.length sc).ownBlock) (hat : (Value.slice sa T.length sc).ownBlock = some tb ∨ w.heap.size ≤ tb) (hR : w.heap.size ≤ R0 ∧ R0 < W.heap.size) (e2 : W.heap[R0]? = some (.cells #[z0, z1, z2] 36 (0, 0))) :
    ∃ F', HeapR ((((w1.setCell ⟨hb, 0, none⟩ (.slice (some ⟨tb, 0, none⟩) (T.length + 1) cap)).setCell ⟨R0, 0, none⟩ y0).setCell ⟨R0, 1, none⟩ y1).setCell ⟨R0, 2, none⟩ y2) hb (T ++ [(kind, l)]) F' ∧
      Stp F w F' ((((w1.setCell ⟨hb, 0, none⟩ (.slice (some ⟨tb, 0, none⟩) (T.length + 1) cap)).setCell ⟨R0, 0, none⟩ y0).setCell ⟨R0, 1, none⟩ y1).setCell ⟨R0, 2, none⟩ y2) ∧
      ((((w1.setCell ⟨hb, 0, none⟩ (.slice (some ⟨tb, 0, none⟩) (T.length + 1) cap)).setCell ⟨R0, 0, none⟩ y0).setCell ⟨R0, 1, none⟩ y1).setCell ⟨R0, 2, none⟩ y2).heap[R0]? = some (.cells #[y0, y1, y2] 36 (0, 0)) := by
  have hbl := lt_of_block h1
  have hown : ∀ b, some b = (Value.slice sa T.length sc).ownBlock → ∃ cur, w.heap[b]? = some (.cells cur 43 (0, 0)) := fun b hb => by
    rcases h3.2 with ⟨e, _⟩ | ⟨tb', cap', cur, e, _, b2, _⟩
    · rw [e] at hb; cases hb
    · rw [e] at hb; cases hb; exact ⟨cur, b2⟩
  have hne1 : some hb ≠ (Value.slice sa T.length sc).ownBlock := fun e => by
    obtain ⟨cur, q⟩ := hown _ e
    exact ne_of_types h1 q (by decide) rfl
  have hne2 : ∀ b, w.heap.size ≤ b → some b ≠ (Value.slice sa T.length sc).ownBlock := fun b hb e => by
    have := hF _ (h4 _ e.symm)
    omega
  have e1 : w1.heap[hb]? = some (.cells #[.slice sa T.length sc] 28 (0, 0)) := (hgg.block hb (Nat.lt_of_lt_of_le hbl hB.size) hne1).trans ((hB.block hb hbl).trans h1)
  have e3 := (hgg.block R0 hR.2 (hne2 R0 hR.1)).trans e2
  have htb : w1.heap[tb]? = some (.cells ((w1.heap[tb]?.map fun o => match o with | .cells c _ _ => c | _ => #[]).getD #[]) 43 (0, 0)) := by
    rcases hoo.2 with ⟨e, _⟩ | ⟨tb', cap', cur, e, _, b2, _⟩
    · cases e
    · cases e
      rw [b2]
      rfl
  have k1 : tb ≠ hb := ne_of_types htb e1 (by decide)
  have k2 : tb ≠ R0 := ne_of_types htb e3 (by decide)
  have k3 : R0 ≠ hb := by omega
  have off : ∀ b, b ≠ hb → b ≠ R0 → ((((w1.setCell ⟨hb, 0, none⟩ (.slice (some ⟨tb, 0, none⟩) (T.length + 1) cap)).setCell ⟨R0, 0, none⟩ y0).setCell ⟨R0, 1, none⟩ y1).setCell ⟨R0, 2, none⟩ y2).heap[b]? = w1.heap[b]? := fun b n1 n2 => by
    rw [put3_other _ _ _ n2, Below.heap_setCell _ _ _ _ n1]
  have mid : ∀ b, b < W.heap.size → b ≠ hb → b ≠ R0 → some b ≠ (Value.slice sa T.length sc).ownBlock → ((((w1.setCell ⟨hb, 0, none⟩ (.slice (some ⟨tb, 0, none⟩) (T.length + 1) cap)).setCell ⟨R0, 0, none⟩ y0).setCell ⟨R0, 1, none⟩ y1).setCell ⟨R0, 2, none⟩ y2).heap[b]? = W.heap[b]? := fun b hlt n1 n2 n3 => by
    rw [off b n1 n2, hgg.block b hlt n3]
  have old : ∀ b, b < w.heap.size → b ≠ hb → some b ≠ (Value.slice sa T.length sc).ownBlock → ((((w1.setCell ⟨hb, 0, none⟩ (.slice (some ⟨tb, 0, none⟩) (T.length + 1) cap)).setCell ⟨R0, 0, none⟩ y0).setCell ⟨R0, 1, none⟩ y1).setCell ⟨R0, 2, none⟩ y2).heap[b]? = w.heap[b]? := fun b hlt n1 n2 => by
    rw [mid b (Nat.lt_of_lt_of_le hlt hB.size) n1 (by omega) n2]
    exact hB.block b hlt
  refine ⟨fun b => F b ∨ (l ≠ [] ∧ b = g0) ∨ b = tb, ?_, ⟨⟨?_, fun b hlt hn => ?_⟩, fun b hb => ?_⟩, put3 ((Below.heap_setCell _ _ _ _ k3).trans e3) _ _ _⟩
  · refine HeapR.snoc (w := w) (g0 := g0) (p0 := .slice pa l.length pc) (F := F) (sv := .slice (some ⟨tb, 0, none⟩) (T.length + 1) cap) hk (hp.move fun hl => ?_) (fun hl hf => by have := hF _ hf; have := (hg0 hl).1; omega) h5 h3.1 (fun j hj hl => ?_) ?_ ?_ (fun b h => .inl h) (.inl h2) (fun b hb => .inr (.inr (by cases hb; rfl))) (fun h => .inr (.inl ⟨h, rfl⟩))
    · exact mid g0 (hg0 hl).2.1 (by have := (hg0 hl).1; omega) (hg0 hl).2.2 (hne2 _ (hg0 hl).1)
    · obtain ⟨cur, c3⟩ := (h5 j hj).2.2.2.1.cells hl
      refine old _ (lt_of_block c3) (ne_of_types c3 h1 (by decide)) (fun e => ?_)
      obtain ⟨cur2, q⟩ := hown _ e
      exact ne_of_types c3 q (by decide) rfl
    · rw [put3_other _ _ _ k3.symm]
      exact heap_setCell_same w1 hb 0 _ _ _ e1
    · exact ⟨hoo.1, hoo.2.imp id fun ⟨tb', cap', cur, e, b1, b2, b3⟩ => ⟨tb', cap', cur, e, b1, by cases e; exact (off tb k1 k2).trans b2, b3⟩⟩
  · exact put3_below (((hB.mono (Nat.zero_le _)).grown hgg (Nat.zero_le _) (fun _ _ => Nat.zero_le _)).setCell (p := ⟨hb, 0, none⟩) (Nat.zero_le _) _) (Nat.zero_le _) _ _ _
  · exact old b hlt (fun e => hn (e ▸ h2)) (fun e => hn (h4 _ e.symm))
  · rcases hb with hb | ⟨hl, rfl⟩ | rfl
    · exact .inl hb
    · exact .inr (hg0 hl).1
    · rcases hat with hat | hat
      · exact .inl (h4 _ hat)
      · exact .inr hat
/-- What each operation of add's statement has. -/
def RAd (hb C : Nat) (kind : Int) (l : List PV) (sv pv : Value) : Nat → Value → World → Prop
  | 0, v, _ => v = .pointer (some ⟨hb, 0, none⟩)
  | 1, v, _ => v = .pointer (some ⟨hb, 0, none⟩)
  | 2, v, _ => v = .pointer (some ⟨hb, 0, none⟩)
  | 3, v, _ => v = .pointer (some ⟨hb, 0, none⟩)
  | 4, v, _ => v = sv
  | 5, v, _ => v = .int .i64 kind
  | 6, v, W => ∃ g, v = .slice (some ⟨g, 0, none⟩) 0 0 ∧ W.heap[g]? = some (.cells #[] 36 (0, 0))
  | 7, v, _ => v = pv
  | 8, v, W => ∃ a c g, v = .slice a l.length c ∧ PartsM W l g v ∧ (l ≠ [] → C ≤ g ∧ g < W.heap.size)
  | 9, v, W => ∃ a c g, v = .agg #[.int .i64 kind, .slice a l.length c] ∧ PartsM W l g (.slice a l.length c) ∧ (l ≠ [] → C ≤ g ∧ g < W.heap.size)
  | 10, v, W => ∃ gt a c g, v = .slice (some ⟨gt, 0, none⟩) 1 1 ∧ W.heap[gt]? = some (.cells #[.int .i64 kind, .slice a l.length c] 43 (0, 0)) ∧ PartsM W l g (.slice a l.length c) ∧ (l ≠ [] → C ≤ g ∧ g < W.heap.size)
  | _, _, _ => True
theorem RAd.mono {hb C : Nat} {kind : Int} {l : List PV} {sv pv : Value} : ∀ (i : Nat) (v : Value) (W W' : World), RAd hb C kind l sv pv i v W → Below W.heap.size W W' → RAd hb C kind l sv pv i v W' := by
  intro i v W W' h hb
  have hp : ∀ {g : Nat} {x : Value}, PartsM W l g x → (l ≠ [] → C ≤ g ∧ g < W.heap.size) → PartsM W' l g x ∧ (l ≠ [] → C ≤ g ∧ g < W'.heap.size) := fun h hg => ⟨h.move fun h0 => hb.block _ (hg h0).2, fun h0 => ⟨(hg h0).1, Nat.lt_of_lt_of_le (hg h0).2 hb.size⟩⟩
  match i, h with
  | 0, h => exact h
  | 1, h => exact h
  | 2, h => exact h
  | 3, h => exact h
  | 4, h => exact h
  | 5, h => exact h
  | 6, ⟨g, e, h⟩ => exact ⟨g, e, (hb.block g (lt_of_block h)).trans h⟩
  | 7, h => exact h
  | 8, ⟨a, c, g, e, h, hg⟩ => exact ⟨a, c, g, e, hp h hg⟩
  | 9, ⟨a, c, g, e, h, hg⟩ => exact ⟨a, c, g, e, hp h hg⟩
  | 10, ⟨gt, a, c, g, e, hz, h, hg⟩ => exact ⟨gt, a, c, g, e, (hb.block gt (lt_of_block hz)).trans hz, hp h hg⟩
  | n + 11, _ => exact trivial
/-- The first part of what is known while add's statement goes on: nothing is appended yet. -/
def IA1 (w0 : World) (hb C : Nat) (kind : Int) (l : List PV) (sv pv : Value) (S : Nat → Bool) (vs : Nat → Value) (W : World) : Prop :=
  S 11 = false ∧ Below w0.heap.size w0 W ∧ ∀ j, j < 11 → S j = true → RAd hb C kind l sv pv j (vs j) W
/-- The second part: the thing is appended. -/
def IA2 (w0 : World) (hb C n : Nat) (kind : Int) (l : List PV) (sv : Value) (xs : List Value) (S : Nat → Bool) (vs : Nat → Value) (W : World) : Prop :=
  S 11 = true ∧ (S 0 = true → vs 0 = .pointer (some ⟨hb, 0, none⟩)) ∧ (S 12 = true → vs 12 = .pointer (some ⟨hb, 0, none⟩)) ∧ (S 13 = true → vs 13 = .pointer (some ⟨hb, 0, none⟩)) ∧
    ∃ tb cap W1 w1 a3 c3 g3, vs 11 = .slice (some ⟨tb, 0, none⟩) (n + 1) cap ∧ Below w0.heap.size w0 W1 ∧ PartsM W1 l g3 (.slice a3 l.length c3) ∧ (l ≠ [] → C ≤ g3 ∧ g3 < W1.heap.size) ∧
      w1.ownsRow 0 43 2 (.slice (some ⟨tb, 0, none⟩) (n + 1) cap) (n + 1) (xs ++ [.int .i64 kind, .slice a3 l.length c3]) ∧ W1.grownBy w1 sv.ownBlock ∧ (sv.ownBlock = some tb ∨ tb = W1.heap.size) ∧
      W = (if S 14 = true then w1.setCell ⟨hb, 0, none⟩ (.slice (some ⟨tb, 0, none⟩) (n + 1) cap) else w1)
/-- A step that has a value of which K is known. -/
def StI (K : Value → World → Prop) (A : Act) (d : Option Tmp) (a' : Act) (W' : World) : Prop := ∃ v, a' = A.put d v ∧ K v W'
/-- The sixth law, what is known behind a step being hidden. -/
theorem wp_region_invK {P : Program} {Q : Exit → Act → World → Prop} {id : Nat} {a : Act} {w : World} {l : List Oper} (hm : P.follows .mixedOrders = true) (I : (Nat → Bool) → (Nat → Value) → World → Prop)
    (hf : Rg.formI a.tmps.size l = true) (h0 : ∀ vs, I (fun _ => false) vs w.drew)
    (hstep : ∀ i o, l[i]? = some o → ∀ (S : Nat → Bool) (vs : Nat → Value) W, I S vs W → S i = false → (∀ j, Rg.waits l i j = true → S j = true) → (∀ j k, S j = true → Rg.waits l j k = true → S k = true) →
      ∀ K : Value → World → Prop, (∀ v W', I (fun j => if j = i then true else S j) (fun j => if j = i then v else vs j) W' → K v W') → o.wp P (Rg.putAll a l vs 0) W (StI K (Rg.putAll a l vs 0) o.dst) Q)
    (hend : ∀ (vs : Nat → Value) W, I (fun j => decide (j < l.length)) vs W → Q .normal (Rg.putAll a l vs 0) W) :
    (Code.region id l.toArray true).wp P Q a w :=
  Rg.wp_region_inv hm I hf h0 (fun i o ho S vs W hI hS hd hc => hstep i o ho S vs W hI hS hd hc _ (fun _ _ h => h)) hend
theorem ia1_new {w0 W W' : World} {hb C i : Nat} {kind : Int} {l : List PV} {sv pv v : Value} {S : Nat → Bool} {vs : Nat → Value} (hi : i < 11) (h : IA1 w0 hb C kind l sv pv S vs W) (hr : RAd hb C kind l sv pv i v W') (hb' : Below W.heap.size W W') :
    IA1 w0 hb C kind l sv pv (fun j => if j = i then true else S j) (fun j => if j = i then v else vs j) W' := by
  obtain ⟨h1, h2, h3⟩ := h
  have n11 : ¬ 11 = i := by omega
  refine ⟨by simp only [n11, if_false]; exact h1, h2.trans (hb'.mono h2.size), fun j hj hS => ?_⟩
  by_cases e : j = i
  · subst e
    simpa using hr
  · simp only [e, if_false] at hS ⊢
    exact RAd.mono _ _ _ _ (h3 j hj hS) hb'
theorem ia2_new {w0 W : World} {hb C n : Nat} {kind : Int} {l : List PV} {sv : Value} {xs : List Value} {S : Nat → Bool} {vs : Nat → Value} {i : Nat} (hi : i = 0 ∨ i = 12 ∨ i = 13) (h : IA2 w0 hb C n kind l sv xs S vs W) :
    IA2 w0 hb C n kind l sv xs (fun j => if j = i then true else S j) (fun j => if j = i then .pointer (some ⟨hb, 0, none⟩) else vs j) W := by
  obtain ⟨h1, h2, h3, h4, tb, cap, W1, w1, a3, c3, g3, q1, q⟩ := h
  have n11 : ¬ 11 = i := by omega
  have n14 : ¬ 14 = i := by omega
  refine ⟨by simp only [n11, if_false]; exact h1, fun hS => ?_, fun hS => ?_, fun hS => ?_, tb, cap, W1, w1, a3, c3, g3, by simp only [n11, if_false]; exact q1, by simp only [n14, if_false]; exact q⟩
  · by_cases e : 0 = i
    · simp [e]
    · simp only [e, if_false] at hS ⊢; exact h2 hS
  · by_cases e : 12 = i
    · simp [e]
    · simp only [e, if_false] at hS ⊢; exact h3 hS
  · by_cases e : 13 = i
    · simp [e]
    · simp only [e, if_false] at hS ⊢; exact h4 hS
set_option maxHeartbeats 2000000 in
theorem radd_any (kind : Int) (l : List PV) (v : Value) (S : Nat → Prop) (hb : Nat) (T : List (Int × List PV)) (F : Nat → Prop) (w : World) (h : HeapR w hb T F) (hF : ∀ b, F b → b < w.heap.size) (hk : ok64 kind) (hp : InP w S l v) (hl : l.length ≤ 1000000) (hT : T.length ≤ 100000) :
    Calls Tryd.prog 26 #[.pointer (some ⟨hb, 0, none⟩), .int .i64 kind, v] w fun e w' => SureR w hb F ⟨8, T.length, ⟨#[]⟩⟩ (T ++ [(kind, l)]) e w' := by
  obtain ⟨i0, hi0, hz0, hz1, hz2⟩ := info_parts infoThing
  obtain ⟨sv, xs, g, pv, h1, h2, h3, h4, h5⟩ := h
  have H5 := Lib.hid h5
  have hbl := lt_of_block h1
  have Z := heap_alloc_new w (.cells #[.int .i64 0, .int .i64 0, .string ⟨#[]⟩] 36)
  have B0 := (Below.refl w.heap.size w).alloc (Nat.le_refl _) (.cells #[.int .i64 0, .int .i64 0, .string ⟨#[]⟩] 36)
  have hs0 := size_new w (.cells #[.int .i64 0, .int .i64 0, .string ⟨#[]⟩] 36)
  have hsl : ∃ a c, sv = .slice a T.length c := by
    rcases h3.2 with ⟨rfl, h0⟩ | ⟨tb, cap, cur, rfl, _⟩
    · exact ⟨none, 0, by rw [h0]⟩
    · exact ⟨_, cap, rfl⟩
  obtain ⟨sa, sc, rfl⟩ := hsl
  have H1 := Lib.hid h1
  have H2 := Lib.hid h2
  have H3 := Lib.hid h3
  have H4 := Lib.hid h4
  have HF := Lib.hid hF
  have HB0 := Lib.hid B0
  have HZ := Lib.hid Z
  have HP := Lib.hid (hp.belowP B0)
  obtain ⟨va, vc, rfl, -⟩ := hp
  clear h1 h2 h3 h4 h5 hF Z B0
  go_enter Tryd.func26, Tryd.ntmps26
  go_upto_region 1 with fail
  generalize w.alloc (.cells #[.int .i64 0, .int .i64 0, .string ⟨#[]⟩] 36) = w0 at *
  refine wp_region_invK (by kernel_rfl) (fun S vs W => IA1 w0 hb (w.heap.size + 1) kind l (.slice sa T.length sc) (.slice va l.length vc) S vs W ∨ IA2 w0 hb (w.heap.size + 1) T.length kind l (.slice sa T.length sc) xs S vs W) (by kernel_rfl) (fun vs => .inl ⟨rfl, (Below.refl _ _).drew, fun j _ h => by cases h⟩) ?_ ?_
  · intro i o hi S vs W hI hSi hdep hcl K hK
    rcases i with _ | _ | _ | _ | _ | _ | _ | _ | _ | _ | _ | _ | _ | _ | _ | i
    case succ.succ.succ.succ.succ.succ.succ.succ.succ.succ.succ.succ.succ.succ.succ => simp at hi
    all_goals simp only [List.getElem?_cons_zero, List.getElem?_cons_succ, Option.some.injEq, Nat.reduceAdd, Nat.zero_add] at hi hSi hdep
    all_goals subst hi
    all_goals simp only [Rg.putAll, Act.put, List.setIfInBounds_toArray, List.set_cons_zero, List.set_cons_succ, Nat.zero_add, Nat.reduceAdd]
    · rcases hI with hI | hI
      · go_simp
        exact ⟨_, rfl, hK _ _ (.inl (ia1_new (i := 0) (by decide) hI rfl (Below.refl _ _)))⟩
      · go_simp
        exact ⟨_, rfl, hK _ _ (.inr (ia2_new (i := 0) (.inl rfl) hI))⟩
    · rcases hI with hI | hI
      case inr => exact absurd (hcl 11 1 hI.1 (by kernel_rfl)) (by rw [hSi]; decide)
      obtain ⟨-, hbw, HRR⟩ := id hI
      have hCW : w.heap.size + 1 ≤ W.heap.size := by have := hbw.size; omega
      go_simp
      exact ⟨_, rfl, hK _ _ (.inl (ia1_new (i := 1) (by decide) hI rfl (Below.refl _ _)))⟩
    · rcases hI with hI | hI
      case inr => exact absurd (hcl 11 2 hI.1 (by kernel_rfl)) (by rw [hSi]; decide)
      obtain ⟨-, hbw, HRR⟩ := id hI
      have hCW : w.heap.size + 1 ≤ W.heap.size := by have := hbw.size; omega
      have e0 := (HRR 1 (by decide) (hdep _ (by kernel_rfl)) : RAd hb (w.heap.size + 1) kind l (.slice sa T.length sc) (.slice va l.length vc) 1 (vs 1) W)
      rw [show vs 1 = _ from e0]
      go_simp
      exact ⟨_, rfl, hK _ _ (.inl (ia1_new (i := 2) (by decide) hI rfl (Below.refl _ _)))⟩
    · rcases hI with hI | hI
      case inr => exact absurd (hcl 11 3 hI.1 (by kernel_rfl)) (by rw [hSi]; decide)
      obtain ⟨-, hbw, HRR⟩ := id hI
      have hCW : w.heap.size + 1 ≤ W.heap.size := by have := hbw.size; omega
      have e0 := (HRR 2 (by decide) (hdep _ (by kernel_rfl)) : RAd hb (w.heap.size + 1) kind l (.slice sa T.length sc) (.slice va l.length vc) 2 (vs 2) W)
      rw [show vs 2 = _ from e0]
      go_simp
      exact ⟨_, rfl, hK _ _ (.inl (ia1_new (i := 3) (by decide) hI rfl (Below.refl _ _)))⟩
    · rcases hI with hI | hI
      case inr => exact absurd (hcl 11 4 hI.1 (by kernel_rfl)) (by rw [hSi]; decide)
      obtain ⟨-, hbw, HRR⟩ := id hI
      have hCW : w.heap.size + 1 ≤ W.heap.size := by have := hbw.size; omega
      have e0 := (HRR 3 (by decide) (hdep _ (by kernel_rfl)) : RAd hb (w.heap.size + 1) kind l (.slice sa T.length sc) (.slice va l.length vc) 3 (vs 3) W)
      rw [show vs 3 = _ from e0]
      have x0 : W.cell? ⟨hb, 0, none⟩ = some (.slice sa T.length sc) := by
        rw [Lib.cell_of_heap ((hbw.block hb (by omega)).trans ((HB0.out.block hb hbl).trans H1.out))]; rfl
      go_simp
      exact ⟨_, rfl, hK _ _ (.inl (ia1_new (i := 4) (by decide) hI rfl (Below.refl _ _)))⟩
    · rcases hI with hI | hI
      case inr => exact absurd (hcl 11 5 hI.1 (by kernel_rfl)) (by rw [hSi]; decide)
      obtain ⟨-, hbw, HRR⟩ := id hI
      have hCW : w.heap.size + 1 ≤ W.heap.size := by have := hbw.size; omega
      go_simp
      exact ⟨_, rfl, hK _ _ (.inl (ia1_new (i := 5) (by decide) hI rfl (Below.refl _ _)))⟩
    · rcases hI with hI | hI
      case inr => exact absurd (hcl 11 6 hI.1 (by kernel_rfl)) (by rw [hSi]; decide)
      obtain ⟨-, hbw, HRR⟩ := id hI
      have hCW : w.heap.size + 1 ≤ W.heap.size := by have := hbw.size; omega
      go_simp
      exact ⟨_, rfl, hK _ _ (.inl (ia1_new (i := 6) (by decide) hI ⟨_, rfl, heap_alloc_new W _⟩ ((Below.refl _ _).alloc (Nat.le_refl _) _)))⟩
    · rcases hI with hI | hI
      case inr => exact absurd (hcl 11 7 hI.1 (by kernel_rfl)) (by rw [hSi]; decide)
      obtain ⟨-, hbw, HRR⟩ := id hI
      have hCW : w.heap.size + 1 ≤ W.heap.size := by have := hbw.size; omega
      go_simp
      exact ⟨_, rfl, hK _ _ (.inl (ia1_new (i := 7) (by decide) hI rfl (Below.refl _ _)))⟩
    · rcases hI with hI | hI
      case inr => exact absurd (hcl 11 8 hI.1 (by kernel_rfl)) (by rw [hSi]; decide)
      obtain ⟨-, hbw, HRR⟩ := id hI
      have hCW : w.heap.size + 1 ≤ W.heap.size := by have := hbw.size; omega
      obtain ⟨ge, e6, h6⟩ := (HRR 6 (by decide) (hdep _ (by kernel_rfl)) : RAd hb (w.heap.size + 1) kind l (.slice sa T.length sc) (.slice va l.length vc) 6 (vs 6) W)
      have e7 := (HRR 7 (by decide) (hdep _ (by kernel_rfl)) : RAd hb (w.heap.size + 1) kind l (.slice sa T.length sc) (.slice va l.length vc) 7 (vs 7) W)
      rw [e6, show vs 7 = _ from e7]
      obtain ⟨v', g', W', hrun, hbl', hpm, hgg⟩ := append_zero W ge h6 l _ _ (HP.out.belowP hbw) hl
      refine Lib.wp_append_run W _ _ 30 30 rfl _ _ rfl rfl _ _ hrun ?_
      obtain ⟨a', c', rfl, _, _⟩ := hpm.slice
      exact ⟨_, rfl, hK _ _ (.inl (ia1_new (i := 8) (by decide) hI ⟨a', c', g', rfl, hpm, fun h0 => by have := hgg h0; omega⟩ hbl'))⟩
    · rcases hI with hI | hI
      case inr => exact absurd (hcl 11 9 hI.1 (by kernel_rfl)) (by rw [hSi]; decide)
      obtain ⟨-, hbw, HRR⟩ := id hI
      have hCW : w.heap.size + 1 ≤ W.heap.size := by have := hbw.size; omega
      have e5 := (HRR 5 (by decide) (hdep _ (by kernel_rfl)) : RAd hb (w.heap.size + 1) kind l (.slice sa T.length sc) (.slice va l.length vc) 5 (vs 5) W)
      obtain ⟨a8, c8, g8, e8, h8, hg8⟩ := (HRR 8 (by decide) (hdep _ (by kernel_rfl)) : RAd hb (w.heap.size + 1) kind l (.slice sa T.length sc) (.slice va l.length vc) 8 (vs 8) W)
      rw [e8] at h8
      rw [e8, show vs 5 = _ from e5]
      go_simp
      exact ⟨_, rfl, hK _ _ (.inl (ia1_new (i := 9) (by decide) hI ⟨a8, c8, g8, rfl, h8, hg8⟩ (Below.refl _ _)))⟩
    · rcases hI with hI | hI
      case inr => exact absurd (hcl 11 10 hI.1 (by kernel_rfl)) (by rw [hSi]; decide)
      obtain ⟨-, hbw, HRR⟩ := id hI
      have hCW : w.heap.size + 1 ≤ W.heap.size := by have := hbw.size; omega
      obtain ⟨a9, c9, g9, e9, h9, hg9⟩ := (HRR 9 (by decide) (hdep _ (by kernel_rfl)) : RAd hb (w.heap.size + 1) kind l (.slice sa T.length sc) (.slice va l.length vc) 9 (vs 9) W)
      rw [e9]
      go_simp
      have ba := (Below.refl W.heap.size W).alloc (Nat.le_refl _) (.cells #[.int .i64 kind, .slice a9 l.length c9] 43)
      exact ⟨_, rfl, hK _ _ (.inl (ia1_new (i := 10) (by decide) hI ⟨_, a9, c9, g9, rfl, heap_alloc_new W _, h9.move (fun h0 => ba.block _ (hg9 h0).2), fun h0 => ⟨(hg9 h0).1, Nat.lt_of_lt_of_le (hg9 h0).2 ba.size⟩⟩ ba))⟩
    · rcases hI with hI | hI
      case inr => exact absurd hI.1 (by rw [hSi]; decide)
      obtain ⟨-, hbw, HRR⟩ := id hI
      have e4 := (HRR 4 (by decide) (hdep _ (by kernel_rfl)) : RAd hb (w.heap.size + 1) kind l (.slice sa T.length sc) (.slice va l.length vc) 4 (vs 4) W)
      obtain ⟨gt, a3, c3, g3, e10, hz, hp3, hg3⟩ := (HRR 10 (by decide) (hdep _ (by kernel_rfl)) : RAd hb (w.heap.size + 1) kind l (.slice sa T.length sc) (.slice va l.length vc) 10 (vs 10) W)
      have HB := HB0.out.trans (hbw.mono HB0.out.size)
      have no : ∀ k, Rg.waits _ k 11 = true → S k = false := fun k hk => by
        cases h : S k with
        | false => rfl
        | true => have := hcl k 11 h hk; rw [hSi] at this; cases this
      have n12 : S 12 = false := no 12 (by kernel_rfl)
      have n13 : S 13 = false := no 13 (by kernel_rfl)
      have n14 : S 14 = false := no 14 (by kernel_rfl)
      clear no
      have HO : W.ownsRow 0 43 2 (.slice sa T.length sc) T.length xs := ⟨H3.out.1, H3.out.2.imp id (by
        rintro ⟨tb, cap, cur, e, b1, b2, b3⟩
        exact ⟨tb, cap, cur, e, b1, (HB.block tb (lt_of_block b2)).trans b2, b3⟩)⟩
      rw [show vs 4 = _ from e4, e10]
      refine wp_append_lies W _ _ 26 rfl 0 43 i0 _ 2 32 Tryd.underlying26 hi0 hz0 hz1 hz2 rfl (by decide) (.slice sa T.length sc) T.length xs rfl HO ⟨gt, 0, none⟩ 1 1 [.int .i64 kind, .slice a3 l.length c3] rfl rfl (World.news_of_block hz) (by intro u hu; simp only [List.mem_cons, List.not_mem_nil, or_false] at hu; rcases hu with rfl | rfl <;> rfl) (by decide) (by unfold maxLen; omega) (by omega) (Nat.zero_le _) W.heap.size rfl ?_
      intro tb cap w1 ho hg hat hlt
      refine ⟨_, rfl, hK _ _ (.inr ⟨by simp, fun h => ?_, fun h => ?_, fun h => ?_, tb, cap, W, w1, a3, c3, g3, by simp, hbw, hp3, hg3, ho, hg, hat, by simp [n14]⟩)⟩
      · simp only [Nat.reduceEqDiff, if_false] at h ⊢
        exact HRR 0 (by decide) h
      · simp [n12] at h
      · simp [n13] at h
    · rcases hI with hI | hI
      case inl => exact absurd (hdep 11 (by kernel_rfl)) (by rw [hI.1]; decide)
      rw [hI.2.1 (hdep 0 (by kernel_rfl))]
      go_simp
      exact ⟨_, rfl, hK _ _ (.inr (ia2_new (i := 12) (.inr (.inl rfl)) hI))⟩
    · rcases hI with hI | hI
      case inl => exact absurd (hdep 11 (by kernel_rfl)) (by rw [hI.1]; decide)
      rw [hI.2.2.1 (hdep 12 (by kernel_rfl))]
      go_simp
      exact ⟨_, rfl, hK _ _ (.inr (ia2_new (i := 13) (.inr (.inr rfl)) hI))⟩
    · rcases hI with hI | hI
      case inl => exact absurd (hdep 11 (by kernel_rfl)) (by rw [hI.1]; decide)
      obtain ⟨i1, i2, i3, i4, tb, cap, W1, w1, a3, c3, g3, j1, j2, j3, j4, j5, j6, j7, j8⟩ := hI
      have HB := HB0.out.trans (j2.mono HB0.out.size)
      have hne : some hb ≠ (Value.slice sa T.length sc).ownBlock := fun e => by
        rcases H3.out.2 with ⟨e2, h0⟩ | ⟨tb, cap, cur, e2, b1, b2, _⟩
        · rw [e2] at e; cases e
        · rw [e2] at e
          cases e
          rw [H1.out] at b2
          have b2 := Obj.cells.inj (Option.some.inj b2)
          exact absurd b2.2.1 (by decide)
      have e1 := (j6.block hb (Nat.lt_of_lt_of_le hbl HB.size) hne).trans ((HB.block hb hbl).trans H1.out)
      have c1 : w1.cell? ⟨hb, 0, none⟩ = some (.slice sa T.length sc) := by rw [Lib.cell_of_heap e1]; rfl
      have f1 : w1.frozen? ⟨hb, 0, none⟩ = false := Lib.frozen_of_heap e1 0
      obtain rfl : W = w1 := by rw [j8, hSi]; rfl
      rw [i4 (hdep 13 (by kernel_rfl)), j1]
      clear j8
      go_simp
      exact ⟨undef, rfl, hK _ _ (.inr ⟨by simpa using i1, by simpa using i2, by simpa using i3, by simpa using i4, tb, cap, W1, W, a3, c3, g3, by simpa using j1, j2, j3, j4, j5, j6, j7, by simp⟩)⟩
  · intro vs W hI
    rcases hI with hI | hI
    case inl => exact absurd hI.1 (by decide)
    obtain ⟨i1, i2, i3, i4, tb, cap, W1, w1, a3, c3, g3, j1, j2, j3, j4, j5, j6, j7, j8⟩ := hI
    have HB := HB0.out.trans (j2.mono HB0.out.size)
    have hszW : w0.heap.size ≤ W1.heap.size := j2.size
    have hne : some hb ≠ (Value.slice sa T.length sc).ownBlock ∧ some w.heap.size ≠ (Value.slice sa T.length sc).ownBlock := by
      refine ⟨fun e => ?_, fun e => ?_⟩
      · rcases H3.out.2 with ⟨e2, h0⟩ | ⟨tb, cap, cur, e2, b1, b2, _⟩
        · rw [e2] at e; cases e
        · rw [e2] at e
          cases e
          rw [H1.out] at b2
          have b2 := Obj.cells.inj (Option.some.inj b2)
          exact absurd b2.2.1 (by decide)
      · have := HF.out _ (H4.out _ e.symm); omega
    have HZW := (j2.block w.heap.size (by omega)).trans HZ.out
    have e1 := (j6.block hb (Nat.lt_of_lt_of_le hbl HB.size) hne.1).trans ((HB.block hb hbl).trans H1.out)
    have e2 := (j6.block w.heap.size (by omega) hne.2).trans HZW
    obtain rfl : W = w1.setCell ⟨hb, 0, none⟩ (.slice (some ⟨tb, 0, none⟩) (T.length + 1) cap) := by rw [j8]; rfl
    have E := Lib.hid (addR_end (y0 := .int .i64 8) (y1 := .int .i64 T.length) (y2 := .string ⟨#[]⟩) hk j3 (fun h0 => by have := j4 h0; exact ⟨by omega, by omega, by omega⟩) HF.out H2.out H1.out H3.out H4.out H5.out HB j5 j6 (j7.imp id (fun e => by rw [e]; exact HB.size)) ⟨Nat.le_refl _, by omega⟩ HZW)
    have x0 : (w1.setCell ⟨hb, 0, none⟩ (.slice (some ⟨tb, 0, none⟩) (T.length + 1) cap)).cell? ⟨hb, 0, none⟩ = some (.slice (some ⟨tb, 0, none⟩) (T.length + 1) cap) := by
      rw [Lib.cell_of_heap (heap_setCell_same w1 hb 0 _ _ _ e1)]; rfl
    have hR0 : w.heap.size ≠ hb := by omega
    obtain ⟨⟨y0, y1, y2⟩, f2, f3, f4⟩ := look3 ((Below.heap_setCell w1 ⟨hb, 0, none⟩ (.slice (some ⟨tb, 0, none⟩) (T.length + 1) cap) w.heap.size hR0).trans e2)
    simp only [Rg.putAll, Act.put, List.setIfInBounds_toArray, List.set_cons_zero, List.set_cons_succ, Nat.zero_add, Nat.reduceAdd]
    clear i1 i2 i3 i4 j1 j2 j3 j4 j5 j6 j7 j8 e1 e2 HZW hne HB
    generalize w1.setCell ⟨hb, 0, none⟩ (.slice (some ⟨tb, 0, none⟩) (T.length + 1) cap) = W at *
    go_wp2
    obtain ⟨F', E1, E2, E3⟩ := E.out
    exact bodyPost_ret (res_v rfl _ _ w.heap.size _ _ _ rfl E3) rfl ⟨rfl, F', E1, E2⟩
end Go.Proofs.YtpejhilfopjckaaDoor.Hp
