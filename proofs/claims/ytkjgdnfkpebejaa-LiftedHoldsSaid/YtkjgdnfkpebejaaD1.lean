/-
Data of layer 2 as plain trees, and what it means that a tree lies in memory: opened out of an argument's reading, carried into a world that has grown. No condition.
-/
import Derived.Test.YtkjgdnfkpebejaaRows
import Derived.WalkKit
import Derived.WalkSpells
import Derived.WalkLawsBesides
import Derived.ProofKit
import Derived.OpenShut
import Derived.Carry
import Derived.Lib.Hide
import Derived.Deep.Slices

namespace Go.Proofs.Ytkjgdnfkpebejaa.Dat
open Go.ChangeShapes Go.WideShapes Go.ChangeAt Go.RowKit Go.Deep
set_option maxRecDepth 100000

/-- A datum. -/
inductive PT where
  | mk (k i : Int) (s : ByteArray) (l : List PT)

/-- An int's bounds. -/
def ok64 (n : Int) : Prop := -9223372036854775808 ≤ n ∧ n ≤ 9223372036854775807

mutual
/-- The datum lies at four cells from ⟨b, o⟩ on. -/
def RepD (w : World) (B : Nat) : PT → Nat → Nat → Prop
  | .mk k i s l, b, o => ok64 k ∧ ok64 i ∧ s.size ≤ maxLen ∧ w.cell? ⟨b, o, none⟩ = some (.int .i64 k) ∧ w.cell? ⟨b, o + 1, none⟩ = some (.int .i64 i) ∧ w.cell? ⟨b, o + 2, none⟩ = some (.string s) ∧
      ∃ v, w.cell? ⟨b, o + 3, none⟩ = some v ∧ ∃ a c, v = .slice a l.length c ∧ l.length ≤ c ∧ c ≤ maxLen ∧ (a = none → c = 0) ∧ (l = [] ∨ ∃ b' o', a = some ⟨b', o', none⟩ ∧ b' < B ∧ RepAt w B l b' o')
/-- The data of a list lie one behind the other. -/
def RepAt (w : World) (B : Nat) : List PT → Nat → Nat → Prop
  | [], _, _ => True
  | t :: l, b, o => RepD w B t b o ∧ RepAt w B l b (o + 4)
end

/-- A slice's value leads to the list. -/
def RepS (w : World) (B : Nat) (l : List PT) (v : Value) : Prop :=
  ∃ a c, v = .slice a l.length c ∧ l.length ≤ c ∧ c ≤ maxLen ∧ (a = none → c = 0) ∧ (l = [] ∨ ∃ b' o', a = some ⟨b', o', none⟩ ∧ b' < B ∧ RepAt w B l b' o')

theorem repD_mk {w : World} {B : Nat} {k i : Int} {s : ByteArray} {l : List PT} {b o : Nat} :
    RepD w B (.mk k i s l) b o ↔ ok64 k ∧ ok64 i ∧ s.size ≤ maxLen ∧ w.cell? ⟨b, o, none⟩ = some (.int .i64 k) ∧ w.cell? ⟨b, o + 1, none⟩ = some (.int .i64 i) ∧ w.cell? ⟨b, o + 2, none⟩ = some (.string s) ∧
      ∃ v, w.cell? ⟨b, o + 3, none⟩ = some v ∧ RepS w B l v := by
  rw [RepD]; rfl

theorem repAt_get {w : World} {B : Nat} : ∀ {l : List PT} {b o : Nat}, RepAt w B l b o → ∀ (j : Nat) (h : j < l.length), RepD w B l[j] b (o + j * 4)
  | t :: l, b, o, hr, 0, _ => by rw [RepAt] at hr; exact hr.1
  | t :: l, b, o, hr, j + 1, h => by
    rw [RepAt] at hr
    have := repAt_get hr.2 j (by simpa using h)
    simp only [List.getElem_cons_succ]
    rwa [show o + (j + 1) * 4 = o + 4 + j * 4 by omega]

theorem repAt_mk {w : World} {B : Nat} : ∀ {l : List PT} {b o : Nat}, (∀ (j : Nat) (h : j < l.length), RepD w B l[j] b (o + j * 4)) → RepAt w B l b o
  | [], _, _, _ => by rw [RepAt]; trivial
  | t :: l, b, o, h => by
    rw [RepAt]
    refine ⟨h 0 (by simp), repAt_mk fun j hj => ?_⟩
    have := h (j + 1) (by simpa using hj)
    simp only [List.getElem_cons_succ] at this
    rwa [show o + 4 + j * 4 = o + (j + 1) * 4 by omega]

theorem repAt_take {w : World} {B : Nat} : ∀ {l : List PT} {b o : Nat} (n : Nat), RepAt w B l b o → RepAt w B (l.take n) b o
  | [], _, _, _, _ => by simp [RepAt]
  | t :: l, b, o, 0, _ => by simp [RepAt]
  | t :: l, b, o, n + 1, h => by
    rw [List.take_succ_cons, RepAt]
    rw [RepAt] at h
    exact ⟨h.1, repAt_take n h.2⟩

mutual
theorem RepD.move {w w' : World} {B B' : Nat} (hB : B ≤ B') (hc : ∀ b o, b < B → w'.cell? ⟨b, o, none⟩ = w.cell? ⟨b, o, none⟩) :
    ∀ (t : PT) {b o b2 o2 : Nat}, (∀ f, f < 4 → w'.cell? ⟨b2, o2 + f, none⟩ = w.cell? ⟨b, o + f, none⟩) → RepD w B t b o → RepD w' B' t b2 o2
  | .mk k i s l, b, o, b2, o2, hb, h => by
    rw [repD_mk] at h ⊢
    obtain ⟨h1, h2, h3, c0, c1, c2, v, c3, hv⟩ := h
    refine ⟨h1, h2, h3, (hb 0 (by omega)).trans c0, (hb 1 (by omega)).trans c1, (hb 2 (by omega)).trans c2, v, (hb 3 (by omega)).trans c3, ?_⟩
    obtain ⟨a, c, e, hl, hm, hn, hr⟩ := hv
    refine ⟨a, c, e, hl, hm, hn, ?_⟩
    rcases hr with hr | ⟨b', o', ha, hlt, hr⟩
    · exact .inl hr
    · exact .inr ⟨b', o', ha, by omega, RepAt.move hB hc l hlt hr⟩
theorem RepAt.move {w w' : World} {B B' : Nat} (hB : B ≤ B') (hc : ∀ b o, b < B → w'.cell? ⟨b, o, none⟩ = w.cell? ⟨b, o, none⟩) :
    ∀ (l : List PT) {b o : Nat}, b < B → RepAt w B l b o → RepAt w' B' l b o
  | [], _, _, _, _ => by rw [RepAt]; trivial
  | t :: l, b, o, hb, h => by
    rw [RepAt] at h ⊢
    exact ⟨RepD.move hB hc t (fun f _ => hc b (o + f) hb) h.1, RepAt.move hB hc l hb h.2⟩
end

theorem RepS.move {w w' : World} {B B' : Nat} {l : List PT} {v : Value} (h : RepS w B l v) (hB : B ≤ B') (hc : ∀ b o, b < B → w'.cell? ⟨b, o, none⟩ = w.cell? ⟨b, o, none⟩) : RepS w' B' l v := by
  obtain ⟨a, c, e, hl, hm, hn, hr⟩ := h
  refine ⟨a, c, e, hl, hm, hn, ?_⟩
  rcases hr with hr | ⟨b', o', ha, hlt, hr⟩
  · exact .inl hr
  · exact .inr ⟨b', o', ha, by omega, RepAt.move hB hc l hlt hr⟩

theorem RepS.below {w w' : World} {B C : Nat} {l : List PT} {v : Value} (h : RepS w B l v) (hb : Below C w w') (hB : B ≤ C) : RepS w' B l v :=
  h.move (Nat.le_refl _) fun b o hlt => hb.cell (p := ⟨b, o, none⟩) (by show b < C; omega)
theorem RepAt.below {w w' : World} {B C : Nat} {l : List PT} {b o : Nat} (h : RepAt w B l b o) (hb : Below C w w') (hB : B ≤ C) (hlt : b < B) : RepAt w' B l b o :=
  h.move (Nat.le_refl _) (fun b o hlt => hb.cell (p := ⟨b, o, none⟩) (by show b < C; omega)) l hlt

theorem below_drewN {B : Nat} {a w : World} (h : Below B a w) (n : Nat) : Below B a (w.drewN n) := ⟨h.os, h.tape, h.output, h.size, h.block⟩

/-! ### out of an argument's reading -/
section
variable {H : Type} {enc : TypeId × Value → H} {P : Program} {w : World} {spare : Nat → Bool} {held : Bool}

/-- Cells that are read lie in blocks of the heap. -/
theorem block_lt {w : World} {b o : Nat} {v : Value} (h : w.cell? ⟨b, o, none⟩ = some v) : b < w.heap.size := World.block_lt_of_cell? _ _ h

theorem ok64_of {n : Int} (h : (Lit.int .i64 n).wf = true) : ok64 n := bounds_i64 h

theorem f24_0 : (Try.prog.cellsOf 3) = 1 := by kernel_rfl
theorem f24_2 : (Try.prog.cellsOf 9) = 1 := by kernel_rfl
theorem f24_3 : (Try.prog.cellsOf 23) = 1 := by kernel_rfl
theorem c24 : (Try.prog.cellsOf 25) = 4 := by kernel_rfl

/-- A slice of data, its elements being opened already. -/
theorem open_list_of {n : Nat} (ih : ∀ m, m < n → ∀ (cs : List Value) x, DataW.trod enc Try.prog w 0 spare held m 25 cs = some x → ∃ k i s v l, cs = [.int .i64 k, .int .i64 i, .string s, v] ∧ ok64 k ∧ ok64 i ∧ s.size ≤ maxLen ∧ RepS w w.heap.size l v)
    {cs : List Value} {x : DataW H × List MemPlace} (h : DataW.trod enc Try.prog w 0 spare held n 23 cs = some x) : ∃ v l, cs = [v] ∧ RepS w w.heap.size l v := by
  rcases DataW.trod_slice Try.underlying23 h with ⟨rfl, _⟩ | ⟨⟨b, o, spot⟩, len, cap, elems, rest, m, rfl, rfl, rfl, _, hl, hm, hlen, hel, _, _⟩
  · exact ⟨_, [], rfl, none, 0, rfl, Nat.le_refl _, Nat.zero_le _, fun _ => rfl, .inl rfl⟩
  rw [c24] at hel
  by_cases h0 : len = 0
  · obtain rfl : elems = [] := List.length_eq_zero_iff.1 (hlen.trans h0)
    subst h0
    exact ⟨_, [], rfl, some _, cap, rfl, Nat.zero_le _, hm, (fun h => by cases h), .inl rfl⟩
  -- the first cell of the first element
  have hs : spot = none := by
    have he := hel 0 (by omega)
    rw [List.getElem?_eq_getElem (by omega), Option.bind_eq_some_iff] at he
    obtain ⟨cs', hc, ht⟩ := he
    obtain ⟨_, hcl, hat⟩ := World.cells?_some hc
    obtain ⟨k, i', s, v, l, rfl, _⟩ := ih m (by omega) cs' _ ht
    have a0 := hat 0 (by decide)
    simpa [Addr.add] using World.cell?_spot a0
  subst hs
  -- each element
  have each : ∀ i, i < len → ∃ t : PT, b < w.heap.size ∧ RepD w w.heap.size t b (o + i * 4) := by
    intro i hi
    have he := hel i hi
    rw [List.getElem?_eq_getElem (by omega), Option.bind_eq_some_iff] at he
    obtain ⟨cs', hc, ht⟩ := he
    obtain ⟨_, hcl, hat⟩ := World.cells?_some hc
    obtain ⟨k, i', s, v, l, rfl, h1, h2, h3, h4⟩ := ih m (by omega) cs' _ ht
    have a0 := hat 0 (by decide)
    have a1 := hat 1 (by decide)
    have a2 := hat 2 (by decide)
    have a3 := hat 3 (by decide)
    simp only [add_plain, List.getElem?_cons_zero, List.getElem?_cons_succ] at a0 a1 a2 a3
    exact ⟨.mk k i' s l, block_lt a0, repD_mk.2 ⟨h1, h2, h3, a0, a1, a2, v, a3, h4⟩⟩
  obtain ⟨_, hb, _⟩ := each 0 (by omega)
  obtain ⟨f, hf⟩ : ∃ f : Nat → PT, ∀ i, i < len → RepD w w.heap.size (f i) b (o + i * 4) :=
    ⟨fun i => if hi : i < len then (each i hi).choose else .mk 0 0 ⟨#[]⟩ [], fun i hi => by
      have := (each i hi).choose_spec.2
      simpa [hi] using this⟩
  refine ⟨_, (List.range len).map f, rfl, some ⟨b, o, none⟩, cap, by simp, by simpa using hl, hm, (fun h => by cases h), .inr ⟨b, o, rfl, hb, repAt_mk fun j hj => ?_⟩⟩
  simp at hj
  simpa using hf j hj

theorem open_datum_fuel : ∀ (n : Nat) (cs : List Value) (x : DataW H × List MemPlace), DataW.trod enc Try.prog w 0 spare held n 25 cs = some x →
    ∃ k i s v l, cs = [.int .i64 k, .int .i64 i, .string s, v] ∧ ok64 k ∧ ok64 i ∧ s.size ≤ maxLen ∧ RepS w w.heap.size l v := by
  intro n
  induction n using Nat.strongRecOn with
  | _ n ih =>
    intro cs x h
    obtain ⟨xs, m, rfl, _, hcl, hxl, hf⟩ := DataW.trod_struct Try.underlying25 h
    rw [c24] at hcl
    match xs, hxl, cs, hcl with
    | [y0, y1, y2, y3], _, [v0, v1, v2, v3], _ =>
      have g0 := hf 0 _ rfl
      have g1 := hf 1 _ rfl
      have g2 := hf 2 _ rfl
      have g3 := hf 3 _ rfl
      change DataW.trod enc Try.prog w 0 spare held m 3 (List.take (Try.prog.cellsOf 3) [v0, v1, v2, v3]) = some y0 at g0
      change DataW.trod enc Try.prog w 0 spare held m 3 (List.take (Try.prog.cellsOf 3) [v1, v2, v3]) = some y1 at g1
      change DataW.trod enc Try.prog w 0 spare held m 9 (List.take (Try.prog.cellsOf 9) [v2, v3]) = some y2 at g2
      change DataW.trod enc Try.prog w 0 spare held m 23 (List.take (Try.prog.cellsOf 23) [v3]) = some y3 at g3
      rw [f24_0] at g0 g1
      rw [f24_2] at g2
      rw [f24_3] at g3
      simp only [List.take_succ_cons, List.take_zero] at g0 g1 g2 g3
      obtain ⟨k, e0, _, w0⟩ := DataW.trod_int Try.underlying3 g0
      obtain ⟨i, e1, _, w1⟩ := DataW.trod_int Try.underlying3 g1
      obtain ⟨s, e2, _, w2⟩ := DataW.trod_string Try.underlying9 g2
      obtain ⟨v, l, e3, hr⟩ := open_list_of (fun m' hm' => ih m' (by omega)) g3
      simp only [List.cons.injEq, and_true] at e0 e1 e2 e3
      subst e0 e1 e2 e3
      exact ⟨k, i, s, _, l, rfl, ok64_of w0, ok64_of w1, w2, hr⟩

/-- The slice of an argument. -/
theorem open_data {v : Value} {d : DataW H} {p : List MemPlace} (h : DataW.Trod enc Try.prog w 0 spare held 23 v d p) (hv : Value.okWide Try.prog w .any 0 23 v) : ∃ l, RepS w w.heap.size l v := by
  obtain ⟨n, hn⟩ := h
  obtain ⟨v', l, e, hr⟩ := open_list_of (fun m _ => open_datum_fuel m) hn
  obtain ⟨a, len, cap, rfl⟩ := okWide_slice Try.underlying23 hv
  simp only [Value.cells, List.cons.injEq, and_true] at e
  subst e
  exact ⟨l, hr⟩

/-- A datum that is an argument. -/
theorem open_datum {v : Value} {d : DataW H} {p : List MemPlace} (hv : Value.okWide Try.prog w .any 0 25 v) (h : DataW.Trod enc Try.prog w 0 spare held 25 v d p) :
    ∃ k i s x l, v = .agg #[.int .i64 k, .int .i64 i, .string s, x] ∧ ok64 k ∧ ok64 i ∧ s.size ≤ maxLen ∧ RepS w w.heap.size l x := by
  obtain ⟨cs, rfl, hsz⟩ := okWide_struct Try.underlying25 hv
  obtain ⟨n, hn⟩ := h
  obtain ⟨k, i, s, x, l, e, h1⟩ := open_datum_fuel n _ _ hn
  obtain ⟨cs⟩ := cs
  simp only [Value.cells] at e
  subst e
  exact ⟨k, i, s, x, l, rfl, h1⟩

#print axioms open_datum
end
end Go.Proofs.Ytkjgdnfkpebejaa.Dat
