/-
A row of triples of numbers that is an argument. No condition.
-/
import Derived.Test.YtcilmfjgbnfcgaaDoorQ28
import Derived.Laws.IdiomArrays
namespace Go.Proofs.YtcilmfjgbnfcgaaDoor.Hp
open Go.ChangeShapes Go.WideShapes Go.ChangeAt Go.RowKit Go.Deep
open Dat (PT ok64 RepV RepS RowX infoDatum NewV NewS makeT make_any MakeOk numT numsT)
set_option maxRecDepth 100000

/-- A row of triples lies in memory. -/
def InT3 (w : World) (l : List (Int × Int × Int)) (v : Value) : Prop :=
  ∃ a c, v = .slice a l.length c ∧ l.length ≤ c ∧ c ≤ maxLen ∧ (a = none → c = 0) ∧ (l = [] ∨ ∃ b o, a = some ⟨b, o, none⟩ ∧ b < w.heap.size ∧
    ∀ (j : Nat) (h : j < l.length), w.cell? ⟨b, o + j * 3, none⟩ = some (.int .i64 l[j].1) ∧ w.cell? ⟨b, o + j * 3 + 1, none⟩ = some (.int .i64 l[j].2.1) ∧ w.cell? ⟨b, o + j * 3 + 2, none⟩ = some (.int .i64 l[j].2.2) ∧ ok64 l[j].1 ∧ ok64 l[j].2.1 ∧ ok64 l[j].2.2)
section
variable {H : Type} {enc : TypeId × Value → H} {w : World} {spare : Nat → Bool} {held : Bool} {r : Reach} {b0 : Nat}
theorem ct3 : Tryd.prog.cellsOf 42 = 3 := by kernel_rfl
theorem open_t3 {n : Nat} {cs : List Value} {x : DataW H × List MemPlace} (hcl : cs.length = 3) (h : DataW.trod enc Tryd.prog w 0 spare held n 42 cs = some x) : ∃ i j k : Int, cs = [.int .i64 i, .int .i64 j, .int .i64 k] ∧ ok64 i ∧ ok64 j ∧ ok64 k := by
  match cs, hcl with
  | [v0, v1, v2], _ =>
    obtain ⟨y0, y1, y2, m, _, g0, g1, g2⟩ := trod_array3 (e := 3) Tryd.underlying42 cv_0 h
    obtain ⟨i, e0, _, w0⟩ := DataW.trod_int Tryd.underlying3 g0
    obtain ⟨j, e1, _, w1⟩ := DataW.trod_int Tryd.underlying3 g1
    obtain ⟨k, e2, _, w2⟩ := DataW.trod_int Tryd.underlying3 g2
    simp only [List.cons.injEq, and_true] at e0 e1 e2
    subst e0 e1 e2
    exact ⟨i, j, k, rfl, Dat.ok64_of w0, Dat.ok64_of w1, Dat.ok64_of w2⟩
theorem open_t3s {n : Nat} {cs : List Value} {x : DataW H × List MemPlace} (h : DataW.trod enc Tryd.prog w 0 spare held n 36 cs = some x) : ∃ v l, cs = [v] ∧ InT3 w l v := by
  rcases DataW.trod_slice Tryd.underlying36 h with ⟨rfl, _⟩ | ⟨⟨b, o, spot⟩, len, cap, elems, rest, m, rfl, rfl, rfl, _, hl, hm, hlen, hel, _, _⟩
  · exact ⟨_, [], rfl, none, 0, rfl, Nat.le_refl _, Nat.zero_le _, fun _ => rfl, .inl rfl⟩
  rw [ct3] at hel
  by_cases h0 : len = 0
  · obtain rfl : elems = [] := List.length_eq_zero_iff.1 (hlen.trans h0)
    subst h0
    exact ⟨_, [], rfl, some _, cap, rfl, Nat.zero_le _, hm, (fun h => by cases h), .inl rfl⟩
  have hs : spot = none := by
    have he := hel 0 (by omega)
    rw [List.getElem?_eq_getElem (by omega), Option.bind_eq_some_iff] at he
    obtain ⟨cs', hc, ht⟩ := he
    obtain ⟨_, hcl, hat⟩ := World.cells?_some hc
    obtain ⟨i, j, k, rfl, _⟩ := open_t3 hcl ht
    have a0 := hat 0 (by decide)
    simpa [Addr.add] using World.cell?_spot a0
  subst hs
  have each : ∀ i, i < len → ∃ t : Int × Int × Int, b < w.heap.size ∧ w.cell? ⟨b, o + i * 3, none⟩ = some (.int .i64 t.1) ∧ w.cell? ⟨b, o + i * 3 + 1, none⟩ = some (.int .i64 t.2.1) ∧ w.cell? ⟨b, o + i * 3 + 2, none⟩ = some (.int .i64 t.2.2) ∧ ok64 t.1 ∧ ok64 t.2.1 ∧ ok64 t.2.2 := by
    intro i hi
    have he := hel i hi
    rw [List.getElem?_eq_getElem (by omega), Option.bind_eq_some_iff] at he
    obtain ⟨cs', hc, ht⟩ := he
    obtain ⟨_, hcl, hat⟩ := World.cells?_some hc
    obtain ⟨x, y, z, rfl, ok⟩ := open_t3 hcl ht
    have a0 := hat 0 (by decide)
    have a1 := hat 1 (by decide)
    have a2 := hat 2 (by decide)
    simp only [add_plain, List.getElem?_cons_zero, List.getElem?_cons_succ] at a0 a1 a2
    exact ⟨(x, y, z), World.block_lt_of_cell? _ _ a0, a0, a1, a2, ok⟩
  obtain ⟨_, hb, _⟩ := each 0 (by omega)
  obtain ⟨f, hf⟩ : ∃ f : Nat → Int × Int × Int, ∀ i, i < len → w.cell? ⟨b, o + i * 3, none⟩ = some (.int .i64 (f i).1) ∧ w.cell? ⟨b, o + i * 3 + 1, none⟩ = some (.int .i64 (f i).2.1) ∧ w.cell? ⟨b, o + i * 3 + 2, none⟩ = some (.int .i64 (f i).2.2) ∧ ok64 (f i).1 ∧ ok64 (f i).2.1 ∧ ok64 (f i).2.2 :=
    ⟨fun i => if hi : i < len then (each i hi).choose else (0, 0, 0), fun i hi => by
      have := (each i hi).choose_spec.2
      simpa [hi] using this⟩
  refine ⟨_, (List.range len).map f, rfl, some ⟨b, o, none⟩, cap, by simp, by simpa using hl, hm, (fun h => by cases h), .inr ⟨b, o, rfl, hb, fun j hj => ?_⟩⟩
  simp at hj
  simpa using hf j hj
theorem arg_t3s {v : Value} {d : DataW H} {p : List MemPlace} (hv : Value.okWide Tryd.prog w r b0 36 v) (h : DataW.Trod enc Tryd.prog w 0 spare held 36 v d p) : ∃ l, InT3 w l v := by
  obtain ⟨n, hn⟩ := h
  obtain ⟨v', l, e, hr⟩ := open_t3s hn
  obtain ⟨a, len, cap, rfl⟩ := okWide_slice Tryd.underlying36 hv
  simp only [Value.cells, List.cons.injEq, and_true] at e
  subst e
  exact ⟨l, hr⟩
end
end Go.Proofs.YtcilmfjgbnfcgaaDoor.Hp
