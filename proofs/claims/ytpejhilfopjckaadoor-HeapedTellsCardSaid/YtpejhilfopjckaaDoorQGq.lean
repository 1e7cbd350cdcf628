/-
Texts Q76a, Q78, one behind the other (a claim bears sixty files). Conditions: as each says.
-/
import Derived.Test.YtpejhilfopjckaaDoorQGl
import Derived.Test.YtpejhilfopjckaaDoorRG
import Derived.Deep.DeepHandedRow

/-
How the calls of the laws HeapedDoes and HeapedTells lie; how things stand in their loops. No condition.
-/
namespace Go.Proofs.YtpejhilfopjckaaDoor.Hp
open Go.ChangeShapes Go.WideShapes Go.ChangeAt Go.RowKit Go.Deep
open Dat (PT ok64 RepV RepS RowX infoDatum)
set_option maxRecDepth 100000

/-- A call that the law makes: a primitive or a kind, values, and which of them are what was told so long ago. -/
structure POp where
  prim : ByteArray
  kind : Int
  vals : List PV
  ago : List Int
/-- A row of such calls at a slice. -/
def InO (w : World) (l : List POp) (v : Value) : Prop := ∃ a c, v = .slice a l.length c ∧ l.length ≤ c ∧ c ≤ maxLen ∧ ∀ (j : Nat) (h : j < l.length), ∃ b o vv av, a = some ⟨b, o, none⟩ ∧ b < w.heap.size ∧
  (w.cell? ⟨b, o + j * 4, none⟩ = some (.string l[j].prim) ∧ w.cell? ⟨b, o + j * 4 + 1, none⟩ = some (.int .i64 l[j].kind) ∧ w.cell? ⟨b, o + j * 4 + 2, none⟩ = some vv ∧ w.cell? ⟨b, o + j * 4 + 3, none⟩ = some av) ∧
  InP w (· < w.heap.size) l[j].vals vv ∧ InZ w l[j].ago av ∧ l[j].vals.length ≤ 4398046511104
theorem heapR_new (w : World) : HeapR (w.alloc (.cells #[.slice none 0 0] 28)) w.heap.size [] (· = w.heap.size) :=
  ⟨.slice none 0 0, [], fun _ => 0, fun _ => .slice none 0 0, heap_alloc_new w _, rfl, ⟨rfl, .inl ⟨rfl, rfl⟩⟩, fun b hb => (by cases hb), fun j hj => (by cases hj)⟩
theorem args_of {F G : Nat → Prop} {l : List PV} {g C : Nat} {v : Value} {W : World} (hp : PartsM W l g v) (hg : l ≠ [] → C ≤ g ∧ g < W.heap.size) (ha : ∀ b, C ≤ b → Apart F G b) : Args F G l v W := by
  obtain ⟨a, c, e, h1, h2, h3, h4⟩ := hp.inP
  refine ⟨a, c, e, h1, h2, h3, ?_⟩
  by_cases h0 : l = []
  · exact .inl h0
  · rcases h4 with h4 | ⟨b, o, e1, rfl, h6⟩
    · exact absurd h4 h0
    · exact .inr ⟨b, o, e1, ⟨(hg h0).2, ha b (hg h0).1⟩, h6⟩
def ArgsA (F G : Nat → Prop) (A : Nat) (l : List PV) (v : Value) (W : World) : Prop := InP W (fun b => b < A ∧ Apart F G b) l v
section
variable {F G F' G' : Nat → Prop} {A X : Nat} {l : List PV} {v : Value} {W W' : World}
theorem ArgsA.kept (h : ArgsA F G A l v W) (hA : A ≤ W.heap.size) (k : Kept F G W F' G' W') : ArgsA F' G' A l v W' :=
  h.move fun b hs _ => ⟨⟨hs.1, (k.2 b (Nat.lt_of_lt_of_le hs.1 hA) hs.2).1⟩, (k.2 b (Nat.lt_of_lt_of_le hs.1 hA) hs.2).2⟩
theorem ArgsA.put (h : ArgsA F G A l v W) (hX : A ≤ X) (y0 y1 y2 : Value) : ArgsA F G A l v (((W.setCell ⟨X, 0, none⟩ y0).setCell ⟨X, 1, none⟩ y1).setCell ⟨X, 2, none⟩ y2) :=
  h.move fun b hs _ => ⟨hs, put3_other _ _ _ (fun e => by have := hs.1; omega)⟩
theorem Told.put {C : Nat} (h : Told F G C l v W) (ht : ∀ b, v.ownBlock = some b → b < A) (hX : A ≤ X) (y0 y1 y2 : Value) : Told F G C l v (((W.setCell ⟨X, 0, none⟩ y0).setCell ⟨X, 1, none⟩ y1).setCell ⟨X, 2, none⟩ y2) := by
  refine ⟨⟨h.1.1, h.1.2.imp id ?_⟩, h.2.1, h.2.2⟩
  rintro ⟨t, cap, cur, e, a1, a2, a3⟩
  have := ht t (by rw [e]; rfl)
  exact ⟨t, cap, cur, e, a1, (put3_other _ _ _ (by omega)).trans a2, a3⟩
theorem Own.put_same {o0 o1 o2 : Value} (h : Own F G X (.cells #[o0, o1, o2] 36 (0, 0)) W) (y0 y1 y2 : Value) : Own F G X (.cells #[y0, y1, y2] 36 (0, 0)) (((W.setCell ⟨X, 0, none⟩ y0).setCell ⟨X, 1, none⟩ y1).setCell ⟨X, 2, none⟩ y2) := ⟨put3 h.1 y0 y1 y2, h.2⟩
theorem DSt.grown {w : World} {hb mb : Nat} {T U : List (Int × List PV)} {row : Option Nat} (h : DSt w hb mb T U F G W) (hg : W.grownBy W' row) (hr : ∀ b, row = some b → w.heap.size ≤ b ∧ Apart F G b) : DSt w hb mb T U F G W' :=
  ⟨h.h.move (fun b hf hlt => hg.block b hlt (fun e => (hr b e.symm).2.1 hf)) (fun _ q => q), h.m.move (fun b hf hlt => hg.block b hlt (fun e => (hr b e.symm).2.2 hf)) (fun _ q => q),
    fun b hf => ⟨(h.f b hf).1, Nat.lt_of_lt_of_le (h.f b hf).2 hg.size⟩, fun b hf => ⟨(h.g b hf).1, Nat.lt_of_lt_of_le (h.g b hf).2 hg.size⟩, h.d, h.b.grown hg h.b.size (fun b e => (hr b e).1)⟩
theorem Told.snoc {C : Nat} {u : PV} {v' : Value} (h : Told F G C l v W) (ho : W'.ownsRow C 36 3 v' (l.length + 1) (vCells l ++ [.int .i64 u.k, .int .i64 u.i, .string u.s])) (hu : okV u) (hv : ∀ b, v'.ownBlock = some b → v.ownBlock = some b ∨ Apart F G b) : Told F G C (l ++ [u]) v' W' := by
  refine ⟨?_, fun x hx => ?_, fun b hb => ?_⟩
  · rw [vCells_append, List.length_append]
    exact ho
  · rcases List.mem_append.1 hx with hx | hx
    · exact h.2.1 x hx
    · rw [List.mem_singleton.1 hx]; exact hu
  · rcases hv b hb with e | e
    · exact h.2.2 b e
    · exact e
theorem DSt.put {w : World} {hb mb : Nat} {T U : List (Int × List PV)} (h : DSt w hb mb T U F G W) (hX : Apart F G X) (hw : w.heap.size ≤ X) (y0 y1 y2 : Value) : DSt w hb mb T U F G (((W.setCell ⟨X, 0, none⟩ y0).setCell ⟨X, 1, none⟩ y1).setCell ⟨X, 2, none⟩ y2) :=
  ⟨h.h.move (fun b hf _ => put3_other _ _ _ (fun e => hX.1 (e ▸ hf))) (fun _ q => q), h.m.move (fun b hf _ => put3_other _ _ _ (fun e => hX.2 (e ▸ hf))) (fun _ q => q),
    fun b hf => by rw [size_put, size_put, size_put]; exact h.f b hf, fun b hf => by rw [size_put, size_put, size_put]; exact h.g b hf, h.d, h.b.trans (put3_below (Below.refl _ W) hw y0 y1 y2)⟩
end
end Go.Proofs.YtpejhilfopjckaaDoor.Hp

/-
A row of calls that is an argument, where it is of bulk at most 1048576; the witness of the second form's rows.
-/
namespace Go.Proofs.YtpejhilfopjckaaDoor
open Go.ChangeShapes Go.WideShapes Go.ChangeAt Go.WideMaps Go.WideElems Go.RowKit
set_option maxRecDepth 100000

theorem bulk_one {H : Type} (d : DataW H) : 1 ≤ Rows.uptoBulk d := by
  cases d with
  | lit l => cases l <;> simp [Rows.uptoBulk]
  | nil => simp [Rows.uptoBulk]
  | ptr d => simp [Rows.uptoBulk]
  | slice a b => simp [Rows.uptoBulk]
  | agg a => simp [Rows.uptoBulk]
  | iface a b => simp [Rows.uptoBulk]
  | map a => simp [Rows.uptoBulk]
  | held a => simp [Rows.uptoBulk]
theorem bulk_len {H : Type} : ∀ l : List (DataW H), l.length ≤ Rows.uptoBulkAll l
  | [] => by simp
  | x :: r => by have := bulk_one x; have := bulk_len r; simp only [Rows.uptoBulkAll, List.length_cons]; omega
theorem bulk_mem {H : Type} : ∀ {l : List (DataW H)} {d : DataW H}, d ∈ l → Rows.uptoBulk d ≤ Rows.uptoBulkAll l
  | x :: r, d, h => by
    simp only [Rows.uptoBulkAll]
    rcases List.mem_cons.1 h with rfl | h
    · omega
    · have := bulk_mem h; omega
namespace Hp
open Dat (PT ok64 RepV RepS RowX infoDatum)
section
variable {H : Type} {enc : TypeId × Value → H} {w : World} {spare : Nat → Bool} {held : Bool} {r : Reach} {b0 : Nat}
theorem co : Tryd.prog.cellsOf 34 = 4 := by kernel_rfl
theorem co_2 : Tryd.prog.cellsOf 30 = 1 := by kernel_rfl
theorem co_3 : Tryd.prog.cellsOf 32 = 1 := by kernel_rfl
theorem bytes_val : Tryd.prog.bytesOf 36 = 32 := by kernel_rfl
theorem len_vals_w {n : Nat} {a : Option Addr} {len cap : Nat} {x : DataW H × List MemPlace} (h : DataW.trod enc Tryd.prog w 0 spare held n 30 [.slice a len cap] = some x) (hw : ∀ k ∈ x.1.weights Tryd.prog 30, k ≤ reachBytes) : len ≤ 4398046511104 := by
  rcases DataW.trod_slice Tryd.underlying30 h with ⟨h1, _⟩ | ⟨⟨b, o, spot⟩, len', cap', elems, rest, m, h1, h2, h3, _, hl, hm, hlen, hel, _, _⟩
  · cases h1
    exact Nat.zero_le _
  · cases h2
    subst h3
    have := hw ((elems.length + rest.length) * 32) (by
      rw [DataW.weights, Tryd.underlying30]
      simp only [List.length_map, bytes_val]
      exact List.mem_cons_self)
    unfold reachBytes at this
    omega
theorem weights_mem {P : Program} {e : TypeId} {k : Nat} : ∀ {l : List (DataW H)} {d : DataW H}, d ∈ l → k ∈ d.weights P e → k ∈ DataW.weightsAll P e l
  | x :: r, d, h, hk => by
    rw [DataW.weightsAll]
    rcases List.mem_cons.1 h with rfl | h
    · exact List.mem_append_left _ hk
    · exact List.mem_append_right _ (weights_mem h hk)
theorem len_vals {n : Nat} {a : Option Addr} {len cap : Nat} {x : DataW H × List MemPlace} (h : DataW.trod enc Tryd.prog w 0 spare held n 30 [.slice a len cap] = some x) : len ≤ Rows.uptoBulk x.1 := by
  rcases DataW.trod_slice Tryd.underlying30 h with ⟨h1, _⟩ | ⟨⟨b, o, spot⟩, len', cap', elems, rest, m, h1, h2, h3, _, hl, hm, hlen, hel, _, _⟩
  · cases h1
    exact Nat.zero_le _
  · cases h2
    subst h3
    have := bulk_len (elems.map (·.1))
    simp only [List.length_map] at this
    simp only [Rows.uptoBulk]
    omega
theorem open_ints {n : Nat} {cs : List Value} {x : DataW H × List MemPlace} (h : DataW.trod enc Tryd.prog w 0 spare held n 32 cs = some x) : ∃ v l, cs = [v] ∧ InZ w l v := by
  rcases DataW.trod_slice Tryd.underlying32 h with ⟨rfl, _⟩ | ⟨⟨b, o, spot⟩, len, cap, elems, rest, m, rfl, rfl, rfl, _, hl, hm, hlen, hel, _, _⟩
  · exact ⟨_, [], rfl, none, 0, rfl, Nat.le_refl _, Nat.zero_le _, fun j hj => (by cases hj)⟩
  rw [cv_0] at hel
  by_cases h0 : len = 0
  · subst h0
    exact ⟨_, [], rfl, some _, cap, rfl, Nat.zero_le _, hm, fun j hj => (by cases hj)⟩
  have hs : spot = none := by
    have he := hel 0 (by omega)
    rw [List.getElem?_eq_getElem (by omega), Option.bind_eq_some_iff] at he
    obtain ⟨cs', hc, ht⟩ := he
    obtain ⟨_, hcl, hat⟩ := World.cells?_some hc
    obtain ⟨t, rfl, _⟩ := DataW.trod_int Tryd.underlying3 ht
    have a0 := hat 0 (by decide)
    simpa [Addr.add] using World.cell?_spot a0
  subst hs
  have each : ∀ i, i < len → ∃ t : Int, b < w.heap.size ∧ w.cell? ⟨b, o + i, none⟩ = some (.int .i64 t) ∧ ok64 t := by
    intro i hi
    have he := hel i hi
    rw [List.getElem?_eq_getElem (by omega), Option.bind_eq_some_iff] at he
    obtain ⟨cs', hc, ht⟩ := he
    obtain ⟨_, hcl, hat⟩ := World.cells?_some hc
    obtain ⟨t, rfl, _, wt⟩ := DataW.trod_int Tryd.underlying3 ht
    have a0 := hat 0 (by decide)
    simp only [add_plain, Nat.mul_one, Nat.add_zero, List.getElem?_cons_zero] at a0
    exact ⟨t, World.block_lt_of_cell? _ _ a0, a0, Dat.ok64_of wt⟩
  obtain ⟨f, hf⟩ : ∃ f : Nat → Int, ∀ i, i < len → b < w.heap.size ∧ w.cell? ⟨b, o + i, none⟩ = some (.int .i64 (f i)) ∧ ok64 (f i) :=
    ⟨fun i => if hi : i < len then (each i hi).choose else 0, fun i hi => by
      have := (each i hi).choose_spec
      simpa [hi] using this⟩
  refine ⟨_, (List.range len).map f, rfl, some ⟨b, o, none⟩, cap, by simp, by simpa using hl, hm, fun j hj => ?_⟩
  simp only [List.length_map, List.length_range] at hj
  obtain ⟨h1, h2, h3⟩ := hf j hj
  simp only [List.getElem_map, List.getElem_range]
  exact ⟨h3, b, o, rfl, h1, h2⟩
theorem open_op {n : Nat} {cs : List Value} {x : DataW H × List MemPlace} (h : DataW.trod enc Tryd.prog w 0 spare held n 34 cs = some x) :
    ∃ (p : POp) (vv av : Value), cs = [.string p.prim, .int .i64 p.kind, vv, av] ∧ InP w (· < w.heap.size) p.vals vv ∧ InZ w p.ago av ∧ p.vals.length ≤ Rows.uptoBulk x.1 ∧ ((∀ k ∈ x.1.weights Tryd.prog 34, k ≤ reachBytes) → p.vals.length ≤ 4398046511104) := by
  obtain ⟨xs, m, rfl, rfl, hcl, hxl, hf⟩ := DataW.trod_struct Tryd.underlying34 h
  rw [co] at hcl
  match xs, hxl, cs, hcl with
  | [y0, y1, y2, y3], _, [v0, v1, v2, v3], _ =>
    have g0 := hf 0 _ rfl
    have g1 := hf 1 _ rfl
    have g2 := hf 2 _ rfl
    have g3 := hf 3 _ rfl
    change DataW.trod enc Tryd.prog w 0 spare held m 9 (List.take (Tryd.prog.cellsOf 9) [v0, v1, v2, v3]) = some y0 at g0
    change DataW.trod enc Tryd.prog w 0 spare held m 3 (List.take (Tryd.prog.cellsOf 3) [v1, v2, v3]) = some y1 at g1
    change DataW.trod enc Tryd.prog w 0 spare held m 30 (List.take (Tryd.prog.cellsOf 30) [v2, v3]) = some y2 at g2
    change DataW.trod enc Tryd.prog w 0 spare held m 32 (List.take (Tryd.prog.cellsOf 32) [v3]) = some y3 at g3
    rw [cv_1] at g0
    rw [cv_0] at g1
    rw [co_2] at g2
    rw [co_3] at g3
    simp only [List.take_succ_cons, List.take_zero] at g0 g1 g2 g3
    obtain ⟨s, e0, _, _⟩ := DataW.trod_string Tryd.underlying9 g0
    obtain ⟨k, e1, _, _⟩ := DataW.trod_int Tryd.underlying3 g1
    obtain ⟨u2, l, e2, hp⟩ := open_vals g2
    obtain ⟨u3, z, e3, hz⟩ := open_ints g3
    simp only [List.cons.injEq, and_true] at e0 e1 e2 e3
    subst e0 e1 e2 e3
    refine ⟨⟨s, k, l, z⟩, _, _, rfl, hp, hz, ?_, fun hw => ?_⟩
    · have hb : l.length ≤ Rows.uptoBulk y2.1 := by
        obtain ⟨a, c, rfl, _⟩ := hp
        exact len_vals g2
      simp only [List.map_cons, List.map_nil, Rows.uptoBulk, Rows.uptoBulkAll]
      omega
    · obtain ⟨a, c, rfl, _⟩ := hp
      refine len_vals_w g2 fun k hk => hw k ?_
      rw [DataW.weights, Tryd.underlying34]
      simp only [List.map_cons, List.map_nil, DataW.weightsEach, List.mem_append]
      exact .inr (.inr (.inl hk))
theorem open_ops {n : Nat} {cs : List Value} {x : DataW H × List MemPlace} (hsm : Rows.uptoBulk x.1 ≤ 1048576 ∨ ∀ k ∈ x.1.weights Tryd.prog 22, k ≤ reachBytes) (h : DataW.trod enc Tryd.prog w 0 spare held n 22 cs = some x) : ∃ v l, cs = [v] ∧ InO w l v := by
  rcases DataW.trod_slice Tryd.underlying22 h with ⟨rfl, _⟩ | ⟨⟨b, o, spot⟩, len, cap, elems, rest, m, rfl, rfl, rfl, _, hl, hm, hlen, hel, _, _⟩
  · exact ⟨_, [], rfl, none, 0, rfl, Nat.le_refl _, Nat.zero_le _, fun j hj => (by cases hj)⟩
  rw [co] at hel
  by_cases h0 : len = 0
  · subst h0
    exact ⟨_, [], rfl, some _, cap, rfl, Nat.zero_le _, hm, fun j hj => (by cases hj)⟩
  have hs : spot = none := by
    have he := hel 0 (by omega)
    rw [List.getElem?_eq_getElem (by omega), Option.bind_eq_some_iff] at he
    obtain ⟨cs', hc, ht⟩ := he
    obtain ⟨_, hcl, hat⟩ := World.cells?_some hc
    obtain ⟨t, vv, av, rfl, _⟩ := open_op ht
    have a0 := hat 0 (by decide)
    simpa [Addr.add] using World.cell?_spot a0
  subst hs
  have each : ∀ i, i < len → ∃ t : POp, b < w.heap.size ∧ ∃ vv av, (w.cell? ⟨b, o + i * 4, none⟩ = some (.string t.prim) ∧ w.cell? ⟨b, o + i * 4 + 1, none⟩ = some (.int .i64 t.kind) ∧ w.cell? ⟨b, o + i * 4 + 2, none⟩ = some vv ∧ w.cell? ⟨b, o + i * 4 + 3, none⟩ = some av) ∧
      InP w (· < w.heap.size) t.vals vv ∧ InZ w t.ago av ∧ t.vals.length ≤ 4398046511104 := by
    intro i hi
    have he := hel i hi
    have hie : i < elems.length := by omega
    rw [List.getElem?_eq_getElem hie, Option.bind_eq_some_iff] at he
    obtain ⟨cs', hc, ht⟩ := he
    obtain ⟨_, hcl, hat⟩ := World.cells?_some hc
    obtain ⟨t, vv, av, rfl, hp, hz, hbk, hbw⟩ := open_op ht
    have a0 := hat 0 (by decide)
    have a1 := hat 1 (by decide)
    have a2 := hat 2 (by decide)
    have a3 := hat 3 (by decide)
    simp only [add_plain, Nat.add_zero, List.getElem?_cons_zero, List.getElem?_cons_succ] at a0 a1 a2 a3
    refine ⟨t, World.block_lt_of_cell? _ _ a0, vv, av, ⟨a0, a1, a2, a3⟩, hp, hz, ?_⟩
    have hme := List.mem_map_of_mem (f := fun y : DataW H × List MemPlace => y.1) (List.getElem_mem hie)
    rcases hsm with hsm | hsm
    · have h1 := bulk_mem hme
      simp only [Rows.uptoBulk] at hsm
      omega
    · refine hbw fun k hk => hsm k ?_
      rw [DataW.weights, Tryd.underlying22]
      exact List.mem_cons_of_mem _ (List.mem_append_left _ (weights_mem hme hk))
  obtain ⟨f, hf⟩ : ∃ f : Nat → POp, ∀ i, i < len → b < w.heap.size ∧ ∃ vv av, (w.cell? ⟨b, o + i * 4, none⟩ = some (.string (f i).prim) ∧ w.cell? ⟨b, o + i * 4 + 1, none⟩ = some (.int .i64 (f i).kind) ∧ w.cell? ⟨b, o + i * 4 + 2, none⟩ = some vv ∧ w.cell? ⟨b, o + i * 4 + 3, none⟩ = some av) ∧
      InP w (· < w.heap.size) (f i).vals vv ∧ InZ w (f i).ago av ∧ (f i).vals.length ≤ 4398046511104 :=
    ⟨fun i => if hi : i < len then (each i hi).choose else ⟨⟨#[]⟩, 0, [], []⟩, fun i hi => by
      have := (each i hi).choose_spec
      simpa [hi] using this⟩
  refine ⟨_, (List.range len).map f, rfl, some ⟨b, o, none⟩, cap, by simp, by simpa using hl, hm, fun j hj => ?_⟩
  simp only [List.length_map, List.length_range] at hj
  obtain ⟨h1, vv, av, h2⟩ := hf j hj
  simp only [List.getElem_map, List.getElem_range]
  exact ⟨b, o, vv, av, rfl, h1, h2⟩
theorem arg_ops {v : Value} {d : DataW H} {p : List MemPlace} (hsm : Rows.uptoBulk d ≤ 1048576 ∨ ∀ k ∈ d.weights Tryd.prog 22, k ≤ reachBytes) (hv : Value.okWide Tryd.prog w r b0 22 v) (h : DataW.Trod enc Tryd.prog w 0 spare held 22 v d p) : ∃ l, InO w l v := by
  obtain ⟨n, hn⟩ := h
  obtain ⟨v', l, e, hr⟩ := open_ops hsm hn
  obtain ⟨a, len, cap, rfl⟩ := okWide_slice Tryd.underlying22 hv
  simp only [Value.cells, List.cons.injEq, and_true] at e
  subst e
  exact ⟨l, hr⟩
end
end Hp
end Go.Proofs.YtpejhilfopjckaaDoor
