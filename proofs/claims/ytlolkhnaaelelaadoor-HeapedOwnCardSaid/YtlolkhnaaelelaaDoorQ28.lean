/-
A row of values that is an argument; append of one to a fresh row. No condition.
-/
import Derived.Test.YtlolkhnaaelelaaDoorQ20
import Derived.Test.YtlolkhnaaelelaaDoorQ22
namespace Go.Proofs.YtlolkhnaaelelaaDoor.Hp
open Go.ChangeShapes Go.WideShapes Go.ChangeAt Go.RowKit Go.Deep
open Dat (PT ok64 RepV RepS RowX infoDatum NewV NewS makeT make_any MakeOk numT numsT)
set_option maxRecDepth 100000

theorem vat_mk {w : World} {b : Nat} : ∀ (l : List PV) {o : Nat}, (∀ (j : Nat) (h : j < l.length), w.cell? ⟨b, o + j * 3, none⟩ = some (.int .i64 l[j].k) ∧ w.cell? ⟨b, o + j * 3 + 1, none⟩ = some (.int .i64 l[j].i) ∧ w.cell? ⟨b, o + j * 3 + 2, none⟩ = some (.string l[j].s) ∧ okV l[j]) → VAt w l b o
  | [], o, _ => ⟨fun j u h => by simp [vCells] at h, fun v h => by cases h⟩
  | v :: l, o, h => by
    have ih := vat_mk (w := w) (b := b) l (o := o + 3) (fun j hj => by
      have := h (j + 1) (by simpa using hj)
      rw [show o + (j + 1) * 3 = o + 3 + j * 3 by omega] at this
      simpa using this)
    have h0 := h 0 (by simp)
    simp only [Nat.zero_mul, Nat.add_zero, List.getElem_cons_zero] at h0
    refine ⟨fun j u hj => ?_, fun x hx => ?_⟩
    · match j with
      | 0 => simp [vCells] at hj; subst hj; exact h0.1
      | 1 => simp [vCells] at hj; subst hj; exact h0.2.1
      | 2 => simp [vCells] at hj; subst hj; exact h0.2.2.1
      | j + 3 =>
        simp only [vCells, List.getElem?_cons_succ] at hj
        have := ih.1 j u hj
        rwa [show o + 3 + j = o + (j + 3) by omega] at this
    · rcases List.mem_cons.1 hx with rfl | hx
      · exact h0.2.2.2
      · exact ih.2 x hx
section
variable {H : Type} {enc : TypeId × Value → H} {w : World} {spare : Nat → Bool} {held : Bool} {r : Reach} {b0 : Nat}
theorem cv : Tryd.prog.cellsOf 36 = 3 := by kernel_rfl
theorem cv_0 : Tryd.prog.cellsOf 3 = 1 := by kernel_rfl
theorem cv_1 : Tryd.prog.cellsOf 9 = 1 := by kernel_rfl
theorem open_val {n : Nat} {cs : List Value} {x : DataW H × List MemPlace} (h : DataW.trod enc Tryd.prog w 0 spare held n 36 cs = some x) : ∃ t : PV, cs = [.int .i64 t.k, .int .i64 t.i, .string t.s] ∧ okV t := by
  obtain ⟨xs, m, rfl, _, hcl, hxl, hf⟩ := DataW.trod_struct Tryd.underlying36 h
  rw [cv] at hcl
  match xs, hxl, cs, hcl with
  | [y0, y1, y2], _, [v0, v1, v2], _ =>
    have g0 := hf 0 _ rfl
    have g1 := hf 1 _ rfl
    have g2 := hf 2 _ rfl
    change DataW.trod enc Tryd.prog w 0 spare held m 3 (List.take (Tryd.prog.cellsOf 3) [v0, v1, v2]) = some y0 at g0
    change DataW.trod enc Tryd.prog w 0 spare held m 3 (List.take (Tryd.prog.cellsOf 3) [v1, v2]) = some y1 at g1
    change DataW.trod enc Tryd.prog w 0 spare held m 9 (List.take (Tryd.prog.cellsOf 9) [v2]) = some y2 at g2
    rw [cv_0] at g0 g1
    rw [cv_1] at g2
    simp only [List.take_succ_cons, List.take_zero] at g0 g1 g2
    obtain ⟨k, e0, _, w0⟩ := DataW.trod_int Tryd.underlying3 g0
    obtain ⟨i, e1, _, w1⟩ := DataW.trod_int Tryd.underlying3 g1
    obtain ⟨s, e2, _, w2⟩ := DataW.trod_string Tryd.underlying9 g2
    simp only [List.cons.injEq, and_true] at e0 e1 e2
    subst e0 e1 e2
    exact ⟨⟨k, i, s⟩, rfl, Dat.ok64_of w0, Dat.ok64_of w1, w2⟩
theorem open_vals {n : Nat} {cs : List Value} {x : DataW H × List MemPlace} (h : DataW.trod enc Tryd.prog w 0 spare held n 30 cs = some x) : ∃ v l, cs = [v] ∧ InP w (· < w.heap.size) l v := by
  rcases DataW.trod_slice Tryd.underlying30 h with ⟨rfl, _⟩ | ⟨⟨b, o, spot⟩, len, cap, elems, rest, m, rfl, rfl, rfl, _, hl, hm, hlen, hel, _, _⟩
  · exact ⟨_, [], rfl, none, 0, rfl, Nat.le_refl _, Nat.zero_le _, fun _ => rfl, .inl rfl⟩
  rw [cv] at hel
  by_cases h0 : len = 0
  · obtain rfl : elems = [] := List.length_eq_zero_iff.1 (hlen.trans h0)
    subst h0
    exact ⟨_, [], rfl, some _, cap, rfl, Nat.zero_le _, hm, (fun h => by cases h), .inl rfl⟩
  have hs : spot = none := by
    have he := hel 0 (by omega)
    rw [List.getElem?_eq_getElem (by omega), Option.bind_eq_some_iff] at he
    obtain ⟨cs', hc, ht⟩ := he
    obtain ⟨_, hcl, hat⟩ := World.cells?_some hc
    obtain ⟨t, rfl, _⟩ := open_val ht
    have a0 := hat 0 (by decide)
    simpa [Addr.add] using World.cell?_spot a0
  subst hs
  have each : ∀ i, i < len → ∃ t : PV, b < w.heap.size ∧ w.cell? ⟨b, o + i * 3, none⟩ = some (.int .i64 t.k) ∧ w.cell? ⟨b, o + i * 3 + 1, none⟩ = some (.int .i64 t.i) ∧ w.cell? ⟨b, o + i * 3 + 2, none⟩ = some (.string t.s) ∧ okV t := by
    intro i hi
    have he := hel i hi
    rw [List.getElem?_eq_getElem (by omega), Option.bind_eq_some_iff] at he
    obtain ⟨cs', hc, ht⟩ := he
    obtain ⟨_, hcl, hat⟩ := World.cells?_some hc
    obtain ⟨t, rfl, ok⟩ := open_val ht
    have a0 := hat 0 (by decide)
    have a1 := hat 1 (by decide)
    have a2 := hat 2 (by decide)
    simp only [add_plain, List.getElem?_cons_zero, List.getElem?_cons_succ] at a0 a1 a2
    exact ⟨t, World.block_lt_of_cell? _ _ a0, a0, a1, a2, ok⟩
  obtain ⟨_, hb, _⟩ := each 0 (by omega)
  obtain ⟨f, hf⟩ : ∃ f : Nat → PV, ∀ i, i < len → w.cell? ⟨b, o + i * 3, none⟩ = some (.int .i64 (f i).k) ∧ w.cell? ⟨b, o + i * 3 + 1, none⟩ = some (.int .i64 (f i).i) ∧ w.cell? ⟨b, o + i * 3 + 2, none⟩ = some (.string (f i).s) ∧ okV (f i) :=
    ⟨fun i => if hi : i < len then (each i hi).choose else ⟨0, 0, ⟨#[]⟩⟩, fun i hi => by
      have := (each i hi).choose_spec.2
      simpa [hi] using this⟩
  refine ⟨_, (List.range len).map f, rfl, some ⟨b, o, none⟩, cap, by simp, by simpa using hl, hm, (fun h => by cases h), .inr ⟨b, o, rfl, hb, vat_mk _ fun j hj => ?_⟩⟩
  simp at hj
  simpa using hf j hj
theorem arg_vals {v : Value} {d : DataW H} {p : List MemPlace} (hv : Value.okWide Tryd.prog w r b0 30 v) (h : DataW.Trod enc Tryd.prog w 0 spare held 30 v d p) : ∃ l, InP w (· < w.heap.size) l v := by
  obtain ⟨n, hn⟩ := h
  obtain ⟨v', l, e, hr⟩ := open_vals hn
  obtain ⟨a, len, cap, rfl⟩ := okWide_slice Tryd.underlying30 hv
  simp only [Value.cells, List.cons.injEq, and_true] at e
  subst e
  exact ⟨l, hr⟩
end
theorem wpList_append_vals {ops : Array Oper} {rest : List Oper} {o : Oper} {a : Act} {w : World} {Q : Exit → Act → World → Prop} (hgd : o.guard = none) (s x : Operand)
    (ho : o.op = .call { callee := .builtin .append, args := #[s, x], argTypes := #[30, 30] }) (base : Nat) (S : Nat → Prop) (m : List PV) (v u : Value) (hs : a.eval s = v) (hx : a.eval x = u)
    (hown : w.ownsRow base 36 3 v 0 []) (hm : InP w S m u) (hlen : m.length ≤ 1000000) (hbase : base ≤ w.heap.size)
    (h : ∀ v' w', w'.ownsRow base 36 3 v' m.length (vCells m) → Below base w w' → wpList Tryd.prog ops Q rest (a.put o.dst v') w') : wpList Tryd.prog ops Q (o :: rest) a w := by
  obtain ⟨i0, hi, hz0, hz1, hz2⟩ := info_parts infoVal
  obtain ⟨ad, c, rfl, hlc, hcm, hna, hr⟩ := hm
  have hlow : ∀ k, v.ownBlock = some k → base ≤ k := fun k hk => (hown.lt k hk).1
  refine wpList_plain hgd fun K hK => ?_
  match ad with
  | none =>
    obtain rfl := hna rfl
    obtain rfl : m = [] := by
      rcases hr with hr | ⟨_, _, e, _⟩
      · exact hr
      · cases e
    refine Lib.wp_append_run w s x 30 30 ho v _ hs hx _ _ (run_append_owned_none (P := Tryd.prog) (w := w) base 30 o.type 36 i0 3 Tryd.underlying30 hi v 0 [] hown) ?_
    exact hK _ _ (h v w hown (Below.refl _ _))
  | some ad =>
    refine wp_append_own w s x 30 ho base 36 i0 _ 3 32 Tryd.underlying30 hi hz0 hz1 hz2 rfl (by decide) v 0 [] hs hown ad m.length c (vCells m) hx (vCells_len m) (fun j u hj => ?_) (vCells_one m) (by unfold maxLen; omega) (by omega) hbase ?_
    · rcases hr with rfl | ⟨b, o, e, _, hv⟩
      · simp [vCells] at hj
      · cases e
        rw [add_plain]
        exact hv.1 j u hj
    · intro v' w' h1 h2 _
      exact hK _ _ (h v' w' (by simpa using h1) ((Below.refl base w).grown h2 hbase hlow))
end Go.Proofs.YtlolkhnaaelelaaDoor.Hp
