/-
Texts K1, K2, one behind the other (a claim bears sixty files). Conditions: as each says.
-/
import Derived.Test.YtkjgdnfkpebejaaK0
import Derived.BigQuiet

/-
Expressions of layer 6 as plain trees, and what it means that one lies in memory: opened out of an argument's reading, carried into a world that has grown. No condition.
-/
namespace Go.Proofs.Ytkjgdnfkpebejaa.Core
open Go.ChangeShapes Go.WideShapes Go.ChangeAt Go.RowKit Go.Deep
open Dat (PT ok64 RepS block_lt ok64_of open_datum_fuel)
set_option maxRecDepth 100000

/-- An expression. -/
inductive PE where
  | mk (kind : Int) (name : ByteArray) (names : List ByteArray) (const : PT) (kids : List PE)

/-- A slice's value leads to the texts; the row lies in a block of S. -/
def InN (w : World) (S : Nat → Prop) (l : List ByteArray) (v : Value) : Prop :=
  ∃ a c, v = .slice a l.length c ∧ l.length ≤ c ∧ c ≤ maxLen ∧ (a = none → c = 0) ∧ (l = [] ∨ ∃ b o, a = some ⟨b, o, none⟩ ∧ S b ∧ ∀ (j : Nat) (h : j < l.length), w.cell? ⟨b, o + j, none⟩ = some (.string l[j]) ∧ l[j].size ≤ maxLen)

mutual
/-- The expression lies at eight cells from ⟨b, o⟩ on, and its rows lie in blocks of S. -/
def InE (w : World) (S : Nat → Prop) : PE → Nat → Nat → Prop
  | .mk k nm ns d l, b, o => ok64 k ∧ nm.size ≤ maxLen ∧ w.cell? ⟨b, o, none⟩ = some (.int .i64 k) ∧ w.cell? ⟨b, o + 1, none⟩ = some (.string nm) ∧ (∃ v, w.cell? ⟨b, o + 2, none⟩ = some v ∧ InN w S ns v) ∧ InD w S d b (o + 3) ∧
      ∃ v, w.cell? ⟨b, o + 7, none⟩ = some v ∧ ∃ a c, v = .slice a l.length c ∧ l.length ≤ c ∧ c ≤ maxLen ∧ (a = none → c = 0) ∧ (l = [] ∨ ∃ b' o', a = some ⟨b', o', none⟩ ∧ S b' ∧ InEs w S l b' o')
/-- The expressions of a list lie one behind the other. -/
def InEs (w : World) (S : Nat → Prop) : List PE → Nat → Nat → Prop
  | [], _, _ => True
  | t :: l, b, o => InE w S t b o ∧ InEs w S l b (o + 8)
end
/-- A slice's value leads to the expressions. -/
def InK (w : World) (S : Nat → Prop) (l : List PE) (v : Value) : Prop :=
  ∃ a c, v = .slice a l.length c ∧ l.length ≤ c ∧ c ≤ maxLen ∧ (a = none → c = 0) ∧ (l = [] ∨ ∃ b' o', a = some ⟨b', o', none⟩ ∧ S b' ∧ InEs w S l b' o')
/-- What an expression's fields hold that is no number and no text of its own. -/
def InF (w : World) (S : Nat → Prop) : PE → Value → Value → Value → Prop
  | .mk k nm ns (.mk ck ci cs cl) l, vn, vd, vk => (ok64 k ∧ nm.size ≤ maxLen ∧ InN w S ns vn) ∧ (ok64 ck ∧ ok64 ci ∧ cs.size ≤ maxLen ∧ InS w S cl vd) ∧ InK w S l vk
/-- The value of an expression. -/
def PE.val : PE → Value → Value → Value → Value
  | .mk k nm _ (.mk ck ci cs _) _, vn, vd, vk => .agg #[.int .i64 k, .string nm, vn, .int .i64 ck, .int .i64 ci, .string cs, vd, vk]

theorem inE_mk {w : World} {S : Nat → Prop} {k : Int} {nm : ByteArray} {ns : List ByteArray} {d : PT} {l : List PE} {b o : Nat} :
    InE w S (.mk k nm ns d l) b o ↔ ok64 k ∧ nm.size ≤ maxLen ∧ w.cell? ⟨b, o, none⟩ = some (.int .i64 k) ∧ w.cell? ⟨b, o + 1, none⟩ = some (.string nm) ∧ (∃ v, w.cell? ⟨b, o + 2, none⟩ = some v ∧ InN w S ns v) ∧ InD w S d b (o + 3) ∧
      ∃ v, w.cell? ⟨b, o + 7, none⟩ = some v ∧ InK w S l v := by
  rw [InE]; rfl
/-- The cells of an expression that lies in memory. -/
theorem InE.cells {w : World} {S : Nat → Prop} {k : Int} {nm : ByteArray} {ns : List ByteArray} {ck ci : Int} {cs : ByteArray} {cl : List PT} {l : List PE} {b o : Nat} (h : InE w S (.mk k nm ns (.mk ck ci cs cl) l) b o) : ∃ vn vd vk, InF w S (.mk k nm ns (.mk ck ci cs cl) l) vn vd vk ∧
    w.cell? ⟨b, o, none⟩ = some (.int .i64 k) ∧ w.cell? ⟨b, o + 1, none⟩ = some (.string nm) ∧ w.cell? ⟨b, o + 2, none⟩ = some vn ∧ w.cell? ⟨b, o + 3, none⟩ = some (.int .i64 ck) ∧ w.cell? ⟨b, o + 4, none⟩ = some (.int .i64 ci) ∧ w.cell? ⟨b, o + 5, none⟩ = some (.string cs) ∧ w.cell? ⟨b, o + 6, none⟩ = some vd ∧ w.cell? ⟨b, o + 7, none⟩ = some vk := by
  rw [inE_mk, inD_mk] at h
  obtain ⟨h1, h2, c0, c1, ⟨vn, c2, hn⟩, ⟨d1, d2, d3, c3, c4, c5, vd, c6, hd⟩, vk, c7, hk⟩ := h
  exact ⟨vn, vd, vk, ⟨⟨h1, h2, hn⟩, ⟨d1, d2, d3, hd⟩, hk⟩, c0, c1, c2, c3, c4, c5, c6, c7⟩
theorem inE_of {w : World} {S : Nat → Prop} {k : Int} {nm : ByteArray} {ns : List ByteArray} {ck ci : Int} {cs : ByteArray} {cl : List PT} {l : List PE} {vn vd vk : Value} {b o : Nat} (h : InF w S (.mk k nm ns (.mk ck ci cs cl) l) vn vd vk)
    (c0 : w.cell? ⟨b, o, none⟩ = some (.int .i64 k)) (c1 : w.cell? ⟨b, o + 1, none⟩ = some (.string nm)) (c2 : w.cell? ⟨b, o + 2, none⟩ = some vn) (c3 : w.cell? ⟨b, o + 3, none⟩ = some (.int .i64 ck)) (c4 : w.cell? ⟨b, o + 4, none⟩ = some (.int .i64 ci)) (c5 : w.cell? ⟨b, o + 5, none⟩ = some (.string cs)) (c6 : w.cell? ⟨b, o + 6, none⟩ = some vd) (c7 : w.cell? ⟨b, o + 7, none⟩ = some vk) : InE w S (.mk k nm ns (.mk ck ci cs cl) l) b o := by
  obtain ⟨⟨h1, h2, hn⟩, ⟨d1, d2, d3, hd⟩, hk⟩ := h
  rw [inE_mk, inD_mk]
  exact ⟨h1, h2, c0, c1, ⟨vn, c2, hn⟩, ⟨d1, d2, d3, c3, c4, c5, vd, c6, hd⟩, vk, c7, hk⟩
theorem InE.lt {w : World} {S : Nat → Prop} : ∀ {e : PE} {b o : Nat}, InE w S e b o → b < w.heap.size
  | .mk _ _ _ _ _, _, _, h => by
    rw [inE_mk] at h
    exact World.block_lt_of_cell? _ _ h.2.2.1

theorem inEs_get {w : World} {S : Nat → Prop} : ∀ {l : List PE} {b o : Nat}, InEs w S l b o → ∀ (j : Nat) (h : j < l.length), InE w S l[j] b (o + j * 8)
  | t :: l, b, o, hr, 0, _ => by rw [InEs] at hr; exact hr.1
  | t :: l, b, o, hr, j + 1, h => by
    rw [InEs] at hr
    have := inEs_get hr.2 j (by simpa using h)
    simp only [List.getElem_cons_succ]
    rwa [show o + (j + 1) * 8 = o + 8 + j * 8 by omega]
theorem inEs_mk {w : World} {S : Nat → Prop} : ∀ {l : List PE} {b o : Nat}, (∀ (j : Nat) (h : j < l.length), InE w S l[j] b (o + j * 8)) → InEs w S l b o
  | [], _, _, _ => by rw [InEs]; trivial
  | t :: l, b, o, h => by
    rw [InEs]
    refine ⟨h 0 (by simp), inEs_mk fun j hj => ?_⟩
    have := h (j + 1) (by simpa using hj)
    simp only [List.getElem_cons_succ] at this
    rwa [show o + 8 + j * 8 = o + (j + 1) * 8 by omega]
/-- One of a row of expressions: its cells. -/
theorem InK.item {w : World} {S : Nat → Prop} {l : List PE} {v : Value} (h : InK w S l v) (j : Nat) (hj : j < l.length) : ∃ b o c, v = .slice (some ⟨b, o, none⟩) l.length c ∧ l.length ≤ c ∧ c ≤ maxLen ∧ S b ∧ InE w S l[j] b (o + j * 8) := by
  obtain ⟨a, c, rfl, hl, hm, _, hr⟩ := h
  rcases hr with rfl | ⟨b, o, rfl, hs, hr⟩
  · cases hj
  · exact ⟨b, o, c, rfl, hl, hm, hs, inEs_get hr j hj⟩
theorem InN.move {w w' : World} {S S' : Nat → Prop} {l : List ByteArray} {v : Value} (h : InN w S l v) (hS : ∀ b, S b → b < w.heap.size → S' b) (hc : ∀ b o v, S b → w.cell? ⟨b, o, none⟩ = some v → w'.cell? ⟨b, o, none⟩ = some v) : InN w' S' l v := by
  obtain ⟨a, c, e, hl, hm, hn, hr⟩ := h
  refine ⟨a, c, e, hl, hm, hn, ?_⟩
  rcases hr with hr | ⟨b, o, ha, hs, hr⟩
  · exact .inl hr
  · by_cases h0 : l = []
    · exact .inl h0
    · have h1 := (hr 0 (List.length_pos_iff.2 h0)).1
      exact .inr ⟨b, o, ha, hS b hs (World.block_lt_of_cell? _ _ h1), fun j hj => ⟨hc _ _ _ hs (hr j hj).1, (hr j hj).2⟩⟩
mutual
theorem InE.move {w w' : World} {S S' : Nat → Prop} (hS : ∀ b, S b → b < w.heap.size → S' b) (hc : ∀ b o v, S b → w.cell? ⟨b, o, none⟩ = some v → w'.cell? ⟨b, o, none⟩ = some v) :
    ∀ (t : PE) {b o : Nat}, S b → InE w S t b o → InE w' S' t b o
  | .mk k nm ns d l, b, o, hb, h => by
    rw [inE_mk] at h ⊢
    obtain ⟨h1, h2, c0, c1, ⟨vn, c2, hn⟩, hd, vk, c7, hk⟩ := h
    refine ⟨h1, h2, hc _ _ _ hb c0, hc _ _ _ hb c1, ⟨vn, hc _ _ _ hb c2, hn.move hS hc⟩, InD.move hS hc d hb hd, vk, hc _ _ _ hb c7, ?_⟩
    obtain ⟨a, c, e, hl, hm, hn, hr⟩ := hk
    refine ⟨a, c, e, hl, hm, hn, ?_⟩
    rcases hr with hr | ⟨b', o', ha, hs, hr⟩
    · exact .inl hr
    · match l, hr with
      | [], _ => exact .inl rfl
      | u :: l, hr =>
        have hlt : b' < w.heap.size := by
          rw [InEs] at hr
          exact hr.1.lt
        exact .inr ⟨b', o', ha, hS _ hs hlt, InEs.move hS hc (u :: l) hs hr⟩
theorem InEs.move {w w' : World} {S S' : Nat → Prop} (hS : ∀ b, S b → b < w.heap.size → S' b) (hc : ∀ b o v, S b → w.cell? ⟨b, o, none⟩ = some v → w'.cell? ⟨b, o, none⟩ = some v) :
    ∀ (l : List PE) {b o : Nat}, S b → InEs w S l b o → InEs w' S' l b o
  | [], _, _, _, _ => by rw [InEs]; trivial
  | t :: l, b, o, hb, h => by
    rw [InEs] at h ⊢
    exact ⟨InE.move hS hc t hb h.1, InEs.move hS hc l hb h.2⟩
end
theorem InK.move {w w' : World} {S S' : Nat → Prop} {l : List PE} {v : Value} (h : InK w S l v) (hS : ∀ b, S b → b < w.heap.size → S' b) (hc : ∀ b o v, S b → w.cell? ⟨b, o, none⟩ = some v → w'.cell? ⟨b, o, none⟩ = some v) : InK w' S' l v := by
  obtain ⟨a, c, e, hl, hm, hn, hr⟩ := h
  refine ⟨a, c, e, hl, hm, hn, ?_⟩
  rcases hr with hr | ⟨b', o', ha, hs, hr⟩
  · exact .inl hr
  · match l, hr with
    | [], _ => exact .inl rfl
    | u :: l, hr =>
      have hlt : b' < w.heap.size := by
        rw [InEs] at hr
        exact hr.1.lt
      exact .inr ⟨b', o', ha, hS _ hs hlt, InEs.move hS hc (u :: l) hs hr⟩
theorem InF.move {w w' : World} {S S' : Nat → Prop} : ∀ {e : PE} {vn vd vk : Value}, InF w S e vn vd vk → (∀ b, S b → b < w.heap.size → S' b) → (∀ b o v, S b → w.cell? ⟨b, o, none⟩ = some v → w'.cell? ⟨b, o, none⟩ = some v) → InF w' S' e vn vd vk
  | .mk _ _ _ (.mk _ _ _ _) _, _, _, _, ⟨⟨h1, h2, hn⟩, ⟨d1, d2, d3, hd⟩, hk⟩, hS, hc => ⟨⟨h1, h2, hn.move hS hc⟩, ⟨d1, d2, d3, hd.move hS hc⟩, hk.move hS hc⟩
theorem cell_below {w w' : World} (h : Below w.heap.size w w') {b o : Nat} {v : Value} (hc : w.cell? ⟨b, o, none⟩ = some v) : w'.cell? ⟨b, o, none⟩ = some v := by
  rw [World.cell?_of_block (w := w) (a := ⟨b, o, none⟩) (h.block b (World.block_lt_of_cell? _ _ hc))]; exact hc
theorem InN.below {w w' : World} {S : Nat → Prop} {l : List ByteArray} {v : Value} (h : InN w S l v) (hb : Below w.heap.size w w') : InN w' S l v := h.move (fun _ h _ => h) fun _ _ _ _ hc => cell_below hb hc
theorem InK.below {w w' : World} {S : Nat → Prop} {l : List PE} {v : Value} (h : InK w S l v) (hb : Below w.heap.size w w') : InK w' S l v := h.move (fun _ h _ => h) fun _ _ _ _ hc => cell_below hb hc
theorem InF.below {w w' : World} {S : Nat → Prop} {e : PE} {vn vd vk : Value} (h : InF w S e vn vd vk) (hb : Below w.heap.size w w') : InF w' S e vn vd vk := h.move (fun _ h _ => h) fun _ _ _ _ hc => cell_below hb hc

/-! ### out of an argument's reading -/
section
variable {H : Type} {enc : TypeId × Value → H} {w : World} {spare : Nat → Bool} {held : Bool}

theorem ce_0 : (Try.prog.cellsOf 3) = 1 := by kernel_rfl
theorem ce_1 : (Try.prog.cellsOf 9) = 1 := by kernel_rfl
theorem ce_2 : (Try.prog.cellsOf 22) = 1 := by kernel_rfl
theorem ce_3 : (Try.prog.cellsOf 25) = 4 := by kernel_rfl
theorem ce_7 : (Try.prog.cellsOf 26) = 1 := by kernel_rfl
theorem ce : (Try.prog.cellsOf 28) = 8 := by kernel_rfl

theorem open_names {n : Nat} {cs : List Value} {x : DataW H × List MemPlace} (h : DataW.trod enc Try.prog w 0 spare held n 22 cs = some x) : ∃ v l, cs = [v] ∧ InN w (· < w.heap.size) l v := by
  rcases DataW.trod_slice Try.underlying22 h with ⟨rfl, _⟩ | ⟨⟨b, o, spot⟩, len, cap, elems, rest, m, rfl, rfl, rfl, _, hl, hm, hlen, hel, _, _⟩
  · exact ⟨_, [], rfl, none, 0, rfl, Nat.le_refl _, Nat.zero_le _, fun _ => rfl, .inl rfl⟩
  rw [ce_1] at hel
  by_cases h0 : len = 0
  · obtain rfl : elems = [] := List.length_eq_zero_iff.1 (hlen.trans h0)
    subst h0
    exact ⟨_, [], rfl, some _, cap, rfl, Nat.zero_le _, hm, (fun h => by cases h), .inl rfl⟩
  have hs : spot = none := by
    have he := hel 0 (by omega)
    rw [List.getElem?_eq_getElem (by omega), Option.bind_eq_some_iff] at he
    obtain ⟨cs', hc, ht⟩ := he
    obtain ⟨_, hcl, hat⟩ := World.cells?_some hc
    obtain ⟨s, rfl, _⟩ := DataW.trod_string Try.underlying9 ht
    have a0 := hat 0 (by decide)
    simpa [Addr.add] using World.cell?_spot a0
  subst hs
  have each : ∀ i, i < len → ∃ t : ByteArray, b < w.heap.size ∧ w.cell? ⟨b, o + i, none⟩ = some (.string t) ∧ t.size ≤ maxLen := by
    intro i hi
    have he := hel i hi
    rw [List.getElem?_eq_getElem (by omega), Option.bind_eq_some_iff] at he
    obtain ⟨cs', hc, ht⟩ := he
    obtain ⟨_, hcl, hat⟩ := World.cells?_some hc
    obtain ⟨s, rfl, _, h2⟩ := DataW.trod_string Try.underlying9 ht
    have a0 := hat 0 (by decide)
    simp only [add_plain, List.getElem?_cons_zero, Nat.mul_one, Nat.add_zero] at a0
    exact ⟨s, block_lt a0, a0, h2⟩
  obtain ⟨_, hb, _⟩ := each 0 (by omega)
  obtain ⟨f, hf⟩ : ∃ f : Nat → ByteArray, ∀ i, i < len → w.cell? ⟨b, o + i, none⟩ = some (.string (f i)) ∧ (f i).size ≤ maxLen :=
    ⟨fun i => if hi : i < len then (each i hi).choose else ⟨#[]⟩, fun i hi => by
      have := (each i hi).choose_spec.2
      simpa [hi] using this⟩
  refine ⟨_, (List.range len).map f, rfl, some ⟨b, o, none⟩, cap, by simp, by simpa using hl, hm, (fun h => by cases h), .inr ⟨b, o, rfl, hb, fun j hj => ?_⟩⟩
  simp at hj
  simpa using hf j hj

theorem open_kids_of {n : Nat} (ih : ∀ m, m < n → ∀ (cs : List Value) x, DataW.trod enc Try.prog w 0 spare held m 28 cs = some x → ∃ k nm ns ck ci s cl l vn vd vk, cs = [.int .i64 k, .string nm, vn, .int .i64 ck, .int .i64 ci, .string s, vd, vk] ∧ InF w (· < w.heap.size) (.mk k nm ns (.mk ck ci s cl) l) vn vd vk)
    {cs : List Value} {x : DataW H × List MemPlace} (h : DataW.trod enc Try.prog w 0 spare held n 26 cs = some x) : ∃ v l, cs = [v] ∧ InK w (· < w.heap.size) l v := by
  rcases DataW.trod_slice Try.underlying26 h with ⟨rfl, _⟩ | ⟨⟨b, o, spot⟩, len, cap, elems, rest, m, rfl, rfl, rfl, _, hl, hm, hlen, hel, _, _⟩
  · exact ⟨_, [], rfl, none, 0, rfl, Nat.le_refl _, Nat.zero_le _, fun _ => rfl, .inl rfl⟩
  rw [ce] at hel
  by_cases h0 : len = 0
  · obtain rfl : elems = [] := List.length_eq_zero_iff.1 (hlen.trans h0)
    subst h0
    exact ⟨_, [], rfl, some _, cap, rfl, Nat.zero_le _, hm, (fun h => by cases h), .inl rfl⟩
  have hs : spot = none := by
    have he := hel 0 (by omega)
    rw [List.getElem?_eq_getElem (by omega), Option.bind_eq_some_iff] at he
    obtain ⟨cs', hc, ht⟩ := he
    obtain ⟨_, hcl, hat⟩ := World.cells?_some hc
    obtain ⟨k, nm, ns, ck, ci, s, cl, l, vn, vd, vk, rfl, _⟩ := ih m (by omega) cs' _ ht
    have a0 := hat 0 (by decide)
    simpa [Addr.add] using World.cell?_spot a0
  subst hs
  have each : ∀ i, i < len → ∃ t : PE, b < w.heap.size ∧ InE w (· < w.heap.size) t b (o + i * 8) := by
    intro i hi
    have he := hel i hi
    rw [List.getElem?_eq_getElem (by omega), Option.bind_eq_some_iff] at he
    obtain ⟨cs', hc, ht⟩ := he
    obtain ⟨_, hcl, hat⟩ := World.cells?_some hc
    obtain ⟨k, nm, ns, ck, ci, s, cl, l, vn, vd, vk, rfl, hF⟩ := ih m (by omega) cs' _ ht
    have a0 := hat 0 (by decide)
    have a1 := hat 1 (by decide)
    have a2 := hat 2 (by decide)
    have a3 := hat 3 (by decide)
    have a4 := hat 4 (by decide)
    have a5 := hat 5 (by decide)
    have a6 := hat 6 (by decide)
    have a7 := hat 7 (by decide)
    simp only [add_plain, List.getElem?_cons_zero, List.getElem?_cons_succ] at a0 a1 a2 a3 a4 a5 a6 a7
    exact ⟨.mk k nm ns (.mk ck ci s cl) l, block_lt a0, inE_of hF a0 a1 a2 a3 a4 a5 a6 a7⟩
  obtain ⟨_, hb, _⟩ := each 0 (by omega)
  obtain ⟨f, hf⟩ : ∃ f : Nat → PE, ∀ i, i < len → InE w (· < w.heap.size) (f i) b (o + i * 8) :=
    ⟨fun i => if hi : i < len then (each i hi).choose else .mk 0 ⟨#[]⟩ [] (.mk 0 0 ⟨#[]⟩ []) [], fun i hi => by
      have := (each i hi).choose_spec.2
      simpa [hi] using this⟩
  refine ⟨_, (List.range len).map f, rfl, some ⟨b, o, none⟩, cap, by simp, by simpa using hl, hm, (fun h => by cases h), .inr ⟨b, o, rfl, hb, inEs_mk fun j hj => ?_⟩⟩
  simp at hj
  simpa using hf j hj

theorem open_expr_fuel : ∀ (n : Nat) (cs : List Value) (x : DataW H × List MemPlace), DataW.trod enc Try.prog w 0 spare held n 28 cs = some x →
    ∃ k nm ns ck ci s cl l vn vd vk, cs = [.int .i64 k, .string nm, vn, .int .i64 ck, .int .i64 ci, .string s, vd, vk] ∧ InF w (· < w.heap.size) (.mk k nm ns (.mk ck ci s cl) l) vn vd vk := by
  intro n
  induction n using Nat.strongRecOn with
  | _ n ih =>
    intro cs x h
    obtain ⟨xs, m, rfl, _, hcl, hxl, hf⟩ := DataW.trod_struct Try.underlying28 h
    rw [ce] at hcl
    match xs, hxl, cs, hcl with
    | [y0, y1, y2, y3, y4], _, [v0, v1, v2, v3, v4, v5, v6, v7], _ =>
      have g0 := hf 0 _ rfl
      have g1 := hf 1 _ rfl
      have g2 := hf 2 _ rfl
      have g3 := hf 3 _ rfl
      have g4 := hf 4 _ rfl
      change DataW.trod enc Try.prog w 0 spare held m 3 (List.take (Try.prog.cellsOf 3) [v0, v1, v2, v3, v4, v5, v6, v7]) = some y0 at g0
      change DataW.trod enc Try.prog w 0 spare held m 9 (List.take (Try.prog.cellsOf 9) [v1, v2, v3, v4, v5, v6, v7]) = some y1 at g1
      change DataW.trod enc Try.prog w 0 spare held m 22 (List.take (Try.prog.cellsOf 22) [v2, v3, v4, v5, v6, v7]) = some y2 at g2
      change DataW.trod enc Try.prog w 0 spare held m 25 (List.take (Try.prog.cellsOf 25) [v3, v4, v5, v6, v7]) = some y3 at g3
      change DataW.trod enc Try.prog w 0 spare held m 26 (List.take (Try.prog.cellsOf 26) [v7]) = some y4 at g4
      rw [ce_0] at g0
      rw [ce_1] at g1
      rw [ce_2] at g2
      rw [ce_3] at g3
      rw [ce_7] at g4
      simp only [List.take_succ_cons, List.take_zero] at g0 g1 g2 g3 g4
      obtain ⟨k, e0, _, w0⟩ := DataW.trod_int Try.underlying3 g0
      obtain ⟨nm, e1, _, w1⟩ := DataW.trod_string Try.underlying9 g1
      obtain ⟨vn, ns, e2, hn⟩ := open_names g2
      obtain ⟨ck, ci, s, vd, cl, e3, hd⟩ := open_datum_fuel _ _ _ g3
      obtain ⟨vk, l, e4, hk⟩ := open_kids_of (fun m' hm' => ih m' (by omega)) g4
      simp only [List.cons.injEq, and_true] at e0 e1 e2 e3 e4
      obtain ⟨e3, e3', e3'', e3'''⟩ := e3
      subst e0 e1 e2 e3 e3' e3'' e3''' e4
      exact ⟨k, nm, ns, ck, ci, s, cl, l, _, _, _, rfl, ⟨⟨ok64_of w0, w1, hn⟩, ⟨hd.1, hd.2.1, hd.2.2.1, ins_of hd.2.2.2⟩, hk⟩⟩
end
end Go.Proofs.Ytkjgdnfkpebejaa.Core

/-
The document's Has and SameTexts (layer 6): what each answers, of any rows of texts. No condition.
-/
namespace Go.Proofs.Ytkjgdnfkpebejaa.Core
open Go.ChangeShapes Go.WideShapes Go.ChangeAt Go.RowKit Go.Deep
open Dat (PT ok64)

open Classical in
/-- Is a text in a row? -/
noncomputable def hasB (l : List ByteArray) (s : ByteArray) : Bool := decide (s ∈ l)
open Classical in
/-- Are two rows of texts the same? -/
noncomputable def sameN (l m : List ByteArray) : Bool := decide (l = m)
theorem text_ne {a b : ByteArray} (h : a ≠ b) : (a.toList == b.toList) = false := by
  rw [beq_eq_false_iff_ne]
  intro e
  rw [ByteArray.toList_eq, ByteArray.toList_eq] at e
  exact h (Go.WideShapes.bytes_inj e)
theorem text_eq {a b : ByteArray} (h : a = b) : (a.toList == b.toList) = true := by
  rw [h, beq_self_eq_true]
set_option maxRecDepth 100000 in
theorem has_any (l : List ByteArray) (S : Nat → Prop) (v : Value) (s : ByteArray) (w : World) (hv : InN w S l v) :
    Calls Try.prog 13 #[v, .string s] w fun e w' => e = .returned (.bool (hasB l s)) ∧ w = w' := by
  obtain ⟨a, c, rfl, hl, hm, _, hr⟩ := hv
  have HR := Lib.hid hr
  unfold maxLen at hm
  clear hr
  go_enter Try.func13, Try.ntmps13
  go_wp2
  go_loop [5] (fun i => ∃ j : Nat, j ≤ l.length ∧ i = .int .i64 j ∧ s ∉ l.take j) (fun i => l.length - (intOf i).toNat)
  case atStart => exact ⟨0, Nat.zero_le _, rfl, by simp⟩
  case round =>
    obtain ⟨j, hj, rfl, hno⟩ := hrel
    by_cases hlt : j < l.length
    · obtain ⟨b, o, rfl, _, hc⟩ := HR.out.resolve_left (by rintro rfl; cases hlt)
      have c0 := (hc j hlt).1
      have hts := List.take_succ_eq_append_getElem hlt
      by_cases he : l[j] = s
      · have HH : Hid (hasB l s = true) := Lib.hid (by
          have : s ∈ l := he ▸ List.getElem_mem hlt
          simp [hasB, this])
        have hb := text_eq he
        clear hts he hno hc
        generalize l[j] = t at c0 hb
        go_wp2
        go_ret
        exact ⟨ret_bool HH.out.symm, rfl⟩
      · have HN : Hid (s ∉ l.take (j + 1)) := Lib.hid (by
          rw [hts]
          simp only [List.mem_append, List.mem_singleton, not_or]
          exact ⟨hno, fun e => he e.symm⟩)
        have hb := text_ne he
        clear hts he hno hc
        generalize l[j] = t at c0 hb
        go_wp2
        go_round
        case rel => exact ⟨j + 1, by omega, by go_num, HN.out⟩
        case measure => simp [intOf]; omega
    · obtain rfl : j = l.length := by omega
      have HH : Hid (hasB l s = false) := Lib.hid (by
        rw [List.take_length] at hno
        simp [hasB, hno])
      clear hno
      go_wp2
      go_ret
      exact ⟨ret_bool HH.out.symm, rfl⟩
theorem sameN_no {l m : List ByteArray} (h : l ≠ m) : sameN l m = false := by simp [sameN, h]
theorem sameN_self (l : List ByteArray) : sameN l l = true := by simp [sameN]
theorem names_take {l m : List ByteArray} {j : Nat} (h1 : j < l.length) (h2 : j < m.length) (ht : l.take j = m.take j) (h : l[j] = m[j]) : l.take (j + 1) = m.take (j + 1) := by
  rw [List.take_succ_eq_append_getElem h1, List.take_succ_eq_append_getElem h2, ht, h]
set_option maxRecDepth 100000 in
theorem sameTexts_any (l m : List ByteArray) (S T : Nat → Prop) (v u : Value) (w : World) (hv : InN w S l v) (hu : InN w T m u) :
    Calls Try.prog 16 #[v, u] w fun e w' => e = .returned (.bool (sameN l m)) ∧ Below w.heap.size w w' := by
  obtain ⟨a, c, rfl, hl, hm, _, hr⟩ := hv
  obtain ⟨a', c', rfl, hl', hm', _, hr'⟩ := hu
  have HR := Lib.hid hr
  have HR' := Lib.hid hr'
  unfold maxLen at hm hm'
  clear hr hr'
  by_cases hlen : l.length = m.length
  · have hn : ((l.length : Int) != (m.length : Int)) = false := by simp; omega
    have HLM := Lib.hid hlen
    have hlm1 : l.length ≤ m.length := by omega
    clear hlen
    go_enter Try.func16, Try.ntmps16
    go_wp2
    go_loopw [5] (fun i wr => ∃ j : Nat, j ≤ l.length ∧ i = .int .i64 j ∧ l.take j = m.take j ∧ Below w.heap.size w wr) (fun i _ => l.length - (intOf i).toNat)
    case atStart => exact ⟨0, Nat.zero_le _, rfl, rfl, Below.refl _ _⟩
    case round =>
      obtain ⟨j, hj, rfl, ht, hbr⟩ := hrel
      by_cases hlt : j < l.length
      · have hlt' : j < m.length := by omega
        obtain ⟨b, o, rfl, _, hc⟩ := HR.out.resolve_left (by rintro rfl; cases hlt)
        obtain ⟨b', o', rfl, _, hc'⟩ := HR'.out.resolve_left (by rintro rfl; cases hlt')
        have c0 := cell_below hbr (hc j hlt).1
        have c1 := cell_below hbr (hc' j hlt').1
        have HBR := Lib.hid hbr
        clear hbr hc hc'
        by_cases he : l[j] = m[j]
        · have HT := Lib.hid (names_take hlt hlt' ht he)
          have hb := text_eq he
          clear he ht
          generalize l[j] = t at c0 hb
          generalize m[j] = t' at c1 hb
          go_wp2
          go_region
          go_wp2
          all_goals
            go_roundw
            case rel => exact ⟨j + 1, by omega, by go_num, HT.out, HBR.out.drew⟩
            case measure => simp [intOf]; omega
        · have HH : Hid (sameN l m = false) := Lib.hid (sameN_no (by rintro rfl; exact he rfl))
          have hb := text_ne he
          clear he ht
          generalize l[j] = t at c0 hb
          generalize m[j] = t' at c1 hb
          go_wp2
          go_region
          go_wp2
          all_goals
            go_ret
            exact ⟨ret_bool HH.out.symm, HBR.out.drew⟩
      · obtain rfl : j = l.length := by omega
        have HH : Hid (sameN l m = true) := Lib.hid (by
          rw [List.take_length, HLM.out, List.take_length] at ht
          rw [ht]; exact sameN_self _)
        clear ht
        go_wp2
        go_ret
        exact ⟨ret_bool HH.out.symm, hbr⟩
  · have hn : ((l.length : Int) != (m.length : Int)) = true := by simp; omega
    have HH : Hid (sameN l m = false) := Lib.hid (sameN_no (by rintro rfl; exact hlen rfl))
    clear hlen
    go_enter Try.func16, Try.ntmps16
    go_wp2
    go_ret
    exact ⟨ret_bool HH.out.symm, Below.refl _ _⟩
end Go.Proofs.Ytkjgdnfkpebejaa.Core
