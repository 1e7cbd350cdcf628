/-
The document's row of what is open, in memory: what it holds; append to it. No condition.
-/
import Derived.Test.YthfjlcflpneffaaGreatDoorC5
import Derived.Test.YthfjlcflpneffaaGreatDoorWC
namespace Go.Proofs.YthfjlcflpneffaaGreatDoor
open Go.ChangeShapes Go.WideShapes Go.ChangeAt Go.RowKit
open Dat (PT makeT RepS RepV)
set_option maxRecDepth 100000

theorem infoOpen : (Tryz.prog.info? 55).map (fun i => (i.zero, i.size, i.bytes)) = some (some (.agg #[.int .i64 0, .slice none 0 0, .int .i64 0]), 3, 40) := by kernel_rfl
/-- No text lies among the cells. -/
def NoStr (xs : List Value) : Prop := ∀ s, Value.string s ∉ xs
def OpX (R : List PT → Value → Prop) : List Op → List Value → Prop
  | [], xs => xs = []
  | o :: l, xs => ∃ v ys, xs = .int .i64 o.kind :: v :: .int .i64 o.dot :: ys ∧ Dat.ok64 o.kind ∧ Dat.ok64 o.dot ∧ R o.list v ∧ OpX R l ys
theorem OpX.len {R : List PT → Value → Prop} : ∀ {l : List Op} {xs : List Value}, OpX R l xs → xs.length = l.length * 3
  | [], xs, h => by rw [OpX] at h; subst h; rfl
  | o :: l, xs, h => by
    rw [OpX] at h
    obtain ⟨v, ys, rfl, _, _, _, h⟩ := h
    have := OpX.len h
    simp only [List.length_cons]; omega
theorem OpX.append {R : List PT → Value → Prop} {m : List Op} {ys : List Value} (hm : OpX R m ys) : ∀ {l : List Op} {xs : List Value}, OpX R l xs → OpX R (l ++ m) (xs ++ ys)
  | [], xs, h => by rw [OpX] at h; subst h; exact hm
  | o :: l, xs, h => by
    rw [OpX] at h
    obtain ⟨v, zs, rfl, h1, h2, h3, h⟩ := h
    rw [List.cons_append, OpX]
    exact ⟨v, zs ++ ys, rfl, h1, h2, h3, OpX.append hm h⟩
theorem OpX.imp {R R' : List PT → Value → Prop} (hR : ∀ m v, R m v → R' m v) : ∀ {l : List Op} {xs : List Value}, OpX R l xs → OpX R' l xs
  | [], xs, h => by rw [OpX] at h ⊢; exact h
  | o :: l, xs, h => by
    rw [OpX] at h ⊢
    obtain ⟨v, ys, e, h1, h2, h3, h⟩ := h
    exact ⟨v, ys, e, h1, h2, hR _ _ h3, OpX.imp hR h⟩
theorem OpX.each {w : World} {S : Nat → Prop} : ∀ {l : List Op} {xs : List Value}, OpX (InS w S) l xs → (∀ u ∈ xs, u.oneCell' = true) ∧ NoStr xs
  | [], xs, h => by rw [OpX] at h; subst h; exact ⟨(fun u hu => by cases hu), (fun s hs => by cases hs)⟩
  | o :: l, xs, h => by
    rw [OpX] at h
    obtain ⟨v, ys, rfl, _, _, ⟨a, c, e, _⟩, h⟩ := h
    subst e
    obtain ⟨h1, h2⟩ := OpX.each h
    refine ⟨fun u hu => ?_, fun s hs => ?_⟩
    · simp only [List.mem_cons] at hu
      rcases hu with rfl | rfl | rfl | hu
      · rfl
      · rfl
      · rfl
      · exact h1 u hu
    · simp only [List.mem_cons] at hs
      rcases hs with hs | hs | hs | hs
      · cases hs
      · cases hs
      · cases hs
      · exact h2 s hs
theorem OpX.take {R : List PT → Value → Prop} : ∀ {l : List Op} {xs : List Value} (n : Nat), OpX R l xs → OpX R (l.take n) (xs.take (n * 3))
  | [], xs, n, h => by rw [OpX] at h; subst h; simp [OpX]
  | o :: l, xs, 0, h => by simp [OpX]
  | o :: l, xs, n + 1, h => by
    rw [OpX] at h
    obtain ⟨v, ys, rfl, h1, h2, h3, h⟩ := h
    rw [List.take_succ_cons, OpX, show (n + 1) * 3 = n * 3 + 1 + 1 + 1 by omega, List.take_succ_cons, List.take_succ_cons, List.take_succ_cons]
    exact ⟨v, _, rfl, h1, h2, h3, OpX.take n h⟩
/-- The last one's cells. -/
theorem OpX.last {R : List PT → Value → Prop} {l : List Op} {o : Op} {xs : List Value} (h : OpX R (l ++ [o]) xs) : ∃ ys v, xs = ys ++ [.int .i64 o.kind, v, .int .i64 o.dot] ∧ ys.length = l.length * 3 ∧ OpX R l ys ∧ Dat.ok64 o.kind ∧ Dat.ok64 o.dot ∧ R o.list v := by
  induction l generalizing xs with
  | nil =>
    rw [List.nil_append, OpX] at h
    obtain ⟨v, ys, rfl, h1, h2, h3, h⟩ := h
    rw [OpX] at h
    subst h
    exact ⟨[], v, rfl, rfl, by rw [OpX], h1, h2, h3⟩
  | cons p l ih =>
    rw [List.cons_append, OpX] at h
    obtain ⟨v, ys, rfl, h1, h2, h3, h⟩ := h
    obtain ⟨zs, u, rfl, e, h4, h5⟩ := ih h
    refine ⟨_ :: v :: _ :: zs, u, rfl, by simp only [List.length_cons]; omega, ?_, h5⟩
    rw [OpX]
    exact ⟨v, zs, rfl, h1, h2, h3, h4⟩

/-! ### data lie in no row of what is open -/
mutual
theorem InD.far {w : World} {S : Nat → Prop} {g : Nat} (hg : ∀ o s, w.cell? ⟨g, o, none⟩ ≠ some (.string s)) : ∀ (t : PT) {b o : Nat}, InD w S t b o → InD w (fun b => S b ∧ b ≠ g) t b o
  | .mk k i s l, b, o, h => by
    rw [inD_mk] at h ⊢
    obtain ⟨h1, h2, h3, c0, c1, c2, v, c3, a, c, e, hl, hm, hn, hr⟩ := h
    refine ⟨h1, h2, h3, c0, c1, c2, v, c3, a, c, e, hl, hm, hn, ?_⟩
    rcases hr with hr | ⟨b', o', ha, hs, hr⟩
    · exact .inl hr
    · match l, hr with
      | [], _ => exact .inl rfl
      | .mk k2 i2 s2 m2 :: l, hr =>
        refine .inr ⟨b', o', ha, ⟨hs, ?_⟩, InAt.far hg _ hr⟩
        have h0 := hr
        rw [InAt, inD_mk] at h0
        rintro rfl
        exact hg _ _ h0.1.2.2.2.2.2.1
theorem InAt.far {w : World} {S : Nat → Prop} {g : Nat} (hg : ∀ o s, w.cell? ⟨g, o, none⟩ ≠ some (.string s)) : ∀ (l : List PT) {b o : Nat}, InAt w S l b o → InAt w (fun b => S b ∧ b ≠ g) l b o
  | [], _, _, _ => by rw [InAt]; trivial
  | t :: l, b, o, h => by
    rw [InAt] at h ⊢
    exact ⟨InD.far hg t h.1, InAt.far hg l h.2⟩
end
theorem InS.far {w : World} {S : Nat → Prop} {g : Nat} (hg : ∀ o s, w.cell? ⟨g, o, none⟩ ≠ some (.string s)) {l : List PT} {v : Value} (h : InS w S l v) : InS w (fun b => S b ∧ b ≠ g) l v := by
  obtain ⟨a, c, e, hl, hm, hn, hr⟩ := h
  refine ⟨a, c, e, hl, hm, hn, ?_⟩
  rcases hr with hr | ⟨b', o', ha, hs, hr⟩
  · exact .inl hr
  · match l, hr with
    | [], _ => exact .inl rfl
    | .mk k2 i2 s2 m2 :: l, hr =>
      refine .inr ⟨b', o', ha, ⟨hs, ?_⟩, InAt.far hg _ hr⟩
      have h0 := hr
      rw [InAt, inD_mk] at h0
      rintro rfl
      exact hg _ _ h0.1.2.2.2.2.2.1
theorem nostr_cell {w : World} {g : Nat} {cur : Array Value} {T : TypeId} {fr : Nat × Nat} (hb : w.heap[g]? = some (.cells cur T fr)) (hn : NoStr cur.toList) : ∀ o s, w.cell? ⟨g, o, none⟩ ≠ some (.string s) := by
  intro o s h
  rw [Lib.cell_of_heap hb] at h
  have : Value.string s ∈ cur := Array.mem_of_getElem? h
  exact hn s (by simpa using this)
/-- What is represented stays so where a row without texts has turned, and new blocks have come. -/
theorem rep_far {w w' : World} {g : Nat} {cur : Array Value} {T : TypeId} {fr : Nat × Nat} (hb : w.heap[g]? = some (.cells cur T fr)) (hn : NoStr cur.toList) (hk : ∀ b, b < w.heap.size → b ≠ g → w'.heap[b]? = w.heap[b]?) {l : List PT} {v : Value} (h : RepS w w.heap.size l v) : RepS w' w'.heap.size l v := by
  have h1 := (ins_of h).far (nostr_cell hb hn)
  exact (h1.move (S' := fun _ => True) (fun _ _ _ => trivial) (fun b o u hS hc => by
    rw [World.cell?_of_block (w := w) (a := ⟨b, o, none⟩) (hk b (World.block_lt_of_cell? _ _ hc) hS.2)]; exact hc)).rep
theorem ins_far {w w' : World} {g q : Nat} {cur : Array Value} {T : TypeId} {fr : Nat × Nat} (hb : w.heap[g]? = some (.cells cur T fr)) (hn : NoStr cur.toList) (hk : ∀ b, b < w.heap.size → b ≠ g → w'.heap[b]? = w.heap[b]?) {l : List PT} {v : Value} (h : InS w (· ≠ q) l v) : InS w' (· ≠ q) l v :=
  (h.far (nostr_cell hb hn)).move (fun b hb _ => hb.1) (fun b o u hS hc => by
    rw [World.cell?_of_block (w := w) (a := ⟨b, o, none⟩) (hk b (World.block_lt_of_cell? _ _ hc) hS.2)]; exact hc)
theorem ins_below {w w' : World} {S : Nat → Prop} {l : List PT} {v : Value} (h : InS w S l v) (hb : Below w.heap.size w w') : InS w' S l v :=
  h.move (fun b hb _ => hb) (fun b o u _ hc => by
    rw [World.cell?_of_block (w := w) (a := ⟨b, o, none⟩) (hb.block b (World.block_lt_of_cell? _ _ hc))]; exact hc)

/-- A row of what is open that this call has made itself. -/
def StkOwn (w : World) (C q : Nat) (l : List Op) (v : Value) : Prop :=
  ∃ g cap cur, v = .slice (some ⟨g, 0, none⟩) l.length cap ∧ C ≤ g ∧ w.heap[g]? = some (.cells cur 55 (0, 0)) ∧ l.length ≤ cap ∧ cap ≤ maxLen ∧ cur.size = cap * 3 ∧ NoStr cur.toList ∧ OpX (InS w (· ≠ q)) l (cur.toList.take (l.length * 3))
theorem StkOwn.shape {w : World} {C q : Nat} {l : List Op} {v : Value} (h : StkOwn w C q l v) : ∃ g cap, v = .slice (some ⟨g, 0, none⟩) l.length cap := by
  obtain ⟨g, cap, _, e, _⟩ := h
  exact ⟨g, cap, e⟩
theorem StkOwn.lt {w : World} {C q : Nat} {l : List Op} {v : Value} (h : StkOwn w C q l v) : ∀ k, v.ownBlock = some k → C ≤ k ∧ k < w.heap.size := by
  obtain ⟨g, cap, cur, rfl, h1, h2, _⟩ := h
  intro k hk
  simp only [Value.ownBlock, Option.some.injEq] at hk
  subst hk
  exact ⟨h1, lt_of_block h2⟩
theorem StkOwn.moved {w w' : World} {C q : Nat} {l : List Op} {v : Value} (h : StkOwn w C q l v) (hb : Below w.heap.size w w') : StkOwn w' C q l v := by
  obtain ⟨g, cap, cur, e, h1, h2, h3, h4, h5, h6, h7⟩ := h
  exact ⟨g, cap, cur, e, h1, (hb.block g (lt_of_block h2)).trans h2, h3, h4, h5, h6, h7.imp fun m u hm => ins_below hm hb⟩
theorem stk_new (w : World) (C q : Nat) (hC : C ≤ w.heap.size) : StkOwn (w.alloc (.cells #[] 55)) C q [] (.slice (some ⟨w.heap.size, 0, none⟩) 0 0) :=
  ⟨w.heap.size, 0, #[], rfl, hC, heap_alloc_new w _, Nat.le_refl _, Nat.zero_le _, rfl, (fun s hs => by cases hs), by show OpX _ [] []; rw [OpX]⟩
theorem nostr_app {xs ys : List Value} (hx : NoStr xs) (hy : NoStr ys) : NoStr (xs ++ ys) := fun s hs => (List.mem_append.1 hs).elim (hx s) (hy s)
theorem nostr_sub {xs ys : List Value} (hx : NoStr xs) (h : ∀ u ∈ ys, u ∈ xs) : NoStr ys := fun s hs => hx s (h _ hs)
theorem nostr_zero (n : Nat) : NoStr (Builtin.zeroCells (Value.agg #[.int .i64 0, .slice none 0 0, .int .i64 0]).cells n).toList := by
  intro s hs
  have hc : (Value.agg #[.int .i64 0, .slice none 0 0, .int .i64 0]).cells = #[.int .i64 0, .slice none 0 0, .int .i64 0] := rfl
  rw [hc] at hs
  simp [Builtin.zeroCells] at hs
  obtain ⟨a, _, h⟩ := hs
  rcases (show a % 3 = 0 ∨ a % 3 = 1 ∨ a % 3 = 2 by omega) with e | e | e <;> (rw [e] at h; simp at h)

/-- append of what is open. -/
theorem run_append_stk (w : World) (C q : Nat) (l m : List Op) (v : Value) (h : StkOwn w C q l v) (ad : Addr) (c : Nat) (ys : List Value) (hys : OpX (InS w (· ≠ q)) m ys) (hc : ∀ j u, ys[j]? = some u → w.cell? (ad.add j) = some u) (ty : TypeId) (hlen : l.length + m.length ≤ 1000000) (hC : C ≤ w.heap.size) :
    ∃ v' w', (Builtin.append_ #[50, 50] ty #[v, .slice (some ad) m.length c]).run Tryz.prog w = .ok v' w' ∧ StkOwn w' C q (l ++ m) v' ∧ Below C w w' ∧ (∀ k, k < w.heap.size → some k ≠ v.ownBlock → w'.heap[k]? = w.heap[k]?) := by
  obtain ⟨i0, hi, hz0, hz1, hz2⟩ := info_parts infoOpen
  obtain ⟨g, cap, cur, rfl, h1, h2, h3, h4, h5, h6, h7⟩ := h
  have hyl := hys.len
  obtain ⟨hy1, hy2⟩ := hys.each
  have hxl := h7.len
  by_cases hroom : l.length + m.length ≤ cap
  · have hr := run_append_room (P := Tryz.prog) w 50 ty 55 i0 Tryz.underlying50 hi g l.length cap cur h2 ad m.length c ys (by rw [hz1]; exact hyl) hc hy1 hroom (by rw [hz1, hyl, h5]; omega)
    rw [hz1] at hr
    have hother : ∀ k, k ≠ g → (w.setRow g (cur.toList.take (l.length * 3) ++ ys ++ cur.toList.drop (l.length * 3 + ys.length)).toArray).heap[k]? = w.heap[k]? := fun k hk => setRow_other w g k _ hk
    refine ⟨_, _, hr, ⟨g, cap, _, by rw [List.length_append], h1, setRow_heap w g cur _ _ _ h2, by rw [List.length_append]; exact hroom, h4, ?_, ?_, ?_⟩, ⟨rfl, rfl, rfl, by simp, fun k hk => hother k (by omega)⟩, fun k _ hk => hother k (fun e => hk (by simp [Value.ownBlock, e]))⟩
    · simp only [List.size_toArray, List.length_append, List.length_take, List.length_drop, Array.length_toList]
      omega
    · refine nostr_app (nostr_app (nostr_sub h6 fun u hu => List.mem_of_mem_take hu) hy2) (nostr_sub h6 fun u hu => List.mem_of_mem_drop hu)
    · have e : (cur.toList.take (l.length * 3) ++ ys ++ cur.toList.drop (l.length * 3 + ys.length)).toArray.toList.take ((l ++ m).length * 3) = cur.toList.take (l.length * 3) ++ ys := by
        show (cur.toList.take (l.length * 3) ++ ys ++ cur.toList.drop (l.length * 3 + ys.length)).take ((l ++ m).length * 3) = _
        rw [List.take_left']
        rw [List.length_append, hxl, hyl, List.length_append]; omega
      rw [e]
      have mv : ∀ m u, InS w (· ≠ q) m u → InS (w.setRow g (cur.toList.take (l.length * 3) ++ ys ++ cur.toList.drop (l.length * 3 + ys.length)).toArray) (· ≠ q) m u := fun m u hq => ins_far h2 h6 (fun b _ hb => hother b hb) hq
      exact OpX.append (hys.imp mv) (h7.imp mv)
  · have holds : ∀ j u, (cur.toList.take (l.length * 3))[j]? = some u → w.cell? ((⟨g, 0, none⟩ : Addr).add j) = some u := fun j u hu => by
      rw [add_plain, Nat.zero_add, Lib.cell_of_heap h2]
      rw [List.getElem?_take] at hu
      split at hu
      · simpa using hu
      · cases hu
    have hr := run_append_grow (P := Tryz.prog) w 50 ty 55 i0 _ Tryz.underlying50 hi hz0 ⟨g, 0, none⟩ l.length cap (cur.toList.take (l.length * 3)) (by rw [hz1]; exact hxl) holds ad m.length c ys (by rw [hz1]; exact hyl) hc (by omega) (by omega) (by rw [hz2]; exact growslice_fits (by omega) (by omega))
    have hge := grownCap_ge w (l.length + m.length) cap 55
    have hcm2 : grownCap w (l.length + m.length) cap 55 ≤ maxLen := grownCap_le_maxLen w (l.length + m.length) cap 55 (by unfold maxLen; omega)
    generalize grownCap w (l.length + m.length) cap 55 = cap2 at hr hge hcm2
    have hz : (Value.agg #[.int .i64 0, .slice none 0 0, .int .i64 0]).cells.size = 3 := rfl
    have hsw : w.drew.heap.size = w.heap.size := rfl
    have hnew := heap_alloc_new w.drew (.cells ((cur.toList.take (l.length * 3)).toArray ++ ys.toArray ++ Builtin.zeroCells (Value.agg #[.int .i64 0, .slice none 0 0, .int .i64 0]).cells (cap2 - (l.length + m.length))) 55)
    rw [hsw] at hnew
    have hbl : Below w.heap.size w (w.drew.alloc (.cells ((cur.toList.take (l.length * 3)).toArray ++ ys.toArray ++ Builtin.zeroCells (Value.agg #[.int .i64 0, .slice none 0 0, .int .i64 0]).cells (cap2 - (l.length + m.length))) 55)) := (Below.refl _ w).drew.alloc (Nat.le_refl _) _
    refine ⟨_, _, hr, ⟨w.heap.size, cap2, _, by rw [List.length_append], hC, hnew, by rw [List.length_append]; exact hge, hcm2, ?_, ?_, ?_⟩, hbl.mono hC, fun k hk _ => hbl.block k hk⟩
    · simp only [Array.size_append, List.size_toArray, size_zeroCells, hz, hxl, hyl]; omega
    · simp only [Array.toList_append]
      exact nostr_app (nostr_app (nostr_sub h6 fun u hu => List.mem_of_mem_take hu) hy2) (nostr_zero _)
    · have e : ((cur.toList.take (l.length * 3)).toArray ++ ys.toArray ++ Builtin.zeroCells (Value.agg #[.int .i64 0, .slice none 0 0, .int .i64 0]).cells (cap2 - (l.length + m.length))).toList.take ((l ++ m).length * 3) = cur.toList.take (l.length * 3) ++ ys := by
        simp only [Array.toList_append]
        rw [List.take_left']
        rw [List.length_append, hxl, hyl, List.length_append]; omega
      rw [e]
      exact OpX.append (hys.imp fun m u hq => ins_below hq hbl) (h7.imp fun m u hq => ins_below hq hbl)
theorem wpList_append_stk {ops : Array Oper} {rest : List Oper} {o : Oper} {a : Act} {w : World} {Q : Exit → Act → World → Prop} (hgd : o.guard = none) (sl x : Operand)
    (ho : o.op = .call { callee := .builtin .append, args := #[sl, x], argTypes := #[50, 50] }) (C q : Nat) (l m : List Op) (v : Value) (hs : a.eval sl = v) (h : StkOwn w C q l v) (ad : Addr) (c : Nat) (ys : List Value) (hx : a.eval x = .slice (some ad) m.length c)
    (hys : OpX (InS w (· ≠ q)) m ys) (hc : ∀ j u, ys[j]? = some u → w.cell? (ad.add j) = some u) (hlen : l.length + m.length ≤ 1000000) (hC : C ≤ w.heap.size)
    (k : ∀ v' w', StkOwn w' C q (l ++ m) v' → Below C w w' → (∀ k, k < w.heap.size → some k ≠ v.ownBlock → w'.heap[k]? = w.heap[k]?) → wpList Tryz.prog ops Q rest (a.put o.dst v') w') : wpList Tryz.prog ops Q (o :: rest) a w := by
  refine wpList_plain hgd fun K hK => ?_
  obtain ⟨v', w', hr, h2, h3, h4⟩ := run_append_stk w C q l m v h ad c ys hys hc o.type hlen hC
  unfold Oper.wp execOp
  simp only [ho, resolve, invoke, builtin, Sem.run_bind, Sem.run_pure, Result.andThen_ok, List.map_toArray, List.map_cons, List.map_nil, hs, hx, hr]
  exact hK _ _ (k v' w' h2 h3 h4)
end Go.Proofs.YthfjlcflpneffaaGreatDoor
