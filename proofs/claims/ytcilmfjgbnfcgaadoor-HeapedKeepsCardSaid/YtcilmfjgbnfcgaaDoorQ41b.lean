/-
A statement 'x, e := h.Do(.., []Val{.., num(..), ..})', whose order Go leaves open: what is read and made for the call, the call, the box of the result at any time, the store. Each operation is looked at once. No condition.
-/
import Derived.Test.YtcilmfjgbnfcgaaDoorQ41
import Derived.Test.YtcilmfjgbnfcgaaDoorRI
namespace Go.Proofs.YtcilmfjgbnfcgaaDoor.Hp
open Go.ChangeShapes Go.WideShapes Go.ChangeAt Go.RowKit Go.Deep
open Rg (putAll waits formI)
set_option maxRecDepth 100000

abbrev zeroC : Array Value := #[.int .i64 0, .int .i64 0, .string ⟨#[]⟩]
def uC (u : PV) : Array Value := #[.int .i64 u.k, .int .i64 u.i, .string u.s]
/-- What holds all the while: bi makes the row of arguments, di is the call, xi makes the box, si stores into it; all others have the values that ev says. -/
def DoI (C : Nat) (w : World) (ev : Nat → Option Value) (bi di xi si n : Nat) (args : List PV) (u : PV) (J : (Nat → Prop) → World → Prop) (S : Nat → Bool) (vs : Nat → Value) (W : World) : Prop :=
  (∀ j x, ev j = some x → S j = true → vs j = x) ∧
  ((S di = false ∧ Below C w W ∧ (S bi = true → ∃ g, vs bi = .slice (some ⟨g, 0, none⟩) n n ∧ C ≤ g ∧ W.heap[g]? = some (.cells (vCells args).toArray 28 (0, 0))) ∧
      (S xi = true → ∃ b, vs xi = .pointer (some ⟨b, 0, none⟩) ∧ C ≤ b ∧ W.heap[b]? = some (.cells zeroC 28 (0, 0)))) ∨
   (S di = true ∧ ∃ F, J F W ∧ C ≤ W.heap.size ∧ (∃ g, vs bi = .slice (some ⟨g, 0, none⟩) n n) ∧ (S xi = true → ∃ b, vs xi = .pointer (some ⟨b, 0, none⟩) ∧ C ≤ b ∧ (S si = true → Loc F W b (.cells (uC u) 28 (0, 0))) ∧ (S si = false → Loc F W b (.cells zeroC 28 (0, 0))))))
theorem wp_do {P : Program} {Q : Exit → Act → World → Prop} {id : Nat} {a : Act} {w : World} {l : List Oper} (hm : P.follows .mixedOrders = true) (C : Nat) (hC : C ≤ w.heap.size) (ev : Nat → Option Value) (bi di xi si n : Nat) (args : List PV) (u : PV) (tv : Value) (J : (Nat → Prop) → World → Prop)
    (hf : formI a.tmps.size l = true)
    (hcov : ∀ i, i < l.length → i = bi ∨ i = xi ∨ i = si ∨ ∃ x, ev i = some x) (hne : bi ≠ di ∧ bi ≠ xi ∧ bi ≠ si ∧ di ≠ xi ∧ di ≠ si ∧ xi ≠ si) (hlen : bi < l.length ∧ di < l.length ∧ xi < l.length ∧ si < l.length)
    (he : ev bi = none ∧ ev xi = none ∧ ev si = none ∧ ev di = some tv) (w1 : waits l di bi = true) (w0 : ((List.range l.length).all fun i => waits l di i == decide (i < di)) = true) (w2 : waits l si di = true) (w3 : waits l si xi = true)
    (hearly : ∀ i o x, l[i]? = some o → ev i = some x → i ≠ di → i < di → ∀ (vs : Nat → Value) W, Below C w W → (∀ j y, waits l i j = true → ev j = some y → vs j = y) → o.wp P (putAll a l vs 0) W (fun a' W' => a' = (putAll a l vs 0).put o.dst x ∧ Below W.heap.size W W') Q)
    (hlate : ∀ i o x, l[i]? = some o → ev i = some x → i ≠ di → ¬ i < di → ∀ (vs : Nat → Value) W, (∀ j y, waits l i j = true → ev j = some y → vs j = y) → o.wp P (putAll a l vs 0) W (fun a' W' => a' = (putAll a l vs 0).put o.dst x ∧ W' = W) Q)
    (hbuild : ∀ o, l[bi]? = some o → ∀ (vs : Nat → Value) W, Below C w W → (∀ j y, waits l bi j = true → ev j = some y → vs j = y) → o.wp P (putAll a l vs 0) W (fun a' W' => a' = (putAll a l vs 0).put o.dst (.slice (some ⟨W.heap.size, 0, none⟩) n n) ∧ W' = W.alloc (.cells (vCells args).toArray 28)) Q)
    (hcall : ∀ o, l[di]? = some o → ∀ (vs : Nat → Value) W g, Below C w W → vs bi = .slice (some ⟨g, 0, none⟩) n n → W.heap[g]? = some (.cells (vCells args).toArray 28 (0, 0)) → (∀ j y, waits l di j = true → ev j = some y → vs j = y) →
      o.wp P (putAll a l vs 0) W (fun a' W' => a' = (putAll a l vs 0).put o.dst tv ∧ ∃ F, J F W' ∧ W.heap.size ≤ W'.heap.size ∧ ∀ R ob, C ≤ R → W.heap[R]? = some ob → Loc F W' R ob) Q)
    (halloc : ∀ o, l[xi]? = some o → ∀ (vs : Nat → Value) W, o.wp P (putAll a l vs 0) W (fun a' W' => a' = (putAll a l vs 0).put o.dst (.pointer (some ⟨W.heap.size, 0, none⟩)) ∧ W' = W.alloc (.cells zeroC 28)) Q)
    (hstore : ∀ o, l[si]? = some o → ∀ (vs : Nat → Value) W F b, J F W → vs xi = .pointer (some ⟨b, 0, none⟩) → Loc F W b (.cells zeroC 28 (0, 0)) → (∀ j y, waits l si j = true → ev j = some y → vs j = y) →
      o.wp P (putAll a l vs 0) W (fun a' W' => a' = (putAll a l vs 0).put o.dst undef ∧ W' = set3 W b 0 u) Q)
    (hJa : ∀ F W o, J F W → J F (W.alloc o) ∧ ¬ F W.heap.size) (hJs : ∀ F W b, J F W → Loc F W b (.cells zeroC 28 (0, 0)) → C ≤ b → J F (set3 W b 0 u))
    (hend : ∀ (vs : Nat → Value) W F g b, (∀ j y, j < l.length → ev j = some y → vs j = y) → vs bi = .slice (some ⟨g, 0, none⟩) n n → vs xi = .pointer (some ⟨b, 0, none⟩) → C ≤ b → J F W → Loc F W b (.cells (uC u) 28 (0, 0)) → Q .normal (putAll a l vs 0) W) :
    (Code.region id l.toArray true).wp P Q a w := by
  obtain ⟨n1, n2, n3, n4, n5, n6⟩ := hne
  obtain ⟨e1, e2, e3, e4⟩ := he
  refine Rg.wp_region_inv hm (DoI C w ev bi di xi si n args u J) hf (fun vs => ⟨(fun _ _ _ h => by cases h), .inl ⟨rfl, (Below.refl _ _).drew, (fun h => by cases h), (fun h => by cases h)⟩⟩) ?_ ?_
  · intro i o ho S vs W ⟨hev, hph⟩ hSi hdep hcl
    have known : ∀ j y, waits l i j = true → ev j = some y → vs j = y := fun j y hw he => hev j y he (hdep j hw)
    have evn : ∀ v, (∀ y, ev i = some y → v = y) → ∀ j x, ev j = some x → (if j = i then true else S j) = true → (if j = i then v else vs j) = x := fun v hv j x hj hS => by
      by_cases hji : j = i
      · subst hji; rw [if_pos rfl]; exact hv x hj
      · rw [if_neg hji] at hS ⊢; exact hev j x hj hS
    by_cases hd : i = di
    · subst hd
      rcases hph with ⟨_, hb, hbi, hxi⟩ | ⟨h, _⟩
      · obtain ⟨g, hg1, hg2, hg3⟩ := hbi (hdep bi w1)
        refine Oper.wp_mono ?_ (hcall o ho vs W g hb hg1 hg3 known)
        rintro a' W' ⟨rfl, F, hJ, hsz, hK⟩
        refine ⟨tv, rfl, evn tv (fun y hy => by rw [e4] at hy; exact Option.some.inj hy), .inr ⟨if_pos rfl, F, hJ, Nat.le_trans hC (Nat.le_trans hb.size hsz), ⟨g, by dsimp only; rw [if_neg n1]; exact hg1⟩, fun hx => ?_⟩⟩
        dsimp only at hx ⊢
        rw [if_neg (fun e => n4 e.symm)] at hx ⊢
        obtain ⟨b, q1, q2, q3⟩ := hxi hx
        have hsi : S si = false := by
          cases h : S si with
          | false => rfl
          | true => have := hcl si i h w2; rw [hSi] at this; cases this
        have es : (if si = i then true else S si) = false := (if_neg (fun e => n5 e.symm)).trans hsi
        exact ⟨b, q1, q2, fun h => (by have h9 := es.symm.trans h; cases h9), fun _ => hK b _ q2 q3⟩
      · rw [hSi] at h; cases h
    by_cases hb : i = bi
    · subst hb
      have hdi : S di = false := by
        cases h : S di with
        | false => rfl
        | true => have := hcl di i h w1; rw [hSi] at this; cases this
      rcases hph with ⟨_, hbw, _, hxi⟩ | ⟨h, _⟩
      · refine Oper.wp_mono ?_ (hbuild o ho vs W hbw known)
        rintro a' W' ⟨rfl, rfl⟩
        refine ⟨_, rfl, evn _ (fun y hy => by rw [e1] at hy; cases hy), .inl ⟨by dsimp only; rw [if_neg (fun e => n1 e.symm)]; exact hdi, hbw.alloc (Nat.le_trans hC hbw.size) _, fun _ => ⟨W.heap.size, by dsimp only; rw [if_pos rfl], Nat.le_trans hC hbw.size, heap_alloc_new W _⟩, fun hx => ?_⟩⟩
        dsimp only at hx ⊢
        rw [if_neg (fun e => n2 e.symm)] at hx ⊢
        obtain ⟨b, q1, q2, q3⟩ := hxi hx
        exact ⟨b, q1, q2, (Below.heap_alloc W _ b (lt_of_block q3)).trans q3⟩
      · rw [hdi] at h; cases h
    by_cases hx : i = xi
    · subst hx
      refine Oper.wp_mono ?_ (halloc o ho vs W)
      rintro a' W' ⟨rfl, rfl⟩
      refine ⟨_, rfl, evn _ (fun y hy => by rw [e2] at hy; cases hy), ?_⟩
      rcases hph with ⟨hdi, hbw, hbi, _⟩ | ⟨hdi, F, hJ, hsz, ⟨g, hg⟩, _⟩
      · refine .inl ⟨by dsimp only; rw [if_neg n4]; exact hdi, hbw.alloc (Nat.le_trans hC hbw.size) _, fun h => ?_, fun _ => ⟨W.heap.size, by dsimp only; rw [if_pos rfl], Nat.le_trans hC hbw.size, heap_alloc_new W _⟩⟩
        dsimp only at h ⊢
        rw [if_neg n2] at h ⊢
        obtain ⟨b, q1, q2, q3⟩ := hbi h
        exact ⟨b, q1, q2, (Below.heap_alloc W _ b (lt_of_block q3)).trans q3⟩
      · have hsi : S si = false := by
          cases h : S si with
          | false => rfl
          | true => have := hcl si i h w3; rw [hSi] at this; cases this
        refine .inr ⟨by dsimp only; rw [if_neg n4]; exact hdi, F, (hJa F W _ hJ).1, by rw [size_new]; omega, ⟨g, by dsimp only; rw [if_neg n2]; exact hg⟩, fun _ => ⟨W.heap.size, by dsimp only; rw [if_pos rfl], hsz, fun h => ?_, fun _ => ⟨heap_alloc_new W _, (hJa F W (.cells zeroC 28) hJ).2⟩⟩⟩
        have es : (if si = i then true else S si) = false := (if_neg (fun e => n6 e.symm)).trans hsi
        have h9 := es.symm.trans h
        cases h9
    by_cases hs : i = si
    · subst hs
      rcases hph with ⟨h, _⟩ | ⟨hdi, F, hJ, hsz, ⟨g, hg⟩, hxi⟩
      · rw [hdep di w2] at h; cases h
      · obtain ⟨b, q1, q2, _, q3⟩ := hxi (hdep xi w3)
        replace q3 := q3 hSi
        refine Oper.wp_mono ?_ (hstore o ho vs W F b hJ q1 q3 known)
        rintro a' W' ⟨rfl, rfl⟩
        refine ⟨_, rfl, evn _ (fun y hy => by rw [e3] at hy; cases hy), .inr ⟨by dsimp only; rw [if_neg n5]; exact hdi, F, hJs F W b hJ q3 q2, by rw [set3_size]; exact hsz, ⟨g, by dsimp only; rw [if_neg n3]; exact hg⟩, fun _ => ⟨b, by dsimp only; rw [if_neg n6]; exact q1, q2, fun _ => ⟨put3 q3.1 _ _ _, q3.2⟩, fun h => ?_⟩⟩⟩
        have es : (if i = i then true else S i) = true := if_pos rfl
        have h9 := es.symm.trans h
        cases h9
    · obtain ⟨x, hxv⟩ : ∃ x, ev i = some x := by
        rcases hcov i (List.getElem?_eq_some_iff.1 ho).1 with h | h | h | h
        · exact absurd h hb
        · exact absurd h hx
        · exact absurd h hs
        · exact h
      have hwd : waits l di i = decide (i < di) := by
        have := List.all_eq_true.1 w0 i (List.mem_range.2 (List.getElem?_eq_some_iff.1 ho).1)
        exact eq_of_beq this
      cases hw : waits l di i with
      | true =>
        have hdi : S di = false := by
          cases h : S di with
          | false => rfl
          | true => have := hcl di i h hw; rw [hSi] at this; cases this
        rcases hph with ⟨_, hbw, hbi, hxi⟩ | ⟨h, _⟩
        · refine Oper.wp_mono ?_ (hearly i o x ho hxv hd (of_decide_eq_true (hwd.symm.trans hw)) vs W hbw known)
          rintro a' W' ⟨rfl, hB⟩
          refine ⟨x, rfl, evn x (fun y hy => by rw [hxv] at hy; exact Option.some.inj hy), .inl ⟨by dsimp only; rw [if_neg (fun e => hd e.symm)]; exact hdi, hbw.trans (hB.mono (Nat.le_trans hC hbw.size)), fun h => ?_, fun h => ?_⟩⟩
          · dsimp only at h ⊢
            rw [if_neg (fun e => hb e.symm)] at h ⊢
            obtain ⟨b, q1, q2, q3⟩ := hbi h
            exact ⟨b, q1, q2, (hB.block b (lt_of_block q3)).trans q3⟩
          · dsimp only at h ⊢
            rw [if_neg (fun e => hx e.symm)] at h ⊢
            obtain ⟨b, q1, q2, q3⟩ := hxi h
            exact ⟨b, q1, q2, (hB.block b (lt_of_block q3)).trans q3⟩
        · rw [hdi] at h; cases h
      | false =>
        refine Oper.wp_mono ?_ (hlate i o x ho hxv hd (of_decide_eq_false (hwd.symm.trans hw)) vs W known)
        rintro a' W' ⟨rfl, rfl⟩
        refine ⟨x, rfl, evn x (fun y hy => by rw [hxv] at hy; exact Option.some.inj hy), ?_⟩
        have sd : (if di = i then true else S di) = S di := if_neg (fun e => hd e.symm)
        have sb : (if bi = i then true else S bi) = S bi := if_neg (fun e => hb e.symm)
        have sx : (if xi = i then true else S xi) = S xi := if_neg (fun e => hx e.symm)
        have ss : (if si = i then true else S si) = S si := if_neg (fun e => hs e.symm)
        have vb : (if bi = i then x else vs bi) = vs bi := if_neg (fun e => hb e.symm)
        have vx : (if xi = i then x else vs xi) = vs xi := if_neg (fun e => hx e.symm)
        rcases hph with ⟨p1, p2, p3, p4⟩ | ⟨p1, F, p2, p3, p4, p5⟩
        · refine .inl ⟨sd.trans p1, p2, fun h => ?_, fun h => ?_⟩
          · dsimp only
            rw [vb]
            exact p3 (sb.symm.trans h)
          · dsimp only
            rw [vx]
            exact p4 (sx.symm.trans h)
        · refine .inr ⟨sd.trans p1, F, p2, p3, ?_, fun h => ?_⟩
          · dsimp only
            rw [vb]
            exact p4
          · obtain ⟨b, q1, q2, q3, q4⟩ := p5 (sx.symm.trans h)
            exact ⟨b, vx.trans q1, q2, fun h => q3 (ss.symm.trans h), fun h => q4 (ss.symm.trans h)⟩
  · rintro vs W ⟨hev, hph⟩
    have d1 : decide (di < l.length) = true := decide_eq_true hlen.2.1
    rcases hph with ⟨h, _⟩ | ⟨_, F, hJ, _, ⟨g, hg⟩, hxi⟩
    · have := d1.symm.trans h
      cases this
    · obtain ⟨b, q1, q2, q3, _⟩ := hxi (decide_eq_true hlen.2.2.1)
      exact hend vs W F g b (fun j y hj hy => hev j y hy (decide_eq_true hj)) hg q1 q2 hJ (q3 (decide_eq_true hlen.2.2.2))
/-- As above, where all but the store into a new box makes new memory alone. -/
def OneI (C : Nat) (w : World) (ev : Nat → Option Value) (xi si : Nat) (u : PV) (S : Nat → Bool) (vs : Nat → Value) (W : World) : Prop :=
  (∀ j x, ev j = some x → S j = true → vs j = x) ∧ Below C w W ∧
  (S xi = true → ∃ b, vs xi = .pointer (some ⟨b, 0, none⟩) ∧ C ≤ b ∧ (S si = true → W.heap[b]? = some (.cells (uC u) 28 (0, 0))) ∧ (S si = false → W.heap[b]? = some (.cells zeroC 28 (0, 0))))
theorem wp_one {P : Program} {Q : Exit → Act → World → Prop} {id : Nat} {a : Act} {w : World} {l : List Oper} (hm : P.follows .mixedOrders = true) (C : Nat) (hC : C ≤ w.heap.size) (ev : Nat → Option Value) (xi si : Nat) (u : PV)
    (hf : formI a.tmps.size l = true) (hcov : ∀ i, i < l.length → i = xi ∨ i = si ∨ ∃ x, ev i = some x) (hne : xi ≠ si) (hlen : xi < l.length ∧ si < l.length) (he : ev xi = none ∧ ev si = none) (w3 : waits l si xi = true)
    (hev : ∀ i o x, l[i]? = some o → ev i = some x → ∀ (vs : Nat → Value) W, Below C w W → (∀ j y, waits l i j = true → ev j = some y → vs j = y) → o.wp P (putAll a l vs 0) W (fun a' W' => a' = (putAll a l vs 0).put o.dst x ∧ Below W.heap.size W W') Q)
    (halloc : ∀ o, l[xi]? = some o → ∀ (vs : Nat → Value) W, o.wp P (putAll a l vs 0) W (fun a' W' => a' = (putAll a l vs 0).put o.dst (.pointer (some ⟨W.heap.size, 0, none⟩)) ∧ W' = W.alloc (.cells zeroC 28)) Q)
    (hstore : ∀ o, l[si]? = some o → ∀ (vs : Nat → Value) W b, C ≤ b → vs xi = .pointer (some ⟨b, 0, none⟩) → W.heap[b]? = some (.cells zeroC 28 (0, 0)) → (∀ j y, waits l si j = true → ev j = some y → vs j = y) →
      o.wp P (putAll a l vs 0) W (fun a' W' => a' = (putAll a l vs 0).put o.dst undef ∧ W' = set3 W b 0 u) Q)
    (hend : ∀ (vs : Nat → Value) W b, (∀ j y, j < l.length → ev j = some y → vs j = y) → vs xi = .pointer (some ⟨b, 0, none⟩) → C ≤ b → Below C w W → W.heap[b]? = some (.cells (uC u) 28 (0, 0)) → Q .normal (putAll a l vs 0) W) :
    (Code.region id l.toArray true).wp P Q a w := by
  obtain ⟨e2, e3⟩ := he
  refine Rg.wp_region_inv hm (OneI C w ev xi si u) hf (fun vs => ⟨(fun _ _ _ h => by cases h), (Below.refl _ _).drew, (fun h => by cases h)⟩) ?_ ?_
  · intro i o ho S vs W ⟨hvv, hbw, hxi⟩ hSi hdep hcl
    have known : ∀ j y, waits l i j = true → ev j = some y → vs j = y := fun j y hw he => hvv j y he (hdep j hw)
    have evn : ∀ v, (∀ y, ev i = some y → v = y) → ∀ j x, ev j = some x → (if j = i then true else S j) = true → (if j = i then v else vs j) = x := fun v hv j x hj hS => by
      by_cases hji : j = i
      · subst hji; rw [if_pos rfl]; exact hv x hj
      · rw [if_neg hji] at hS ⊢; exact hvv j x hj hS
    by_cases hx : i = xi
    · subst hx
      refine Oper.wp_mono ?_ (halloc o ho vs W)
      rintro a' W' ⟨rfl, rfl⟩
      have hsi : S si = false := by
        cases h : S si with
        | false => rfl
        | true => have := hcl si i h w3; rw [hSi] at this; cases this
      have es : (if si = i then true else S si) = false := (if_neg (fun e => hne e.symm)).trans hsi
      refine ⟨_, rfl, evn _ (fun y hy => by rw [e2] at hy; cases hy), hbw.alloc (Nat.le_trans hC hbw.size) _, fun _ => ⟨W.heap.size, by dsimp only; rw [if_pos rfl], Nat.le_trans hC hbw.size, fun h => ?_, fun _ => heap_alloc_new W _⟩⟩
      have h9 := es.symm.trans h
      cases h9
    by_cases hs : i = si
    · subst hs
      obtain ⟨b, q1, q2, _, q3⟩ := hxi (hdep xi w3)
      replace q3 := q3 hSi
      refine Oper.wp_mono ?_ (hstore o ho vs W b q2 q1 q3 known)
      rintro a' W' ⟨rfl, rfl⟩
      have es : (if i = i then true else S i) = true := if_pos rfl
      refine ⟨_, rfl, evn _ (fun y hy => by rw [e3] at hy; cases hy), hbw.trans (set3_below q2), fun _ => ⟨b, by dsimp only; rw [if_neg hne]; exact q1, q2, fun _ => put3 q3 _ _ _, fun h => ?_⟩⟩
      have h9 := es.symm.trans h
      cases h9
    · obtain ⟨x, hxv⟩ : ∃ x, ev i = some x := by
        rcases hcov i (List.getElem?_eq_some_iff.1 ho).1 with h | h | h
        · exact absurd h hx
        · exact absurd h hs
        · exact h
      refine Oper.wp_mono ?_ (hev i o x ho hxv vs W hbw known)
      rintro a' W' ⟨rfl, hB⟩
      have sx : (if xi = i then true else S xi) = S xi := if_neg (fun e => hx e.symm)
      have ss : (if si = i then true else S si) = S si := if_neg (fun e => hs e.symm)
      have vx : (if xi = i then x else vs xi) = vs xi := if_neg (fun e => hx e.symm)
      refine ⟨x, rfl, evn x (fun y hy => by rw [hxv] at hy; exact Option.some.inj hy), hbw.trans (hB.mono (Nat.le_trans hC hbw.size)), fun h => ?_⟩
      obtain ⟨b, q1, q2, q3, q4⟩ := hxi (sx.symm.trans h)
      exact ⟨b, vx.trans q1, q2, fun h => (hB.block b (lt_of_block (q3 (ss.symm.trans h)))).trans (q3 (ss.symm.trans h)), fun h => (hB.block b (lt_of_block (q4 (ss.symm.trans h)))).trans (q4 (ss.symm.trans h))⟩
  · rintro vs W ⟨hvv, hbw, hxi⟩
    obtain ⟨b, q1, q2, q3, _⟩ := hxi (decide_eq_true hlen.1)
    exact hend vs W b (fun j y hj hy => hvv j y hy (decide_eq_true hj)) q1 q2 hbw (q3 (decide_eq_true hlen.2))
/-- The same, the frame named once. -/
theorem wp_do_fr {P : Program} {Q : Exit → Act → World → Prop} {id : Nat} {a : Act} {w : World} {l : List Oper} (hm : P.follows .mixedOrders = true) (C : Nat) (hC : C ≤ w.heap.size) (ev : Nat → Option Value) (bi di xi si n : Nat) (args : List PV) (u : PV) (tv : Value) (J : (Nat → Prop) → World → Prop)
    (hf : formI a.tmps.size l = true)
    (hcov : ∀ i, i < l.length → i = bi ∨ i = xi ∨ i = si ∨ ∃ x, ev i = some x) (hne : bi ≠ di ∧ bi ≠ xi ∧ bi ≠ si ∧ di ≠ xi ∧ di ≠ si ∧ xi ≠ si) (hlen : bi < l.length ∧ di < l.length ∧ xi < l.length ∧ si < l.length)
    (he : ev bi = none ∧ ev xi = none ∧ ev si = none ∧ ev di = some tv) (w1 : waits l di bi = true) (w0 : ((List.range l.length).all fun i => waits l di i == decide (i < di)) = true) (w2 : waits l si di = true) (w3 : waits l si xi = true)
    (hJa : ∀ F W o, J F W → J F (W.alloc o) ∧ ¬ F W.heap.size) (hJs : ∀ F W b, J F W → Loc F W b (.cells zeroC 28 (0, 0)) → C ≤ b → J F (set3 W b 0 u))
    (hh : ∃ fr : (Nat → Value) → Act, (∀ vs, putAll a l vs 0 = fr vs) ∧
      (∀ i o x, l[i]? = some o → ev i = some x → i ≠ di → i < di → ∀ (vs : Nat → Value) W, Below C w W → (∀ j y, waits l i j = true → ev j = some y → vs j = y) → o.wp P (fr vs) W (fun a' W' => a' = (fr vs).put o.dst x ∧ Below W.heap.size W W') Q) ∧
      (∀ i o x, l[i]? = some o → ev i = some x → i ≠ di → ¬ i < di → ∀ (vs : Nat → Value) W, (∀ j y, waits l i j = true → ev j = some y → vs j = y) → o.wp P (fr vs) W (fun a' W' => a' = (fr vs).put o.dst x ∧ W' = W) Q) ∧
      (∀ o, l[bi]? = some o → ∀ (vs : Nat → Value) W, Below C w W → (∀ j y, waits l bi j = true → ev j = some y → vs j = y) → o.wp P (fr vs) W (fun a' W' => a' = (fr vs).put o.dst (.slice (some ⟨W.heap.size, 0, none⟩) n n) ∧ W' = W.alloc (.cells (vCells args).toArray 28)) Q) ∧
      (∀ o, l[di]? = some o → ∀ (vs : Nat → Value) W g, Below C w W → vs bi = .slice (some ⟨g, 0, none⟩) n n → W.heap[g]? = some (.cells (vCells args).toArray 28 (0, 0)) → (∀ j y, waits l di j = true → ev j = some y → vs j = y) →
      o.wp P (fr vs) W (fun a' W' => a' = (fr vs).put o.dst tv ∧ ∃ F, J F W' ∧ W.heap.size ≤ W'.heap.size ∧ ∀ R ob, C ≤ R → W.heap[R]? = some ob → Loc F W' R ob) Q) ∧
      (∀ o, l[xi]? = some o → ∀ (vs : Nat → Value) W, o.wp P (fr vs) W (fun a' W' => a' = (fr vs).put o.dst (.pointer (some ⟨W.heap.size, 0, none⟩)) ∧ W' = W.alloc (.cells zeroC 28)) Q) ∧
      (∀ o, l[si]? = some o → ∀ (vs : Nat → Value) W F b, J F W → vs xi = .pointer (some ⟨b, 0, none⟩) → Loc F W b (.cells zeroC 28 (0, 0)) → (∀ j y, waits l si j = true → ev j = some y → vs j = y) →
      o.wp P (fr vs) W (fun a' W' => a' = (fr vs).put o.dst undef ∧ W' = set3 W b 0 u) Q) ∧
      (∀ (vs : Nat → Value) W F g b, (∀ j y, j < l.length → ev j = some y → vs j = y) → vs bi = .slice (some ⟨g, 0, none⟩) n n → vs xi = .pointer (some ⟨b, 0, none⟩) → C ≤ b → J F W → Loc F W b (.cells (uC u) 28 (0, 0)) → Q .normal (fr vs) W)) :
    (Code.region id l.toArray true).wp P Q a w := by
  obtain ⟨fr, hfr, hearly_, hlate_, hbuild_, hcall_, halloc_, hstore_, hend_⟩ := hh
  exact wp_do hm C hC ev bi di xi si n args u tv J hf hcov hne hlen he w1 w0 w2 w3 (fun i o x h1 h2 h3 h4 vs W h5 h6 => by rw [hfr]; exact hearly_ i o x h1 h2 h3 h4 vs W h5 h6) (fun i o x h1 h2 h3 h4 vs W h5 => by rw [hfr]; exact hlate_ i o x h1 h2 h3 h4 vs W h5) (fun o h1 vs W h2 h3 => by rw [hfr]; exact hbuild_ o h1 vs W h2 h3) (fun o h1 vs W g h2 h3 h4 h5 => by rw [hfr]; exact hcall_ o h1 vs W g h2 h3 h4 h5) (fun o h1 vs W => by rw [hfr]; exact halloc_ o h1 vs W) (fun o h1 vs W F b h2 h3 h4 h5 => by rw [hfr]; exact hstore_ o h1 vs W F b h2 h3 h4 h5) hJa hJs (fun vs W F g b h1 h2 h3 h4 h5 h6 => by rw [hfr]; exact hend_ vs W F g b h1 h2 h3 h4 h5 h6)
/-- The same, the frame named once. -/
theorem wp_one_fr {P : Program} {Q : Exit → Act → World → Prop} {id : Nat} {a : Act} {w : World} {l : List Oper} (hm : P.follows .mixedOrders = true) (C : Nat) (hC : C ≤ w.heap.size) (ev : Nat → Option Value) (xi si : Nat) (u : PV)
    (hf : formI a.tmps.size l = true) (hcov : ∀ i, i < l.length → i = xi ∨ i = si ∨ ∃ x, ev i = some x) (hne : xi ≠ si) (hlen : xi < l.length ∧ si < l.length) (he : ev xi = none ∧ ev si = none) (w3 : waits l si xi = true)
    (hh : ∃ fr : (Nat → Value) → Act, (∀ vs, putAll a l vs 0 = fr vs) ∧
      (∀ i o x, l[i]? = some o → ev i = some x → ∀ (vs : Nat → Value) W, Below C w W → (∀ j y, waits l i j = true → ev j = some y → vs j = y) → o.wp P (fr vs) W (fun a' W' => a' = (fr vs).put o.dst x ∧ Below W.heap.size W W') Q) ∧
      (∀ o, l[xi]? = some o → ∀ (vs : Nat → Value) W, o.wp P (fr vs) W (fun a' W' => a' = (fr vs).put o.dst (.pointer (some ⟨W.heap.size, 0, none⟩)) ∧ W' = W.alloc (.cells zeroC 28)) Q) ∧
      (∀ o, l[si]? = some o → ∀ (vs : Nat → Value) W b, C ≤ b → vs xi = .pointer (some ⟨b, 0, none⟩) → W.heap[b]? = some (.cells zeroC 28 (0, 0)) → (∀ j y, waits l si j = true → ev j = some y → vs j = y) →
      o.wp P (fr vs) W (fun a' W' => a' = (fr vs).put o.dst undef ∧ W' = set3 W b 0 u) Q) ∧
      (∀ (vs : Nat → Value) W b, (∀ j y, j < l.length → ev j = some y → vs j = y) → vs xi = .pointer (some ⟨b, 0, none⟩) → C ≤ b → Below C w W → W.heap[b]? = some (.cells (uC u) 28 (0, 0)) → Q .normal (fr vs) W)) :
    (Code.region id l.toArray true).wp P Q a w := by
  obtain ⟨fr, hfr, hev_, halloc_, hstore_, hend_⟩ := hh
  exact wp_one hm C hC ev xi si u hf hcov hne hlen he w3 (fun i o x h1 h2 vs W h3 h4 => by rw [hfr]; exact hev_ i o x h1 h2 vs W h3 h4) (fun o h1 vs W => by rw [hfr]; exact halloc_ o h1 vs W) (fun o h1 vs W b h2 h3 h4 h5 => by rw [hfr]; exact hstore_ o h1 vs W b h2 h3 h4 h5) (fun vs W b h1 h2 h3 h4 h5 => by rw [hfr]; exact hend_ vs W b h1 h2 h3 h4 h5)
end Go.Proofs.YtcilmfjgbnfcgaaDoor.Hp
