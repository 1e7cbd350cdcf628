/-
Texts RG, RT, one behind the other (a claim bears sixty files). Conditions: as each says.
-/
import Derived.Orders
import Derived.Below
import Derived.Tactics

/-
A statement whose order Go leaves open and that only makes new memory, but for its last operation: each operation is looked at once, whatever came before it (not once for each order). No condition.
-/
namespace Go.Proofs.Ytkjgdnfkpebejaa.Rg
open Go Go.RowKit

section
variable {P : Program} {ops : Array Oper} {Q : Exit → Act → World → Prop} {md : Region.Mode}

def unl (n : Nat) (listed : Array Bool) : Nat := (List.range n).countP fun i => !listed.getD i true

theorem unl_step {n i : Nat} {listed : Array Bool} (hi : i < n) (h : listed.getD i true = false) : unl n (listed.setIfInBounds i true) < unl n listed := by
  unfold unl
  have hs : i < listed.size := Classical.byContradiction fun hc => by
    rw [Array.getD_eq_getD_getElem?, Array.getElem?_eq_none (by omega)] at h; cases h
  have hg : ∀ k, (listed.setIfInBounds i true).getD k true = if k = i then true else listed.getD k true := fun k => by
    rw [Array.getD_eq_getD_getElem?, Array.getD_eq_getD_getElem?, Array.getElem?_setIfInBounds]
    by_cases hk : k = i
    · subst hk; simp [hs]
    · rw [if_neg (fun e => hk e.symm), if_neg hk]
  have hle : ∀ l : List Nat, l.countP (fun k => !(listed.setIfInBounds i true).getD k true) ≤ l.countP (fun k => !listed.getD k true) := fun l => by
    refine List.countP_mono_left fun k _ hk => ?_
    rw [hg] at hk
    by_cases hki : k = i
    · rw [if_pos hki] at hk; cases hk
    · rwa [if_neg hki] at hk
  have hmem : i ∈ List.range n := List.mem_range.2 hi
  obtain ⟨s, t, e⟩ := List.append_of_mem hmem
  rw [e, List.countP_append, List.countP_append, List.countP_cons, List.countP_cons]
  have h1 := hle s
  have h2 := hle t
  have h3 : (!(listed.setIfInBounds i true).getD i true) = false := by rw [hg, if_pos rfl]; rfl
  have h4 : (!listed.getD i true) = true := by rw [h]; rfl
  rw [h3, h4]
  simp only [Bool.false_eq_true, if_false, if_true]
  omega

theorem wpAny_inv (I : Array Bool → Act → World → Prop)
    (hstep : ∀ listed a w, I listed a w → ∀ i ∈ Region.ready md ops listed, wpOp P ops Q i (fun a' w' => I (listed.setIfInBounds i true) a' w') a w)
    (hend : ∀ listed a w, I listed a w → Region.ready md ops listed = [] → Q .normal a w) :
    ∀ fuel listed a w, unl ops.size listed ≤ fuel → I listed a w → wpAny P md ops Q fuel listed a w
  | 0, listed, a, w, hf, hI => by
    have hr : Region.ready md ops listed = [] := by
      rw [List.eq_nil_iff_forall_not_mem]
      intro i hi
      obtain ⟨h1, o, h2, _⟩ := mem_ready.1 hi
      have hlt : i < ops.size := (Array.getElem?_eq_some_iff.1 h2).1
      have := unl_step hlt h1
      omega
    exact ⟨hr, hend _ _ _ hI hr⟩
  | fuel + 1, listed, a, w, hf, hI => by
    refine ⟨fun hr => hend _ _ _ hI hr, fun i hi => ?_⟩
    obtain ⟨h1, o, h2, _⟩ := mem_ready.1 hi
    have hlt : i < ops.size := (Array.getElem?_eq_some_iff.1 h2).1
    have := unl_step hlt h1
    exact wpOp_mono (fun a' w' h => wpAny_inv I hstep hend fuel _ a' w' (by omega) h) (hstep listed a w hI i hi)

/-- All values of a region's operations put into a frame. -/
def putAll : Act → List Oper → (Nat → Value) → Nat → Act
  | a, [], _, _ => a
  | a, o :: l, vs, k => putAll (a.put o.dst (vs k)) l vs (k + 1)
theorem put_comm {a : Act} {d e : Option Tmp} {u v : Value} (h : d ≠ e ∨ d = none) : (a.put d u).put e v = (a.put e v).put d u := by
  cases d with
  | none => rfl
  | some d =>
    cases e with
    | none => rfl
    | some e =>
      have hne : d ≠ e := fun he => by rcases h with h | h <;> simp_all
      simp only [Act.put]
      rw [Array.setIfInBounds_comm _ _ hne]
theorem put_put {a : Act} {d : Option Tmp} {u v : Value} : (a.put d u).put d v = a.put d v := by
  cases d with
  | none => rfl
  | some d => simp [Act.put]
theorem putAll_put : ∀ (l : List Oper) (a : Act) (vs : Nat → Value) (k : Nat) (d : Option Tmp) (v : Value), (∀ o ∈ l, o.dst ≠ d ∨ o.dst = none) → (putAll a l vs k).put d v = putAll (a.put d v) l vs k
  | [], a, vs, k, d, v, h => rfl
  | o :: l, a, vs, k, d, v, h => by
    rw [putAll, putAll, putAll_put l _ vs (k + 1) d v (fun o ho => h o (List.mem_cons_of_mem _ ho)), put_comm (h o (List.mem_cons_self ..))]
theorem putAll_ext : ∀ (l : List Oper) (a : Act) (vs us : Nat → Value) (k : Nat), (∀ j, k ≤ j → j < k + l.length → vs j = us j) → putAll a l vs k = putAll a l us k
  | [], a, vs, us, k, h => rfl
  | o :: l, a, vs, us, k, h => by
    rw [putAll, putAll, h k (Nat.le_refl _) (by simp), putAll_ext l _ vs us (k + 1) fun j h1 h2 => h j (by omega) (by simp; omega)]
/-- The results lie in temporaries of their own. -/
def apartB : List Oper → Bool
  | [] => true
  | o :: l => (l.all fun p => p.dst != o.dst || p.dst == none) && apartB l
theorem putAll_at : ∀ (l : List Oper) (a : Act) (vs : Nat → Value) (k i : Nat) (o : Oper) (v : Value), apartB l = true → l[i]? = some o → (putAll a l vs k).put o.dst v = putAll a l (fun j => if j = k + i then v else vs j) k
  | [], _, _, _, _, _, _, _, h => by cases h
  | p :: l, a, vs, k, 0, o, v, hap, h => by
    obtain rfl : p = o := by simpa using h
    rw [apartB, Bool.and_eq_true] at hap
    rw [putAll, putAll, putAll_put l _ vs (k + 1) _ v (fun q hq => by
      have := List.all_eq_true.1 hap.1 q hq
      simpa using this), put_put]
    simp only [Nat.add_zero, if_true]
    exact putAll_ext l _ _ _ _ fun j h1 h2 => by rw [if_neg (by omega)]
  | p :: l, a, vs, k, i + 1, o, v, hap, h => by
    rw [apartB, Bool.and_eq_true] at hap
    rw [putAll, putAll, putAll_at l _ vs (k + 1) i o v hap.2 (by simpa using h)]
    rw [if_neg (by omega)]
    exact putAll_ext l _ _ _ _ fun j h1 h2 => by rw [show k + 1 + i = k + (i + 1) by omega]
/-- What a frame has there anyway. -/
def slots (a : Act) (l : List Oper) : Nat → Value := fun j => match (l[j]?).bind (·.dst) with
  | some d => a.tmps.getD d undef
  | none => undef
theorem put_own {a : Act} {d : Tmp} (h : d < a.tmps.size) : a.put (some d) (a.tmps.getD d undef) = a := by
  have e : a.tmps.setIfInBounds d (a.tmps.getD d undef) = a.tmps := by
    apply Array.ext
    · simp
    · intro i h1 h2
      rw [Array.getElem_setIfInBounds]
      split
      · rename_i e; subst e; simp 
      · rfl
  show { a with tmps := a.tmps.setIfInBounds d (a.tmps.getD d undef) } = a
  rw [e]
theorem putAll_slots : ∀ (l : List Oper) (a : Act) (vs : Nat → Value) (k : Nat), (∀ o ∈ l, ∀ d, o.dst = some d → d < a.tmps.size) → (∀ i o d, l[i]? = some o → o.dst = some d → vs (k + i) = a.tmps.getD d undef) → putAll a l vs k = a
  | [], a, vs, k, h, g => rfl
  | o :: l, a, vs, k, h, g => by
    have he : a.put o.dst (vs k) = a := by
      cases hd : o.dst with
      | none => rfl
      | some d =>
        have := g 0 o d rfl hd
        rw [Nat.add_zero] at this
        rw [this, put_own (h o (List.mem_cons_self ..) d hd)]
    rw [putAll, he]
    exact putAll_slots l a vs (k + 1) (fun p hp => h p (List.mem_cons_of_mem _ hp)) fun i p d hi hd => by rw [show k + 1 + i = k + (i + 1) by omega]; exact g (i + 1) p d (by simpa using hi) hd
/-- What an operation waits for, and that waits for. -/
def ups (md : Region.Mode) (l : List Oper) : Nat → List Nat → List Nat
  | 0, s => s
  | n + 1, s => ups md l n (s ++ s.flatMap fun i => match l[i]? with
      | some o => (o.after.toList.filter fun e => Region.binds md e).map (·.on)
      | none => [])
def Down (md : Region.Mode) (l : List Oper) (listed : Array Bool) : Prop := ∀ i o, l[i]? = some o → listed.getD i true = true → ∀ e ∈ o.after, Region.binds md e = true → listed.getD e.on false = true
theorem getD_true {listed : Array Bool} {i : Nat} (h : listed.getD i false = true) : listed.getD i true = true := by
  rw [Array.getD_eq_getD_getElem?] at h ⊢
  cases hx : listed[i]? with
  | none => rw [hx] at h; cases h
  | some x => rw [hx] at h; exact h
theorem ups_listed {l : List Oper} {listed : Array Bool} (hd : Down md l listed) : ∀ (n : Nat) (s : List Nat), (∀ i ∈ s, listed.getD i true = true) → ∀ i ∈ ups md l n s, listed.getD i true = true
  | 0, s, h, i, hi => h i hi
  | n + 1, s, h, i, hi => by
    refine ups_listed hd n _ (fun j hj => ?_) i hi
    rcases List.mem_append.1 hj with h1 | h1
    · exact h j h1
    · obtain ⟨k, hk, h2⟩ := List.mem_flatMap.1 h1
      cases ho : l[k]? with
      | none => rw [ho] at h2; cases h2
      | some o =>
        rw [ho] at h2
        obtain ⟨e, he, rfl⟩ := List.mem_map.1 h2
        obtain ⟨h3, h4⟩ := List.mem_filter.1 he
        exact getD_true (hd k o ho (h k hk) e (by simpa using h3) h4)
/-- What the law asks of a region's form: L is the last operation, all others come before it; no guards; each other one has a result, in a temporary of its own. -/
def formB (n : Nat) (l : List Oper) : Bool :=
  apartB l && (l.all fun o => o.guard.isNone) && ((l.take (l.length - 1)).all fun o => match o.dst with | some d => decide (d < n) | none => false) &&
  ((l[l.length - 1]?).map fun o => o.dst.isNone).getD false &&
  ((List.range l.length).all fun i => match l[i]? with | some o => o.after.all fun e => !Region.binds .any e || decide (e.on < i) | none => true) &&
  (List.range (l.length - 1)).all fun j => (ups .any l l.length (match l[l.length - 1]? with | some o => (o.after.toList.filter fun e => Region.binds .any e).map (·.on) | none => [])).contains j
/-- Which operations one waits for. -/
def waits (l : List Oper) (i j : Nat) : Bool := (ups .any l l.length (match l[i]? with | some o => (o.after.toList.filter fun e => Region.binds .any e).map (·.on) | none => [])).contains j
end
theorem least {p : Nat → Prop} (h : ∃ i, p i) : ∃ i, p i ∧ ∀ k, k < i → ¬ p k := by
  obtain ⟨i, hi⟩ := h
  induction i using Nat.strongRecOn with
  | _ i ih =>
    by_cases hx : ∃ k, k < i ∧ p k
    · obtain ⟨k, hk, hp⟩ := hx; exact ih k hk hp
    · exact ⟨i, hi, fun k hk hp => hx ⟨k, hk, hp⟩⟩
/-- What an operation of such a statement has to do: a value of which R is known, and new memory alone. -/
def Step (R : Nat → Value → World → Prop) (i : Nat) (W : World) (a : Act) (d : Tmp) : Act → World → Prop := fun a' W' => ∃ v, a' = a.put (some d) v ∧ R i v W' ∧ Below W.heap.size W W'
/-- **The law.** -/
theorem wp_region_grow {P : Program} {Q : Exit → Act → World → Prop} {id : Nat} {a : Act} {w : World} {l : List Oper} (hm : P.follows .mixedOrders = true) (C : Nat) (hC : C ≤ w.heap.size)
    (R : Nat → Value → World → Prop) (hR : ∀ i v W W', R i v W → Below W.heap.size W W' → R i v W')
    (hf : formB a.tmps.size l = true)
    (hstep : ∀ i o d, l[i]? = some o → o.dst = some d → ∀ (vs : Nat → Value) W, Below C w W → (∀ j, j < l.length - 1 → waits l i j = true → R j (vs j) W) →
      o.wp P (putAll a l vs 0) W (Step R i W (putAll a l vs 0) d) Q)
    (hlast : ∀ o, l[l.length - 1]? = some o → ∀ (vs : Nat → Value) W, Below C w W → (∀ j, j < l.length - 1 → R j (vs j) W) → o.wp P (putAll a l vs 0) W (fun a' W' => Q .normal a' W') Q) :
    (Code.region id l.toArray true).wp P Q a w := by
  unfold formB at hf
  simp only [Bool.and_eq_true] at hf
  obtain ⟨⟨⟨⟨⟨f1, f2⟩, f3⟩, f4⟩, f6⟩, f5⟩ := hf
  have hlen : 0 < l.length := by
    rcases l with _ | ⟨o, l⟩
    · cases f4
    · simp
  have hpn : l.toArray.size = l.length := by simp
  refine wp_region_any hm (wpAny_inv (fun listed a' W => listed.size = l.length ∧ ((listed.getD (l.length - 1) true = true ∧ (∀ i, i < l.length → listed.getD i true = true) ∧ Q .normal a' W) ∨
    (listed.getD (l.length - 1) true = false ∧ Down .any l listed ∧ ∃ vs, a' = putAll a l vs 0 ∧ Below C w W ∧ ∀ j, j < l.length - 1 → listed.getD j true = true → R j (vs j) W))) ?_ ?_ _ _ _ _ ?_ ?_)
  · rintro listed a' W ⟨hsz, h⟩ i hi
    obtain ⟨h1, o, h2, h3⟩ := mem_ready.1 hi
    rw [List.getElem?_toArray] at h2
    have hil : i < l.length := (List.getElem?_eq_some_iff.1 h2).1
    rcases h with ⟨_, h4, _⟩ | ⟨h4, hdn, vs, rfl, hb, hr⟩
    · rw [h4 i hil] at h1; cases h1
    have hset : ∀ k, (listed.setIfInBounds i true).getD k true = if k = i then true else listed.getD k true := fun k => by
      rw [Array.getD_eq_getD_getElem?, Array.getD_eq_getD_getElem?, Array.getElem?_setIfInBounds]
      by_cases hk : k = i
      · subst hk; simp [hsz, hil]
      · rw [if_neg (fun e => hk e.symm), if_neg hk]
    have hset' : ∀ k, listed.getD k false = true → (listed.setIfInBounds i true).getD k false = true := fun k hk => by
      rw [Array.getD_eq_getD_getElem?] at hk ⊢
      rw [Array.getElem?_setIfInBounds]
      by_cases hki : i = k
      · rw [if_pos hki]; subst hki; simp [hsz, hil]
      · rw [if_neg hki]; exact hk
    have hup : ∀ j ∈ ups .any l l.length (match l[i]? with | some o => (o.after.toList.filter fun e => Region.binds .any e).map (·.on) | none => []), listed.getD j true = true := by
      refine ups_listed hdn _ _ fun j hj => ?_
      rw [h2] at hj
      obtain ⟨e, he, rfl⟩ := List.mem_map.1 hj
      obtain ⟨g1, g2⟩ := List.mem_filter.1 he
      exact getD_true (h3 e (by simpa using g1) g2)
    have hdn' : Down .any l (listed.setIfInBounds i true) := fun k p hk hl e he hb2 => by
      rw [hset] at hl
      by_cases hki : k = i
      · subst hki
        obtain rfl : o = p := Option.some.inj (h2.symm.trans hk)
        exact hset' _ (h3 e he hb2)
      · rw [if_neg hki] at hl
        exact hset' _ (hdn k p hk hl e he hb2)
    have hgd : o.guard = none := by
      have := List.all_eq_true.1 f2 o (List.mem_of_getElem? h2)
      simpa using this
    unfold wpOp
    rw [List.getElem?_toArray, h2]
    simp only [Region.wanted, hgd, if_true]
    refine .inl ?_
    by_cases hiL : i = l.length - 1
    · subst hiL
      refine Oper.wp_mono (fun a2 W2 hq => ⟨by simp [hsz], .inl ⟨by rw [hset, if_pos rfl], fun k hk => ?_, hq⟩⟩) (hlast o h2 vs W hb fun j hj => hr j hj ?_)
      · rw [hset]
        by_cases hki : k = l.length - 1
        · rw [if_pos hki]
        · rw [if_neg hki]
          have := List.all_eq_true.1 f5 k (List.mem_range.2 (by omega))
          exact hup k (by simpa using this)
      · have := List.all_eq_true.1 f5 j (List.mem_range.2 hj)
        exact hup j (by simpa using this)
    · have hd3 := List.all_eq_true.1 f3 o (List.mem_of_getElem? (i := i) (by rw [List.getElem?_take_of_lt (by omega)]; exact h2))
      cases hd : o.dst with
      | none => rw [hd] at hd3; cases hd3
      | some d =>
        refine Oper.wp_mono (fun a2 W2 hq => ?_) (hstep i o d h2 hd vs W hb fun j hjL hj => ?_)
        · obtain ⟨v, rfl, hv, hb2⟩ := hq
          refine ⟨by simp [hsz], .inr ⟨by rw [hset, if_neg (fun e => hiL e.symm)]; exact h4, hdn', fun j => if j = i then v else vs j, ?_, hb.trans (hb2.mono (Nat.le_trans hC hb.size)), fun j hj hl => ?_⟩⟩
          · have := putAll_at l a vs 0 i o v f1 h2
            rw [Nat.zero_add, hd] at this
            exact this
          · by_cases hji : j = i
            · show R j (if j = i then v else vs j) W2
              rw [if_pos hji]; subst hji; exact hv
            · show R j (if j = i then v else vs j) W2
              rw [if_neg hji]
              rw [hset, if_neg hji] at hl
              exact hR _ _ _ _ (hr j hj hl) hb2
        · have hw : waits l i j = true := hj
          unfold waits at hw
          exact hr j hjL (hup j (by simpa using hw))
  · rintro listed a' W ⟨hsz, h⟩ hrd
    rcases h with ⟨_, _, hq⟩ | ⟨h4, hdn, vs, rfl, hb, hr⟩
    · exact hq
    · refine absurd hrd ?_
      -- the first one that hasn't come may come
      have hex : ∃ i, i < l.length ∧ listed.getD i true = false := ⟨l.length - 1, by omega, h4⟩
      obtain ⟨i, ⟨hlt, hun⟩, hmin⟩ := least hex
      have hm1 : i ∈ Region.ready .any l.toArray listed := by
        refine mem_ready.2 ⟨hun, l[i], by rw [List.getElem?_toArray, List.getElem?_eq_getElem hlt], fun e he hb2 => ?_⟩
        have h7 := List.all_eq_true.1 f6 i (List.mem_range.2 hlt)
        rw [List.getElem?_eq_getElem hlt] at h7
        have h8 := Array.all_eq_true_iff_forall_mem.1 h7 e he
        rw [hb2] at h8
        have h9 : e.on < i := by simpa using h8
        have h10 := hmin e.on h9
        have h11 : listed.getD e.on true = true := by
          cases hx : listed.getD e.on true with
          | true => rfl
          | false => exact absurd ⟨by omega, hx⟩ h10
        rw [Array.getD_eq_getD_getElem?] at h11 ⊢
        rw [Array.getElem?_eq_getElem (by omega)] at h11 ⊢
        exact h11
      intro e
      rw [e] at hm1
      cases hm1
  · rw [hpn]
    unfold unl
    exact Nat.le_trans List.countP_le_length (by simp)
  · refine ⟨by simp, .inr ⟨?_, ?_, slots a l, ?_, ?_, ?_⟩⟩
    · rw [Array.getD_eq_getD_getElem?, Array.getElem?_replicate, hpn, if_pos (by omega)]; rfl
    · intro i o ho hl
      have hil : i < l.length := (List.getElem?_eq_some_iff.1 ho).1
      rw [Array.getD_eq_getD_getElem?, Array.getElem?_replicate] at hl
      simp [hil] at hl
    · refine (putAll_slots l a (slots a l) 0 (fun o ho d hd => ?_) fun i o d hi hd => ?_).symm
      · obtain ⟨i, hi⟩ := List.getElem?_of_mem ho
        have hil : i < l.length := (List.getElem?_eq_some_iff.1 hi).1
        by_cases hiL : i = l.length - 1
        · subst hiL; rw [hi] at f4; simp [hd] at f4
        · have := List.all_eq_true.1 f3 o (List.mem_of_getElem? (i := i) (by rw [List.getElem?_take_of_lt (by omega)]; exact hi))
          rw [hd] at this
          simpa using this
      · unfold slots; rw [Nat.zero_add, hi]; simp [hd]
    · exact Below.drew (Below.refl _ _)
    · intro j hj hl
      rw [Array.getD_eq_getD_getElem?, Array.getElem?_replicate] at hl
      simp [show j < l.length by omega] at hl
end Go.Proofs.Ytkjgdnfkpebejaa.Rg

/-
A statement whose order Go leaves open: its first operations only make new memory, what stands behind them goes in its order. Each operation is looked at once. No condition.
-/
namespace Go.Proofs.Ytkjgdnfkpebejaa.Rg
open Go Go.RowKit

/-- What the second law asks of a region's form: the first L operations have results of their own and no guard; each one behind waits for all that stand ahead of it. -/
def formT (n : Nat) (l : List Oper) (L : Nat) : Bool :=
  apartB (l.take L) && ((l.take L).all fun o => o.guard.isNone) && ((l.take L).all fun o => match o.dst with | some d => decide (d < n) | none => false) && decide (L ≤ l.length) &&
  ((List.range l.length).all fun i => match l[i]? with | some o => o.after.all fun e => !Region.binds .any e || decide (e.on < i) | none => true) &&
  (List.range l.length).all fun i => decide (i < L) || (List.range i).all fun j => waits l i j
theorem waits_listed {l : List Oper} {listed : Array Bool} (hd : Down .any l listed) {i j : Nat} (hw : waits l i j = true) (hi : i ∈ Region.ready .any l.toArray listed) : listed.getD j true = true := by
  obtain ⟨_, o, h2, h3⟩ := mem_ready.1 hi
  rw [List.getElem?_toArray] at h2
  unfold waits at hw
  refine ups_listed hd l.length _ (fun k hk => ?_) j (by simpa using hw)
  rw [h2] at hk
  obtain ⟨e, he, rfl⟩ := List.mem_map.1 hk
  obtain ⟨g1, g2⟩ := List.mem_filter.1 he
  exact getD_true (h3 e (by simpa using g1) g2)
theorem ready_least {l : List Oper} {listed : Array Bool} (hsz : listed.size = l.length) (hb : ∀ i o, l[i]? = some o → ∀ e ∈ o.after, Region.binds .any e = true → e.on < i) {i : Nat} (hlt : i < l.length) (hun : listed.getD i true = false) (hmin : ∀ k, k < i → listed.getD k true = true) :
    i ∈ Region.ready .any l.toArray listed := by
  refine mem_ready.2 ⟨hun, l[i], by rw [List.getElem?_toArray, List.getElem?_eq_getElem hlt], fun e he hb2 => ?_⟩
  have h9 := hb i l[i] (List.getElem?_eq_getElem hlt) e he hb2
  have h11 := hmin e.on h9
  rw [Array.getD_eq_getD_getElem?] at h11 ⊢
  rw [Array.getElem?_eq_getElem (by omega)] at h11 ⊢
  exact h11
/-- **The second law**: what stands behind the first L operations goes in its order. -/
theorem wp_region_tail {P : Program} {Q : Exit → Act → World → Prop} {id : Nat} {a : Act} {w : World} {l : List Oper} (L : Nat) (hm : P.follows .mixedOrders = true) (C : Nat) (hC : C ≤ w.heap.size)
    (R : Nat → Value → World → Prop) (hR : ∀ i v W W', R i v W → Below W.heap.size W W' → R i v W')
    (hf : formT a.tmps.size l L = true)
    (hstep : ∀ i o d, i < L → l[i]? = some o → o.dst = some d → ∀ (vs : Nat → Value) W, Below C w W → (∀ j, j < L → waits l i j = true → R j (vs j) W) →
      o.wp P (putAll a (l.take L) vs 0) W (Step R i W (putAll a (l.take L) vs 0) d) Q)
    (hlast : ∀ (vs : Nat → Value) W, Below C w W → (∀ j, j < L → R j (vs j) W) → wpList P l.toArray Q (l.drop L) (putAll a (l.take L) vs 0) W) :
    (Code.region id l.toArray true).wp P Q a w := by
  unfold formT at hf
  simp only [Bool.and_eq_true] at hf
  obtain ⟨⟨⟨⟨⟨f1, f2⟩, f3⟩, f4⟩, f6⟩, f5⟩ := hf
  have hLn : L ≤ l.length := of_decide_eq_true f4
  have hback : ∀ i o, l[i]? = some o → ∀ e ∈ o.after, Region.binds .any e = true → e.on < i := fun i o ho e he hb2 => by
    have h7 := List.all_eq_true.1 f6 i (List.mem_range.2 (List.getElem?_eq_some_iff.1 ho).1)
    rw [ho] at h7
    have h8 := Array.all_eq_true_iff_forall_mem.1 h7 e he
    rw [hb2] at h8
    simpa using h8
  have htail : ∀ i j, L ≤ i → i < l.length → j < i → waits l i j = true := fun i j h1 h2 h3 => by
    have h7 := List.all_eq_true.1 f5 i (List.mem_range.2 h2)
    rcases Bool.or_eq_true_iff.1 h7 with h8 | h8
    · have := of_decide_eq_true h8; omega
    · exact List.all_eq_true.1 h8 j (List.mem_range.2 h3)
  have hpn : l.toArray.size = l.length := by simp
  have hop : ∀ (i : Nat) (o : Oper) (a' : Act) (W : World) (K : Act → World → Prop), l[i]? = some o → wpList P l.toArray Q (l.drop i) a' W → (∀ a2 W2, wpList P l.toArray Q (l.drop (i + 1)) a2 W2 → K a2 W2) → wpOp P l.toArray Q i K a' W := fun i o a' W K ho hw hk => by
    have hlt : i < l.length := (List.getElem?_eq_some_iff.1 ho).1
    have e : l.drop i = o :: l.drop (i + 1) := by
      rw [List.drop_eq_getElem_cons hlt]
      rw [List.getElem?_eq_getElem hlt] at ho
      rw [Option.some.inj ho]
    rw [e] at hw
    unfold wpList at hw
    unfold wpOp
    rw [List.getElem?_toArray, ho]
    show if Region.wanted o (yielded l.toArray a'.tmps) = true then _ else _
    split
    · rename_i hwt
      rw [if_pos hwt] at hw
      exact hw.imp (Oper.wp_mono hk) (fun h => h)
    · rename_i hwt
      rw [if_neg hwt] at hw
      exact hk _ _ hw
  refine wp_region_any hm (wpAny_inv (fun listed a' W => listed.size = l.length ∧ ((∃ i, L ≤ i ∧ i ≤ l.length ∧ (∀ k, k < l.length → listed.getD k true = decide (k < i)) ∧ wpList P l.toArray Q (l.drop i) a' W) ∨
    ((∀ k, L ≤ k → k < l.length → listed.getD k true = false) ∧ Down .any l listed ∧ ∃ vs, a' = putAll a (l.take L) vs 0 ∧ Below C w W ∧ ∀ j, j < L → listed.getD j true = true → R j (vs j) W))) ?_ ?_ _ _ _ _ ?_ ?_)
  · rintro listed a' W ⟨hsz, h⟩ i hi
    obtain ⟨h1, o, h2, h3⟩ := mem_ready.1 hi
    rw [List.getElem?_toArray] at h2
    have hil : i < l.length := (List.getElem?_eq_some_iff.1 h2).1
    have hset : ∀ k, (listed.setIfInBounds i true).getD k true = if k = i then true else listed.getD k true := fun k => by
      rw [Array.getD_eq_getD_getElem?, Array.getD_eq_getD_getElem?, Array.getElem?_setIfInBounds]
      by_cases hk : k = i
      · subst hk; simp [hsz, hil]
      · rw [if_neg (fun e => hk e.symm), if_neg hk]
    have hset' : ∀ k, listed.getD k false = true → (listed.setIfInBounds i true).getD k false = true := fun k hk => by
      rw [Array.getD_eq_getD_getElem?] at hk ⊢
      rw [Array.getElem?_setIfInBounds]
      by_cases hki : i = k
      · rw [if_pos hki]; subst hki; simp [hsz, hil]
      · rw [if_neg hki]; exact hk
    have hnext : ∀ i0, i = i0 → (∀ k, k < l.length → listed.getD k true = decide (k < i0)) → ∀ k, k < l.length → (listed.setIfInBounds i true).getD k true = decide (k < i0 + 1) := fun i0 e hk k hkl => by
      rw [hset]
      by_cases hki : k = i
      · rw [if_pos hki]; simp; omega
      · rw [if_neg hki, hk k hkl]
        by_cases hlt : k < i0
        · simp [hlt]; omega
        · simp [hlt]; omega
    rcases h with ⟨i0, hL0, hn0, hlst, hwp⟩ | ⟨h4, hdn, vs, rfl, hb, hr⟩
    · have hdn : Down .any l listed := fun k p hk hl e he hb2 => by
        have hkl : k < l.length := (List.getElem?_eq_some_iff.1 hk).1
        have h9 := hback k p hk e he hb2
        rw [hlst k hkl] at hl
        have hl' := of_decide_eq_true hl
        have h10 := hlst e.on (by omega)
        rw [Array.getD_eq_getD_getElem?, Array.getElem?_eq_getElem (by omega)] at h10 ⊢
        rw [show (decide (e.on < i0)) = true from by simp; omega] at h10
        exact h10
      have hi0 : ¬ i < i0 := fun hc => by rw [hlst i hil] at h1; simp [hc] at h1
      have hii : i = i0 := Classical.byContradiction fun hne => by
        have := waits_listed hdn (htail i i0 (by omega) hil (by omega)) hi
        rw [hlst i0 (by omega)] at this
        simp at this
      refine hop i o a' W _ h2 (by rw [hii]; exact hwp) fun a2 W2 hw2 => ⟨by simp [hsz], .inl ⟨i0 + 1, by omega, by omega, hnext i0 hii hlst, by rw [← hii]; exact hw2⟩⟩
    · by_cases hiL : i < L
      · have hgd : o.guard = none := by
          have := List.all_eq_true.1 f2 o (List.mem_of_getElem? (i := i) (by rw [List.getElem?_take_of_lt hiL]; exact h2))
          simpa using this
        have hd3 := List.all_eq_true.1 f3 o (List.mem_of_getElem? (i := i) (by rw [List.getElem?_take_of_lt hiL]; exact h2))
        unfold wpOp
        rw [List.getElem?_toArray, h2]
        simp only [Region.wanted, hgd, if_true]
        refine .inl ?_
        have hdn' : Down .any l (listed.setIfInBounds i true) := fun k p hk hl e he hb2 => by
          rw [hset] at hl
          by_cases hki : k = i
          · subst hki
            obtain rfl : o = p := Option.some.inj (h2.symm.trans hk)
            exact hset' _ (h3 e he hb2)
          · rw [if_neg hki] at hl
            exact hset' _ (hdn k p hk hl e he hb2)
        cases hd : o.dst with
        | none => rw [hd] at hd3; cases hd3
        | some d =>
          refine Oper.wp_mono (fun a2 W2 hq => ?_) (hstep i o d hiL h2 hd vs W hb fun j hjL hj => hr j hjL (waits_listed hdn hj hi))
          obtain ⟨v, rfl, hv, hb2⟩ := hq
          refine ⟨by simp [hsz], .inr ⟨fun k hk hkl => by rw [hset, if_neg (by omega)]; exact h4 k hk hkl, hdn', fun j => if j = i then v else vs j, ?_, hb.trans (hb2.mono (Nat.le_trans hC hb.size)), fun j hj hl => ?_⟩⟩
          · have := putAll_at (l.take L) a vs 0 i o v f1 (by rw [List.getElem?_take_of_lt hiL]; exact h2)
            rw [Nat.zero_add, hd] at this
            exact this
          · by_cases hji : j = i
            · show R j (if j = i then v else vs j) W2
              rw [if_pos hji]; subst hji; exact hv
            · show R j (if j = i then v else vs j) W2
              rw [if_neg hji]
              rw [hset, if_neg hji] at hl
              exact hR _ _ _ _ (hr j hj hl) hb2
      · have hall : ∀ j, j < i → listed.getD j true = true := fun j hj => waits_listed hdn (htail i j (by omega) hil hj) hi
        have hii : i = L := Classical.byContradiction fun hne => by
          have := hall L (by omega)
          rw [h4 L (Nat.le_refl _) (by omega)] at this
          cases this
        subst hii
        refine hop i o _ W _ h2 (hlast vs W hb fun j hj => hr j hj (hall j hj)) fun a2 W2 hw2 => ⟨by simp [hsz], .inl ⟨i + 1, by omega, by omega, hnext i rfl (fun k hkl => ?_), hw2⟩⟩
        by_cases hki : k < i
        · rw [hall k hki]; simp [hki]
        · rw [h4 k (by omega) hkl]; simp [hki]
  · rintro listed a' W ⟨hsz, h⟩ hrd
    rcases h with ⟨i0, hL0, hn0, hlst, hwp⟩ | ⟨h4, hdn, vs, rfl, hb, hr⟩
    · by_cases hlt : i0 < l.length
      · have := ready_least hsz hback hlt (by rw [hlst i0 hlt]; simp) (fun k hk => by rw [hlst k (by omega)]; simp [hk])
        rw [hrd] at this
        cases this
      · rw [List.drop_eq_nil_of_le (by omega)] at hwp
        exact hwp
    · by_cases hex : ∃ i, i < l.length ∧ listed.getD i true = false
      · obtain ⟨i, ⟨hlt, hun⟩, hmin⟩ := least hex
        have := ready_least hsz hback hlt hun fun k hk => by
          cases hx : listed.getD k true with
          | true => rfl
          | false => exact absurd ⟨by omega, hx⟩ (hmin k hk)
        rw [hrd] at this
        cases this
      · have hall : ∀ j, j < l.length → listed.getD j true = true := fun j hj => by
          cases hx : listed.getD j true with
          | true => rfl
          | false => exact absurd ⟨j, hj, hx⟩ hex
        have hLe : L = l.length := Classical.byContradiction fun hne => by
          have := hall L (by omega)
          rw [h4 L (Nat.le_refl _) (by omega)] at this
          cases this
        have := hlast vs W hb fun j hj => hr j hj (hall j (by omega))
        rw [List.drop_eq_nil_of_le (by omega)] at this
        exact this
  · rw [hpn]
    unfold unl
    exact Nat.le_trans List.countP_le_length (by simp)
  · refine ⟨by simp, .inr ⟨?_, ?_, slots a (l.take L), ?_, ?_, ?_⟩⟩
    · intro k _ hkl
      rw [Array.getD_eq_getD_getElem?, Array.getElem?_replicate, hpn, if_pos hkl]; rfl
    · intro i o ho hl
      have hil : i < l.length := (List.getElem?_eq_some_iff.1 ho).1
      rw [Array.getD_eq_getD_getElem?, Array.getElem?_replicate] at hl
      simp [hil] at hl
    · refine (putAll_slots (l.take L) a (slots a (l.take L)) 0 (fun o ho d hd => ?_) fun i o d hi hd => ?_).symm
      · have := List.all_eq_true.1 f3 o ho
        rw [hd] at this
        simpa using this
      · unfold slots; rw [Nat.zero_add, hi]; simp [hd]
    · exact Below.drew (Below.refl _ _)
    · intro j hj hl
      rw [Array.getD_eq_getD_getElem?, Array.getElem?_replicate] at hl
      simp [show j < l.length by omega] at hl
theorem ups_below {l : List Oper} (hb : ∀ i o, l[i]? = some o → ∀ e ∈ o.after, Region.binds .any e = true → e.on < i) : ∀ (n : Nat) (s : List Nat), (∀ i ∈ s, i < l.length) → ∀ i ∈ ups .any l n s, i < l.length
  | 0, s, h, i, hi => h i hi
  | n + 1, s, h, i, hi => by
    refine ups_below hb n _ (fun j hj => ?_) i hi
    rcases List.mem_append.1 hj with h1 | h1
    · exact h j h1
    · obtain ⟨k, hk, h2⟩ := List.mem_flatMap.1 h1
      cases ho : l[k]? with
      | none => rw [ho] at h2; cases h2
      | some o =>
        rw [ho] at h2
        obtain ⟨e, he, rfl⟩ := List.mem_map.1 h2
        obtain ⟨h3, h4⟩ := List.mem_filter.1 he
        have := hb k o ho e (by simpa using h3) h4
        have := h k hk
        omega
/-- What the third law asks: results in temporaries of their own, no guard, edges backward; the operation s alone has no result. -/
def formS (n : Nat) (l : List Oper) (s : Nat) : Bool :=
  apartB l && (l.all fun o => o.guard.isNone) && ((List.range l.length).all fun i => match l[i]? with | some o => (match o.dst with | some d => decide (d < n) && decide (i ≠ s) | none => decide (i = s)) | none => true) &&
  ((List.range l.length).all fun i => match l[i]? with | some o => o.after.all fun e => !Region.binds .any e || decide (e.on < i) | none => true)
/-- What a read has to do, and what the store. -/
def StepR (R : Nat → Value → Prop) (i : Nat) (W : World) (a : Act) (d : Tmp) : Act → World → Prop := fun a' W' => ∃ v, a' = a.put (some d) v ∧ R i v ∧ W' = W
def StepS (a : Act) (w1 : World) : Act → World → Prop := fun a' W' => a' = a ∧ W' = w1
/-- **The third law**: reads, and one store that they don't look at: two worlds alone. -/
theorem wp_region_store {P : Program} {Q : Exit → Act → World → Prop} {id : Nat} {a : Act} {w : World} {l : List Oper} (s : Nat) (hm : P.follows .mixedOrders = true) (w1 : World)
    (R : Nat → Value → Prop) (hf : formS a.tmps.size l s = true) (hs : s < l.length)
    (hstep : ∀ i o d, i ≠ s → l[i]? = some o → o.dst = some d → ∀ (vs : Nat → Value) W, (W = w.drew ∨ W = w1) → (∀ j, j ≠ s → waits l i j = true → R j (vs j)) →
      o.wp P (putAll a l vs 0) W (StepR R i W (putAll a l vs 0) d) Q)
    (hstore : ∀ o, l[s]? = some o → ∀ (vs : Nat → Value), (∀ j, j ≠ s → waits l s j = true → R j (vs j)) → o.wp P (putAll a l vs 0) w.drew (StepS (putAll a l vs 0) w1) Q)
    (hend : ∀ (vs : Nat → Value), (∀ j, j < l.length → j ≠ s → R j (vs j)) → Q .normal (putAll a l vs 0) w1) :
    (Code.region id l.toArray true).wp P Q a w := by
  unfold formS at hf
  simp only [Bool.and_eq_true] at hf
  obtain ⟨⟨⟨f1, f2⟩, f3⟩, f6⟩ := hf
  have hback : ∀ i o, l[i]? = some o → ∀ e ∈ o.after, Region.binds .any e = true → e.on < i := fun i o ho e he hb2 => by
    have h7 := List.all_eq_true.1 f6 i (List.mem_range.2 (List.getElem?_eq_some_iff.1 ho).1)
    rw [ho] at h7
    have h8 := Array.all_eq_true_iff_forall_mem.1 h7 e he
    rw [hb2] at h8
    simpa using h8
  have hdst : ∀ i o, l[i]? = some o → (i = s ∧ o.dst = none) ∨ (i ≠ s ∧ ∃ d, o.dst = some d ∧ d < a.tmps.size) := fun i o ho => by
    have h7 := List.all_eq_true.1 f3 i (List.mem_range.2 (List.getElem?_eq_some_iff.1 ho).1)
    rw [ho] at h7
    dsimp only at h7
    cases hd : o.dst with
    | none => rw [hd] at h7; exact .inl ⟨by simpa using h7, rfl⟩
    | some d => rw [hd] at h7; simp at h7; exact .inr ⟨h7.2, d, rfl, h7.1⟩
  have hpn : l.toArray.size = l.length := by simp
  refine wp_region_any hm (wpAny_inv (fun listed a' W => listed.size = l.length ∧ Down .any l listed ∧ ((listed.getD s true = false ∧ W = w.drew) ∨ (listed.getD s true = true ∧ W = w1)) ∧ ∃ vs, a' = putAll a l vs 0 ∧ ∀ j, j < l.length → j ≠ s → listed.getD j true = true → R j (vs j)) ?_ ?_ _ _ _ _ ?_ ?_)
  · rintro listed a' W ⟨hsz, hdn, hW, vs, rfl, hr⟩ i hi
    obtain ⟨h1, o, h2, h3⟩ := mem_ready.1 hi
    rw [List.getElem?_toArray] at h2
    have hil : i < l.length := (List.getElem?_eq_some_iff.1 h2).1
    have hset : ∀ k, (listed.setIfInBounds i true).getD k true = if k = i then true else listed.getD k true := fun k => by
      rw [Array.getD_eq_getD_getElem?, Array.getD_eq_getD_getElem?, Array.getElem?_setIfInBounds]
      by_cases hk : k = i
      · subst hk; simp [hsz, hil]
      · rw [if_neg (fun e => hk e.symm), if_neg hk]
    have hset' : ∀ k, listed.getD k false = true → (listed.setIfInBounds i true).getD k false = true := fun k hk => by
      rw [Array.getD_eq_getD_getElem?] at hk ⊢
      rw [Array.getElem?_setIfInBounds]
      by_cases hki : i = k
      · rw [if_pos hki]; subst hki; simp [hsz, hil]
      · rw [if_neg hki]; exact hk
    have hdn' : Down .any l (listed.setIfInBounds i true) := fun k p hk hl e he hb2 => by
      rw [hset] at hl
      by_cases hki : k = i
      · subst hki
        obtain rfl : o = p := Option.some.inj (h2.symm.trans hk)
        exact hset' _ (h3 e he hb2)
      · rw [if_neg hki] at hl
        exact hset' _ (hdn k p hk hl e he hb2)
    have hgd : o.guard = none := by
      have := List.all_eq_true.1 f2 o (List.mem_of_getElem? h2)
      simpa using this
    have hlow : ∀ j, waits l i j = true → j < l.length := fun j hj => by
      unfold waits at hj
      refine ups_below hback l.length _ (fun k hk => ?_) j (by simpa using hj)
      rw [h2] at hk
      obtain ⟨e, he, rfl⟩ := List.mem_map.1 hk
      obtain ⟨g1, g2⟩ := List.mem_filter.1 he
      have := hback i o h2 e (by simpa using g1) g2
      omega
    have hdeps : ∀ j, j ≠ s → waits l i j = true → R j (vs j) := fun j hj hw => hr j (hlow j hw) hj (waits_listed hdn hw hi)
    unfold wpOp
    rw [List.getElem?_toArray, h2]
    simp only [Region.wanted, hgd, if_true]
    refine .inl ?_
    rcases hdst i o h2 with ⟨his, hd⟩ | ⟨his, d, hd, _⟩
    · have hWd : W = w.drew := by
        rcases hW with ⟨_, e⟩ | ⟨e, _⟩
        · exact e
        · rw [← his, h1] at e; cases e
      subst hWd
      refine Oper.wp_mono (fun a2 W2 hq => ?_) (hstore o (by rw [← his]; exact h2) vs fun j hj hw => hdeps j hj (by rw [his]; exact hw))
      obtain ⟨rfl, rfl⟩ := hq
      exact ⟨by simp [hsz], hdn', .inr ⟨by rw [hset, if_pos his.symm], rfl⟩, vs, rfl, fun j hj hjs hl => hr j hj hjs (by rw [hset, if_neg (by omega)] at hl; exact hl)⟩
    · refine Oper.wp_mono (fun a2 W2 hq => ?_) (hstep i o d his h2 hd vs W (hW.imp (·.2) (·.2)) hdeps)
      obtain ⟨v, rfl, hv, rfl⟩ := hq
      refine ⟨by simp [hsz], hdn', ?_, fun j => if j = i then v else vs j, ?_, fun j hj hjs hl => ?_⟩
      · rw [hset, if_neg (fun e => his e.symm)]; exact hW
      · have := putAll_at l a vs 0 i o v f1 h2
        rw [Nat.zero_add, hd] at this
        exact this
      · by_cases hji : j = i
        · show R j (if j = i then v else vs j)
          rw [if_pos hji]; subst hji; exact hv
        · show R j (if j = i then v else vs j)
          rw [if_neg hji]
          rw [hset, if_neg hji] at hl
          exact hr j hj hjs hl
  · rintro listed a' W ⟨hsz, hdn, hW, vs, rfl, hr⟩ hrd
    have hall : ∀ j, j < l.length → listed.getD j true = true := fun j hj => Classical.byContradiction fun hc => by
      have hex : ∃ i, i < l.length ∧ listed.getD i true = false := ⟨j, hj, by simpa using hc⟩
      obtain ⟨i, ⟨hlt, hun⟩, hmin⟩ := least hex
      have := ready_least hsz hback hlt hun fun k hk => by
        cases hx : listed.getD k true with
        | true => rfl
        | false => exact absurd ⟨by omega, hx⟩ (hmin k hk)
      rw [hrd] at this
      cases this
    have hW1 : W = w1 := by
      rcases hW with ⟨e, _⟩ | ⟨_, e⟩
      · rw [hall s hs] at e; cases e
      · exact e
    subst hW1
    exact hend vs fun j hj hjs => hr j hj hjs (hall j hj)
  · rw [hpn]
    unfold unl
    exact Nat.le_trans List.countP_le_length (by simp)
  · refine ⟨by simp, ?_, .inl ⟨?_, rfl⟩, slots a l, ?_, ?_⟩
    · intro i o ho hl
      have hil : i < l.length := (List.getElem?_eq_some_iff.1 ho).1
      rw [Array.getD_eq_getD_getElem?, Array.getElem?_replicate] at hl
      simp [hil] at hl
    · rw [Array.getD_eq_getD_getElem?, Array.getElem?_replicate, hpn, if_pos hs]; rfl
    · refine (putAll_slots l a (slots a l) 0 (fun o ho d hd => ?_) fun i o d hi hd => ?_).symm
      · obtain ⟨i, hi⟩ := List.getElem?_of_mem ho
        rcases hdst i o hi with ⟨_, e⟩ | ⟨_, d', e, h⟩
        · rw [hd] at e; cases e
        · rw [hd] at e; cases e; exact h
      · unfold slots; rw [Nat.zero_add, hi]; simp [hd]
    · intro j hj hjs hl
      rw [Array.getD_eq_getD_getElem?, Array.getElem?_replicate] at hl
      simp [hj] at hl
/-- What the fourth law asks:  the first L operations have results of their own; each one behind waits for all that stand ahead of it. -/
def formG (n : Nat) (l : List Oper) (L : Nat) : Bool :=
  apartB (l.take L) && ((l.take L).all fun o => match o.dst with | some d => decide (d < n) | none => false) && decide (L ≤ l.length) &&
  ((List.range l.length).all fun i => match l[i]? with | some o => o.after.all fun e => !Region.binds .any e || decide (e.on < i) | none => true) &&
  (List.range l.length).all fun i => decide (i < L) || (List.range i).all fun j => waits l i j
/-- **The fourth law**: as the second, where the first L operations may have guards. -/
theorem wp_region_guard {P : Program} {Q : Exit → Act → World → Prop} {id : Nat} {a : Act} {w : World} {l : List Oper} (L : Nat) (hm : P.follows .mixedOrders = true) (C : Nat) (hC : C ≤ w.heap.size)
    (R : Nat → Value → World → Prop) (hR : ∀ i v W W', R i v W → Below W.heap.size W W' → R i v W')
    (hf : formG a.tmps.size l L = true)
    (hstep : ∀ i o d, i < L → l[i]? = some o → o.dst = some d → ∀ (vs : Nat → Value) W, Below C w W → (∀ j, j < L → waits l i j = true → R j (vs j) W) →
      wpOp P l.toArray Q i (Step R i W (putAll a (l.take L) vs 0) d) (putAll a (l.take L) vs 0) W)
    (hlast : ∀ (vs : Nat → Value) W, Below C w W → (∀ j, j < L → R j (vs j) W) → wpList P l.toArray Q (l.drop L) (putAll a (l.take L) vs 0) W) :
    (Code.region id l.toArray true).wp P Q a w := by
  unfold formG at hf
  simp only [Bool.and_eq_true] at hf
  obtain ⟨⟨⟨⟨f1, f3⟩, f4⟩, f6⟩, f5⟩ := hf
  have hLn : L ≤ l.length := of_decide_eq_true f4
  have hback : ∀ i o, l[i]? = some o → ∀ e ∈ o.after, Region.binds .any e = true → e.on < i := fun i o ho e he hb2 => by
    have h7 := List.all_eq_true.1 f6 i (List.mem_range.2 (List.getElem?_eq_some_iff.1 ho).1)
    rw [ho] at h7
    have h8 := Array.all_eq_true_iff_forall_mem.1 h7 e he
    rw [hb2] at h8
    simpa using h8
  have htail : ∀ i j, L ≤ i → i < l.length → j < i → waits l i j = true := fun i j h1 h2 h3 => by
    have h7 := List.all_eq_true.1 f5 i (List.mem_range.2 h2)
    rcases Bool.or_eq_true_iff.1 h7 with h8 | h8
    · have := of_decide_eq_true h8; omega
    · exact List.all_eq_true.1 h8 j (List.mem_range.2 h3)
  have hpn : l.toArray.size = l.length := by simp
  have hop : ∀ (i : Nat) (o : Oper) (a' : Act) (W : World) (K : Act → World → Prop), l[i]? = some o → wpList P l.toArray Q (l.drop i) a' W → (∀ a2 W2, wpList P l.toArray Q (l.drop (i + 1)) a2 W2 → K a2 W2) → wpOp P l.toArray Q i K a' W := fun i o a' W K ho hw hk => by
    have hlt : i < l.length := (List.getElem?_eq_some_iff.1 ho).1
    have e : l.drop i = o :: l.drop (i + 1) := by
      rw [List.drop_eq_getElem_cons hlt]
      rw [List.getElem?_eq_getElem hlt] at ho
      rw [Option.some.inj ho]
    rw [e] at hw
    unfold wpList at hw
    unfold wpOp
    rw [List.getElem?_toArray, ho]
    show if Region.wanted o (yielded l.toArray a'.tmps) = true then _ else _
    split
    · rename_i hwt
      rw [if_pos hwt] at hw
      exact hw.imp (Oper.wp_mono hk) (fun h => h)
    · rename_i hwt
      rw [if_neg hwt] at hw
      exact hk _ _ hw
  refine wp_region_any hm (wpAny_inv (fun listed a' W => listed.size = l.length ∧ ((∃ i, L ≤ i ∧ i ≤ l.length ∧ (∀ k, k < l.length → listed.getD k true = decide (k < i)) ∧ wpList P l.toArray Q (l.drop i) a' W) ∨
    ((∀ k, L ≤ k → k < l.length → listed.getD k true = false) ∧ Down .any l listed ∧ ∃ vs, a' = putAll a (l.take L) vs 0 ∧ Below C w W ∧ ∀ j, j < L → listed.getD j true = true → R j (vs j) W))) ?_ ?_ _ _ _ _ ?_ ?_)
  · rintro listed a' W ⟨hsz, h⟩ i hi
    obtain ⟨h1, o, h2, h3⟩ := mem_ready.1 hi
    rw [List.getElem?_toArray] at h2
    have hil : i < l.length := (List.getElem?_eq_some_iff.1 h2).1
    have hset : ∀ k, (listed.setIfInBounds i true).getD k true = if k = i then true else listed.getD k true := fun k => by
      rw [Array.getD_eq_getD_getElem?, Array.getD_eq_getD_getElem?, Array.getElem?_setIfInBounds]
      by_cases hk : k = i
      · subst hk; simp [hsz, hil]
      · rw [if_neg (fun e => hk e.symm), if_neg hk]
    have hset' : ∀ k, listed.getD k false = true → (listed.setIfInBounds i true).getD k false = true := fun k hk => by
      rw [Array.getD_eq_getD_getElem?] at hk ⊢
      rw [Array.getElem?_setIfInBounds]
      by_cases hki : i = k
      · rw [if_pos hki]; subst hki; simp [hsz, hil]
      · rw [if_neg hki]; exact hk
    have hnext : ∀ i0, i = i0 → (∀ k, k < l.length → listed.getD k true = decide (k < i0)) → ∀ k, k < l.length → (listed.setIfInBounds i true).getD k true = decide (k < i0 + 1) := fun i0 e hk k hkl => by
      rw [hset]
      by_cases hki : k = i
      · rw [if_pos hki]; simp; omega
      · rw [if_neg hki, hk k hkl]
        by_cases hlt : k < i0
        · simp [hlt]; omega
        · simp [hlt]; omega
    rcases h with ⟨i0, hL0, hn0, hlst, hwp⟩ | ⟨h4, hdn, vs, rfl, hb, hr⟩
    · have hdn : Down .any l listed := fun k p hk hl e he hb2 => by
        have hkl : k < l.length := (List.getElem?_eq_some_iff.1 hk).1
        have h9 := hback k p hk e he hb2
        rw [hlst k hkl] at hl
        have hl' := of_decide_eq_true hl
        have h10 := hlst e.on (by omega)
        rw [Array.getD_eq_getD_getElem?, Array.getElem?_eq_getElem (by omega)] at h10 ⊢
        rw [show (decide (e.on < i0)) = true from by simp; omega] at h10
        exact h10
      have hi0 : ¬ i < i0 := fun hc => by rw [hlst i hil] at h1; simp [hc] at h1
      have hii : i = i0 := Classical.byContradiction fun hne => by
        have := waits_listed hdn (htail i i0 (by omega) hil (by omega)) hi
        rw [hlst i0 (by omega)] at this
        simp at this
      refine hop i o a' W _ h2 (by rw [hii]; exact hwp) fun a2 W2 hw2 => ⟨by simp [hsz], .inl ⟨i0 + 1, by omega, by omega, hnext i0 hii hlst, by rw [← hii]; exact hw2⟩⟩
    · by_cases hiL : i < L
      · have hd3 := List.all_eq_true.1 f3 o (List.mem_of_getElem? (i := i) (by rw [List.getElem?_take_of_lt hiL]; exact h2))
        have hdn' : Down .any l (listed.setIfInBounds i true) := fun k p hk hl e he hb2 => by
          rw [hset] at hl
          by_cases hki : k = i
          · subst hki
            obtain rfl : o = p := Option.some.inj (h2.symm.trans hk)
            exact hset' _ (h3 e he hb2)
          · rw [if_neg hki] at hl
            exact hset' _ (hdn k p hk hl e he hb2)
        cases hd : o.dst with
        | none => rw [hd] at hd3; cases hd3
        | some d =>
          refine wpOp_mono (fun a2 W2 hq => ?_) (hstep i o d hiL h2 hd vs W hb fun j hjL hj => hr j hjL (waits_listed hdn hj hi))
          obtain ⟨v, rfl, hv, hb2⟩ := hq
          refine ⟨by simp [hsz], .inr ⟨fun k hk hkl => by rw [hset, if_neg (by omega)]; exact h4 k hk hkl, hdn', fun j => if j = i then v else vs j, ?_, hb.trans (hb2.mono (Nat.le_trans hC hb.size)), fun j hj hl => ?_⟩⟩
          · have := putAll_at (l.take L) a vs 0 i o v f1 (by rw [List.getElem?_take_of_lt hiL]; exact h2)
            rw [Nat.zero_add, hd] at this
            exact this
          · by_cases hji : j = i
            · show R j (if j = i then v else vs j) W2
              rw [if_pos hji]; subst hji; exact hv
            · show R j (if j = i then v else vs j) W2
              rw [if_neg hji]
              rw [hset, if_neg hji] at hl
              exact hR _ _ _ _ (hr j hj hl) hb2
      · have hall : ∀ j, j < i → listed.getD j true = true := fun j hj => waits_listed hdn (htail i j (by omega) hil hj) hi
        have hii : i = L := Classical.byContradiction fun hne => by
          have := hall L (by omega)
          rw [h4 L (Nat.le_refl _) (by omega)] at this
          cases this
        subst hii
        refine hop i o _ W _ h2 (hlast vs W hb fun j hj => hr j hj (hall j hj)) fun a2 W2 hw2 => ⟨by simp [hsz], .inl ⟨i + 1, by omega, by omega, hnext i rfl (fun k hkl => ?_), hw2⟩⟩
        by_cases hki : k < i
        · rw [hall k hki]; simp [hki]
        · rw [h4 k (by omega) hkl]; simp [hki]
  · rintro listed a' W ⟨hsz, h⟩ hrd
    rcases h with ⟨i0, hL0, hn0, hlst, hwp⟩ | ⟨h4, hdn, vs, rfl, hb, hr⟩
    · by_cases hlt : i0 < l.length
      · have := ready_least hsz hback hlt (by rw [hlst i0 hlt]; simp) (fun k hk => by rw [hlst k (by omega)]; simp [hk])
        rw [hrd] at this
        cases this
      · rw [List.drop_eq_nil_of_le (by omega)] at hwp
        exact hwp
    · by_cases hex : ∃ i, i < l.length ∧ listed.getD i true = false
      · obtain ⟨i, ⟨hlt, hun⟩, hmin⟩ := least hex
        have := ready_least hsz hback hlt hun fun k hk => by
          cases hx : listed.getD k true with
          | true => rfl
          | false => exact absurd ⟨by omega, hx⟩ (hmin k hk)
        rw [hrd] at this
        cases this
      · have hall : ∀ j, j < l.length → listed.getD j true = true := fun j hj => by
          cases hx : listed.getD j true with
          | true => rfl
          | false => exact absurd ⟨j, hj, hx⟩ hex
        have hLe : L = l.length := Classical.byContradiction fun hne => by
          have := hall L (by omega)
          rw [h4 L (Nat.le_refl _) (by omega)] at this
          cases this
        have := hlast vs W hb fun j hj => hr j hj (hall j (by omega))
        rw [List.drop_eq_nil_of_le (by omega)] at this
        exact this
  · rw [hpn]
    unfold unl
    exact Nat.le_trans List.countP_le_length (by simp)
  · refine ⟨by simp, .inr ⟨?_, ?_, slots a (l.take L), ?_, ?_, ?_⟩⟩
    · intro k _ hkl
      rw [Array.getD_eq_getD_getElem?, Array.getElem?_replicate, hpn, if_pos hkl]; rfl
    · intro i o ho hl
      have hil : i < l.length := (List.getElem?_eq_some_iff.1 ho).1
      rw [Array.getD_eq_getD_getElem?, Array.getElem?_replicate] at hl
      simp [hil] at hl
    · refine (putAll_slots (l.take L) a (slots a (l.take L)) 0 (fun o ho d hd => ?_) fun i o d hi hd => ?_).symm
      · have := List.all_eq_true.1 f3 o ho
        rw [hd] at this
        simpa using this
      · unfold slots; rw [Nat.zero_add, hi]; simp [hd]
    · exact Below.drew (Below.refl _ _)
    · intro j hj hl
      rw [Array.getD_eq_getD_getElem?, Array.getElem?_replicate] at hl
      simp [show j < l.length by omega] at hl
theorem wpOp_go {P : Program} {Q : Exit → Act → World → Prop} {ops : Array Oper} {i : Nat} {o : Oper} {K : Act → World → Prop} {a : Act} {w : World} (ho : ops[i]? = some o) (hw : Region.wanted o (yielded ops a.tmps) = true) (h : o.wp P a w K Q) : wpOp P ops Q i K a w := by
  unfold wpOp
  rw [ho]
  show if Region.wanted o (yielded ops a.tmps) = true then _ else _
  rw [if_pos hw]
  exact .inl h
theorem wpOp_skip {P : Program} {Q : Exit → Act → World → Prop} {ops : Array Oper} {i : Nat} {o : Oper} {K : Act → World → Prop} {a : Act} {w : World} (ho : ops[i]? = some o) (hw : Region.wanted o (yielded ops a.tmps) = false) (h : K (a.put o.dst undef) w) : wpOp P ops Q i K a w := by
  unfold wpOp
  rw [ho]
  show if Region.wanted o (yielded ops a.tmps) = true then _ else _
  rw [if_neg (by rw [hw]; simp)]
  exact h
end Go.Proofs.Ytkjgdnfkpebejaa.Rg
