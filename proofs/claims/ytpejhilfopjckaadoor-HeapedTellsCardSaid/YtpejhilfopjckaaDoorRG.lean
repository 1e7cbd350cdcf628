/-
Texts RG, RT, RI, one behind the other (a claim bears sixty files). Conditions: as each says.
-/
import Derived.Orders
import Derived.Below
import Derived.Tactics

/-
A statement whose order Go leaves open and that only makes new memory, but for its last operation: each operation is looked at once, whatever came before it (not once for each order). No condition.
-/

namespace Go.Proofs.YtpejhilfopjckaaDoor.Rg
open Go Go.RowKit

section
variable {P : Program} {ops : Array Oper} {Q : Exit → Act → World → Prop} {md : Region.Mode}

def unl (n : Nat) (listed : Array Bool) : Nat := (List.range n).countP fun i => !listed.getD i true

theorem unl_step {n i : Nat} {listed : Array Bool} (hi : i < n) (h : listed.getD i true = false) : unl n (listed.setIfInBounds i true) < unl n listed := by
  unfold unl
  have hs : i < listed.size := Classical.byContradiction fun hc => by
    rw [Array.getD_eq_getD_getElem?, Array.getElem?_eq_none (by omega)] at h; cases h
  have hg : ∀ k, (listed.setIfInBounds i true).getD k true = if k = i then true else listed.getD k true := fun k => by
    rw [Array.getD_eq_getD_getElem?, Array.getD_eq_getD_getElem?, Array.getElem?_setIfInBounds]
    by_cases hk : k = i
    · subst hk; simp [hs]
    · rw [if_neg (fun e => hk e.symm), if_neg hk]
  have hle : ∀ l : List Nat, l.countP (fun k => !(listed.setIfInBounds i true).getD k true) ≤ l.countP (fun k => !listed.getD k true) := fun l => by
    refine List.countP_mono_left fun k _ hk => ?_
    rw [hg] at hk
    by_cases hki : k = i
    · rw [if_pos hki] at hk; cases hk
    · rwa [if_neg hki] at hk
  have hmem : i ∈ List.range n := List.mem_range.2 hi
  obtain ⟨s, t, e⟩ := List.append_of_mem hmem
  rw [e, List.countP_append, List.countP_append, List.countP_cons, List.countP_cons]
  have h1 := hle s
  have h2 := hle t
  have h3 : (!(listed.setIfInBounds i true).getD i true) = false := by rw [hg, if_pos rfl]; rfl
  have h4 : (!listed.getD i true) = true := by rw [h]; rfl
  rw [h3, h4]
  simp only [Bool.false_eq_true, if_false, if_true]
  omega

theorem wpAny_inv (I : Array Bool → Act → World → Prop)
    (hstep : ∀ listed a w, I listed a w → ∀ i ∈ Region.ready md ops listed, wpOp P ops Q i (fun a' w' => I (listed.setIfInBounds i true) a' w') a w)
    (hend : ∀ listed a w, I listed a w → Region.ready md ops listed = [] → Q .normal a w) :
    ∀ fuel listed a w, unl ops.size listed ≤ fuel → I listed a w → wpAny P md ops Q fuel listed a w
  | 0, listed, a, w, hf, hI => by
    have hr : Region.ready md ops listed = [] := by
      rw [List.eq_nil_iff_forall_not_mem]
      intro i hi
      obtain ⟨h1, o, h2, _⟩ := mem_ready.1 hi
      have hlt : i < ops.size := (Array.getElem?_eq_some_iff.1 h2).1
      have := unl_step hlt h1
      omega
    exact ⟨hr, hend _ _ _ hI hr⟩
  | fuel + 1, listed, a, w, hf, hI => by
    refine ⟨fun hr => hend _ _ _ hI hr, fun i hi => ?_⟩
    obtain ⟨h1, o, h2, _⟩ := mem_ready.1 hi
    have hlt : i < ops.size := (Array.getElem?_eq_some_iff.1 h2).1
    have := unl_step hlt h1
    exact wpOp_mono (fun a' w' h => wpAny_inv I hstep hend fuel _ a' w' (by omega) h) (hstep listed a w hI i hi)

/-- All values of a region's operations put into a frame. -/
def putAll : Act → List Oper → (Nat → Value) → Nat → Act
  | a, [], _, _ => a
  | a, o :: l, vs, k => putAll (a.put o.dst (vs k)) l vs (k + 1)
theorem put_comm {a : Act} {d e : Option Tmp} {u v : Value} (h : d ≠ e ∨ d = none) : (a.put d u).put e v = (a.put e v).put d u := by
  cases d with
  | none => rfl
  | some d =>
    cases e with
    | none => rfl
    | some e =>
      have hne : d ≠ e := fun he => by rcases h with h | h <;> simp_all
      simp only [Act.put]
      rw [Array.setIfInBounds_comm _ _ hne]
theorem put_put {a : Act} {d : Option Tmp} {u v : Value} : (a.put d u).put d v = a.put d v := by
  cases d with
  | none => rfl
  | some d => simp [Act.put]
theorem putAll_put : ∀ (l : List Oper) (a : Act) (vs : Nat → Value) (k : Nat) (d : Option Tmp) (v : Value), (∀ o ∈ l, o.dst ≠ d ∨ o.dst = none) → (putAll a l vs k).put d v = putAll (a.put d v) l vs k
  | [], a, vs, k, d, v, h => rfl
  | o :: l, a, vs, k, d, v, h => by
    rw [putAll, putAll, putAll_put l _ vs (k + 1) d v (fun o ho => h o (List.mem_cons_of_mem _ ho)), put_comm (h o (List.mem_cons_self ..))]
theorem putAll_ext : ∀ (l : List Oper) (a : Act) (vs us : Nat → Value) (k : Nat), (∀ j, k ≤ j → j < k + l.length → vs j = us j) → putAll a l vs k = putAll a l us k
  | [], a, vs, us, k, h => rfl
  | o :: l, a, vs, us, k, h => by
    rw [putAll, putAll, h k (Nat.le_refl _) (by simp), putAll_ext l _ vs us (k + 1) fun j h1 h2 => h j (by omega) (by simp; omega)]
/-- The results lie in temporaries of their own. -/
def apartB : List Oper → Bool
  | [] => true
  | o :: l => (l.all fun p => p.dst != o.dst || p.dst == none) && apartB l
theorem putAll_at : ∀ (l : List Oper) (a : Act) (vs : Nat → Value) (k i : Nat) (o : Oper) (v : Value), apartB l = true → l[i]? = some o → (putAll a l vs k).put o.dst v = putAll a l (fun j => if j = k + i then v else vs j) k
  | [], _, _, _, _, _, _, _, h => by cases h
  | p :: l, a, vs, k, 0, o, v, hap, h => by
    obtain rfl : p = o := by simpa using h
    rw [apartB, Bool.and_eq_true] at hap
    rw [putAll, putAll, putAll_put l _ vs (k + 1) _ v (fun q hq => by
      have := List.all_eq_true.1 hap.1 q hq
      simpa using this), put_put]
    simp only [Nat.add_zero, if_true]
    exact putAll_ext l _ _ _ _ fun j h1 h2 => by rw [if_neg (by omega)]
  | p :: l, a, vs, k, i + 1, o, v, hap, h => by
    rw [apartB, Bool.and_eq_true] at hap
    rw [putAll, putAll, putAll_at l _ vs (k + 1) i o v hap.2 (by simpa using h)]
    rw [if_neg (by omega)]
    exact putAll_ext l _ _ _ _ fun j h1 h2 => by rw [show k + 1 + i = k + (i + 1) by omega]
/-- What a frame has there anyway. -/
def slots (a : Act) (l : List Oper) : Nat → Value := fun j => match (l[j]?).bind (·.dst) with
  | some d => a.tmps.getD d undef
  | none => undef
theorem put_own {a : Act} {d : Tmp} (h : d < a.tmps.size) : a.put (some d) (a.tmps.getD d undef) = a := by
  have e : a.tmps.setIfInBounds d (a.tmps.getD d undef) = a.tmps := by
    apply Array.ext
    · simp
    · intro i h1 h2
      rw [Array.getElem_setIfInBounds]
      split
      · rename_i e; subst e; simp 
      · rfl
  show { a with tmps := a.tmps.setIfInBounds d (a.tmps.getD d undef) } = a
  rw [e]
theorem putAll_slots : ∀ (l : List Oper) (a : Act) (vs : Nat → Value) (k : Nat), (∀ o ∈ l, ∀ d, o.dst = some d → d < a.tmps.size) → (∀ i o d, l[i]? = some o → o.dst = some d → vs (k + i) = a.tmps.getD d undef) → putAll a l vs k = a
  | [], a, vs, k, h, g => rfl
  | o :: l, a, vs, k, h, g => by
    have he : a.put o.dst (vs k) = a := by
      cases hd : o.dst with
      | none => rfl
      | some d =>
        have := g 0 o d rfl hd
        rw [Nat.add_zero] at this
        rw [this, put_own (h o (List.mem_cons_self ..) d hd)]
    rw [putAll, he]
    exact putAll_slots l a vs (k + 1) (fun p hp => h p (List.mem_cons_of_mem _ hp)) fun i p d hi hd => by rw [show k + 1 + i = k + (i + 1) by omega]; exact g (i + 1) p d (by simpa using hi) hd
/-- What an operation waits for, and that waits for. -/
def ups (md : Region.Mode) (l : List Oper) : Nat → List Nat → List Nat
  | 0, s => s
  | n + 1, s => ups md l n (s ++ s.flatMap fun i => match l[i]? with
      | some o => (o.after.toList.filter fun e => Region.binds md e).map (·.on)
      | none => [])
def Down (md : Region.Mode) (l : List Oper) (listed : Array Bool) : Prop := ∀ i o, l[i]? = some o → listed.getD i true = true → ∀ e ∈ o.after, Region.binds md e = true → listed.getD e.on false = true
theorem getD_true {listed : Array Bool} {i : Nat} (h : listed.getD i false = true) : listed.getD i true = true := by
  rw [Array.getD_eq_getD_getElem?] at h ⊢
  cases hx : listed[i]? with
  | none => rw [hx] at h; cases h
  | some x => rw [hx] at h; exact h
theorem ups_listed {l : List Oper} {listed : Array Bool} (hd : Down md l listed) : ∀ (n : Nat) (s : List Nat), (∀ i ∈ s, listed.getD i true = true) → ∀ i ∈ ups md l n s, listed.getD i true = true
  | 0, s, h, i, hi => h i hi
  | n + 1, s, h, i, hi => by
    refine ups_listed hd n _ (fun j hj => ?_) i hi
    rcases List.mem_append.1 hj with h1 | h1
    · exact h j h1
    · obtain ⟨k, hk, h2⟩ := List.mem_flatMap.1 h1
      cases ho : l[k]? with
      | none => rw [ho] at h2; cases h2
      | some o =>
        rw [ho] at h2
        obtain ⟨e, he, rfl⟩ := List.mem_map.1 h2
        obtain ⟨h3, h4⟩ := List.mem_filter.1 he
        exact getD_true (hd k o ho (h k hk) e (by simpa using h3) h4)
/-- Which operations one waits for. -/
def waits (l : List Oper) (i j : Nat) : Bool := (ups .any l l.length (match l[i]? with | some o => (o.after.toList.filter fun e => Region.binds .any e).map (·.on) | none => [])).contains j
end
theorem least {p : Nat → Prop} (h : ∃ i, p i) : ∃ i, p i ∧ ∀ k, k < i → ¬ p k := by
  obtain ⟨i, hi⟩ := h
  induction i using Nat.strongRecOn with
  | _ i ih =>
    by_cases hx : ∃ k, k < i ∧ p k
    · obtain ⟨k, hk, hp⟩ := hx; exact ih k hk hp
    · exact ⟨i, hi, fun k hk hp => hx ⟨k, hk, hp⟩⟩
end Go.Proofs.YtpejhilfopjckaaDoor.Rg

/-
A statement whose order Go leaves open: its first operations only make new memory, what stands behind them goes in its order. Each operation is looked at once. No condition.
-/

namespace Go.Proofs.YtpejhilfopjckaaDoor.Rg
open Go Go.RowKit

theorem waits_listed {l : List Oper} {listed : Array Bool} (hd : Down .any l listed) {i j : Nat} (hw : waits l i j = true) (hi : i ∈ Region.ready .any l.toArray listed) : listed.getD j true = true := by
  obtain ⟨_, o, h2, h3⟩ := mem_ready.1 hi
  rw [List.getElem?_toArray] at h2
  unfold waits at hw
  refine ups_listed hd l.length _ (fun k hk => ?_) j (by simpa using hw)
  rw [h2] at hk
  obtain ⟨e, he, rfl⟩ := List.mem_map.1 hk
  obtain ⟨g1, g2⟩ := List.mem_filter.1 he
  exact getD_true (h3 e (by simpa using g1) g2)
theorem ready_least {l : List Oper} {listed : Array Bool} (hsz : listed.size = l.length) (hb : ∀ i o, l[i]? = some o → ∀ e ∈ o.after, Region.binds .any e = true → e.on < i) {i : Nat} (hlt : i < l.length) (hun : listed.getD i true = false) (hmin : ∀ k, k < i → listed.getD k true = true) :
    i ∈ Region.ready .any l.toArray listed := by
  refine mem_ready.2 ⟨hun, l[i], by rw [List.getElem?_toArray, List.getElem?_eq_getElem hlt], fun e he hb2 => ?_⟩
  have h9 := hb i l[i] (List.getElem?_eq_getElem hlt) e he hb2
  have h11 := hmin e.on h9
  rw [Array.getD_eq_getD_getElem?] at h11 ⊢
  rw [Array.getElem?_eq_getElem (by omega)] at h11 ⊢
  exact h11
theorem ups_below {l : List Oper} (hb : ∀ i o, l[i]? = some o → ∀ e ∈ o.after, Region.binds .any e = true → e.on < i) : ∀ (n : Nat) (s : List Nat), (∀ i ∈ s, i < l.length) → ∀ i ∈ ups .any l n s, i < l.length
  | 0, s, h, i, hi => h i hi
  | n + 1, s, h, i, hi => by
    refine ups_below hb n _ (fun j hj => ?_) i hi
    rcases List.mem_append.1 hj with h1 | h1
    · exact h j h1
    · obtain ⟨k, hk, h2⟩ := List.mem_flatMap.1 h1
      cases ho : l[k]? with
      | none => rw [ho] at h2; cases h2
      | some o =>
        rw [ho] at h2
        obtain ⟨e, he, rfl⟩ := List.mem_map.1 h2
        obtain ⟨h3, h4⟩ := List.mem_filter.1 he
        have := hb k o ho e (by simpa using h3) h4
        have := h k hk
        omega
end Go.Proofs.YtpejhilfopjckaaDoor.Rg

/-
A statement whose order Go leaves open, by what holds all the while: what is known after some of its operations, whichever they were. Each operation is looked at once. No condition.
-/

namespace Go.Proofs.YtpejhilfopjckaaDoor.Rg
open Go Go.RowKit

/-- What the law asks: results in temporaries of their own, no guard, edges backward. -/
def formI (n : Nat) (l : List Oper) : Bool :=
  apartB l && (l.all fun o => o.guard.isNone) && (l.all fun o => match o.dst with | some d => decide (d < n) | none => true) &&
  ((List.range l.length).all fun i => match l[i]? with | some o => o.after.all fun e => !Region.binds .any e || decide (e.on < i) | none => true)
/-- **The sixth law.** -/
theorem wp_region_inv {P : Program} {Q : Exit → Act → World → Prop} {id : Nat} {a : Act} {w : World} {l : List Oper} (hm : P.follows .mixedOrders = true) (I : (Nat → Bool) → (Nat → Value) → World → Prop)
    (hf : formI a.tmps.size l = true) (h0 : ∀ vs, I (fun _ => false) vs w.drew)
    (hstep : ∀ i o, l[i]? = some o → ∀ (S : Nat → Bool) (vs : Nat → Value) W, I S vs W → S i = false → (∀ j, waits l i j = true → S j = true) → (∀ j k, S j = true → waits l j k = true → S k = true) →
      o.wp P (putAll a l vs 0) W (fun a' W' => ∃ v, a' = (putAll a l vs 0).put o.dst v ∧ I (fun j => if j = i then true else S j) (fun j => if j = i then v else vs j) W') Q)
    (hend : ∀ (vs : Nat → Value) W, I (fun j => decide (j < l.length)) vs W → Q .normal (putAll a l vs 0) W) :
    (Code.region id l.toArray true).wp P Q a w := by
  unfold formI at hf
  simp only [Bool.and_eq_true] at hf
  obtain ⟨⟨⟨f1, f2⟩, f3⟩, f6⟩ := hf
  have hback : ∀ i o, l[i]? = some o → ∀ e ∈ o.after, Region.binds .any e = true → e.on < i := fun i o ho e he hb2 => by
    have h7 := List.all_eq_true.1 f6 i (List.mem_range.2 (List.getElem?_eq_some_iff.1 ho).1)
    rw [ho] at h7
    have h8 := Array.all_eq_true_iff_forall_mem.1 h7 e he
    rw [hb2] at h8
    simpa using h8
  have hpn : l.toArray.size = l.length := by simp
  have hgt : ∀ {listed : Array Bool} {j : Nat}, listed.size = l.length → j < l.length → listed.getD j false = listed.getD j true := fun {listed j} hsz hj => by
    rw [Array.getD_eq_getD_getElem?, Array.getD_eq_getD_getElem?, Array.getElem?_eq_getElem (by omega)]
    rfl
  refine wp_region_any hm (wpAny_inv (fun listed a' W => listed.size = l.length ∧ Down .any l listed ∧ ∃ vs, a' = putAll a l vs 0 ∧ I (fun j => listed.getD j false) vs W) ?_ ?_ _ _ _ _ ?_ ?_)
  · rintro listed a' W ⟨hsz, hdn, vs, rfl, hI⟩ i hi
    obtain ⟨h1, o, h2, h3⟩ := mem_ready.1 hi
    rw [List.getElem?_toArray] at h2
    have hil : i < l.length := (List.getElem?_eq_some_iff.1 h2).1
    have hset : ∀ k, (listed.setIfInBounds i true).getD k true = if k = i then true else listed.getD k true := fun k => by
      rw [Array.getD_eq_getD_getElem?, Array.getD_eq_getD_getElem?, Array.getElem?_setIfInBounds]
      by_cases hk : k = i
      · subst hk; simp [hsz, hil]
      · rw [if_neg (fun e => hk e.symm), if_neg hk]
    have hsetf : (fun k => (listed.setIfInBounds i true).getD k false) = fun k => if k = i then true else listed.getD k false := by
      funext k
      rw [Array.getD_eq_getD_getElem?, Array.getD_eq_getD_getElem?, Array.getElem?_setIfInBounds]
      by_cases hk : k = i
      · subst hk; simp [hsz, hil]
      · rw [if_neg (fun e => hk e.symm), if_neg hk]
    have hset' : ∀ k, listed.getD k false = true → (listed.setIfInBounds i true).getD k false = true := fun k hk => by
      rw [Array.getD_eq_getD_getElem?] at hk ⊢
      rw [Array.getElem?_setIfInBounds]
      by_cases hki : i = k
      · rw [if_pos hki]; subst hki; simp [hsz, hil]
      · rw [if_neg hki]; exact hk
    have hdn' : Down .any l (listed.setIfInBounds i true) := fun k p hk hl e he hb2 => by
      rw [hset] at hl
      by_cases hki : k = i
      · subst hki
        obtain rfl : o = p := Option.some.inj (h2.symm.trans hk)
        exact hset' _ (h3 e he hb2)
      · rw [if_neg hki] at hl
        exact hset' _ (hdn k p hk hl e he hb2)
    have hgd : o.guard = none := by
      have := List.all_eq_true.1 f2 o (List.mem_of_getElem? h2)
      simpa using this
    have hlow : ∀ i j, i < l.length → waits l i j = true → j < l.length := fun i j hil hj => by
      unfold waits at hj
      refine ups_below hback l.length _ (fun k hk => ?_) j (by simpa using hj)
      rw [List.getElem?_eq_getElem hil] at hk
      obtain ⟨e, he, rfl⟩ := List.mem_map.1 hk
      obtain ⟨g1, g2⟩ := List.mem_filter.1 he
      have := hback i _ (List.getElem?_eq_getElem hil) e (by simpa using g1) g2
      omega
    have hdeps : ∀ j, waits l i j = true → listed.getD j false = true := fun j hw => by
      rw [hgt hsz (hlow i j hil hw)]
      exact waits_listed hdn hw hi
    have hclosed : ∀ j k, listed.getD j false = true → waits l j k = true → listed.getD k false = true := fun j k hj hw => by
      have hjl : j < l.length := by
        rw [Array.getD_eq_getD_getElem?] at hj
        cases hx : listed[j]? with
        | none => rw [hx] at hj; cases hj
        | some y => have := (Array.getElem?_eq_some_iff.1 hx).1; omega
      rw [hgt hsz (hlow j k hjl hw)]
      unfold waits at hw
      refine ups_listed hdn l.length _ (fun m hm => ?_) k (by simpa using hw)
      rw [List.getElem?_eq_getElem hjl] at hm
      obtain ⟨e, he, rfl⟩ := List.mem_map.1 hm
      obtain ⟨g1, g2⟩ := List.mem_filter.1 he
      exact getD_true (hdn j _ (List.getElem?_eq_getElem hjl) (getD_true hj) e (by simpa using g1) g2)
    unfold wpOp
    rw [List.getElem?_toArray, h2]
    simp only [Region.wanted, hgd, if_true]
    refine .inl ?_
    refine Oper.wp_mono (fun a2 W2 hq => ?_) (hstep i o h2 _ vs W hI (by rw [hgt hsz hil]; exact h1) hdeps hclosed)
    obtain ⟨v, rfl, hv⟩ := hq
    refine ⟨by simp [hsz], hdn', fun j => if j = i then v else vs j, ?_, ?_⟩
    · have := putAll_at l a vs 0 i o v f1 h2
      rw [Nat.zero_add] at this
      exact this
    · rw [hsetf]
      exact hv
  · rintro listed a' W ⟨hsz, hdn, vs, rfl, hI⟩ hrd
    have hall : ∀ j, j < l.length → listed.getD j true = true := fun j hj => Classical.byContradiction fun hc => by
      have hex : ∃ i, i < l.length ∧ listed.getD i true = false := ⟨j, hj, by simpa using hc⟩
      obtain ⟨i, ⟨hlt, hun⟩, hmin⟩ := least hex
      have := ready_least hsz hback hlt hun fun k hk => by
        cases hx : listed.getD k true with
        | true => rfl
        | false => exact absurd ⟨by omega, hx⟩ (hmin k hk)
      rw [hrd] at this
      cases this
    have e : (fun j => listed.getD j false) = fun j => decide (j < l.length) := by
      funext j
      by_cases hj : j < l.length
      · rw [hgt hsz hj, hall j hj, decide_eq_true hj]
      · rw [decide_eq_false hj, Array.getD_eq_getD_getElem?, Array.getElem?_eq_none (by omega)]
        rfl
    rw [e] at hI
    exact hend vs W hI
  · rw [hpn]
    unfold unl
    exact Nat.le_trans List.countP_le_length (by simp)
  · refine ⟨by simp, ?_, slots a l, ?_, ?_⟩
    · intro i o ho hl
      have hil : i < l.length := (List.getElem?_eq_some_iff.1 ho).1
      rw [Array.getD_eq_getD_getElem?, Array.getElem?_replicate] at hl
      simp [hil] at hl
    · refine (putAll_slots l a (slots a l) 0 (fun o ho d hd => ?_) fun i o d hi hd => ?_).symm
      · have h7 := List.all_eq_true.1 f3 o ho
        rw [hd] at h7
        simpa using h7
      · unfold slots; rw [Nat.zero_add, hi]; simp [hd]
    · have e : (fun j => (Array.replicate l.toArray.size false).getD j false) = fun _ => false := by
        funext j
        rw [Array.getD_eq_getD_getElem?, Array.getElem?_replicate]
        split <;> rfl
      rw [e]
      exact h0 _
end Go.Proofs.YtpejhilfopjckaaDoor.Rg
