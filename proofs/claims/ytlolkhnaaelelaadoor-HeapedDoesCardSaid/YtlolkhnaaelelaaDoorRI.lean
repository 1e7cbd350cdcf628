/-
A statement whose order Go leaves open, by what holds all the while: what is known after some of its operations, whichever they were. Each operation is looked at once. No condition.
-/
import Derived.Test.YtlolkhnaaelelaaDoorRT

namespace Go.Proofs.YtlolkhnaaelelaaDoor.Rg
open Go Go.RowKit

/-- What the law asks: results in temporaries of their own, no guard, edges backward. -/
def formI (n : Nat) (l : List Oper) : Bool :=
  apartB l && (l.all fun o => o.guard.isNone) && (l.all fun o => match o.dst with | some d => decide (d < n) | none => true) &&
  ((List.range l.length).all fun i => match l[i]? with | some o => o.after.all fun e => !Region.binds .any e || decide (e.on < i) | none => true)
/-- **The sixth law.** -/
theorem wp_region_inv {P : Program} {Q : Exit → Act → World → Prop} {id : Nat} {a : Act} {w : World} {l : List Oper} (hm : P.follows .mixedOrders = true) (I : (Nat → Bool) → (Nat → Value) → World → Prop)
    (hf : formI a.tmps.size l = true) (h0 : ∀ vs, I (fun _ => false) vs w.drew)
    (hstep : ∀ i o, l[i]? = some o → ∀ (S : Nat → Bool) (vs : Nat → Value) W, I S vs W → S i = false → (∀ j, waits l i j = true → S j = true) → (∀ j k, S j = true → waits l j k = true → S k = true) →
      o.wp P (putAll a l vs 0) W (fun a' W' => ∃ v, a' = (putAll a l vs 0).put o.dst v ∧ I (fun j => if j = i then true else S j) (fun j => if j = i then v else vs j) W') Q)
    (hend : ∀ (vs : Nat → Value) W, I (fun j => decide (j < l.length)) vs W → Q .normal (putAll a l vs 0) W) :
    (Code.region id l.toArray true).wp P Q a w := by
  unfold formI at hf
  simp only [Bool.and_eq_true] at hf
  obtain ⟨⟨⟨f1, f2⟩, f3⟩, f6⟩ := hf
  have hback : ∀ i o, l[i]? = some o → ∀ e ∈ o.after, Region.binds .any e = true → e.on < i := fun i o ho e he hb2 => by
    have h7 := List.all_eq_true.1 f6 i (List.mem_range.2 (List.getElem?_eq_some_iff.1 ho).1)
    rw [ho] at h7
    have h8 := Array.all_eq_true_iff_forall_mem.1 h7 e he
    rw [hb2] at h8
    simpa using h8
  have hpn : l.toArray.size = l.length := by simp
  have hgt : ∀ {listed : Array Bool} {j : Nat}, listed.size = l.length → j < l.length → listed.getD j false = listed.getD j true := fun {listed j} hsz hj => by
    rw [Array.getD_eq_getD_getElem?, Array.getD_eq_getD_getElem?, Array.getElem?_eq_getElem (by omega)]
    rfl
  refine wp_region_any hm (wpAny_inv (fun listed a' W => listed.size = l.length ∧ Down .any l listed ∧ ∃ vs, a' = putAll a l vs 0 ∧ I (fun j => listed.getD j false) vs W) ?_ ?_ _ _ _ _ ?_ ?_)
  · rintro listed a' W ⟨hsz, hdn, vs, rfl, hI⟩ i hi
    obtain ⟨h1, o, h2, h3⟩ := mem_ready.1 hi
    rw [List.getElem?_toArray] at h2
    have hil : i < l.length := (List.getElem?_eq_some_iff.1 h2).1
    have hset : ∀ k, (listed.setIfInBounds i true).getD k true = if k = i then true else listed.getD k true := fun k => by
      rw [Array.getD_eq_getD_getElem?, Array.getD_eq_getD_getElem?, Array.getElem?_setIfInBounds]
      by_cases hk : k = i
      · subst hk; simp [hsz, hil]
      · rw [if_neg (fun e => hk e.symm), if_neg hk]
    have hsetf : (fun k => (listed.setIfInBounds i true).getD k false) = fun k => if k = i then true else listed.getD k false := by
      funext k
      rw [Array.getD_eq_getD_getElem?, Array.getD_eq_getD_getElem?, Array.getElem?_setIfInBounds]
      by_cases hk : k = i
      · subst hk; simp [hsz, hil]
      · rw [if_neg (fun e => hk e.symm), if_neg hk]
    have hset' : ∀ k, listed.getD k false = true → (listed.setIfInBounds i true).getD k false = true := fun k hk => by
      rw [Array.getD_eq_getD_getElem?] at hk ⊢
      rw [Array.getElem?_setIfInBounds]
      by_cases hki : i = k
      · rw [if_pos hki]; subst hki; simp [hsz, hil]
      · rw [if_neg hki]; exact hk
    have hdn' : Down .any l (listed.setIfInBounds i true) := fun k p hk hl e he hb2 => by
      rw [hset] at hl
      by_cases hki : k = i
      · subst hki
        obtain rfl : o = p := Option.some.inj (h2.symm.trans hk)
        exact hset' _ (h3 e he hb2)
      · rw [if_neg hki] at hl
        exact hset' _ (hdn k p hk hl e he hb2)
    have hgd : o.guard = none := by
      have := List.all_eq_true.1 f2 o (List.mem_of_getElem? h2)
      simpa using this
    have hlow : ∀ i j, i < l.length → waits l i j = true → j < l.length := fun i j hil hj => by
      unfold waits at hj
      refine ups_below hback l.length _ (fun k hk => ?_) j (by simpa using hj)
      rw [List.getElem?_eq_getElem hil] at hk
      obtain ⟨e, he, rfl⟩ := List.mem_map.1 hk
      obtain ⟨g1, g2⟩ := List.mem_filter.1 he
      have := hback i _ (List.getElem?_eq_getElem hil) e (by simpa using g1) g2
      omega
    have hdeps : ∀ j, waits l i j = true → listed.getD j false = true := fun j hw => by
      rw [hgt hsz (hlow i j hil hw)]
      exact waits_listed hdn hw hi
    have hclosed : ∀ j k, listed.getD j false = true → waits l j k = true → listed.getD k false = true := fun j k hj hw => by
      have hjl : j < l.length := by
        rw [Array.getD_eq_getD_getElem?] at hj
        cases hx : listed[j]? with
        | none => rw [hx] at hj; cases hj
        | some y => have := (Array.getElem?_eq_some_iff.1 hx).1; omega
      rw [hgt hsz (hlow j k hjl hw)]
      unfold waits at hw
      refine ups_listed hdn l.length _ (fun m hm => ?_) k (by simpa using hw)
      rw [List.getElem?_eq_getElem hjl] at hm
      obtain ⟨e, he, rfl⟩ := List.mem_map.1 hm
      obtain ⟨g1, g2⟩ := List.mem_filter.1 he
      exact getD_true (hdn j _ (List.getElem?_eq_getElem hjl) (getD_true hj) e (by simpa using g1) g2)
    unfold wpOp
    rw [List.getElem?_toArray, h2]
    simp only [Region.wanted, hgd, if_true]
    refine .inl ?_
    refine Oper.wp_mono (fun a2 W2 hq => ?_) (hstep i o h2 _ vs W hI (by rw [hgt hsz hil]; exact h1) hdeps hclosed)
    obtain ⟨v, rfl, hv⟩ := hq
    refine ⟨by simp [hsz], hdn', fun j => if j = i then v else vs j, ?_, ?_⟩
    · have := putAll_at l a vs 0 i o v f1 h2
      rw [Nat.zero_add] at this
      exact this
    · rw [hsetf]
      exact hv
  · rintro listed a' W ⟨hsz, hdn, vs, rfl, hI⟩ hrd
    have hall : ∀ j, j < l.length → listed.getD j true = true := fun j hj => Classical.byContradiction fun hc => by
      have hex : ∃ i, i < l.length ∧ listed.getD i true = false := ⟨j, hj, by simpa using hc⟩
      obtain ⟨i, ⟨hlt, hun⟩, hmin⟩ := least hex
      have := ready_least hsz hback hlt hun fun k hk => by
        cases hx : listed.getD k true with
        | true => rfl
        | false => exact absurd ⟨by omega, hx⟩ (hmin k hk)
      rw [hrd] at this
      cases this
    have e : (fun j => listed.getD j false) = fun j => decide (j < l.length) := by
      funext j
      by_cases hj : j < l.length
      · rw [hgt hsz hj, hall j hj, decide_eq_true hj]
      · rw [decide_eq_false hj, Array.getD_eq_getD_getElem?, Array.getElem?_eq_none (by omega)]
        rfl
    rw [e] at hI
    exact hend vs W hI
  · rw [hpn]
    unfold unl
    exact Nat.le_trans List.countP_le_length (by simp)
  · refine ⟨by simp, ?_, slots a l, ?_, ?_⟩
    · intro i o ho hl
      have hil : i < l.length := (List.getElem?_eq_some_iff.1 ho).1
      rw [Array.getD_eq_getD_getElem?, Array.getElem?_replicate] at hl
      simp [hil] at hl
    · refine (putAll_slots l a (slots a l) 0 (fun o ho d hd => ?_) fun i o d hi hd => ?_).symm
      · have h7 := List.all_eq_true.1 f3 o ho
        rw [hd] at h7
        simpa using h7
      · unfold slots; rw [Nat.zero_add, hi]; simp [hd]
    · have e : (fun j => (Array.replicate l.toArray.size false).getD j false) = fun _ => false := by
        funext j
        rw [Array.getD_eq_getD_getElem?, Array.getElem?_replicate]
        split <;> rfl
      rw [e]
      exact h0 _
end Go.Proofs.YtlolkhnaaelelaaDoor.Rg
