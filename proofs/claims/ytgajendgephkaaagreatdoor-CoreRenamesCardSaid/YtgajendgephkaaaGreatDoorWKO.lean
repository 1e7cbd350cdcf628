/-
Texts K79, K77, K78, one behind the other (a claim bears sixty files). Conditions: as each says.
-/
import Derived.Test.YtgajendgephkaaaGreatDoorWRG
import Derived.Test.YtgajendgephkaaaGreatDoorK75
import Derived.Test.YtgajendgephkaaaGreatDoorWKM
import Derived.Test.YtgajendgephkaaaGreatDoorK50
import Derived.Test.YtgajendgephkaaaGreatDoorK6
import Derived.Outline
import Derived.Test.YtgajendgephkaaaGreatDoorK54

namespace Go.Proofs.YtgajendgephkaaaGreatDoor.Rg
open Go Go.RowKit

/-- What an operation has to do, and what the store. -/
def StepE (A : Value → World → Prop) (W : World) (a : Act) (d : Tmp) : Act → World → Prop := fun a' W' => ∃ v, a' = a.put (some d) v ∧ A v W' ∧ Below W.heap.size W W'
def StepG (a : Act) (A : Nat → World → Prop) : Act → World → Prop := fun a' W' => a' = a ∧ ∃ g, A g W'
/-- **The fifth law**: all but one operation make new memory alone; one store; what the store does not wait for looks at values alone. -/
theorem wp_region_late {P : Program} {Q : Exit → Act → World → Prop} {id : Nat} {a : Act} {w : World} {l : List Oper} (s : Nat) (hm : P.follows .mixedOrders = true) (C : Nat)
    (R : Nat → Value → World → Prop) (hR : ∀ i v W W', R i v W → Below W.heap.size W W' → R i v W') (hC : C ≤ w.heap.size) (p : Nat) (E : Nat → Value → Value → World → Prop) (hE : ∀ i v u W W', E i v u W → Below W.heap.size W W' → E i v u W') (T : Nat → World → Prop) (R' : Nat → Nat → Value → Prop) (hf : formS a.tmps.size l s = true) (hs : s < l.length)
    (hstep : ∀ i o d, i ≠ s → l[i]? = some o → o.dst = some d → waits l i s = false → i ≠ p → ∀ (vs : Nat → Value) W, Below C w W → (∀ j, j ≠ s → waits l i j = true → R j (vs j) W) →
      ∀ pl : Prop, (pl → R p (vs p) W ∧ ∀ j, j ≠ s → j ≠ p → waits l i j = true → E j (vs j) (vs p) W) →
      o.wp P (putAll a l vs 0) W (StepE (fun v W' => R i v W' ∧ (pl → E i v (vs p) W')) W (putAll a l vs 0) d) Q)
    (hpick : ∀ o d, l[p]? = some o → o.dst = some d → ∀ (vs : Nat → Value) W, Below C w W →
      o.wp P (putAll a l vs 0) W (StepE (fun v W' => R p v W' ∧ ∀ j, j ≠ s → j ≠ p → R j (vs j) W → E j (vs j) v W') W (putAll a l vs 0) d) Q)
    (hlate : ∀ i o d, i ≠ s → l[i]? = some o → o.dst = some d → waits l s i = false → ∀ g (vs : Nat → Value) W, T g W → (∀ j, j ≠ s → waits l i j = true → R' g j (vs j)) →
      o.wp P (putAll a l vs 0) W (StepR (R' g) i W (putAll a l vs 0) d) Q)
    (hps : waits l s p = true) (hpx : p ≠ s)
    (hstore : ∀ o, l[s]? = some o → ∀ (vs : Nat → Value) W, Below C w W → (∀ j, j ≠ s → waits l s j = true → R j (vs j) W) → (∀ j, j ≠ s → j ≠ p → waits l s j = true → E j (vs j) (vs p) W) →
      o.wp P (putAll a l vs 0) W (StepG (putAll a l vs 0) (fun g W' => T g W' ∧ ∀ j, j < l.length → j ≠ s → R j (vs j) W → R' g j (vs j))) Q)
    (hend : ∀ g (vs : Nat → Value) W, T g W → (∀ j, j < l.length → j ≠ s → R' g j (vs j)) → Q .normal (putAll a l vs 0) W) :
    (Code.region id l.toArray true).wp P Q a w := by
  unfold formS at hf
  simp only [Bool.and_eq_true] at hf
  obtain ⟨⟨⟨f1, f2⟩, f3⟩, f6⟩ := hf
  have hback : ∀ i o, l[i]? = some o → ∀ e ∈ o.after, Region.binds .any e = true → e.on < i := fun i o ho e he hb2 => by
    have h7 := List.all_eq_true.1 f6 i (List.mem_range.2 (List.getElem?_eq_some_iff.1 ho).1)
    rw [ho] at h7
    have h8 := Array.all_eq_true_iff_forall_mem.1 h7 e he
    rw [hb2] at h8
    simpa using h8
  have hdst : ∀ i o, l[i]? = some o → (i = s ∧ o.dst = none) ∨ (i ≠ s ∧ ∃ d, o.dst = some d ∧ d < a.tmps.size) := fun i o ho => by
    have h7 := List.all_eq_true.1 f3 i (List.mem_range.2 (List.getElem?_eq_some_iff.1 ho).1)
    rw [ho] at h7
    dsimp only at h7
    cases hd : o.dst with
    | none => rw [hd] at h7; exact .inl ⟨by simpa using h7, rfl⟩
    | some d => rw [hd] at h7; simp at h7; exact .inr ⟨h7.2, d, rfl, h7.1⟩
  have hpn : l.toArray.size = l.length := by simp
  refine wp_region_any hm (wpAny_inv (fun listed a' W => listed.size = l.length ∧ Down .any l listed ∧ ∃ vs, a' = putAll a l vs 0 ∧ ((listed.getD s true = false ∧ Below C w W ∧ (∀ j, j < l.length → j ≠ s → listed.getD j true = true → R j (vs j) W) ∧ (p < l.length → listed.getD p true = true → ∀ j, j < l.length → j ≠ s → j ≠ p → listed.getD j true = true → E j (vs j) (vs p) W)) ∨ (listed.getD s true = true ∧ ∃ g, T g W ∧ ∀ j, j < l.length → j ≠ s → listed.getD j true = true → R' g j (vs j)))) ?_ ?_ _ _ _ _ ?_ ?_)
  · rintro listed a' W ⟨hsz, hdn, vs, rfl, hW⟩ i hi
    obtain ⟨h1, o, h2, h3⟩ := mem_ready.1 hi
    rw [List.getElem?_toArray] at h2
    have hil : i < l.length := (List.getElem?_eq_some_iff.1 h2).1
    have hset : ∀ k, (listed.setIfInBounds i true).getD k true = if k = i then true else listed.getD k true := fun k => by
      rw [Array.getD_eq_getD_getElem?, Array.getD_eq_getD_getElem?, Array.getElem?_setIfInBounds]
      by_cases hk : k = i
      · subst hk; simp [hsz, hil]
      · rw [if_neg (fun e => hk e.symm), if_neg hk]
    have hset' : ∀ k, listed.getD k false = true → (listed.setIfInBounds i true).getD k false = true := fun k hk => by
      rw [Array.getD_eq_getD_getElem?] at hk ⊢
      rw [Array.getElem?_setIfInBounds]
      by_cases hki : i = k
      · rw [if_pos hki]; subst hki; simp [hsz, hil]
      · rw [if_neg hki]; exact hk
    have hdn' : Down .any l (listed.setIfInBounds i true) := fun k p hk hl e he hb2 => by
      rw [hset] at hl
      by_cases hki : k = i
      · subst hki
        obtain rfl : o = p := Option.some.inj (h2.symm.trans hk)
        exact hset' _ (h3 e he hb2)
      · rw [if_neg hki] at hl
        exact hset' _ (hdn k p hk hl e he hb2)
    have hgd : o.guard = none := by
      have := List.all_eq_true.1 f2 o (List.mem_of_getElem? h2)
      simpa using this
    have hlow : ∀ j, waits l i j = true → j < l.length := fun j hj => by
      unfold waits at hj
      refine ups_below hback l.length _ (fun k hk => ?_) j (by simpa using hj)
      rw [h2] at hk
      obtain ⟨e, he, rfl⟩ := List.mem_map.1 hk
      obtain ⟨g1, g2⟩ := List.mem_filter.1 he
      have := hback i o h2 e (by simpa using g1) g2
      omega
    unfold wpOp
    rw [List.getElem?_toArray, h2]
    simp only [Region.wanted, hgd, if_true]
    refine .inl ?_
    rcases hdst i o h2 with ⟨his, hd⟩ | ⟨his, d, hd, _⟩
    · rcases hW with ⟨_, hb, hr, hre⟩ | ⟨e, _⟩
      rotate_left
      · rw [← his, h1] at e; cases e
      refine Oper.wp_mono (fun a2 W2 hq => ?_) (hstore o (by rw [← his]; exact h2) vs W hb (fun j hj hw => hr j (hlow j (by rw [his]; exact hw)) hj (waits_listed hdn (by rw [his]; exact hw) hi)) (fun j hj hjp hw => hre (hlow p (by rw [his]; exact hps)) (waits_listed hdn (by rw [his]; exact hps) hi) j (hlow j (by rw [his]; exact hw)) hj hjp (waits_listed hdn (by rw [his]; exact hw) hi)))
      obtain ⟨rfl, g, hT, hg⟩ := hq
      exact ⟨by simp [hsz], hdn', vs, rfl, .inr ⟨by rw [hset, if_pos his.symm], g, hT, fun j hj hjs hl => hg j hj hjs (hr j hj hjs (by rw [hset, if_neg (by omega)] at hl; exact hl))⟩⟩
    · have hput : ∀ v, (putAll a l vs 0).put (some d) v = putAll a l (fun j => if j = i then v else vs j) 0 := fun v => by
        have := putAll_at l a vs 0 i o v f1 h2
        rw [Nat.zero_add, hd] at this
        exact this
      rcases hW with ⟨e, hb, hr, hre⟩ | ⟨e, g, hT, hr⟩
      · have hws : waits l i s = false := by
          cases hx : waits l i s with
          | false => rfl
          | true => have := waits_listed hdn hx hi; rw [e] at this; cases this
        by_cases hip : i = p
        · refine Oper.wp_mono (fun a2 W2 hq => ?_) (hpick o d (by rw [← hip]; exact h2) hd vs W hb)
          obtain ⟨v, rfl, ⟨hv, hev⟩, hb2⟩ := hq
          refine ⟨by simp [hsz], hdn', fun j => if j = i then v else vs j, hput v, .inl ⟨by rw [hset, if_neg (fun e => his e.symm)]; exact e, hb.trans (hb2.mono (Nat.le_trans hC hb.size)), fun j hj hjs hl => ?_, fun _ _ j hj hjs hjp hl => ?_⟩⟩
          · by_cases hji : j = i
            · show R j (if j = i then v else vs j) W2
              rw [if_pos hji, hji, hip]; exact hv
            · show R j (if j = i then v else vs j) W2
              rw [if_neg hji]
              rw [hset, if_neg hji] at hl
              exact hR j _ W W2 (hr j hj hjs hl) hb2
          · have hji : j ≠ i := fun h => hjp (h.trans hip)
            show E j (if j = i then v else vs j) (if p = i then v else vs p) W2
            rw [if_neg hji, if_pos hip.symm]
            rw [hset, if_neg hji] at hl
            exact hev j hjs hjp (hr j hj hjs hl)
        · refine Oper.wp_mono (fun a2 W2 hq => ?_) (hstep i o d his h2 hd hws hip vs W hb (fun j hj hw => hr j (hlow j hw) hj (waits_listed hdn hw hi)) (p < l.length ∧ listed.getD p true = true) fun hpl => ⟨hr p hpl.1 hpx hpl.2, fun j hj hjp hw => hre hpl.1 hpl.2 j (hlow j hw) hj hjp (waits_listed hdn hw hi)⟩)
          obtain ⟨v, rfl, ⟨hv, hev⟩, hb2⟩ := hq
          refine ⟨by simp [hsz], hdn', fun j => if j = i then v else vs j, hput v, .inl ⟨by rw [hset, if_neg (fun e => his e.symm)]; exact e, hb.trans (hb2.mono (Nat.le_trans hC hb.size)), fun j hj hjs hl => ?_, fun hpl1 hpl2 j hj hjs hjp hl => ?_⟩⟩
          · by_cases hji : j = i
            · show R j (if j = i then v else vs j) W2
              rw [if_pos hji]; subst hji; exact hv
            · show R j (if j = i then v else vs j) W2
              rw [if_neg hji]
              rw [hset, if_neg hji] at hl
              exact hR j _ W W2 (hr j hj hjs hl) hb2
          · show E j (if j = i then v else vs j) (if p = i then v else vs p) W2
            have hpi : ¬ p = i := fun h => hip h.symm
            rw [if_neg hpi]
            rw [hset, if_neg hpi] at hpl2
            by_cases hji : j = i
            · rw [if_pos hji]; subst hji; exact hev ⟨hpl1, hpl2⟩
            · rw [if_neg hji]
              rw [hset, if_neg hji] at hl
              exact hE j _ _ W W2 (hre hpl1 hpl2 j hj hjs hjp hl) hb2
      · have hsw : waits l s i = false := by
          cases hx : waits l s i with
          | false => rfl
          | true =>
            have hsi : listed.getD i true = true := by
              refine ups_listed hdn l.length _ (fun k hk => ?_) i (by unfold waits at hx; simpa using hx)
              rw [List.getElem?_eq_getElem hs] at hk
              obtain ⟨e2, he2, rfl⟩ := List.mem_map.1 hk
              obtain ⟨g1, g2⟩ := List.mem_filter.1 he2
              exact getD_true (hdn s _ (List.getElem?_eq_getElem hs) e e2 (by simpa using g1) g2)
            rw [h1] at hsi; cases hsi
        refine Oper.wp_mono (fun a2 W2 hq => ?_) (hlate i o d his h2 hd hsw g vs W hT fun j hj hw => hr j (hlow j hw) hj (waits_listed hdn hw hi))
        obtain ⟨v, rfl, hv, rfl⟩ := hq
        refine ⟨by simp [hsz], hdn', fun j => if j = i then v else vs j, hput v, .inr ⟨by rw [hset, if_neg (fun e => his e.symm)]; exact e, g, hT, fun j hj hjs hl => ?_⟩⟩
        by_cases hji : j = i
        · show R' g j (if j = i then v else vs j)
          rw [if_pos hji]; subst hji; exact hv
        · show R' g j (if j = i then v else vs j)
          rw [if_neg hji]
          rw [hset, if_neg hji] at hl
          exact hr j hj hjs hl
  · rintro listed a' W ⟨hsz, hdn, vs, rfl, hW⟩ hrd
    have hall : ∀ j, j < l.length → listed.getD j true = true := fun j hj => Classical.byContradiction fun hc => by
      have hex : ∃ i, i < l.length ∧ listed.getD i true = false := ⟨j, hj, by simpa using hc⟩
      obtain ⟨i, ⟨hlt, hun⟩, hmin⟩ := least hex
      have := ready_least hsz hback hlt hun fun k hk => by
        cases hx : listed.getD k true with
        | true => rfl
        | false => exact absurd ⟨by omega, hx⟩ (hmin k hk)
      rw [hrd] at this
      cases this
    rcases hW with ⟨e, _⟩ | ⟨_, g, hT, hr⟩
    · rw [hall s hs] at e; cases e
    · exact hend g vs W hT fun j hj hjs => hr j hj hjs (hall j hj)
  · rw [hpn]
    unfold unl
    exact Nat.le_trans List.countP_le_length (by simp)
  · refine ⟨by simp, ?_, slots a l, ?_, .inl ⟨?_, (Below.refl C w).drew, ?_, ?_⟩⟩
    · intro i o ho hl
      have hil : i < l.length := (List.getElem?_eq_some_iff.1 ho).1
      rw [Array.getD_eq_getD_getElem?, Array.getElem?_replicate] at hl
      simp [hil] at hl
    · refine (putAll_slots l a (slots a l) 0 (fun o ho d hd => ?_) fun i o d hi hd => ?_).symm
      · obtain ⟨i, hi⟩ := List.getElem?_of_mem ho
        rcases hdst i o hi with ⟨_, e⟩ | ⟨_, d', e, h⟩
        · rw [hd] at e; cases e
        · rw [hd] at e; cases e; exact h
      · unfold slots; rw [Nat.zero_add, hi]; simp [hd]
    · rw [Array.getD_eq_getD_getElem?, Array.getElem?_replicate, hpn, if_pos hs]; rfl
    · intro j hj hjs hl
      rw [Array.getD_eq_getD_getElem?, Array.getElem?_replicate] at hl
      simp [hj] at hl
    · intro hpl hl
      rw [Array.getD_eq_getD_getElem?, Array.getElem?_replicate] at hl
      simp [hpl] at hl
end Go.Proofs.YtgajendgephkaaaGreatDoor.Rg

namespace Go.Proofs.YtgajendgephkaaaGreatDoor.Core
open Go.ChangeShapes Go.WideShapes Go.ChangeAt Go.RowKit Go.Deep
open Dat (PT ok64 RowX)
set_option maxRecDepth 100000

def StandShort (t : PE) : Prop := ∀ (w : World) (S : Nat → Prop) (vn vd vk : Value), InF w S t vn vd vk → ∀ s ∈ standL t, s.size ≤ maxLen
theorem stand_mem : ∀ {l : List PE} {s : ByteArray}, s ∈ standLs l → ∃ j, ∃ h : j < l.length, s ∈ standL l[j]
  | [], s, h => by rw [standLs] at h; cases h
  | t :: l, s, h => by
    rw [standLs] at h
    rcases List.mem_append.1 h with h | h
    · exact ⟨0, by simp, h⟩
    · obtain ⟨j, hj, h⟩ := stand_mem h
      exact ⟨j + 1, by simpa using hj, by simpa using h⟩
theorem stand_short_step (k : Int) (nm : ByteArray) (ns : List ByteArray) (d : PT) (l : List PE) (ih : ∀ t ∈ l, StandShort t) : StandShort (.mk k nm ns d l) := by
  intro w S vn vd vk h s hs
  obtain ⟨dk, di, ds, dl⟩ := d
  rw [standL] at hs
  rcases List.mem_append.1 hs with hs | hs
  · rcases List.mem_append.1 hs with hs | hs
    · split at hs
      · cases hs
      · simp only [List.mem_cons, List.not_mem_nil, or_false] at hs
        subst hs
        exact h.1.2.1
    · obtain ⟨a, c, _, _, _, _, hr⟩ := h.1.2.2
      obtain ⟨j, hj, rfl⟩ := List.getElem_of_mem hs
      obtain ⟨b, o, _, _, hc⟩ := hr.resolve_left (by rintro rfl; cases hj)
      exact (hc j hj).2
  · obtain ⟨j, hj, hs⟩ := stand_mem hs
    obtain ⟨b, o, c, _, _, _, _, hE⟩ := h.2.2.item j hj
    have ih2 := ih l[j] (List.getElem_mem hj)
    generalize l[j] = t at hE hs ih2
    obtain ⟨tk, tn, tns, ⟨tck, tci, tcs, tcl⟩, tl⟩ := t
    obtain ⟨tvn, tvd, tvk, hF, _⟩ := hE.cells
    exact ih2 w S tvn tvd tvk hF s hs
mutual
theorem stand_short : ∀ t : PE, StandShort t
  | .mk k nm ns d l => stand_short_step k nm ns d l (stand_short_all l)
theorem stand_short_all : ∀ l : List PE, ∀ t ∈ l, StandShort t
  | [], t, h => by cases h
  | u :: l, t, h => (List.mem_cons.1 h).elim (fun e => e ▸ stand_short u) (fun h => stand_short_all l t h)
end
set_option maxHeartbeats 2000000 in
/-- 9, of an expression that may not be. -/
theorem rename_bad (t : PE) (S : Nat → Prop) (vn vd vk : Value) (w : World) (h : InF w S t vn vd vk) (hS : ∀ b, S b → b < w.heap.size) (hc : checkE t ≠ 0) :
    Calls Tryz.prog 9 #[t.val vn vd vk] w fun e w' => e = .returned (.agg #[.int .i64 0, .string ⟨#[]⟩, .slice none 0 0, .int .i64 0, .int .i64 0, .string ⟨#[]⟩, .slice none 0 0, .slice none 0 0]) ∧ Below w.heap.size w w' := by
  obtain ⟨k, nm, ns, ⟨ck, ci, cs, cl⟩, l⟩ := t
  have HI := Lib.hid h
  obtain ⟨⟨-, -, an, cn, rfl, -⟩, ⟨-, -, -, ad, cd, rfl, -⟩, ak, c, rfl, -⟩ := h
  show Calls Tryz.prog 9 #[.agg #[.int .i64 k, .string nm, .slice an ns.length cn, .int .i64 ck, .int .i64 ci, .string cs, .slice ad cl.length cd, .slice ak l.length c]] w _
  obtain ⟨z0, z1, zb⟩ := two_new w (.cells #[.int .i64 k, .string nm, .slice an ns.length cn, .int .i64 ck, .int .i64 ci, .string cs, .slice ad cl.length cd, .slice ak l.length c] 28) (.cells #[.int .i64 0, .string ⟨#[]⟩, .slice none 0 0, .int .i64 0, .int .i64 0, .string ⟨#[]⟩, .slice none 0 0, .slice none 0 0] 28)
  have hs0 : ((w.alloc (.cells #[.int .i64 k, .string nm, .slice an ns.length cn, .int .i64 ck, .int .i64 ci, .string cs, .slice ad cl.length cd, .slice ak l.length c] 28)).alloc (.cells #[.int .i64 0, .string ⟨#[]⟩, .slice none 0 0, .int .i64 0, .int .i64 0, .string ⟨#[]⟩, .slice none 0 0, .slice none 0 0] 28)).heap.size = w.heap.size + 2 := by rw [size_new, size_new]
  generalize hw0 : (w.alloc (.cells #[.int .i64 k, .string nm, .slice an ns.length cn, .int .i64 ck, .int .i64 ci, .string cs, .slice ad cl.length cd, .slice ak l.length c] 28)).alloc (.cells #[.int .i64 0, .string ⟨#[]⟩, .slice none 0 0, .int .i64 0, .int .i64 0, .string ⟨#[]⟩, .slice none 0 0, .slice none 0 0] 28) = w0 at *
  have HW0 := Lib.hid hw0
  have Z1 := Lib.hid z1
  have ZB := Lib.hid zb
  have KC : Hid (Calls Tryz.prog 11 #[.agg #[.int .i64 k, .string nm, .slice an ns.length cn, .int .i64 ck, .int .i64 ci, .string cs, .slice ad cl.length cd, .slice ak l.length c]] w0 fun e w' => e = .returned (.int .i64 (checkE (.mk k nm ns (.mk ck ci cs cl) l))) ∧ Below w0.heap.size w0 w') := Lib.hid (checkE_any _ S _ _ _ w0 (HI.out.below zb) (fun b h => by have := hS b h; omega))
  have hq : (checkE (.mk k nm ns (.mk ck ci cs cl) l) != 0) = true := by simpa using hc
  generalize checkE (.mk k nm ns (.mk ck ci cs cl) l) = c0 at *
  obtain ⟨x0, x1, x2, x3, x4, x5, x6, x7⟩ := look8q z0
  clear hw0 z0 z1 zb hc hS
  go_enter Tryz.func9, Tryz.ntmps9
  go_upto_region 1 with fail
  rw [HW0.out]
  go_wp2_with fail
  refine KC.out.mono ?_
  rintro e w1 ⟨rfl, hb1⟩
  have HB1 := Lib.hid (ZB.out.trans (hb1.mono ZB.out.size))
  have Z2 := Lib.hid ((hb1.block (w.heap.size + 1) (lt_of_block Z1.out)).trans Z1.out)
  clear hb1 x0 x1 x2 x3 x4 x5 x6 x7 hs0
  obtain ⟨t0, t1, t2, t3, t4, t5, t6, t7⟩ := look8q Z2.out
  obtain ⟨g0, g1, g2, g3, g4, g5, g6, g7⟩ := free8q Z2.out
  have HZ5 := Lib.hid (put8 (v0 := .int .i64 0) (v1 := .string ⟨#[]⟩) (v2 := .slice none 0 0) (v3 := .int .i64 0) (v4 := .int .i64 0) (v5 := .string ⟨#[]⟩) (v6 := .slice none 0 0) (v7 := .slice none 0 0) Z2.out)
  have HB6 := Lib.hid (below8 HB1.out (Nat.le_succ w.heap.size) (.int .i64 0) (.string ⟨#[]⟩) (.slice none 0 0) (.int .i64 0) (.int .i64 0) (.string ⟨#[]⟩) (.slice none 0 0) (.slice none 0 0))
  go_wp2
  exact bodyPost_ret (results_cell_row (P := Tryz.prog) rfl _ _ (w.heap.size + 1) 28 _ (0, 0) _ rfl HZ5.out Tryz.underlying28 rfl (by kernel_rfl)) rfl ⟨rfl, HB6.out⟩
set_option maxHeartbeats 2000000 in
/-- 10, of an expression that may not be. -/
theorem rrename_bad (t : PE) (S : Nat → Prop) (vn vd vk : Value) (w : World) (h : InF w S t vn vd vk) (hc : checkE t ≠ 0) :
    Calls Tryz.prog 10 #[t.val vn vd vk] w fun e w' => e = .returned (.agg #[.int .i64 0, .string ⟨#[]⟩, .slice none 0 0, .int .i64 0, .int .i64 0, .string ⟨#[]⟩, .slice none 0 0, .slice none 0 0]) ∧ Below w.heap.size w w' := by
  obtain ⟨k, nm, ns, ⟨ck, ci, cs, cl⟩, l⟩ := t
  have HI := Lib.hid h
  obtain ⟨⟨-, -, an, cn, rfl, -⟩, ⟨-, -, -, ad, cd, rfl, -⟩, ak, c, rfl, -⟩ := h
  show Calls Tryz.prog 10 #[.agg #[.int .i64 k, .string nm, .slice an ns.length cn, .int .i64 ck, .int .i64 ci, .string cs, .slice ad cl.length cd, .slice ak l.length c]] w _
  obtain ⟨z0, z1, zb⟩ := two_new w (.cells #[.int .i64 k, .string nm, .slice an ns.length cn, .int .i64 ck, .int .i64 ci, .string cs, .slice ad cl.length cd, .slice ak l.length c] 28) (.cells #[.int .i64 0, .string ⟨#[]⟩, .slice none 0 0, .int .i64 0, .int .i64 0, .string ⟨#[]⟩, .slice none 0 0, .slice none 0 0] 28)
  have hs0 : ((w.alloc (.cells #[.int .i64 k, .string nm, .slice an ns.length cn, .int .i64 ck, .int .i64 ci, .string cs, .slice ad cl.length cd, .slice ak l.length c] 28)).alloc (.cells #[.int .i64 0, .string ⟨#[]⟩, .slice none 0 0, .int .i64 0, .int .i64 0, .string ⟨#[]⟩, .slice none 0 0, .slice none 0 0] 28)).heap.size = w.heap.size + 2 := by rw [size_new, size_new]
  generalize hw0 : (w.alloc (.cells #[.int .i64 k, .string nm, .slice an ns.length cn, .int .i64 ck, .int .i64 ci, .string cs, .slice ad cl.length cd, .slice ak l.length c] 28)).alloc (.cells #[.int .i64 0, .string ⟨#[]⟩, .slice none 0 0, .int .i64 0, .int .i64 0, .string ⟨#[]⟩, .slice none 0 0, .slice none 0 0] 28) = w0 at *
  have HW0 := Lib.hid hw0
  have Z1 := Lib.hid z1
  have ZB := Lib.hid zb
  have KC : Hid (Calls Tryz.prog 18 #[.agg #[.int .i64 k, .string nm, .slice an ns.length cn, .int .i64 ck, .int .i64 ci, .string cs, .slice ad cl.length cd, .slice ak l.length c]] w0 fun e w' => e = .returned (.int .i64 (checkE (.mk k nm ns (.mk ck ci cs cl) l))) ∧ Below w0.heap.size w0 w') := Lib.hid (rcheck_any _ S _ _ _ w0 (HI.out.below zb))
  have hq : (checkE (.mk k nm ns (.mk ck ci cs cl) l) != 0) = true := by simpa using hc
  generalize checkE (.mk k nm ns (.mk ck ci cs cl) l) = c0 at *
  obtain ⟨x0, x1, x2, x3, x4, x5, x6, x7⟩ := look8q z0
  clear hw0 z0 z1 zb hc HI
  go_enter Tryz.func10, Tryz.ntmps10
  go_upto_region 1 with fail
  rw [HW0.out]
  go_wp2_with fail
  refine KC.out.mono ?_
  rintro e w1 ⟨rfl, hb1⟩
  have HB1 := Lib.hid (ZB.out.trans (hb1.mono ZB.out.size))
  have Z2 := Lib.hid ((hb1.block (w.heap.size + 1) (lt_of_block Z1.out)).trans Z1.out)
  clear hb1 x0 x1 x2 x3 x4 x5 x6 x7 hs0
  obtain ⟨t0, t1, t2, t3, t4, t5, t6, t7⟩ := look8q Z2.out
  obtain ⟨g0, g1, g2, g3, g4, g5, g6, g7⟩ := free8q Z2.out
  have HZ5 := Lib.hid (put8 (v0 := .int .i64 0) (v1 := .string ⟨#[]⟩) (v2 := .slice none 0 0) (v3 := .int .i64 0) (v4 := .int .i64 0) (v5 := .string ⟨#[]⟩) (v6 := .slice none 0 0) (v7 := .slice none 0 0) Z2.out)
  have HB6 := Lib.hid (below8 HB1.out (Nat.le_succ w.heap.size) (.int .i64 0) (.string ⟨#[]⟩) (.slice none 0 0) (.int .i64 0) (.int .i64 0) (.string ⟨#[]⟩) (.slice none 0 0) (.slice none 0 0))
  go_wp2
  exact bodyPost_ret (results_cell_row (P := Tryz.prog) rfl _ _ (w.heap.size + 1) 28 _ (0, 0) _ rfl HZ5.out Tryz.underlying28 rfl (by kernel_rfl)) rfl ⟨rfl, HB6.out⟩
/-- What the two calls leave. -/
def R3r (T : PE) (C X : Nat) (av : Value) : Nat → Value → World → Prop
  | 0, v, _ => v = av
  | 1, v, _ => v = av
  | 2, v, W => ∃ a c, v = .slice a (standL T).length c ∧ InN W (fun _ => True) (standL T) (.slice a (standL T).length c)
  | 3, v, W => ∃ t' x y z n, RenR (standL T) (fun _ => []) 0 T t' n ∧ v = .tuple #[t'.val x y z, .int .i64 (n : Int)] ∧ InF W (fun b => b ≠ X) t' x y z
  | 4, v, W => ∃ t' x y z n, RenR (standL T) (fun _ => []) 0 T t' n ∧ v = .tuple #[t'.val x y z, .int .i64 (n : Int)] ∧ InF W (fun b => b ≠ X) t' x y z
  | 5, v, W => ∃ t' x y z n, RenR (standL T) (fun _ => []) 0 T t' n ∧ v = t'.val x y z ∧ InF W (fun b => b ≠ X) t' x y z
  | 6, v, _ => ∃ n : Int, v = .int .i64 n
  | 7, v, W => ∃ q, v = .pointer (some ⟨q, 0, none⟩) ∧ C ≤ q ∧ W.heap[q]? = some (.cells #[.int .i64 0, .string ⟨#[]⟩, .slice none 0 0, .int .i64 0, .int .i64 0, .string ⟨#[]⟩, .slice none 0 0, .slice none 0 0] 28)
  | 9, v, _ => ∃ n : Int, v = .int .i64 n
  | _, _, _ => True
theorem R3r.mono {T : PE} {C X : Nat} {av : Value} : ∀ (i : Nat) (v : Value) (W W' : World), R3r T C X av i v W → Below W.heap.size W W' → R3r T C X av i v W' := by
  intro i v W W' h hb
  rcases i with _ | _ | _ | _ | _ | _ | _ | _ | _ | _ | i
  · exact h
  · exact h
  · exact h.elim fun a h => h.elim fun c h => ⟨a, c, h.1, h.2.below hb⟩
  · obtain ⟨t', x, y, z, n, h1, h2, h3⟩ := h
    exact ⟨t', x, y, z, n, h1, h2, h3.below hb⟩
  · obtain ⟨t', x, y, z, n, h1, h2, h3⟩ := h
    exact ⟨t', x, y, z, n, h1, h2, h3.below hb⟩
  · obtain ⟨t', x, y, z, n, h1, h2, h3⟩ := h
    exact ⟨t', x, y, z, n, h1, h2, h3.below hb⟩
  · exact h
  · obtain ⟨q, h1, h2, h3⟩ := h
    exact ⟨q, h1, h2, (hb.block q (lt_of_block h3)).trans h3⟩
  · exact trivial
  · exact h
  · exact trivial
/-- .. apart from the block that is pointed at. -/
def E3r (T : PE) (X : Nat) : Nat → Value → Value → World → Prop
  | 3, v, u, W => ∀ q, u = .pointer (some ⟨q, 0, none⟩) → ∃ t' x y z n, RenR (standL T) (fun _ => []) 0 T t' n ∧ v = .tuple #[t'.val x y z, .int .i64 (n : Int)] ∧ InF W (fun b => b ≠ q ∧ b ≠ X) t' x y z
  | 4, v, u, W => ∀ q, u = .pointer (some ⟨q, 0, none⟩) → ∃ t' x y z n, RenR (standL T) (fun _ => []) 0 T t' n ∧ v = .tuple #[t'.val x y z, .int .i64 (n : Int)] ∧ InF W (fun b => b ≠ q ∧ b ≠ X) t' x y z
  | 5, v, u, W => ∀ q, u = .pointer (some ⟨q, 0, none⟩) → ∃ t' x y z n, RenR (standL T) (fun _ => []) 0 T t' n ∧ v = t'.val x y z ∧ InF W (fun b => b ≠ q ∧ b ≠ X) t' x y z
  | _, _, _, _ => True
theorem E3r.mono {T : PE} {X : Nat} : ∀ (i : Nat) (v u : Value) (W W' : World), E3r T X i v u W → Below W.heap.size W W' → E3r T X i v u W' := by
  intro i v u W W' h hb
  rcases i with _ | _ | _ | _ | _ | _ | i
  · exact trivial
  · exact trivial
  · exact trivial
  all_goals first
    | exact trivial
    | (intro q e
       obtain ⟨t', x, y, z, n, h1, h2, h3⟩ := h q e
       exact ⟨t', x, y, z, n, h1, h2, h3.below hb⟩)
theorem E3r.new {T : PE} {C X : Nat} {av : Value} {W : World} {o : Obj} : ∀ (i : Nat) (v : Value), R3r T C X av i v W → E3r T X i v (.pointer (some ⟨W.heap.size, 0, none⟩)) (W.alloc o) := by
  intro i v h
  have hw : Below W.heap.size W (W.alloc o) := (Below.refl _ _).alloc (Nat.le_refl _) o
  have hm : ∀ {t' : PE} {x y z : Value}, InF W (fun b => b ≠ X) t' x y z → InF (W.alloc o) (fun b => b ≠ W.heap.size ∧ b ≠ X) t' x y z := fun h3 => h3.move (fun b hb hlt => ⟨by omega, hb⟩) fun _ _ _ _ hc => cell_below hw hc
  rcases i with _ | _ | _ | _ | _ | _ | i
  · exact trivial
  · exact trivial
  · exact trivial
  all_goals first
    | exact trivial
    | (intro q e
       cases e
       obtain ⟨t', x, y, z, n, h1, h2, h3⟩ := h
       exact ⟨t', x, y, z, n, h1, h2, hm h3⟩)
/-- What is known once it is stored. -/
def R3l (q : Nat) : Nat → Value → Prop
  | 4, v => ∃ x n, v = .tuple #[x, .int .i64 n]
  | 6, v => ∃ n : Int, v = .int .i64 n
  | 7, v => v = .pointer (some ⟨q, 0, none⟩)
  | 9, v => ∃ n : Int, v = .int .i64 n
  | _, _ => True
def T3r (T : PE) (w : World) (q : Nat) (W : World) : Prop :=
  ∃ uk un uns uck uci ucs ucl ul uan ucn uad ucd uak uc n, RenR (standL T) (fun _ => []) 0 T (.mk uk un uns (.mk uck uci ucs ucl) ul) n ∧ W.heap[q]? = some (.cells #[.int .i64 uk, .string un, .slice uan uns.length ucn, .int .i64 uck, .int .i64 uci, .string ucs, .slice uad ucl.length ucd, .slice uak ul.length uc] 28) ∧ InF W (fun b => b ≠ w.heap.size + 1) (.mk uk un uns (.mk uck uci ucs ucl) ul) (.slice uan uns.length ucn) (.slice uad ucl.length ucd) (.slice uak ul.length uc) ∧ W.heap[w.heap.size + 1]? = some (.cells #[.int .i64 0, .string ⟨#[]⟩, .slice none 0 0, .int .i64 0, .int .i64 0, .string ⟨#[]⟩, .slice none 0 0, .slice none 0 0] 28) ∧ Below w.heap.size w W ∧ w.heap.size + 1 < q
set_option maxHeartbeats 4000000 in
theorem rrename_any (t : PE) (S : Nat → Prop) (vn vd vk : Value) (w : World) (h : InF w S t vn vd vk) (hS : ∀ b, S b → b < w.heap.size) (hok : checkE t = 0) :
    Calls Tryz.prog 10 #[t.val vn vd vk] w fun e w' => (∃ t' x y z n, RenR (standL t) (fun _ => []) 0 t t' n ∧ e = .returned (t'.val x y z) ∧ InF w' (fun _ => True) t' x y z) ∧ Below w.heap.size w w' := by
  have hsz := size_of_check hok
  have hshort := stand_short t w S vn vd vk h
  obtain ⟨k, nm, ns, ⟨ck, ci, cs, cl⟩, l⟩ := t
  have HI := Lib.hid h
  obtain ⟨⟨-, -, an, cn, rfl, -⟩, ⟨-, -, -, ad, cd, rfl, -⟩, ak, c, rfl, -⟩ := h
  show Calls Tryz.prog 10 #[.agg #[.int .i64 k, .string nm, .slice an ns.length cn, .int .i64 ck, .int .i64 ci, .string cs, .slice ad cl.length cd, .slice ak l.length c]] w _
  obtain ⟨z0, z1, zb⟩ := two_new w (.cells #[.int .i64 k, .string nm, .slice an ns.length cn, .int .i64 ck, .int .i64 ci, .string cs, .slice ad cl.length cd, .slice ak l.length c] 28) (.cells #[.int .i64 0, .string ⟨#[]⟩, .slice none 0 0, .int .i64 0, .int .i64 0, .string ⟨#[]⟩, .slice none 0 0, .slice none 0 0] 28)
  have hs0 : ((w.alloc (.cells #[.int .i64 k, .string nm, .slice an ns.length cn, .int .i64 ck, .int .i64 ci, .string cs, .slice ad cl.length cd, .slice ak l.length c] 28)).alloc (.cells #[.int .i64 0, .string ⟨#[]⟩, .slice none 0 0, .int .i64 0, .int .i64 0, .string ⟨#[]⟩, .slice none 0 0, .slice none 0 0] 28)).heap.size = w.heap.size + 2 := by rw [size_new, size_new]
  generalize hw0 : (w.alloc (.cells #[.int .i64 k, .string nm, .slice an ns.length cn, .int .i64 ck, .int .i64 ci, .string cs, .slice ad cl.length cd, .slice ak l.length c] 28)).alloc (.cells #[.int .i64 0, .string ⟨#[]⟩, .slice none 0 0, .int .i64 0, .int .i64 0, .string ⟨#[]⟩, .slice none 0 0, .slice none 0 0] 28) = w0 at *
  have HW0 := Lib.hid hw0
  have Z0 := Lib.hid z0
  have Z1 := Lib.hid z1
  have ZB := Lib.hid zb
  have HS0 := Lib.hid hs0
  have KC : Hid (Calls Tryz.prog 18 #[.agg #[.int .i64 k, .string nm, .slice an ns.length cn, .int .i64 ck, .int .i64 ci, .string cs, .slice ad cl.length cd, .slice ak l.length c]] w0 fun e w' => e = .returned (.int .i64 (checkE (.mk k nm ns (.mk ck ci cs cl) l))) ∧ Below w0.heap.size w0 w') := Lib.hid (rcheck_any _ S _ _ _ w0 (HI.out.below zb))
  rw [hok] at KC
  generalize hT : PE.mk k nm ns (.mk ck ci cs cl) l = T at HI hsz hok hshort ⊢
  have HTV : Hid (T.val (.slice an ns.length cn) (.slice ad cl.length cd) (.slice ak l.length c) = .agg #[.int .i64 k, .string nm, .slice an ns.length cn, .int .i64 ck, .int .i64 ci, .string cs, .slice ad cl.length cd, .slice ak l.length c]) := Lib.hid (by rw [← hT]; rfl)
  have HSH := Lib.hid hshort
  have HSL := Lib.hid hS
  have KN : Hid (∀ W, Below w.heap.size w W → Calls Tryz.prog 29 #[.agg #[.int .i64 k, .string nm, .slice an ns.length cn, .int .i64 ck, .int .i64 ci, .string cs, .slice ad cl.length cd, .slice ak l.length c], .slice none 0 0] W fun e w' => (∃ a c, e = .returned (.slice a (standL T).length c) ∧ InN w' (fun _ => True) (standL T) (.slice a (standL T).length c)) ∧ Below W.heap.size W w') := Lib.hid fun W hW => by
    rw [← HTV.out]
    have h1 : OutT W W.heap.size [] (.slice none 0 0) := OutT.nil _ _
    refine (rnames_all_any T W S W.heap.size _ _ _ _ [] (HI.out.below hW) (fun b h => Nat.lt_of_lt_of_le (HSL.out b h) hW.size) h1 (Nat.le_refl _) (by have := stand_len T; simp only [List.length_nil]; omega)).mono ?_
    rintro e w' ⟨v, rfl, ho, hk, _⟩
    rw [List.nil_append] at ho
    have hb := hk.toBelow h1 (Nat.le_refl _)
    have hi := ho.inN (S := fun _ => True) HSH.out (fun _ _ => trivial)
    obtain ⟨a, c, rfl, _⟩ := ho.slice
    exact ⟨⟨a, c, rfl, hi⟩, hb⟩
  have KRN : Hid (∀ W a c', Below w.heap.size w W → InN W (fun _ => True) (standL T) (.slice a (standL T).length c') → Calls Tryz.prog 28 #[.agg #[.int .i64 k, .string nm, .slice an ns.length cn, .int .i64 ck, .int .i64 ci, .string cs, .slice ad cl.length cd, .slice ak l.length c], .slice none 0 0, .slice a (standL T).length c', .int .i64 0] W fun e w' => (∃ t' x y z n, RenR (standL T) (fun _ => []) 0 T t' n ∧ e = .returned (.tuple #[t'.val x y z, .int .i64 (n : Int)]) ∧ InF w' (fun b => S b ∨ W.heap.size ≤ b) t' x y z) ∧ Below W.heap.size W w') := Lib.hid fun W a c' hW hN => by
    rw [← HTV.out]
    refine (rren_any T W S _ _ _ (.slice none 0 0) _ (standL T) [] (fun _ => []) 0 (HI.out.below hW) (fun b h => Nat.lt_of_lt_of_le (HSL.out b h) hW.size) inPs_nil hN envP_nil (by have h1 := stand_len T; have h2 := restN_len (standL T) 0; omega) (by simp only [List.length_nil]; omega)).mono ?_
    rintro e w' ⟨⟨t', x, y, z, n', h1, h2, h3⟩, hb⟩
    exact ⟨⟨t', x, y, z, n', h1, h2, h3⟩, hb⟩
  obtain ⟨x0, x1, x2, x3, x4, x5, x6, x7⟩ := look8q z0
  clear hw0 z0 z1 zb hT hok hS hshort hs0 HI
  go_enter Tryz.func10, Tryz.ntmps10
  go_upto_region 1 with fail
  rw [HW0.out]
  go_wp2_with fail
  refine KC.out.mono ?_
  rintro e w1 ⟨rfl, hb1⟩
  have HB1 := Lib.hid (ZB.out.trans (hb1.mono ZB.out.size))
  have Z2 := Lib.hid ((hb1.block w.heap.size (lt_of_block Z0.out)).trans Z0.out)
  have Z3 := Lib.hid ((hb1.block (w.heap.size + 1) (lt_of_block Z1.out)).trans Z1.out)
  clear hb1 x0 x1 x2 x3 x4 x5 x6 x7
  go_upto_region 3 with fail
  have CC : Hid (∀ W, Below w1.heap.size w1 W → W.heap[w.heap.size]? = some (.cells #[.int .i64 k, .string nm, .slice an ns.length cn, .int .i64 ck, .int .i64 ci, .string cs, .slice ad cl.length cd, .slice ak l.length c] 28) ∧ W.heap[w.heap.size + 1]? = some (.cells #[.int .i64 0, .string ⟨#[]⟩, .slice none 0 0, .int .i64 0, .int .i64 0, .string ⟨#[]⟩, .slice none 0 0, .slice none 0 0] 28) ∧ Below w.heap.size w W) := Lib.hid fun W hW => ⟨(hW.block _ (lt_of_block Z2.out)).trans Z2.out, (hW.block _ (lt_of_block Z3.out)).trans Z3.out, HB1.out.trans (hW.mono HB1.out.size)⟩
  have hC1 : w.heap.size + 2 ≤ w1.heap.size := lt_of_block Z3.out
  refine Rg.wp_region_late 8 (by kernel_rfl) w1.heap.size (R3r T w1.heap.size (w.heap.size + 1) (.agg #[.int .i64 k, .string nm, .slice an ns.length cn, .int .i64 ck, .int .i64 ci, .string cs, .slice ad cl.length cd, .slice ak l.length c])) R3r.mono (Nat.le_refl _) 7 (E3r T (w.heap.size + 1)) E3r.mono (T3r T w) R3l (by kernel_rfl) (by decide) ?_ ?_ ?_ (by kernel_rfl) (by decide) ?_ ?_
  · intro i o d his hi hd hws hip vs W hb hR pl hpl
    obtain ⟨he, hz, hbw⟩ := CC.out W hb
    obtain ⟨x0, x1, x2, x3, x4, x5, x6, x7⟩ := look8q he
    have HR := Lib.hid hR
    have HPL := Lib.hid hpl
    have HBS := Lib.hid hb.size
    clear hR hpl he hz
    rcases i with _ | _ | _ | _ | _ | _ | _ | _ | _ | _ | i
    all_goals simp only [List.getElem?_cons_zero, List.getElem?_cons_succ, List.getElem?_nil, Option.some.injEq, reduceCtorEq] at hi
    all_goals try subst hi
    all_goals try simp only [Option.some.injEq, reduceCtorEq] at hd
    all_goals try subst hd
    all_goals try simp only [Rg.putAll, Act.put, List.setIfInBounds_toArray, List.set_cons_zero, List.set_cons_succ, Nat.zero_add, Nat.reduceAdd]
    · go_simp
      exact ⟨_, rfl, ⟨rfl, fun _ => trivial⟩, Below.refl _ _⟩
    · go_simp
      exact ⟨_, rfl, ⟨rfl, fun _ => trivial⟩, Below.refl _ _⟩
    · rw [show vs 1 = _ from (HR.out 1 (by decide) (by kernel_rfl))]
      go_simp
      refine (KN.out _ hbw).mono ?_
      rintro e w7 ⟨⟨a, c', rfl, hn⟩, hb7⟩
      exact ⟨_, rfl, ⟨⟨a, c', rfl, hn⟩, fun _ => trivial⟩, hb7⟩
    · rw [show vs 0 = _ from (HR.out 0 (by decide) (by kernel_rfl))]
      obtain ⟨a, c', e2, hn⟩ := (HR.out 2 (by decide) (by kernel_rfl) : ∃ a c, _ ∧ _)
      rw [e2]
      have HN := Lib.hid hn
      clear hn e2
      go_simp
      refine (KRN.out _ _ _ hbw HN.out).mono ?_
      rintro e w7 ⟨⟨t', x, y, z, n', h1, rfl, h3⟩, hb7⟩
      refine ⟨_, rfl, ⟨⟨t', x, y, z, n', h1, rfl, h3.move (fun b hb _ => by
        have h6 := HBS.out
        rcases hb with hb | hb
        · have := HSL.out b hb; omega
        · omega) fun _ _ _ _ h => h⟩, fun hp q e => ?_⟩, hb7⟩
      obtain ⟨q', e', hq1, hq2⟩ := ((HPL.out hp).1 : ∃ q, _ ∧ _ ∧ _)
      rw [e'] at e
      cases e
      exact ⟨t', x, y, z, n', h1, rfl, h3.move (fun b hb _ => by
        have h5 := lt_of_block hq2
        have h6 := HBS.out
        rcases hb with hb | hb
        · have := HSL.out b hb; omega
        · omega) fun _ _ _ _ h => h⟩
    · obtain ⟨t', x, y, z, n', h1, e2, h3⟩ := (HR.out 3 (by decide) (by kernel_rfl) : ∃ t' x y z n, _ ∧ _ ∧ _)
      have HE : Hid (pl → E3r T (w.heap.size + 1) 3 (vs 3) (vs 7) W) := Lib.hid fun hp => (HPL.out hp).2 3 (by decide) (by decide) (by kernel_rfl)
      rw [e2] at HE ⊢
      have H1 := Lib.hid h1
      have H3 := Lib.hid h3
      clear h1 e2 h3
      go_simp
      exact ⟨_, rfl, ⟨⟨t', x, y, z, n', H1.out, rfl, H3.out⟩, HE.out⟩, Below.refl _ _⟩
    · obtain ⟨t', x, y, z, n', h1, e2, h3⟩ := (HR.out 4 (by decide) (by kernel_rfl) : ∃ t' x y z n, _ ∧ _ ∧ _)
      have HE : Hid (pl → E3r T (w.heap.size + 1) 4 (vs 4) (vs 7) W) := Lib.hid fun hp => (HPL.out hp).2 4 (by decide) (by decide) (by kernel_rfl)
      rw [e2] at HE ⊢
      have H1 := Lib.hid h1
      have H3 := Lib.hid h3
      clear h1 e2 h3
      go_simp
      refine ⟨_, rfl, ⟨⟨t', x, y, z, n', H1.out, rfl, H3.out⟩, fun hp q e => ?_⟩, Below.refl _ _⟩
      obtain ⟨t5, x5, y5, z5, n5, g1, g2, g3⟩ := HE.out hp q e
      injection g2 with g2
      have g4 : t'.val x y z = t5.val x5 y5 z5 := by
        have := congrArg (fun a : Array Value => a[0]!) g2
        simpa using this
      exact ⟨t5, x5, y5, z5, n5, g1, g4, g3⟩
    · obtain ⟨t', x, y, z, n', h1, e2, h3⟩ := (HR.out 4 (by decide) (by kernel_rfl) : ∃ t' x y z n, _ ∧ _ ∧ _)
      rw [e2]
      clear h1 e2 h3
      go_simp
      exact ⟨_, rfl, ⟨⟨_, rfl⟩, fun _ => trivial⟩, Below.refl _ _⟩
    · exact absurd rfl hip
    · exact absurd (hws.symm.trans (by kernel_rfl)) Bool.false_ne_true
  · intro o d ho hd vs W hb
    simp only [List.getElem?_cons_zero, List.getElem?_cons_succ, Option.some.injEq] at ho
    subst ho
    simp only [Option.some.injEq] at hd
    subst hd
    simp only [Rg.putAll, Act.put, List.setIfInBounds_toArray, List.set_cons_zero, List.set_cons_succ, Nat.zero_add, Nat.reduceAdd]
    go_simp
    exact ⟨_, rfl, ⟨⟨_, rfl, hb.size, heap_alloc_new W _⟩, fun j _ _ h => E3r.new j _ h⟩, (Below.refl _ _).alloc (Nat.le_refl _) _⟩
  · intro i o d his hi hd hsw g vs W hT hR
    rcases i with _ | _ | _ | _ | _ | _ | _ | _ | _ | _ | i
    all_goals simp only [List.getElem?_cons_zero, List.getElem?_cons_succ, List.getElem?_nil, Option.some.injEq, reduceCtorEq] at hi
    all_goals try subst hi
    all_goals try simp only [Option.some.injEq, reduceCtorEq] at hd
    all_goals try subst hd
    all_goals try simp only [Rg.putAll, Act.put, List.setIfInBounds_toArray, List.set_cons_zero, List.set_cons_succ, Nat.zero_add, Nat.reduceAdd]
    · exact absurd (hsw.symm.trans (by kernel_rfl)) Bool.false_ne_true
    · exact absurd (hsw.symm.trans (by kernel_rfl)) Bool.false_ne_true
    · exact absurd (hsw.symm.trans (by kernel_rfl)) Bool.false_ne_true
    · exact absurd (hsw.symm.trans (by kernel_rfl)) Bool.false_ne_true
    · exact absurd (hsw.symm.trans (by kernel_rfl)) Bool.false_ne_true
    · exact absurd (hsw.symm.trans (by kernel_rfl)) Bool.false_ne_true
    · obtain ⟨x, n', e2⟩ := (hR 4 (by decide) (by kernel_rfl) : ∃ x n, _)
      rw [e2]
      clear hR e2 hT
      go_simp
      exact ⟨_, rfl, ⟨_, rfl⟩, rfl⟩
    · exact absurd (hsw.symm.trans (by kernel_rfl)) Bool.false_ne_true
    · obtain ⟨n', e2⟩ := (hR 6 (by decide) (by kernel_rfl) : ∃ n : Int, _)
      rw [e2]
      clear hR e2 hT
      go_simp
      exact ⟨_, rfl, ⟨_, rfl⟩, rfl⟩
  · intro o ho vs W hb hR hE
    simp only [List.getElem?_cons_zero, List.getElem?_cons_succ, Option.some.injEq] at ho
    subst ho
    simp only [Rg.putAll, Act.put, List.setIfInBounds_toArray, List.set_cons_zero, List.set_cons_succ, Nat.zero_add, Nat.reduceAdd]
    obtain ⟨q, e7, hq1, hq2⟩ := (hR 7 (by decide) (by kernel_rfl) : ∃ q, _ ∧ _ ∧ _)
    obtain ⟨⟨uk, un, uns, ⟨uck, uci, ucs, ucl⟩, ul⟩, x, y, z, n', h1, e5, h3⟩ := ((hE 5 (by decide) (by decide) (by kernel_rfl)) q e7 : ∃ t' x y z n, _ ∧ _ ∧ _)
    have H3 := Lib.hid h3
    obtain ⟨⟨-, -, uan, ucn, rfl, -⟩, ⟨-, -, -, uad, ucd, rfl, -⟩, uak, uc, rfl, -⟩ := h3
    obtain ⟨_, hz, hbw⟩ := CC.out W hb
    have e5' : vs 5 = .agg #[.int .i64 uk, .string un, .slice uan uns.length ucn, .int .i64 uck, .int .i64 uci, .string ucs, .slice uad ucl.length ucd, .slice uak ul.length uc] := e5
    have hall : ∀ j, j < 10 → j ≠ 8 → R3r T w1.heap.size (w.heap.size + 1) (.agg #[.int .i64 k, .string nm, .slice an ns.length cn, .int .i64 ck, .int .i64 ci, .string cs, .slice ad cl.length cd, .slice ak l.length c]) j (vs j) W → R3l q j (vs j) := by
      intro j hj hj8 h
      rcases j with _ | _ | _ | _ | _ | _ | _ | _ | _ | _ | j
      · exact trivial
      · exact trivial
      · exact trivial
      · exact trivial
      · obtain ⟨t4, x4, y4, z4, n4, _, h2, _⟩ := h
        exact ⟨_, _, h2⟩
      · exact trivial
      · exact h
      · exact e7
      · exact absurd rfl hj8
      · exact h
      · omega
    obtain ⟨t0, t1, t2, t3, t4, t5, t6, t7⟩ := look8q hq2
    obtain ⟨g0, g1, g2, g3, g4, g5, g6, g7⟩ := free8q hq2
    have HT : Hid (T3r T w q (((((((((W.setCell ⟨q, 0, none⟩ (.int .i64 uk)).setCell ⟨q, 1, none⟩ (.string un)).setCell ⟨q, 2, none⟩ (.slice uan uns.length ucn)).setCell ⟨q, 3, none⟩ (.int .i64 uck)).setCell ⟨q, 4, none⟩ (.int .i64 uci)).setCell ⟨q, 5, none⟩ (.string ucs)).setCell ⟨q, 6, none⟩ (.slice uad ucl.length ucd)).setCell ⟨q, 7, none⟩ (.slice uak ul.length uc)))) := Lib.hid ⟨uk, un, uns, uck, uci, ucs, ucl, ul, uan, ucn, uad, ucd, uak, uc, n', h1, put8 hq2, H3.out.move (fun b hb _ => hb.2) (fun b o y hb hc => by
        rw [World.cell?_of_block (w := W) (a := ⟨b, o, none⟩) (off8 _ _ _ _ _ _ _ _ hb.1)]; exact hc), (off8 _ _ _ _ _ _ _ _ (show w.heap.size + 1 ≠ q by omega)).trans hz, below8 hbw (by omega) _ _ _ _ _ _ _ _, by omega⟩
    have HALL := Lib.hid hall
    rw [e7, e5']
    clear hR hE h1 e5 e5' e7 hz hbw hall
    go_simp
    exact ⟨rfl, q, HT.out, fun j hj hjs h => HALL.out j hj hjs h⟩
  · intro q9 vs w9 hT hR
    simp only [Rg.putAll, Act.put, List.setIfInBounds_toArray, List.set_cons_zero, List.set_cons_succ, Nat.zero_add, Nat.reduceAdd]
    obtain ⟨uk, un, uns, uck, uci, ucs, ucl, ul, uan, ucn, uad, ucd, uak, uc, n', h1, hu, hi9, hz, hb9, hq9⟩ := hT
    rw [show vs 7 = _ from hR 7 (by decide) (by decide)]
    obtain ⟨zz, ez⟩ := (hR 9 (by decide) (by decide) : ∃ n : Int, _)
    rw [ez]
    have H1 := Lib.hid h1
    have ZU := Lib.hid hu
    have HI9 := Lib.hid hi9
    have Z9 := Lib.hid hz
    have HB9 := Lib.hid hb9
    have HQ9 := Lib.hid hq9
    clear hR h1 ez hu hi9 hz hb9 hq9
    generalize vs 0 = q0, vs 1 = q1, vs 2 = q2, vs 3 = q3, vs 4 = q4, vs 5 = q5, vs 6 = q6
    obtain ⟨u0, u1, u2, u3, u4, u5, u6, u7⟩ := look8q ZU.out
    obtain ⟨t0, t1, t2, t3, t4, t5, t6, t7⟩ := look8q Z9.out
    obtain ⟨g0, g1, g2, g3, g4, g5, g6, g7⟩ := free8q Z9.out
    have HZ5 := Lib.hid (put8 (v0 := .int .i64 uk) (v1 := .string un) (v2 := .slice uan uns.length ucn) (v3 := .int .i64 uck) (v4 := .int .i64 uci) (v5 := .string ucs) (v6 := .slice uad ucl.length ucd) (v7 := .slice uak ul.length uc) Z9.out)
    have HB6 := Lib.hid (below8 HB9.out (Nat.le_succ w.heap.size) (.int .i64 uk) (.string un) (.slice uan uns.length ucn) (.int .i64 uck) (.int .i64 uci) (.string ucs) (.slice uad ucl.length ucd) (.slice uak ul.length uc))
    have HFIN : Hid (InF (((((((((w9.setCell ⟨w.heap.size + 1, 0, none⟩ (.int .i64 uk)).setCell ⟨w.heap.size + 1, 1, none⟩ (.string un)).setCell ⟨w.heap.size + 1, 2, none⟩ (.slice uan uns.length ucn)).setCell ⟨w.heap.size + 1, 3, none⟩ (.int .i64 uck)).setCell ⟨w.heap.size + 1, 4, none⟩ (.int .i64 uci)).setCell ⟨w.heap.size + 1, 5, none⟩ (.string ucs)).setCell ⟨w.heap.size + 1, 6, none⟩ (.slice uad ucl.length ucd)).setCell ⟨w.heap.size + 1, 7, none⟩ (.slice uak ul.length uc))) (fun _ => True) (.mk uk un uns (.mk uck uci ucs ucl) ul) (.slice uan uns.length ucn) (.slice uad ucl.length ucd) (.slice uak ul.length uc)) := Lib.hid (HI9.out.move (fun _ _ _ => trivial) (fun b o y hb hc => by
      rw [World.cell?_of_block (w := w9) (a := ⟨b, o, none⟩) (off8 _ _ _ _ _ _ _ _ hb)]; exact hc))
    go_wp2
    exact bodyPost_ret (results_cell_row (P := Tryz.prog) rfl _ _ (w.heap.size + 1) 28 _ (0, 0) _ rfl HZ5.out Tryz.underlying28 rfl (by kernel_rfl)) rfl ⟨⟨.mk uk un uns (.mk uck uci ucs ucl) ul, _, _, _, n', H1.out, rfl, HFIN.out⟩, HB6.out⟩
end Go.Proofs.YtgajendgephkaaaGreatDoor.Core

namespace Go.Proofs.YtgajendgephkaaaGreatDoor.Core
open Go.ChangeShapes Go.WideShapes Go.ChangeAt Go.RowKit Go.Deep
open Dat (PT ok64 RepV RepS RowX)
set_option maxRecDepth 100000

/-- What both answer. -/
def RVx (T : PE) (v : Value) (W : World) : Prop :=
  ∃ t' x y z, v = t'.val x y z ∧ InF W (fun _ => True) t' x y z ∧ ((checkE T ≠ 0 ∧ t' = PE0) ∨ (checkE T = 0 ∧ ∃ n, RenR (standL T) (fun _ => []) 0 T t' n))
theorem RVx.below {T : PE} {v : Value} {W W' : World} (h : RVx T v W) (hb : Below W.heap.size W W') : RVx T v W' := by
  obtain ⟨t', x, y, z, h1, h2, h3⟩ := h
  exact ⟨t', x, y, z, h1, h2.below hb, h3⟩
theorem pe0_in2 {W : World} {S : Nat → Prop} : InF W S PE0 (.slice none 0 0) (.slice none 0 0) (.slice none 0 0) :=
  ⟨⟨by constructor <;> decide, by decide, inN_nil⟩, ⟨by constructor <;> decide, by constructor <;> decide, by decide, none, 0, rfl, Nat.le_refl _, Nat.zero_le _, fun _ => rfl, .inl rfl⟩, inK_nil⟩
theorem rv_same {T : PE} {v u : Value} {W : World} (h : RVx T v W) (g : RVx T u W) : Calls Tryz.prog 8 #[v, u] W fun e w' => e = .returned (.bool true) ∧ Below W.heap.size W w' := by
  obtain ⟨t1, x1, y1, z1, rfl, h2, h3⟩ := h
  obtain ⟨t2, x2, y2, z2, rfl, g2, g3⟩ := g
  have e : t1 = t2 := by
    rcases h3 with ⟨hc, rfl⟩ | ⟨hc, n, hr⟩
    · rcases g3 with ⟨_, rfl⟩ | ⟨gc, _⟩
      · rfl
      · exact absurd gc hc
    · rcases g3 with ⟨gc, _⟩ | ⟨_, m, gr⟩
      · exact absurd hc gc
      · exact rename_det hr gr
  subst e
  refine (sameE_any t1 t1 W _ _ _ _ _ _ _ _ h2 g2).mono ?_
  rintro e w' ⟨rfl, hb⟩
  refine ⟨?_, hb⟩
  simp [sameE]
def R9 (T : PE) (av : Value) : Nat → Value → World → Prop
  | 0, v, _ => v = .bool true
  | 1, v, _ => v = .bool true
  | 2, v, _ => v = av
  | 3, v, W => RVx T v W
  | 4, v, _ => v = av
  | 5, v, W => RVx T v W
  | 6, v, _ => v = .bool true
  | 7, v, _ => v = .bool true
  | _, _, _ => True
theorem R9.mono {T : PE} {av : Value} : ∀ (i : Nat) (v : Value) (W W' : World), R9 T av i v W → Below W.heap.size W W' → R9 T av i v W' := by
  intro i v W W' h hb
  rcases i with _ | _ | _ | _ | _ | _ | _ | _ | i
  all_goals first | exact h | exact RVx.below h hb
set_option maxHeartbeats 4000000 in
theorem renames_walk (t : PE) (vn vd vk : Value) (w : World) (h : InF w (fun b => b < w.heap.size) t vn vd vk) (ht : TabOk w) :
    Calls Tryz.prog 3 #[t.val vn vd vk] w fun e w' => e = .returned (.bool true) ∧ Below w.heap.size w w' := by
  have HTAB := Lib.hid ht
  have HGL := Lib.hid (lt_of_block ht.choose_spec.choose_spec)
  obtain ⟨k, nm, ns, ⟨ck, ci, cs, cl⟩, l⟩ := t
  have HI := Lib.hid h
  obtain ⟨⟨-, -, an, cn, rfl, -⟩, ⟨-, -, -, ad, cd, rfl, -⟩, ak, c, rfl, -⟩ := h
  show Calls Tryz.prog 3 #[.agg #[.int .i64 k, .string nm, .slice an ns.length cn, .int .i64 ck, .int .i64 ci, .string cs, .slice ad cl.length cd, .slice ak l.length c]] w _
  have z0 := heap_alloc_new w (.cells #[.int .i64 k, .string nm, .slice an ns.length cn, .int .i64 ck, .int .i64 ci, .string cs, .slice ad cl.length cd, .slice ak l.length c] 28)
  have hb0 := (Below.refl w.heap.size w).alloc (Nat.le_refl _) (.cells #[.int .i64 k, .string nm, .slice an ns.length cn, .int .i64 ck, .int .i64 ci, .string cs, .slice ad cl.length cd, .slice ak l.length c] 28)
  generalize hw0 : w.alloc (.cells #[.int .i64 k, .string nm, .slice an ns.length cn, .int .i64 ck, .int .i64 ci, .string cs, .slice ad cl.length cd, .slice ak l.length c] 28) = w0 at *
  have HW0 := Lib.hid hw0
  have Z0 := Lib.hid z0
  have HB0 := Lib.hid hb0
  have HTI : Hid (∀ W, Below w.heap.size w W → InF W (fun b => b < W.heap.size) (.mk k nm ns (.mk ck ci cs cl) l) (.slice an ns.length cn) (.slice ad cl.length cd) (.slice ak l.length c)) := Lib.hid fun W hW => (HI.out.below hW).move (fun _ _ h => h) fun _ _ _ _ h => h
  generalize hT : PE.mk k nm ns (.mk ck ci cs cl) l = T at HTI
  have HTV : Hid (T.val (.slice an ns.length cn) (.slice ad cl.length cd) (.slice ak l.length c) = .agg #[.int .i64 k, .string nm, .slice an ns.length cn, .int .i64 ck, .int .i64 ci, .string cs, .slice ad cl.length cd, .slice ak l.length c]) := Lib.hid (by rw [← hT]; rfl)
  have KFX : Hid (∀ W, Below w.heap.size w W → Calls Tryz.prog 7 #[] W fun e w' => e = .returned (.bool true) ∧ Below W.heap.size W w') := Lib.hid fun W hW => fixed_any W (tab_below HTAB.out HGL.out hW)
  have KCR : Hid (∀ W, Below w.heap.size w W → Calls Tryz.prog 9 #[.agg #[.int .i64 k, .string nm, .slice an ns.length cn, .int .i64 ck, .int .i64 ci, .string cs, .slice ad cl.length cd, .slice ak l.length c]] W fun e w' => (∃ v, e = .returned v ∧ RVx T v w') ∧ Below W.heap.size W w') := Lib.hid fun W hW => by
    rw [← HTV.out]
    by_cases hc : checkE T = 0
    · refine (rename_any T (fun b => b < W.heap.size) _ _ _ W (HTI.out W hW) (fun b h => h) (tab_below HTAB.out HGL.out hW) hc).mono ?_
      rintro e w' ⟨⟨t', x, y, z, n, rfl, hr, _, hi⟩, hb⟩
      exact ⟨⟨_, rfl, t', x, y, z, rfl, hi.move (fun _ _ _ => trivial) (fun _ _ _ _ h => h), .inr ⟨hc, n, hr⟩⟩, hb⟩
    · refine (rename_bad T (fun b => b < W.heap.size) _ _ _ W (HTI.out W hW) (fun b h => h) hc).mono ?_
      rintro e w' ⟨rfl, hb⟩
      exact ⟨⟨_, rfl, PE0, .slice none 0 0, .slice none 0 0, .slice none 0 0, rfl, pe0_in2, .inl ⟨hc, rfl⟩⟩, hb⟩
  have KRR : Hid (∀ W, Below w.heap.size w W → Calls Tryz.prog 10 #[.agg #[.int .i64 k, .string nm, .slice an ns.length cn, .int .i64 ck, .int .i64 ci, .string cs, .slice ad cl.length cd, .slice ak l.length c]] W fun e w' => (∃ v, e = .returned v ∧ RVx T v w') ∧ Below W.heap.size W w') := Lib.hid fun W hW => by
    rw [← HTV.out]
    by_cases hc : checkE T = 0
    · refine (rrename_any T (fun b => b < W.heap.size) _ _ _ W (HTI.out W hW) (fun b h => h) hc).mono ?_
      rintro e w' ⟨⟨t', x, y, z, n, hr, rfl, hi⟩, hb⟩
      exact ⟨⟨_, rfl, t', x, y, z, rfl, hi, .inr ⟨hc, n, hr⟩⟩, hb⟩
    · refine (rrename_bad T (fun b => b < W.heap.size) _ _ _ W (HTI.out W hW) hc).mono ?_
      rintro e w' ⟨rfl, hb⟩
      exact ⟨⟨_, rfl, PE0, .slice none 0 0, .slice none 0 0, .slice none 0 0, rfl, pe0_in2, .inl ⟨hc, rfl⟩⟩, hb⟩
  have CC : Hid (∀ W, Below w0.heap.size w0 W → W.heap[w.heap.size]? = some (.cells #[.int .i64 k, .string nm, .slice an ns.length cn, .int .i64 ck, .int .i64 ci, .string cs, .slice ad cl.length cd, .slice ak l.length c] 28) ∧ Below w.heap.size w W) := Lib.hid fun W hW => ⟨(hW.block _ (lt_of_block Z0.out)).trans Z0.out, HB0.out.trans (hW.mono HB0.out.size)⟩
  clear hw0 z0 hb0 ht hT
  go_enter Tryz.func3, Tryz.ntmps3
  go_upto_region 1 with fail
  rw [HW0.out]
  refine Rg.wp_region_guard 8 (by kernel_rfl) w0.heap.size (Nat.le_refl _) (R9 T (.agg #[.int .i64 k, .string nm, .slice an ns.length cn, .int .i64 ck, .int .i64 ci, .string cs, .slice ad cl.length cd, .slice ak l.length c])) R9.mono (by kernel_rfl) ?_ ?_
  · intro i o d hiL hi hd vs W hb hR
    obtain ⟨he, hbw⟩ := CC.out W hb
    obtain ⟨x0, x1, x2, x3, x4, x5, x6, x7⟩ := look8q he
    have HR := Lib.hid hR
    clear hR he
    rcases i with _ | _ | _ | _ | _ | _ | _ | _ | i
    all_goals simp only [List.getElem?_cons_zero, List.getElem?_cons_succ, Option.some.injEq] at hi
    all_goals try subst hi
    all_goals try simp only [Option.some.injEq] at hd
    all_goals try subst hd
    all_goals try simp only [List.take_succ_cons, List.take_zero, Rg.putAll, Act.put, List.setIfInBounds_toArray, List.set_cons_zero, List.set_cons_succ, Nat.zero_add, Nat.reduceAdd]
    · refine Rg.wpOp_go rfl rfl ?_
      go_simp
      refine (KFX.out _ hbw).mono ?_
      rintro e w7 ⟨rfl, hb7⟩
      exact ⟨_, rfl, rfl, hb7⟩
    · rw [show vs 0 = _ from (HR.out 0 (by decide) (by kernel_rfl))]
      refine Rg.wpOp_go rfl rfl ?_
      go_simp
      exact ⟨_, rfl, rfl, Below.refl _ _⟩
    · rw [show vs 1 = _ from (HR.out 1 (by decide) (by kernel_rfl))]
      refine Rg.wpOp_go rfl rfl ?_
      go_simp
      exact ⟨_, rfl, rfl, Below.refl _ _⟩
    · rw [show vs 1 = _ from (HR.out 1 (by decide) (by kernel_rfl))]
      rw [show vs 2 = _ from (HR.out 2 (by decide) (by kernel_rfl))]
      refine Rg.wpOp_go rfl rfl ?_
      go_simp
      refine (KCR.out _ hbw).mono ?_
      rintro e w7 ⟨⟨v, rfl, hv⟩, hb7⟩
      exact ⟨_, rfl, hv, hb7⟩
    · rw [show vs 1 = _ from (HR.out 1 (by decide) (by kernel_rfl))]
      refine Rg.wpOp_go rfl rfl ?_
      go_simp
      exact ⟨_, rfl, rfl, Below.refl _ _⟩
    · rw [show vs 1 = _ from (HR.out 1 (by decide) (by kernel_rfl))]
      rw [show vs 4 = _ from (HR.out 4 (by decide) (by kernel_rfl))]
      refine Rg.wpOp_go rfl rfl ?_
      go_simp
      refine (KRR.out _ hbw).mono ?_
      rintro e w7 ⟨⟨v, rfl, hv⟩, hb7⟩
      exact ⟨_, rfl, hv, hb7⟩
    · rw [show vs 1 = _ from (HR.out 1 (by decide) (by kernel_rfl))]
      refine Rg.wpOp_go rfl rfl ?_
      go_simp
      refine (rv_same (HR.out 3 (by decide) (by kernel_rfl) : RVx T (vs 3) W) (HR.out 5 (by decide) (by kernel_rfl) : RVx T (vs 5) W)).mono ?_
      rintro e w7 ⟨rfl, hb7⟩
      exact ⟨_, rfl, rfl, hb7⟩
    · rw [show vs 1 = _ from (HR.out 1 (by decide) (by kernel_rfl))]
      rw [show vs 6 = _ from (HR.out 6 (by decide) (by kernel_rfl))]
      refine Rg.wpOp_go rfl rfl ?_
      go_simp
      exact ⟨_, rfl, rfl, Below.refl _ _⟩
    · exact absurd hiL (by omega)
  · intro vs W hBW hR
    simp only [List.take_succ_cons, List.take_zero, List.drop_succ_cons, List.drop_zero, Rg.putAll, Act.put, List.setIfInBounds_toArray, List.set_cons_zero, List.set_cons_succ, Nat.zero_add, Nat.reduceAdd]
    rw [show vs 7 = _ from hR 7 (by decide)]
    have HF := Lib.hid (CC.out W hBW).2
    clear hR
    go_wp2
    go_ret
    exact ⟨rfl, HF.out⟩
end Go.Proofs.YtgajendgephkaaaGreatDoor.Core
