/-
Texts Q79, Q82, Q81, one behind the other (a claim bears sixty files). Conditions: as each says.
-/
import Derived.Test.YtpejhilfopjckaaDoorRG
import Derived.OrdersIn
import Derived.OwnWalkIn
import Derived.RangeFuncCalls
import Derived.Test.YtpejhilfopjckaaDoorQ50
import Derived.Test.YtpejhilfopjckaaDoorQ80
import Derived.Maps.OwnIn
import Derived.Deep.AppendLies

/-
What goes without a fence goes in a round of a range over a function as well: statements in their order, and such as Go leaves open. No condition.
-/
namespace Go.Proofs.YtpejhilfopjckaaDoor.Rg
open Go Go.RowKit

theorem operIn_of {P : Program} {n r : Nat} {o : Oper} {a : Act} {w : World} {K : Act → World → Prop} {Q : Exit → Act → World → Prop} (hd : ∀ c, o.op ≠ .defer c) (h : o.wp P a w K Q) : o.wpIn (Fence.wide.inRound r) n P a w K Q := by
  refine ⟨fun f _ => trivial, ?_⟩
  rw [Oper.semAt_plain _ _ _ hd]
  unfold Oper.wp at h
  cases hx : (execOp a.eval o).run P w with
  | ok nx w' =>
    rw [hx] at h
    cases nx with
    | value v => exact h
    | skip => exact h
    | defer d => exact h
    | enter f args => exact ⟨(fun e => by cases e), callsIn_wide.2 h⟩
    | row b args =>
      have h' : Rows P b args w' fun v w'' => K (a.put o.dst v) w'' := h
      refine ⟨(fun e => by cases e), fun c cs _ => ?_⟩
      obtain ⟨v, w2, r, s⟩ := h' c cs
      exact ⟨v, w2, r, stepsIn_wide.2 s⟩
    | _ => exact h.elim
  | halt s w' =>
    rw [hx] at h
    cases s <;> exact h
theorem opIn_of {P : Program} {ops : Array Oper} {n r i : Nat} {a : Act} {w : World} {K : Act → World → Prop} {Q : Exit → Act → World → Prop} (hd : ∀ o : Oper, ops[i]? = some o → ∀ c, o.op ≠ .defer c) (hL : ¬ LetsOut Q) (h : wpOp P ops Q i K a w) : wpOpIn (Fence.wide.inRound r) n P ops Q i K a w := by
  unfold wpOp at h
  unfold wpOpIn
  cases ho : ops[i]? with
  | none => rw [ho] at h; exact h
  | some o =>
    rw [ho] at h
    dsimp only at h ⊢
    by_cases hw : Region.wanted o (yielded ops a.tmps) = true
    · rw [if_pos hw] at h ⊢
      rcases h with h | h
      · exact operIn_of (hd o ho) h
      · exact absurd h.2 hL
    · rw [if_neg hw] at h ⊢
      exact ⟨fun _ _ => trivial, h⟩
theorem anyIn_of {P : Program} {md : Region.Mode} {ops : Array Oper} {n r : Nat} {Q : Exit → Act → World → Prop} (hd : ∀ (i : Nat) (o : Oper), ops[i]? = some o → ∀ c, o.op ≠ .defer c) (hL : ¬ LetsOut Q) : ∀ (fuel : Nat) (listed : Array Bool) (a : Act) (w : World),
    wpAny P md ops Q fuel listed a w → wpAnyIn (Fence.wide.inRound r) n P md ops Q fuel listed a w
  | 0, _, _, _, h => h
  | fuel + 1, _, _, _, h => ⟨h.1, fun i hi => wpOpIn_mono (fun a w => anyIn_of hd hL fuel _ a w) (opIn_of (hd i) hL (h.2 i hi))⟩
/-- The sixth law, ahead of the region. -/
theorem wpAny_region_inv {P : Program} {Q : Exit → Act → World → Prop} {a : Act} {w : World} {l : List Oper} (I : (Nat → Bool) → (Nat → Value) → World → Prop)
    (hf : formI a.tmps.size l = true) (h0 : ∀ vs, I (fun _ => false) vs w.drew)
    (hstep : ∀ i o, l[i]? = some o → ∀ (S : Nat → Bool) (vs : Nat → Value) W, I S vs W → S i = false → (∀ j, waits l i j = true → S j = true) → (∀ j k, S j = true → waits l j k = true → S k = true) →
      o.wp P (putAll a l vs 0) W (fun a' W' => ∃ v, a' = (putAll a l vs 0).put o.dst v ∧ I (fun j => if j = i then true else S j) (fun j => if j = i then v else vs j) W') Q)
    (hend : ∀ (vs : Nat → Value) W, I (fun j => decide (j < l.length)) vs W → Q .normal (putAll a l vs 0) W) :
    wpAny P .any l.toArray Q l.toArray.size (Array.replicate l.toArray.size false) a { w with drawn := w.drawn + 1 } := by
  unfold formI at hf
  simp only [Bool.and_eq_true] at hf
  obtain ⟨⟨⟨f1, f2⟩, f3⟩, f6⟩ := hf
  have hback : ∀ i o, l[i]? = some o → ∀ e ∈ o.after, Region.binds .any e = true → e.on < i := fun i o ho e he hb2 => by
    have h7 := List.all_eq_true.1 f6 i (List.mem_range.2 (List.getElem?_eq_some_iff.1 ho).1)
    rw [ho] at h7
    have h8 := Array.all_eq_true_iff_forall_mem.1 h7 e he
    rw [hb2] at h8
    simpa using h8
  have hpn : l.toArray.size = l.length := by simp
  have hgt : ∀ {listed : Array Bool} {j : Nat}, listed.size = l.length → j < l.length → listed.getD j false = listed.getD j true := fun {listed j} hsz hj => by
    rw [Array.getD_eq_getD_getElem?, Array.getD_eq_getD_getElem?, Array.getElem?_eq_getElem (by omega)]
    rfl
  refine wpAny_inv (fun listed a' W => listed.size = l.length ∧ Down .any l listed ∧ ∃ vs, a' = putAll a l vs 0 ∧ I (fun j => listed.getD j false) vs W) ?_ ?_ _ _ _ _ ?_ ?_
  · rintro listed a' W ⟨hsz, hdn, vs, rfl, hI⟩ i hi
    obtain ⟨h1, o, h2, h3⟩ := mem_ready.1 hi
    rw [List.getElem?_toArray] at h2
    have hil : i < l.length := (List.getElem?_eq_some_iff.1 h2).1
    have hset : ∀ k, (listed.setIfInBounds i true).getD k true = if k = i then true else listed.getD k true := fun k => by
      rw [Array.getD_eq_getD_getElem?, Array.getD_eq_getD_getElem?, Array.getElem?_setIfInBounds]
      by_cases hk : k = i
      · subst hk; simp [hsz, hil]
      · rw [if_neg (fun e => hk e.symm), if_neg hk]
    have hsetf : (fun k => (listed.setIfInBounds i true).getD k false) = fun k => if k = i then true else listed.getD k false := by
      funext k
      rw [Array.getD_eq_getD_getElem?, Array.getD_eq_getD_getElem?, Array.getElem?_setIfInBounds]
      by_cases hk : k = i
      · subst hk; simp [hsz, hil]
      · rw [if_neg (fun e => hk e.symm), if_neg hk]
    have hset' : ∀ k, listed.getD k false = true → (listed.setIfInBounds i true).getD k false = true := fun k hk => by
      rw [Array.getD_eq_getD_getElem?] at hk ⊢
      rw [Array.getElem?_setIfInBounds]
      by_cases hki : i = k
      · rw [if_pos hki]; subst hki; simp [hsz, hil]
      · rw [if_neg hki]; exact hk
    have hdn' : Down .any l (listed.setIfInBounds i true) := fun k p hk hl e he hb2 => by
      rw [hset] at hl
      by_cases hki : k = i
      · subst hki
        obtain rfl : o = p := Option.some.inj (h2.symm.trans hk)
        exact hset' _ (h3 e he hb2)
      · rw [if_neg hki] at hl
        exact hset' _ (hdn k p hk hl e he hb2)
    have hgd : o.guard = none := by
      have := List.all_eq_true.1 f2 o (List.mem_of_getElem? h2)
      simpa using this
    have hlow : ∀ i j, i < l.length → waits l i j = true → j < l.length := fun i j hil hj => by
      unfold waits at hj
      refine ups_below hback l.length _ (fun k hk => ?_) j (by simpa using hj)
      rw [List.getElem?_eq_getElem hil] at hk
      obtain ⟨e, he, rfl⟩ := List.mem_map.1 hk
      obtain ⟨g1, g2⟩ := List.mem_filter.1 he
      have := hback i _ (List.getElem?_eq_getElem hil) e (by simpa using g1) g2
      omega
    have hdeps : ∀ j, waits l i j = true → listed.getD j false = true := fun j hw => by
      rw [hgt hsz (hlow i j hil hw)]
      exact waits_listed hdn hw hi
    have hclosed : ∀ j k, listed.getD j false = true → waits l j k = true → listed.getD k false = true := fun j k hj hw => by
      have hjl : j < l.length := by
        rw [Array.getD_eq_getD_getElem?] at hj
        cases hx : listed[j]? with
        | none => rw [hx] at hj; cases hj
        | some y => have := (Array.getElem?_eq_some_iff.1 hx).1; omega
      rw [hgt hsz (hlow j k hjl hw)]
      unfold waits at hw
      refine ups_listed hdn l.length _ (fun m hm => ?_) k (by simpa using hw)
      rw [List.getElem?_eq_getElem hjl] at hm
      obtain ⟨e, he, rfl⟩ := List.mem_map.1 hm
      obtain ⟨g1, g2⟩ := List.mem_filter.1 he
      exact getD_true (hdn j _ (List.getElem?_eq_getElem hjl) (getD_true hj) e (by simpa using g1) g2)
    unfold wpOp
    rw [List.getElem?_toArray, h2]
    simp only [Region.wanted, hgd, if_true]
    refine .inl ?_
    refine Oper.wp_mono (fun a2 W2 hq => ?_) (hstep i o h2 _ vs W hI (by rw [hgt hsz hil]; exact h1) hdeps hclosed)
    obtain ⟨v, rfl, hv⟩ := hq
    refine ⟨by simp [hsz], hdn', fun j => if j = i then v else vs j, ?_, ?_⟩
    · have := putAll_at l a vs 0 i o v f1 h2
      rw [Nat.zero_add] at this
      exact this
    · rw [hsetf]
      exact hv
  · rintro listed a' W ⟨hsz, hdn, vs, rfl, hI⟩ hrd
    have hall : ∀ j, j < l.length → listed.getD j true = true := fun j hj => Classical.byContradiction fun hc => by
      have hex : ∃ i, i < l.length ∧ listed.getD i true = false := ⟨j, hj, by simpa using hc⟩
      obtain ⟨i, ⟨hlt, hun⟩, hmin⟩ := least hex
      have := ready_least hsz hback hlt hun fun k hk => by
        cases hx : listed.getD k true with
        | true => rfl
        | false => exact absurd ⟨by omega, hx⟩ (hmin k hk)
      rw [hrd] at this
      cases this
    have e : (fun j => listed.getD j false) = fun j => decide (j < l.length) := by
      funext j
      by_cases hj : j < l.length
      · rw [hgt hsz hj, hall j hj, decide_eq_true hj]
      · rw [decide_eq_false hj, Array.getD_eq_getD_getElem?, Array.getElem?_eq_none (by omega)]
        rfl
    rw [e] at hI
    exact hend vs W hI
  · rw [hpn]
    unfold unl
    exact Nat.le_trans List.countP_le_length (by simp)
  · refine ⟨by simp, ?_, slots a l, ?_, ?_⟩
    · intro i o ho hl
      have hil : i < l.length := (List.getElem?_eq_some_iff.1 ho).1
      rw [Array.getD_eq_getD_getElem?, Array.getElem?_replicate] at hl
      simp [hil] at hl
    · refine (putAll_slots l a (slots a l) 0 (fun o ho d hd => ?_) fun i o d hi hd => ?_).symm
      · have h7 := List.all_eq_true.1 f3 o ho
        rw [hd] at h7
        simpa using h7
      · unfold slots; rw [Nat.zero_add, hi]; simp [hd]
    · have e : (fun j => (Array.replicate l.toArray.size false).getD j false) = fun _ => false := by
        funext j
        rw [Array.getD_eq_getD_getElem?, Array.getElem?_replicate]
        split <;> rfl
      rw [e]
      exact h0 _
/-- A step that has a value of which K is known. -/
def StK (K : Value → World → Prop) (A : Act) (d : Option Tmp) (a' : Act) (W' : World) : Prop := ∃ v, a' = A.put d v ∧ K v W'
/-- The same, what is known behind a step being hidden. -/
theorem wpAny_region_invK {P : Program} {Q : Exit → Act → World → Prop} {a : Act} {w : World} {l : List Oper} (I : (Nat → Bool) → (Nat → Value) → World → Prop)
    (hf : formI a.tmps.size l = true) (h0 : ∀ vs, I (fun _ => false) vs w.drew)
    (hstep : ∀ i o, l[i]? = some o → ∀ (S : Nat → Bool) (vs : Nat → Value) W, I S vs W → S i = false → (∀ j, waits l i j = true → S j = true) → (∀ j k, S j = true → waits l j k = true → S k = true) →
      ∀ K : Value → World → Prop, (∀ v W', I (fun j => if j = i then true else S j) (fun j => if j = i then v else vs j) W' → K v W') → o.wp P (putAll a l vs 0) W (StK K (putAll a l vs 0) o.dst) Q)
    (hend : ∀ (vs : Nat → Value) W, I (fun j => decide (j < l.length)) vs W → Q .normal (putAll a l vs 0) W) :
    wpAny P .any l.toArray Q l.toArray.size (Array.replicate l.toArray.size false) a { w with drawn := w.drawn + 1 } :=
  wpAny_region_inv I hf h0 (fun i o ho S vs W hI hS hd hc => hstep i o ho S vs W hI hS hd hc _ (fun _ _ h => h)) hend
end Go.Proofs.YtpejhilfopjckaaDoor.Rg

/-
Package heap's parts where the rounds may turn what is none of the thing's; textOf. No condition but that the thing's cells lie in memory, and a bound on how many parts there are.
-/
namespace Go.Proofs.YtpejhilfopjckaaDoor.Hp
open Go.ChangeShapes Go.WideShapes Go.ChangeAt Go.RowKit Go.Deep Go.Shelf
open Dat (PT ok64 RepV RepS RowX infoDatum)
set_option maxRecDepth 100000
attribute [local go_sem] Oper.semAt_some

theorem take_snocA {α : Type} {l : List α} {j : Nat} (h : j < l.length) : l.take j ++ [l[j]] = l.take (j + 1) := by simp
set_option maxHeartbeats 2000000 in
/-- The iterator, where P says what the thing's cells are, and the rounds keep P; the parts as some row whose items tell them. -/
theorem partsK_in {α : Type} (φ : α → PV) (n : Nat) (hn : 1 ≤ n) (l Bn tb o : Nat) (xs : List α) (hxs : xs.length ≤ 1000000) (P : World → Prop) (Kp : World → World → Prop)
    (hP1 : ∀ W, P W → W.cell? ⟨Bn, 0, none⟩ = some (.pointer (some ⟨tb, o, none⟩)) ∧ PieceC W tb o (xs.map φ)) (hP2 : ∀ A B, P A → Below A.heap.size A B → P B) (hP3 : ∀ A B, P A → Kp A B → P B) (J Jx : List α → World → Prop)
    (hY : ∀ pre x W, J pre W → pre.length < xs.length → YieldAt Fence.wide (n - 1) Tryd.prog l (encV (φ x)) W fun e W' =>
      (e = .returned (.bool true) ∧ J (pre ++ [x]) W' ∧ Kp W W') ∨ (e = .returned (.bool false) ∧ Jx (pre ++ [x]) W'))
    (W : World) (hW : P W) (B : Nat) (hJ : AbidesFrom B J) (h0 : J [] W) :
    CallsIn Fence.wide n Tryd.prog 61 #[.func (.yield l) #[] #[], .pointer (some ⟨Bn, 0, none⟩)] W fun e W' => (∃ v, e = .returned v) ∧
      ((∃ ys, ys = xs ∧ J ys W') ∨ (∃ pre, pre <+: xs ∧ Jx pre W')) := by
  have hc0 := (hP1 W hW).1
  have hc1 := (hP1 W hW).2.1
  rw [List.length_map] at hc1
  refine callsIn_of_wp Tryd.func61 rfl trivial ?_ rfl
  simp only [Tryd.ntmps61, List.size_toArray, List.length_cons, List.length_nil, Nat.reduceAdd, Nat.reduceSub, Array.replicate_succ, Array.replicate_zero, List.push_toArray, List.append_toArray, List.nil_append, List.cons_append]
  gi_wp2
  clear hc0 hc1
  gi_loopw [10] (fun x wr => ∃ j : Nat, j ≤ xs.length ∧ x = .int .i64 (j : Int) ∧ P wr ∧ J (xs.take j) wr) (fun x _ => xs.length - (Lib.intOf x).toNat)
  case atStart => exact ⟨0, Nat.zero_le _, rfl, hW, h0⟩
  case round =>
    obtain ⟨j, hj, rfl, hb, hJs⟩ := hrel
    have hc0 := (hP1 _ hb).1
    by_cases hlt : j < xs.length
    · have hlm : j < (xs.map φ).length := by rw [List.length_map]; exact hlt
      have KP0 := part_gen tb o (xs.map φ).length j (xs.map φ)[j] wr ((hP1 _ hb).2.2 j hlm)
      rw [List.getElem_map] at KP0
      have HY := Lib.hid (fun W3 (h3 : Below wr.heap.size wr W3) => hY (xs.take j) xs[j] W3 (hJ _ _ _ none hJs (grown_below h3) (fun r e => by cases e)) (by simp; omega))
      have HS := Lib.hid (take_snocA hlt)
      have hi1 : (j : Int) < (xs.length : Int) := by omega
      have HB := Lib.hid hb
      generalize xs[j] = a at KP0 HY HS
      generalize φ a = u at KP0 HY
      obtain ⟨uk, ui, us⟩ := u
      unfold VE at KP0
      dsimp only at KP0
      have KP := Lib.hid KP0
      clear hJs hb KP0
      gi_wp2_with (refine ⟨trivial, ?_⟩; gi_at_call 51; refine (callsIn_wide.2 KP.out).mono ?_; rintro e w2 ⟨rfl, hb2⟩; obtain ⟨fn, tmps, assign, body, hy, hR⟩ := HY.out (w2.alloc (.cells #[.int .i64 uk, .int .i64 ui, .string us] 36)) (hb2.alloc hb2.size _); unfold encV at hy; dsimp only at hy)
      refine hR.mono ?_
      rintro e W3 (⟨rfl, hJ3, hk3⟩ | ⟨rfl, hJx3⟩)
      · gi_wp2
        exact ⟨⟨j + 1, by omega, by go_num, hP3 _ _ (hP2 _ _ HB.out (hb2.alloc hb2.size _)) hk3, by rw [← HS.out]; exact hJ3⟩, by simp [Lib.intOf]; omega⟩
      · gi_wp2
        refine bodyPost_ret (results_none rfl _ _ _) rfl ?_
        exact ⟨⟨_, rfl⟩, .inr ⟨_, by rw [HS.out]; exact List.take_prefix _ _, hJx3⟩⟩
    · obtain rfl : j = xs.length := by omega
      gi_wp2
      go_end0
      exact ⟨⟨_, rfl⟩, .inl ⟨_, rfl, by rw [List.take_length] at hJs; exact hJs⟩⟩
/-- As the contract of an iterator. -/
theorem partsK_seq {α : Type} (φ : α → PV) (n : Nat) (hn : 1 ≤ n) (Bn tb o : Nat) (xs : List α) (hxs : xs.length ≤ 1000000) (P : World → Prop) (Kp : World → World → Prop)
    (hP1 : ∀ W, P W → W.cell? ⟨Bn, 0, none⟩ = some (.pointer (some ⟨tb, o, none⟩)) ∧ PieceC W tb o (xs.map φ)) (hP2 : ∀ A B, P A → Below A.heap.size A B → P B) (hP3 : ∀ A B, P A → Kp A B → P B) (w : World) (hw : P w) :
    SeqStopsK Fence.wide n Tryd.prog 61 #[.pointer (some ⟨Bn, 0, none⟩)] (fun x => encV (φ x)) Kp (fun ys => ys = xs) (fun pre => pre <+: xs) xs.length w := by
  intro l J Jx W hW hJ _ hY h0
  exact partsK_in φ n hn l Bn tb o xs hxs P Kp hP1 hP2 hP3 J Jx hY W (hP2 _ _ hw hW) _ hJ h0

/-- The cells of bytes. -/
def bCells (l : List UInt8) : List Value := l.map fun b => .int .u8 (b.toNat : Int)
theorem bCells_append (a b : List UInt8) : bCells (a ++ b) = bCells a ++ bCells b := List.map_append
theorem bytesL_append (a b : List PV) : bytesL (a ++ b) = bytesL a ++ bytesL b := List.map_append
theorem bytesL_len (a : List PV) : (bytesL a).length = a.length := List.length_map _
theorem infoByte : (Tryd.prog.info? 5).map (fun i => (i.zero, i.size, i.bytes)) = some (some (.int .u8 0), 1, 1) := by kernel_rfl
/-- The string of a row of bytes of one's own. -/
theorem conv_bytes {W : World} {C : Nat} {l : List UInt8} {v : Value} (h : W.ownsRow C 5 1 v l.length (bCells l)) : (convert 119 9 v).run Tryd.prog W = .ok (.string ⟨l.toArray⟩) W := by
  rcases h.2 with ⟨rfl, h0⟩ | ⟨g, cap, cur, rfl, h1, h2, h3, h4, h5, h6⟩
  · obtain rfl := List.length_eq_zero_iff.1 h0
    kernel_rfl
  · exact run_convert_bytes_back W 119 9 5 ⟨g, 0, none⟩ cap l Tryd.underlying119 Tryd.underlying5 Tryd.underlying9 (fun j hj => by
      rw [add_plain, Nat.zero_add]
      have := h.cells (g := g) rfl j (.int .u8 (l[j].toNat : Int)) (by simp [bCells, hj])
      simpa [add_plain] using this)
set_option maxHeartbeats 2000000 in
/-- textOf, against whatever iterator. -/
theorem textOf_in (n : Nat) (hn : 2 ≤ n) (g : Nat) (lb : Array Value) (eg : ∀ args w, (callFunc g args).run Tryd.prog w = .ok (.enter g args) w) (xs : List PV) (hxs : xs.length ≤ 1000000) (w : World)
    (hseq : SeqStopsK Fence.wide (n - 1) Tryd.prog g lb encV (Below w.heap.size) (fun ys => ys = xs) (fun pre => pre <+: xs) xs.length w) :
    CallsIn Fence.wide n Tryd.prog 65 #[.func (.func g) #[] lb] w fun e w' => e = .returned (.string (textB xs)) ∧ Below w.heap.size w w' := by
  have h1 : 1 ≤ n := by omega
  obtain ⟨i0, hi, hz0, hz1, hz2⟩ := info_parts infoByte
  refine callsIn_of_wp_marks Tryd.func65 rfl trivial ?_ rfl
  simp only [Tryd.ntmps65, List.size_toArray, List.length_cons, List.length_nil, Nat.reduceAdd, Nat.reduceSub, Array.replicate_succ, Array.replicate_zero, List.push_toArray, List.append_toArray, List.nil_append, List.cons_append]
  gi_wp2
  have bO := Boxed.new w 119 (.slice none 0 0)
  have hB0 : Below w.heap.size w (w.alloc (.cells #[.slice none 0 0] 119)) := (Below.refl _ w).alloc (Nat.le_refl _) _
  have hsz : (w.alloc (.cells #[.slice none 0 0] 119)).heap.size = w.heap.size + 1 := by simp
  obtain ⟨W0, hW0⟩ : ∃ W0, w.alloc (.cells #[.slice none 0 0] 119) = W0 := ⟨_, rfl⟩
  rw [hW0] at bO hB0 hsz ⊢
  clear hW0
  refine wpIn_rangeFunc_ownH rfl h1 (gf := g) (lb := lb) rfl trivial eg hseq belowK_t (belowK_b (by omega)) hB0 (fun _ => rfl)
    (fun pre W => (∃ v, Boxed W w.heap.size 119 v ∧ W.ownsRow w.heap.size 5 1 v pre.length (bCells (bytesL pre)) ∧ True) ∧ Below w.heap.size w W)
    (fun _ _ _ => False)
    (OwnFrom.and (Own.from (holdsRow_own w.heap.size w.heap.size 119 5 1 (fun pre => pre.length) (fun pre => bCells (bytesL pre)) (fun _ _ => True)) _) (ownFrom_below (Nat.le_refl _) (by omega)))
    (fun _ _ _ _ _ hs _ _ => hs)
    ⟨⟨_, bO, World.ownsRow_nil _ _ _ _, trivial⟩, hB0⟩
    (fun x a' W => ∃ Bx, w.heap.size < Bx ∧ BoxV W Bx x ∧ a' = { tmps := #[.func (.func g) #[] lb, undef, .string ⟨#[]⟩, .pointer (some ⟨w.heap.size, 0, none⟩), .pointer (some ⟨Bx, 0, none⟩), .func (.func g) #[] lb, .agg #[.int .i64 x.k, .int .i64 x.i, .string x.s], undef, undef, undef, undef, undef, undef, undef, undef], defers := [] })
    (fun x a' _ X Y row hs hg hr => by obtain ⟨Bx, h1, h2, h3⟩ := hs; exact ⟨Bx, h1, h2.kept hg (fun r e => (hr r e).2), h3⟩)
    ?assign ?body ?done ?stop
  case assign =>
    rintro l pre x W K ⟨⟨v, hv, hrow, _⟩, hB1⟩ hK
    unfold encV
    gi_wp2
    exact hK _ _ ((KeepsOthers.alloc _ _).from _) ((Below.refl _ W).alloc hB1.size _) ⟨⟨v, hv.alloc _, hrow.alloc _, trivial⟩, hB1.alloc hB1.size _⟩ ⟨W.heap.size, hv.lt, World.alloc_heap_new W _, rfl⟩
  case body =>
    rintro l pre x a' W hl ⟨r, hr⟩ ⟨⟨v, hv, hrow, _⟩, hB1⟩ ⟨Bx, hBx, bX, rfl⟩ hlt
    have cB := hv.cell
    have hE := Lib.hid (show bCells (bytesL (pre ++ [x])) = bCells (bytesL pre) ++ [.int .u8 (x.i % 256)] from by rw [bytesL_append, bCells_append]; simp [bytesL, bCells, btB_cell])
    obtain ⟨⟨x0, x1, x2⟩, -⟩ := look3 bX
    gi_wp2_with (gi_at_builtin; refine wpListIn_append_own _ rfl _ _ 119 rfl w.heap.size 5 i0 _ 1 1 Tryd.underlying119 hi hz0 hz1 hz2 rfl (by decide) _ _ _ rfl (hrow.alloc _) ⟨W.heap.size, 0, none⟩ 1 1 [.int .u8 (x.i % 256)] rfl rfl (World.news_of_block (heap_alloc_new W _)) (by simp [Value.oneCell']) (by unfold maxLen; omega) (by omega) (by have := hB1.size; simp; omega) ?_; intro v' w1 hown' hgrow _; obtain ⟨g', cap', rfl⟩ := ownsRow_succ hown'; obtain ⟨hv1, hv2, hr2, hk2, hb2⟩ := hv.appended (by decide) hrow hB1.size (Nat.le_refl _) hown' hgrow; have hc1 := hv1.cell; have hf1 := hv1.frozen)
    exact ⟨hk2.from _, hb2, ⟨_, hv2, by rw [hE.out]; simpa using hr2, trivial⟩, hB1.trans hb2⟩
  case done =>
    rintro D ys W hD rfl ⟨⟨v, hv, hrow, _⟩, hB1⟩ hK
    have cB := hv.cell
    have hcv := conv_bytes (l := bytesL ys) (by rw [bytesL_len]; exact hrow)
    gi_wp2
    refine ⟨by simp, .inl ⟨_, _, rfl, run_takeDeferred hK, ?_⟩⟩
    exact ⟨_, results_tmp rfl _ _ _, rfl, hB1.trans (belowK_b (w := w) (Nat.le_refl _) W D _ _ (by omega) hK rfl rfl)⟩
  case stop =>
    rintro D c pre W _ _ h _
    exact h.elim
/-- textOf of a thing's parts. -/
theorem textOf_any (Bn tb o : Nat) (xs : List PV) (hxs : xs.length ≤ 1000000) (w : World) (hBn : w.cell? ⟨Bn, 0, none⟩ = some (.pointer (some ⟨tb, o, none⟩))) (hP : PieceC w tb o xs) :
    Calls Tryd.prog 65 #[.func (.func 61) #[] #[.pointer (some ⟨Bn, 0, none⟩)]] w fun e w' => e = .returned (.string (textB xs)) ∧ Below w.heap.size w w' := by
  have hs : SeqStopsK Fence.wide (3 - 1) Tryd.prog 61 #[.pointer (some ⟨Bn, 0, none⟩)] encV (Below w.heap.size) (fun ys => ys = xs) (fun pre => pre <+: xs) xs.length w := by
    intro l J Jx W hW hJ _ hY h0
    exact parts1_in 2 (by decide) l Bn tb o xs hxs w J Jx hY W hW _ hJ hBn hP h0
  exact callsIn_wide.1 (textOf_in 3 (by decide) 61 #[.pointer (some ⟨Bn, 0, none⟩)] (enters_of Tryd.func61 (by kernel_rfl) rfl) xs hxs w hs)
end Go.Proofs.YtpejhilfopjckaaDoor.Hp

/-
Package heap's teller: rows of data of one's own; the append of a datum in a vector's round, a statement whose order Go leaves open. No condition.
-/
namespace Go.Proofs.YtpejhilfopjckaaDoor.Hp
open Go.ChangeShapes Go.WideShapes Go.ChangeAt Go.RowKit Go.Deep
open Dat (PT ok64 RepV RepS RowX infoDatum NewV NewS makeT make_any MakeOk numT numsT)
set_option maxRecDepth 100000

theorem cell_below {w w' : World} (hb : Below w.heap.size w w') {b o : Nat} {v : Value} (h : w.cell? ⟨b, o, none⟩ = some v) : w'.cell? ⟨b, o, none⟩ = some v := (hb.cell (p := ⟨b, o, none⟩) (World.block_lt_of_cell? _ _ h)).trans h
/-- A row of data of the call's own, from block C on; its data's rows lie in blocks of P, and not in its own. -/
def OutD (w : World) (C : Nat) (P : Nat → Prop) (l : List PT) (v : Value) : Prop :=
  ∃ xs, w.ownsRow C 50 4 v l.length xs ∧ RowX (InS w (fun b => P b ∧ some b ≠ v.ownBlock)) l xs
theorem OutD.nil (w : World) (C : Nat) (P : Nat → Prop) : OutD w C P [] (.slice none 0 0) := ⟨[], World.ownsRow_nil _ _ _ _, by rw [RowX]⟩
theorem OutD.below {w w' : World} {C : Nat} {P : Nat → Prop} {l : List PT} {v : Value} (h : OutD w C P l v) (hb : Below w.heap.size w w') : OutD w' C P l v := by
  obtain ⟨xs, ho, hx⟩ := h
  refine ⟨xs, ⟨ho.1, ho.2.imp id ?_⟩, RowX.imp (fun m u hm => hm.move (fun _ h _ => h) fun _ _ _ _ hc => cell_below hb hc) hx⟩
  rintro ⟨g, cap, cur, rfl, h1, h2, h3⟩
  exact ⟨g, cap, cur, rfl, h1, (hb.block g (lt_of_block h2)).trans h2, h3⟩
theorem OutD.slice {w : World} {C : Nat} {P : Nat → Prop} {l : List PT} {v : Value} (h : OutD w C P l v) : ∃ a c, v = .slice a l.length c ∧ (∀ b, v.ownBlock = some b → C ≤ b ∧ b < w.heap.size) := by
  obtain ⟨xs, ho, _⟩ := h
  have hl := ho.lt
  rcases ho.2 with ⟨rfl, h0⟩ | ⟨g, cap, cur, rfl, _⟩
  · exact ⟨none, 0, by rw [h0], hl⟩
  · exact ⟨_, cap, rfl, hl⟩
theorem OutD.ins {w : World} {C : Nat} {P : Nat → Prop} {l : List PT} {v : Value} (h : OutD w C P l v) : InS w (fun b => P b ∨ C ≤ b) l v := by
  obtain ⟨xs, ho, hx⟩ := h
  exact (RowOwnS.ins ⟨xs, ho, RowX.imp (fun m u hm => hm.move (S' := P) (fun _ h _ => h.1) (fun _ _ _ _ h => h)) hx⟩ : InS w (fun b => P b ∨ C ≤ b) l v)
theorem rowX1 {w : World} {S : Nat → Prop} {k i : Int} {s : ByteArray} {m : List PT} {x : Value} (h1 : Dat.ok64 k) (h2 : Dat.ok64 i) (h3 : s.size ≤ maxLen) (hm : InS w S m x) : RowX (InS w S) [.mk k i s m] [.int .i64 k, .int .i64 i, .string s, x] := by
  rw [RowX]
  exact ⟨x, [], rfl, h1, h2, h3, hm, by rw [RowX]⟩
theorem outD_step {w w' : World} {C g cap : Nat} {P : Nat → Prop} {l : List PT} {v : Value} {xs : List Value} {k i : Int} {s : ByteArray} {m : List PT} {xv : Value} (hrx : RowX (InS w (fun b => P b ∧ some b ≠ v.ownBlock)) l xs)
    (h1 : Dat.ok64 k) (h2 : Dat.ok64 i) (h3 : s.size ≤ maxLen) (hm : InS w (fun b => P b ∧ some b ≠ v.ownBlock) m xv)
    (hown : w'.ownsRow C 50 4 (.slice (some ⟨g, 0, none⟩) (l.length + 1) cap) (l.length + 1) (xs ++ [.int .i64 k, .int .i64 i, .string s, xv])) (hgrow : w.grownBy w' v.ownBlock) (hat : v.ownBlock = some g ∨ g = w.heap.size) :
    OutD w' C P (l ++ [.mk k i s m]) (.slice (some ⟨g, 0, none⟩) (l.length + 1) cap) := by
  have mv : ∀ z u, InS w (fun b => P b ∧ some b ≠ v.ownBlock) z u → InS w' (fun b => P b ∧ some b ≠ some g) z u := fun z u hz => hz.move (fun b hb hlt => ⟨hb.1, by
      rcases hat with e | e
      · rw [← e]; exact hb.2
      · rw [e]; simp; omega⟩) (fun b o' y hb hc => by
    rw [World.cell?_of_block (w := w) (a := ⟨b, o', none⟩) (hgrow.block b (World.block_lt_of_cell? _ _ hc) hb.2)]; exact hc)
  exact ⟨_, by rw [List.length_append]; exact hown, RowX.append (rowX1 h1 h2 h3 (mv _ _ hm)) (RowX.imp mv hrx)⟩
/-- What is kept: blocks of cells, and all that lie below B. -/
def CK (B : Nat) (w w' : World) : Prop := Below 0 w w' ∧ ∀ b, b < w.heap.size → (b < B ∨ ∃ o : Obj, w.heap[b]? = some o ∧ o.isCells = true) → w'.heap[b]? = w.heap[b]?
theorem cell_cells {w : World} {b o : Nat} {v : Value} (h : w.cell? ⟨b, o, none⟩ = some v) : ∃ ob : Obj, w.heap[b]? = some ob ∧ ob.isCells = true := by
  unfold World.cell? at h
  cases ho : w.heap[b]? with
  | none => simp [ho] at h
  | some ob => exact ⟨ob, rfl, by cases ob <;> simp_all [Obj.isCells]⟩
theorem CK.of_grown {B : Nat} {w w' : World} {row : Option Nat} (hg : w.grownBy w' row) (hr : ∀ r, row = some r → B ≤ r ∧ ∃ o : Obj, w.heap[r]? = some o ∧ o.isCells = false) : CK B w w' :=
  ⟨⟨hg.os, hg.tape, hg.output, hg.size, fun _ h => absurd h (Nat.not_lt_zero _)⟩, fun b hb hc => hg.block b hb fun e => by
    obtain ⟨h1, o, h2, h3⟩ := hr b e.symm
    rcases hc with hc | ⟨o', h4, h5⟩
    · omega
    · rw [h2] at h4; cases h4; rw [h3] at h5; cases h5⟩
theorem CK.block {B : Nat} {w w' : World} (h : CK B w w') {b : Nat} {cs : Array Value} {t : TypeId} {f : Nat × Nat} (hb : w.heap[b]? = some (.cells cs t f)) : w'.heap[b]? = some (.cells cs t f) :=
  (h.2 b (lt_of_block hb) (.inr ⟨_, hb, rfl⟩)).trans hb
theorem CK.cell {B : Nat} {w w' : World} (h : CK B w w') {b o : Nat} {v : Value} (hc : w.cell? ⟨b, o, none⟩ = some v) : w'.cell? ⟨b, o, none⟩ = some v :=
  (World.cell?_of_block (w := w) (a := ⟨b, o, none⟩) (h.2 b (World.block_lt_of_cell? _ _ hc) (.inr (cell_cells hc)))).trans hc
theorem OutD.ck {B : Nat} {w w' : World} {C : Nat} {P : Nat → Prop} {l : List PT} {v : Value} (h : OutD w C P l v) (hk : CK B w w') : OutD w' C P l v := by
  obtain ⟨xs, ho, hx⟩ := h
  refine ⟨xs, ⟨ho.1, ho.2.imp id ?_⟩, RowX.imp (fun m u hm => hm.move (fun _ h _ => h) fun _ _ _ _ hc => hk.cell hc) hx⟩
  rintro ⟨g, cap, cur, rfl, h1, h2, h3⟩
  exact ⟨g, cap, cur, rfl, h1, hk.block h2, h3⟩
/-- It moves where its own block and its data's blocks are kept. -/
theorem OutD.keep {w w' : World} {C : Nat} {P : Nat → Prop} {l : List PT} {v : Value} (h : OutD w C P l v) (hk : ∀ b, b < w.heap.size → (P b ∨ v.ownBlock = some b) → w'.heap[b]? = w.heap[b]?) : OutD w' C P l v := by
  obtain ⟨xs, ho, hx⟩ := h
  refine ⟨xs, ⟨ho.1, ho.2.imp id ?_⟩, RowX.imp (fun m u hm => hm.move (fun _ h _ => h) fun b o y hb hc => (World.cell?_of_block (w := w) (a := ⟨b, o, none⟩) (hk b (World.block_lt_of_cell? _ _ hc) (.inl hb.1))).trans hc) hx⟩
  rintro ⟨g, cap, cur, rfl, h1, h2, h3⟩
  exact ⟨g, cap, cur, rfl, h1, (hk g (lt_of_block h2) (.inr rfl)).trans h2, h3⟩
/-- Four cells of a row from place o on. -/
def set4 (cs : Array Value) (o : Nat) (y0 y1 y2 y3 : Value) : Array Value := (((cs.setIfInBounds o y0).setIfInBounds (o + 1) y1).setIfInBounds (o + 2) y2).setIfInBounds (o + 3) y3
theorem set4_size (cs : Array Value) (o : Nat) (y0 y1 y2 y3 : Value) : (set4 cs o y0 y1 y2 y3).size = cs.size := by simp [set4]
theorem set4_take {cs : Array Value} {xs : List Value} {n : Nat} {z0 z1 z2 z3 : Value} (y0 y1 y2 y3 : Value) (h : cs.toList.take ((n + 1) * 4) = xs ++ [z0, z1, z2, z3]) (hx : xs.length = n * 4) : (set4 cs (n * 4) y0 y1 y2 y3).toList.take ((n + 1) * 4) = xs ++ [y0, y1, y2, y3] := by
  unfold set4
  simp only [Array.toList_setIfInBounds, List.take_set, h]
  rw [← hx]
  simp [List.set_append_right]
theorem put_at {W : World} {g o : Nat} {cs : Array Value} (h : W.heap[g]? = some (.cells cs 50 (0, 0))) (y0 y1 y2 y3 : Value) :
    ((((W.setCell ⟨g, o, none⟩ y0).setCell ⟨g, o + 1, none⟩ y1).setCell ⟨g, o + 2, none⟩ y2).setCell ⟨g, o + 3, none⟩ y3).heap[g]? = some (.cells (set4 cs o y0 y1 y2 y3) 50 (0, 0)) :=
  heap_setCell_same _ g (o + 3) _ _ y3 (heap_setCell_same _ g (o + 2) _ _ y2 (heap_setCell_same _ g (o + 1) _ _ y1 (heap_setCell_same W g o _ _ y0 h)))
theorem put_at_other {W : World} {g o b : Nat} (hne : b ≠ g) (y0 y1 y2 y3 : Value) :
    ((((W.setCell ⟨g, o, none⟩ y0).setCell ⟨g, o + 1, none⟩ y1).setCell ⟨g, o + 2, none⟩ y2).setCell ⟨g, o + 3, none⟩ y3).heap[b]? = W.heap[b]? := by
  rw [Below.heap_setCell _ _ _ _ hne, Below.heap_setCell _ _ _ _ hne, Below.heap_setCell _ _ _ _ hne, Below.heap_setCell _ _ _ _ hne]
theorem put_at_below {W : World} {g o : Nat} (y0 y1 y2 y3 : Value) : Below 0 W ((((W.setCell ⟨g, o, none⟩ y0).setCell ⟨g, o + 1, none⟩ y1).setCell ⟨g, o + 2, none⟩ y2).setCell ⟨g, o + 3, none⟩ y3) :=
  ((((Below.refl 0 W).setCell (p := ⟨g, o, none⟩) (Nat.zero_le _) _).setCell (p := ⟨g, o + 1, none⟩) (Nat.zero_le _) _).setCell (p := ⟨g, o + 2, none⟩) (Nat.zero_le _) _).setCell (p := ⟨g, o + 3, none⟩) (Nat.zero_le _) _
/-- What each operation of the append's statement has, ahead of the append. -/
def RAp (O n : Nat) (sv dv : Value) : Nat → Value → World → Prop
  | 0, v, _ => v = .pointer (some ⟨O, 3, none⟩)
  | 1, v, _ => v = sv
  | 2, v, _ => v = dv
  | 3, v, _ => v = .int .i64 n
  | 4, v, W => ∃ gz, v = .slice (some ⟨gz, 0, none⟩) 1 1 ∧ W.heap[gz]? = some (.cells #[.int .i64 0, .int .i64 0, .string ⟨#[]⟩, .slice none 0 0] 50 (0, 0))
  | _, _, _ => True
theorem RAp.mono {O n : Nat} {sv dv : Value} : ∀ (i : Nat) (v : Value) (W W' : World), RAp O n sv dv i v W → Below W.heap.size W W' → RAp O n sv dv i v W' := by
  intro i v W W' h hb
  match i, h with
  | 0, h => exact h
  | 1, h => exact h
  | 2, h => exact h
  | 3, h => exact h
  | 4, ⟨gz, e, h⟩ => exact ⟨gz, e, (hb.block gz (lt_of_block h)).trans h⟩
  | n + 5, _ => exact trivial
/-- Nothing is appended yet. -/
def IP1 (w0 : World) (O n : Nat) (sv dv : Value) (S : Nat → Bool) (vs : Nat → Value) (W : World) : Prop :=
  S 5 = false ∧ Below w0.heap.size w0 W ∧ ∀ j, j < 5 → S j = true → RAp O n sv dv j (vs j) W
/-- The row has a place more; its datum and the variable's slice may be stored or not. -/
def IP2 (w0 : World) (C O n : Nat) (k i : Int) (s sv xv y0 y1 y2 : Value) (xs : List Value) (S : Nat → Bool) (vs : Nat → Value) (W : World) : Prop :=
  S 5 = true ∧ vs 2 = .agg #[.int .i64 k, .int .i64 i, s, xv] ∧ vs 3 = .int .i64 n ∧
    ∃ g cap cur W1, vs 5 = .slice (some ⟨g, 0, none⟩) (n + 1) cap ∧ (S 6 = true → vs 6 = .pointer (some ⟨g, n * 4, none⟩)) ∧ (S 8 = true → vs 8 = .pointer (some ⟨O, 3, none⟩)) ∧
      Below w0.heap.size w0 W1 ∧ (sv.ownBlock = some g ∨ g = W1.heap.size) ∧ C ≤ g ∧ n + 1 ≤ cap ∧ cap ≤ maxLen ∧ cur.size = cap * 4 ∧ cur.toList.take ((n + 1) * 4) = xs ++ [.int .i64 0, .int .i64 0, .string ⟨#[]⟩, .slice none 0 0] ∧
      W.heap[g]? = some (.cells (if S 7 = true then set4 cur (n * 4) (.int .i64 k) (.int .i64 i) s xv else cur) 50 (0, 0)) ∧
      W.heap[O]? = some (.cells #[y0, y1, y2, if S 9 = true then .slice (some ⟨g, 0, none⟩) (n + 1) cap else sv] 50 (0, 0)) ∧
      Below 0 W1 W ∧ (∀ b, b < W1.heap.size → b ≠ g → b ≠ O → some b ≠ sv.ownBlock → W.heap[b]? = W1.heap[b]?)
theorem ip1_new {w0 W W' : World} {O n i : Nat} {sv dv v : Value} {S : Nat → Bool} {vs : Nat → Value} (hi : i < 5) (h : IP1 w0 O n sv dv S vs W) (hr : RAp O n sv dv i v W') (hb' : Below W.heap.size W W') :
    IP1 w0 O n sv dv (fun j => if j = i then true else S j) (fun j => if j = i then v else vs j) W' := by
  obtain ⟨h1, h2, h3⟩ := h
  have n5 : ¬ 5 = i := by omega
  refine ⟨by simp only [n5, if_false]; exact h1, h2.trans (hb'.mono h2.size), fun j hj hS => ?_⟩
  by_cases e : j = i
  · subst e
    simpa using hr
  · simp only [e, if_false] at hS ⊢
    exact RAp.mono _ _ _ _ (h3 j hj hS) hb'
/-- Where the append's statement has ended. -/
theorem ip2_end {w3 Wx : World} {C O : Nat} {k i : Int} {s : ByteArray} {sv xv y0 y1 y2 : Value} {xs : List Value} {S : Nat → Bool} {vs : Nat → Value} {rr l2 : List PT}
    (h : IP2 w3 C O rr.length k i (.string s) sv xv y0 y1 y2 xs S vs Wx) (h7 : S 7 = true) (h9 : S 9 = true) (ho : w3.ownsRow C 50 4 sv rr.length xs) (hx : RowX (InS w3 (fun b => C ≤ b ∧ some b ≠ sv.ownBlock)) rr xs)
    (hk : ok64 k) (hi : ok64 i) (hs : s.size ≤ maxLen) (hm : InS w3 (fun b => C ≤ b ∧ some b ≠ sv.ownBlock) l2 xv) (hOC : O < C) :
    ∃ v', OutD Wx C (C ≤ ·) (rr ++ [.mk k i s l2]) v' ∧ Wx.heap[O]? = some (.cells #[y0, y1, y2, v'] 50 (0, 0)) ∧ Below 0 w3 Wx ∧ (∀ b, b < w3.heap.size → b ≠ O → some b ≠ sv.ownBlock → Wx.heap[b]? = w3.heap[b]?) := by
  obtain ⟨_, _, _, g, cap, cur, W1, _, _, _, b1, hat, hCg, n1, n2, hcs, htk, hg, hO, b0, hkeep⟩ := h
  rw [if_pos h7] at hg
  rw [if_pos h9] at hO
  have keep : ∀ b, b < w3.heap.size → b ≠ O → some b ≠ sv.ownBlock → Wx.heap[b]? = w3.heap[b]? := fun b hb hn hne => by
    have hbg : b ≠ g := fun e => by
      rcases hat with e2 | e2
      · exact hne (by rw [e2, e])
      · have := b1.size; omega
    rw [hkeep b (Nat.lt_of_lt_of_le hb b1.size) hbg hn hne, b1.block b hb]
  have mv : ∀ z u, InS w3 (fun b => C ≤ b ∧ some b ≠ sv.ownBlock) z u → InS Wx (fun b => C ≤ b ∧ some b ≠ (Value.slice (some ⟨g, 0, none⟩) (rr.length + 1) cap).ownBlock) z u := fun z u hz => hz.move (fun b hb hlt => ⟨hb.1, fun e => by
      have e : b = g := Option.some.inj e
      rcases hat with e2 | e2
      · exact hb.2 (by rw [e2, e])
      · have := b1.size; omega⟩) (fun b o' y hb hc => (World.cell?_of_block (w := w3) (a := ⟨b, o', none⟩) (keep b (World.block_lt_of_cell? _ _ hc) (by have := hb.1; omega) hb.2)).trans hc)
  refine ⟨_, ⟨xs ++ [.int .i64 k, .int .i64 i, .string s, xv], ⟨?_, .inr ⟨g, cap, _, by rw [List.length_append]; rfl, hCg, hg, by rw [List.length_append]; exact n1, n2, by rw [set4_size]; exact hcs, ?_⟩⟩, RowX.append (rowX1 hk hi hs (mv _ _ hm)) (RowX.imp mv hx)⟩, hO, (b1.mono (Nat.zero_le _)).trans b0, keep⟩
  · rw [List.length_append, List.length_append, ho.1]
    simp only [List.length_cons, List.length_nil]
    omega
  · rw [List.length_append]
    exact set4_take _ _ _ _ htk ho.1
def noDefer (o : Oper) : Bool := match o.op with | .defer _ => false | _ => true
theorem noDefer_of {l : List Oper} (h : l.all noDefer = true) : ∀ (i : Nat) (o : Oper), l.toArray[i]? = some o → ∀ c, o.op ≠ .defer c := by
  intro i o ho c hc
  rw [List.getElem?_toArray] at ho
  have := List.all_eq_true.1 h o (List.mem_of_getElem? ho)
  unfold noDefer at this
  rw [hc] at this
  cases this

/-- What a call that tells answers: a datum in new blocks, so many looked at; or nothing. -/
def TelRes (W : World) (C tb : Nat) (sv : Value) (r : Option (PT × Nat)) (k i : Int) (s : ByteArray) (x : Value) (ok : Bool) : Prop :=
  match r with
  | none => ok = false ∧ k = 0 ∧ i = 0 ∧ s = ⟨#[]⟩ ∧ x = .slice none 0 0
  | some (d, n) => ok = true ∧ (∃ l, d = .mk k i s l ∧ NewV W C (.mk k i s l) x) ∧ TelM W tb sv n
def TelOk (w : World) (tb : Nat) (sv : Value) (r : Option (PT × Nat)) (e : Ending) (w' : World) : Prop :=
  ∃ k i s a n c ok, e = .returned (.tuple #[.agg #[.int .i64 k, .int .i64 i, .string s, .slice a n c], .bool ok]) ∧ TelRes w' w.heap.size tb sv r k i s (.slice a n c) ok ∧ KpF (TS tb) w w'
theorem TelRes.move {W W' : World} {C C' tb : Nat} {sv : Value} {r : Option (PT × Nat)} {k i : Int} {s : ByteArray} {x : Value} {ok : Bool} (h : TelRes W C tb sv r k i s x ok) (hC : C' ≤ C) (hb : ∀ b, C ≤ b → b < W.heap.size → W'.heap[b]? = W.heap[b]?) (ht : W'.heap[tb]? = W.heap[tb]?) : TelRes W' C' tb sv r k i s x ok := by
  match r, h with
  | none, h => exact h
  | some (d, n), ⟨h1, ⟨l, h2, h3⟩, h4⟩ => exact ⟨h1, ⟨l, h2, h3.move hC fun b o v hb' hv => (World.cell?_of_block (w := W) (a := ⟨b, o, none⟩) (hb b hb' (World.block_lt_of_cell? _ _ hv))).trans hv⟩, ht.trans h4⟩
theorem TelRes.put {W : World} {C C' tb R : Nat} {sv : Value} {r : Option (PT × Nat)} {k i : Int} {s : ByteArray} {x : Value} {ok : Bool} (h : TelRes W C tb sv r k i s x ok) (hC : C' ≤ C) (hR : R < C) (ht : tb ≠ R) (y0 y1 y2 y3 : Value) :
    TelRes ((((W.setCell ⟨R, 0, none⟩ y0).setCell ⟨R, 1, none⟩ y1).setCell ⟨R, 2, none⟩ y2).setCell ⟨R, 3, none⟩ y3) C' tb sv r k i s x ok :=
  h.move hC (fun b hb _ => put4_other _ _ _ _ (by omega)) (put4_other _ _ _ _ ht)
theorem TelRes.zero {W : World} {C tb : Nat} {sv : Value} : TelRes W C tb sv none 0 0 ⟨#[]⟩ (.slice none 0 0) false := ⟨rfl, rfl, rfl, rfl, rfl⟩
theorem TelOk.of_val {w w' : World} {tb : Nat} {sv : Value} {n : Nat} {d : PT} {e : Ending} (h : ValOk w tb sv n d e w') : TelOk w tb sv (some (d, n)) e w' := by
  obtain ⟨⟨x, rfl, hn⟩, ht, hk⟩ := h
  obtain ⟨k, i, s, l⟩ := d
  obtain ⟨a, c, rfl, _⟩ := id hn.2.2.2
  exact ⟨k, i, s, a, l.length, c, true, rfl, ⟨rfl, ⟨l, rfl, hn⟩, ht⟩, hk⟩
theorem kpf_put4 {w W : World} {tb R : Nat} (h : KpF (TS tb) w W) (hR : w.heap.size ≤ R) (y0 y1 y2 y3 : Value) : KpF (TS tb) w ((((W.setCell ⟨R, 0, none⟩ y0).setCell ⟨R, 1, none⟩ y1).setCell ⟨R, 2, none⟩ y2).setCell ⟨R, 3, none⟩ y3) :=
  ⟨h.1.trans (put4_below (Below.refl 0 W) (Nat.zero_le _) _ _ _ _), fun b hb hne => (put4_other _ _ _ _ (by omega)).trans (h.2 b hb hne)⟩
/-- What the telling of any value answers, where f bounds how many may still be looked at. -/
def ValF (hb tb : Nat) (sv : Value) (T : List (Int × List PV)) (F : Nat → Prop) (f : Nat) : Prop :=
  ∀ (v : PV) (m n : Nat) (w : World), hasB T.length v = true → okV v → m ≤ 33 → n ≤ 200 → 200 ≤ n + f → TelM w tb sv n → HeapM w hb T F → (∀ b, F b → b < w.heap.size) → w.cell? ⟨hb, 0, none⟩ = some sv →
    Calls Tryd.prog 41 #[.pointer (some ⟨tb, 0, none⟩), .agg #[.int .i64 v.k, .int .i64 v.i, .string v.s], .int .i64 (m : Int)] w fun e w' => TelOk w tb sv (tellF T f v m n) e w'
end Go.Proofs.YtpejhilfopjckaaDoor.Hp
