/-
The statements of the loop that lays the tree: what each of their operations is known to yield. No condition.
-/
import Derived.Test.YtkjgdnfkpebejaaN23

namespace Go.Proofs.Ytkjgdnfkpebejaa.Core
open Go.ChangeShapes Go.WideShapes Go.ChangeAt Go.RowKit Go.Deep
open Dat (PT ok64 RowX)
set_option maxRecDepth 100000

/-- The value of a parameter's reference. -/
def refV (s : ByteArray) : Value := .agg #[.int .i64 1, .string s, .slice none 0 0, .int .i64 0, .int .i64 0, .string ⟨#[]⟩, .slice none 0 0, .slice none 0 0]
/-- The value of a body. -/
def seqV (B : Nat) : Value := .agg #[.int .i64 4, .string ⟨#[]⟩, .slice none 0 0, .int .i64 0, .int .i64 0, .string ⟨#[]⟩, .slice none 0 0, .slice (some ⟨B, 0, none⟩) 3 3]
/-- The value of a function. -/
def lamV (B D : Nat) : Value := .agg #[.int .i64 5, .string ⟨#[]⟩, .slice (some ⟨B, 0, none⟩) 1 1, .int .i64 0, .int .i64 0, .string ⟨#[]⟩, .slice none 0 0, .slice (some ⟨D, 0, none⟩) 1 1]
/-- The first statement: a body. -/
def R9 (C D : Nat) (fv : Value) (p q : Nat) (hk hc : Int) (ns : List ByteArray) (l : List PE) (vn vd vk : Value) : Nat → Value → World → Prop
  | 0, v, _ => v = fv
  | 1, v, _ => v = .int .i64 (p : Int)
  | 2, v, _ => v = refV (nmP p)
  | 3, v, _ => v = fv
  | 4, v, _ => v = .int .i64 (q : Int)
  | 5, v, _ => v = refV (nmP q)
  | 6, v, W => v = .agg #[.int .i64 hk, .string ⟨#[]⟩, vn, .int .i64 hc, .int .i64 0, .string ⟨#[]⟩, vd, vk] ∧ InF W (NzH C W) (.mk hk ⟨#[]⟩ ns (.mk hc 0 ⟨#[]⟩ []) l) vn vd vk
  | 7, v, W => ∃ B, v = .slice (some ⟨B, 0, none⟩) 3 3 ∧ InK W (NzH C W) [refL (nmP p), refL (nmP q), .mk hk ⟨#[]⟩ ns (.mk hc 0 ⟨#[]⟩ []) l] v
  | 8, v, W => ∃ B, v = seqV B ∧ InK W (NzH C W) [refL (nmP p), refL (nmP q), .mk hk ⟨#[]⟩ ns (.mk hc 0 ⟨#[]⟩ []) l] (.slice (some ⟨B, 0, none⟩) 3 3)
  | 9, v, W => ∃ b, v = .pointer (some ⟨b, 0, none⟩) ∧ D ≤ b ∧ W.heap[b]? = some (.cells #[.int .i64 0, .string ⟨#[]⟩, .slice none 0 0, .int .i64 0, .int .i64 0, .string ⟨#[]⟩, .slice none 0 0, .slice none 0 0] 28 (0, 0))
  | _, _, _ => True
theorem R9.mono {C D : Nat} {fv : Value} {p q : Nat} {hk hc : Int} {ns : List ByteArray} {l : List PE} {vn vd vk : Value} : ∀ (i : Nat) (v : Value) (W W' : World), R9 C D fv p q hk hc ns l vn vd vk i v W → Below W.heap.size W W' → R9 C D fv p q hk hc ns l vn vd vk i v W' := by
  intro i v W W' h hb
  match i, h with
  | 0, h => exact h
  | 1, h => exact h
  | 2, h => exact h
  | 3, h => exact h
  | 4, h => exact h
  | 5, h => exact h
  | 6, ⟨e, h⟩ => exact ⟨e, inF_upH h hb⟩
  | 7, ⟨B, e, h⟩ => exact ⟨B, e, inK_upH h hb⟩
  | 8, ⟨B, e, h⟩ => exact ⟨B, e, inK_upH h hb⟩
  | 9, ⟨b, e, h1, h2⟩ => exact ⟨b, e, h1, (hb.block b (lt_of_block h2)).trans h2⟩
  | n + 10, _ => exact trivial
/-- The second one: a function. -/
def R10 (C : Nat) (fv : Value) (q B : Nat) (T : PE) : Nat → Value → World → Prop
  | 0, v, _ => v = fv
  | 1, v, _ => v = .int .i64 (q : Int)
  | 2, v, _ => v = refV (nmP q)
  | 3, v, _ => v = .string (nmP q)
  | 4, v, W => ∃ D, v = .slice (some ⟨D, 0, none⟩) 1 1 ∧ InN W (NzH C W) [nmP q] v
  | 5, v, _ => v = seqV B
  | 6, v, W => ∃ D, v = .slice (some ⟨D, 0, none⟩) 1 1 ∧ InK W (NzH C W) [T] v
  | 7, v, W => ∃ D E, v = lamV D E ∧ InN W (NzH C W) [nmP q] (.slice (some ⟨D, 0, none⟩) 1 1) ∧ InK W (NzH C W) [T] (.slice (some ⟨E, 0, none⟩) 1 1)
  | _, _, _ => True
theorem R10.mono {C : Nat} {fv : Value} {q B : Nat} {T : PE} : ∀ (i : Nat) (v : Value) (W W' : World), R10 C fv q B T i v W → Below W.heap.size W W' → R10 C fv q B T i v W' := by
  intro i v W W' h hb
  match i, h with
  | 0, h => exact h
  | 1, h => exact h
  | 2, h => exact h
  | 3, h => exact h
  | 4, ⟨D, e, h⟩ => exact ⟨D, e, inN_upH h hb⟩
  | 5, h => exact h
  | 6, ⟨D, e, h⟩ => exact ⟨D, e, inK_upH h hb⟩
  | 7, ⟨D, E, e, h1, h2⟩ => exact ⟨D, E, e, inN_upH h1 hb, inK_upH h2 hb⟩
  | n + 8, _ => exact trivial
/-- A reference, wherever. -/
theorem inF_ref (W : World) (S : Nat → Prop) (i : Nat) : InF W S (.mk 1 (nmP i) [] (.mk 0 0 ⟨#[]⟩ []) []) (.slice none 0 0) (.slice none 0 0) (.slice none 0 0) :=
  inF_nodeH (by constructor <;> decide) (by show 2 ≤ maxLen; decide) (by constructor <;> decide) (by constructor <;> decide) (by decide) inN_nil' inK_nil'
/-- A body's kids that were just laid. -/
theorem three_kids {W : World} {C p q : Nat} {hk hc : Int} {ns : List ByteArray} {l : List PE} {vn vd vk : Value} (hC : C ≤ W.heap.size) (h : InF W (NzH C W) (.mk hk ⟨#[]⟩ ns (.mk hc 0 ⟨#[]⟩ []) l) vn vd vk) :
    InK (W.alloc (.cells #[.int .i64 1, .string (nmP p), .slice none 0 0, .int .i64 0, .int .i64 0, .string ⟨#[]⟩, .slice none 0 0, .slice none 0 0, .int .i64 1, .string (nmP q), .slice none 0 0, .int .i64 0, .int .i64 0, .string ⟨#[]⟩, .slice none 0 0, .slice none 0 0, .int .i64 hk, .string ⟨#[]⟩, vn, .int .i64 hc, .int .i64 0, .string ⟨#[]⟩, vd, vk] 28))
      (NzH C (W.alloc (.cells #[.int .i64 1, .string (nmP p), .slice none 0 0, .int .i64 0, .int .i64 0, .string ⟨#[]⟩, .slice none 0 0, .slice none 0 0, .int .i64 1, .string (nmP q), .slice none 0 0, .int .i64 0, .int .i64 0, .string ⟨#[]⟩, .slice none 0 0, .slice none 0 0, .int .i64 hk, .string ⟨#[]⟩, vn, .int .i64 hc, .int .i64 0, .string ⟨#[]⟩, vd, vk] 28)))
      [refL (nmP p), refL (nmP q), .mk hk ⟨#[]⟩ ns (.mk hc 0 ⟨#[]⟩ []) l] (.slice (some ⟨W.heap.size, 0, none⟩) 3 3) := by
  have hb := heap_alloc_new W (.cells #[.int .i64 1, .string (nmP p), .slice none 0 0, .int .i64 0, .int .i64 0, .string ⟨#[]⟩, .slice none 0 0, .slice none 0 0, .int .i64 1, .string (nmP q), .slice none 0 0, .int .i64 0, .int .i64 0, .string ⟨#[]⟩, .slice none 0 0, .slice none 0 0, .int .i64 hk, .string ⟨#[]⟩, vn, .int .i64 hc, .int .i64 0, .string ⟨#[]⟩, vd, vk] 28)
  have h2 := inF_upH h ((Below.refl W.heap.size W).alloc (Nat.le_refl _) (.cells #[.int .i64 1, .string (nmP p), .slice none 0 0, .int .i64 0, .int .i64 0, .string ⟨#[]⟩, .slice none 0 0, .slice none 0 0, .int .i64 1, .string (nmP q), .slice none 0 0, .int .i64 0, .int .i64 0, .string ⟨#[]⟩, .slice none 0 0, .slice none 0 0, .int .i64 hk, .string ⟨#[]⟩, vn, .int .i64 hc, .int .i64 0, .string ⟨#[]⟩, vd, vk] 28))
  generalize W.alloc _ = W2 at *
  refine inK_rowH (l := [refL (nmP p), refL (nmP q), .mk hk ⟨#[]⟩ ns (.mk hc 0 ⟨#[]⟩ []) l]) hb ⟨hC, by rw [hb]; intro e; cases e⟩ ?_ (by simp)
  unfold refL PT0
  rw [RowE]
  refine ⟨_, _, _, _, rfl, inF_ref _ _ p, ?_⟩
  rw [RowE]
  refine ⟨_, _, _, _, rfl, inF_ref _ _ q, ?_⟩
  rw [RowE]
  refine ⟨_, _, _, _, rfl, h2, ?_⟩
  rw [RowE]
/-- A function's body that was just laid. -/
theorem one_kid {W : World} {C B : Nat} {l : List PE} (hC : C ≤ W.heap.size) (h : InK W (NzH C W) l (.slice (some ⟨B, 0, none⟩) 3 3)) :
    InK (W.alloc (.cells #[.int .i64 4, .string ⟨#[]⟩, .slice none 0 0, .int .i64 0, .int .i64 0, .string ⟨#[]⟩, .slice none 0 0, .slice (some ⟨B, 0, none⟩) 3 3] 28))
      (NzH C (W.alloc (.cells #[.int .i64 4, .string ⟨#[]⟩, .slice none 0 0, .int .i64 0, .int .i64 0, .string ⟨#[]⟩, .slice none 0 0, .slice (some ⟨B, 0, none⟩) 3 3] 28)))
      [.mk 4 ⟨#[]⟩ [] PT0 l] (.slice (some ⟨W.heap.size, 0, none⟩) 1 1) := by
  have hb := heap_alloc_new W (.cells #[.int .i64 4, .string ⟨#[]⟩, .slice none 0 0, .int .i64 0, .int .i64 0, .string ⟨#[]⟩, .slice none 0 0, .slice (some ⟨B, 0, none⟩) 3 3] 28)
  have h2 := inK_upH h ((Below.refl W.heap.size W).alloc (Nat.le_refl _) (.cells #[.int .i64 4, .string ⟨#[]⟩, .slice none 0 0, .int .i64 0, .int .i64 0, .string ⟨#[]⟩, .slice none 0 0, .slice (some ⟨B, 0, none⟩) 3 3] 28))
  generalize W.alloc _ = W2 at *
  refine inK_rowH (l := [.mk 4 ⟨#[]⟩ [] PT0 l]) hb ⟨hC, by rw [hb]; intro e; cases e⟩ ?_ (by simp)
  unfold PT0
  rw [RowE]
  refine ⟨_, _, _, _, rfl, inF_nodeH (by constructor <;> decide) (by decide) (by constructor <;> decide) (by constructor <;> decide) (by decide) inN_nil' h2, ?_⟩
  rw [RowE]
/-- A body in its variable. -/
def BodyH (W : World) (C b B : Nat) (l : List PE) : Prop := C ≤ b ∧ W.heap[b]? = some (.cells #[.int .i64 4, .string ⟨#[]⟩, .slice none 0 0, .int .i64 0, .int .i64 0, .string ⟨#[]⟩, .slice none 0 0, .slice (some ⟨B, 0, none⟩) 3 3] 28 (0, 0)) ∧ InK W (NzH C W) l (.slice (some ⟨B, 0, none⟩) 3 3)
theorem BodyH.put {W W' : World} {C b B : Nat} {l : List PE} (hC : C ≤ b) (h : InK W (NzH C W) l (.slice (some ⟨B, 0, none⟩) 3 3)) (hz : W.heap[b]? = some (.cells #[.int .i64 0, .string ⟨#[]⟩, .slice none 0 0, .int .i64 0, .int .i64 0, .string ⟨#[]⟩, .slice none 0 0, .slice none 0 0] 28 (0, 0))) (hW : ∀ c, c ≠ b → W'.heap[c]? = W.heap[c]?)
    (hn : W'.heap[b]? = some (.cells #[.int .i64 4, .string ⟨#[]⟩, .slice none 0 0, .int .i64 0, .int .i64 0, .string ⟨#[]⟩, .slice none 0 0, .slice (some ⟨B, 0, none⟩) 3 3] 28 (0, 0))) : BodyH W' C b B l :=
  ⟨hC, hn, InK.move h (fun _ hc _ => hc.off hW (hc.ne hz)) fun _ _ _ hc hy => cell_off hW (hc.ne hz) hy⟩
theorem BoxH.put {W W' : World} {g D E q : Nat} {l : List PE} (of : Nat → Nat) (h1 : InN W (NzH (g + 1) W) [nmP q] (.slice (some ⟨D, 0, none⟩) 1 1)) (h2 : InK W (NzH (g + 1) W) [.mk 4 ⟨#[]⟩ [] PT0 l] (.slice (some ⟨E, 0, none⟩) 1 1)) (hW : ∀ c, c ≠ g → W'.heap[c]? = W.heap[c]?)
    (hn : W'.heap[g]? = some (.cells #[.int .i64 5, .string ⟨#[]⟩, .slice (some ⟨D, 0, none⟩) 1 1, .int .i64 0, .int .i64 0, .string ⟨#[]⟩, .slice none 0 0, .slice (some ⟨E, 0, none⟩) 1 1] 28 (0, 0))) {m : Nat} (e : l = [refL (nmP (of q)), refL (nmP q), holdT of (q + 1) m]) : BoxH W' g (holdT of q (m + 1)) := by
  have hne : ∀ {c}, NzH (g + 1) W c → c ≠ g := fun hc e => by have := hc.1; omega
  refine ⟨5, 0, [nmP q], [.mk 4 ⟨#[]⟩ [] PT0 l], _, _, _, by rw [holdT, e]; rfl, inF_nodeH (by constructor <;> decide) (by decide) (by constructor <;> decide) (by constructor <;> decide) (by decide) (h1.move (fun c hc _ => hc.off hW (hne hc)) fun c o y hc hy => cell_off hW (hne hc) hy) (h2.move (fun c hc _ => hc.off hW (hne hc)) fun c o y hc hy => cell_off hW (hne hc) hy), hn⟩
open Classical in
theorem hasB_yes {l : List ByteArray} {s : ByteArray} (h : s ∈ l) : hasB l s = true := by
  unfold hasB
  exact decide_eq_true h
open Classical in
theorem hasB_no {l : List ByteArray} {s : ByteArray} (h : s ∉ l) : hasB l s = false := by
  unfold hasB
  exact decide_eq_false h
theorem main_kids (of : Nat → Nat) (m i n : Nat) : ∃ k nm ns ck ci cs cl, mainT of i m n = .mk k nm ns (.mk ck ci cs cl) [] := by
  cases m with
  | zero => exact ⟨_, _, _, _, _, _, _, by rw [mainT]⟩
  | succ m => exact ⟨_, _, _, _, _, _, _, by rw [mainT, cloT]⟩
/-- What Lift answers of the tree. -/
def HoldIs (of : Nat → Nat) (n : Nat) (e : Ending) (w : World) : Prop := ∃ p1 p3 p4 p5 p6 p7 p8 p9 pa pb pc pd pe pf ph, e = .returned (.tuple #[.agg #[.slice p1 n p3, .int .i64 p4, .string p5, .slice p6 p7 p8, .int .i64 p9, .int .i64 pa, .string pb, .slice pc pd pe, .slice pf 0 ph], .int .i64 0]) ∧ n ≤ p3 ∧ p3 ≤ maxLen ∧ InFs w (fun _ => True) (funsT of 0 n 0) (.slice p1 n p3)
theorem lift_hold (of : Nat → Nat) (hof : ∀ k, of k ≤ k) {n : Nat} (hn : n ≤ 8) (W : World) {S : Nat → Prop} {hk hc : Int} {ns : List ByteArray} {l : List PE} {vn vd vk : Value} (et : holdT of 0 n = .mk hk ⟨#[]⟩ ns (.mk hc 0 ⟨#[]⟩ []) l) (hF : InF W S (.mk hk ⟨#[]⟩ ns (.mk hc 0 ⟨#[]⟩ []) l) vn vd vk) :
    Calls Try.prog 6 #[.agg #[.int .i64 hk, .string ⟨#[]⟩, vn, .int .i64 hc, .int .i64 0, .string ⟨#[]⟩, vd, vk]] W fun e w' => HoldIs of n e w' ∧ Below W.heap.size W w' := by
  have hok := hold_okL of hof hn
  have hli := hold_lift of n 0 []
  have k := lift_any (holdT of 0 n) (· < W.heap.size) vn vd vk W (by rw [et]; exact hF.move (fun _ _ h => h) fun _ _ _ _ h => h) (fun _ h => h)
  have e : (holdT of 0 n).val vn vd vk = .agg #[.int .i64 hk, .string ⟨#[]⟩, vn, .int .i64 hc, .int .i64 0, .string ⟨#[]⟩, vd, vk] := by rw [et, PE.val]
  rw [e] at k
  refine k.mono ?_
  rintro e w' ⟨⟨v, rfl, hv⟩, hb⟩
  refine ⟨?_, hb⟩
  rw [progL_yes hok, hli] at hv
  rw [codeL_yes hok]
  simp only [List.length_nil, List.nil_append] at hv
  obtain ⟨k, nm, ns, ck, ci, cs, cl, em⟩ := main_kids of n 0 0
  rw [em] at hv
  obtain ⟨vF, k', nm', ns', ck', ci', cs', cl', l', vn', vd', vk', rfl, e2, hE, hF2⟩ := hv
  cases e2
  obtain ⟨⟨_, _, a1, c1, e1, _⟩, ⟨_, _, _, a2, c2, e2, _⟩, a3, c3, e3, _⟩ := hE
  have hF3 := hF2
  obtain ⟨a4, c4, e4, h1, h2, _⟩ := hF3
  have hlen := funs_len of n 0 0
  rw [hlen] at e4 h1
  subst e1 e2 e3 e4
  exact ⟨_, _, _, _, _, _, _, _, _, _, _, _, _, _, _, rfl, h1, h2, hF2⟩
end Go.Proofs.Ytkjgdnfkpebejaa.Core
