/-
One text, one datum: a text of the strict form tells which datum it is of. The pure part.
-/
import Derived.Test.YtiamojpeedllbaaGreatDoorD18
namespace Go.Proofs.YtiamojpeedllbaaGreatDoor.Dat

def stopB (r : List UInt8) : Bool := match r with
  | [] => true
  | c :: _ => c == 32 || c == 41
def tokB (c : UInt8) : Bool := !(c == 32) && !(c == 41)

theorem stop_tok {c : UInt8} {r : List UInt8} (h : tokB c = true) (hs : stopB (c :: r) = true) : False := by
  simp only [stopB, tokB, Bool.or_eq_true, Bool.and_eq_true, Bool.not_eq_true'] at h hs
  rcases hs with h1 | h1
  · rw [h.1] at h1; cases h1
  · rw [h.2] at h1; cases h1

theorem tok_split : ∀ {a b r r' : List UInt8}, a.all tokB = true → b.all tokB = true → stopB r = true → stopB r' = true → a ++ r = b ++ r' → a = b ∧ r = r'
  | [], [], r, r', _, _, _, _, h => ⟨rfl, h⟩
  | [], c :: b, r, r', _, hb, hs, _, h => by
    rw [List.nil_append] at h
    subst h
    rw [List.all_cons, Bool.and_eq_true] at hb
    exact (stop_tok hb.1 hs).elim
  | c :: a, [], r, r', ha, _, _, hs, h => by
    rw [List.nil_append] at h
    subst h
    rw [List.all_cons, Bool.and_eq_true] at ha
    exact (stop_tok ha.1 hs).elim
  | c :: a, d :: b, r, r', ha, hb, hr, hr', h => by
    rw [List.all_cons, Bool.and_eq_true] at ha hb
    rw [List.cons_append, List.cons_append] at h
    injection h with h1 h2
    have := tok_split ha.2 hb.2 hr hr' h2
    exact ⟨by rw [h1, this.1], this.2⟩

theorem two_prefix {a b x y : List UInt8} (h : a ++ x = b ++ y) : a <+: b ∨ b <+: a :=
  List.prefix_or_prefix_of_prefix (List.prefix_append a x) (h ▸ List.prefix_append b y)

/-! ### numerals -/
theorem dig_table : ∀ k : Fin 10, dig8 (UInt8.ofNat (48 + k.val)) = true ∧ (UInt8.ofNat (48 + k.val)).toNat = 48 + k.val := by decide +kernel
theorem tok_table : ∀ c : Fin 256, nby8 (UInt8.ofNat c.val) = true → tokB (UInt8.ofNat c.val) = true ∧ UInt8.ofNat c.val ≠ 34 ∧ UInt8.ofNat c.val ≠ 35 ∧ UInt8.ofNat c.val ≠ 40 := by decide +kernel
theorem dig_nby : ∀ c : Fin 256, dig8 (UInt8.ofNat c.val) = true → nby8 (UInt8.ofNat c.val) = true := by decide +kernel
theorem of_table {P : UInt8 → Prop} (h : ∀ c : Fin 256, P (UInt8.ofNat c.val)) (c : UInt8) : P c := by
  have := h ⟨c.toNat, c.toNat_lt⟩
  simpa using this
theorem tok_of {c : UInt8} (h : nby8 c = true) : tokB c = true ∧ c ≠ 34 ∧ c ≠ 35 ∧ c ≠ 40 := of_table (P := fun c => nby8 c = true → tokB c = true ∧ c ≠ 34 ∧ c ≠ 35 ∧ c ≠ 40) tok_table c h
theorem nby_of {c : UInt8} (h : dig8 c = true) : nby8 c = true := of_table (P := fun c => dig8 c = true → nby8 c = true) dig_nby c h

def undec (l : List UInt8) : Nat := l.foldl (fun a c => a * 10 + (c.toNat - 48)) 0
theorem dec_facts (u : Nat) : (Lib.decDigits u).all dig8 = true ∧ Lib.decDigits u ≠ [] ∧ undec (Lib.decDigits u) = u := by
  induction u using Nat.strongRecOn with
  | _ u ih =>
    rw [Lib.decDigits]
    split
    · have := dig_table ⟨u, by omega⟩
      simp only at this
      refine ⟨by rw [List.all_cons, this.1]; rfl, by simp, ?_⟩
      simp only [undec, List.foldl_cons, List.foldl_nil]
      omega
    · have t := dig_table ⟨u % 10, by omega⟩
      simp only at t
      obtain ⟨h1, h2, h3⟩ := ih (u / 10) (by omega)
      refine ⟨by rw [List.all_append, h1, List.all_cons, t.1]; rfl, by simp, ?_⟩
      unfold undec at h3 ⊢
      rw [List.foldl_append, h3]
      simp only [List.foldl_cons, List.foldl_nil]
      omega
theorem dig45 : dig8 45 = false := by decide
theorem dig43 : dig8 43 = false := by decide
theorem dec_no45 (u : Nat) (r : List UInt8) (h : Lib.decDigits u = 45 :: r) : False := by
  have := (dec_facts u).1
  rw [h, List.all_cons, dig45] at this
  cases this
theorem itoa_inj {m n : Int} (h : Lib.itoa m = Lib.itoa n) : m = n := by
  unfold Lib.itoa at h
  split at h <;> split at h
  · injection h with _ h
    have := congrArg undec h
    rw [(dec_facts _).2.2, (dec_facts _).2.2] at this
    omega
  · exact (dec_no45 _ _ h.symm).elim
  · exact (dec_no45 _ _ h).elim
  · have := congrArg undec h
    rw [(dec_facts _).2.2, (dec_facts _).2.2] at this
    omega
theorem itoa_num (n : Int) : numB (Lib.itoa n) = true := by
  unfold Lib.itoa
  split
  · obtain ⟨h1, h2, _⟩ := dec_facts n.natAbs
    cases hd : Lib.decDigits n.natAbs with
    | nil => exact absurd hd h2
    | cons c r => rw [hd] at h1; simp [numB, h1]
  · obtain ⟨h1, h2, _⟩ := dec_facts n.toNat
    cases hd : Lib.decDigits n.toNat with
    | nil => exact absurd hd h2
    | cons c r =>
      rw [hd] at h1
      have hc : dig8 c = true := by rw [List.all_cons, Bool.and_eq_true] at h1; exact h1.1
      have n1 : ¬ (c = 43 ∨ c = 45) := by
        rintro (rfl | rfl)
        · rw [dig43] at hc; cases hc
        · rw [dig45] at hc; cases hc
      simp only [numB, if_neg n1]
      exact h1
theorem all_mono {P Q : UInt8 → Bool} (hPQ : ∀ c, P c = true → Q c = true) (l : List UInt8) (h : l.all P = true) : l.all Q = true := by
  rw [List.all_eq_true] at h ⊢
  exact fun c hc => hPQ c (h c hc)
theorem itoa_nby (n : Int) : (Lib.itoa n).all nby8 = true ∧ Lib.itoa n ≠ [] := by
  unfold Lib.itoa
  split
  · refine ⟨?_, by simp⟩
    rw [List.all_cons, all_mono (fun _ => nby_of) _ (dec_facts n.natAbs).1]
    decide
  · exact ⟨all_mono (fun _ => nby_of) _ (dec_facts n.toNat).1, (dec_facts n.toNat).2.1⟩

end Go.Proofs.YtiamojpeedllbaaGreatDoor.Dat
