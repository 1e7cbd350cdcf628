/-
What renaming answers, as trees: the names that it binds, that all but names is as it was, and that it may be. No condition.
-/
import Derived.Test.YtjofdlnopchaeaaGreatDoorWKF
namespace Go.Proofs.YtjofdlnopchaeaaGreatDoor.Core
open Go.ChangeShapes Go.WideShapes Go.ChangeAt Go.RowKit Go.Deep
open Dat (PT ok64)
set_option maxRecDepth 100000

mutual
/-- All names that an expression binds. -/
def boundE : PE → List ByteArray
  | .mk _ _ ns _ l => ns ++ boundEs l
def boundEs : List PE → List ByteArray
  | [] => []
  | t :: l => boundE t ++ boundEs l
end
/-- Rising numbers from n on, below n', of which the names are not in U. -/
def Rise (U : List ByteArray) (n n' : Nat) (is : List Nat) : Prop := is.Pairwise (· < ·) ∧ ∀ i ∈ is, n ≤ i ∧ i < n' ∧ numS i ∉ U
theorem Rise.nil (U : List ByteArray) (n n' : Nat) : Rise U n n' [] := ⟨List.Pairwise.nil, fun i h => by cases h⟩
theorem Rise.app {U : List ByteArray} {n n1 n2 : Nat} {l m : List Nat} (h : Rise U n n1 l) (g : Rise U n1 n2 m) (h1 : n ≤ n1) (h2 : n1 ≤ n2) : Rise U n n2 (l ++ m) := by
  refine ⟨List.pairwise_append.2 ⟨h.1, g.1, fun a ha b hb => ?_⟩, fun i hi => ?_⟩
  · have := (h.2 a ha).2.1
    have := (g.2 b hb).1
    omega
  · rcases List.mem_append.1 hi with hi | hi
    · have := h.2 i hi; exact ⟨this.1, by omega, this.2.2⟩
    · have := g.2 i hi; exact ⟨by omega, this.2.1, this.2.2⟩
theorem NumsL.rise {U : List ByteArray} {n n' : Nat} {l : List Nat} (h : NumsL U n l n') : Rise U n n' l := by
  induction h with
  | nil => exact Rise.nil _ _ _
  | skip _ _ ih => exact ⟨ih.1, fun i hi => by have := ih.2 i hi; exact ⟨this.1, by omega, this.2.2⟩⟩
  | @take n' l h hu ih =>
    have hle := h.le
    exact ih.app ⟨List.pairwise_singleton _ _, fun i hi => by
      rw [List.mem_singleton] at hi
      subst hi
      exact ⟨Nat.le_refl _, Nat.lt_succ_self _, hu⟩⟩ (by omega) (by omega)
mutual
theorem RenR.bound {U : List ByteArray} : ∀ {t t' : PE} {env : ByteArray → List Nat} {nx nx' : Nat}, RenR U env nx t t' nx' → ∃ is, boundE t' = is.map numS ∧ Rise U nx nx' is
  | .mk k nm ns d l, t', env, nx, nx', h => by
    rw [RenR] at h
    obtain ⟨nums, n1, l', h1, h2, h3, rfl⟩ := h
    obtain ⟨is, e, hr⟩ := RenRs.bound h3
    exact ⟨nums ++ is, by rw [boundE, e, List.map_append], h1.rise.app hr (by have := h1.le; omega) h3.le⟩
theorem RenRs.bound {U : List ByteArray} : ∀ {l l' : List PE} {e1 e2 : ByteArray → List Nat} {fr nx nx' : Nat}, RenRs U e1 e2 fr nx l l' nx' → ∃ is, boundEs l' = is.map numS ∧ Rise U nx nx' is
  | [], l', e1, e2, fr, nx, nx', h => by
    rw [RenRs] at h
    obtain ⟨rfl, rfl⟩ := h
    exact ⟨[], by rw [boundEs]; rfl, Rise.nil _ _ _⟩
  | t :: l, l', e1, e2, fr, nx, nx', h => by
    rw [RenRs] at h
    obtain ⟨t', n1, l1, h1, h2, rfl⟩ := h
    obtain ⟨is, e, hr⟩ := RenR.bound h1
    obtain ⟨js, e', hr'⟩ := RenRs.bound h2
    exact ⟨is ++ js, by rw [boundEs, e, e', List.map_append], hr.app hr' h1.le h2.le⟩
end
/-- No name is bound twice, and none that stands in U. -/
theorem RenR.once {U : List ByteArray} {t t' : PE} {env : ByteArray → List Nat} {nx nx' : Nat} (h : RenR U env nx t t' nx') : (boundE t').Nodup ∧ ∀ s ∈ boundE t', s ∉ U := by
  obtain ⟨is, e, hr⟩ := h.bound
  rw [e]
  refine ⟨?_, fun s hs => ?_⟩
  · rw [List.Nodup, List.pairwise_map]
    exact hr.1.imp fun h e => by have := numS_inj e; omega
  · obtain ⟨i, hi, rfl⟩ := List.mem_map.1 hs
    exact (hr.2 i hi).2.2
mutual
/-- Are two expressions the same, but for names? -/
def ShapeE : PE → PE → Prop
  | .mk k nm ns d l, t' => ∃ nm' ns' l', t' = .mk k nm' ns' d l' ∧ ns.length = ns'.length ∧ (k = 7 → nm = nm') ∧ ShapeEs l l'
def ShapeEs : List PE → List PE → Prop
  | [], l' => l' = []
  | t :: l, l' => ∃ t' l1, l' = t' :: l1 ∧ ShapeE t t' ∧ ShapeEs l l1
end
mutual
theorem RenR.shape {U : List ByteArray} : ∀ {t t' : PE} {env : ByteArray → List Nat} {nx nx' : Nat}, RenR U env nx t t' nx' → ShapeE t t'
  | .mk k nm ns d l, t', env, nx, nx', h => by
    rw [RenR] at h
    obtain ⟨nums, n1, l', h1, h2, h3, rfl⟩ := h
    rw [ShapeE]
    exact ⟨_, _, _, rfl, by rw [List.length_map, h2], fun e => by rw [if_neg (by omega)], RenRs.shape h3⟩
theorem RenRs.shape {U : List ByteArray} : ∀ {l l' : List PE} {e1 e2 : ByteArray → List Nat} {fr nx nx' : Nat}, RenRs U e1 e2 fr nx l l' nx' → ShapeEs l l'
  | [], l', e1, e2, fr, nx, nx', h => by
    rw [RenRs] at h
    rw [ShapeEs]
    exact h.1
  | t :: l, l', e1, e2, fr, nx, nx', h => by
    rw [RenRs] at h
    obtain ⟨t', n1, l1, h1, h2, rfl⟩ := h
    rw [ShapeEs]
    exact ⟨t', l1, rfl, RenR.shape h1, RenRs.shape h2⟩
end
theorem ShapeE.kind : ∀ {t t' : PE}, ShapeE t t' → t'.kind = t.kind
  | .mk k nm ns d l, t', h => by
    rw [ShapeE] at h
    obtain ⟨nm', ns', l', rfl, _⟩ := h
    rfl
theorem ShapeEs.len : ∀ {l l' : List PE}, ShapeEs l l' → l'.length = l.length
  | [], l', h => by rw [ShapeEs] at h; rw [h]
  | t :: l, l', h => by
    rw [ShapeEs] at h
    obtain ⟨t', l1, rfl, _, h2⟩ := h
    simp only [List.length_cons, ShapeEs.len h2]
theorem ShapeEs.funs : ∀ {l l' : List PE} (n : Nat), ShapeEs l l' → funsB (l'.take n) = funsB (l.take n)
  | [], l', n, h => by rw [ShapeEs] at h; rw [h]
  | t :: l, l', 0, h => by rw [List.take_zero, List.take_zero]
  | t :: l, l', n + 1, h => by
    rw [ShapeEs] at h
    obtain ⟨t', l1, rfl, h1, h2⟩ := h
    have := ShapeEs.funs n h2
    unfold funsB at this ⊢
    simp only [List.take_succ_cons, List.all_cons, this, h1.kind]
theorem kids_shape {k : Int} {nm nm' : ByteArray} {n : Nat} {l l' : List PE} (h : ShapeEs l l') (h7 : k = 7 → nm = nm') : kidsB k nm' n l' = kidsB k nm n l := by
  unfold kidsB
  rw [h.len, h.funs n]
  by_cases e : k = 7
  · rw [h7 e]
  · simp only [if_neg e]
theorem dec_bytes (u : Nat) : ∀ c ∈ Lib.decDigits u, ∃ d : Fin 10, c = UInt8.ofNat (48 + d.val) := by
  induction u using Nat.strongRecOn with
  | _ u ih =>
    rw [Lib.decDigits]
    split
    · intro c hc
      rw [List.mem_singleton] at hc
      exact ⟨⟨u, by omega⟩, hc⟩
    · intro c hc
      rcases List.mem_append.1 hc with hc | hc
      · exact ih (u / 10) (by omega) c hc
      · rw [List.mem_singleton] at hc
        exact ⟨⟨u % 10, by omega⟩, hc⟩
theorem nby_dig : ∀ d : Fin 10, nby8 (UInt8.ofNat (48 + d.val)) = true := by decide +kernel
/-- A number's name may be a name. -/
theorem numS_name (n : Nat) (hn : n ≤ 1000000000) : nameB (numS n).data.toList = true := by
  have hlen := Lib.itoa_length_le (n : Int) (by omega) (by omega)
  show nameB (([118, 46] ++ Lib.itoa (n : Int)).toArray).toList = true
  unfold nameB numB bytesB
  have hb : (Lib.itoa (n : Int)).all nby8 = true := by
    rw [List.all_eq_true, Lib.itoa_nonneg]
    intro c hc
    obtain ⟨d, rfl⟩ := dec_bytes n c hc
    exact nby_dig d
  have h1 : nby8 118 = true := by decide +kernel
  have h2 : nby8 46 = true := by decide +kernel
  have h3 : dig8 118 = false := by decide +kernel
  simp only [List.cons_append, List.nil_append, List.all_cons, hb, h1, h2, h3, Bool.and_true, List.length_cons, Bool.false_and]
  simp
  omega
theorem names_num {U : List ByteArray} {n n' : Nat} {is : List Nat} (h : Rise U n n' is) (hn : n' ≤ 1000000000) : namesB (is.map numS) = true := by
  unfold namesB
  rw [decide_eq_true_eq]
  refine ⟨fun s hs => ?_, ?_⟩
  · obtain ⟨i, hi, rfl⟩ := List.mem_map.1 hs
    exact numS_name i (by have := (h.2 i hi).2.1; omega)
  · rw [List.Nodup, List.pairwise_map]
    exact h.1.imp fun h e => by have := numS_inj e; omega
theorem push_mem : ∀ (ns : List ByteArray) (is : List Nat) (env : ByteArray → List Nat) (t : ByteArray) (i : Nat), i ∈ pushE env ns is t → i ∈ env t ∨ i ∈ is
  | [], is, env, t, i, h => by rw [pushE] at h; exact .inl h
  | s :: ns, [], env, t, i, h => by rw [pushE] at h; exact .inl h
  | s :: ns, j :: is, env, t, i, h => by
    rw [pushE] at h
    rcases push_mem ns is (push1 env s j) t i h with h | h
    · unfold push1 at h
      split at h
      · rcases List.mem_append.1 h with h | h
        · exact .inl h
        · rw [List.mem_singleton] at h; exact .inr (h ▸ List.mem_cons_self)
      · exact .inl h
    · exact .inr (List.mem_cons_of_mem _ h)
theorem now_name {env : ByteArray → List Nat} {s : ByteArray} (h : nameB s.data.toList = true) (he : ∀ i ∈ env s, i ≤ 1000000000) : nameB (nowT env s).data.toList = true := by
  unfold nowT
  split
  · exact h
  · rename_i i hi
    exact numS_name i (he i (List.mem_of_getLast? hi))
mutual
/-- What renaming answers may be, if what was renamed may. -/
theorem RenR.check {U : List ByteArray} : ∀ {t t' : PE} {env : ByteArray → List Nat} {nx nx' : Nat} (deep n : Nat), RenR U env nx t t' nx' → okE t → nx' ≤ 1000000000 → (∀ s, ∀ i ∈ env s, i ≤ 1000000000) → chkE deep n t' = chkE deep n t
  | .mk k nm ns d l, t', env, nx, nx', deep, n, h, hok, hn, he => by
    rw [RenR] at h
    obtain ⟨nums, n1, l', h1, h2, h3, rfl⟩ := h
    rw [okE] at hok
    obtain ⟨hf, _, _, hoks⟩ := hok
    have hle := h3.le
    have hr := h1.rise
    have hk : kidsB k (if k = 1 ∨ k = 2 then nowT env nm else nm) (nums.map numS).length l' = kidsB k nm ns.length l := by
      rw [List.length_map, h2]
      exact kids_shape (RenRs.shape h3) (fun e => by rw [if_neg (by omega)])
    have hf' : formE (.mk k (if k = 1 ∨ k = 2 then nowT env nm else nm) (nums.map numS) d l') = true := by
      unfold formE at hf ⊢
      simp only at hf ⊢
      rw [hk]
      rw [Bool.and_eq_true] at hf ⊢
      refine ⟨hf.1, ?_⟩
      have hf2 := hf.2
      unfold fieldsB at hf2 ⊢
      simp only [Bool.and_eq_true] at hf2 ⊢
      obtain ⟨⟨f1, f2⟩, f3⟩ := hf2
      refine ⟨⟨?_, ?_⟩, f3⟩
      · unfold nameOkB at f1 ⊢
        by_cases e : k = 1 ∨ k = 2
        · rw [if_pos e] at f1
          rw [if_pos e, if_pos e]
          exact now_name f1 (he nm)
        · rw [if_neg e] at f1
          rw [if_neg e, if_neg e]
          exact f1
      · unfold namesOkB at f2 ⊢
        split
        · exact names_num hr (by omega)
        · rename_i e
          rw [if_neg e] at f2
          rw [List.length_map, h2]
          exact f2
    rw [chkE, chkE, if_pos hf', if_pos hf, RenRs.check (deep + 1) (n + 1) h3 hoks hn he (fun s i hi => by
      rcases push_mem ns nums env s i hi with h | h
      · exact he s i h
      · have := (hr.2 i h).2.1; omega)]
theorem RenRs.check {U : List ByteArray} : ∀ {l l' : List PE} {e1 e2 : ByteArray → List Nat} {fr nx nx' : Nat} (deep n : Nat), RenRs U e1 e2 fr nx l l' nx' → okEs l → nx' ≤ 1000000000 → (∀ s, ∀ i ∈ e1 s, i ≤ 1000000000) → (∀ s, ∀ i ∈ e2 s, i ≤ 1000000000) → chkEs deep n l' = chkEs deep n l
  | [], l', e1, e2, fr, nx, nx', deep, n, h, hok, hn, h1, h2 => by
    rw [RenRs] at h
    rw [h.1]
  | t :: l, l', e1, e2, fr, nx, nx', deep, n, h, hok, hn, he1, he2 => by
    rw [RenRs] at h
    obtain ⟨t', n1, l1, h1, h2, rfl⟩ := h
    rw [okEs] at hok
    have hle := h2.le
    have hc := RenR.check deep n h1 hok.1 (by omega) (by split; exact he2; exact he1)
    rw [chkEs, chkEs, hc]
    split
    · exact RenRs.check deep _ h2 hok.2 hn he1 he2
    · rfl
end
end Go.Proofs.YtjofdlnopchaeaaGreatDoor.Core
