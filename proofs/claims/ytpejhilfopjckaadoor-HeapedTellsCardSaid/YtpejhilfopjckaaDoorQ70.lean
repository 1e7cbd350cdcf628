/-
What a primitive makes is one and the same in package heap and in the document's heap. Where the table of what is reckoned is as the program lays it.
-/
import Derived.Test.YtpejhilfopjckaaDoorQ37
import Derived.Test.YtpejhilfopjckaaDoorQ10c
import Derived.Test.YtpejhilfopjckaaDoorQ10d
import Derived.Test.YtpejhilfopjckaaDoorQGh
import Derived.Test.YtpejhilfopjckaaDoorQ32
import Derived.Test.YtpejhilfopjckaaDoorQ35
import Derived.Test.YtpejhilfopjckaaDoorQGd
import Derived.Test.YtpejhilfopjckaaDoorQ14
import Derived.Test.YtpejhilfopjckaaDoorQ67
import Derived.Test.YtpejhilfopjckaaDoorQ68
import Derived.Test.YtpejhilfopjckaaDoorQ69
import Derived.Test.YtpejhilfopjckaaDoorQGg
import Derived.Test.YtpejhilfopjckaaDoorQ73
import Derived.Test.YtpejhilfopjckaaDoorQ80
namespace Go.Proofs.YtpejhilfopjckaaDoor.Hp
open Go.ChangeShapes Go.WideShapes Go.ChangeAt Go.RowKit Go.Deep
open Dat (PT ok64 RepV RepS RowX infoDatum)
set_option maxRecDepth 100000

/-- What the code wants and what the document's table says of one argument, are one. -/
def pw (a b : Int) : Bool := (a == 0 && b == -1) || (a == 2 && b == 1) || (a == 3 && b == 2) || (a == 7 && b == 10) || (a == 8 && b == 11) || (a == 9 && b == 12) || (a == 10 && b == 13)
def pws : List Int → List Int → Bool
  | [], [] => true
  | a :: x, b :: y => pw a b && pws x y
  | _, _ => false
theorem isB_isR {T : List (Int × List PV)} {v : PV} {a b : Int} (hi : InT T v) (h : pw a b = true) : isB T v a = isR T v b := by
  unfold pw at h
  simp only [Bool.or_eq_true, Bool.and_eq_true, beq_iff_eq] at h
  rcases h with (((((⟨rfl, rfl⟩ | ⟨rfl, rfl⟩) | ⟨rfl, rfl⟩) | ⟨rfl, rfl⟩) | ⟨rfl, rfl⟩) | ⟨rfl, rfl⟩) | ⟨rfl, rfl⟩
  · rfl
  · rfl
  · rfl
  · exact isB_kind hi (by decide)
  · exact isB_kind hi (by decide)
  · exact isB_kind hi (by decide)
  · exact isB_kind hi (by decide)
theorem pws_length : ∀ {x y : List Int}, pws x y = true → x.length = y.length
  | [], [], _ => rfl
  | a :: x, b :: y, h => by
    rw [pws, Bool.and_eq_true] at h
    rw [List.length_cons, List.length_cons, pws_length h.2]
  | [], b :: y, h => by cases h
  | a :: x, [], h => by cases h
theorem all_same {T : List (Int × List PV)} : ∀ {x y : List Int} {l : List PV}, pws x y = true → (∀ v ∈ l, InT T v) → allIs T x l = allR T y l
  | [], [], l, _, _ => rfl
  | a :: x, b :: y, [], _, _ => rfl
  | a :: x, b :: y, v :: l, h, hi => by
    rw [pws, Bool.and_eq_true] at h
    rw [allIs, allR, isB_isR (hi v (by simp)) h.1, all_same h.2 (fun u hu => hi u (by simp [hu]))]
  | [], b :: y, l, h, _ => by cases h
  | a :: x, [], l, h, _ => by cases h
theorem inT_all {T : List (Int × List PV)} {l : List PV} (h : l.all (hasB T.length) = true) : ∀ v ∈ l, InT T v := fun v hv => inT_of (List.all_eq_true.1 h v hv)
theorem doG_doR {T : List (Int × List PV)} {x y : List Int} {l : List PV} {r : PV × Int × List (Int × List PV)} (h : pws x y = true) : doG T x l r = doR T y l r := by
  unfold doG doR
  rw [← pws_length h]
  by_cases h1 : x.length = l.length
  · by_cases h2 : l.all (hasB T.length) = true
    · rw [if_pos ⟨h1, h2⟩, if_pos h1, if_pos h2, all_same h (inT_all h2)]
    · rw [if_neg (fun hh => h2 hh.2), if_pos h1, if_neg h2]
  · rw [if_neg (fun hh => h1 hh.1), if_neg h1]
/-- What comes of values that may be, may be; there is one more thing at most, and none is large. -/
def OkRes (l : List PV) (T : List (Int × List PV)) (r : PV × Int × List (Int × List PV)) : Prop := (∀ u ∈ l, okV u) → l.length ≤ 1000 → (∀ t ∈ T, (∀ u ∈ t.2, okV u) ∧ t.2.length ≤ 1000) → T.length ≤ 100000 → okV r.1 ∧ r.2.2.length ≤ T.length + 1 ∧ ∀ t ∈ r.2.2, t.2.length ≤ 1000
theorem okV_num {k i : Int} (hk : 0 ≤ k ∧ k ≤ 8) (h0 : -9223372036854775808 ≤ i) (h1 : i ≤ 9223372036854775807) : okV ⟨k, i, ⟨#[]⟩⟩ := ok_num h0 h1 k hk.1 hk.2
theorem okres_same {l : List PV} {T : List (Int × List PV)} {u : PV} {err : Int} (h : (∀ u ∈ l, okV u) → (∀ t ∈ T, (∀ u ∈ t.2, okV u) ∧ t.2.length ≤ 1000) → T.length ≤ 100000 → okV u) : OkRes l T (u, err, T) :=
  fun h1 _ h2 h3 => ⟨h h1 h2 h3, Nat.le_succ _, fun t ht => (h2 t ht).2⟩
theorem okres_any {l : List PV} {T : List (Int × List PV)} {k i err : Int} (hk : 0 ≤ k ∧ k ≤ 8) (h : (∀ u ∈ l, okV u) → (∀ t ∈ T, (∀ u ∈ t.2, okV u) ∧ t.2.length ≤ 1000) → T.length ≤ 100000 → -9223372036854775808 ≤ i ∧ i ≤ 9223372036854775807) : OkRes l T (⟨k, i, ⟨#[]⟩⟩, err, T) :=
  okres_same fun h1 h2 h3 => okV_num hk (h h1 h2 h3).1 (h h1 h2 h3).2
theorem okres_zero {l : List PV} {T : List (Int × List PV)} {err : Int} : OkRes l T (⟨0, 0, ⟨#[]⟩⟩, err, T) := okres_any (by decide) (fun _ _ _ => by decide)
theorem okres_bool {l : List PV} {T : List (Int × List PV)} {b : Bool} : OkRes l T (⟨0, if b then 1 else 0, ⟨#[]⟩⟩, 0, T) := okres_any (by decide) (fun _ _ _ => by cases b <;> decide)
theorem okres_part {l : List PV} {T : List (Int × List PV)} {v : PV} {a : Int} : OkRes l T ((partT T v a).1, (partT T v a).2, T) := by
  refine okres_same fun h1 h2 h3 => ?_
  have z : okV ⟨0, 0, ⟨#[]⟩⟩ := okV_num (by decide) (by decide) (by decide)
  unfold partT
  split
  · rename_i t ht
    split
    · split
      · rename_i u hu
        exact (h2 t (List.mem_of_getElem? ht)).1 u (List.mem_of_getElem? hu)
      · exact z
    · exact z
  · exact z
theorem setT_small {T : List (Int × List PV)} {j i : Nat} {u : PV} (h : ∀ t ∈ T, t.2.length ≤ 1000) : ∀ t ∈ setT T j i u, t.2.length ≤ 1000 := by
  intro t ht
  unfold setT at ht
  split at ht
  · rename_i t0 h0
    rcases List.mem_or_eq_of_mem_set ht with h1 | rfl
    · exact h t h1
    · rw [List.length_set]; exact h t0 (List.mem_of_getElem? h0)
  · exact h t ht
theorem okres_put {l : List PV} {T : List (Int × List PV)} {v u : PV} {a : Int} : OkRes l T (putT T v a u) := by
  intro h1 hl h2 h3
  unfold putT
  split
  · exact ⟨okV_num (by decide) (by decide) (by decide), by rw [setT_len]; exact Nat.le_succ _, setT_small fun t ht => (h2 t ht).2⟩
  · exact ⟨okV_num (by decide) (by decide) (by decide), Nat.le_succ _, fun t ht => (h2 t ht).2⟩
theorem okres_rec {l : List PV} {T : List (Int × List PV)} {op i j : Int} : OkRes l T ((recT op i j).1, (recT op i j).2, T) := by
  refine okres_same fun h1 h2 h3 => ?_
  have z : okV ⟨0, 0, ⟨#[]⟩⟩ := okV_num (by decide) (by decide) (by decide)
  unfold recT
  split
  · exact z
  · split
    · rename_i h
      exact okV_num (by decide) (by omega) (by omega)
    · exact z
theorem snoc_small {T : List (Int × List PV)} {x : Int × List PV} (h : ∀ t ∈ T, t.2.length ≤ 1000) (hx : x.2.length ≤ 1000) : ∀ t ∈ T ++ [x], t.2.length ≤ 1000 := by
  intro t ht
  rcases List.mem_append.1 ht with h1 | h1
  · exact h t h1
  · rw [List.mem_singleton.1 h1]; exact hx
theorem okres_add {l : List PV} {T : List (Int × List PV)} {x : Int × List PV} (hx : l.length ≤ 1000 → x.2.length ≤ 1000) : OkRes l T (⟨8, T.length, ⟨#[]⟩⟩, 0, T ++ [x]) :=
  fun _ hl h2 h3 => ⟨okV_num (by decide) (by omega) (by omega), by simp, snoc_small (fun t ht => (h2 t ht).2) (hx hl)⟩
theorem okres_fill {l : List PV} {T : List (Int × List PV)} {kind n : Int} {u : PV} : OkRes l T (fillT T kind n u) := by
  unfold fillT
  split
  · exact okres_add fun _ => by show (repl n.toNat u).length ≤ 1000; rw [repl_length]; omega
  · exact okres_zero
theorem okres_i2c {l : List PV} {T : List (Int × List PV)} {i : Int} : OkRes l T (if 0 ≤ i ∧ i ≤ 255 then (⟨2, i, ⟨#[]⟩⟩, 0, T) else (⟨0, 0, ⟨#[]⟩⟩, 83, T)) := by
  split
  · exact okres_any (by decide) (fun _ _ _ => by omega)
  · exact okres_zero
theorem okres_len {l : List PV} {T : List (Int × List PV)} {j : Nat} (hj : j < T.length) : OkRes l T (⟨1, (T[j].2.length : Int), ⟨#[]⟩⟩, 0, T) :=
  okres_any (by decide) (fun _ h2 _ => by have := (h2 _ (List.getElem_mem hj)).2; omega)
theorem okres_doG {l : List PV} {T : List (Int × List PV)} {x : List Int} {r : PV × Int × List (Int × List PV)} (h : l.all (hasB T.length) = true → x.length = l.length → allIs T x l = true → OkRes l T r) : OkRes l T (doG T x l r) := by
  unfold doG
  split
  · rename_i h1
    split
    · rename_i h2
      exact h h1.2 h1.1 h2
    · exact okres_zero
  · exact okres_zero
/-- Both heaps answer one and the same, and then hold one and the same. -/
def BothDo (prim : ByteArray) (l : List PV) (T : List (Int × List PV)) : Prop := ∃ q : PV × Int × List (Int × List PV),
  (∀ (v : Value) (S : Nat → Prop) (hb : Nat) (F : Nat → Prop) (w : World), RecOk w → HeapM w hb T F → (∀ b, F b → b < w.heap.size) → InP w S l v →
    Calls Tryd.prog 10 #[.pointer (some ⟨hb, 0, none⟩), .string prim, v] w fun e w' => DoOk w hb F q.1 q.2.1 q.2.2 e w') ∧
  (∀ (v : Value) (S : Nat → Prop) (hb : Nat) (F : Nat → Prop) (w : World), HeapR w hb T F → (∀ b, F b → b < w.heap.size) → InP w S l v →
    Calls Tryd.prog 11 #[.pointer (some ⟨hb, 0, none⟩), .string prim, v] w fun e w' => DoR w hb F q.1 q.2.1 q.2.2 e w') ∧ OkRes l T q ∧ WfR T q
theorem both_of {prim : ByteArray} {l : List PV} {T : List (Int × List PV)} (x y : List Int) (idx : Nat) (hlt : idx < 38) (hrow : rowsP[idx]? = some (prim, y)) (hidx : idxP prim 38 = idx) (hxy : pws x y = true)
    (hx : ∀ q ∈ x, 0 ≤ q ∧ q ≤ 11) (hy : ∀ q ∈ y, -1 ≤ q ∧ q ≤ 13) (hlx : x.length ≤ 1000)
    (hw : ∀ W, RecOk W → Calls Tryd.prog 27 #[.string prim] W fun e w' => WantsIs x e w' ∧ Below W.heap.size W w')
    (hd : l.all (hasB T.length) = true → x.length = l.length → allIs T x l = true → ∃ r, (∀ hb F w0, RecOk w0 → DoneOk prim hb T F l r w0) ∧ (∀ hb F, TailOk prim l r hb T F) ∧ OkRes l T r ∧ WfR T r) : BothDo prim l T := by
  by_cases hc : l.all (hasB T.length) = true ∧ x.length = l.length ∧ allIs T x l = true
  · obtain ⟨r, h1, h2, h3, h4⟩ := hd hc.1 hc.2.1 hc.2.2
    refine ⟨doG T x l r, fun v S hb F w hR hH hF hP => do_anyR prim x hx l v S hb T F w r (fun W hW => hw W (hR.at hW)) hH hF hP hlx (fun _ _ _ => h1 hb F w hR), fun v S hb F w hH hF hP => ?_, okres_doG (fun _ _ _ => h3), wfr_doG h4⟩
    rw [doG_doR hxy]
    exact rdo_any prim y idx hlt hrow hidx hy l v S hb T F w r hH hF hP (by rw [← pws_length hxy]; exact hlx) (fun _ _ _ => h2 hb F)
  · refine ⟨doG T x l (⟨0, 0, ⟨#[]⟩⟩, 1, T), fun v S hb F w hR hH hF hP => do_anyR prim x hx l v S hb T F w _ (fun W hW => hw W (hR.at hW)) hH hF hP hlx (fun a b c => absurd ⟨a, b, c⟩ hc), fun v S hb F w hH hF hP => ?_, okres_doG (fun a b c => absurd ⟨a, b, c⟩ hc), wfr_doG wfr_same⟩
    rw [doG_doR hxy]
    exact rdo_any prim y idx hlt hrow hidx hy l v S hb T F w _ hH hF hP (by rw [← pws_length hxy]; exact hlx) (fun a b c => absurd ⟨a, by rw [pws_length hxy]; exact b, by rw [all_same hxy (inT_all a)]; exact c⟩ hc)
theorem has_num_of {n : Nat} {k i : Int} {s : ByteArray} (h : hasB n ⟨k, i, s⟩ = true) (hk : k = 1) : Num i := by
  subst hk
  unfold hasB numB at h
  simp at h
  exact ⟨h.1, h.2.1⟩
theorem th_of {T : List (Int × List PV)} {k i : Int} {s : ByteArray} {kd : Int} (h : thB T ⟨k, i, s⟩ kd = true) (hi : InT T ⟨k, i, s⟩) : 0 ≤ i ∧ i < T.length := by
  unfold thB at h
  exact hi (of_decide_eq_true h).1
theorem both_add {l : List PV} {T : List (Int × List PV)} (_ : T.length ≤ 100000) : BothDo ⟨#[43]⟩ l T := by
  refine both_of (idx := 0) [2, 2] [1, 1] (by decide) rfl (by kernel_rfl) rfl (by decide) (by decide) (by decide) (fun W hR => wanted_add W hR) ?_
  intro ha hlen hall
  match l, hlen with
  | [⟨k0, i0, s0⟩, ⟨k1, i1, s1⟩], _ =>
    have b0 : hasB T.length ⟨k0, i0, s0⟩ = true := List.all_eq_true.1 ha _ (by simp)
    have b1 : hasB T.length ⟨k1, i1, s1⟩ = true := List.all_eq_true.1 ha _ (by simp)
    simp only [allIs, Bool.and_eq_true, Bool.and_true] at hall
    have n0 := has_num_of b0 (by simpa [isB] using hall.1)
    have n1 := has_num_of b1 (by simpa [isB] using hall.2)
    exact ⟨_, fun hb F w0 hR => done_add k0 i0 k1 i1 s0 s1 hb T F w0 hR n0 n1, fun hb F => tail_add k0 i0 k1 i1 s0 s1 hb T F n0 n1 _ (Lib.hid rfl), okres_rec, wfr_same⟩
theorem both_sub {l : List PV} {T : List (Int × List PV)} (_ : T.length ≤ 100000) : BothDo ⟨#[45]⟩ l T := by
  refine both_of (idx := 1) [2, 2] [1, 1] (by decide) rfl (by kernel_rfl) rfl (by decide) (by decide) (by decide) (fun W hR => wanted_sub W hR) ?_
  intro ha hlen hall
  match l, hlen with
  | [⟨k0, i0, s0⟩, ⟨k1, i1, s1⟩], _ =>
    have b0 : hasB T.length ⟨k0, i0, s0⟩ = true := List.all_eq_true.1 ha _ (by simp)
    have b1 : hasB T.length ⟨k1, i1, s1⟩ = true := List.all_eq_true.1 ha _ (by simp)
    simp only [allIs, Bool.and_eq_true, Bool.and_true] at hall
    have n0 := has_num_of b0 (by simpa [isB] using hall.1)
    have n1 := has_num_of b1 (by simpa [isB] using hall.2)
    exact ⟨_, fun hb F w0 hR => done_sub k0 i0 k1 i1 s0 s1 hb T F w0 hR n0 n1, fun hb F => tail_sub k0 i0 k1 i1 s0 s1 hb T F n0 n1 _ (Lib.hid rfl), okres_rec, wfr_same⟩
theorem both_mul {l : List PV} {T : List (Int × List PV)} (_ : T.length ≤ 100000) : BothDo ⟨#[42]⟩ l T := by
  refine both_of (idx := 2) [2, 2] [1, 1] (by decide) rfl (by kernel_rfl) rfl (by decide) (by decide) (by decide) (fun W hR => wanted_mul W hR) ?_
  intro ha hlen hall
  match l, hlen with
  | [⟨k0, i0, s0⟩, ⟨k1, i1, s1⟩], _ =>
    have b0 : hasB T.length ⟨k0, i0, s0⟩ = true := List.all_eq_true.1 ha _ (by simp)
    have b1 : hasB T.length ⟨k1, i1, s1⟩ = true := List.all_eq_true.1 ha _ (by simp)
    simp only [allIs, Bool.and_eq_true, Bool.and_true] at hall
    have n0 := has_num_of b0 (by simpa [isB] using hall.1)
    have n1 := has_num_of b1 (by simpa [isB] using hall.2)
    exact ⟨_, fun hb F w0 hR => done_mul k0 i0 k1 i1 s0 s1 hb T F w0 hR n0 n1, fun hb F => tail_mul k0 i0 k1 i1 s0 s1 hb T F n0 n1 _ (Lib.hid rfl), okres_rec, wfr_same⟩
theorem both_quotient {l : List PV} {T : List (Int × List PV)} (_ : T.length ≤ 100000) : BothDo ⟨#[113, 117, 111, 116, 105, 101, 110, 116]⟩ l T := by
  refine both_of (idx := 3) [2, 2] [1, 1] (by decide) rfl (by kernel_rfl) rfl (by decide) (by decide) (by decide) (fun W hR => wanted_quotient W hR) ?_
  intro ha hlen hall
  match l, hlen with
  | [⟨k0, i0, s0⟩, ⟨k1, i1, s1⟩], _ =>
    have b0 : hasB T.length ⟨k0, i0, s0⟩ = true := List.all_eq_true.1 ha _ (by simp)
    have b1 : hasB T.length ⟨k1, i1, s1⟩ = true := List.all_eq_true.1 ha _ (by simp)
    simp only [allIs, Bool.and_eq_true, Bool.and_true] at hall
    have n0 := has_num_of b0 (by simpa [isB] using hall.1)
    have n1 := has_num_of b1 (by simpa [isB] using hall.2)
    exact ⟨_, fun hb F w0 hR => done_quotient k0 i0 k1 i1 s0 s1 hb T F w0 hR n0 n1, fun hb F => tail_quo k0 i0 k1 i1 s0 s1 hb T F n0 n1 _ (Lib.hid rfl), okres_rec, wfr_same⟩
theorem both_remainder {l : List PV} {T : List (Int × List PV)} (_ : T.length ≤ 100000) : BothDo ⟨#[114, 101, 109, 97, 105, 110, 100, 101, 114]⟩ l T := by
  refine both_of (idx := 4) [2, 2] [1, 1] (by decide) rfl (by kernel_rfl) rfl (by decide) (by decide) (by decide) (fun W hR => wanted_remainder W hR) ?_
  intro ha hlen hall
  match l, hlen with
  | [⟨k0, i0, s0⟩, ⟨k1, i1, s1⟩], _ =>
    have b0 : hasB T.length ⟨k0, i0, s0⟩ = true := List.all_eq_true.1 ha _ (by simp)
    have b1 : hasB T.length ⟨k1, i1, s1⟩ = true := List.all_eq_true.1 ha _ (by simp)
    simp only [allIs, Bool.and_eq_true, Bool.and_true] at hall
    have n0 := has_num_of b0 (by simpa [isB] using hall.1)
    have n1 := has_num_of b1 (by simpa [isB] using hall.2)
    exact ⟨_, fun hb F w0 hR => done_remainder k0 i0 k1 i1 s0 s1 hb T F w0 hR n0 n1, fun hb F => tail_rem k0 i0 k1 i1 s0 s1 hb T F n0 n1 _ (Lib.hid rfl), okres_rec, wfr_same⟩
theorem both_lt {l : List PV} {T : List (Int × List PV)} (_ : T.length ≤ 100000) : BothDo ⟨#[60]⟩ l T := by
  refine both_of (idx := 5) [2, 2] [1, 1] (by decide) rfl (by kernel_rfl) rfl (by decide) (by decide) (by decide) (fun W _ => wanted_lt W) ?_
  intro ha hlen hall
  match l, hlen with
  | [⟨k0, i0, s0⟩, ⟨k1, i1, s1⟩], _ =>
    have b0 : hasB T.length ⟨k0, i0, s0⟩ = true := List.all_eq_true.1 ha _ (by simp)
    have b1 : hasB T.length ⟨k1, i1, s1⟩ = true := List.all_eq_true.1 ha _ (by simp)
    simp only [allIs, Bool.and_eq_true, Bool.and_true] at hall
    exact ⟨_, fun hb F w0 hR => done_lt k0 i0 k1 i1 s0 s1 hb T F w0 hR (decide (i0 < i1)) rfl, fun hb F => tail_lt k0 i0 k1 i1 s0 s1 hb T F _ (Lib.hid rfl), okres_bool, wfr_same⟩
theorem both_numeq {l : List PV} {T : List (Int × List PV)} (_ : T.length ≤ 100000) : BothDo ⟨#[61]⟩ l T := by
  refine both_of (idx := 6) [2, 2] [1, 1] (by decide) rfl (by kernel_rfl) rfl (by decide) (by decide) (by decide) (fun W _ => wanted_eq W) ?_
  intro ha hlen hall
  match l, hlen with
  | [⟨k0, i0, s0⟩, ⟨k1, i1, s1⟩], _ =>
    have b0 : hasB T.length ⟨k0, i0, s0⟩ = true := List.all_eq_true.1 ha _ (by simp)
    have b1 : hasB T.length ⟨k1, i1, s1⟩ = true := List.all_eq_true.1 ha _ (by simp)
    simp only [allIs, Bool.and_eq_true, Bool.and_true] at hall
    exact ⟨_, fun hb F w0 hR => done_numeq k0 i0 k1 i1 s0 s1 hb T F w0 hR (decide (k0 = k1 ∧ i0 = i1 ∧ s0 = s1)) rfl, fun hb F => tail_numeq k0 i0 k1 i1 s0 s1 hb T F _ (Lib.hid rfl), okres_bool, wfr_same⟩
theorem both_eqq {l : List PV} {T : List (Int × List PV)} (_ : T.length ≤ 100000) : BothDo ⟨#[101, 113, 63]⟩ l T := by
  refine both_of (idx := 7) [0, 0] [-1, -1] (by decide) rfl (by kernel_rfl) rfl (by decide) (by decide) (by decide) (fun W _ => wanted_eq_q W) ?_
  intro ha hlen hall
  match l, hlen with
  | [⟨k0, i0, s0⟩, ⟨k1, i1, s1⟩], _ =>
    have b0 : hasB T.length ⟨k0, i0, s0⟩ = true := List.all_eq_true.1 ha _ (by simp)
    have b1 : hasB T.length ⟨k1, i1, s1⟩ = true := List.all_eq_true.1 ha _ (by simp)
    simp only [allIs, Bool.and_eq_true, Bool.and_true] at hall
    exact ⟨_, fun hb F w0 hR => done_eqq k0 i0 k1 i1 s0 s1 hb T F w0 hR (decide (k0 = k1 ∧ i0 = i1 ∧ s0 = s1)) rfl, fun hb F => tail_eqq k0 i0 k1 i1 s0 s1 hb T F _ (Lib.hid rfl), okres_bool, wfr_same⟩
theorem both_null_q {l : List PV} {T : List (Int × List PV)} (_ : T.length ≤ 100000) : BothDo ⟨#[110, 117, 108, 108, 63]⟩ l T := by
  refine both_of (idx := 8) [0] [-1] (by decide) rfl (by kernel_rfl) rfl (by decide) (by decide) (by decide) (fun W _ => wanted_null_q W) ?_
  intro ha hlen hall
  match l, hlen with
  | [⟨k0, i0, s0⟩], _ =>
    have b0 : hasB T.length ⟨k0, i0, s0⟩ = true := List.all_eq_true.1 ha _ (by simp)
    simp only [allIs, Bool.and_true] at hall
    exact ⟨_, fun hb F w0 hR => done_null_q k0 i0 s0 hb T F w0 hR (inT_of b0), fun hb F => tail_null_q k0 i0 s0 hb T F _ (Lib.hid rfl), okres_bool, wfr_same⟩
theorem both_symbol_q {l : List PV} {T : List (Int × List PV)} (_ : T.length ≤ 100000) : BothDo ⟨#[115, 121, 109, 98, 111, 108, 63]⟩ l T := by
  refine both_of (idx := 9) [0] [-1] (by decide) rfl (by kernel_rfl) rfl (by decide) (by decide) (by decide) (fun W _ => wanted_symbol_q W) ?_
  intro ha hlen hall
  match l, hlen with
  | [⟨k0, i0, s0⟩], _ =>
    have b0 : hasB T.length ⟨k0, i0, s0⟩ = true := List.all_eq_true.1 ha _ (by simp)
    simp only [allIs, Bool.and_true] at hall
    exact ⟨_, fun hb F w0 hR => done_symbol_q k0 i0 s0 hb T F w0 hR (inT_of b0), fun hb F => tail_symbol_q k0 i0 s0 hb T F _ (Lib.hid rfl), okres_bool, wfr_same⟩
theorem both_char_q {l : List PV} {T : List (Int × List PV)} (_ : T.length ≤ 100000) : BothDo ⟨#[99, 104, 97, 114, 63]⟩ l T := by
  refine both_of (idx := 10) [0] [-1] (by decide) rfl (by kernel_rfl) rfl (by decide) (by decide) (by decide) (fun W _ => wanted_char_q W) ?_
  intro ha hlen hall
  match l, hlen with
  | [⟨k0, i0, s0⟩], _ =>
    have b0 : hasB T.length ⟨k0, i0, s0⟩ = true := List.all_eq_true.1 ha _ (by simp)
    simp only [allIs, Bool.and_true] at hall
    exact ⟨_, fun hb F w0 hR => done_char_q k0 i0 s0 hb T F w0 hR (inT_of b0), fun hb F => tail_char_q k0 i0 s0 hb T F _ (Lib.hid rfl), okres_bool, wfr_same⟩
theorem both_integer_q {l : List PV} {T : List (Int × List PV)} (_ : T.length ≤ 100000) : BothDo ⟨#[105, 110, 116, 101, 103, 101, 114, 63]⟩ l T := by
  refine both_of (idx := 11) [0] [-1] (by decide) rfl (by kernel_rfl) rfl (by decide) (by decide) (by decide) (fun W _ => wanted_integer_q W) ?_
  intro ha hlen hall
  match l, hlen with
  | [⟨k0, i0, s0⟩], _ =>
    have b0 : hasB T.length ⟨k0, i0, s0⟩ = true := List.all_eq_true.1 ha _ (by simp)
    simp only [allIs, Bool.and_true] at hall
    exact ⟨_, fun hb F w0 hR => done_integer_q k0 i0 s0 hb T F w0 hR (inT_of b0), fun hb F => tail_integer_q k0 i0 s0 hb T F _ (Lib.hid rfl), okres_bool, wfr_same⟩
theorem both_boolean_q {l : List PV} {T : List (Int × List PV)} (_ : T.length ≤ 100000) : BothDo ⟨#[98, 111, 111, 108, 101, 97, 110, 63]⟩ l T := by
  refine both_of (idx := 12) [0] [-1] (by decide) rfl (by kernel_rfl) rfl (by decide) (by decide) (by decide) (fun W _ => wanted_boolean_q W) ?_
  intro ha hlen hall
  match l, hlen with
  | [⟨k0, i0, s0⟩], _ =>
    have b0 : hasB T.length ⟨k0, i0, s0⟩ = true := List.all_eq_true.1 ha _ (by simp)
    simp only [allIs, Bool.and_true] at hall
    exact ⟨_, fun hb F w0 hR => done_boolean_q k0 i0 s0 hb T F w0 hR (inT_of b0), fun hb F => tail_boolean_q k0 i0 s0 hb T F _ (Lib.hid rfl), okres_bool, wfr_same⟩
theorem both_eof_object_q {l : List PV} {T : List (Int × List PV)} (_ : T.length ≤ 100000) : BothDo ⟨#[101, 111, 102, 45, 111, 98, 106, 101, 99, 116, 63]⟩ l T := by
  refine both_of (idx := 13) [0] [-1] (by decide) rfl (by kernel_rfl) rfl (by decide) (by decide) (by decide) (fun W _ => wanted_eof_object_q W) ?_
  intro ha hlen hall
  match l, hlen with
  | [⟨k0, i0, s0⟩], _ =>
    have b0 : hasB T.length ⟨k0, i0, s0⟩ = true := List.all_eq_true.1 ha _ (by simp)
    simp only [allIs, Bool.and_true] at hall
    exact ⟨_, fun hb F w0 hR => done_eof_object_q k0 i0 s0 hb T F w0 hR (inT_of b0), fun hb F => tail_eof_q k0 i0 s0 hb T F _ (Lib.hid rfl), okres_bool, wfr_same⟩
theorem both_pair_q {l : List PV} {T : List (Int × List PV)} (_ : T.length ≤ 100000) : BothDo ⟨#[112, 97, 105, 114, 63]⟩ l T := by
  refine both_of (idx := 14) [0] [-1] (by decide) rfl (by kernel_rfl) rfl (by decide) (by decide) (by decide) (fun W _ => wanted_pair_q W) ?_
  intro ha hlen hall
  match l, hlen with
  | [⟨k0, i0, s0⟩], _ =>
    have b0 : hasB T.length ⟨k0, i0, s0⟩ = true := List.all_eq_true.1 ha _ (by simp)
    simp only [allIs, Bool.and_true] at hall
    exact ⟨_, fun hb F w0 hR => done_pair_q k0 i0 s0 hb T F w0 hR (inT_of b0), fun hb F => tail_pair_q k0 i0 s0 hb T F (inT_of b0) _ (Lib.hid rfl), okres_bool, wfr_same⟩
theorem both_vector_q {l : List PV} {T : List (Int × List PV)} (_ : T.length ≤ 100000) : BothDo ⟨#[118, 101, 99, 116, 111, 114, 63]⟩ l T := by
  refine both_of (idx := 15) [0] [-1] (by decide) rfl (by kernel_rfl) rfl (by decide) (by decide) (by decide) (fun W _ => wanted_vector_q W) ?_
  intro ha hlen hall
  match l, hlen with
  | [⟨k0, i0, s0⟩], _ =>
    have b0 : hasB T.length ⟨k0, i0, s0⟩ = true := List.all_eq_true.1 ha _ (by simp)
    simp only [allIs, Bool.and_true] at hall
    exact ⟨_, fun hb F w0 hR => done_vector_q k0 i0 s0 hb T F w0 hR (inT_of b0), fun hb F => tail_vector_q k0 i0 s0 hb T F (inT_of b0) _ (Lib.hid rfl), okres_bool, wfr_same⟩
theorem both_string_q {l : List PV} {T : List (Int × List PV)} (_ : T.length ≤ 100000) : BothDo ⟨#[115, 116, 114, 105, 110, 103, 63]⟩ l T := by
  refine both_of (idx := 16) [0] [-1] (by decide) rfl (by kernel_rfl) rfl (by decide) (by decide) (by decide) (fun W _ => wanted_string_q W) ?_
  intro ha hlen hall
  match l, hlen with
  | [⟨k0, i0, s0⟩], _ =>
    have b0 : hasB T.length ⟨k0, i0, s0⟩ = true := List.all_eq_true.1 ha _ (by simp)
    simp only [allIs, Bool.and_true] at hall
    exact ⟨_, fun hb F w0 hR => done_string_q k0 i0 s0 hb T F w0 hR (inT_of b0), fun hb F => tail_string_q k0 i0 s0 hb T F (inT_of b0) _ (Lib.hid rfl), okres_bool, wfr_same⟩
theorem both_procedure_q {l : List PV} {T : List (Int × List PV)} (_ : T.length ≤ 100000) : BothDo ⟨#[112, 114, 111, 99, 101, 100, 117, 114, 101, 63]⟩ l T := by
  refine both_of (idx := 17) [0] [-1] (by decide) rfl (by kernel_rfl) rfl (by decide) (by decide) (by decide) (fun W _ => wanted_procedure_q W) ?_
  intro ha hlen hall
  match l, hlen with
  | [⟨k0, i0, s0⟩], _ =>
    have b0 : hasB T.length ⟨k0, i0, s0⟩ = true := List.all_eq_true.1 ha _ (by simp)
    simp only [allIs, Bool.and_true] at hall
    exact ⟨_, fun hb F w0 hR => done_procedure_q k0 i0 s0 hb T F w0 hR (inT_of b0), fun hb F => tail_procedure_q k0 i0 s0 hb T F (inT_of b0) _ (Lib.hid rfl), okres_bool, wfr_same⟩
theorem both_cons {l : List PV} {T : List (Int × List PV)} (hT : T.length ≤ 100000) : BothDo ⟨#[99, 111, 110, 115]⟩ l T := by
  refine both_of (idx := 18) [0, 0] [-1, -1] (by decide) rfl (by kernel_rfl) rfl (by decide) (by decide) (by decide) (fun W _ => wanted_cons W) ?_
  intro ha hlen hall
  match l, hlen with
  | [⟨k0, i0, s0⟩, ⟨k1, i1, s1⟩], _ =>
    have b0 : hasB T.length ⟨k0, i0, s0⟩ = true := List.all_eq_true.1 ha _ (by simp)
    have b1 : hasB T.length ⟨k1, i1, s1⟩ = true := List.all_eq_true.1 ha _ (by simp)
    simp only [allIs, Bool.and_eq_true, Bool.and_true] at hall
    exact ⟨_, fun hb F w0 hR => done_cons [⟨k0, i0, s0⟩, ⟨k1, i1, s1⟩] hb T F w0 hR (by simp) hT, fun hb F => tail_cons k0 i0 k1 i1 s0 s1 hb T F hT _ (Lib.hid rfl), okres_add id, wfr_add (show (0 : Int) ≤ 0 ∧ (0 : Int) ≤ 4 from by decide) (fun h => by first | rfl | cases h) (by simp) (fun u hu => List.all_eq_true.1 ha u hu)⟩
theorem both_car {l : List PV} {T : List (Int × List PV)} (_ : T.length ≤ 100000) : BothDo ⟨#[99, 97, 114]⟩ l T := by
  refine both_of (idx := 19) [7] [10] (by decide) rfl (by kernel_rfl) rfl (by decide) (by decide) (by decide) (fun W _ => wanted_car W) ?_
  intro ha hlen hall
  match l, hlen with
  | [⟨k0, i0, s0⟩], _ =>
    have b0 : hasB T.length ⟨k0, i0, s0⟩ = true := List.all_eq_true.1 ha _ (by simp)
    simp only [allIs, Bool.and_true] at hall
    obtain ⟨h0, h1⟩ := th_of (show thB T ⟨k0, i0, s0⟩ _ = true from hall) (inT_of b0)
    exact ⟨_, fun hb F w0 hR => done_car k0 i0 s0 hb T F w0 h0 h1, fun hb F => tail_car k0 i0 s0 hb T F h0 h1 _ (Lib.hid rfl), okres_part, wfr_same⟩
theorem both_cdr {l : List PV} {T : List (Int × List PV)} (_ : T.length ≤ 100000) : BothDo ⟨#[99, 100, 114]⟩ l T := by
  refine both_of (idx := 20) [7] [10] (by decide) rfl (by kernel_rfl) rfl (by decide) (by decide) (by decide) (fun W _ => wanted_cdr W) ?_
  intro ha hlen hall
  match l, hlen with
  | [⟨k0, i0, s0⟩], _ =>
    have b0 : hasB T.length ⟨k0, i0, s0⟩ = true := List.all_eq_true.1 ha _ (by simp)
    simp only [allIs, Bool.and_true] at hall
    obtain ⟨h0, h1⟩ := th_of (show thB T ⟨k0, i0, s0⟩ _ = true from hall) (inT_of b0)
    exact ⟨_, fun hb F w0 hR => done_cdr k0 i0 s0 hb T F w0 h0 h1, fun hb F => tail_cdr k0 i0 s0 hb T F h0 h1 _ (Lib.hid rfl), okres_part, wfr_same⟩
theorem both_setcar {l : List PV} {T : List (Int × List PV)} (_ : T.length ≤ 100000) : BothDo ⟨#[115, 101, 116, 45, 99, 97, 114, 33]⟩ l T := by
  refine both_of (idx := 21) [7, 0] [10, -1] (by decide) rfl (by kernel_rfl) rfl (by decide) (by decide) (by decide) (fun W _ => wanted_set_car_x W) ?_
  intro ha hlen hall
  match l, hlen with
  | [⟨k0, i0, s0⟩, ⟨k1, i1, s1⟩], _ =>
    have b0 : hasB T.length ⟨k0, i0, s0⟩ = true := List.all_eq_true.1 ha _ (by simp)
    have b1 : hasB T.length ⟨k1, i1, s1⟩ = true := List.all_eq_true.1 ha _ (by simp)
    simp only [allIs, Bool.and_eq_true, Bool.and_true] at hall
    obtain ⟨h0, h1⟩ := th_of (show thB T ⟨k0, i0, s0⟩ _ = true from hall.1) (inT_of b0)
    exact ⟨_, fun hb F w0 hR => done_setcar k0 i0 k1 i1 s0 s1 hb T F w0 h0 h1, fun hb F => tail_setcar k0 i0 k1 i1 s0 s1 hb T F h0 h1 _ (Lib.hid rfl), okres_put, wfr_put b1⟩
theorem both_setcdr {l : List PV} {T : List (Int × List PV)} (_ : T.length ≤ 100000) : BothDo ⟨#[115, 101, 116, 45, 99, 100, 114, 33]⟩ l T := by
  refine both_of (idx := 22) [7, 0] [10, -1] (by decide) rfl (by kernel_rfl) rfl (by decide) (by decide) (by decide) (fun W _ => wanted_set_cdr_x W) ?_
  intro ha hlen hall
  match l, hlen with
  | [⟨k0, i0, s0⟩, ⟨k1, i1, s1⟩], _ =>
    have b0 : hasB T.length ⟨k0, i0, s0⟩ = true := List.all_eq_true.1 ha _ (by simp)
    have b1 : hasB T.length ⟨k1, i1, s1⟩ = true := List.all_eq_true.1 ha _ (by simp)
    simp only [allIs, Bool.and_eq_true, Bool.and_true] at hall
    obtain ⟨h0, h1⟩ := th_of (show thB T ⟨k0, i0, s0⟩ _ = true from hall.1) (inT_of b0)
    exact ⟨_, fun hb F w0 hR => done_setcdr k0 i0 k1 i1 s0 s1 hb T F w0 h0 h1, fun hb F => tail_setcdr k0 i0 k1 i1 s0 s1 hb T F h0 h1 _ (Lib.hid rfl), okres_put, wfr_put b1⟩
theorem both_mkvec {l : List PV} {T : List (Int × List PV)} (hT : T.length ≤ 100000) : BothDo ⟨#[109, 97, 107, 101, 45, 118, 101, 99, 116, 111, 114]⟩ l T := by
  refine both_of (idx := 23) [2, 0] [1, -1] (by decide) rfl (by kernel_rfl) rfl (by decide) (by decide) (by decide) (fun W _ => wanted_make_vector W) ?_
  intro ha hlen hall
  match l, hlen with
  | [⟨k0, i0, s0⟩, ⟨k1, i1, s1⟩], _ =>
    have b0 : hasB T.length ⟨k0, i0, s0⟩ = true := List.all_eq_true.1 ha _ (by simp)
    have b1 : hasB T.length ⟨k1, i1, s1⟩ = true := List.all_eq_true.1 ha _ (by simp)
    simp only [allIs, Bool.and_eq_true, Bool.and_true] at hall
    exact ⟨_, fun hb F w0 hR => done_mkvec k0 i0 k1 i1 s0 s1 hb T F w0 hT, fun hb F => tail_mkvec k0 i0 k1 i1 s0 s1 hb T F hT _ (Lib.hid rfl), okres_fill, wfr_fill (by decide) b1⟩
theorem both_mkstr {l : List PV} {T : List (Int × List PV)} (hT : T.length ≤ 100000) : BothDo ⟨#[109, 97, 107, 101, 45, 115, 116, 114, 105, 110, 103]⟩ l T := by
  refine both_of (idx := 24) [2, 3] [1, 2] (by decide) rfl (by kernel_rfl) rfl (by decide) (by decide) (by decide) (fun W _ => wanted_make_string W) ?_
  intro ha hlen hall
  match l, hlen with
  | [⟨k0, i0, s0⟩, ⟨k1, i1, s1⟩], _ =>
    have b0 : hasB T.length ⟨k0, i0, s0⟩ = true := List.all_eq_true.1 ha _ (by simp)
    have b1 : hasB T.length ⟨k1, i1, s1⟩ = true := List.all_eq_true.1 ha _ (by simp)
    simp only [allIs, Bool.and_eq_true, Bool.and_true] at hall
    exact ⟨_, fun hb F w0 hR => done_mkstr k0 i0 k1 i1 s0 s1 hb T F w0 hT, fun hb F => tail_mkstr k0 i0 k1 i1 s0 s1 hb T F hT _ (Lib.hid rfl), okres_fill, wfr_fill (by decide) b1⟩
theorem both_vlen {l : List PV} {T : List (Int × List PV)} (_ : T.length ≤ 100000) : BothDo ⟨#[118, 101, 99, 116, 111, 114, 45, 108, 101, 110, 103, 116, 104]⟩ l T := by
  refine both_of (idx := 25) [8] [11] (by decide) rfl (by kernel_rfl) rfl (by decide) (by decide) (by decide) (fun W _ => wanted_vector_length W) ?_
  intro ha hlen hall
  match l, hlen with
  | [⟨k0, i0, s0⟩], _ =>
    have b0 : hasB T.length ⟨k0, i0, s0⟩ = true := List.all_eq_true.1 ha _ (by simp)
    simp only [allIs, Bool.and_true] at hall
    obtain ⟨h0, h1⟩ := th_of (show thB T ⟨k0, i0, s0⟩ _ = true from hall) (inT_of b0)
    have hj : i0.toNat < T.length := by omega
    exact ⟨_, fun hb F w0 hR => done_vlen k0 i0 s0 hb T F w0 hR h0 hj, fun hb F => tail_vlen k0 i0 s0 hb T F h0 hj _ (Lib.hid rfl), okres_len hj, wfr_same⟩
theorem both_slen {l : List PV} {T : List (Int × List PV)} (_ : T.length ≤ 100000) : BothDo ⟨#[115, 116, 114, 105, 110, 103, 45, 108, 101, 110, 103, 116, 104]⟩ l T := by
  refine both_of (idx := 26) [9] [12] (by decide) rfl (by kernel_rfl) rfl (by decide) (by decide) (by decide) (fun W _ => wanted_string_length W) ?_
  intro ha hlen hall
  match l, hlen with
  | [⟨k0, i0, s0⟩], _ =>
    have b0 : hasB T.length ⟨k0, i0, s0⟩ = true := List.all_eq_true.1 ha _ (by simp)
    simp only [allIs, Bool.and_true] at hall
    obtain ⟨h0, h1⟩ := th_of (show thB T ⟨k0, i0, s0⟩ _ = true from hall) (inT_of b0)
    have hj : i0.toNat < T.length := by omega
    exact ⟨_, fun hb F w0 hR => done_slen k0 i0 s0 hb T F w0 hR h0 hj, fun hb F => tail_slen k0 i0 s0 hb T F h0 hj _ (Lib.hid rfl), okres_len hj, wfr_same⟩
theorem both_vref {l : List PV} {T : List (Int × List PV)} (_ : T.length ≤ 100000) : BothDo ⟨#[118, 101, 99, 116, 111, 114, 45, 114, 101, 102]⟩ l T := by
  refine both_of (idx := 27) [8, 2] [11, 1] (by decide) rfl (by kernel_rfl) rfl (by decide) (by decide) (by decide) (fun W _ => wanted_vector_ref W) ?_
  intro ha hlen hall
  match l, hlen with
  | [⟨k0, i0, s0⟩, ⟨k1, i1, s1⟩], _ =>
    have b0 : hasB T.length ⟨k0, i0, s0⟩ = true := List.all_eq_true.1 ha _ (by simp)
    have b1 : hasB T.length ⟨k1, i1, s1⟩ = true := List.all_eq_true.1 ha _ (by simp)
    simp only [allIs, Bool.and_eq_true, Bool.and_true] at hall
    obtain ⟨h0, h1⟩ := th_of (show thB T ⟨k0, i0, s0⟩ _ = true from hall.1) (inT_of b0)
    exact ⟨_, fun hb F w0 hR => done_vref k0 i0 k1 i1 s0 s1 hb T F w0 h0 h1, fun hb F => tail_vref k0 i0 k1 i1 s0 s1 hb T F h0 h1 _ (Lib.hid rfl), okres_part, wfr_same⟩
theorem both_sref {l : List PV} {T : List (Int × List PV)} (_ : T.length ≤ 100000) : BothDo ⟨#[115, 116, 114, 105, 110, 103, 45, 114, 101, 102]⟩ l T := by
  refine both_of (idx := 28) [9, 2] [12, 1] (by decide) rfl (by kernel_rfl) rfl (by decide) (by decide) (by decide) (fun W _ => wanted_string_ref W) ?_
  intro ha hlen hall
  match l, hlen with
  | [⟨k0, i0, s0⟩, ⟨k1, i1, s1⟩], _ =>
    have b0 : hasB T.length ⟨k0, i0, s0⟩ = true := List.all_eq_true.1 ha _ (by simp)
    have b1 : hasB T.length ⟨k1, i1, s1⟩ = true := List.all_eq_true.1 ha _ (by simp)
    simp only [allIs, Bool.and_eq_true, Bool.and_true] at hall
    obtain ⟨h0, h1⟩ := th_of (show thB T ⟨k0, i0, s0⟩ _ = true from hall.1) (inT_of b0)
    exact ⟨_, fun hb F w0 hR => done_sref k0 i0 k1 i1 s0 s1 hb T F w0 h0 h1, fun hb F => tail_sref k0 i0 k1 i1 s0 s1 hb T F h0 h1 _ (Lib.hid rfl), okres_part, wfr_same⟩
theorem both_vset {l : List PV} {T : List (Int × List PV)} (_ : T.length ≤ 100000) : BothDo ⟨#[118, 101, 99, 116, 111, 114, 45, 115, 101, 116, 33]⟩ l T := by
  refine both_of (idx := 29) [8, 2, 0] [11, 1, -1] (by decide) rfl (by kernel_rfl) rfl (by decide) (by decide) (by decide) (fun W _ => wanted_vector_set_x W) ?_
  intro ha hlen hall
  match l, hlen with
  | [⟨k0, i0, s0⟩, ⟨k1, i1, s1⟩, ⟨k2, i2, s2⟩], _ =>
    have b0 : hasB T.length ⟨k0, i0, s0⟩ = true := List.all_eq_true.1 ha _ (by simp)
    have b1 : hasB T.length ⟨k1, i1, s1⟩ = true := List.all_eq_true.1 ha _ (by simp)
    have b2 : hasB T.length ⟨k2, i2, s2⟩ = true := List.all_eq_true.1 ha _ (by simp)
    simp only [allIs, Bool.and_eq_true, Bool.and_true] at hall
    obtain ⟨h0, h1⟩ := th_of (show thB T ⟨k0, i0, s0⟩ _ = true from hall.1) (inT_of b0)
    exact ⟨_, fun hb F w0 hR => done_vset k0 i0 k1 i1 k2 i2 s0 s1 s2 hb T F w0 h0 h1, fun hb F => tail_vset k0 i0 k1 i1 k2 i2 s0 s1 s2 hb T F h0 h1 _ (Lib.hid rfl), okres_put, wfr_put b2⟩
theorem both_sset {l : List PV} {T : List (Int × List PV)} (_ : T.length ≤ 100000) : BothDo ⟨#[115, 116, 114, 105, 110, 103, 45, 115, 101, 116, 33]⟩ l T := by
  refine both_of (idx := 30) [9, 2, 3] [12, 1, 2] (by decide) rfl (by kernel_rfl) rfl (by decide) (by decide) (by decide) (fun W _ => wanted_string_set_x W) ?_
  intro ha hlen hall
  match l, hlen with
  | [⟨k0, i0, s0⟩, ⟨k1, i1, s1⟩, ⟨k2, i2, s2⟩], _ =>
    have b0 : hasB T.length ⟨k0, i0, s0⟩ = true := List.all_eq_true.1 ha _ (by simp)
    have b1 : hasB T.length ⟨k1, i1, s1⟩ = true := List.all_eq_true.1 ha _ (by simp)
    have b2 : hasB T.length ⟨k2, i2, s2⟩ = true := List.all_eq_true.1 ha _ (by simp)
    simp only [allIs, Bool.and_eq_true, Bool.and_true] at hall
    obtain ⟨h0, h1⟩ := th_of (show thB T ⟨k0, i0, s0⟩ _ = true from hall.1) (inT_of b0)
    exact ⟨_, fun hb F w0 hR => done_sset k0 i0 k1 i1 k2 i2 s0 s1 s2 hb T F w0 h0 h1, fun hb F => tail_sset k0 i0 k1 i1 k2 i2 s0 s1 s2 hb T F h0 h1 _ (Lib.hid rfl), okres_put, wfr_put b2⟩
theorem both_c2i {l : List PV} {T : List (Int × List PV)} (_ : T.length ≤ 100000) : BothDo ⟨#[99, 104, 97, 114, 45, 62, 105, 110, 116, 101, 103, 101, 114]⟩ l T := by
  refine both_of (idx := 31) [3] [2] (by decide) rfl (by kernel_rfl) rfl (by decide) (by decide) (by decide) (fun W _ => wanted_char_to_integer W) ?_
  intro ha hlen hall
  match l, hlen with
  | [⟨k0, i0, s0⟩], _ =>
    have b0 : hasB T.length ⟨k0, i0, s0⟩ = true := List.all_eq_true.1 ha _ (by simp)
    simp only [allIs, Bool.and_true] at hall
    exact ⟨_, fun hb F w0 hR => done_c2i k0 i0 s0 hb T F w0 hR, fun hb F => tail_c2i k0 i0 s0 hb T F _ (Lib.hid rfl), okres_any (by decide) (fun h _ _ => (h _ (List.mem_singleton.2 rfl)).2.1), wfr_same⟩
theorem both_i2c {l : List PV} {T : List (Int × List PV)} (_ : T.length ≤ 100000) : BothDo ⟨#[105, 110, 116, 101, 103, 101, 114, 45, 62, 99, 104, 97, 114]⟩ l T := by
  refine both_of (idx := 32) [2] [1] (by decide) rfl (by kernel_rfl) rfl (by decide) (by decide) (by decide) (fun W _ => wanted_integer_to_char W) ?_
  intro ha hlen hall
  match l, hlen with
  | [⟨k0, i0, s0⟩], _ =>
    have b0 : hasB T.length ⟨k0, i0, s0⟩ = true := List.all_eq_true.1 ha _ (by simp)
    simp only [allIs, Bool.and_true] at hall
    exact ⟨_, fun hb F w0 hR => done_i2c k0 i0 s0 hb T F w0 _ (Lib.hid rfl), fun hb F => tail_i2c k0 i0 s0 hb T F _ (Lib.hid rfl), okres_i2c, wfr_i2c⟩
theorem both_box {l : List PV} {T : List (Int × List PV)} (hT : T.length ≤ 100000) : BothDo ⟨#[37, 98, 111, 120]⟩ l T := by
  refine both_of (idx := 33) [0] [-1] (by decide) rfl (by kernel_rfl) rfl (by decide) (by decide) (by decide) (fun W _ => wanted_p_box W) ?_
  intro ha hlen hall
  match l, hlen with
  | [⟨k0, i0, s0⟩], _ =>
    have b0 : hasB T.length ⟨k0, i0, s0⟩ = true := List.all_eq_true.1 ha _ (by simp)
    simp only [allIs, Bool.and_true] at hall
    exact ⟨_, fun hb F w0 hR => done_box [⟨k0, i0, s0⟩] hb T F w0 hR (by simp) hT, fun hb F => tail_box k0 i0 s0 hb T F hT _ (Lib.hid rfl), okres_add id, wfr_add (show (0 : Int) ≤ 3 ∧ (3 : Int) ≤ 4 from by decide) (fun h => by first | rfl | cases h) (by simp) (fun u hu => List.all_eq_true.1 ha u hu)⟩
theorem both_unbox {l : List PV} {T : List (Int × List PV)} (_ : T.length ≤ 100000) : BothDo ⟨#[37, 117, 110, 98, 111, 120]⟩ l T := by
  refine both_of (idx := 34) [10] [13] (by decide) rfl (by kernel_rfl) rfl (by decide) (by decide) (by decide) (fun W _ => wanted_p_unbox W) ?_
  intro ha hlen hall
  match l, hlen with
  | [⟨k0, i0, s0⟩], _ =>
    have b0 : hasB T.length ⟨k0, i0, s0⟩ = true := List.all_eq_true.1 ha _ (by simp)
    simp only [allIs, Bool.and_true] at hall
    obtain ⟨h0, h1⟩ := th_of (show thB T ⟨k0, i0, s0⟩ _ = true from hall) (inT_of b0)
    exact ⟨_, fun hb F w0 hR => done_unbox k0 i0 s0 hb T F w0 h0 h1, fun hb F => tail_unbox k0 i0 s0 hb T F h0 h1 _ (Lib.hid rfl), okres_part, wfr_same⟩
theorem both_setbox {l : List PV} {T : List (Int × List PV)} (_ : T.length ≤ 100000) : BothDo ⟨#[37, 115, 101, 116, 45, 98, 111, 120, 33]⟩ l T := by
  refine both_of (idx := 35) [10, 0] [13, -1] (by decide) rfl (by kernel_rfl) rfl (by decide) (by decide) (by decide) (fun W _ => wanted_p_set_box_x W) ?_
  intro ha hlen hall
  match l, hlen with
  | [⟨k0, i0, s0⟩, ⟨k1, i1, s1⟩], _ =>
    have b0 : hasB T.length ⟨k0, i0, s0⟩ = true := List.all_eq_true.1 ha _ (by simp)
    have b1 : hasB T.length ⟨k1, i1, s1⟩ = true := List.all_eq_true.1 ha _ (by simp)
    simp only [allIs, Bool.and_eq_true, Bool.and_true] at hall
    obtain ⟨h0, h1⟩ := th_of (show thB T ⟨k0, i0, s0⟩ _ = true from hall.1) (inT_of b0)
    exact ⟨_, fun hb F w0 hR => done_setbox k0 i0 k1 i1 s0 s1 hb T F w0 h0 h1, fun hb F => tail_setbox k0 i0 k1 i1 s0 s1 hb T F h0 h1 _ (Lib.hid rfl), okres_put, wfr_put b1⟩
theorem both_void {l : List PV} {T : List (Int × List PV)} (_ : T.length ≤ 100000) : BothDo ⟨#[118, 111, 105, 100]⟩ l T := by
  refine both_of (idx := 36) [] [] (by decide) rfl (by kernel_rfl) rfl (by decide) (by decide) (by decide) (fun W _ => wanted_void W) ?_
  intro ha hlen hall
  match l, hlen with
  | [], _ =>
    exact ⟨_, fun hb F w0 hR => done_void [] hb T F w0 hR, fun hb F => tail_void hb T F _ (Lib.hid rfl), okres_any (by decide) (fun _ _ _ => by decide), wfr_same⟩
theorem both_unset {l : List PV} {T : List (Int × List PV)} (_ : T.length ≤ 100000) : BothDo ⟨#[37, 117, 110, 115, 101, 116]⟩ l T := by
  refine both_of (idx := 37) [] [] (by decide) rfl (by kernel_rfl) rfl (by decide) (by decide) (by decide) (fun W _ => wanted_p_unset W) ?_
  intro ha hlen hall
  match l, hlen with
  | [], _ =>
    exact ⟨_, fun hb F w0 hR => done_unset [] hb T F w0 hR, fun hb F => tail_unset hb T F _ (Lib.hid rfl), okres_any (by decide) (fun _ _ _ => by decide), wfr_same⟩
theorem both_none {prim : ByteArray} {l : List PV} {T : List (Int × List PV)} (h : idxP prim 38 = -1) : BothDo prim l T :=
  ⟨(⟨0, 0, ⟨#[]⟩⟩, 1, T), fun v S hb F w hR hH _ hP => do_none prim h l v S hb T F w hR hH hP, fun v S hb F w hH _ hP => rdo_none prim h l v S hb T F w hH hP, okres_zero, wfr_same⟩
theorem idxP_cases (prim : ByteArray) : ∀ n : Nat, n ≤ 38 → idxP prim n = -1 ∨ ∃ j, j < n ∧ ∃ r, rowsP[j]? = some r ∧ r.1 = prim
  | 0, _ => .inl rfl
  | n + 1, hn => by
    have hr : rowsP[n]? = some (rowsP[n]'(by show n < 38; omega)) := List.getElem?_eq_getElem _
    by_cases hc : ((rowsP[n]'(by show n < 38; omega)).1.toList == prim.toList) = true
    · refine .inr ⟨n, by omega, _, hr, ?_⟩
      have := beq_iff_eq.1 hc
      rw [ByteArray.toList_eq, ByteArray.toList_eq] at this
      exact ByteArray.ext (Array.toList_inj.1 this)
    · rcases idxP_cases prim n (by omega) with h | ⟨j, h1, h2⟩
      · refine .inl ?_
        rw [idxP]
        split
        · rename_i r' hr'
          rw [hr] at hr'
          cases hr'
          rw [if_neg hc]
          exact h
        · exact h
      · exact .inr ⟨j, by omega, h2⟩
theorem HeapR.parts_ok {w : World} {hb : Nat} {T : List (Int × List PV)} {F : Nat → Prop} (h : HeapR w hb T F) (hs : ∀ t ∈ T, t.2.length ≤ 1000) : ∀ t ∈ T, (∀ u ∈ t.2, okV u) ∧ t.2.length ≤ 1000 := by
  intro t ht
  refine ⟨fun u hu => ?_, hs t ht⟩
  obtain ⟨j, hj, rfl⟩ := List.mem_iff_getElem.1 ht
  obtain ⟨_, _, g, pv, _, _, _, _, _, _, hp, _⟩ := h.thing j hj
  rcases hp with ⟨e, _⟩ | ⟨_, ho, _⟩
  · rw [e] at hu; cases hu
  · exact ho u hu
theorem okres_made {l : List PV} {T : List (Int × List PV)} {kd : Int} : OkRes l T (madeT T kd l) := by
  unfold madeT
  split
  · exact okres_add id
  · exact okres_zero
theorem wfr_made {T : List (Int × List PV)} {kd : Int} {l : List PV} (hl : l.length ≤ 1000) : WfR T (madeT T kd l) := by
  unfold madeT
  split
  · rename_i h
    unfold madeB at h
    simp only [Bool.and_eq_true] at h
    refine wfr_add (mayB_kind h.1) (fun e => ?_) hl (fun u hu => List.all_eq_true.1 h.2.1 u hu)
    have e' : kd = 0 := e
    have h1 := h.1
    unfold mayB at h1
    rw [if_pos e'] at h1
    exact beq_iff_eq.1 h1
  · exact wfr_same
/-- Any primitive: both heaps answer one and the same. -/
theorem both_do (prim : ByteArray) (l : List PV) {T : List (Int × List PV)} (hT : T.length ≤ 100000) : BothDo prim l T := by
  rcases idxP_cases prim 38 (Nat.le_refl _) with h | ⟨j, hj, r, hr, rfl⟩
  · exact both_none h
  · match j, hj with
    | 0, _ => obtain rfl : _ = r := Option.some.inj hr; exact both_add hT
    | 1, _ => obtain rfl : _ = r := Option.some.inj hr; exact both_sub hT
    | 2, _ => obtain rfl : _ = r := Option.some.inj hr; exact both_mul hT
    | 3, _ => obtain rfl : _ = r := Option.some.inj hr; exact both_quotient hT
    | 4, _ => obtain rfl : _ = r := Option.some.inj hr; exact both_remainder hT
    | 5, _ => obtain rfl : _ = r := Option.some.inj hr; exact both_lt hT
    | 6, _ => obtain rfl : _ = r := Option.some.inj hr; exact both_numeq hT
    | 7, _ => obtain rfl : _ = r := Option.some.inj hr; exact both_eqq hT
    | 8, _ => obtain rfl : _ = r := Option.some.inj hr; exact both_null_q hT
    | 9, _ => obtain rfl : _ = r := Option.some.inj hr; exact both_symbol_q hT
    | 10, _ => obtain rfl : _ = r := Option.some.inj hr; exact both_char_q hT
    | 11, _ => obtain rfl : _ = r := Option.some.inj hr; exact both_integer_q hT
    | 12, _ => obtain rfl : _ = r := Option.some.inj hr; exact both_boolean_q hT
    | 13, _ => obtain rfl : _ = r := Option.some.inj hr; exact both_eof_object_q hT
    | 14, _ => obtain rfl : _ = r := Option.some.inj hr; exact both_pair_q hT
    | 15, _ => obtain rfl : _ = r := Option.some.inj hr; exact both_vector_q hT
    | 16, _ => obtain rfl : _ = r := Option.some.inj hr; exact both_string_q hT
    | 17, _ => obtain rfl : _ = r := Option.some.inj hr; exact both_procedure_q hT
    | 18, _ => obtain rfl : _ = r := Option.some.inj hr; exact both_cons hT
    | 19, _ => obtain rfl : _ = r := Option.some.inj hr; exact both_car hT
    | 20, _ => obtain rfl : _ = r := Option.some.inj hr; exact both_cdr hT
    | 21, _ => obtain rfl : _ = r := Option.some.inj hr; exact both_setcar hT
    | 22, _ => obtain rfl : _ = r := Option.some.inj hr; exact both_setcdr hT
    | 23, _ => obtain rfl : _ = r := Option.some.inj hr; exact both_mkvec hT
    | 24, _ => obtain rfl : _ = r := Option.some.inj hr; exact both_mkstr hT
    | 25, _ => obtain rfl : _ = r := Option.some.inj hr; exact both_vlen hT
    | 26, _ => obtain rfl : _ = r := Option.some.inj hr; exact both_slen hT
    | 27, _ => obtain rfl : _ = r := Option.some.inj hr; exact both_vref hT
    | 28, _ => obtain rfl : _ = r := Option.some.inj hr; exact both_sref hT
    | 29, _ => obtain rfl : _ = r := Option.some.inj hr; exact both_vset hT
    | 30, _ => obtain rfl : _ = r := Option.some.inj hr; exact both_sset hT
    | 31, _ => obtain rfl : _ = r := Option.some.inj hr; exact both_c2i hT
    | 32, _ => obtain rfl : _ = r := Option.some.inj hr; exact both_i2c hT
    | 33, _ => obtain rfl : _ = r := Option.some.inj hr; exact both_box hT
    | 34, _ => obtain rfl : _ = r := Option.some.inj hr; exact both_unbox hT
    | 35, _ => obtain rfl : _ = r := Option.some.inj hr; exact both_setbox hT
    | 36, _ => obtain rfl : _ = r := Option.some.inj hr; exact both_void hT
    | 37, _ => obtain rfl : _ = r := Option.some.inj hr; exact both_unset hT
    | n + 38, h => omega
end Go.Proofs.YtpejhilfopjckaaDoor.Hp
