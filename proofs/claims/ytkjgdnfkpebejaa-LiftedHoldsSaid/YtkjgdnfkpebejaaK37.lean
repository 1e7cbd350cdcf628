/-
Package core's Free, for every expression that may be: the free names, rising. No condition.
-/
import Derived.Test.YtkjgdnfkpebejaaWKT
import Derived.Test.YtkjgdnfkpebejaaK27
import Derived.Test.YtkjgdnfkpebejaaShelfK
import Derived.Sort.KeysCollected

namespace Go.Proofs.Ytkjgdnfkpebejaa.Core
open Go.ChangeShapes Go.WideShapes Go.ChangeAt Go.RowKit Go.Deep
open Go.Maps (Keyed IsMap) 
open Go.Sort Go.Shelf
open Dat (PT ok64)
set_option maxRecDepth 100000

theorem sortsK (m : Nat) : AnyZ.SortsIn Try.prog Try.sortedK_ren Fence.wide m :=
  ⟨fun blk off cap ss W hH hblk hsz => callsIn_wide.2 (AnyM.slices_Sort_string Try.sortK blk off cap ss W hH hblk hsz),
   fun p cap W => callsIn_wide.2 (AnyM.slices_Sort_string_none Try.sortK p cap W)⟩
theorem keys_any (mb : Option Nat) (W : World) : Calls Try.prog 36 #[.map mb] W fun e w' => e = .returned (.func (.func 57) #[] #[.pointer (some ⟨W.heap.size, 0, none⟩)]) ∧ w' = W.alloc (.cells #[.map mb] 68) :=
  callsIn_wide.1 (AnyZ.keys_in Try.keysK Fence.wide 5 trivial rfl mb W)
set_option maxHeartbeats 1000000 in
theorem sortedKeys_any {H : Type} (b nn : Nat) (D0 : DataW H) (R : Value → Option (DataW H × List MemPlace)) (w : World) (hown : w.ownsMap Try.prog 9 R b nn D0) (hmax : Maps.size D0 ≤ maxLen) (hbytes : Maps.size D0 * 16 ≤ 140737488355328) :
    Calls Try.prog 35 #[.func (.func 57) #[] #[.pointer (some ⟨w.heap.size, 0, none⟩)]] (w.alloc (.cells #[.map (some b)] 68)) fun e w' => ∃ (v : Value) (ss : List (List UInt8)), e = .returned v ∧ ss.Perm (strKeys D0) ∧
      w'.ownsRow (w.alloc (.cells #[.map (some b)] 68)).heap.size 9 1 v ss.length ((ss.mergeSort (fun x y => decide (x ≤ y))).map encStr) ∧ (v = .slice none 0 0 ↔ ss = []) ∧ Below (w.alloc (.cells #[.map (some b)] 68)).heap.size (w.alloc (.cells #[.map (some b)] 68)) w' := by
  have hbl := hown.lt
  have hseq : SeqGives Fence.wide 2 Try.prog 57 #[.pointer (some ⟨w.heap.size, 0, none⟩)] encStr (fun ss => ss.Perm (strKeys D0)) (Maps.size D0) (w.alloc (.cells #[.map (some b)] 68)) :=
    AnyZ.keys_gives (ρ := Try.keysK_ren) { Try.keysK with } Fence.wide _ trivial rfl (by omega) w.heap.size b nn D0 _ (by simp) (by simp) (by
      obtain ⟨es, clock, hb, Ft, hs, hD⟩ := hown
      exact ⟨es, clock, (Below.heap_alloc _ _ b hbl).trans hb, Ft, hs, hD⟩)
  exact callsIn_wide.1 (AnyZ.sorted_in Try.sortedK Fence.wide 5 trivial trivial trivial trivial rfl (by omega) (sortsK _) (enters_of Try.func56 (by kernel_rfl) rfl) 57 #[.pointer (some ⟨w.heap.size, 0, none⟩)] trivial (enters_of Try.func57 (by kernel_rfl) rfl) _ _ hmax hbytes _ hseq)
/-- The keys of a map, sorted: which they are. -/
theorem keys_facts {w : World} {b n : Nat} {m : ByteArray → Option Int} (h : MapI w b n m) : ∃ D : DataW Unit, w.ownsMap Try.prog 9 (plainElem Try.prog 3) b n D ∧ Maps.size D ≤ n ∧
    ∀ ss : List (List UInt8), ss.Perm (strKeys D) → (ss.mergeSort (fun x y => decide (x ≤ y))).Pairwise (fun x y => x < y) ∧ ∀ x : List UInt8, x ∈ ss.mergeSort (fun x y => decide (x ≤ y)) ↔ x.length ≤ maxLen ∧ (m ⟨x.toArray⟩).isSome = true := by
  obtain ⟨D, h1, h2⟩ := h
  refine ⟨D, h1, ?_, fun ss hss => ?_⟩
  · obtain ⟨es, clock, _, F, hs, rfl⟩ := h1
    show List.length _ ≤ n
    rw [Go.length_sorted]
    simpa using hs
  · obtain ⟨es, rfl, hpw⟩ := h1.tidy lawT
    have hle := strKeys_le h1 Try.underlying9
    have hko : ∀ p ∈ es, ∃ x : List UInt8, p.1 = .string x := by
      obtain ⟨es2, e2, hk⟩ := h1.keysOf
      cases e2
      intro p hp
      obtain ⟨v, hv⟩ := hk p hp
      obtain ⟨y, _, hy, _⟩ := Maps.keyOf_str Try.underlying9 hv
      exact ⟨y, hy⟩
    have hnd : (strKeys (.map es : DataW Unit)).Nodup := by
      show (es.map fun p => strOf p.1).Nodup
      refine List.pairwise_map.2 (hpw.imp_of_mem fun {p q} hp' hq' hne e => hne ?_)
      obtain ⟨a, ha⟩ := hko p hp'
      obtain ⟨c, hc⟩ := hko q hq'
      rw [ha, hc] at e ⊢
      exact congrArg _ e
    have hmem : ∀ x : List UInt8, x ∈ strKeys (.map es : DataW Unit) ↔ Maps.has (.map es : DataW Unit) (.string x) = true := by
      intro x
      rw [Maps.has_eq, List.any_eq_true]
      show x ∈ es.map (fun p => strOf p.1) ↔ _
      rw [List.mem_map]
      constructor
      · rintro ⟨p, hp, rfl⟩
        obtain ⟨a, ha⟩ := hko p hp
        exact ⟨p, hp, by rw [ha]; simp [strOf, Lit.sameKey]⟩
      · rintro ⟨p, hp, hs⟩
        obtain ⟨a, ha⟩ := hko p hp
        refine ⟨p, hp, ?_⟩
        rw [ha] at hs ⊢
        simpa [strOf, Lit.sameKey] using hs
    have hps := (List.mergeSort_perm ss (fun x y => decide (x ≤ y))).trans hss
    refine ⟨?_, fun x => ?_⟩
    · have hs1 : (ss.mergeSort (fun x y => decide (x ≤ y))).Pairwise (fun x y => decide (x ≤ y) = true) := List.pairwise_mergeSort (fun a b c h1 h2 => by simp only [decide_eq_true_eq] at *; exact List.le_trans h1 h2) (fun a b => by simp only [Bool.or_eq_true, decide_eq_true_eq]; exact List.le_total a b) _
      have hs2 : (ss.mergeSort (fun x y => decide (x ≤ y))).Nodup := hps.nodup_iff.2 hnd
      refine (hs1.and hs2).imp fun {x y} hxy => ?_
      have h3 : x ≤ y := by simpa using hxy.1
      exact Std.lt_of_le_of_ne h3 hxy.2
    · rw [hps.mem_iff]
      constructor
      · intro hx
        have hl := hle x hx
        have hz : (⟨x.toArray⟩ : ByteArray).size ≤ maxLen := by show x.toArray.size ≤ maxLen; simpa using hl
        refine ⟨hl, ?_⟩
        rw [← (h2 ⟨x.toArray⟩ hz).2]
        simpa using (hmem x).1 hx
      · rintro ⟨hl, hx⟩
        have hz : (⟨x.toArray⟩ : ByteArray).size ≤ maxLen := by show x.toArray.size ≤ maxLen; simpa using hl
        rw [← (h2 ⟨x.toArray⟩ hz).2] at hx
        exact (hmem x).2 (by simpa using hx)
/-- How often a name is free in an expression. -/
def freeF (t : PE) : ByteArray → Int := seekE (fun _ => 0) (fun _ => 0) t
/-- What Free answers. -/
def FreeIs (C : Nat) (t : PE) (e : Ending) (w : World) : Prop :=
  ∃ l v, e = .returned v ∧ InN w (fun b => C ≤ b) l v ∧ l.Pairwise (fun a b => a.data.toList < b.data.toList) ∧ ∀ s, s ∈ l ↔ s.size ≤ maxLen ∧ freeF t s ≠ 0
/-- A row of texts of the call's own. -/
theorem inN_of_row {w : World} {C : Nat} {v : Value} {ls : List (List UInt8)} {n : Nat} (h : w.ownsRow C 9 1 v n (ls.map encStr)) (hn : n = ls.length) (hl : ∀ x ∈ ls, x.length ≤ maxLen) : InN w (fun b => C ≤ b) (ls.map fun x => (⟨x.toArray⟩ : ByteArray)) v := by
  subst hn
  rcases h.2 with ⟨rfl, h0⟩ | ⟨g, cap, cur, rfl, hg, _, hn, hcm, _⟩
  · obtain rfl := List.eq_nil_of_length_eq_zero h0
    exact ⟨none, 0, rfl, Nat.le_refl _, Nat.zero_le _, fun _ => rfl, .inl rfl⟩
  · refine ⟨some ⟨g, 0, none⟩, cap, by rw [List.length_map], by rw [List.length_map]; exact hn, hcm, (fun h => by cases h), .inr ⟨g, 0, rfl, hg, fun j hj => ?_⟩⟩
    rw [List.length_map] at hj
    have h1 := h.cells (g := g) rfl j (encStr ls[j]) (by rw [List.getElem?_map, List.getElem?_eq_getElem hj]; rfl)
    rw [List.getElem_map]
    refine ⟨by simpa [add_plain, encStr] using h1, ?_⟩
    have := hl ls[j] (List.getElem_mem hj)
    show (ls[j].toArray).size ≤ maxLen
    simpa using this
theorem free_any (t : PE) (S : Nat → Prop) (vn vd vk : Value) (w : World) (h : InF w S t vn vd vk) (hS : ∀ b, S b → b < w.heap.size) (hsz : 2 * sizeE t ≤ 1000000000) :
    Calls Try.prog 19 #[t.val vn vd vk] w fun e w' => FreeIs w.heap.size t e w' ∧ Below w.heap.size w w' := by
  obtain ⟨k, nm, ns, ⟨ck, ci, cs, cl⟩, l⟩ := t
  have HI := Lib.hid h
  obtain ⟨⟨_, _, an, cn, rfl, _⟩, ⟨_, _, _, ad, cd, rfl, _⟩, ak, c, rfl, _⟩ := h
  show Calls Try.prog 19 #[.agg #[.int .i64 k, .string nm, .slice an ns.length cn, .int .i64 ck, .int .i64 ci, .string cs, .slice ad cl.length cd, .slice ak l.length c]] w _
  have hmm := @run_makeMap Try.prog
  have s0 := size_new w (.cells #[.int .i64 k, .string nm, .slice an ns.length cn, .int .i64 ck, .int .i64 ci, .string cs, .slice ad cl.length cd, .slice ak l.length c] 28)
  have s1 := size_new (w.alloc (.cells #[.int .i64 k, .string nm, .slice an ns.length cn, .int .i64 ck, .int .i64 ci, .string cs, .slice ad cl.length cd, .slice ak l.length c] 28)) (.map #[] 0)
  have s2 := size_new ((w.alloc (.cells #[.int .i64 k, .string nm, .slice an ns.length cn, .int .i64 ck, .int .i64 ci, .string cs, .slice ad cl.length cd, .slice ak l.length c] 28)).alloc (.map #[] 0)) (.map #[] 0)
  have s3 := size_new (((w.alloc (.cells #[.int .i64 k, .string nm, .slice an ns.length cn, .int .i64 ck, .int .i64 ci, .string cs, .slice ad cl.length cd, .slice ak l.length c] 28)).alloc (.map #[] 0)).alloc (.map #[] 0)) (.cells #[.map (some (w.heap.size + 1)), .map (some (w.heap.size + 1 + 1))] 70)
  have hb1 : MapI (((w.alloc (.cells #[.int .i64 k, .string nm, .slice an ns.length cn, .int .i64 ck, .int .i64 ci, .string cs, .slice ad cl.length cd, .slice ak l.length c] 28)).alloc (.map #[] 0)).alloc (.map #[] 0)) (w.heap.size + 1) 0 (fun _ => none) := by
    have := (MapI.made (w.alloc (.cells #[.int .i64 k, .string nm, .slice an ns.length cn, .int .i64 ck, .int .i64 ci, .string cs, .slice ad cl.length cd, .slice ak l.length c] 28))).alloc (.map #[] 0)
    rwa [s0] at this
  have hf1 : MapI (((w.alloc (.cells #[.int .i64 k, .string nm, .slice an ns.length cn, .int .i64 ck, .int .i64 ci, .string cs, .slice ad cl.length cd, .slice ak l.length c] 28)).alloc (.map #[] 0)).alloc (.map #[] 0)) (w.heap.size + 1 + 1) 0 (fun _ => none) := by
    have := MapI.made ((w.alloc (.cells #[.int .i64 k, .string nm, .slice an ns.length cn, .int .i64 ck, .int .i64 ci, .string cs, .slice ad cl.length cd, .slice ak l.length c] 28)).alloc (.map #[] 0))
    rwa [s1, s0] at this
  have z0 := heap_alloc_new w (.cells #[.int .i64 k, .string nm, .slice an ns.length cn, .int .i64 ck, .int .i64 ci, .string cs, .slice ad cl.length cd, .slice ak l.length c] 28)
  have z3 := heap_alloc_new (((w.alloc (.cells #[.int .i64 k, .string nm, .slice an ns.length cn, .int .i64 ck, .int .i64 ci, .string cs, .slice ad cl.length cd, .slice ak l.length c] 28)).alloc (.map #[] 0)).alloc (.map #[] 0)) (.cells #[.map (some (w.heap.size + 1)), .map (some (w.heap.size + 1 + 1))] 70)
  have hbel : Below w.heap.size w ((((w.alloc (.cells #[.int .i64 k, .string nm, .slice an ns.length cn, .int .i64 ck, .int .i64 ci, .string cs, .slice ad cl.length cd, .slice ak l.length c] 28)).alloc (.map #[] 0)).alloc (.map #[] 0)).alloc (.cells #[.map (some (w.heap.size + 1)), .map (some (w.heap.size + 1 + 1))] 70)) := bel_alloc' (bel_alloc' (bel_alloc' (bel_alloc' (Below.refl _ _) _) _) _) _
  have z0' := Dat.blk_alloc (o := .cells #[.map (some (w.heap.size + 1)), .map (some (w.heap.size + 1 + 1))] 70) (Dat.blk_alloc (o := .map #[] 0) (Dat.blk_alloc (o := .map #[] 0) z0))
  have hb2 := hb1.alloc (.cells #[.map (some (w.heap.size + 1)), .map (some (w.heap.size + 1 + 1))] 70)
  have hf2 := hf1.alloc (.cells #[.map (some (w.heap.size + 1)), .map (some (w.heap.size + 1 + 1))] 70)
  rw [s2, s1, s0] at z3
  rw [s2, s1, s0] at s3
  generalize hw3 : (((w.alloc (.cells #[.int .i64 k, .string nm, .slice an ns.length cn, .int .i64 ck, .int .i64 ci, .string cs, .slice ad cl.length cd, .slice ak l.length c] 28)).alloc (.map #[] 0)).alloc (.map #[] 0)).alloc (.cells #[.map (some (w.heap.size + 1)), .map (some (w.heap.size + 1 + 1))] 70) = w3 at *
  have HW3 := Lib.hid hw3
  have HB3 : Hid (MapB w3 (w.heap.size + 1) 0 (fun _ => 0)) := Lib.hid ⟨_, hb2, fun _ _ => rfl⟩
  have HF3 : Hid (MapF w3 (w.heap.size + 1 + 1) 0 (fun _ => 0)) := Lib.hid ⟨hf2, fun _ => ⟨Int.le_refl _, Int.le_refl _⟩⟩
  have HBL := Lib.hid hbel
  have HZ3 := Lib.hid z3
  have HS3 := Lib.hid s3
  have D := Lib.hid (show w3.cell? ⟨w.heap.size, 0, none⟩ = some (.int .i64 k) ∧ w3.cell? ⟨w.heap.size, 1, none⟩ = some (.string nm) ∧ w3.cell? ⟨w.heap.size, 2, none⟩ = some (.slice an ns.length cn) ∧ w3.cell? ⟨w.heap.size, 3, none⟩ = some (.int .i64 ck) ∧ w3.cell? ⟨w.heap.size, 4, none⟩ = some (.int .i64 ci) ∧ w3.cell? ⟨w.heap.size, 5, none⟩ = some (.string cs) ∧ w3.cell? ⟨w.heap.size, 6, none⟩ = some (.slice ad cl.length cd) ∧ w3.cell? ⟨w.heap.size, 7, none⟩ = some (.slice ak l.length c) from by
    refine ⟨?_, ?_, ?_, ?_, ?_, ?_, ?_, ?_⟩
    all_goals (rw [Lib.cell_of_heap z0']; rfl))
  have KS := Lib.hid (seek_any (.mk k nm ns (.mk ck ci cs cl) l) w3 S (w.heap.size + 1) (w.heap.size + 1 + 1) 0 (fun _ => 0) (fun _ => 0) _ _ _ (HI.out.belowT hS hbel) (fun b hb => by have := hS b hb; omega) (by omega) HB3.out HF3.out (fun _ => ⟨Int.le_refl _, Int.le_refl _⟩) (by omega))
  unfold PE.val at KS
  clear hw3 hb1 hf1 hb2 hf2 z0 z0' z3 s0 s1 s2 s3 hbel
  go_enter Try.func19, Try.ntmps19
  go_wp2_with fail
  rw [HW3.out]
  refine KS.out.mono ?_
  rintro e w4 ⟨rfl, hb4, hf4, hk4⟩
  have HB4 := Lib.hid (HBL.out.trans (show Below w.heap.size w3 w4 from ⟨hk4.1.os, hk4.1.tape, hk4.1.output, hk4.1.size, fun b hb => hk4.2 b (Nat.lt_of_lt_of_le hb HBL.out.size) (by omega) (by omega)⟩))
  have z4 := (hk4.2 (w.heap.size + 1 + 1 + 1) (by rw [HS3.out]; omega) (by omega) (by omega)).trans HZ3.out
  have x1 : w4.cell? ⟨w.heap.size + 1 + 1 + 1, 1, none⟩ = some (.map (some (w.heap.size + 1 + 1))) := by rw [Lib.cell_of_heap z4]; rfl
  obtain ⟨D, hD, hDn, hDs⟩ := keys_facts hf4.1
  have HD := Lib.hid hD
  have HDS := Lib.hid hDs
  have hmax : Maps.size D ≤ maxLen := by unfold maxLen; omega
  have hbytes : Maps.size D * 16 ≤ 140737488355328 := by omega
  have KSO := Lib.hid (sortedKeys_any (w.heap.size + 1 + 1) _ D _ w4 HD.out hmax hbytes)
  have KK := Lib.hid (fun W => keys_any (some (w.heap.size + 1 + 1)) W)
  have HSW := Lib.hid (size_new w4 (.cells #[.map (some (w.heap.size + 1 + 1))] 68))
  clear hb4 hf4 hk4 z4 hD hDn hDs hmax hbytes
  go_wp2_with fail
  refine (KK.out _).mono ?_
  rintro e w5 ⟨rfl, rfl⟩
  go_wp2_with fail
  refine KSO.out.mono ?_
  rintro e w6 ⟨v, ss, rfl, hperm, hrow, _, hb6⟩
  obtain ⟨f1, f2⟩ := HDS.out ss hperm
  have HROW := Lib.hid hrow
  have HF1 := Lib.hid f1
  have HF2 := Lib.hid f2
  have HB6 := Lib.hid (HB4.out.trans ((bel_alloc' (Below.refl _ _) (.cells #[.map (some (w.heap.size + 1 + 1))] 68) : Below w4.heap.size w4 _).mono HB4.out.size |>.trans (hb6.mono (by rw [HSW.out]; exact Nat.le_succ_of_le HB4.out.size))))
  have HLEN : Hid (ss.length = (ss.mergeSort (fun x y => decide (x ≤ y))).length) := Lib.hid (List.length_mergeSort _).symm
  have hshape : ∃ a c, v = .slice a ss.length c := by
    rcases hrow.2 with ⟨rfl, h0⟩ | ⟨g, cap, cur, rfl, _⟩
    · exact ⟨none, 0, by rw [h0]⟩
    · exact ⟨_, cap, rfl⟩
  obtain ⟨a9, c9, rfl⟩ := hshape
  clear hrow hperm f1 f2 hb6
  go_wp2
  go_ret
  refine ⟨⟨_, _, rfl, InN.move (inN_of_row HROW.out HLEN.out (fun x hx => ((HF2.out x).1 hx).1)) (fun b hb _ => Nat.le_trans (by rw [HSW.out]; exact Nat.le_succ_of_le HB4.out.size) hb) (fun _ _ _ _ h => h), ?_, fun s => ?_⟩, HB6.out⟩
  · rw [List.pairwise_map]
    exact HF1.out
  · rw [List.mem_map]
    constructor
    · rintro ⟨x, hx, rfl⟩
      obtain ⟨h1, h2⟩ := (HF2.out x).1 hx
      refine ⟨by show x.toArray.size ≤ maxLen; simpa using h1, fun h0 => ?_⟩
      unfold toM at h2
      rw [if_pos (show seekE (fun _ => 0) (fun _ => 0) (.mk k nm ns (.mk ck ci cs cl) l) ⟨x.toArray⟩ = 0 from h0)] at h2
      cases h2
    · rintro ⟨h1, h2⟩
      refine ⟨s.data.toList, (HF2.out _).2 ⟨by rw [Array.length_toList]; exact h1, ?_⟩, ?_⟩
      · have e : (⟨s.data.toList.toArray⟩ : ByteArray) = s := by cases s; simp
        rw [e]
        unfold toM
        rw [if_neg (show ¬ seekE (fun _ => 0) (fun _ => 0) (.mk k nm ns (.mk ck ci cs cl) l) s = 0 from h2)]
        rfl
      · cases s; simp
end Go.Proofs.Ytkjgdnfkpebejaa.Core
