/-
The walk of the law HeapedKeeps, for all numbers and every row of triples. Where the table of what is reckoned is as the program lays it.
-/
import Derived.Test.YtcilmfjgbnfcgaaDoorQ41b
import Derived.Deep.DeepCutAuto
import Derived.Deep.RegionWith
namespace Go.Proofs.YtcilmfjgbnfcgaaDoor.Hp
open Go.ChangeShapes Go.WideShapes Go.ChangeAt Go.RowKit Go.Deep
open Dat (PT ok64 RepV RepS RowX infoDatum NewV NewS makeT make_any MakeOk numT numsT)
open Rg (putAll waits formI)
set_option maxRecDepth 100000

set_option maxHeartbeats 40000000 in
theorem keeps_walk (n k : Int) (l : List (Int × Int × Int)) (v : Value) (w : World) (hP : InT3 w l v) (hR : RecOk w) :
    Calls Tryd.prog 4 #[.int .i64 n, .int .i64 k, v] w fun e w' => e = .returned (.bool true) ∧ Below w.heap.size w w' := by
  have HP := Lib.hid hP
  have HR := Lib.hid hR
  obtain ⟨a, c, rfl, hlc, hcm, _, _⟩ := hP
  unfold maxLen at hcm
  clear hR
  go_enter Tryd.func4, Tryd.ntmps4
  go_wp2_with fail
  refine (new_any _).mono ?_
  rintro e w1 ⟨rfl, h1, hb1, hlt1⟩
  have C1 : Hid (Ctx w w.heap.size [] (· = w.heap.size) w1) := Lib.hid ⟨h1, fun b e => ⟨by omega, by omega⟩, hb1⟩
  have KF := Lib.hid (fixed_any w1 (C1.out.rec HR.out))
  clear h1 hb1 hlt1
  go_wp2_with fail
  refine KF.out.mono ?_
  rintro e w2 ⟨rfl, hb2⟩
  have C2 := Lib.hid (C1.out.below hb2)
  clear hb2 C1 KF
  by_cases b0 : n < 0
  · go_wp2
    go_ret
    exact ⟨rfl, C2.out.2.2⟩
  by_cases b1 : 40 < n
  · go_wp2
    go_ret
    exact ⟨rfl, C2.out.2.2⟩
  by_cases b2 : k < 0
  · go_wp2
    go_ret
    exact ⟨rfl, C2.out.2.2⟩
  by_cases b3 : 40 < k
  · go_wp2
    go_ret
    exact ⟨rfl, C2.out.2.2⟩
  obtain ⟨m, rfl⟩ := Int.eq_ofNat_of_zero_le (show 0 ≤ n by omega)
  obtain ⟨q, rfl⟩ := Int.eq_ofNat_of_zero_le (show 0 ≤ k by omega)
  have hm : m ≤ 40 := by omega
  have hq : q ≤ 40 := by omega
  have hBN := (C2.out.2.1 _ rfl).2
  have H3 := Lib.hid (St2.add (L := []) ⟨C2.out, fun x hx => by cases hx⟩ (.cells #[.int .i64 4, .int .i64 0, .string ⟨#[]⟩] 28))
  clear C2 b0 b1 b2 b3
  go_upto_region 7 with fail
  generalize w2.alloc (.cells #[.int .i64 4, .int .i64 0, .string ⟨#[]⟩] 28) = w3 at *
  generalize w2.heap.size = BN at *
  have NF3 : Hid (∀ R, w3.heap.size ≤ R → ¬ R = w.heap.size) := Lib.hid (fun R hR e => by have := H3.out.1.lt _ rfl; omega)
  have BA3 := Lib.hid H3.out.1.2.2.size
  have KD := Lib.hid (fun (W : World) (hW : Below w3.heap.size w3 W) (g : Nat) (hg : W.heap[g]? = some (.cells (vCells [⟨1, (m : Int), ⟨#[]⟩⟩, ⟨4, 0, ⟨#[]⟩⟩]).toArray 28 (0, 0))) =>
    (((do_mkvec (m : Int) ⟨4, 0, ⟨#[]⟩⟩ (by omega) (by omega) (H3.out.below hW).1.1 (H3.out.below hW).1.lt (lit_inP (l := [⟨1, (m : Int), ⟨#[]⟩⟩, ⟨4, 0, ⟨#[]⟩⟩]) hg (ok_two ⟨by omega, by omega, by omega, by omega⟩ ⟨by omega, by omega, by omega, by omega⟩) (show 2 ≤ 1000 by decide)) (has_null _) (show 0 ≤ 100000 by decide)) :
      Calls Tryd.prog 13 #[.pointer (some ⟨w.heap.size, 0, none⟩), .string ⟨#[109, 97, 107, 101, 45, 118, 101, 99, 116, 111, 114]⟩, .slice (some ⟨g, 0, none⟩) 2 2] W fun e w' => DoOk W w.heap.size _ ⟨8, 0, ⟨#[]⟩⟩ 0 [(1, repl m ⟨4, 0, ⟨#[]⟩⟩)] e w').mono fun e w' hd => (H3.out.below hW).use hd))
  refine wp_do_fr (by kernel_rfl) w3.heap.size (Nat.le_refl _) (fun
    | 0 => some (.pointer (some ⟨w.heap.size, 0, none⟩))
    | 1 => some (.int .i64 (m : Int))
    | 2 => some (.agg #[.int .i64 1, .int .i64 (m : Int), .string ⟨#[]⟩])
    | 3 => some (.agg #[.int .i64 4, .int .i64 0, .string ⟨#[]⟩])
    | 5 => some (.tuple #[.agg #[.int .i64 8, .int .i64 0, .string ⟨#[]⟩], .int .i64 0])
    | 6 => some (.tuple #[.agg #[.int .i64 8, .int .i64 0, .string ⟨#[]⟩], .int .i64 0])
    | 7 => some (.agg #[.int .i64 8, .int .i64 0, .string ⟨#[]⟩])
    | 8 => some (.int .i64 0)
    | 11 => some (.int .i64 0)
    | _ => none) 4 5 9 10 2 [⟨1, (m : Int), ⟨#[]⟩⟩, ⟨4, 0, ⟨#[]⟩⟩] ⟨8, 0, ⟨#[]⟩⟩ (.tuple #[.agg #[.int .i64 8, .int .i64 0, .string ⟨#[]⟩], .int .i64 0]) (fun F W' => St2 w w.heap.size [(1, repl m ⟨4, 0, ⟨#[]⟩⟩)] [(BN, .cells #[.int .i64 4, .int .i64 0, .string ⟨#[]⟩] 28 (0, 0))] F W') (by kernel_rfl) ?_ ⟨by decide, by decide, by decide, by decide, by decide, by decide⟩ ⟨by decide, by decide, by decide, by decide⟩ ⟨rfl, rfl, rfl, rfl⟩ (by kernel_rfl) (by kernel_rfl) (by kernel_rfl) (by kernel_rfl) ?_ ?_ ?_
  · intro i hi
    rcases i with _ | _ | _ | _ | _ | _ | _ | _ | _ | _ | _ | _ | i
    all_goals first | exact .inl rfl | exact .inr (.inl rfl) | exact .inr (.inr (.inl rfl)) | exact .inr (.inr (.inr ⟨_, rfl⟩)) | (have h9 : i + 12 < 12 := hi; omega)
  · intro F W o h
    exact ⟨h.below (al W o), fun hf => by have := h.1.lt _ hf; omega⟩
  · intro F W b h hz hb
    have hL6 := H3.out.lt
    have hB6 := BA3.out
    exact (h.set hz (fun x hx => by have := hL6 x hx; omega) (by omega) _ _ _).drop
  constructor
  refine ⟨?_, ?_, ?_, ?_, ?_, ?_, ?_, ?_⟩
  · intro vs
    simp only [Rg.putAll, Act.put, List.setIfInBounds_toArray, List.set_cons_zero, List.set_cons_succ, Nat.zero_add, Nat.reduceAdd]
    first | done | exact rfl
  · intro i o x ho hx hd hw vs W hb hR
    obtain ⟨⟨p00, p01, p02⟩, -⟩ := look3 ((H3.out.below hb).at 0 rfl).1
    have HR9 := Lib.hid hR
    have HW9 := Lib.hid hw
    have HX9 := Lib.hid hx
    have HD9 := Lib.hid hd
    clear hR hw hx hd
    rcases i with _ | _ | _ | _ | _ | _ | _ | _ | _ | _ | _ | _ | i
    all_goals simp only [List.getElem?_cons_zero, List.getElem?_cons_succ, List.getElem?_nil, Option.some.injEq, reduceCtorEq] at ho
    all_goals try subst ho
    · obtain rfl : .pointer (some ⟨w.heap.size, 0, none⟩) = x := Option.some.inj HX9.out
      try dsimp only
      go_simp
      all_goals first | exact ⟨rfl, Below.refl _ _⟩ | exact Below.refl _ _
    · obtain rfl : .int .i64 (m : Int) = x := Option.some.inj HX9.out
      try dsimp only
      go_simp
      all_goals first | exact ⟨rfl, Below.refl _ _⟩ | exact Below.refl _ _
    · obtain rfl : .agg #[.int .i64 1, .int .i64 (m : Int), .string ⟨#[]⟩] = x := Option.some.inj HX9.out
      try dsimp only
      rw [HR9.out 1 _ (by kernel_rfl) rfl]
      go_simp
      refine (num_any _ _).mono ?_
      rintro e w7 ⟨rfl, hb7⟩
      first | exact ⟨rfl, hb7⟩ | exact hb7
    · obtain rfl : .agg #[.int .i64 4, .int .i64 0, .string ⟨#[]⟩] = x := Option.some.inj HX9.out
      try dsimp only
      go_simp
      all_goals first | exact ⟨rfl, Below.refl _ _⟩ | exact Below.refl _ _
    · have h9 : (none : Option Value) = some x := HX9.out
      cases h9
    · exact absurd rfl HD9.out
    · exfalso
      exact absurd HW9.out (by decide)
    · exfalso
      exact absurd HW9.out (by decide)
    · exfalso
      exact absurd HW9.out (by decide)
    · have h9 : (none : Option Value) = some x := HX9.out
      cases h9
    · have h9 : (none : Option Value) = some x := HX9.out
      cases h9
    · exfalso
      exact absurd HW9.out (by decide)
  · intro i o x ho hx hd hw vs W hR
    have HR9 := Lib.hid hR
    have HW9 := Lib.hid hw
    have HX9 := Lib.hid hx
    have HD9 := Lib.hid hd
    clear hR hw hx hd
    rcases i with _ | _ | _ | _ | _ | _ | _ | _ | _ | _ | _ | _ | i
    all_goals simp only [List.getElem?_cons_zero, List.getElem?_cons_succ, List.getElem?_nil, Option.some.injEq, reduceCtorEq] at ho
    all_goals try subst ho
    · exfalso
      exact absurd (by decide) HW9.out
    · exfalso
      exact absurd (by decide) HW9.out
    · exfalso
      exact absurd (by decide) HW9.out
    · exfalso
      exact absurd (by decide) HW9.out
    · have h9 : (none : Option Value) = some x := HX9.out
      cases h9
    · exact absurd rfl HD9.out
    · obtain rfl : .tuple #[.agg #[.int .i64 8, .int .i64 0, .string ⟨#[]⟩], .int .i64 0] = x := Option.some.inj HX9.out
      try dsimp only
      rw [HR9.out 5 _ (by kernel_rfl) rfl]
      go_simp
      all_goals first | exact ⟨rfl, rfl⟩ | rfl
    · obtain rfl : .agg #[.int .i64 8, .int .i64 0, .string ⟨#[]⟩] = x := Option.some.inj HX9.out
      try dsimp only
      rw [HR9.out 6 _ (by kernel_rfl) rfl]
      go_simp
      all_goals first | exact ⟨rfl, rfl⟩ | rfl
    · obtain rfl : .int .i64 0 = x := Option.some.inj HX9.out
      try dsimp only
      rw [HR9.out 6 _ (by kernel_rfl) rfl]
      go_simp
      all_goals first | exact ⟨rfl, rfl⟩ | rfl
    · have h9 : (none : Option Value) = some x := HX9.out
      cases h9
    · have h9 : (none : Option Value) = some x := HX9.out
      cases h9
    · obtain rfl : .int .i64 0 = x := Option.some.inj HX9.out
      try dsimp only
      rw [HR9.out 8 _ (by kernel_rfl) rfl]
      go_simp
      all_goals first | exact ⟨rfl, rfl⟩ | rfl
  · intro o ho vs W hb hR
    have HR9 := Lib.hid hR
    clear hR
    simp only [List.getElem?_cons_zero, List.getElem?_cons_succ, Option.some.injEq] at ho
    subst ho
    try dsimp only
    rw [HR9.out 2 _ (by kernel_rfl) rfl]
    rw [HR9.out 3 _ (by kernel_rfl) rfl]
    go_simp
    all_goals first | exact ⟨rfl, rfl⟩ | rfl
  · intro o ho vs W g hb hgv hgb hR
    have HR9 := Lib.hid hR
    clear hR
    simp only [List.getElem?_cons_zero, List.getElem?_cons_succ, Option.some.injEq] at ho
    subst ho
    try dsimp only
    rw [HR9.out 0 _ (by kernel_rfl) rfl]
    rw [hgv]
    go_simp
    refine (KD.out W hb g hgb).mono ?_
    rintro e w6 ⟨rfl, F6, h6, z6, l6⟩
    exact ⟨rfl, F6, h6, z6, fun R ob hR hob => l6 R ob ⟨hob, NF3.out R hR⟩⟩
  · intro o ho vs W
    simp only [List.getElem?_cons_zero, List.getElem?_cons_succ, Option.some.injEq] at ho
    subst ho
    try dsimp only
    go_simp
    all_goals first | exact ⟨rfl, rfl⟩ | rfl
  · intro o ho vs W F b hJ hxv hz hR
    have HR9 := Lib.hid hR
    clear hR
    simp only [List.getElem?_cons_zero, List.getElem?_cons_succ, Option.some.injEq] at ho
    subst ho
    try dsimp only
    rw [HR9.out 7 _ (by kernel_rfl) rfl]
    rw [hxv]
    obtain ⟨⟨x0, x1, x2⟩, y0, y1, y2⟩ := look3 hz.1
    go_simp
    all_goals first | exact ⟨rfl, rfl⟩ | rfl
  · intro vs w5 F5 g LA hev hgv hxv hLA hJ hz
    try dsimp only
    rw [hev 0 _ (by decide) rfl]
    rw [hev 1 _ (by decide) rfl]
    rw [hev 2 _ (by decide) rfl]
    rw [hev 3 _ (by decide) rfl]
    rw [hev 5 _ (by decide) rfl]
    rw [hev 6 _ (by decide) rfl]
    rw [hev 7 _ (by decide) rfl]
    rw [hev 8 _ (by decide) rfl]
    rw [hev 11 _ (by decide) rfl]
    rw [hgv, hxv]
    have H5 : Hid (St2 w w.heap.size [(1, repl m ⟨4, 0, ⟨#[]⟩⟩)] ((LA, (.cells #[.int .i64 8, .int .i64 0, .string ⟨#[]⟩] 28 (0, 0))) :: [(BN, .cells #[.int .i64 4, .int .i64 0, .string ⟨#[]⟩] 28 (0, 0))]) F5 w5) := Lib.hid ⟨hJ.1, List.forall_mem_cons.2 ⟨hz, hJ.2⟩⟩
    clear hev hgv hxv hJ hz KD
    have NF5 : Hid (∀ R, w5.heap.size ≤ R → ¬ F5 R) := Lib.hid (fun R hR e => by have := H5.out.1.lt _ e; omega)
    have BA5 := Lib.hid H5.out.1.2.2.size
    clear NF3 BA3
    go_upto_region 8 with fail
    have KD := Lib.hid (fun (W : World) (hW : Below w5.heap.size w5 W) (g : Nat) (hg : W.heap[g]? = some (.cells (vCells [⟨1, (q : Int), ⟨#[]⟩⟩, ⟨4, 0, ⟨#[]⟩⟩]).toArray 28 (0, 0))) =>
      (((do_mkvec (q : Int) ⟨4, 0, ⟨#[]⟩⟩ (by omega) (by omega) (H5.out.below hW).1.1 (H5.out.below hW).1.lt (lit_inP (l := [⟨1, (q : Int), ⟨#[]⟩⟩, ⟨4, 0, ⟨#[]⟩⟩]) hg (ok_two ⟨by omega, by omega, by omega, by omega⟩ ⟨by omega, by omega, by omega, by omega⟩) (show 2 ≤ 1000 by decide)) (has_null _) (show 1 ≤ 100000 by decide)) :
        Calls Tryd.prog 13 #[.pointer (some ⟨w.heap.size, 0, none⟩), .string ⟨#[109, 97, 107, 101, 45, 118, 101, 99, 116, 111, 114]⟩, .slice (some ⟨g, 0, none⟩) 2 2] W fun e w' => DoOk W w.heap.size _ ⟨8, 1, ⟨#[]⟩⟩ 0 [(1, repl m ⟨4, 0, ⟨#[]⟩⟩), (1, repl q ⟨4, 0, ⟨#[]⟩⟩)] e w').mono fun e w' hd => (H5.out.below hW).use hd))
    refine wp_do_fr (by kernel_rfl) w5.heap.size (Nat.le_refl _) (fun
      | 0 => some (.pointer (some ⟨w.heap.size, 0, none⟩))
      | 1 => some (.int .i64 (q : Int))
      | 2 => some (.agg #[.int .i64 1, .int .i64 (q : Int), .string ⟨#[]⟩])
      | 3 => some (.agg #[.int .i64 4, .int .i64 0, .string ⟨#[]⟩])
      | 5 => some (.tuple #[.agg #[.int .i64 8, .int .i64 1, .string ⟨#[]⟩], .int .i64 0])
      | 6 => some (.tuple #[.agg #[.int .i64 8, .int .i64 1, .string ⟨#[]⟩], .int .i64 0])
      | 7 => some (.agg #[.int .i64 8, .int .i64 1, .string ⟨#[]⟩])
      | 8 => some (.int .i64 0)
      | 11 => some (.int .i64 0)
      | _ => none) 4 5 9 10 2 [⟨1, (q : Int), ⟨#[]⟩⟩, ⟨4, 0, ⟨#[]⟩⟩] ⟨8, 1, ⟨#[]⟩⟩ (.tuple #[.agg #[.int .i64 8, .int .i64 1, .string ⟨#[]⟩], .int .i64 0]) (fun F W' => St2 w w.heap.size [(1, repl m ⟨4, 0, ⟨#[]⟩⟩), (1, repl q ⟨4, 0, ⟨#[]⟩⟩)] ((LA, .cells #[.int .i64 8, .int .i64 0, .string ⟨#[]⟩] 28 (0, 0)) :: [(BN, .cells #[.int .i64 4, .int .i64 0, .string ⟨#[]⟩] 28 (0, 0))]) F W') (by kernel_rfl) ?_ ⟨by decide, by decide, by decide, by decide, by decide, by decide⟩ ⟨by decide, by decide, by decide, by decide⟩ ⟨rfl, rfl, rfl, rfl⟩ (by kernel_rfl) (by kernel_rfl) (by kernel_rfl) (by kernel_rfl) ?_ ?_ ?_
    · intro i hi
      rcases i with _ | _ | _ | _ | _ | _ | _ | _ | _ | _ | _ | _ | i
      all_goals first | exact .inl rfl | exact .inr (.inl rfl) | exact .inr (.inr (.inl rfl)) | exact .inr (.inr (.inr ⟨_, rfl⟩)) | (have h9 : i + 12 < 12 := hi; omega)
    · intro F W o h
      exact ⟨h.below (al W o), fun hf => by have := h.1.lt _ hf; omega⟩
    · intro F W b h hz hb
      have hL6 := H5.out.lt
      have hB6 := BA5.out
      exact (h.set hz (fun x hx => by have := hL6 x hx; omega) (by omega) _ _ _).drop
    constructor
    refine ⟨?_, ?_, ?_, ?_, ?_, ?_, ?_, ?_⟩
    · intro vs
      simp only [Rg.putAll, Act.put, List.setIfInBounds_toArray, List.set_cons_zero, List.set_cons_succ, Nat.zero_add, Nat.reduceAdd]
      first | done | exact rfl
    · intro i o x ho hx hd hw vs W hb hR
      obtain ⟨⟨p10, p11, p12⟩, -⟩ := look3 ((H5.out.below hb).at 1 rfl).1
      have HR9 := Lib.hid hR
      have HW9 := Lib.hid hw
      have HX9 := Lib.hid hx
      have HD9 := Lib.hid hd
      clear hR hw hx hd
      rcases i with _ | _ | _ | _ | _ | _ | _ | _ | _ | _ | _ | _ | i
      all_goals simp only [List.getElem?_cons_zero, List.getElem?_cons_succ, List.getElem?_nil, Option.some.injEq, reduceCtorEq] at ho
      all_goals try subst ho
      · obtain rfl : .pointer (some ⟨w.heap.size, 0, none⟩) = x := Option.some.inj HX9.out
        try dsimp only
        go_simp
        all_goals first | exact ⟨rfl, Below.refl _ _⟩ | exact Below.refl _ _
      · obtain rfl : .int .i64 (q : Int) = x := Option.some.inj HX9.out
        try dsimp only
        go_simp
        all_goals first | exact ⟨rfl, Below.refl _ _⟩ | exact Below.refl _ _
      · obtain rfl : .agg #[.int .i64 1, .int .i64 (q : Int), .string ⟨#[]⟩] = x := Option.some.inj HX9.out
        try dsimp only
        rw [HR9.out 1 _ (by kernel_rfl) rfl]
        go_simp
        refine (num_any _ _).mono ?_
        rintro e w7 ⟨rfl, hb7⟩
        first | exact ⟨rfl, hb7⟩ | exact hb7
      · obtain rfl : .agg #[.int .i64 4, .int .i64 0, .string ⟨#[]⟩] = x := Option.some.inj HX9.out
        try dsimp only
        go_simp
        all_goals first | exact ⟨rfl, Below.refl _ _⟩ | exact Below.refl _ _
      · have h9 : (none : Option Value) = some x := HX9.out
        cases h9
      · exact absurd rfl HD9.out
      · exfalso
        exact absurd HW9.out (by decide)
      · exfalso
        exact absurd HW9.out (by decide)
      · exfalso
        exact absurd HW9.out (by decide)
      · have h9 : (none : Option Value) = some x := HX9.out
        cases h9
      · have h9 : (none : Option Value) = some x := HX9.out
        cases h9
      · exfalso
        exact absurd HW9.out (by decide)
    · intro i o x ho hx hd hw vs W hR
      have HR9 := Lib.hid hR
      have HW9 := Lib.hid hw
      have HX9 := Lib.hid hx
      have HD9 := Lib.hid hd
      clear hR hw hx hd
      rcases i with _ | _ | _ | _ | _ | _ | _ | _ | _ | _ | _ | _ | i
      all_goals simp only [List.getElem?_cons_zero, List.getElem?_cons_succ, List.getElem?_nil, Option.some.injEq, reduceCtorEq] at ho
      all_goals try subst ho
      · exfalso
        exact absurd (by decide) HW9.out
      · exfalso
        exact absurd (by decide) HW9.out
      · exfalso
        exact absurd (by decide) HW9.out
      · exfalso
        exact absurd (by decide) HW9.out
      · have h9 : (none : Option Value) = some x := HX9.out
        cases h9
      · exact absurd rfl HD9.out
      · obtain rfl : .tuple #[.agg #[.int .i64 8, .int .i64 1, .string ⟨#[]⟩], .int .i64 0] = x := Option.some.inj HX9.out
        try dsimp only
        rw [HR9.out 5 _ (by kernel_rfl) rfl]
        go_simp
        all_goals first | exact ⟨rfl, rfl⟩ | rfl
      · obtain rfl : .agg #[.int .i64 8, .int .i64 1, .string ⟨#[]⟩] = x := Option.some.inj HX9.out
        try dsimp only
        rw [HR9.out 6 _ (by kernel_rfl) rfl]
        go_simp
        all_goals first | exact ⟨rfl, rfl⟩ | rfl
      · obtain rfl : .int .i64 0 = x := Option.some.inj HX9.out
        try dsimp only
        rw [HR9.out 6 _ (by kernel_rfl) rfl]
        go_simp
        all_goals first | exact ⟨rfl, rfl⟩ | rfl
      · have h9 : (none : Option Value) = some x := HX9.out
        cases h9
      · have h9 : (none : Option Value) = some x := HX9.out
        cases h9
      · obtain rfl : .int .i64 0 = x := Option.some.inj HX9.out
        try dsimp only
        rw [HR9.out 8 _ (by kernel_rfl) rfl]
        go_simp
        all_goals first | exact ⟨rfl, rfl⟩ | rfl
    · intro o ho vs W hb hR
      have HR9 := Lib.hid hR
      clear hR
      simp only [List.getElem?_cons_zero, List.getElem?_cons_succ, Option.some.injEq] at ho
      subst ho
      try dsimp only
      rw [HR9.out 2 _ (by kernel_rfl) rfl]
      rw [HR9.out 3 _ (by kernel_rfl) rfl]
      go_simp
      all_goals first | exact ⟨rfl, rfl⟩ | rfl
    · intro o ho vs W g hb hgv hgb hR
      have HR9 := Lib.hid hR
      clear hR
      simp only [List.getElem?_cons_zero, List.getElem?_cons_succ, Option.some.injEq] at ho
      subst ho
      try dsimp only
      rw [HR9.out 0 _ (by kernel_rfl) rfl]
      rw [hgv]
      go_simp
      refine (KD.out W hb g hgb).mono ?_
      rintro e w6 ⟨rfl, F6, h6, z6, l6⟩
      exact ⟨rfl, F6, h6, z6, fun R ob hR hob => l6 R ob ⟨hob, NF5.out R hR⟩⟩
    · intro o ho vs W
      simp only [List.getElem?_cons_zero, List.getElem?_cons_succ, Option.some.injEq] at ho
      subst ho
      try dsimp only
      go_simp
      all_goals first | exact ⟨rfl, rfl⟩ | rfl
    · intro o ho vs W F b hJ hxv hz hR
      have HR9 := Lib.hid hR
      clear hR
      simp only [List.getElem?_cons_zero, List.getElem?_cons_succ, Option.some.injEq] at ho
      subst ho
      try dsimp only
      rw [HR9.out 7 _ (by kernel_rfl) rfl]
      rw [hxv]
      obtain ⟨⟨x0, x1, x2⟩, y0, y1, y2⟩ := look3 hz.1
      go_simp
      all_goals first | exact ⟨rfl, rfl⟩ | rfl
    · intro vs w8 F8 g LB hev hgv hxv hLB hJ hz
      try dsimp only
      rw [hev 0 _ (by decide) rfl]
      rw [hev 1 _ (by decide) rfl]
      rw [hev 2 _ (by decide) rfl]
      rw [hev 3 _ (by decide) rfl]
      rw [hev 5 _ (by decide) rfl]
      rw [hev 6 _ (by decide) rfl]
      rw [hev 7 _ (by decide) rfl]
      rw [hev 8 _ (by decide) rfl]
      rw [hev 11 _ (by decide) rfl]
      rw [hgv, hxv]
      have H8 : Hid (St2 w w.heap.size [(1, repl m ⟨4, 0, ⟨#[]⟩⟩), (1, repl q ⟨4, 0, ⟨#[]⟩⟩)] ((LB, (.cells #[.int .i64 8, .int .i64 1, .string ⟨#[]⟩] 28 (0, 0))) :: ((LA, .cells #[.int .i64 8, .int .i64 0, .string ⟨#[]⟩] 28 (0, 0)) :: [(BN, .cells #[.int .i64 4, .int .i64 0, .string ⟨#[]⟩] 28 (0, 0))])) F8 w8) := Lib.hid ⟨hJ.1, List.forall_mem_cons.2 ⟨hz, hJ.2⟩⟩
      clear hev hgv hxv hJ hz KD
      have hl3 := H3.out.lt _ (List.mem_cons_self ..)
      have hl5 := H5.out.lt _ (List.mem_cons_self ..)
      have hl8 := H8.out.lt _ (List.mem_cons_self ..)
      dsimp only at hl3 hl5 hl8
      obtain ⟨⟨a0, a1, a2⟩, -⟩ := look3 (H8.out.at 0 rfl).1
      obtain ⟨⟨c0, c1, c2⟩, -⟩ := look3 (H8.out.at 1 rfl).1
      have BA8 := Lib.hid H8.out.1.2.2.size
      clear NF5 BA5
      go_upto_region 11 with fail
      clear a0 a1 a2 c0 c1 c2
      obtain ⟨wa, ca, ma, na, sa, ba, za⟩ := make_row m w8.drew (by omega)
      obtain ⟨wb, cb, mb, nb, sb, bb, zb⟩ := make_row q wa (by omega)
      obtain ⟨wc, cc, mc, nc, sc, bc, zc⟩ := make_row q w8.drew (by omega)
      obtain ⟨wd, cd, md, nd, sd, bd, zd⟩ := make_row m wc (by omega)
      have hd8 : w8.drew.heap.size = w8.heap.size := rfl
      obtain ⟨r0, hr0⟩ : ∃ r, r = w8.drew.heap.size := ⟨_, rfl⟩
      obtain ⟨r1, hr1⟩ : ∃ r, r = wa.heap.size := ⟨_, rfl⟩
      obtain ⟨r2, hr2⟩ : ∃ r, r = wc.heap.size := ⟨_, rfl⟩
      rw [← hr0] at ma mc na nc za zc
      rw [← hr1] at mb nb zb
      rw [← hr2] at md nd zd
      have e1 : r1 = r0 + 1 := by rw [hr1]; exact za
      have e2 : r2 = r0 + 1 := by rw [hr2]; exact zc
      have e0 : r0 = w8.heap.size := hr0.trans hd8
      have X1 : Hid (St2 w w.heap.size [(1, repl m ⟨4, 0, ⟨#[]⟩⟩), (1, repl q ⟨4, 0, ⟨#[]⟩⟩)] ((LB, .cells #[.int .i64 8, .int .i64 1, .string ⟨#[]⟩] 28 (0, 0)) :: (LA, .cells #[.int .i64 8, .int .i64 0, .string ⟨#[]⟩] 28 (0, 0)) :: [(BN, .cells #[.int .i64 4, .int .i64 0, .string ⟨#[]⟩] 28 (0, 0))]) F8 wb ∧ Fil F8 wb r0 m 0 ⟨4, 0, ⟨#[]⟩⟩ ∧ Fil F8 wb r1 q 0 ⟨4, 0, ⟨#[]⟩⟩) := Lib.hid (by
        have B1 : Below w8.heap.size w8 wb := ((Below.refl _ w8).drew.trans ba).trans (bb.mono (by omega))
        have nf : ∀ R, w8.heap.size ≤ R → ¬ F8 R := fun R hR e => by have := H8.out.1.lt _ e; omega
        exact ⟨H8.out.below B1, ⟨ca, ⟨(bb.block r0 (by omega)).trans na, nf _ (by omega)⟩, sa, by simp [repl, vCells]⟩, ⟨cb, ⟨nb, nf _ (by omega)⟩, sb, by simp [repl, vCells]⟩⟩)
      have X2 : Hid (St2 w w.heap.size [(1, repl m ⟨4, 0, ⟨#[]⟩⟩), (1, repl q ⟨4, 0, ⟨#[]⟩⟩)] ((LB, .cells #[.int .i64 8, .int .i64 1, .string ⟨#[]⟩] 28 (0, 0)) :: (LA, .cells #[.int .i64 8, .int .i64 0, .string ⟨#[]⟩] 28 (0, 0)) :: [(BN, .cells #[.int .i64 4, .int .i64 0, .string ⟨#[]⟩] 28 (0, 0))]) F8 wd ∧ Fil F8 wd r2 m 0 ⟨4, 0, ⟨#[]⟩⟩ ∧ Fil F8 wd r0 q 0 ⟨4, 0, ⟨#[]⟩⟩) := Lib.hid (by
        have B1 : Below w8.heap.size w8 wd := ((Below.refl _ w8).drew.trans bc).trans (bd.mono (by omega))
        have nf : ∀ R, w8.heap.size ≤ R → ¬ F8 R := fun R hR e => by have := H8.out.1.lt _ e; omega
        exact ⟨H8.out.below B1, ⟨cd, ⟨nd, nf _ (by omega)⟩, sd, by simp [repl, vCells]⟩, ⟨cc, ⟨(bd.block r0 (by omega)).trans nc, nf _ (by omega)⟩, sc, by simp [repl, vCells]⟩⟩)
      have E0 := Lib.hid e0
      have E1 := Lib.hid e1
      have E2 := Lib.hid e2
      clear na sa ba za nb sb bb zb nc sc bc zc nd sd bd zd hr0 hr1 hr2 hd8 e0 e1 e2
      apply wp_merge2 (I := fun R1 R2 W' => St2 w w.heap.size [(1, repl m ⟨4, 0, ⟨#[]⟩⟩), (1, repl q ⟨4, 0, ⟨#[]⟩⟩)] ((LB, .cells #[.int .i64 8, .int .i64 1, .string ⟨#[]⟩] 28 (0, 0)) :: (LA, .cells #[.int .i64 8, .int .i64 0, .string ⟨#[]⟩] 28 (0, 0)) :: [(BN, .cells #[.int .i64 4, .int .i64 0, .string ⟨#[]⟩] 28 (0, 0))]) F8 W' ∧ Fil F8 W' R1 m 0 ⟨4, 0, ⟨#[]⟩⟩ ∧ Fil F8 W' R2 q 0 ⟨4, 0, ⟨#[]⟩⟩ ∧ w8.heap.size ≤ R1 ∧ w8.heap.size ≤ R2 ∧ R1 ≠ R2)
      · go_region
        all_goals
          go_wp2
          have e0 := E0.out
          have e1 := E1.out
          have e2 := E2.out
          first
            | (obtain ⟨z0, hz0⟩ : ∃ z, z = r0 := ⟨_, rfl⟩
               obtain ⟨z1, hz1⟩ : ∃ z, z = r1 := ⟨_, rfl⟩
               rw [← hz0, ← hz1]
               exact MQ.mk ⟨z0, z1, rfl, X1.out.1, by rw [hz0]; exact X1.out.2.1, by rw [hz1]; exact X1.out.2.2, by omega, by omega, by omega⟩)
            | (obtain ⟨z0, hz0⟩ : ∃ z, z = r2 := ⟨_, rfl⟩
               obtain ⟨z1, hz1⟩ : ∃ z, z = r0 := ⟨_, rfl⟩
               rw [← hz0, ← hz1]
               exact MQ.mk ⟨z0, z1, rfl, X2.out.1, by rw [hz0]; exact X2.out.2.1, by rw [hz1]; exact X2.out.2.2, by omega, by omega, by omega⟩)
      · rintro R1 R2 w9 ⟨h9, f1, f2, g1, g2, g3⟩
        have H9 := Lib.hid h9
        have FA := Lib.hid f1
        have FB := Lib.hid f2
        clear h9 f1 f2 X1 X2 E0 E1 E2 ma mb mc md H3 H5 H8
        have hne1 : ∀ x ∈ (((LB, .cells #[.int .i64 8, .int .i64 1, .string ⟨#[]⟩] 28 (0, 0)) :: (LA, .cells #[.int .i64 8, .int .i64 0, .string ⟨#[]⟩] 28 (0, 0)) :: [(BN, .cells #[.int .i64 4, .int .i64 0, .string ⟨#[]⟩] 28 (0, 0))]) : List (Nat × Obj)), x.1 ≠ R1 := (fun x hx => by simp only [List.mem_cons, List.not_mem_nil, or_false] at hx; rcases hx with rfl | rfl | rfl <;> (dsimp only; omega))
        have hne2 : ∀ x ∈ (((LB, .cells #[.int .i64 8, .int .i64 1, .string ⟨#[]⟩] 28 (0, 0)) :: (LA, .cells #[.int .i64 8, .int .i64 0, .string ⟨#[]⟩] 28 (0, 0)) :: [(BN, .cells #[.int .i64 4, .int .i64 0, .string ⟨#[]⟩] 28 (0, 0))]) : List (Nat × Obj)), x.1 ≠ R2 := (fun x hx => by simp only [List.mem_cons, List.not_mem_nil, or_false] at hx; rcases hx with rfl | rfl | rfl <;> (dsimp only; omega))
        have HNE1 := Lib.hid hne1
        have HNE2 := Lib.hid hne2
        clear hne1 hne2
        go_wp2
        go_loopw [15] (fun x wr => ∃ j : Nat, j ≤ m ∧ x = .int .i64 j ∧ St2 w w.heap.size [(1, repl m ⟨4, 0, ⟨#[]⟩⟩), (1, repl q ⟨4, 0, ⟨#[]⟩⟩)] ((LB, .cells #[.int .i64 8, .int .i64 1, .string ⟨#[]⟩] 28 (0, 0)) :: (LA, .cells #[.int .i64 8, .int .i64 0, .string ⟨#[]⟩] 28 (0, 0)) :: [(BN, .cells #[.int .i64 4, .int .i64 0, .string ⟨#[]⟩] 28 (0, 0))]) F8 wr ∧ Fil F8 wr R1 m j ⟨4, 0, ⟨#[]⟩⟩ ∧ Fil F8 wr R2 q 0 ⟨4, 0, ⟨#[]⟩⟩) (fun x _ => m - (intOf x).toNat)
        case atStart => exact ⟨0, Nat.zero_le _, rfl, H9.out, FA.out, FB.out⟩
        case round =>
          obtain ⟨j, hj, rfl, h6, f6, f7⟩ := hrel
          have H6 := Lib.hid h6
          have FA6 := Lib.hid f6
          have FB6 := Lib.hid f7
          clear h6 f6 f7 H9 FA FB
          by_cases hlt : j < m
          · obtain ⟨⟨p0, p1, p2⟩, -⟩ := look3 (H6.out.at 2 rfl).1
            obtain ⟨⟨y0, y1, y2, z0, z1, z2⟩, f0, f1, f2⟩ := FA6.out.cells hlt
            have hi1 : (j : Int) < (m : Int) := by omega
            have nf : ¬ F8 R1 := FA6.out.choose_spec.1.2
            have k1 := H6.out.st3 (o := j * 3) (u := ⟨4, 0, ⟨#[]⟩⟩) nf HNE1.out (by omega)
            have k2 := FA6.out.step hlt
            have k3 := FB6.out.set3 (o := j * 3) (y := ⟨4, 0, ⟨#[]⟩⟩) (fun e => g3 e.symm)
            unfold Hp.set3 at k1 k2 k3
            dsimp only at k1 k2 k3
            replace k1 := Lib.hid k1
            replace k2 := Lib.hid k2
            replace k3 := Lib.hid k3
            go_wp2
            exact ⟨⟨j + 1, by omega, by go_num, k1.out, k2.out, k3.out⟩, by simp [intOf]; omega⟩
          · have FA7 : Hid (Fil F8 wr R1 m m ⟨4, 0, ⟨#[]⟩⟩) := Lib.hid (by have := FA6.out; rwa [show j = m by omega] at this)
            have FB7 := FB6
            clear FA6
            go_wp2
            go_loopw [16] (fun x wr => ∃ j : Nat, j ≤ q ∧ x = .int .i64 j ∧ St2 w w.heap.size [(1, repl m ⟨4, 0, ⟨#[]⟩⟩), (1, repl q ⟨4, 0, ⟨#[]⟩⟩)] ((LB, .cells #[.int .i64 8, .int .i64 1, .string ⟨#[]⟩] 28 (0, 0)) :: (LA, .cells #[.int .i64 8, .int .i64 0, .string ⟨#[]⟩] 28 (0, 0)) :: [(BN, .cells #[.int .i64 4, .int .i64 0, .string ⟨#[]⟩] 28 (0, 0))]) F8 wr ∧ Fil F8 wr R1 m m ⟨4, 0, ⟨#[]⟩⟩ ∧ Fil F8 wr R2 q j ⟨4, 0, ⟨#[]⟩⟩) (fun x _ => q - (intOf x).toNat)
            case atStart => exact ⟨0, Nat.zero_le _, rfl, H6.out, FA7.out, FB7.out⟩
            case round =>
              obtain ⟨j2, hj2, rfl, h6, f6, f7⟩ := hrel
              have H7 := Lib.hid h6
              have FA8 := Lib.hid f6
              have FB8 := Lib.hid f7
              clear h6 f6 f7 H6 FA7 FB7 FB6 hlt hj
              by_cases hlt : j2 < q
              · obtain ⟨⟨p0, p1, p2⟩, -⟩ := look3 (H7.out.at 2 rfl).1
                obtain ⟨⟨y0, y1, y2, z0, z1, z2⟩, f0, f1, f2⟩ := FB8.out.cells hlt
                have hi1 : (j2 : Int) < (q : Int) := by omega
                have nf : ¬ F8 R2 := FB8.out.choose_spec.1.2
                have k1 := H7.out.st3 (o := j2 * 3) (u := ⟨4, 0, ⟨#[]⟩⟩) nf HNE2.out (by omega)
                have k2 := FB8.out.step hlt
                have k3 := FA8.out.set3 (o := j2 * 3) (y := ⟨4, 0, ⟨#[]⟩⟩) g3
                unfold Hp.set3 at k1 k2 k3
                dsimp only at k1 k2 k3
                replace k1 := Lib.hid k1
                replace k2 := Lib.hid k2
                replace k3 := Lib.hid k3
                go_wp2
                exact ⟨⟨j2 + 1, by omega, by go_num, k1.out, k3.out, k2.out⟩, by simp [intOf]; omega⟩
              · have HM : Hid (St2 w w.heap.size [(1, (repl m ⟨4, 0, ⟨#[]⟩⟩)), (1, (repl q ⟨4, 0, ⟨#[]⟩⟩))] [(R1, .cells (vCells (repl m ⟨4, 0, ⟨#[]⟩⟩)).toArray 28 (0, 0)), (R2, .cells (vCells (repl q ⟨4, 0, ⟨#[]⟩⟩)).toArray 28 (0, 0)), (LA, .cells #[.int .i64 8, .int .i64 0, .string ⟨#[]⟩] 28 (0, 0)), (LB, .cells #[.int .i64 8, .int .i64 1, .string ⟨#[]⟩] 28 (0, 0))] F8 wr) := Lib.hid (by
                  have q1 := FA8.out.full
                  have q2 := FB8.out
                  rw [show j2 = q by omega] at q2
                  exact ⟨H7.out.1, fun x hx => by
                    simp only [List.mem_cons, List.not_mem_nil, or_false] at hx
                    rcases hx with rfl | rfl | rfl | rfl
                    · exact q1
                    · exact q2.full
                    · exact H7.out.at 1 rfl
                    · exact H7.out.at 0 rfl⟩)
                clear H7 FA8 FB8 HNE1 HNE2
                go_wp2
                go_loopw [17] (fun x wr => ∃ i : Nat, i ≤ l.length ∧ x = .int .i64 i ∧ ∃ F t1 t2, St2 w w.heap.size [(1, t1), (1, t2)] [(R1, .cells (vCells t1).toArray 28 (0, 0)), (R2, .cells (vCells t2).toArray 28 (0, 0)), (LA, .cells #[.int .i64 8, .int .i64 0, .string ⟨#[]⟩] 28 (0, 0)), (LB, .cells #[.int .i64 8, .int .i64 1, .string ⟨#[]⟩] 28 (0, 0))] F wr ∧ t1.length = m ∧ t2.length = q) (fun x _ => l.length - (intOf x).toNat)
                case atStart => exact ⟨0, Nat.zero_le _, rfl, F8, _, _, HM.out, repl_length _ _, repl_length _ _⟩
                case round =>
                  obtain ⟨i, hi, rfl, F, t1, t2, h6, ht1, ht2⟩ := hrel
                  have H6 := Lib.hid h6
                  clear h6 HM
                  by_cases hlt : i < l.length
                  · by_cases h60 : i < 60
                    · obtain ⟨a2, c2, e2, _, _, _, h4⟩ := HP.out
                      cases e2
                      obtain ⟨b, o, rfl, hbl, hcell⟩ := h4.resolve_left (by rintro rfl; cases hlt)
                      obtain ⟨d0, d1, d2, ok0, ok1, ok2⟩ := hcell i hlt
                      generalize l[i] = t at d0 d1 d2 ok0 ok1 ok2
                      obtain ⟨x0, x1, x2⟩ := t
                      dsimp only at d0 d1 d2 ok0 ok1 ok2
                      have D1 := Lib.hid d1
                      have D2 := Lib.hid d2
                      have d0' := (H6.out.1.2.2.cell (p := ⟨b, o + i * 3, none⟩) hbl).trans d0
                      have hi0 : (0 : Int) ≤ (i : Int) := by omega
                      have hi1 : (i : Int) < (l.length : Int) := by omega
                      have h60i : (i : Int) < 60 := by omega
                      have hy0 : -1000 < x2.tmod 1000 := by have := Int.lt_tmod_of_pos x2 (show (0 : Int) < 1000 by decide); omega
                      have hy1 : x2.tmod 1000 < 1000 := Int.tmod_lt_of_pos x2 (by decide)
                      have okx1 : -9223372036854775808 ≤ x1 ∧ x1 ≤ 9223372036854775807 := ok1
                      obtain ⟨⟨p0, p1, p2⟩, -⟩ := look3 (H6.out.at 2 rfl).1
                      have hbw : b < wr.heap.size := by have := H6.out.1.2.2.size; omega
                      clear d0 d1 d2 hcell h4
                      obtain ⟨⟨q0, q1, q2⟩, -⟩ := look3 ((H6.out.add (.cells #[.int .i64 8, .int .i64 0, .string ⟨#[]⟩] 28)).at 4 rfl).1
                      go_upto_if 121 with fail
                      go_cut [19] from 121 to 123 (fun sx wx => ∃ (cc : Int) (RR nn : Nat), ((cc = 0 ∧ RR = R1 ∧ nn = m) ∨ (cc = 1 ∧ RR = R2 ∧ nn = q)) ∧ sx = .slice (some ⟨RR, 0, none⟩) nn nn ∧ wx = wr.alloc (.cells #[.int .i64 8, .int .i64 cc, .string ⟨#[]⟩] 28))
                      case first =>
                        by_cases hp : x0.tmod 2 = 0
                        · have hpb : (x0.tmod 2 != 0) = false := by simp [hp]
                          clear hp
                          go_wp2_with fail
                          go_meet
                          exact ⟨0, R1, m, .inl ⟨rfl, rfl, rfl⟩, rfl, rfl⟩
                        · have hpb : (x0.tmod 2 != 0) = true := by simp [hp]
                          clear hp
                          go_wp2_with fail
                          go_meet
                          exact ⟨1, R2, q, .inr ⟨rfl, rfl, rfl⟩, rfl, rfl⟩
                      case rest =>
                        obtain ⟨cc, RR, nn, hc, rfl, rfl⟩ := hcut
                        have HC := Lib.hid hc
                        have hcc : 0 ≤ cc ∧ cc ≤ 1 := by omega
                        clear hc q0 q1 q2
                        go_upto_region 26 with fail
                        have hVB := H6.out.1.2.2.size
                        have H7 := Lib.hid (H6.out.add (.cells #[.int .i64 8, .int .i64 cc, .string ⟨#[]⟩] 28))
                        have BA7 := Lib.hid H7.out.1.2.2.size
                        generalize wr.alloc (.cells #[.int .i64 8, .int .i64 cc, .string ⟨#[]⟩] 28) = w10 at *
                        generalize wr.heap.size = VB at *
                        clear H6
                        refine wp_one_fr (by kernel_rfl) w10.heap.size (Nat.le_refl _) (fun
                          | 0 => some (.slice (some ⟨b, o, none⟩) l.length c)
                          | 1 => some (.int .i64 (i : Int))
                          | 2 => some (.pointer (some ⟨b, o + i * 3, none⟩))
                          | 3 => some (.pointer (some ⟨b, o + i * 3 + 1, none⟩))
                          | 4 => some (.int .i64 x1)
                          | 5 => some (.slice (some ⟨b, o, none⟩) l.length c)
                          | 6 => some (.int .i64 (i : Int))
                          | 7 => some (.pointer (some ⟨b, o + i * 3, none⟩))
                          | 8 => some (.pointer (some ⟨b, o + i * 3 + 2, none⟩))
                          | 9 => some (.int .i64 x2)
                          | 10 => some (.int .i64 (x2.tmod 1000))
                          | 11 => some (.agg #[.int .i64 1, .int .i64 (x2.tmod 1000), .string ⟨#[]⟩])
                          | 13 => some (.int .i64 x1)
                          | _ => none) 12 14 ⟨1, x2.tmod 1000, ⟨#[]⟩⟩ (by kernel_rfl) ?_ (by decide) ⟨by decide, by decide⟩ ⟨rfl, rfl⟩ (by kernel_rfl) ?_
                        · intro i9 hi9
                          rcases i9 with _ | _ | _ | _ | _ | _ | _ | _ | _ | _ | _ | _ | _ | _ | _ | i9
                          all_goals first | exact .inl rfl | exact .inr (.inl rfl) | exact .inr (.inr ⟨_, rfl⟩) | (have h9 : i9 + 15 < 15 := hi9; omega)
                        constructor
                        refine ⟨?_, ?_, ?_, ?_, ?_⟩
                        · intro vs
                          simp only [Rg.putAll, Act.put, List.setIfInBounds_toArray, List.set_cons_zero, List.set_cons_succ, Nat.zero_add, Nat.reduceAdd]
                          first | done | exact rfl
                        · intro i9 oo x ho hx vs W hb hR
                          have hW := H7.out.1.2.2.trans (hb.mono BA7.out)
                          have e1 := (hW.cell (p := ⟨b, o + i * 3 + 1, none⟩) hbl).trans D1.out
                          have e2 := (hW.cell (p := ⟨b, o + i * 3 + 2, none⟩) hbl).trans D2.out
                          have HR9 := Lib.hid hR
                          have HX9 := Lib.hid hx
                          clear hR hx hW
                          rcases i9 with _ | _ | _ | _ | _ | _ | _ | _ | _ | _ | _ | _ | _ | _ | _ | i9
                          all_goals simp only [List.getElem?_cons_zero, List.getElem?_cons_succ, List.getElem?_nil, Option.some.injEq, reduceCtorEq] at ho
                          all_goals try subst ho
                          · obtain rfl : .slice (some ⟨b, o, none⟩) l.length c = x := Option.some.inj HX9.out
                            try dsimp only
                            go_simp
                            all_goals first | exact ⟨rfl, Below.refl _ _⟩ | exact Below.refl _ _
                          · obtain rfl : .int .i64 (i : Int) = x := Option.some.inj HX9.out
                            try dsimp only
                            go_simp
                            all_goals first | exact ⟨rfl, Below.refl _ _⟩ | exact Below.refl _ _
                          · obtain rfl : .pointer (some ⟨b, o + i * 3, none⟩) = x := Option.some.inj HX9.out
                            try dsimp only
                            rw [HR9.out 0 _ (by kernel_rfl) rfl]
                            rw [HR9.out 1 _ (by kernel_rfl) rfl]
                            go_simp
                            all_goals first | exact ⟨rfl, Below.refl _ _⟩ | exact Below.refl _ _
                          · obtain rfl : .pointer (some ⟨b, o + i * 3 + 1, none⟩) = x := Option.some.inj HX9.out
                            try dsimp only
                            rw [HR9.out 2 _ (by kernel_rfl) rfl]
                            go_simp
                            all_goals first | exact ⟨rfl, Below.refl _ _⟩ | exact Below.refl _ _
                          · obtain rfl : .int .i64 x1 = x := Option.some.inj HX9.out
                            try dsimp only
                            rw [HR9.out 3 _ (by kernel_rfl) rfl]
                            go_simp
                            all_goals first | exact ⟨rfl, Below.refl _ _⟩ | exact Below.refl _ _
                          · obtain rfl : .slice (some ⟨b, o, none⟩) l.length c = x := Option.some.inj HX9.out
                            try dsimp only
                            go_simp
                            all_goals first | exact ⟨rfl, Below.refl _ _⟩ | exact Below.refl _ _
                          · obtain rfl : .int .i64 (i : Int) = x := Option.some.inj HX9.out
                            try dsimp only
                            go_simp
                            all_goals first | exact ⟨rfl, Below.refl _ _⟩ | exact Below.refl _ _
                          · obtain rfl : .pointer (some ⟨b, o + i * 3, none⟩) = x := Option.some.inj HX9.out
                            try dsimp only
                            rw [HR9.out 5 _ (by kernel_rfl) rfl]
                            rw [HR9.out 6 _ (by kernel_rfl) rfl]
                            go_simp
                            all_goals first | exact ⟨rfl, Below.refl _ _⟩ | exact Below.refl _ _
                          · obtain rfl : .pointer (some ⟨b, o + i * 3 + 2, none⟩) = x := Option.some.inj HX9.out
                            try dsimp only
                            rw [HR9.out 7 _ (by kernel_rfl) rfl]
                            go_simp
                            all_goals first | exact ⟨rfl, Below.refl _ _⟩ | exact Below.refl _ _
                          · obtain rfl : .int .i64 x2 = x := Option.some.inj HX9.out
                            try dsimp only
                            rw [HR9.out 8 _ (by kernel_rfl) rfl]
                            go_simp
                            all_goals first | exact ⟨rfl, Below.refl _ _⟩ | exact Below.refl _ _
                          · obtain rfl : .int .i64 (x2.tmod 1000) = x := Option.some.inj HX9.out
                            try dsimp only
                            rw [HR9.out 9 _ (by kernel_rfl) rfl]
                            go_simp
                            all_goals first | exact ⟨rfl, Below.refl _ _⟩ | exact Below.refl _ _
                          · obtain rfl : .agg #[.int .i64 1, .int .i64 (x2.tmod 1000), .string ⟨#[]⟩] = x := Option.some.inj HX9.out
                            try dsimp only
                            rw [HR9.out 10 _ (by kernel_rfl) rfl]
                            go_simp
                            refine (num_any _ _).mono ?_
                            rintro e w7 ⟨rfl, hb7⟩
                            first | exact ⟨rfl, hb7⟩ | exact hb7
                          · have h9 : (none : Option Value) = some x := HX9.out
                            cases h9
                          · obtain rfl : .int .i64 x1 = x := Option.some.inj HX9.out
                            try dsimp only
                            rw [HR9.out 4 _ (by kernel_rfl) rfl]
                            go_simp
                            all_goals first | exact ⟨rfl, Below.refl _ _⟩ | exact Below.refl _ _
                          · have h9 : (none : Option Value) = some x := HX9.out
                            cases h9
                        · intro oo ho vs W
                          simp only [List.getElem?_cons_zero, List.getElem?_cons_succ, Option.some.injEq] at ho
                          subst ho
                          try dsimp only
                          go_simp
                          all_goals first | exact ⟨rfl, rfl⟩ | rfl
                        · intro oo ho vs W bb hbb hxv hz hR
                          have HR9 := Lib.hid hR
                          clear hR
                          simp only [List.getElem?_cons_zero, List.getElem?_cons_succ, Option.some.injEq] at ho
                          subst ho
                          try dsimp only
                          rw [HR9.out 11 _ (by kernel_rfl) rfl]
                          rw [hxv]
                          obtain ⟨⟨x0, x1, x2⟩, y0, y1, y2⟩ := look3 hz
                          go_simp
                          all_goals first | exact ⟨rfl, rfl⟩ | rfl
                        · intro vs w11 XB hev hxv hXB hbw9 hz
                          try dsimp only
                          rw [hev 0 _ (by decide) rfl]
                          rw [hev 1 _ (by decide) rfl]
                          rw [hev 2 _ (by decide) rfl]
                          rw [hev 3 _ (by decide) rfl]
                          rw [hev 4 _ (by decide) rfl]
                          rw [hev 5 _ (by decide) rfl]
                          rw [hev 6 _ (by decide) rfl]
                          rw [hev 7 _ (by decide) rfl]
                          rw [hev 8 _ (by decide) rfl]
                          rw [hev 9 _ (by decide) rfl]
                          rw [hev 10 _ (by decide) rfl]
                          rw [hev 11 _ (by decide) rfl]
                          rw [hev 13 _ (by decide) rfl]
                          rw [hxv]
                          have H11 : Hid (St2 w w.heap.size [(1, t1), (1, t2)] ((XB, .cells #[.int .i64 1, .int .i64 (x2.tmod 1000), .string ⟨#[]⟩] 28 (0, 0)) :: (VB, .cells #[.int .i64 8, .int .i64 cc, .string ⟨#[]⟩] 28 (0, 0)) :: [(R1, .cells (vCells t1).toArray 28 (0, 0)), (R2, .cells (vCells t2).toArray 28 (0, 0)), (LA, .cells #[.int .i64 8, .int .i64 0, .string ⟨#[]⟩] 28 (0, 0)), (LB, .cells #[.int .i64 8, .int .i64 1, .string ⟨#[]⟩] 28 (0, 0))]) F w11) := Lib.hid (by
                            have q1 := H7.out.below hbw9
                            exact ⟨q1.1, List.forall_mem_cons.2 ⟨⟨hz, fun hf => by have := H7.out.1.lt _ hf; omega⟩, q1.2⟩⟩)
                          clear hev hxv hz hbw9 H7
                          by_cases r1 : x1 < -1000
                          · go_wp2
                            exact ⟨⟨i + 1, by omega, by go_num, F, t1, t2, H11.out.drop.drop, ht1, ht2⟩, by simp [intOf]; omega⟩
                          by_cases r2 : 1000 < x1
                          · go_wp2
                            exact ⟨⟨i + 1, by omega, by go_num, F, t1, t2, H11.out.drop.drop, ht1, ht2⟩, by simp [intOf]; omega⟩
                          have NF11 : Hid (∀ R, w11.heap.size ≤ R → ¬ F R) := Lib.hid (fun R hR e => by have := H11.out.1.lt _ e; omega)
                          have BA11 := Lib.hid H11.out.1.2.2.size
                          obtain ⟨uk, err, s1, s2, hrel, hKD⟩ : ∃ (uk err : Int) (s1 s2 : List PV), ((0 ≤ x1 ∧ x1 < (nn : Int) ∧ err = 0 ∧ ((cc = 0 ∧ s1 = t1.set x1.toNat ⟨1, x2.tmod 1000, ⟨#[]⟩⟩ ∧ s2 = t2) ∨ (cc = 1 ∧ s1 = t1 ∧ s2 = t2.set x1.toNat ⟨1, x2.tmod 1000, ⟨#[]⟩⟩))) ∨ ((x1 < 0 ∨ (nn : Int) ≤ x1) ∧ err = 83 ∧ s1 = t1 ∧ s2 = t2)) ∧ (∀ (W : World), Below w11.heap.size w11 W → ∀ g, W.heap[g]? = some (.cells (vCells [⟨8, cc, ⟨#[]⟩⟩, ⟨1, x1, ⟨#[]⟩⟩, ⟨1, x2.tmod 1000, ⟨#[]⟩⟩]).toArray 28 (0, 0)) → Calls Tryd.prog 13 #[.pointer (some ⟨w.heap.size, 0, none⟩), .string ⟨#[118, 101, 99, 116, 111, 114, 45, 115, 101, 116, 33]⟩, .slice (some ⟨g, 0, none⟩) 3 3] W fun e w' => DoOk W w.heap.size F ⟨uk, 0, ⟨#[]⟩⟩ err [(1, s1), (1, s2)] e w') := by
                            rcases HC.out with ⟨e1, e2, e3⟩ | ⟨e1, e2, e3⟩
                            all_goals subst e1 e3
                            · by_cases hin : 0 ≤ x1 ∧ x1 < (nn : Int)
                              · obtain ⟨hr0, hr1⟩ := hin
                                refine ⟨5, 0, _, _, .inl ⟨hr0, hr1, rfl, .inl ⟨rfl, rfl, rfl⟩⟩, fun W hW g hg => ?_⟩
                                have h9 := do_vset 0 ⟨#[]⟩ x1 ⟨1, x2.tmod 1000, ⟨#[]⟩⟩ t1 (by omega) (by omega) (H11.out.below hW).1.1 (H11.out.below hW).1.lt (lit_inP (l := [⟨8, 0, ⟨#[]⟩⟩, ⟨1, x1, ⟨#[]⟩⟩, ⟨1, x2.tmod 1000, ⟨#[]⟩⟩]) hg (ok_three ⟨by omega, by omega, by omega, by omega⟩ ⟨by omega, by omega, by omega, by omega⟩ ⟨by omega, by omega, by omega, by omega⟩) (show 3 ≤ 1000 by decide)) (has_th (m := 2) (show (0 : Int) ≤ 0 by decide) (show (0 : Int) < ((2 : Nat) : Int) by decide)) (has_num (by omega) (by omega)) (show (0 : Int) ≤ 0 by decide) rfl
                                rw [putT_one hr0 (by omega)] at h9
                                exact h9
                              · have hor : x1 < 0 ∨ (nn : Int) ≤ x1 := by omega
                                refine ⟨0, 83, _, _, .inr ⟨hor, rfl, rfl, rfl⟩, fun W hW g hg => ?_⟩
                                have h9 := do_vset 0 ⟨#[]⟩ x1 ⟨1, x2.tmod 1000, ⟨#[]⟩⟩ t1 (by omega) (by omega) (H11.out.below hW).1.1 (H11.out.below hW).1.lt (lit_inP (l := [⟨8, 0, ⟨#[]⟩⟩, ⟨1, x1, ⟨#[]⟩⟩, ⟨1, x2.tmod 1000, ⟨#[]⟩⟩]) hg (ok_three ⟨by omega, by omega, by omega, by omega⟩ ⟨by omega, by omega, by omega, by omega⟩ ⟨by omega, by omega, by omega, by omega⟩) (show 3 ≤ 1000 by decide)) (has_th (m := 2) (show (0 : Int) ≤ 0 by decide) (show (0 : Int) < ((2 : Nat) : Int) by decide)) (has_num (by omega) (by omega)) (show (0 : Int) ≤ 0 by decide) rfl
                                rw [putT_one_out (by omega)] at h9
                                exact h9
                            · by_cases hin : 0 ≤ x1 ∧ x1 < (nn : Int)
                              · obtain ⟨hr0, hr1⟩ := hin
                                refine ⟨5, 0, _, _, .inl ⟨hr0, hr1, rfl, .inr ⟨rfl, rfl, rfl⟩⟩, fun W hW g hg => ?_⟩
                                have h9 := do_vset 1 ⟨#[]⟩ x1 ⟨1, x2.tmod 1000, ⟨#[]⟩⟩ t2 (by omega) (by omega) (H11.out.below hW).1.1 (H11.out.below hW).1.lt (lit_inP (l := [⟨8, 1, ⟨#[]⟩⟩, ⟨1, x1, ⟨#[]⟩⟩, ⟨1, x2.tmod 1000, ⟨#[]⟩⟩]) hg (ok_three ⟨by omega, by omega, by omega, by omega⟩ ⟨by omega, by omega, by omega, by omega⟩ ⟨by omega, by omega, by omega, by omega⟩) (show 3 ≤ 1000 by decide)) (has_th (m := 2) (show (0 : Int) ≤ 1 by decide) (show (1 : Int) < ((2 : Nat) : Int) by decide)) (has_num (by omega) (by omega)) (show (0 : Int) ≤ 1 by decide) rfl
                                rw [putT_two hr0 (by omega)] at h9
                                exact h9
                              · have hor : x1 < 0 ∨ (nn : Int) ≤ x1 := by omega
                                refine ⟨0, 83, _, _, .inr ⟨hor, rfl, rfl, rfl⟩, fun W hW g hg => ?_⟩
                                have h9 := do_vset 1 ⟨#[]⟩ x1 ⟨1, x2.tmod 1000, ⟨#[]⟩⟩ t2 (by omega) (by omega) (H11.out.below hW).1.1 (H11.out.below hW).1.lt (lit_inP (l := [⟨8, 1, ⟨#[]⟩⟩, ⟨1, x1, ⟨#[]⟩⟩, ⟨1, x2.tmod 1000, ⟨#[]⟩⟩]) hg (ok_three ⟨by omega, by omega, by omega, by omega⟩ ⟨by omega, by omega, by omega, by omega⟩ ⟨by omega, by omega, by omega, by omega⟩) (show 3 ≤ 1000 by decide)) (has_th (m := 2) (show (0 : Int) ≤ 1 by decide) (show (1 : Int) < ((2 : Nat) : Int) by decide)) (has_num (by omega) (by omega)) (show (0 : Int) ≤ 1 by decide) rfl
                                rw [putT_two_out (by omega)] at h9
                                exact h9
                          have HREL := Lib.hid hrel
                          have HKD := Lib.hid hKD
                          clear hrel hKD
                          go_upto_region 28 with fail
                          clear BA7
                          have KD := Lib.hid (fun (W : World) (hW : Below w11.heap.size w11 W) (g : Nat) (hg : W.heap[g]? = some (.cells (vCells [⟨8, cc, ⟨#[]⟩⟩, ⟨1, x1, ⟨#[]⟩⟩, ⟨1, x2.tmod 1000, ⟨#[]⟩⟩]).toArray 28 (0, 0))) =>
                            (((HKD.out W hW g hg) :
                              Calls Tryd.prog 13 #[.pointer (some ⟨w.heap.size, 0, none⟩), .string ⟨#[118, 101, 99, 116, 111, 114, 45, 115, 101, 116, 33]⟩, .slice (some ⟨g, 0, none⟩) 3 3] W fun e w' => DoOk W w.heap.size _ ⟨uk, 0, ⟨#[]⟩⟩ err [(1, s1), (1, s2)] e w').mono fun e w' hd => (H11.out.below hW).use hd))
                          refine wp_do_fr (by kernel_rfl) w11.heap.size (Nat.le_refl _) (fun
                            | 0 => some (.pointer (some ⟨w.heap.size, 0, none⟩))
                            | 1 => some (.agg #[.int .i64 8, .int .i64 cc, .string ⟨#[]⟩])
                            | 2 => some (.int .i64 x1)
                            | 3 => some (.agg #[.int .i64 1, .int .i64 x1, .string ⟨#[]⟩])
                            | 4 => some (.agg #[.int .i64 1, .int .i64 (x2.tmod 1000), .string ⟨#[]⟩])
                            | 6 => some (.tuple #[.agg #[.int .i64 uk, .int .i64 0, .string ⟨#[]⟩], .int .i64 err])
                            | 7 => some (.tuple #[.agg #[.int .i64 uk, .int .i64 0, .string ⟨#[]⟩], .int .i64 err])
                            | 8 => some (.agg #[.int .i64 uk, .int .i64 0, .string ⟨#[]⟩])
                            | 9 => some (.int .i64 err)
                            | 12 => some (.int .i64 err)
                            | _ => none) 5 6 10 11 3 [⟨8, cc, ⟨#[]⟩⟩, ⟨1, x1, ⟨#[]⟩⟩, ⟨1, x2.tmod 1000, ⟨#[]⟩⟩] ⟨uk, 0, ⟨#[]⟩⟩ (.tuple #[.agg #[.int .i64 uk, .int .i64 0, .string ⟨#[]⟩], .int .i64 err]) (fun F W' => St2 w w.heap.size [(1, s1), (1, s2)] ((XB, .cells #[.int .i64 1, .int .i64 (x2.tmod 1000), .string ⟨#[]⟩] 28 (0, 0)) :: (VB, .cells #[.int .i64 8, .int .i64 cc, .string ⟨#[]⟩] 28 (0, 0)) :: [(R1, .cells (vCells t1).toArray 28 (0, 0)), (R2, .cells (vCells t2).toArray 28 (0, 0)), (LA, .cells #[.int .i64 8, .int .i64 0, .string ⟨#[]⟩] 28 (0, 0)), (LB, .cells #[.int .i64 8, .int .i64 1, .string ⟨#[]⟩] 28 (0, 0))]) F W') (by kernel_rfl) ?_ ⟨by decide, by decide, by decide, by decide, by decide, by decide⟩ ⟨by decide, by decide, by decide, by decide⟩ ⟨rfl, rfl, rfl, rfl⟩ (by kernel_rfl) (by kernel_rfl) (by kernel_rfl) (by kernel_rfl) ?_ ?_ ?_
                          · intro i hi
                            rcases i with _ | _ | _ | _ | _ | _ | _ | _ | _ | _ | _ | _ | _ | i
                            all_goals first | exact .inl rfl | exact .inr (.inl rfl) | exact .inr (.inr (.inl rfl)) | exact .inr (.inr (.inr ⟨_, rfl⟩)) | (have h9 : i + 13 < 13 := hi; omega)
                          · intro F W o h
                            exact ⟨h.below (al W o), fun hf => by have := h.1.lt _ hf; omega⟩
                          · intro F W b h hz hb
                            have hL6 := H11.out.lt
                            have hB6 := BA11.out
                            exact (h.set hz (fun x hx => by have := hL6 x hx; omega) (by omega) _ _ _).drop
                          constructor
                          refine ⟨?_, ?_, ?_, ?_, ?_, ?_, ?_, ?_⟩
                          · intro vs
                            simp only [Rg.putAll, Act.put, List.setIfInBounds_toArray, List.set_cons_zero, List.set_cons_succ, Nat.zero_add, Nat.reduceAdd]
                            first | done | exact rfl
                          · intro i o x ho hx hd hw vs W hb hR
                            obtain ⟨⟨p00, p01, p02⟩, -⟩ := look3 ((H11.out.below hb).at 0 rfl).1
                            obtain ⟨⟨p10, p11, p12⟩, -⟩ := look3 ((H11.out.below hb).at 1 rfl).1
                            have HR9 := Lib.hid hR
                            have HW9 := Lib.hid hw
                            have HX9 := Lib.hid hx
                            have HD9 := Lib.hid hd
                            clear hR hw hx hd
                            rcases i with _ | _ | _ | _ | _ | _ | _ | _ | _ | _ | _ | _ | _ | i
                            all_goals simp only [List.getElem?_cons_zero, List.getElem?_cons_succ, List.getElem?_nil, Option.some.injEq, reduceCtorEq] at ho
                            all_goals try subst ho
                            · obtain rfl : .pointer (some ⟨w.heap.size, 0, none⟩) = x := Option.some.inj HX9.out
                              try dsimp only
                              go_simp
                              all_goals first | exact ⟨rfl, Below.refl _ _⟩ | exact Below.refl _ _
                            · obtain rfl : .agg #[.int .i64 8, .int .i64 cc, .string ⟨#[]⟩] = x := Option.some.inj HX9.out
                              try dsimp only
                              go_simp
                              all_goals first | exact ⟨rfl, Below.refl _ _⟩ | exact Below.refl _ _
                            · obtain rfl : .int .i64 x1 = x := Option.some.inj HX9.out
                              try dsimp only
                              go_simp
                              all_goals first | exact ⟨rfl, Below.refl _ _⟩ | exact Below.refl _ _
                            · obtain rfl : .agg #[.int .i64 1, .int .i64 x1, .string ⟨#[]⟩] = x := Option.some.inj HX9.out
                              try dsimp only
                              rw [HR9.out 2 _ (by kernel_rfl) rfl]
                              go_simp
                              refine (num_any _ _).mono ?_
                              rintro e w7 ⟨rfl, hb7⟩
                              first | exact ⟨rfl, hb7⟩ | exact hb7
                            · obtain rfl : .agg #[.int .i64 1, .int .i64 (x2.tmod 1000), .string ⟨#[]⟩] = x := Option.some.inj HX9.out
                              try dsimp only
                              go_simp
                              all_goals first | exact ⟨rfl, Below.refl _ _⟩ | exact Below.refl _ _
                            · have h9 : (none : Option Value) = some x := HX9.out
                              cases h9
                            · exact absurd rfl HD9.out
                            · exfalso
                              exact absurd HW9.out (by decide)
                            · exfalso
                              exact absurd HW9.out (by decide)
                            · exfalso
                              exact absurd HW9.out (by decide)
                            · have h9 : (none : Option Value) = some x := HX9.out
                              cases h9
                            · have h9 : (none : Option Value) = some x := HX9.out
                              cases h9
                            · exfalso
                              exact absurd HW9.out (by decide)
                          · intro i o x ho hx hd hw vs W hR
                            have HR9 := Lib.hid hR
                            have HW9 := Lib.hid hw
                            have HX9 := Lib.hid hx
                            have HD9 := Lib.hid hd
                            clear hR hw hx hd
                            rcases i with _ | _ | _ | _ | _ | _ | _ | _ | _ | _ | _ | _ | _ | i
                            all_goals simp only [List.getElem?_cons_zero, List.getElem?_cons_succ, List.getElem?_nil, Option.some.injEq, reduceCtorEq] at ho
                            all_goals try subst ho
                            · exfalso
                              exact absurd (by decide) HW9.out
                            · exfalso
                              exact absurd (by decide) HW9.out
                            · exfalso
                              exact absurd (by decide) HW9.out
                            · exfalso
                              exact absurd (by decide) HW9.out
                            · exfalso
                              exact absurd (by decide) HW9.out
                            · have h9 : (none : Option Value) = some x := HX9.out
                              cases h9
                            · exact absurd rfl HD9.out
                            · obtain rfl : .tuple #[.agg #[.int .i64 uk, .int .i64 0, .string ⟨#[]⟩], .int .i64 err] = x := Option.some.inj HX9.out
                              try dsimp only
                              rw [HR9.out 6 _ (by kernel_rfl) rfl]
                              go_simp
                              all_goals first | exact ⟨rfl, rfl⟩ | rfl
                            · obtain rfl : .agg #[.int .i64 uk, .int .i64 0, .string ⟨#[]⟩] = x := Option.some.inj HX9.out
                              try dsimp only
                              rw [HR9.out 7 _ (by kernel_rfl) rfl]
                              go_simp
                              all_goals first | exact ⟨rfl, rfl⟩ | rfl
                            · obtain rfl : .int .i64 err = x := Option.some.inj HX9.out
                              try dsimp only
                              rw [HR9.out 7 _ (by kernel_rfl) rfl]
                              go_simp
                              all_goals first | exact ⟨rfl, rfl⟩ | rfl
                            · have h9 : (none : Option Value) = some x := HX9.out
                              cases h9
                            · have h9 : (none : Option Value) = some x := HX9.out
                              cases h9
                            · obtain rfl : .int .i64 err = x := Option.some.inj HX9.out
                              try dsimp only
                              rw [HR9.out 9 _ (by kernel_rfl) rfl]
                              go_simp
                              all_goals first | exact ⟨rfl, rfl⟩ | rfl
                          · intro o ho vs W hb hR
                            have HR9 := Lib.hid hR
                            clear hR
                            simp only [List.getElem?_cons_zero, List.getElem?_cons_succ, Option.some.injEq] at ho
                            subst ho
                            try dsimp only
                            rw [HR9.out 1 _ (by kernel_rfl) rfl]
                            rw [HR9.out 3 _ (by kernel_rfl) rfl]
                            rw [HR9.out 4 _ (by kernel_rfl) rfl]
                            go_simp
                            all_goals first | exact ⟨rfl, rfl⟩ | rfl
                          · intro o ho vs W g hb hgv hgb hR
                            have HR9 := Lib.hid hR
                            clear hR
                            simp only [List.getElem?_cons_zero, List.getElem?_cons_succ, Option.some.injEq] at ho
                            subst ho
                            try dsimp only
                            rw [HR9.out 0 _ (by kernel_rfl) rfl]
                            rw [hgv]
                            go_simp
                            refine (KD.out W hb g hgb).mono ?_
                            rintro e w6 ⟨rfl, F6, h6, z6, l6⟩
                            exact ⟨rfl, F6, h6, z6, fun R ob hR hob => l6 R ob ⟨hob, NF11.out R hR⟩⟩
                          · intro o ho vs W
                            simp only [List.getElem?_cons_zero, List.getElem?_cons_succ, Option.some.injEq] at ho
                            subst ho
                            try dsimp only
                            go_simp
                            all_goals first | exact ⟨rfl, rfl⟩ | rfl
                          · intro o ho vs W F b hJ hxv hz hR
                            have HR9 := Lib.hid hR
                            clear hR
                            simp only [List.getElem?_cons_zero, List.getElem?_cons_succ, Option.some.injEq] at ho
                            subst ho
                            try dsimp only
                            rw [HR9.out 8 _ (by kernel_rfl) rfl]
                            rw [hxv]
                            obtain ⟨⟨x0, x1, x2⟩, y0, y1, y2⟩ := look3 hz.1
                            go_simp
                            all_goals first | exact ⟨rfl, rfl⟩ | rfl
                          · intro vs w12 F12 g GB hev hgv hxv hGB hJ hz
                            try dsimp only
                            rw [hev 0 _ (by decide) rfl]
                            rw [hev 1 _ (by decide) rfl]
                            rw [hev 2 _ (by decide) rfl]
                            rw [hev 3 _ (by decide) rfl]
                            rw [hev 4 _ (by decide) rfl]
                            rw [hev 6 _ (by decide) rfl]
                            rw [hev 7 _ (by decide) rfl]
                            rw [hev 8 _ (by decide) rfl]
                            rw [hev 9 _ (by decide) rfl]
                            rw [hev 12 _ (by decide) rfl]
                            rw [hgv, hxv]
                            have H12 : Hid (St2 w w.heap.size [(1, s1), (1, s2)] ((GB, (.cells #[.int .i64 uk, .int .i64 0, .string ⟨#[]⟩] 28 (0, 0))) :: ((XB, .cells #[.int .i64 1, .int .i64 (x2.tmod 1000), .string ⟨#[]⟩] 28 (0, 0)) :: (VB, .cells #[.int .i64 8, .int .i64 cc, .string ⟨#[]⟩] 28 (0, 0)) :: [(R1, .cells (vCells t1).toArray 28 (0, 0)), (R2, .cells (vCells t2).toArray 28 (0, 0)), (LA, .cells #[.int .i64 8, .int .i64 0, .string ⟨#[]⟩] 28 (0, 0)), (LB, .cells #[.int .i64 8, .int .i64 1, .string ⟨#[]⟩] 28 (0, 0))])) F12 w12) := Lib.hid ⟨hJ.1, List.forall_mem_cons.2 ⟨hz, hJ.2⟩⟩
                            clear hev hgv hxv hJ hz KD
                            go_upto_region 29 with fail
                            go_cut [170] from 152 to 169 (fun sx wx => sx = .bool false ∧ wx = w12)
                            case first =>
                              rcases HREL.out with ⟨hr0, hr1, e9, -⟩ | ⟨hr0 | hr0, e9, -, -⟩
                              · subst e9
                                have hr2 : ¬ x1 < 0 := by omega
                                go_wp2_with fail
                                go_meet
                                exact ⟨rfl, rfl⟩
                              · subst e9
                                have hr1 : ¬ 0 ≤ x1 := by omega
                                go_wp2_with fail
                                go_meet
                                exact ⟨rfl, rfl⟩
                              · subst e9
                                have hr1 : ¬ x1 < (nn : Int) := by omega
                                have hr2 : ¬ x1 < 0 := by omega
                                have hr3 : 0 ≤ x1 := by omega
                                go_wp2_with fail
                                go_meet
                                exact ⟨rfl, rfl⟩
                            case rest =>
                              obtain ⟨rfl, rfl⟩ := hcut
                              go_upto_if 172 with fail
                              go_cut [] from 171 to 176 (fun wx => ∃ F, St2 w w.heap.size [(1, s1), (1, s2)] [(R1, .cells (vCells s1).toArray 28 (0, 0)), (R2, .cells (vCells s2).toArray 28 (0, 0)), (LA, .cells #[.int .i64 8, .int .i64 0, .string ⟨#[]⟩] 28 (0, 0)), (LB, .cells #[.int .i64 8, .int .i64 1, .string ⟨#[]⟩] 28 (0, 0))] F wx)
                              case first =>
                                rcases HREL.out with ⟨hr0, hr1, e9, ⟨ec, es1, es2⟩ | ⟨ec, es1, es2⟩⟩ | ⟨hr0, e9, es1, es2⟩
                                · subst e9
                                  obtain ⟨e1, e2, e3⟩ : cc = 0 ∧ RR = R1 ∧ nn = m := by
                                    rcases HC.out with ⟨e1, e2, e3⟩ | ⟨e1, e2, e3⟩
                                    · exact ⟨e1, e2, e3⟩
                                    · omega
                                  obtain ⟨⟨a0, a1, a2⟩, -⟩ := look3 (H12.out.at 1 rfl).1
                                  have hx9 : x1.toNat < t1.length := by omega
                                  obtain ⟨⟨y0, y1, y2⟩, f0, f1, f2⟩ := row_at (H12.out.at 3 rfl) x1.toNat hx9
                                  have k1 := (H12.out.drop.drop.drop).put1 (a := x1.toNat) (u := ⟨1, x2.tmod 1000, ⟨#[]⟩⟩) hx9 (by omega) (by omega) (by omega) (by omega)
                                  unfold Hp.set3 at k1
                                  dsimp only at k1
                                  have K := Lib.hid k1
                                  have hr2 : ¬ x1 < 0 := by omega
                                  rw [← e2] at y0 y1 y2 f0 f1 f2
                                  have HE2 := Lib.hid e2
                                  clear k1 e1 e2 e3 ec
                                  go_wp2_with fail
                                  go_meet
                                  have k2 := K.out
                                  rw [← es1, ← es2] at k2
                                  rw [HE2.out]
                                  exact ⟨_, k2⟩
                                · subst e9
                                  obtain ⟨e1, e2, e3⟩ : cc = 1 ∧ RR = R2 ∧ nn = q := by
                                    rcases HC.out with ⟨e1, e2, e3⟩ | ⟨e1, e2, e3⟩
                                    · omega
                                    · exact ⟨e1, e2, e3⟩
                                  obtain ⟨⟨a0, a1, a2⟩, -⟩ := look3 (H12.out.at 1 rfl).1
                                  have hx9 : x1.toNat < t2.length := by omega
                                  obtain ⟨⟨y0, y1, y2⟩, f0, f1, f2⟩ := row_at (H12.out.at 4 rfl) x1.toNat hx9
                                  have k1 := (H12.out.drop.drop.drop).put2 (a := x1.toNat) (u := ⟨1, x2.tmod 1000, ⟨#[]⟩⟩) hx9 (by omega) (by omega) (by omega) (by omega)
                                  unfold Hp.set3 at k1
                                  dsimp only at k1
                                  have K := Lib.hid k1
                                  have hr2 : ¬ x1 < 0 := by omega
                                  rw [← e2] at y0 y1 y2 f0 f1 f2
                                  have HE2 := Lib.hid e2
                                  clear k1 e1 e2 e3 ec
                                  go_wp2_with fail
                                  go_meet
                                  have k2 := K.out
                                  rw [← es2, ← es1] at k2
                                  rw [HE2.out]
                                  exact ⟨_, k2⟩
                                · subst e9
                                  have K := Lib.hid H12.out.drop.drop.drop
                                  go_wp2_with fail
                                  go_meet
                                  have k2 := K.out
                                  rw [es1, es2]
                                  rw [es1, es2] at k2
                                  exact ⟨_, k2⟩
                              case rest =>
                                obtain ⟨F13, h13⟩ := hcut
                                have K := Lib.hid h13
                                have hl1 : s1.length = m := by
                                  rcases HREL.out with ⟨_, _, _, ⟨_, e, _⟩ | ⟨_, e, _⟩⟩ | ⟨_, _, e, _⟩
                                  · rw [e, List.length_set]; exact ht1
                                  · rw [e]; exact ht1
                                  · rw [e]; exact ht1
                                have hl2 : s2.length = q := by
                                  rcases HREL.out with ⟨_, _, _, ⟨_, _, e⟩ | ⟨_, _, e⟩⟩ | ⟨_, _, _, e⟩
                                  · rw [e]; exact ht2
                                  · rw [e, List.length_set]; exact ht2
                                  · rw [e]; exact ht2
                                clear h13 H12
                                go_wp2
                                clear d0' hi0 hi1 h60i hy0 hy1 okx1 D1 D2 p0 p1 p2 r1 r2 NF11 BA11 H11 ok0 ok2 hbl hbw hlc hcm hXB hGB
                                go_loopw [24] (fun x wr => ∃ j : Nat, j ≤ m ∧ x = .int .i64 j ∧ ∃ F, St2 w w.heap.size [(1, s1), (1, s2)] [(R1, .cells (vCells s1).toArray 28 (0, 0)), (R2, .cells (vCells s2).toArray 28 (0, 0)), (LA, .cells #[.int .i64 8, .int .i64 0, .string ⟨#[]⟩] 28 (0, 0)), (LB, .cells #[.int .i64 8, .int .i64 1, .string ⟨#[]⟩] 28 (0, 0))] F wr) (fun x _ => m - (intOf x).toNat)
                                case atStart => exact ⟨0, Nat.zero_le _, rfl, _, K.out⟩
                                case round =>
                                  obtain ⟨j4, hj4, rfl, F20, h20⟩ := hrel
                                  have H20 := Lib.hid h20
                                  clear h20 K
                                  by_cases hlt0 : j4 < m
                                  · obtain ⟨⟨y0k, y0i, y0s⟩, hy0⟩ : ∃ y, s1[((j4 : Int)).toNat]? = some y := ⟨_, List.getElem?_eq_getElem (by omega)⟩
                                    have hji : (j4 : Int) < (m : Int) := by omega
                                    have NF20 : Hid (∀ R, wr.heap.size ≤ R → ¬ F20 R) := Lib.hid (fun R hR e => by have := H20.out.1.lt _ e; omega)
                                    have BA20 := Lib.hid H20.out.1.2.2.size
                                    go_upto_region 36 with fail
                                    have KD := Lib.hid (fun (W : World) (hW : Below wr.heap.size wr W) (g : Nat) (hg : W.heap[g]? = some (.cells (vCells [⟨8, 0, ⟨#[]⟩⟩, ⟨1, (j4 : Int), ⟨#[]⟩⟩]).toArray 28 (0, 0))) =>
                                      (((do_vref 0 ⟨#[]⟩ (j4 : Int) ⟨y0k, y0i, y0s⟩ s1 (by omega) (by omega) (H20.out.below hW).1.1 (H20.out.below hW).1.lt (lit_inP (l := [⟨8, 0, ⟨#[]⟩⟩, ⟨1, (j4 : Int), ⟨#[]⟩⟩]) hg (ok_two ⟨by omega, by omega, by omega, by omega⟩ ⟨by omega, by omega, by omega, by omega⟩) (show 2 ≤ 1000 by decide)) (has_th (m := 2) (show (0 : Int) ≤ 0 by decide) (show (0 : Int) < ((2 : Nat) : Int) by decide)) (show (0 : Int) ≤ 0 by decide) rfl hy0) :
                                        Calls Tryd.prog 13 #[.pointer (some ⟨w.heap.size, 0, none⟩), .string ⟨#[118, 101, 99, 116, 111, 114, 45, 114, 101, 102]⟩, .slice (some ⟨g, 0, none⟩) 2 2] W fun e w' => DoOk W w.heap.size _ ⟨y0k, y0i, y0s⟩ 0 [(1, s1), (1, s2)] e w').mono fun e w' hd => (H20.out.below hW).use hd))
                                    refine wp_do_fr (by kernel_rfl) wr.heap.size (Nat.le_refl _) (fun
                                      | 0 => some (.pointer (some ⟨w.heap.size, 0, none⟩))
                                      | 1 => some (.agg #[.int .i64 8, .int .i64 0, .string ⟨#[]⟩])
                                      | 2 => some (.int .i64 (j4 : Int))
                                      | 3 => some (.agg #[.int .i64 1, .int .i64 (j4 : Int), .string ⟨#[]⟩])
                                      | 5 => some (.tuple #[.agg #[.int .i64 y0k, .int .i64 y0i, .string y0s], .int .i64 0])
                                      | 6 => some (.tuple #[.agg #[.int .i64 y0k, .int .i64 y0i, .string y0s], .int .i64 0])
                                      | 7 => some (.agg #[.int .i64 y0k, .int .i64 y0i, .string y0s])
                                      | 8 => some (.int .i64 0)
                                      | 11 => some (.int .i64 0)
                                      | _ => none) 4 5 9 10 2 [⟨8, 0, ⟨#[]⟩⟩, ⟨1, (j4 : Int), ⟨#[]⟩⟩] ⟨y0k, y0i, y0s⟩ (.tuple #[.agg #[.int .i64 y0k, .int .i64 y0i, .string y0s], .int .i64 0]) (fun F W' => St2 w w.heap.size [(1, s1), (1, s2)] [(R1, .cells (vCells s1).toArray 28 (0, 0)), (R2, .cells (vCells s2).toArray 28 (0, 0)), (LA, .cells #[.int .i64 8, .int .i64 0, .string ⟨#[]⟩] 28 (0, 0)), (LB, .cells #[.int .i64 8, .int .i64 1, .string ⟨#[]⟩] 28 (0, 0))] F W') (by kernel_rfl) ?_ ⟨by decide, by decide, by decide, by decide, by decide, by decide⟩ ⟨by decide, by decide, by decide, by decide⟩ ⟨rfl, rfl, rfl, rfl⟩ (by kernel_rfl) (by kernel_rfl) (by kernel_rfl) (by kernel_rfl) ?_ ?_ ?_
                                    · intro i hi
                                      rcases i with _ | _ | _ | _ | _ | _ | _ | _ | _ | _ | _ | _ | i
                                      all_goals first | exact .inl rfl | exact .inr (.inl rfl) | exact .inr (.inr (.inl rfl)) | exact .inr (.inr (.inr ⟨_, rfl⟩)) | (have h9 : i + 12 < 12 := hi; omega)
                                    · intro F W o h
                                      exact ⟨h.below (al W o), fun hf => by have := h.1.lt _ hf; omega⟩
                                    · intro F W b h hz hb
                                      have hL6 := H20.out.lt
                                      have hB6 := BA20.out
                                      exact (h.set hz (fun x hx => by have := hL6 x hx; omega) (by omega) _ _ _).drop
                                    constructor
                                    refine ⟨?_, ?_, ?_, ?_, ?_, ?_, ?_, ?_⟩
                                    · intro vs
                                      simp only [Rg.putAll, Act.put, List.setIfInBounds_toArray, List.set_cons_zero, List.set_cons_succ, Nat.zero_add, Nat.reduceAdd]
                                      first | done | exact rfl
                                    · intro i o x ho hx hd hw vs W hb hR
                                      obtain ⟨⟨p20, p21, p22⟩, -⟩ := look3 ((H20.out.below hb).at 2 rfl).1
                                      have HR9 := Lib.hid hR
                                      have HW9 := Lib.hid hw
                                      have HX9 := Lib.hid hx
                                      have HD9 := Lib.hid hd
                                      clear hR hw hx hd
                                      rcases i with _ | _ | _ | _ | _ | _ | _ | _ | _ | _ | _ | _ | i
                                      all_goals simp only [List.getElem?_cons_zero, List.getElem?_cons_succ, List.getElem?_nil, Option.some.injEq, reduceCtorEq] at ho
                                      all_goals try subst ho
                                      · obtain rfl : .pointer (some ⟨w.heap.size, 0, none⟩) = x := Option.some.inj HX9.out
                                        try dsimp only
                                        go_simp
                                        all_goals first | exact ⟨rfl, Below.refl _ _⟩ | exact Below.refl _ _
                                      · obtain rfl : .agg #[.int .i64 8, .int .i64 0, .string ⟨#[]⟩] = x := Option.some.inj HX9.out
                                        try dsimp only
                                        go_simp
                                        all_goals first | exact ⟨rfl, Below.refl _ _⟩ | exact Below.refl _ _
                                      · obtain rfl : .int .i64 (j4 : Int) = x := Option.some.inj HX9.out
                                        try dsimp only
                                        go_simp
                                        all_goals first | exact ⟨rfl, Below.refl _ _⟩ | exact Below.refl _ _
                                      · obtain rfl : .agg #[.int .i64 1, .int .i64 (j4 : Int), .string ⟨#[]⟩] = x := Option.some.inj HX9.out
                                        try dsimp only
                                        rw [HR9.out 2 _ (by kernel_rfl) rfl]
                                        go_simp
                                        refine (num_any _ _).mono ?_
                                        rintro e w7 ⟨rfl, hb7⟩
                                        first | exact ⟨rfl, hb7⟩ | exact hb7
                                      · have h9 : (none : Option Value) = some x := HX9.out
                                        cases h9
                                      · exact absurd rfl HD9.out
                                      · exfalso
                                        exact absurd HW9.out (by decide)
                                      · exfalso
                                        exact absurd HW9.out (by decide)
                                      · exfalso
                                        exact absurd HW9.out (by decide)
                                      · have h9 : (none : Option Value) = some x := HX9.out
                                        cases h9
                                      · have h9 : (none : Option Value) = some x := HX9.out
                                        cases h9
                                      · exfalso
                                        exact absurd HW9.out (by decide)
                                    · intro i o x ho hx hd hw vs W hR
                                      have HR9 := Lib.hid hR
                                      have HW9 := Lib.hid hw
                                      have HX9 := Lib.hid hx
                                      have HD9 := Lib.hid hd
                                      clear hR hw hx hd
                                      rcases i with _ | _ | _ | _ | _ | _ | _ | _ | _ | _ | _ | _ | i
                                      all_goals simp only [List.getElem?_cons_zero, List.getElem?_cons_succ, List.getElem?_nil, Option.some.injEq, reduceCtorEq] at ho
                                      all_goals try subst ho
                                      · exfalso
                                        exact absurd (by decide) HW9.out
                                      · exfalso
                                        exact absurd (by decide) HW9.out
                                      · exfalso
                                        exact absurd (by decide) HW9.out
                                      · exfalso
                                        exact absurd (by decide) HW9.out
                                      · have h9 : (none : Option Value) = some x := HX9.out
                                        cases h9
                                      · exact absurd rfl HD9.out
                                      · obtain rfl : .tuple #[.agg #[.int .i64 y0k, .int .i64 y0i, .string y0s], .int .i64 0] = x := Option.some.inj HX9.out
                                        try dsimp only
                                        rw [HR9.out 5 _ (by kernel_rfl) rfl]
                                        go_simp
                                        all_goals first | exact ⟨rfl, rfl⟩ | rfl
                                      · obtain rfl : .agg #[.int .i64 y0k, .int .i64 y0i, .string y0s] = x := Option.some.inj HX9.out
                                        try dsimp only
                                        rw [HR9.out 6 _ (by kernel_rfl) rfl]
                                        go_simp
                                        all_goals first | exact ⟨rfl, rfl⟩ | rfl
                                      · obtain rfl : .int .i64 0 = x := Option.some.inj HX9.out
                                        try dsimp only
                                        rw [HR9.out 6 _ (by kernel_rfl) rfl]
                                        go_simp
                                        all_goals first | exact ⟨rfl, rfl⟩ | rfl
                                      · have h9 : (none : Option Value) = some x := HX9.out
                                        cases h9
                                      · have h9 : (none : Option Value) = some x := HX9.out
                                        cases h9
                                      · obtain rfl : .int .i64 0 = x := Option.some.inj HX9.out
                                        try dsimp only
                                        rw [HR9.out 8 _ (by kernel_rfl) rfl]
                                        go_simp
                                        all_goals first | exact ⟨rfl, rfl⟩ | rfl
                                    · intro o ho vs W hb hR
                                      have HR9 := Lib.hid hR
                                      clear hR
                                      simp only [List.getElem?_cons_zero, List.getElem?_cons_succ, Option.some.injEq] at ho
                                      subst ho
                                      try dsimp only
                                      rw [HR9.out 1 _ (by kernel_rfl) rfl]
                                      rw [HR9.out 3 _ (by kernel_rfl) rfl]
                                      go_simp
                                      all_goals first | exact ⟨rfl, rfl⟩ | rfl
                                    · intro o ho vs W g hb hgv hgb hR
                                      have HR9 := Lib.hid hR
                                      clear hR
                                      simp only [List.getElem?_cons_zero, List.getElem?_cons_succ, Option.some.injEq] at ho
                                      subst ho
                                      try dsimp only
                                      rw [HR9.out 0 _ (by kernel_rfl) rfl]
                                      rw [hgv]
                                      go_simp
                                      refine (KD.out W hb g hgb).mono ?_
                                      rintro e w6 ⟨rfl, F6, h6, z6, l6⟩
                                      exact ⟨rfl, F6, h6, z6, fun R ob hR hob => l6 R ob ⟨hob, NF20.out R hR⟩⟩
                                    · intro o ho vs W
                                      simp only [List.getElem?_cons_zero, List.getElem?_cons_succ, Option.some.injEq] at ho
                                      subst ho
                                      try dsimp only
                                      go_simp
                                      all_goals first | exact ⟨rfl, rfl⟩ | rfl
                                    · intro o ho vs W F b hJ hxv hz hR
                                      have HR9 := Lib.hid hR
                                      clear hR
                                      simp only [List.getElem?_cons_zero, List.getElem?_cons_succ, Option.some.injEq] at ho
                                      subst ho
                                      try dsimp only
                                      rw [HR9.out 7 _ (by kernel_rfl) rfl]
                                      rw [hxv]
                                      obtain ⟨⟨x0, x1, x2⟩, y0, y1, y2⟩ := look3 hz.1
                                      go_simp
                                      all_goals first | exact ⟨rfl, rfl⟩ | rfl
                                    · intro vs w201 F201 g YB0 hev hgv hxv hYB0 hJ hz
                                      try dsimp only
                                      rw [hev 0 _ (by decide) rfl]
                                      rw [hev 1 _ (by decide) rfl]
                                      rw [hev 2 _ (by decide) rfl]
                                      rw [hev 3 _ (by decide) rfl]
                                      rw [hev 5 _ (by decide) rfl]
                                      rw [hev 6 _ (by decide) rfl]
                                      rw [hev 7 _ (by decide) rfl]
                                      rw [hev 8 _ (by decide) rfl]
                                      rw [hev 11 _ (by decide) rfl]
                                      rw [hgv, hxv]
                                      have H201 : Hid (St2 w w.heap.size [(1, s1), (1, s2)] ((YB0, (.cells #[.int .i64 y0k, .int .i64 y0i, .string y0s] 28 (0, 0))) :: [(R1, .cells (vCells s1).toArray 28 (0, 0)), (R2, .cells (vCells s2).toArray 28 (0, 0)), (LA, .cells #[.int .i64 8, .int .i64 0, .string ⟨#[]⟩] 28 (0, 0)), (LB, .cells #[.int .i64 8, .int .i64 1, .string ⟨#[]⟩] 28 (0, 0))]) F201 w201) := Lib.hid ⟨hJ.1, List.forall_mem_cons.2 ⟨hz, hJ.2⟩⟩
                                      clear hev hgv hxv hJ hz KD
                                      obtain ⟨⟨a0, a1, a2⟩, -⟩ := look3 (H201.out.at 0 rfl).1
                                      have hr := row_at (H201.out.at 1 rfl) j4 (by omega)
                                      have hyj : s1[j4]'(by omega) = ⟨y0k, y0i, y0s⟩ := (List.getElem?_eq_some_iff.1 hy0).2
                                      rw [hyj] at hr
                                      obtain ⟨⟨b0, b1, b2⟩, -⟩ := hr
                                      dsimp only at b0 b1 b2
                                      clear hyj hy0
                                      go_upto_region 37 with fail
                                      go_quiet (fail)
                                      go_wp2
                                      exact ⟨⟨j4 + 1, by omega, by go_num, F201, (H201.out.below (Dat.below_drewN (Below.refl _ _) _)).drop⟩, by simp [intOf]; omega⟩
                                  · go_wp2
                                    go_loopw [27] (fun x wr => ∃ j : Nat, j ≤ q ∧ x = .int .i64 j ∧ ∃ F, St2 w w.heap.size [(1, s1), (1, s2)] [(R1, .cells (vCells s1).toArray 28 (0, 0)), (R2, .cells (vCells s2).toArray 28 (0, 0)), (LA, .cells #[.int .i64 8, .int .i64 0, .string ⟨#[]⟩] 28 (0, 0)), (LB, .cells #[.int .i64 8, .int .i64 1, .string ⟨#[]⟩] 28 (0, 0))] F wr) (fun x _ => q - (intOf x).toNat)
                                    case atStart => exact ⟨0, Nat.zero_le _, rfl, _, H20.out⟩
                                    case round =>
                                      obtain ⟨j5, hj5, rfl, F30, h30⟩ := hrel
                                      have H30 := Lib.hid h30
                                      clear h30 H20
                                      by_cases hlt1 : j5 < q
                                      · obtain ⟨⟨y1k, y1i, y1s⟩, hy1⟩ : ∃ y, s2[((j5 : Int)).toNat]? = some y := ⟨_, List.getElem?_eq_getElem (by omega)⟩
                                        have hji : (j5 : Int) < (q : Int) := by omega
                                        have NF30 : Hid (∀ R, wr.heap.size ≤ R → ¬ F30 R) := Lib.hid (fun R hR e => by have := H30.out.1.lt _ e; omega)
                                        have BA30 := Lib.hid H30.out.1.2.2.size
                                        go_upto_region 42 with fail
                                        have KD := Lib.hid (fun (W : World) (hW : Below wr.heap.size wr W) (g : Nat) (hg : W.heap[g]? = some (.cells (vCells [⟨8, 1, ⟨#[]⟩⟩, ⟨1, (j5 : Int), ⟨#[]⟩⟩]).toArray 28 (0, 0))) =>
                                          (((do_vref 1 ⟨#[]⟩ (j5 : Int) ⟨y1k, y1i, y1s⟩ s2 (by omega) (by omega) (H30.out.below hW).1.1 (H30.out.below hW).1.lt (lit_inP (l := [⟨8, 1, ⟨#[]⟩⟩, ⟨1, (j5 : Int), ⟨#[]⟩⟩]) hg (ok_two ⟨by omega, by omega, by omega, by omega⟩ ⟨by omega, by omega, by omega, by omega⟩) (show 2 ≤ 1000 by decide)) (has_th (m := 2) (show (0 : Int) ≤ 1 by decide) (show (1 : Int) < ((2 : Nat) : Int) by decide)) (show (0 : Int) ≤ 1 by decide) rfl hy1) :
                                            Calls Tryd.prog 13 #[.pointer (some ⟨w.heap.size, 0, none⟩), .string ⟨#[118, 101, 99, 116, 111, 114, 45, 114, 101, 102]⟩, .slice (some ⟨g, 0, none⟩) 2 2] W fun e w' => DoOk W w.heap.size _ ⟨y1k, y1i, y1s⟩ 0 [(1, s1), (1, s2)] e w').mono fun e w' hd => (H30.out.below hW).use hd))
                                        refine wp_do_fr (by kernel_rfl) wr.heap.size (Nat.le_refl _) (fun
                                          | 0 => some (.pointer (some ⟨w.heap.size, 0, none⟩))
                                          | 1 => some (.agg #[.int .i64 8, .int .i64 1, .string ⟨#[]⟩])
                                          | 2 => some (.int .i64 (j5 : Int))
                                          | 3 => some (.agg #[.int .i64 1, .int .i64 (j5 : Int), .string ⟨#[]⟩])
                                          | 5 => some (.tuple #[.agg #[.int .i64 y1k, .int .i64 y1i, .string y1s], .int .i64 0])
                                          | 6 => some (.tuple #[.agg #[.int .i64 y1k, .int .i64 y1i, .string y1s], .int .i64 0])
                                          | 7 => some (.agg #[.int .i64 y1k, .int .i64 y1i, .string y1s])
                                          | 8 => some (.int .i64 0)
                                          | 11 => some (.int .i64 0)
                                          | _ => none) 4 5 9 10 2 [⟨8, 1, ⟨#[]⟩⟩, ⟨1, (j5 : Int), ⟨#[]⟩⟩] ⟨y1k, y1i, y1s⟩ (.tuple #[.agg #[.int .i64 y1k, .int .i64 y1i, .string y1s], .int .i64 0]) (fun F W' => St2 w w.heap.size [(1, s1), (1, s2)] [(R1, .cells (vCells s1).toArray 28 (0, 0)), (R2, .cells (vCells s2).toArray 28 (0, 0)), (LA, .cells #[.int .i64 8, .int .i64 0, .string ⟨#[]⟩] 28 (0, 0)), (LB, .cells #[.int .i64 8, .int .i64 1, .string ⟨#[]⟩] 28 (0, 0))] F W') (by kernel_rfl) ?_ ⟨by decide, by decide, by decide, by decide, by decide, by decide⟩ ⟨by decide, by decide, by decide, by decide⟩ ⟨rfl, rfl, rfl, rfl⟩ (by kernel_rfl) (by kernel_rfl) (by kernel_rfl) (by kernel_rfl) ?_ ?_ ?_
                                        · intro i hi
                                          rcases i with _ | _ | _ | _ | _ | _ | _ | _ | _ | _ | _ | _ | i
                                          all_goals first | exact .inl rfl | exact .inr (.inl rfl) | exact .inr (.inr (.inl rfl)) | exact .inr (.inr (.inr ⟨_, rfl⟩)) | (have h9 : i + 12 < 12 := hi; omega)
                                        · intro F W o h
                                          exact ⟨h.below (al W o), fun hf => by have := h.1.lt _ hf; omega⟩
                                        · intro F W b h hz hb
                                          have hL6 := H30.out.lt
                                          have hB6 := BA30.out
                                          exact (h.set hz (fun x hx => by have := hL6 x hx; omega) (by omega) _ _ _).drop
                                        constructor
                                        refine ⟨?_, ?_, ?_, ?_, ?_, ?_, ?_, ?_⟩
                                        · intro vs
                                          simp only [Rg.putAll, Act.put, List.setIfInBounds_toArray, List.set_cons_zero, List.set_cons_succ, Nat.zero_add, Nat.reduceAdd]
                                          first | done | exact rfl
                                        · intro i o x ho hx hd hw vs W hb hR
                                          obtain ⟨⟨p30, p31, p32⟩, -⟩ := look3 ((H30.out.below hb).at 3 rfl).1
                                          have HR9 := Lib.hid hR
                                          have HW9 := Lib.hid hw
                                          have HX9 := Lib.hid hx
                                          have HD9 := Lib.hid hd
                                          clear hR hw hx hd
                                          rcases i with _ | _ | _ | _ | _ | _ | _ | _ | _ | _ | _ | _ | i
                                          all_goals simp only [List.getElem?_cons_zero, List.getElem?_cons_succ, List.getElem?_nil, Option.some.injEq, reduceCtorEq] at ho
                                          all_goals try subst ho
                                          · obtain rfl : .pointer (some ⟨w.heap.size, 0, none⟩) = x := Option.some.inj HX9.out
                                            try dsimp only
                                            go_simp
                                            all_goals first | exact ⟨rfl, Below.refl _ _⟩ | exact Below.refl _ _
                                          · obtain rfl : .agg #[.int .i64 8, .int .i64 1, .string ⟨#[]⟩] = x := Option.some.inj HX9.out
                                            try dsimp only
                                            go_simp
                                            all_goals first | exact ⟨rfl, Below.refl _ _⟩ | exact Below.refl _ _
                                          · obtain rfl : .int .i64 (j5 : Int) = x := Option.some.inj HX9.out
                                            try dsimp only
                                            go_simp
                                            all_goals first | exact ⟨rfl, Below.refl _ _⟩ | exact Below.refl _ _
                                          · obtain rfl : .agg #[.int .i64 1, .int .i64 (j5 : Int), .string ⟨#[]⟩] = x := Option.some.inj HX9.out
                                            try dsimp only
                                            rw [HR9.out 2 _ (by kernel_rfl) rfl]
                                            go_simp
                                            refine (num_any _ _).mono ?_
                                            rintro e w7 ⟨rfl, hb7⟩
                                            first | exact ⟨rfl, hb7⟩ | exact hb7
                                          · have h9 : (none : Option Value) = some x := HX9.out
                                            cases h9
                                          · exact absurd rfl HD9.out
                                          · exfalso
                                            exact absurd HW9.out (by decide)
                                          · exfalso
                                            exact absurd HW9.out (by decide)
                                          · exfalso
                                            exact absurd HW9.out (by decide)
                                          · have h9 : (none : Option Value) = some x := HX9.out
                                            cases h9
                                          · have h9 : (none : Option Value) = some x := HX9.out
                                            cases h9
                                          · exfalso
                                            exact absurd HW9.out (by decide)
                                        · intro i o x ho hx hd hw vs W hR
                                          have HR9 := Lib.hid hR
                                          have HW9 := Lib.hid hw
                                          have HX9 := Lib.hid hx
                                          have HD9 := Lib.hid hd
                                          clear hR hw hx hd
                                          rcases i with _ | _ | _ | _ | _ | _ | _ | _ | _ | _ | _ | _ | i
                                          all_goals simp only [List.getElem?_cons_zero, List.getElem?_cons_succ, List.getElem?_nil, Option.some.injEq, reduceCtorEq] at ho
                                          all_goals try subst ho
                                          · exfalso
                                            exact absurd (by decide) HW9.out
                                          · exfalso
                                            exact absurd (by decide) HW9.out
                                          · exfalso
                                            exact absurd (by decide) HW9.out
                                          · exfalso
                                            exact absurd (by decide) HW9.out
                                          · have h9 : (none : Option Value) = some x := HX9.out
                                            cases h9
                                          · exact absurd rfl HD9.out
                                          · obtain rfl : .tuple #[.agg #[.int .i64 y1k, .int .i64 y1i, .string y1s], .int .i64 0] = x := Option.some.inj HX9.out
                                            try dsimp only
                                            rw [HR9.out 5 _ (by kernel_rfl) rfl]
                                            go_simp
                                            all_goals first | exact ⟨rfl, rfl⟩ | rfl
                                          · obtain rfl : .agg #[.int .i64 y1k, .int .i64 y1i, .string y1s] = x := Option.some.inj HX9.out
                                            try dsimp only
                                            rw [HR9.out 6 _ (by kernel_rfl) rfl]
                                            go_simp
                                            all_goals first | exact ⟨rfl, rfl⟩ | rfl
                                          · obtain rfl : .int .i64 0 = x := Option.some.inj HX9.out
                                            try dsimp only
                                            rw [HR9.out 6 _ (by kernel_rfl) rfl]
                                            go_simp
                                            all_goals first | exact ⟨rfl, rfl⟩ | rfl
                                          · have h9 : (none : Option Value) = some x := HX9.out
                                            cases h9
                                          · have h9 : (none : Option Value) = some x := HX9.out
                                            cases h9
                                          · obtain rfl : .int .i64 0 = x := Option.some.inj HX9.out
                                            try dsimp only
                                            rw [HR9.out 8 _ (by kernel_rfl) rfl]
                                            go_simp
                                            all_goals first | exact ⟨rfl, rfl⟩ | rfl
                                        · intro o ho vs W hb hR
                                          have HR9 := Lib.hid hR
                                          clear hR
                                          simp only [List.getElem?_cons_zero, List.getElem?_cons_succ, Option.some.injEq] at ho
                                          subst ho
                                          try dsimp only
                                          rw [HR9.out 1 _ (by kernel_rfl) rfl]
                                          rw [HR9.out 3 _ (by kernel_rfl) rfl]
                                          go_simp
                                          all_goals first | exact ⟨rfl, rfl⟩ | rfl
                                        · intro o ho vs W g hb hgv hgb hR
                                          have HR9 := Lib.hid hR
                                          clear hR
                                          simp only [List.getElem?_cons_zero, List.getElem?_cons_succ, Option.some.injEq] at ho
                                          subst ho
                                          try dsimp only
                                          rw [HR9.out 0 _ (by kernel_rfl) rfl]
                                          rw [hgv]
                                          go_simp
                                          refine (KD.out W hb g hgb).mono ?_
                                          rintro e w6 ⟨rfl, F6, h6, z6, l6⟩
                                          exact ⟨rfl, F6, h6, z6, fun R ob hR hob => l6 R ob ⟨hob, NF30.out R hR⟩⟩
                                        · intro o ho vs W
                                          simp only [List.getElem?_cons_zero, List.getElem?_cons_succ, Option.some.injEq] at ho
                                          subst ho
                                          try dsimp only
                                          go_simp
                                          all_goals first | exact ⟨rfl, rfl⟩ | rfl
                                        · intro o ho vs W F b hJ hxv hz hR
                                          have HR9 := Lib.hid hR
                                          clear hR
                                          simp only [List.getElem?_cons_zero, List.getElem?_cons_succ, Option.some.injEq] at ho
                                          subst ho
                                          try dsimp only
                                          rw [HR9.out 7 _ (by kernel_rfl) rfl]
                                          rw [hxv]
                                          obtain ⟨⟨x0, x1, x2⟩, y0, y1, y2⟩ := look3 hz.1
                                          go_simp
                                          all_goals first | exact ⟨rfl, rfl⟩ | rfl
                                        · intro vs w301 F301 g YB1 hev hgv hxv hYB1 hJ hz
                                          try dsimp only
                                          rw [hev 0 _ (by decide) rfl]
                                          rw [hev 1 _ (by decide) rfl]
                                          rw [hev 2 _ (by decide) rfl]
                                          rw [hev 3 _ (by decide) rfl]
                                          rw [hev 5 _ (by decide) rfl]
                                          rw [hev 6 _ (by decide) rfl]
                                          rw [hev 7 _ (by decide) rfl]
                                          rw [hev 8 _ (by decide) rfl]
                                          rw [hev 11 _ (by decide) rfl]
                                          rw [hgv, hxv]
                                          have H301 : Hid (St2 w w.heap.size [(1, s1), (1, s2)] ((YB1, (.cells #[.int .i64 y1k, .int .i64 y1i, .string y1s] 28 (0, 0))) :: [(R1, .cells (vCells s1).toArray 28 (0, 0)), (R2, .cells (vCells s2).toArray 28 (0, 0)), (LA, .cells #[.int .i64 8, .int .i64 0, .string ⟨#[]⟩] 28 (0, 0)), (LB, .cells #[.int .i64 8, .int .i64 1, .string ⟨#[]⟩] 28 (0, 0))]) F301 w301) := Lib.hid ⟨hJ.1, List.forall_mem_cons.2 ⟨hz, hJ.2⟩⟩
                                          clear hev hgv hxv hJ hz KD
                                          obtain ⟨⟨a0, a1, a2⟩, -⟩ := look3 (H301.out.at 0 rfl).1
                                          have hr := row_at (H301.out.at 2 rfl) j5 (by omega)
                                          have hyj : s2[j5]'(by omega) = ⟨y1k, y1i, y1s⟩ := (List.getElem?_eq_some_iff.1 hy1).2
                                          rw [hyj] at hr
                                          obtain ⟨⟨b0, b1, b2⟩, -⟩ := hr
                                          dsimp only at b0 b1 b2
                                          clear hyj hy1
                                          go_upto_region 43 with fail
                                          go_quiet (fail)
                                          go_wp2
                                          exact ⟨⟨j5 + 1, by omega, by go_num, F301, (H301.out.below (Dat.below_drewN (Below.refl _ _) _)).drop⟩, by simp [intOf]; omega⟩
                                      · go_wp2
                                        exact ⟨⟨i + 1, by omega, by go_num, F30, s1, s2, H30.out, hl1, hl2⟩, by simp [intOf]; omega⟩
                    · have KN : Hid (Calls Tryd.prog 15 #[.pointer (some ⟨w.heap.size, 0, none⟩)] wr fun e w' => e = .returned (.int .i64 2) ∧ wr = w') := Lib.hid (count_any _ _ _ _ H6.out.1.1)
                      go_wp2_with fail
                      refine KN.out.mono ?_
                      rintro e w7 ⟨rfl, rfl⟩
                      go_wp2
                      go_ret
                      exact ⟨rfl, H6.out.1.2.2⟩
                  · have KN : Hid (Calls Tryd.prog 15 #[.pointer (some ⟨w.heap.size, 0, none⟩)] wr fun e w' => e = .returned (.int .i64 2) ∧ wr = w') := Lib.hid (count_any _ _ _ _ H6.out.1.1)
                    go_wp2_with fail
                    refine KN.out.mono ?_
                    rintro e w7 ⟨rfl, rfl⟩
                    go_wp2
                    go_ret
                    exact ⟨rfl, H6.out.1.2.2⟩
end Go.Proofs.YtcilmfjgbnfcgaaDoor.Hp
