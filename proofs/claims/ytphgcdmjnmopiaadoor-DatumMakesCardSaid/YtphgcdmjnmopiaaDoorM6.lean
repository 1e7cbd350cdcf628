/-
The law DatumMakes of layer 2: the document's Items and SameAll.
-/
import Derived.Test.YtphgcdmjnmopiaaDoorM3
namespace Go.Proofs.YtphgcdmjnmopiaaDoor
open Go.ChangeShapes Go.WideShapes Go.ChangeAt Go.RowKit

/-- A datum's items, and its tail. -/
def itemsL : PT → List PT
  | .mk k _ _ l => if k = 5 then l else if k = 6 then l.dropLast else []
def itemsT : PT → PT
  | .mk k i s l => if k = 5 then .mk 5 0 ⟨#[]⟩ [] else if k = 6 then l.getLast?.getD (.mk k i s l) else .mk k i s l

theorem results_tmp_row {P : Program} {fn : Func} {t p : Tmp} {ty : TypeId} (h : fn.results = #[.tmp t, .cell p ty]) (tmps : Array Value) (w : World) (g : Nat) (t' : TypeId) (cs : Array Value) (fr : Nat × Nat) (d : TypeDesc)
    (hp : tmps.getD p undef = .pointer (some ⟨g, 0, none⟩)) (hg : w.heap[g]? = some (.cells cs t' fr))
    (hu : P.underlying ty = some d) (hd : (match d with | .struct _ | .array _ _ => true | _ => false) = true) (hi : (P.info? ty).map (·.size) = some cs.size) :
    (results fn tmps).run P w = .ok (.tuple #[tmps.getD t undef, .agg cs]) w := by
  have hp' : tmps[p]?.getD undef = .pointer (some ⟨g, 0, none⟩) := by simpa using hp
  simp [results, h, hp', asAddr, run_loadVar_row w g t' ty cs fr d hg hu hd hi]

def ItemsOk (t : PT) (e : Ending) (w' : World) : Prop := ∃ v1 v2, e = .returned (.tuple #[v1, (itemsT t).val v2]) ∧ RepS w' w'.heap.size (itemsL t) v1 ∧ RepV w' w'.heap.size (itemsT t) v2

theorem rep_nil (w : World) (B : Nat) : RepS w B [] (.slice none 0 0) := ⟨none, 0, rfl, Nat.le_refl _, Nat.zero_le _, fun _ => rfl, .inl rfl⟩

set_option maxRecDepth 100000 in
theorem ritems_any (k i : Int) (s : ByteArray) (l : List PT) (v : Value) (w : World) (B : Nat) (hv : RepV w B (.mk k i s l) v) (hB : B ≤ w.heap.size) :
    Calls Tryd.prog 22 #[.agg #[.int .i64 k, .int .i64 i, .string s, v]] w fun e w' => ItemsOk (.mk k i s l) e w' ∧ Below w.heap.size w w' := by
  have HV := Lib.hid hv
  obtain ⟨a, c, e, hl, hm, hna, hr⟩ := hv.2.2.2
  subst e
  unfold maxLen at hm
  clear hv
  have S0 := Lib.hid (St2.first w #[.int .i64 k, .int .i64 i, .string s, .slice a l.length c] #[.int .i64 0, .int .i64 0, .string ⟨#[]⟩, .slice none 0 0])
  rcases (show k = 5 ∨ (k = 6 ∧ l ≠ []) ∨ (k ≠ 5 ∧ (k ≠ 6 ∨ k = 6 ∧ l = [])) by
    by_cases h : l = []
    · by_cases h5 : k = 5
      · exact .inl h5
      · by_cases h6 : k = 6
        · exact .inr (.inr ⟨h5, .inr ⟨h6, h⟩⟩)
        · exact .inr (.inr ⟨h5, .inl h6⟩)
    · by_cases h5 : k = 5
      · exact .inl h5
      · by_cases h6 : k = 6
        · exact .inr (.inl ⟨h6, h⟩)
        · exact .inr (.inr ⟨h5, .inl h6⟩)) with rfl | ⟨rfl, h0⟩ | ⟨k5, k6⟩
  · clear hr hna
    go_enter Tryd.func22, Tryd.ntmps22
    go_wp2
    have S1 := St2.first w #[.int .i64 5, .int .i64 i, .string s, .slice a l.length c] #[.int .i64 5, .int .i64 0, .string ⟨#[]⟩, .slice none 0 0]
    refine bodyPost_ret (results_tmp_row (P := Tryd.prog) (t := 2) (p := 3) rfl _ _ (w.heap.size + 1) 24 _ (0, 0) _ rfl S1.2.2 Tryd.underlying24 rfl (by kernel_rfl)) rfl ?_
    refine ⟨⟨_, .slice none 0 0, rfl, (HV.out.2.2.2.below S1.1 hB).move (Nat.le_trans hB S1.1.size) (fun _ _ _ => rfl), ?_⟩, S1.1⟩
    exact ⟨ok_small (by decide), ok_small (by decide), by decide, rep_nil _ _⟩
  · rcases hr with hr | ⟨b, o, rfl, hb, hr⟩
    · exact absurd hr h0
    obtain ⟨j, hj⟩ : ∃ j, l.length = j + 1 := ⟨l.length - 1, by have := List.length_pos_iff.2 h0; omega⟩
    have hjl : j < l.length := by omega
    obtain ⟨k1, i1, s1, n1, v1, hj1, ok1, ok2, hs1, d0, d1, d2, d3, hv1⟩ := repAt_item (RepAt.below hr S0.out.1 hB hb) hjl
    have HV1 := Lib.hid hv1
    have HR := Lib.hid hr
    obtain ⟨a1, c1', rfl, _⟩ := hv1
    have hlast : l.getLast? = some (.mk k1 i1 s1 n1) := by
      rw [List.getLast?_eq_getElem?, hj, Nat.add_sub_cancel, List.getElem?_eq_getElem hjl, hj1]
    have HL := Lib.hid hlast
    have HJ := Lib.hid hj
    have hpos : (0 : Int) < (l.length : Int) := by omega
    have hm1 : (l.length : Int) - 1 = (j : Int) := by omega
    have hjc : j ≤ c := by omega
    clear hr hlast hj hj1 h0
    go_enter Tryd.func22, Tryd.ntmps22
    go_wp2
    go_region
    all_goals
      go_wp2
      have S1 := (St2.first w #[.int .i64 6, .int .i64 i, .string s, .slice (some ⟨b, o, none⟩) l.length c] #[.int .i64 k1, .int .i64 i1, .string s1, .slice a1 n1.length c1']).drew
      refine bodyPost_ret (results_tmp_row (P := Tryd.prog) (t := 2) (p := 3) rfl _ _ (w.heap.size + 1) 24 _ (0, 0) _ rfl S1.2.2 Tryd.underlying24 rfl (by kernel_rfl)) rfl ?_
      have eT : itemsT (.mk 6 i s l) = .mk k1 i1 s1 n1 := by rw [itemsT, if_neg (by decide), if_pos rfl, HL.out]; rfl
      have eL : itemsL (.mk 6 i s l) = l.take j := by rw [itemsL, if_neg (by decide), if_pos rfl, List.dropLast_eq_take, HJ.out]; rfl
      have hlen : (l.take j).length = j := by rw [List.length_take]; omega
      refine ⟨⟨.slice (some ⟨b, o, none⟩) j c, .slice a1 n1.length c1', ?_, ?_, ?_⟩, S1.1⟩
      · rw [eT]
        rfl
      · rw [eL]
        have h1 := repAt_take j (HR.out.below S1.1 hB hb)
        exact ⟨some ⟨b, o, none⟩, c, by rw [hlen], by omega, by unfold maxLen; omega, (fun h => by cases h), .inr ⟨b, o, rfl, by have := S1.1.size; omega, h1.move (Nat.le_trans hB S1.1.size) (fun _ _ _ => rfl) _ hb⟩⟩
      · rw [eT]
        exact ⟨ok1, ok2, hs1, HV1.out.move (Nat.le_trans hB S1.1.size) fun b o hb => by
          have h0 := S0.out.1
          have h1 := S1.1
          rw [h1.cell (p := ⟨b, o, none⟩) (by show b < _; omega), h0.cell (p := ⟨b, o, none⟩) (by show b < _; omega)]⟩
  · have eT : itemsT (.mk k i s l) = .mk k i s l := by
      rw [itemsT, if_neg k5]
      rcases k6 with k6 | ⟨rfl, rfl⟩
      · rw [if_neg k6]
      · rw [if_pos rfl]; rfl
    have eL : itemsL (.mk k i s l) = [] := by
      rw [itemsL, if_neg k5]
      rcases k6 with k6 | ⟨rfl, rfl⟩
      · rw [if_neg k6]
      · rw [if_pos rfl]; rfl
    have S1 := (St2.first w #[.int .i64 k, .int .i64 i, .string s, .slice a l.length c] #[.int .i64 k, .int .i64 i, .string s, .slice a l.length c]).drew
    have hend : ItemsOk (.mk k i s l) (.returned (.tuple #[.slice none 0 0, .agg #[.int .i64 k, .int .i64 i, .string s, .slice a l.length c]])) ((w.alloc (.cells #[.int .i64 k, .int .i64 i, .string s, .slice a l.length c] 24)).alloc (.cells #[.int .i64 k, .int .i64 i, .string s, .slice a l.length c] 24)).drew := by
      refine ⟨.slice none 0 0, .slice a l.length c, by rw [eT]; rfl, by rw [eL]; exact rep_nil _ _, ?_⟩
      rw [eT]
      exact (HV.out.below S1.1 hB).mono (Nat.le_trans hB S1.1.size)
    have HE := Lib.hid hend
    have HS1 := Lib.hid S1
    have k5' : (k == 5) = false := by simpa using k5
    clear hend S1 eT eL hr k5 hna
    rcases k6 with k6 | ⟨rfl, rfl⟩
    · have k6' : (k == 6) = false := by simpa using k6
      clear k6
      go_enter Tryd.func22, Tryd.ntmps22
      go_wp2
      go_region
      all_goals
        go_wp2
        exact bodyPost_ret (results_tmp_row (P := Tryd.prog) (t := 2) (p := 3) rfl _ _ (w.heap.size + 1) 24 _ (0, 0) _ rfl HS1.out.2.2 Tryd.underlying24 rfl (by kernel_rfl)) rfl (show ItemsOk _ _ _ ∧ _ from ⟨HE.out, HS1.out.1⟩)
    · go_enter Tryd.func22, Tryd.ntmps22
      go_wp2
      go_region
      all_goals
        go_wp2
        exact bodyPost_ret (results_tmp_row (P := Tryd.prog) (t := 2) (p := 3) rfl _ _ (w.heap.size + 1) 24 _ (0, 0) _ rfl HS1.out.2.2 Tryd.underlying24 rfl (by kernel_rfl)) rfl (show ItemsOk _ _ _ ∧ _ from ⟨HE.out, HS1.out.1⟩)

theorem samePT_mk5 (l m : List PT) : sameB (.mk 0 0 ⟨#[]⟩ l) (.mk 0 0 ⟨#[]⟩ m) = samesB l m := by
  simp [sameB, samesB]
/-- The document's SameAll. -/
theorem sameAll_any (l m : List PT) (va vb : Value) (w : World) (B : Nat) (ha : RepS w B l va) (hb : RepS w B m vb) (hB : B ≤ w.heap.size) :
    Calls Tryd.prog 24 #[va, vb] w fun e w' => e = .returned (.bool (samesB l m)) ∧ Below w.heap.size w w' := by
  have C := same_any (.mk 0 0 ⟨#[]⟩ l) (.mk 0 0 ⟨#[]⟩ m) w B va vb ⟨ok_small (by decide), ok_small (by decide), by decide, ha⟩ ⟨ok_small (by decide), ok_small (by decide), by decide, hb⟩ hB
  rw [samePT_mk5] at C
  obtain ⟨a, c, rfl, _⟩ := ha
  obtain ⟨b, d, rfl, _⟩ := hb
  have HC := Lib.hid C
  clear C
  generalize samesB l m = q at HC ⊢
  go_enter Tryd.func24, Tryd.ntmps24
  go_wp2_with fail
  refine HC.out.mono ?_
  rintro e w1 ⟨rfl, hb1⟩
  go_wp2
  go_ret
  exact ⟨rfl, hb1⟩
end Go.Proofs.YtphgcdmjnmopiaaDoor
