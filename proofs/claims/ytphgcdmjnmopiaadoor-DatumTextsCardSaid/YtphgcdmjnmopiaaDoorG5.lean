/-
The document's text and show of a datum: dotted data, and all of it: what Text answers, for every datum all of whose own fields may be. A text of at most 100000000 bytes.
-/
import Derived.Test.YtphgcdmjnmopiaaDoorG4
namespace Go.Proofs.YtphgcdmjnmopiaaDoor
open Go.ChangeShapes Go.WideShapes Go.ChangeAt Go.RowKit

/-- What has been written of a dotted datum behind j items. -/
def dotJ (ts : List (List UInt8)) (j : Nat) : List UInt8 := if j = ts.length then joinT ts.dropLast ++ ([32, 46, 32] ++ ts.getLast?.getD []) else joinT (ts.take j)

theorem dotJ_less (ts : List (List UInt8)) (j : Nat) (h : j < ts.length) : dotJ ts j = joinT (ts.take j) := by rw [dotJ, if_neg (by omega)]
theorem dotJ_last (ts : List (List UInt8)) (h : 2 ≤ ts.length) : dotJ ts (ts.length - 1 + 1) = joinT (ts.take (ts.length - 1)) ++ ([32] ++ ([46, 32] ++ ts[ts.length - 1]'(by omega))) := by
  rw [dotJ, if_pos (by omega), List.dropLast_eq_take, List.getLast?_eq_getElem?, List.getElem?_eq_getElem (by omega)]
  rfl

set_option maxHeartbeats 2000000 in
theorem rtext_dotted (bare : Bool) (i : Int) (s : ByteArray) (l : List PT) (ih : ∀ t ∈ l, RTextOk bare t) (b o c : Nat) (w : World) (B : Nat) (hB : B ≤ w.heap.size) (hl : l.length ≤ c) (hm : c ≤ maxLen) (hb : b < B) (hr : RepAt w B l b o) (hf : FormsOk l) (hroom : roomsT l ≤ 100000000) (hn : 2 ≤ l.length)
    (tx : List UInt8) (htx : tx = [40] ++ (dotJ (textsT bare l) l.length ++ [41])) :
    Calls Tryd.prog 16 #[.agg #[.int .i64 6, .int .i64 i, .string s, .slice (some ⟨b, o, none⟩) l.length c], .bool bare] w fun e w' => e = .returned (.string ⟨tx.toArray⟩) ∧ Below w.heap.size w w' := by
  have HX := Lib.hid htx
  have IH := Lib.hid ih
  have HR := Lib.hid hr
  have HF := Lib.hid hf
  unfold maxLen at hm
  have X0 := Lib.hid (new_cell w #[.int .i64 6, .int .i64 i, .string s, .slice (some ⟨b, o, none⟩) l.length c] 24 0 _ rfl)
  have X3 := Lib.hid (new_cell w #[.int .i64 6, .int .i64 i, .string s, .slice (some ⟨b, o, none⟩) l.length c] 24 3 _ rfl)
  have hb0 := fun o1 : Obj => ((Below.refl w.heap.size w).alloc (Nat.le_refl _) o1)
  have HTL := Lib.hid (textsT_len bare l)
  clear htx ih hr hf
  go_enter Tryd.func16, Tryd.ntmps16
  go_wp2
  go_loopw [5, 6] (fun x ix wr => ∃ (j : Nat) (out : ByteArray), j ≤ l.length ∧ ix = .int .i64 j ∧ x = .string out ∧ out.data.toList = [40] ++ dotJ (textsT bare l) j ∧ (j < l.length ∨ out.size ≤ 300000000) ∧ wr.cell? ⟨w.heap.size, 0, none⟩ = some (.int .i64 6) ∧ wr.cell? ⟨w.heap.size, 3, none⟩ = some (.slice (some ⟨b, o, none⟩) l.length c) ∧ Below w.heap.size w wr) (fun _ ix _ => l.length - (intOf ix).toNat)
  case atStart => exact ⟨0, _, Nat.zero_le _, rfl, rfl, by rw [dotJ_less _ _ (by rw [textsT_len]; omega)]; rfl, .inl (by omega), X0.out, X3.out, hb0 _⟩
  case round =>
    obtain ⟨j, out, hj, rfl, rfl, ho, hos, hx0, hx3, hbr⟩ := hrel
    have HO := Lib.hid ho
    have hsx : w.heap.size < wr.heap.size := World.block_lt_of_cell? _ _ hx3
    by_cases hlt : j < l.length
    · have hsz : out.size ≤ 100000100 := by
        have h1 := row_room bare l j HF.out
        have h2 := congrArg List.length ho
        have h3 : roomsT (l.take j) ≤ roomsT l := roomsT_le l j
        rw [len_data, dotJ_less _ _ (by rw [textsT_len]; omega)] at h2
        simp only [List.length_append, List.length_cons, List.length_nil] at h2
        omega
      obtain ⟨k1, i1, s1, n1, v1, hj1, ok1, ok2, hs1, d0, d1, d2, d3, hv1⟩ := repAt_item (RepAt.below HR.out hbr hB hb) hlt
      have hget := roomsT_get l j hlt
      have htx := textsT_get bare l j hlt
      have hF1 := formsOk_get HF.out l[j] (List.getElem_mem _)
      have hL := IH.out l[j] (List.getElem_mem _)
      rw [hj1] at htx hF1 hL hget
      have hlen := textT_len bare _ hF1
      have hbs1 : b < wr.heap.size := World.block_lt_of_cell? _ _ d0
      have HV1 := Lib.hid hv1
      obtain ⟨a1, c1', rfl, _⟩ := hv1
      have HC := Lib.hid (hL wr B (.slice a1 n1.length c1') ⟨ok1, ok2, hs1, HV1.out⟩ (by omega) hF1 (by omega))
      have htl : (textT bare (.mk k1 i1 s1 n1)).length ≤ 100000000 := by omega
      have HTX := Lib.hid htx
      clear htx hF1 hL hj1 hget hlen ho hos
      by_cases hj0 : j = 0
      · have hj0' : ¬ (0 : Int) < (j : Int) := by omega
        have hje : ((j : Int) == (l.length : Int) - 1) = false := by simp; omega
        have HJ := Lib.hid hj0
        clear hj0
        go_wp2_with fail
        refine HC.out.mono ?_
        rintro e w2 ⟨rfl, hb2⟩
        have hbr2 : Below w.heap.size w w2 := hbr.trans (hb2.mono hbr.size)
        have y0 := (hb2.cell (p := ⟨w.heap.size, 0, none⟩) hsx).trans hx0
        have y3 := (hb2.cell (p := ⟨w.heap.size, 3, none⟩) hsx).trans hx3
        clear hb2
        go_wp2
        go_roundw
        case rel =>
          have hz := HJ.out
          refine ⟨j + 1, _, by omega, by go_num, rfl, ?_, .inl (by omega), y0, y3, hbr2⟩
          have e0 := HO.out
          subst hz
          simp only [ByteArray.data_append, Array.toList_append]
          rw [e0, dotJ_less _ _ (by rw [textsT_len]; omega), dotJ_less _ _ (by rw [textsT_len]; omega), joinT_take0 _ (by rw [textsT_len]; omega), HTX.out]
          simp [joinT]
        case measure => simp [intOf]; omega
      · have hj0' : (0 : Int) < (j : Int) := by omega
        by_cases hjn : j = l.length - 1
        · have hje : ((j : Int) == (l.length : Int) - 1) = true := by simp; omega
          have HJ := Lib.hid hjn
          clear hjn
          go_wp2_with fail
          refine HC.out.mono ?_
          rintro e w2 ⟨rfl, hb2⟩
          have hbr2 : Below w.heap.size w w2 := hbr.trans (hb2.mono hbr.size)
          have y0 := (hb2.cell (p := ⟨w.heap.size, 0, none⟩) hsx).trans hx0
          have y3 := (hb2.cell (p := ⟨w.heap.size, 3, none⟩) hsx).trans hx3
          clear hb2
          go_wp2
          go_roundw
          case rel =>
            have hz := HJ.out
            refine ⟨j + 1, _, by omega, by go_num, rfl, ?_, .inr ?_, y0, y3, hbr2⟩
            · have e0 := HO.out
              simp only [ByteArray.data_append, Array.toList_append]
              have hj2 : j = (textsT bare l).length - 1 := by rw [textsT_len]; exact hz
              have hd := dotJ_last (textsT bare l) (by rw [textsT_len]; omega)
              simp only [← hj2] at hd
              rw [e0, dotJ_less _ _ (by rw [textsT_len]; omega), hd, HTX.out]
              simp
            · simp only [ByteArray.size_append]
              have : (ByteArray.mk (textT bare (.mk k1 i1 s1 n1)).toArray).size = (textT bare (.mk k1 i1 s1 n1)).length := by simp [ByteArray.size]
              rw [this]
              show out.size + 1 + 2 + _ ≤ _
              omega
          case measure => simp [intOf]; omega
        · have hje : ((j : Int) == (l.length : Int) - 1) = false := by simp; omega
          go_wp2_with fail
          refine HC.out.mono ?_
          rintro e w2 ⟨rfl, hb2⟩
          have hbr2 : Below w.heap.size w w2 := hbr.trans (hb2.mono hbr.size)
          have y0 := (hb2.cell (p := ⟨w.heap.size, 0, none⟩) hsx).trans hx0
          have y3 := (hb2.cell (p := ⟨w.heap.size, 3, none⟩) hsx).trans hx3
          clear hb2
          go_wp2
          go_roundw
          case rel =>
            refine ⟨j + 1, _, by omega, by go_num, rfl, ?_, .inl (by omega), y0, y3, hbr2⟩
            have e0 := HO.out
            simp only [ByteArray.data_append, Array.toList_append]
            rw [e0, dotJ_less _ _ (by rw [textsT_len]; omega), dotJ_less _ _ (by rw [textsT_len]; omega), joinT_take _ j (by omega) (by rw [textsT_len]; omega), HTX.out]
            simp
          case measure => simp [intOf]; omega
    · obtain rfl : j = l.length := by omega
      have hsz : out.size ≤ 300000000 := hos.resolve_left (by omega)
      have hfin : (out ++ ByteArray.mk #[41]).data.toList = tx := by
        simp only [ByteArray.data_append, Array.toList_append]
        rw [HO.out, HX.out]
        simp
      have HFI := Lib.hid hfin
      clear hfin hos ho
      go_wp2
      go_ret
      exact ⟨ret_str HFI.out, hbr⟩

theorem rtext_step (bare : Bool) (k i : Int) (s : ByteArray) (l : List PT) (ih : ∀ t ∈ l, RTextOk bare t) : RTextOk bare (.mk k i s l) := by
  intro w B v hv hB hf hroom
  obtain ⟨ok1, ok2, hs, hv⟩ := hv
  rw [FormOk] at hf
  rw [roomT] at hroom
  rw [textT]
  obtain ⟨hf1, hf2⟩ := hf
  show Calls Tryd.prog 16 #[.agg #[.int .i64 k, .int .i64 i, .string s, v], .bool bare] w _
  rcases kind_ways k with (rfl | rfl | rfl) | rfl | rfl | hk | rfl | hk
  · exact rtext_bool bare i s v w _ rfl
  · exact rtext_int bare i ok2 s v w
  · have hb : 0 ≤ i ∧ i ≤ 255 := by
      unfold formB at hf1
      simp at hf1
      omega
    have e : ((UInt8.ofNat i.toNat).toNat : Int) = i := by simp; omega
    have := rtext_char bare (UInt8.ofNat i.toNat) s v w
    rw [e] at this
    exact this
  · exact rtext_string bare i s (by have := form_size hf1; omega) v w
  · exact rtext_symbol bare i s v w
  · obtain ⟨a, c, rfl, hl, hm, hna, hr⟩ := hv
    rcases hr with rfl | ⟨b, o, rfl, hb, hr⟩
    · refine rtext_none bare k i hk s a c w _ ?_
      rcases hk with rfl | rfl <;> rfl
    · refine rtext_items bare k i hk s l ih b o c w B hB hl hm hb hr hf2 (by omega) _ ?_
      rcases hk with rfl | rfl <;> simp [shapeT]
  · have hn : 2 ≤ l.length := by
      unfold formB at hf1
      simp at hf1
      omega
    obtain ⟨a, c, rfl, hl, hm, hna, hr⟩ := hv
    rcases hr with rfl | ⟨b, o, rfl, hb, hr⟩
    · simp at hn
    · refine rtext_dotted bare i s l ih b o c w B hB hl hm hb hr hf2 (by omega) hn _ ?_
      rw [dotJ, if_pos (textsT_len bare l).symm]
      simp [shapeT]
  · exfalso
    have : formB k i s.data.toList l = false := by
      unfold formB
      repeat (rw [if_neg (by omega)])
    rw [this] at hf1
    cases hf1

mutual
theorem rtext_any (bare : Bool) : ∀ t : PT, RTextOk bare t
  | .mk k i s l => rtext_step bare k i s l (rtext_all bare l)
theorem rtext_all (bare : Bool) : ∀ l : List PT, ∀ t ∈ l, RTextOk bare t
  | [], t, h => by cases h
  | u :: l, t, h => (List.mem_cons.1 h).elim (fun e => e ▸ rtext_any bare u) (fun h => rtext_all bare l t h)
end
end Go.Proofs.YtphgcdmjnmopiaaDoor
