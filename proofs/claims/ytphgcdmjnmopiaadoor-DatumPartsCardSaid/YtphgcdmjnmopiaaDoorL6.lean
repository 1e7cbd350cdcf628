/-
The law DatumParts of layer 2: its walk. Where the table of tens is as the program lays it.
-/
import Derived.Test.YtphgcdmjnmopiaaDoorF1
namespace Go.Proofs.YtphgcdmjnmopiaaDoor
open Go.ChangeShapes Go.WideShapes Go.ChangeAt Go.RowKit

theorem parts_bad (l : List PT) (v : Value) (w : World) (hv : RepS w w.heap.size l v) (htab : TabOk w) (hc : checkB (.mk 5 0 ⟨#[]⟩ l) ≠ 0) :
    Calls Tryd.prog 8 #[v] w fun e w' => e = .returned (.bool true) ∧ Below w.heap.size w w' := by
  have h2 : 2 ≤ w.heap.size := by obtain ⟨T, fr, h⟩ := htab; have := lt_of_block h; omega
  have C1 : ∀ W, Below w.heap.size w W → Calls Tryd.prog 14 #[.agg #[.int .i64 5, .int .i64 0, .string ⟨#[]⟩, v]] W fun e w' => e = .returned (.tuple #[.string ⟨#[]⟩, .int .i64 (checkB (.mk 5 0 ⟨#[]⟩ l))]) ∧ Below W.heap.size W w' := fun W h => by
    have := text_any (.mk 5 0 ⟨#[]⟩ l) v W w.heap.size ⟨ok_small (by decide), ok_small (by decide), by decide, hv.below h (Nat.le_refl _)⟩ h.size (by have := h.size; omega) (tabOk_below htab h h2)
    rw [toldT, if_neg hc] at this
    exact this
  have C2 : ∀ W, Below w.heap.size w W → Calls Tryd.prog 14 #[.agg #[.int .i64 7, .int .i64 0, .string ⟨#[]⟩, v]] W fun e w' => e = .returned (.tuple #[.string ⟨#[]⟩, .int .i64 (checkB (.mk 5 0 ⟨#[]⟩ l))]) ∧ Below W.heap.size W w' := fun W h => by
    have := text_any (.mk 7 0 ⟨#[]⟩ l) v W w.heap.size ⟨ok_small (by decide), ok_small (by decide), by decide, hv.below h (Nat.le_refl _)⟩ h.size (by have := h.size; omega) (tabOk_below htab h h2)
    rw [toldT, check_vec, if_neg hc] at this
    exact this
  have C9 := Lib.hid (fun W (h : Below w.heap.size w W) => fixed_any W (by have := h.size; omega) (tabOk_below htab h h2))
  generalize checkB (.mk 5 0 ⟨#[]⟩ l) = r at *
  have hr : (r != 0) = true := by simpa using hc
  have H1 := Lib.hid C1
  have H2 := Lib.hid C2
  obtain ⟨a, c, rfl, _⟩ := hv
  clear C1 C2 hc htab
  go_enter Tryd.func8, Tryd.ntmps8
  go_wp2_with fail
  refine (H1.out _ (Below.refl _ _)).mono ?_
  rintro e w1 ⟨rfl, hb1⟩
  go_wp2_with fail
  refine (H2.out _ hb1).mono ?_
  rintro e w2 ⟨rfl, hb2⟩
  have hb2' : Below w.heap.size w w2 := hb1.trans (hb2.mono hb1.size)
  clear hb1 hb2
  go_wp2_with fail
  refine (C9.out _ hb2').mono ?_
  rintro e w3 ⟨rfl, hb3⟩
  have hb3' : Below w.heap.size w w3 := hb2'.trans (hb3.mono hb2'.size)
  clear hb3
  go_wp2
  go_ret
  exact ⟨rfl, hb3'⟩

theorem parts_good (l : List PT) (v : Value) (w : World) (hv : RepS w w.heap.size l v) (htab : TabOk w) (hc : checkB (.mk 5 0 ⟨#[]⟩ l) = 0) :
    Calls Tryd.prog 8 #[v] w fun e w' => e = .returned (.bool true) ∧ Below w.heap.size w w' := by
  have h2 : 2 ≤ w.heap.size := by obtain ⟨T, fr, h⟩ := htab; have := lt_of_block h; omega
  have C1 : ∀ W, Below w.heap.size w W → Calls Tryd.prog 14 #[.agg #[.int .i64 5, .int .i64 0, .string ⟨#[]⟩, v]] W fun e w' => e = .returned (.tuple #[.string ⟨(textT false (.mk 5 0 ⟨#[]⟩ l)).toArray⟩, .int .i64 0]) ∧ Below W.heap.size W w' := fun W h => by
    have := text_any (.mk 5 0 ⟨#[]⟩ l) v W w.heap.size ⟨ok_small (by decide), ok_small (by decide), by decide, hv.below h (Nat.le_refl _)⟩ h.size (by have := h.size; omega) (tabOk_below htab h h2)
    rw [toldT, if_pos hc, hc] at this
    exact this
  have C2 : ∀ W, Below w.heap.size w W → Calls Tryd.prog 14 #[.agg #[.int .i64 7, .int .i64 0, .string ⟨#[]⟩, v]] W fun e w' => e = .returned (.tuple #[.string ⟨([35] ++ textT false (.mk 5 0 ⟨#[]⟩ l)).toArray⟩, .int .i64 0]) ∧ Below W.heap.size W w' := fun W h => by
    have := text_any (.mk 7 0 ⟨#[]⟩ l) v W w.heap.size ⟨ok_small (by decide), ok_small (by decide), by decide, hv.below h (Nat.le_refl _)⟩ h.size (by have := h.size; omega) (tabOk_below htab h h2)
    rw [toldT, check_vec, if_pos hc, hc, vec_text] at this
    exact this
  have C9 := Lib.hid (fun W (h : Below w.heap.size w W) => fixed_any W (by have := h.size; omega) (tabOk_below htab h h2))
  have HT := Lib.hid (list_text false l)
  generalize textT false (.mk 5 0 ⟨#[]⟩ l) = tx at C1 C2 HT
  have hok := check_ok _ hc
  rw [FormOk, roomT] at hok
  have H1 := Lib.hid C1
  have H2 := Lib.hid C2
  have HV := Lib.hid hv
  have HC := Lib.hid hc
  have HTab := Lib.hid htab
  have HOK := Lib.hid hok
  clear hok
  obtain ⟨a, c, rfl, hl, hm, hna, hr⟩ := hv
  unfold maxLen at hm
  clear C1 C2 hc htab
  go_enter Tryd.func8, Tryd.ntmps8
  go_wp2_with fail
  refine (H1.out _ (Below.refl _ _)).mono ?_
  rintro e w1 ⟨rfl, hb1⟩
  go_wp2_with fail
  refine (H2.out _ hb1).mono ?_
  rintro e w2 ⟨rfl, hb2⟩
  have hb2' : Below w.heap.size w w2 := hb1.trans (hb2.mono hb1.size)
  clear hb1 hb2
  go_wp2_with fail
  refine (C9.out _ hb2').mono ?_
  rintro e w3 ⟨rfl, hb3⟩
  have hb3' : Below w.heap.size w w3 := hb2'.trans (hb3.mono hb2'.size)
  clear hb3 hb2'
  go_wp2
  go_loopw [7, 8] (fun x ix wr => ∃ (j : Nat) (wt : ByteArray), j ≤ l.length ∧ ix = .int .i64 j ∧ x = .string wt ∧ wt.data.toList = [40] ++ joinT ((textsT false l).take j) ∧ Below w.heap.size w wr) (fun _ i _ => l.length - (intOf i).toNat)
  case atStart => exact ⟨0, _, Nat.zero_le _, rfl, rfl, rfl, hb3'⟩
  case round =>
    obtain ⟨j, wt, hj, rfl, rfl, hwt, hbr⟩ := hrel
    have HW := Lib.hid hwt
    clear hwt
    by_cases hlt : j < l.length
    · rcases hr with rfl | ⟨b, o, rfl, hb, hr⟩
      · simp at hlt
      obtain ⟨k1, i1, s1, n1, v1, hj1, ok1, ok2, hs1, d0, d1, d2, d3, hv1⟩ := repAt_item (RepAt.below hr hbr (Nat.le_refl _) hb) hlt
      have hci : checkB (.mk k1 i1 s1 n1) = 0 := by
        have := check_items l HC.out l[j] (List.getElem_mem _)
        rwa [hj1] at this
      have htx := textsT_get false l j hlt
      rw [hj1] at htx
      have HV1 := Lib.hid hv1
      have HX := Lib.hid htx
      have HR := Lib.hid hr
      have hbs1 : b < wr.heap.size := World.block_lt_of_cell? _ _ d0
      obtain ⟨a1, c1', rfl, _⟩ := hv1
      have CT : Calls Tryd.prog 14 #[.agg #[.int .i64 k1, .int .i64 i1, .string s1, .slice a1 n1.length c1']] wr fun e w' => e = .returned (.tuple #[.string ⟨(textT false (.mk k1 i1 s1 n1)).toArray⟩, .int .i64 0]) ∧ Below wr.heap.size wr w' := by
        have := text_any (.mk k1 i1 s1 n1) (.slice a1 n1.length c1') wr w.heap.size ⟨ok1, ok2, hs1, HV1.out⟩ hbr.size (by have := hbr.size; omega) (tabOk_below HTab.out hbr h2)
        rw [toldT, if_pos hci, hci] at this
        exact this
      have HCT := Lib.hid CT
      clear CT hci htx hj1 hr
      have hsz1 : wt.size ≤ 70000000 := by
        have h1 := row_room false l j HOK.out.1.2
        have h2 := roomsT_get l j hlt
        have h3 := HOK.out.2
        have h4 := congrArg List.length HW.out
        rw [len_data] at h4
        simp only [List.length_append, List.length_cons, List.length_nil] at h4
        omega
      have hsz2 : (textT false (.mk k1 i1 s1 n1)).length ≤ 70000000 := by
        have h2 := roomsT_get l j hlt
        have hm : FormOk l[j] := formsOk_get HOK.out.1.2 _ (List.getElem_mem _)
        have h1 := textT_len false _ hm
        have h3 := HOK.out.2
        rw [← HX.out, textsT_get false l j hlt]
        omega
      have hjl : j < l.length := hlt
      by_cases hj0 : j = 0
      · have hj0' : ¬ (0 : Int) < (j : Int) := by omega
        have HJ := Lib.hid hj0
        clear hj0
        go_wp2_with fail
        refine HCT.out.mono ?_
        rintro e w4 ⟨rfl, hb4⟩
        have hbr4 : Below w.heap.size w w4 := hbr.trans (hb4.mono hbr.size)
        clear hb4
        go_wp2
        go_roundw
        case rel =>
          refine ⟨j + 1, _, by omega, by go_num, rfl, ?_, hbr4⟩
          have e0 := HW.out
          have hz := HJ.out
          subst hz
          simp only [ByteArray.data_append, Array.toList_append]
          rw [e0, joinT_take0 _ (by rw [textsT_len]; omega), HX.out]
          simp [joinT]
        case measure => simp [intOf]; omega
      · have hj0' : (0 : Int) < (j : Int) := by omega
        go_wp2_with fail
        refine HCT.out.mono ?_
        rintro e w4 ⟨rfl, hb4⟩
        have hbr4 : Below w.heap.size w w4 := hbr.trans (hb4.mono hbr.size)
        clear hb4
        go_wp2
        go_roundw
        case rel =>
          refine ⟨j + 1, _, by omega, by go_num, rfl, ?_, hbr4⟩
          have e0 := HW.out
          simp only [ByteArray.data_append, Array.toList_append]
          rw [e0, joinT_take _ j (by omega) (by rw [textsT_len]; omega), HX.out]
          simp
        case measure => simp [intOf]; omega
    · obtain rfl : j = l.length := by omega
      have hfin : wt.data.toList = [40] ++ joinT (textsT false l) := by
        have := HW.out
        rwa [List.take_of_length_le (by rw [textsT_len]; omega)] at this
      have HFI := Lib.hid hfin
      have hsz1 : wt.size ≤ 70000000 := by
        have h1 := row_room false l l.length HOK.out.1.2
        rw [List.take_length] at h1
        have h3 := HOK.out.2
        have h4 := congrArg List.length HW.out
        rw [len_data] at h4
        simp only [List.length_append, List.length_cons, List.length_nil] at h4
        omega
      have heq : tx = (wt ++ ByteArray.mk #[41]).data.toList := by
        simp only [ByteArray.data_append, Array.toList_append]
        rw [hfin, HT.out]
        simp
      have hq : tx = (wt ++ ByteArray.mk #[41]).toList := by rw [ByteArray.toList_eq]; exact heq
      have hlen : (wt ++ ByteArray.mk #[41]).toList.length ≤ 70000001 := by
        rw [ByteArray.toList_eq, len_data, ByteArray.size_append]
        show wt.size + 1 ≤ _
        omega
      clear hfin heq
      go_wp2
      go_ret
      refine ⟨ret_bool ?_, hbr⟩
      simp [ByteArray.toList_eq]

theorem parts_walk (l : List PT) (v : Value) (w : World) (hv : RepS w w.heap.size l v) (htab : TabOk w) :
    Calls Tryd.prog 8 #[v] w fun e w' => e = .returned (.bool true) ∧ Below w.heap.size w w' := by
  by_cases hc : checkB (.mk 5 0 ⟨#[]⟩ l) = 0
  · exact parts_good l v w hv htab hc
  · exact parts_bad l v w hv htab hc
end Go.Proofs.YtphgcdmjnmopiaaDoor
