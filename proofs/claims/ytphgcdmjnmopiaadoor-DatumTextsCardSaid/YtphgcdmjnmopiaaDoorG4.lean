/-
The document's text and show of a datum: what Text answers, for every datum all of whose own fields may be. A text of at most 100000000 bytes.
-/
import Derived.Test.YtphgcdmjnmopiaaDoorG3
namespace Go.Proofs.YtphgcdmjnmopiaaDoor
open Go.ChangeShapes Go.WideShapes Go.ChangeAt Go.RowKit

def RTextOk (bare : Bool) (t : PT) : Prop := ∀ (w : World) (B : Nat) (v : Value), RepV w B t v → B ≤ w.heap.size → FormOk t → roomT t ≤ 100000000 →
  Calls Tryd.prog 16 #[t.val v, .bool bare] w fun e w' => e = .returned (.string ⟨(textT bare t).toArray⟩) ∧ Below w.heap.size w w'

theorem rtext_bool (bare : Bool) (i : Int) (s : ByteArray) (v : Value) (w : World) (tx : List UInt8) (htx : tx = if i = 0 then [35, 102] else [35, 116]) :
    Calls Tryd.prog 16 #[.agg #[.int .i64 0, .int .i64 i, .string s, v], .bool bare] w fun e w' => e = .returned (.string ⟨tx.toArray⟩) ∧ Below w.heap.size w w' := by
  have HX := Lib.hid htx
  clear htx
  by_cases hi : i = 0
  · subst hi
    go_enter Tryd.func16, Tryd.ntmps16
    go_wp2
    go_ret
    exact ⟨ret_str (by rw [HX.out]; rfl), (Below.refl _ _).alloc (Nat.le_refl _) _⟩
  · have hb : (i == 0) = false := by simpa using hi
    have HX2 := Lib.hid (show tx = [35, 116] by rw [HX.out, if_neg hi])
    clear hi
    go_enter Tryd.func16, Tryd.ntmps16
    go_wp2
    go_ret
    exact ⟨ret_str (by rw [HX2.out]), (Below.refl _ _).alloc (Nat.le_refl _) _⟩

theorem rtext_int (bare : Bool) (i : Int) (hi : ok64 i) (s : ByteArray) (v : Value) (w : World) :
    Calls Tryd.prog 16 #[.agg #[.int .i64 1, .int .i64 i, .string s, v], .bool bare] w fun e w' => e = .returned (.string ⟨(Lib.itoa i).toArray⟩) ∧ Below w.heap.size w w' := by
  have C := Lib.hid (fun W => digits_any i hi W)
  clear hi
  go_enter Tryd.func16, Tryd.ntmps16
  go_wp2_with fail
  refine (C.out _).mono ?_
  rintro e w1 ⟨rfl, hb1⟩
  go_wp2
  go_ret
  exact ⟨rfl, ((Below.refl w.heap.size w).alloc (Nat.le_refl _) _).trans (hb1.mono (by simp))⟩

set_option maxRecDepth 100000 in
theorem rtext_char (bare : Bool) (c : UInt8) (s : ByteArray) (v : Value) (w : World) :
    Calls Tryd.prog 16 #[.agg #[.int .i64 2, .int .i64 (c.toNat : Int), .string s, v], .bool bare] w fun e w' => e = .returned (.string ⟨(charS bare c).toArray⟩) ∧ Below w.heap.size w w' := by
  have hch := c.toNat_lt
  have hch0 : (0 : Int) ≤ c.toNat := by omega
  have hch1 : (c.toNat : Int) ≤ 255 := by omega
  cases bare
  · go_enter Tryd.func16, Tryd.ntmps16
    go_wp2_with fail
    refine (rchar_any c _).mono ?_
    rintro e w1 ⟨rfl, hb1⟩
    go_wp2
    go_ret
    exact ⟨rfl, ((Below.refl w.heap.size w).alloc (Nat.le_refl _) _).trans (hb1.mono (by simp))⟩
  · have kc := byte_string c (w.alloc (.cells #[.int .i64 2, .int .i64 (c.toNat : Int), .string s, v] 24))
    rw [show (w.alloc (.cells #[.int .i64 2, .int .i64 (c.toNat : Int), .string s, v] 24)).heap.size = w.heap.size + 1 by simp] at kc
    go_enter Tryd.func16, Tryd.ntmps16
    go_wp2
    go_ret
    exact ⟨rfl, ((Below.refl w.heap.size w).alloc (Nat.le_refl _) _).alloc (by simp) _⟩

theorem rtext_string (bare : Bool) (i : Int) (s : ByteArray) (hs : s.size ≤ 1000000) (v : Value) (w : World) :
    Calls Tryd.prog 16 #[.agg #[.int .i64 3, .int .i64 i, .string s, v], .bool bare] w fun e w' => e = .returned (.string ⟨(quoteS bare s.data.toList).toArray⟩) ∧ Below w.heap.size w w' := by
  cases bare
  · have C := Lib.hid (fun W => rquoted_any s hs W)
    go_enter Tryd.func16, Tryd.ntmps16
    go_wp2_with fail
    refine (C.out _).mono ?_
    rintro e w1 ⟨rfl, hb1⟩
    go_wp2
    go_ret
    exact ⟨rfl, ((Below.refl w.heap.size w).alloc (Nat.le_refl _) _).trans (hb1.mono (by simp))⟩
  · go_enter Tryd.func16, Tryd.ntmps16
    go_wp2
    go_ret
    exact ⟨rfl, (Below.refl _ _).alloc (Nat.le_refl _) _⟩

theorem rtext_symbol (bare : Bool) (i : Int) (s : ByteArray) (v : Value) (w : World) :
    Calls Tryd.prog 16 #[.agg #[.int .i64 4, .int .i64 i, .string s, v], .bool bare] w fun e w' => e = .returned (.string ⟨s.data.toList.toArray⟩) ∧ Below w.heap.size w w' := by
  go_enter Tryd.func16, Tryd.ntmps16
  go_wp2
  go_ret
  exact ⟨rfl, (Below.refl _ _).alloc (Nat.le_refl _) _⟩

theorem rtext_none (bare : Bool) (k i : Int) (hk : k = 5 ∨ k = 7) (s : ByteArray) (a : Option Addr) (c : Nat) (w : World) (tx : List UInt8) (htx : tx = (if k = 5 then [] else [35]) ++ [40, 41]) :
    Calls Tryd.prog 16 #[.agg #[.int .i64 k, .int .i64 i, .string s, .slice a 0 c], .bool bare] w fun e w' => e = .returned (.string ⟨tx.toArray⟩) ∧ Below w.heap.size w w' := by
  have HX := Lib.hid htx
  clear htx
  rcases hk with rfl | rfl
  all_goals
    go_enter Tryd.func16, Tryd.ntmps16
    go_wp2
    refine wp_loop_rounds 1 ?_
    rw [rounds_succ]
    go_wp2
    go_ret
    exact ⟨ret_str (by rw [HX.out]; rfl), (Below.refl _ _).alloc (Nat.le_refl _) _⟩

theorem roomsT_le : ∀ (l : List PT) (j : Nat), roomsT (l.take j) ≤ roomsT l
  | [], j => by simp [roomsT]
  | t :: l, 0 => by simp [roomsT]
  | t :: l, j + 1 => by
    have := roomsT_le l j
    simp only [List.take_succ_cons, roomsT]
    omega

/-- One round: the pieces that come. -/
theorem grow_text {out a b : ByteArray} {x y z : List UInt8} (ho : out.data.toList = x) (ha : a.data.toList = y) (hb : b.data.toList = z) : (out ++ a ++ b).data.toList = x ++ (y ++ z) := by
  simp only [ByteArray.data_append, Array.toList_append]
  rw [ho, ha, hb, List.append_assoc]

set_option maxHeartbeats 1000000 in
theorem rtext_items (bare : Bool) (k i : Int) (hk : k = 5 ∨ k = 7) (s : ByteArray) (l : List PT) (ih : ∀ t ∈ l, RTextOk bare t) (b o c : Nat) (w : World) (B : Nat) (hB : B ≤ w.heap.size) (hl : l.length ≤ c) (hm : c ≤ maxLen) (hb : b < B) (hr : RepAt w B l b o) (hf : FormsOk l) (hroom : roomsT l ≤ 100000000)
    (tx : List UInt8) (htx : tx = (if k = 5 then [40] else [35, 40]) ++ (joinT (textsT bare l) ++ [41])) :
    Calls Tryd.prog 16 #[.agg #[.int .i64 k, .int .i64 i, .string s, .slice (some ⟨b, o, none⟩) l.length c], .bool bare] w fun e w' => e = .returned (.string ⟨tx.toArray⟩) ∧ Below w.heap.size w w' := by
  have HX := Lib.hid htx
  have IH := Lib.hid ih
  have HR := Lib.hid hr
  have HF := Lib.hid hf
  unfold maxLen at hm
  have X0 := Lib.hid (new_cell w #[.int .i64 k, .int .i64 i, .string s, .slice (some ⟨b, o, none⟩) l.length c] 24 0 _ rfl)
  have X3 := Lib.hid (new_cell w #[.int .i64 k, .int .i64 i, .string s, .slice (some ⟨b, o, none⟩) l.length c] 24 3 _ rfl)
  have hb0 := fun o1 : Obj => ((Below.refl w.heap.size w).alloc (Nat.le_refl _) o1)
  clear htx ih hr hf
  rcases hk with rfl | rfl
  · go_enter Tryd.func16, Tryd.ntmps16
    go_wp2
    go_loopw [5, 6] (fun x ix wr => ∃ (j : Nat) (out : ByteArray), j ≤ l.length ∧ ix = .int .i64 j ∧ x = .string out ∧ out.data.toList = [40] ++ joinT ((textsT bare l).take j) ∧ wr.cell? ⟨w.heap.size, 0, none⟩ = some (.int .i64 5) ∧ wr.cell? ⟨w.heap.size, 3, none⟩ = some (.slice (some ⟨b, o, none⟩) l.length c) ∧ Below w.heap.size w wr) (fun _ ix _ => l.length - (intOf ix).toNat)
    case atStart => exact ⟨0, _, Nat.zero_le _, rfl, rfl, rfl, X0.out, X3.out, hb0 _⟩
    case round =>
      obtain ⟨j, out, hj, rfl, rfl, ho, hx0, hx3, hbr⟩ := hrel
      have HO := Lib.hid ho
      have hsx : w.heap.size < wr.heap.size := World.block_lt_of_cell? _ _ hx3
      have hsz : out.size ≤ 100000100 := by
        have h1 := row_room bare l j HF.out
        have h2 := congrArg List.length ho
        have h3 : roomsT (l.take j) ≤ roomsT l := roomsT_le l j
        rw [len_data] at h2
        simp only [List.length_append, List.length_cons, List.length_nil] at h2
        omega
      clear ho
      by_cases hlt : j < l.length
      · obtain ⟨k1, i1, s1, n1, v1, hj1, ok1, ok2, hs1, d0, d1, d2, d3, hv1⟩ := repAt_item (RepAt.below HR.out hbr hB hb) hlt
        have hget := roomsT_get l j hlt
        have htx := textsT_get bare l j hlt
        have hF1 := formsOk_get HF.out l[j] (List.getElem_mem _)
        have hL := IH.out l[j] (List.getElem_mem _)
        rw [hj1] at htx hF1 hL hget
        have hlen := textT_len bare _ hF1
        have hbs1 : b < wr.heap.size := World.block_lt_of_cell? _ _ d0
        have HV1 := Lib.hid hv1
        obtain ⟨a1, c1', rfl, _⟩ := hv1
        have HC := Lib.hid (hL wr B (.slice a1 n1.length c1') ⟨ok1, ok2, hs1, HV1.out⟩ (by omega) hF1 (by omega))
        have htl : (textT bare (.mk k1 i1 s1 n1)).length ≤ 100000000 := by omega
        have HTX := Lib.hid htx
        clear htx hF1 hL hj1 hget hlen
        by_cases hj0 : j = 0
        · have hj0' : ¬ (0 : Int) < (j : Int) := by omega
          have HJ := Lib.hid hj0
          clear hj0
          go_wp2_with fail
          refine HC.out.mono ?_
          rintro e w2 ⟨rfl, hb2⟩
          have hbr2 : Below w.heap.size w w2 := hbr.trans (hb2.mono hbr.size)
          have y0 := (hb2.cell (p := ⟨w.heap.size, 0, none⟩) hsx).trans hx0
          have y3 := (hb2.cell (p := ⟨w.heap.size, 3, none⟩) hsx).trans hx3
          clear hb2
          go_wp2
          go_roundw
          case rel =>
            refine ⟨j + 1, _, by omega, by go_num, rfl, ?_, y0, y3, hbr2⟩
            have e0 := HO.out
            have hz := HJ.out
            subst hz
            simp only [ByteArray.data_append, Array.toList_append]
            rw [e0, joinT_take0 _ (by rw [textsT_len]; omega), HTX.out]
            simp [joinT]
          case measure => simp [intOf]; omega
        · have hj0' : (0 : Int) < (j : Int) := by omega
          go_wp2_with fail
          refine HC.out.mono ?_
          rintro e w2 ⟨rfl, hb2⟩
          have hbr2 : Below w.heap.size w w2 := hbr.trans (hb2.mono hbr.size)
          have y0 := (hb2.cell (p := ⟨w.heap.size, 0, none⟩) hsx).trans hx0
          have y3 := (hb2.cell (p := ⟨w.heap.size, 3, none⟩) hsx).trans hx3
          clear hb2
          go_wp2
          go_roundw
          case rel =>
            refine ⟨j + 1, _, by omega, by go_num, rfl, ?_, y0, y3, hbr2⟩
            have e0 := HO.out
            simp only [ByteArray.data_append, Array.toList_append]
            rw [e0, joinT_take _ j (by omega) (by rw [textsT_len]; omega), HTX.out]
            simp
          case measure => simp [intOf]; omega
      · obtain rfl : j = l.length := by omega
        have hfin : (out ++ ByteArray.mk #[41]).data.toList = tx := by
          simp only [ByteArray.data_append, Array.toList_append]
          rw [HO.out, List.take_of_length_le (by rw [textsT_len]; omega), HX.out]
          simp
        have HFI := Lib.hid hfin
        clear hfin
        go_wp2
        go_ret
        exact ⟨ret_str HFI.out, hbr⟩
  · go_enter Tryd.func16, Tryd.ntmps16
    go_wp2
    go_loopw [5, 6] (fun x ix wr => ∃ (j : Nat) (out : ByteArray), j ≤ l.length ∧ ix = .int .i64 j ∧ x = .string out ∧ out.data.toList = [35, 40] ++ joinT ((textsT bare l).take j) ∧ wr.cell? ⟨w.heap.size, 0, none⟩ = some (.int .i64 7) ∧ wr.cell? ⟨w.heap.size, 3, none⟩ = some (.slice (some ⟨b, o, none⟩) l.length c) ∧ Below w.heap.size w wr) (fun _ ix _ => l.length - (intOf ix).toNat)
    case atStart => exact ⟨0, _, Nat.zero_le _, rfl, rfl, rfl, X0.out, X3.out, hb0 _⟩
    case round =>
      obtain ⟨j, out, hj, rfl, rfl, ho, hx0, hx3, hbr⟩ := hrel
      have HO := Lib.hid ho
      have hsx : w.heap.size < wr.heap.size := World.block_lt_of_cell? _ _ hx3
      have hsz : out.size ≤ 100000100 := by
        have h1 := row_room bare l j HF.out
        have h2 := congrArg List.length ho
        have h3 : roomsT (l.take j) ≤ roomsT l := roomsT_le l j
        rw [len_data] at h2
        simp only [List.length_append, List.length_cons, List.length_nil] at h2
        omega
      clear ho
      by_cases hlt : j < l.length
      · obtain ⟨k1, i1, s1, n1, v1, hj1, ok1, ok2, hs1, d0, d1, d2, d3, hv1⟩ := repAt_item (RepAt.below HR.out hbr hB hb) hlt
        have hget := roomsT_get l j hlt
        have htx := textsT_get bare l j hlt
        have hF1 := formsOk_get HF.out l[j] (List.getElem_mem _)
        have hL := IH.out l[j] (List.getElem_mem _)
        rw [hj1] at htx hF1 hL hget
        have hlen := textT_len bare _ hF1
        have hbs1 : b < wr.heap.size := World.block_lt_of_cell? _ _ d0
        have HV1 := Lib.hid hv1
        obtain ⟨a1, c1', rfl, _⟩ := hv1
        have HC := Lib.hid (hL wr B (.slice a1 n1.length c1') ⟨ok1, ok2, hs1, HV1.out⟩ (by omega) hF1 (by omega))
        have htl : (textT bare (.mk k1 i1 s1 n1)).length ≤ 100000000 := by omega
        have HTX := Lib.hid htx
        clear htx hF1 hL hj1 hget hlen
        by_cases hj0 : j = 0
        · have hj0' : ¬ (0 : Int) < (j : Int) := by omega
          have HJ := Lib.hid hj0
          clear hj0
          go_wp2_with fail
          refine HC.out.mono ?_
          rintro e w2 ⟨rfl, hb2⟩
          have hbr2 : Below w.heap.size w w2 := hbr.trans (hb2.mono hbr.size)
          have y0 := (hb2.cell (p := ⟨w.heap.size, 0, none⟩) hsx).trans hx0
          have y3 := (hb2.cell (p := ⟨w.heap.size, 3, none⟩) hsx).trans hx3
          clear hb2
          go_wp2
          go_roundw
          case rel =>
            refine ⟨j + 1, _, by omega, by go_num, rfl, ?_, y0, y3, hbr2⟩
            have e0 := HO.out
            have hz := HJ.out
            subst hz
            simp only [ByteArray.data_append, Array.toList_append]
            rw [e0, joinT_take0 _ (by rw [textsT_len]; omega), HTX.out]
            simp [joinT]
          case measure => simp [intOf]; omega
        · have hj0' : (0 : Int) < (j : Int) := by omega
          go_wp2_with fail
          refine HC.out.mono ?_
          rintro e w2 ⟨rfl, hb2⟩
          have hbr2 : Below w.heap.size w w2 := hbr.trans (hb2.mono hbr.size)
          have y0 := (hb2.cell (p := ⟨w.heap.size, 0, none⟩) hsx).trans hx0
          have y3 := (hb2.cell (p := ⟨w.heap.size, 3, none⟩) hsx).trans hx3
          clear hb2
          go_wp2
          go_roundw
          case rel =>
            refine ⟨j + 1, _, by omega, by go_num, rfl, ?_, y0, y3, hbr2⟩
            have e0 := HO.out
            simp only [ByteArray.data_append, Array.toList_append]
            rw [e0, joinT_take _ j (by omega) (by rw [textsT_len]; omega), HTX.out]
            simp
          case measure => simp [intOf]; omega
      · obtain rfl : j = l.length := by omega
        have hfin : (out ++ ByteArray.mk #[41]).data.toList = tx := by
          simp only [ByteArray.data_append, Array.toList_append]
          rw [HO.out, List.take_of_length_le (by rw [textsT_len]; omega), HX.out]
          simp
        have HFI := Lib.hid hfin
        clear hfin
        go_wp2
        go_ret
        exact ⟨ret_str HFI.out, hbr⟩
end Go.Proofs.YtphgcdmjnmopiaaDoor
