/-
Contract of package lex's ofString: what it returns, for every string that begins with a double quote; where the two errors of strconv are as the program lays them.
-/
import Derived.Test.YtiamojpeedllbaaGreatDoorT11
import Derived.Test.YtiamojpeedllbaaGreatDoorT12
namespace Go.Proofs.YtiamojpeedllbaaGreatDoor
open Go.ChangeShapes Go.WideShapes Go.ChangeAt Go.RowKit

theorem Res1.nextB {w W W' : World} {y : Array Value} (h : Res1 w y W) {B : Nat} (hb : Below B W W') (hB : w.heap.size < B) : Res1 w y W' :=
  ⟨h.1.trans (hb.mono (by omega)), (hb.block _ hB).trans h.2⟩

set_option maxRecDepth 100000 in
set_option maxHeartbeats 2000000 in
theorem ofString_any (s : ByteArray) (w : World) (hs : s.size ≤ 4096) (h0 : 0 < s.size) (hE : ErrsOk w) :
    Calls Tryz.prog 52 #[.string s] w fun e w' => e = .returned (TokV (textV [] 1 (txt (s.data.toList.drop 1)))) ∧ Below w.heap.size w w' := by
  have HL := Lib.hid (len_data s)
  have HE := Lib.hid (fun W (h : Below w.heap.size w W) => hE.below h hE.two)
  have R0 := Lib.hid (Res1.first w zero5)
  have hz : (w.alloc (.cells zero5 33)).heap.size = w.heap.size + 1 := by simp
  have B0 : Hid (Bd (w.heap.size + 1) [] ((w.alloc (.cells zero5 33)).alloc (.cells #[.pointer none, .slice none 0 0] 69))) := Lib.hid (by
    have := Lib.fresh_isBuilder 69 5 (w.alloc (.cells zero5 33))
    rw [hz] at this
    exact this)
  have R1 : Hid (Res1 w zero5 ((w.alloc (.cells zero5 33)).alloc (.cells #[.pointer none, .slice none 0 0] 69))) := Lib.hid (R0.out.next ((Below.refl _ _).alloc (Nat.le_refl _) _))
  clear hE hz
  obtain ⟨T, hT⟩ : ∃ T, T = textV [] 1 (txt (s.data.toList.drop 1)) := ⟨_, rfl⟩
  rw [← hT]
  have HT := Lib.hid hT
  clear hT
  go_enter Tryz.func52, Tryz.ntmps52
  go_wp2
  go_loopw [6] (fun i wr => ∃ (k : Nat) (acc : List UInt8), 1 ≤ k ∧ k ≤ s.size ∧ i = .int .i64 k ∧ acc.length ≤ k ∧ Bd (w.heap.size + 1) acc wr ∧ Res1 w zero5 wr ∧ T = textV acc k (txt (s.data.toList.drop k))) (fun i _ => s.size - (intOf i).toNat)
  case atStart => exact ⟨1, [], Nat.le_refl _, by omega, rfl, by simp, B0.out, R1.out, HT.out⟩
  case round =>
    obtain ⟨k, acc, hk1, hk, rfl, hacc, hbd, hr1, htx⟩ := hrel
    have HB := Lib.hid hbd
    have HR := Lib.hid hr1
    have HX := Lib.hid htx
    clear hbd hr1 htx
    by_cases hlt : k < s.size
    · have hd : s.data.toList.drop k = s[k] :: s.data.toList.drop (k + 1) := List.drop_eq_getElem_cons (by rw [HL.out]; exact hlt)
      have HD := Lib.hid hd
      clear hd
      by_cases hq : ((s[k].toNat : Int) == 34) = true
      · have HF : Hid (T = (⟨8, acc, 0⟩, k + 1, 0)) := Lib.hid (by
          rw [HX.out, txt_end (by rw [HD.out, byte_is (m := 34) rfl hq]; rfl)]
          simp [textV])
        have hlb := HB.out.lt
        go_wp2_with fail
        refine (Tryz.Builder_String_any_k (w.heap.size + 1) (w.heap.size + 1) acc wr (Lib.IsBuilderF.of HB.out) (by omega)).mono ?_
        rintro e w1 ⟨rfl, _, hb1, _⟩
        have R2 := Lib.hid (HR.out.nextB hb1 (by omega))
        obtain ⟨c0, c1, c2, c3, c4⟩ := R2.out.cells
        obtain ⟨f0, f1, f2, f3, f4⟩ := R2.out.froz
        clear hb1
        go_wp2
        have R3 := R2.out.put (.int .i64 8) (.string ⟨acc.toArray⟩) (.int .i64 0) (.int .i64 0) (.int .i64 0)
        exact bodyPost_ret (results_row_tmp2 (P := Tryz.prog) rfl _ _ w.heap.size 33 _ (0, 0) _ rfl R3.2 Tryz.underlying33 rfl size35) rfl ⟨by rw [HF.out]; rfl, R3.1⟩
      · have hq' : ((s[k].toNat : Int) == 34) = false := by simpa using hq
        have hhd : (s.data.toList.drop k).head? ≠ some 34 := by
          rw [HD.out]
          intro e
          exact byte_not (m := 34) rfl hq' (by simpa using e)
        have hne : s.data.toList.drop k ≠ [] := by rw [HD.out]; simp
        have hki : (k : Int) ≤ (s.size : Int) := by omega
        have hx : (s.extract k s.size).data.toList = s.data.toList.drop k := by rw [extract_list, List.take_of_length_le (by rw [List.length_drop, HL.out]; omega)]
        have C := stringByte_any (s.extract k s.size) wr (by simp; omega) (by simp; omega) (HE.out wr HR.out.1)
        rw [hx] at C
        cases he : escV (s.data.toList.drop k) with
        | none =>
          rw [he] at C
          have HF : Hid (T = (noTk, 0, 32)) := Lib.hid (by rw [HX.out, txt_fell hhd he]; rfl)
          have H := Lib.hid C
          clear C he hx hne hhd hq
          go_wp2_with fail
          refine H.out.mono ?_
          rintro e w1 ⟨he, hb1⟩
          rw [escR] at he
          subst he
          have R2 := Lib.hid (HR.out.next hb1)
          obtain ⟨c0, c1, c2, c3, c4⟩ := R2.out.cells
          obtain ⟨f0, f1, f2, f3, f4⟩ := R2.out.froz
          clear hb1
          go_wp2
          have R3 := R2.out.put (.int .i64 0) (.string ⟨#[]⟩) (.int .i64 0) (.int .i64 0) (.int .i64 0)
          exact bodyPost_ret (results_row_tmp2 (P := Tryz.prog) rfl _ _ w.heap.size 33 _ (0, 0) _ rfl R3.2 Tryz.underlying33 rfl size35) rfl ⟨by rw [HF.out]; rfl, R3.1⟩
        | some q =>
          obtain ⟨b, n⟩ := q
          rw [he] at C
          obtain ⟨p1, p2⟩ := escV_pos he
          rw [List.length_drop, HL.out] at p2
          have HF : Hid (T = textV (acc ++ [b]) (k + n) (txt (s.data.toList.drop (k + n)))) := Lib.hid (by
            rw [HX.out, textV_step acc k hne hhd he, List.drop_drop])
          have H := Lib.hid C
          have hn0 : ((n : Int) == 0) = false := by simp; omega
          clear C he hx hne hhd hq
          go_wp2_with fail
          refine H.out.mono ?_
          rintro e w1 ⟨he, hb1⟩
          rw [escR] at he
          subst he
          have R2 := Lib.hid (HR.out.next hb1)
          have B2 := Lib.hid (Bd.moved HB.out hb1)
          clear hb1
          go_wp2_with fail
          refine (writeByte_any (w.heap.size + 1) acc b w1 B2.out (by omega)).mono ?_
          rintro e w2 ⟨rfl, hbd2, hb2⟩
          have R3 := Lib.hid (R2.out.nextB hb2 (by omega))
          have B3 := Lib.hid hbd2
          clear hbd2 hb2
          go_wp2
          go_roundw
          case rel => exact ⟨k + n, acc ++ [b], by omega, by omega, by go_num, by simp; omega, B3.out, R3.out, HF.out⟩
          case measure => simp [intOf]; omega
    · obtain rfl : k = s.size := by omega
      have HF : Hid (T = (noTk, 0, 32)) := Lib.hid (by
        rw [HX.out, List.drop_of_length_le (by rw [HL.out]; exact Nat.le_refl _), txt]; rfl)
      obtain ⟨c0, c1, c2, c3, c4⟩ := HR.out.cells
      obtain ⟨f0, f1, f2, f3, f4⟩ := HR.out.froz
      go_wp2
      have R3 := HR.out.put (.int .i64 0) (.string ⟨#[]⟩) (.int .i64 0) (.int .i64 0) (.int .i64 0)
      exact bodyPost_ret (results_row_tmp2 (P := Tryz.prog) rfl _ _ w.heap.size 33 _ (0, 0) _ rfl R3.2 Tryz.underlying33 rfl size35) rfl ⟨by rw [HF.out]; rfl, R3.1⟩
end Go.Proofs.YtiamojpeedllbaaGreatDoor
