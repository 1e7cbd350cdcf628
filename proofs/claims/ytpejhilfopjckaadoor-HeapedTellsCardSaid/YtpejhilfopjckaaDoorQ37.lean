/-
Package heap's Do where there is no such primitive. No condition but that the heap lies in memory.
-/
import Derived.Test.YtpejhilfopjckaaDoorQGi
import Derived.Test.YtpejhilfopjckaaDoorQ13
import Derived.Test.YtpejhilfopjckaaDoorQ65
namespace Go.Proofs.YtpejhilfopjckaaDoor.Hp
open Go.ChangeShapes Go.WideShapes Go.ChangeAt Go.RowKit Go.Deep
open Dat (PT ok64 RepV RepS RowX infoDatum)
set_option maxRecDepth 100000

theorem ne_of_none {prim : ByteArray} : ∀ {n : Nat}, idxP prim n = -1 → ∀ j, j < n → ∀ r, rowsP[j]? = some r → (r.1.toList == prim.toList) = false
  | 0, _, j, hj, _, _ => by omega
  | n + 1, h, j, hj, r, hr => by
    rw [idxP] at h
    split at h
    · rename_i r' hr'
      split at h
      · omega
      · rename_i hc
        by_cases e : j = n
        · subst e
          rw [hr] at hr'
          cases hr'
          simpa using hc
        · exact ne_of_none h j (by omega) r hr
    · rename_i hc
      by_cases e : j = n
      · subst e
        rw [hr] at hc
        cases hc
      · exact ne_of_none h j (by omega) r hr
theorem ne_lit {prim : ByteArray} {l : List UInt8} {n : Nat} {r : ByteArray × List Int} (h : idxP prim 38 = -1) (hn : n < 38) (hr : rowsP[n]? = some r) (hl : r.1.toList = l) : (prim.toList == l) = false ∧ (l == prim.toList) = false := by
  have := ne_of_none h n hn r hr
  rw [hl] at this
  exact ⟨by rw [Bool.beq_comm]; exact this, this⟩
set_option maxHeartbeats 1000000 in
theorem asked_none (prim : ByteArray) (w : World) (h : idxP prim 38 = -1) : Calls Tryd.prog 46 #[.string prim] w fun e w' => e = .returned (.tuple #[.int .i64 0, .bool false]) ∧ w = w' := by
  obtain ⟨n8, m8⟩ := ne_lit (l := [110, 117, 108, 108, 63]) h (n := 8) (by decide) rfl (by rw [ByteArray.toList_eq])
  obtain ⟨n9, m9⟩ := ne_lit (l := [115, 121, 109, 98, 111, 108, 63]) h (n := 9) (by decide) rfl (by rw [ByteArray.toList_eq])
  obtain ⟨n10, m10⟩ := ne_lit (l := [99, 104, 97, 114, 63]) h (n := 10) (by decide) rfl (by rw [ByteArray.toList_eq])
  obtain ⟨n11, m11⟩ := ne_lit (l := [105, 110, 116, 101, 103, 101, 114, 63]) h (n := 11) (by decide) rfl (by rw [ByteArray.toList_eq])
  obtain ⟨n12, m12⟩ := ne_lit (l := [98, 111, 111, 108, 101, 97, 110, 63]) h (n := 12) (by decide) rfl (by rw [ByteArray.toList_eq])
  obtain ⟨n13, m13⟩ := ne_lit (l := [101, 111, 102, 45, 111, 98, 106, 101, 99, 116, 63]) h (n := 13) (by decide) rfl (by rw [ByteArray.toList_eq])
  obtain ⟨n14, m14⟩ := ne_lit (l := [112, 97, 105, 114, 63]) h (n := 14) (by decide) rfl (by rw [ByteArray.toList_eq])
  obtain ⟨n15, m15⟩ := ne_lit (l := [118, 101, 99, 116, 111, 114, 63]) h (n := 15) (by decide) rfl (by rw [ByteArray.toList_eq])
  obtain ⟨n16, m16⟩ := ne_lit (l := [115, 116, 114, 105, 110, 103, 63]) h (n := 16) (by decide) rfl (by rw [ByteArray.toList_eq])
  obtain ⟨n17, m17⟩ := ne_lit (l := [112, 114, 111, 99, 101, 100, 117, 114, 101, 63]) h (n := 17) (by decide) rfl (by rw [ByteArray.toList_eq])
  clear h
  go_enter Tryd.func46, Tryd.ntmps46
  go_wp2
  go_ret2
  exact ⟨rfl, rfl⟩
set_option maxHeartbeats 2000000 in
theorem wanted_none (prim : ByteArray) (w : World) (h : idxP prim 38 = -1) (hR : RecOk w) : Calls Tryd.prog 27 #[.string prim] w fun e w' => (∃ v, e = .returned (.tuple #[v, .bool false])) ∧ Below w.heap.size w w' := by
  obtain ⟨n0, m0⟩ := ne_lit (l := [43]) h (n := 0) (by decide) rfl (by rw [ByteArray.toList_eq])
  obtain ⟨n1, m1⟩ := ne_lit (l := [45]) h (n := 1) (by decide) rfl (by rw [ByteArray.toList_eq])
  obtain ⟨n2, m2⟩ := ne_lit (l := [42]) h (n := 2) (by decide) rfl (by rw [ByteArray.toList_eq])
  obtain ⟨n3, m3⟩ := ne_lit (l := [113, 117, 111, 116, 105, 101, 110, 116]) h (n := 3) (by decide) rfl (by rw [ByteArray.toList_eq])
  obtain ⟨n4, m4⟩ := ne_lit (l := [114, 101, 109, 97, 105, 110, 100, 101, 114]) h (n := 4) (by decide) rfl (by rw [ByteArray.toList_eq])
  have K := Lib.hid (asked_none prim w h)
  have KO := Lib.hid (op_none prim w hR m0 m1 m2 m3 m4)
  clear m0 n0 m1 n1 m2 n2 m3 n3 m4 n4
  obtain ⟨n5, m5⟩ := ne_lit (l := [60]) h (n := 5) (by decide) rfl (by rw [ByteArray.toList_eq])
  obtain ⟨n6, m6⟩ := ne_lit (l := [61]) h (n := 6) (by decide) rfl (by rw [ByteArray.toList_eq])
  obtain ⟨n7, m7⟩ := ne_lit (l := [101, 113, 63]) h (n := 7) (by decide) rfl (by rw [ByteArray.toList_eq])
  obtain ⟨n18, m18⟩ := ne_lit (l := [99, 111, 110, 115]) h (n := 18) (by decide) rfl (by rw [ByteArray.toList_eq])
  obtain ⟨n19, m19⟩ := ne_lit (l := [99, 97, 114]) h (n := 19) (by decide) rfl (by rw [ByteArray.toList_eq])
  obtain ⟨n20, m20⟩ := ne_lit (l := [99, 100, 114]) h (n := 20) (by decide) rfl (by rw [ByteArray.toList_eq])
  obtain ⟨n21, m21⟩ := ne_lit (l := [115, 101, 116, 45, 99, 97, 114, 33]) h (n := 21) (by decide) rfl (by rw [ByteArray.toList_eq])
  obtain ⟨n22, m22⟩ := ne_lit (l := [115, 101, 116, 45, 99, 100, 114, 33]) h (n := 22) (by decide) rfl (by rw [ByteArray.toList_eq])
  obtain ⟨n23, m23⟩ := ne_lit (l := [109, 97, 107, 101, 45, 118, 101, 99, 116, 111, 114]) h (n := 23) (by decide) rfl (by rw [ByteArray.toList_eq])
  obtain ⟨n24, m24⟩ := ne_lit (l := [109, 97, 107, 101, 45, 115, 116, 114, 105, 110, 103]) h (n := 24) (by decide) rfl (by rw [ByteArray.toList_eq])
  obtain ⟨n25, m25⟩ := ne_lit (l := [118, 101, 99, 116, 111, 114, 45, 108, 101, 110, 103, 116, 104]) h (n := 25) (by decide) rfl (by rw [ByteArray.toList_eq])
  obtain ⟨n26, m26⟩ := ne_lit (l := [115, 116, 114, 105, 110, 103, 45, 108, 101, 110, 103, 116, 104]) h (n := 26) (by decide) rfl (by rw [ByteArray.toList_eq])
  obtain ⟨n27, m27⟩ := ne_lit (l := [118, 101, 99, 116, 111, 114, 45, 114, 101, 102]) h (n := 27) (by decide) rfl (by rw [ByteArray.toList_eq])
  obtain ⟨n28, m28⟩ := ne_lit (l := [115, 116, 114, 105, 110, 103, 45, 114, 101, 102]) h (n := 28) (by decide) rfl (by rw [ByteArray.toList_eq])
  obtain ⟨n29, m29⟩ := ne_lit (l := [118, 101, 99, 116, 111, 114, 45, 115, 101, 116, 33]) h (n := 29) (by decide) rfl (by rw [ByteArray.toList_eq])
  obtain ⟨n30, m30⟩ := ne_lit (l := [115, 116, 114, 105, 110, 103, 45, 115, 101, 116, 33]) h (n := 30) (by decide) rfl (by rw [ByteArray.toList_eq])
  obtain ⟨n31, m31⟩ := ne_lit (l := [99, 104, 97, 114, 45, 62, 105, 110, 116, 101, 103, 101, 114]) h (n := 31) (by decide) rfl (by rw [ByteArray.toList_eq])
  obtain ⟨n32, m32⟩ := ne_lit (l := [105, 110, 116, 101, 103, 101, 114, 45, 62, 99, 104, 97, 114]) h (n := 32) (by decide) rfl (by rw [ByteArray.toList_eq])
  obtain ⟨n33, m33⟩ := ne_lit (l := [37, 98, 111, 120]) h (n := 33) (by decide) rfl (by rw [ByteArray.toList_eq])
  obtain ⟨n34, m34⟩ := ne_lit (l := [37, 117, 110, 98, 111, 120]) h (n := 34) (by decide) rfl (by rw [ByteArray.toList_eq])
  obtain ⟨n35, m35⟩ := ne_lit (l := [37, 115, 101, 116, 45, 98, 111, 120, 33]) h (n := 35) (by decide) rfl (by rw [ByteArray.toList_eq])
  obtain ⟨n36, m36⟩ := ne_lit (l := [118, 111, 105, 100]) h (n := 36) (by decide) rfl (by rw [ByteArray.toList_eq])
  obtain ⟨n37, m37⟩ := ne_lit (l := [37, 117, 110, 115, 101, 116]) h (n := 37) (by decide) rfl (by rw [ByteArray.toList_eq])
  clear h hR m5 m6 m7 m18 m19 m20 m21 m22 m23 m24 m25 m26 m27 m28 m29 m30 m31 m32 m33 m34 m35 m36 m37
  go_enter Tryd.func27, Tryd.ntmps27
  go_wp2_with fail
  refine K.out.mono ?_
  rintro e w1 ⟨rfl, rfl⟩
  go_wp2_with fail
  refine KO.out.mono ?_
  rintro e w1 ⟨rfl, rfl⟩
  go_wp2
  go_ret2
  exact ⟨⟨_, rfl⟩, (Below.refl _ _).alloc (Nat.le_refl _) _⟩
set_option maxHeartbeats 2000000 in
theorem do_none (prim : ByteArray) (hidx : idxP prim 38 = -1) (l : List PV) (v : Value) (S : Nat → Prop) (hb : Nat) (T : List (Int × List PV)) (F : Nat → Prop) (w : World) (hR : RecOk w) (h : HeapM w hb T F) (hp : InP w S l v) :
    Calls Tryd.prog 10 #[.pointer (some ⟨hb, 0, none⟩), .string prim, v] w fun e w' => DoOk w hb F ⟨0, 0, ⟨#[]⟩⟩ 1 T e w' := by
  have Z0 := Lib.hid (heap_alloc_new w (.cells #[.int .i64 0, .int .i64 0, .string ⟨#[]⟩] 36))
  have B0 := Lib.hid ((Below.refl w.heap.size w).alloc (Nat.le_refl _) (.cells #[.int .i64 0, .int .i64 0, .string ⟨#[]⟩] 36))
  have hs0 := size_new w (.cells #[.int .i64 0, .int .i64 0, .string ⟨#[]⟩] 36)
  have KW := Lib.hid (fun W hW => wanted_none prim W hidx (hR.at hW))
  have HH := Lib.hid h
  obtain ⟨a, c, rfl, -, -, -, -⟩ := hp
  clear hR h hidx
  go_enter Tryd.func10, Tryd.ntmps10
  go_wp2_with fail
  generalize w.alloc (.cells #[.int .i64 0, .int .i64 0, .string ⟨#[]⟩] 36) = w0 at *
  refine (KW.out _ B0.out).mono ?_
  rintro e w1 ⟨⟨wa, rfl⟩, hb1⟩
  have B1 := Lib.hid (B0.out.trans (hb1.mono B0.out.size))
  have Z1 := Lib.hid ((hb1.block w.heap.size (by omega)).trans Z0.out)
  obtain ⟨⟨y0, y1, y2⟩, f0, f1, f2⟩ := look3 Z1.out
  clear hb1
  go_wp2
  exact bodyPost_ret (res_ve (t := 7) (p := 6) rfl _ _ w.heap.size _ _ _ rfl (put3 Z1.out _ _ _)) rfl (DoOk.of HH.out rfl (put3_below B1.out (Nat.le_refl _) _ _ _))
end Go.Proofs.YtpejhilfopjckaaDoor.Hp
