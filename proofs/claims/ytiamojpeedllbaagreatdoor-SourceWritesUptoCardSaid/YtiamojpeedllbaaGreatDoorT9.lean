/-
Contracts of package lex's charByte, stringByte: what each returns, for every string; where the two errors of strconv are as the program lays them.
-/
import Derived.Test.YtiamojpeedllbaaGreatDoorT8
namespace Go.Proofs.YtiamojpeedllbaaGreatDoor
open Go.ChangeShapes Go.WideShapes Go.ChangeAt Go.RowKit

theorem byte_is {c : UInt8} {m : UInt8} {n : Int} (hn : n = (m.toNat : Int)) (h : ((c.toNat : Int) == n) = true) : c = m := UInt8.toNat_inj.1 (by have := beq_iff_eq.1 h; omega)
theorem byte_not {c : UInt8} {m : UInt8} {n : Int} (hn : n = (m.toNat : Int)) (h : ((c.toNat : Int) == n) = false) : c ≠ m := fun e => by
  rw [e, ← hn] at h; simp at h
theorem list_one {s : ByteArray} (h : s.size = 1) (h0 : 0 < s.size) : s.data.toList = [s[0]] := by
  have hl := len_data s
  match hs : s.data.toList, hl with
  | [a], _ =>
    congr 1
    have : s.data.toList[0]'(by rw [hs]; simp) = a := by simp [hs]
    exact this.symm
  | [], hl => simp at hl; omega
  | _ :: _ :: _, hl => simp at hl; omega
theorem head_data {s : ByteArray} (h0 : 0 < s.size) : s.data.toList.head? = some s[0] := by
  rw [List.head?_eq_getElem?, List.getElem?_eq_getElem (by rw [len_data]; exact h0)]
  rfl

set_option maxRecDepth 100000 in
theorem charByte_any (s : ByteArray) (w : World) (hs : s.size ≤ 4096) (h0 : 0 < s.size) (hE : ErrsOk w) :
    Calls Tryz.prog 99 #[.string s] w fun e w' => e = .returned (optV (charV s.data.toList)) ∧ Below w.heap.size w w' := by
  have hl := len_data s
  obtain ⟨n1, n2⟩ := ne_of_size h0
  by_cases h1 : s.size = 1
  · have e : charV s.data.toList = some s[0].toNat := by
      rw [charV, if_pos (by omega), head_data h0]; rfl
    rw [e]
    have h1' : ((s.size : Int) == 1) = true := by rw [h1]; rfl
    have hlt := s[0].toNat_lt
    clear e hl h1
    go_enter Tryz.func99, Tryz.ntmps99
    go_wp2
    go_ret2
    exact ⟨rfl, Below.refl _ _⟩
  have h1' : ((s.size : Int) == 1) = false := by simp; omega
  by_cases h2 : s.data.toList = [115, 112, 97, 99, 101]
  · have e : charV s.data.toList = some 32 := by rw [charV, if_neg (by omega), if_pos h2]
    rw [e]
    have e1 : s.toList = [115, 112, 97, 99, 101] := by rw [ByteArray.toList_eq]; exact h2
    have e2 : (s.toList == [115, 112, 97, 99, 101]) = true := by rw [e1]; rfl
    clear e hl h1 h2 n1 n2
    go_enter Tryz.func99, Tryz.ntmps99
    go_wp2
    go_ret2
    exact ⟨rfl, Below.refl _ _⟩
  have h2a : ¬ s.toList = [115, 112, 97, 99, 101] := by rw [ByteArray.toList_eq]; exact h2
  have h2b : (s.toList == [115, 112, 97, 99, 101]) = false := by simpa using h2a
  by_cases h3 : s.data.toList = [110, 101, 119, 108, 105, 110, 101]
  · have e : charV s.data.toList = some 10 := by rw [charV, if_neg (by omega), if_neg h2, if_pos h3]
    rw [e]
    have e1 : s.toList = [110, 101, 119, 108, 105, 110, 101] := by rw [ByteArray.toList_eq]; exact h3
    have e2 : (s.toList == [110, 101, 119, 108, 105, 110, 101]) = true := by rw [e1]; rfl
    clear e hl h1 h2 h3 n1 n2 h2a
    go_enter Tryz.func99, Tryz.ntmps99
    go_wp2
    go_ret2
    exact ⟨rfl, Below.refl _ _⟩
  have h3a : ¬ s.toList = [110, 101, 119, 108, 105, 110, 101] := by rw [ByteArray.toList_eq]; exact h3
  have h3b : (s.toList == [110, 101, 119, 108, 105, 110, 101]) = false := by simpa using h3a
  by_cases hx : ((s[0].toNat : Int) == 120) = true
  · have e : charV s.data.toList = hexO (s.extract 1 s.size).data.toList := by
      have he : (s.extract 1 s.size).data.toList = s.data.toList.drop 1 := by rw [Lib.extract_data, List.take_of_length_le]; simp
      have hc : s.data.toList.head? = some 120 := by rw [head_data h0, byte_is (m := 120) rfl hx]
      rw [he, charV, if_neg (by omega), if_neg h2, if_neg h3, hexO, List.length_drop]
      by_cases h : s.data.toList.length = 3
      · rw [if_pos ⟨h, hc⟩, if_pos (by omega)]
      · rw [if_neg (by omega), if_neg (by omega)]
    rw [e]
    have C := hexByte_any (s.extract 1 s.size) w hE
    generalize hexO (s.extract 1 s.size).data.toList = o at C ⊢
    have H := Lib.hid C
    clear e hl h1 h2 h3 C
    cases o with
    | none =>
      go_enter Tryz.func99, Tryz.ntmps99
      go_wp2_with fail
      refine H.out.mono ?_
      rintro e w1 ⟨he, hb⟩
      rw [optV] at he
      subst he
      go_wp2
      go_ret2
      exact ⟨rfl, hb⟩
    | some x =>
      go_enter Tryz.func99, Tryz.ntmps99
      go_wp2_with fail
      refine H.out.mono ?_
      rintro e w1 ⟨he, hb⟩
      rw [optV] at he
      subst he
      go_wp2
      go_ret2
      exact ⟨rfl, hb⟩
  · have hx' : ((s[0].toNat : Int) == 120) = false := by simpa using hx
    have e : charV s.data.toList = none := by
      have hc : ¬ s.data.toList.head? = some 120 := by
        rw [head_data h0]
        intro h
        exact byte_not (m := 120) rfl hx' (by simpa using h)
      rw [charV, if_neg (by omega), if_neg h2, if_neg h3, if_neg (fun h => hc h.2)]
    rw [e]
    clear e hl h1 h2 h3 hx
    go_enter Tryz.func99, Tryz.ntmps99
    go_wp2
    go_ret2
    exact ⟨rfl, Below.refl _ _⟩

theorem data_cons {s : ByteArray} (h0 : 0 < s.size) : s.data.toList = s[0] :: s.data.toList.drop 1 := by
  have := List.drop_eq_getElem_cons (l := s.data.toList) (i := 0) (by rw [len_data]; exact h0)
  rw [List.drop_zero] at this
  exact this
theorem data_cons2 {s : ByteArray} (h1 : 1 < s.size) : s.data.toList = s[0] :: s[1] :: s.data.toList.drop 2 := by
  have a := data_cons (s := s) (by omega)
  have := List.drop_eq_getElem_cons (l := s.data.toList) (i := 1) (by rw [len_data]; exact h1)
  rw [this] at a
  exact a
end Go.Proofs.YtiamojpeedllbaaGreatDoor
