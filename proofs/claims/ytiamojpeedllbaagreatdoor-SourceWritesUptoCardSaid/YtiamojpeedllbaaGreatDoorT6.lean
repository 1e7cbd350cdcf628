/-
Contracts of package lex's hexByte, charByte, stringByte, isNumeral, ofNumeral, ofWord, and of what they call of the library: what each returns, for every string; where the two errors of strconv are as the program lays them.
-/
import Derived.Test.YtiamojpeedllbaaGreatDoorT5
namespace Go.Proofs.YtiamojpeedllbaaGreatDoor
open Go.ChangeShapes Go.WideShapes Go.ChangeAt Go.RowKit

theorem bytesWorld_below' (w : World) (t : ByteArray) : Below w.heap.size w (Lib.bytesWorld w 5 t) := Lib.bytesWorld_below w 5 t

def numErr (o : Option Nat) (e : Ending) : Prop := match o with
  | some x => e = .returned (.tuple #[.int .u64 (x : Int), .nilIface])
  | none => ∃ N, e = .returned (.tuple #[.int .u64 0, .iface 147 (.pointer (some ⟨N, 0, none⟩))])

set_option maxRecDepth 100000 in
theorem parse_some (t : ByteArray) (ht : t.size = 2) (x : Nat) (hx : p16 0 t.data.toList = some x) (w : World) :
    Calls Tryz.prog 111 #[.string t, .int .i64 16, .int .i64 8] w fun e w' => e = .returned (.tuple #[.int .u64 (x : Int), .nilIface]) ∧ Below w.heap.size w w' := by
  have hI := parseInner t ht w
  rw [hx] at hI
  have H := Lib.hid hI
  have HB := Lib.hid (bytesWorld_below' w t)
  clear hI hx
  go_enter Tryz.func111, Tryz.ntmps111
  go_wp2_with fail
  refine H.out.mono ?_
  rintro e w1 ⟨he, hw⟩
  rw [p16V] at he
  subst he
  rw [← hw] at HB
  clear hw
  go_wp2
  go_ret2
  exact ⟨rfl, HB.out⟩

set_option maxRecDepth 100000 in
theorem parse_none (t : ByteArray) (ht : t.size = 2) (hx : p16 0 t.data.toList = none) (w : World) (hE : ErrsOk w) :
    Calls Tryz.prog 111 #[.string t, .int .i64 16, .int .i64 8] w fun e w' => (∃ N, e = .returned (.tuple #[.int .u64 0, .iface 147 (.pointer (some ⟨N, 0, none⟩))])) ∧ Below w.heap.size w w' := by
  have hI := parseInner t ht w
  rw [hx] at hI
  have H := Lib.hid hI
  have HB := Lib.hid (bytesWorld_below' w t)
  have HE := Lib.hid (fun W hb => hE.below (C := w.heap.size) (w' := W) hb hE.two)
  have ht' : t.size ≤ 281474976710656 := by omega
  clear hI hx hE ht
  go_enter Tryz.func111, Tryz.ntmps111
  go_wp2_with fail
  refine H.out.mono ?_
  rintro e w1 ⟨he, hw⟩
  rw [p16V] at he
  subst he
  rw [← hw] at HB
  clear hw
  obtain ⟨⟨tp, p, h0⟩, _⟩ := HE.out w1 HB.out
  have H0 := Lib.hid h0
  clear h0
  go_wp2_with fail
  refine (Tryz.strconv_toError_syntax _ t _ _ _ w1 ht' H0.out (.inr ⟨tp, p, rfl⟩)).mono ?_
  rintro e w2 ⟨N, rfl, _, _, hb2⟩
  go_wp2
  go_ret2
  exact ⟨⟨N, rfl⟩, HB.out.trans (hb2.mono HB.out.size)⟩

/-- Two digits of base sixteen, and nothing else. -/
def hexO (l : List UInt8) : Option Nat := if l.length = 2 then twoV l else none
def optV : Option Nat → Value
  | some x => .tuple #[.int .i64 (x : Int), .bool true]
  | none => .tuple #[.int .i64 0, .bool false]
theorem p16_two {l : List UInt8} (h : l.length = 2) : p16 0 l = twoV l := by
  match l, h with
  | [a, b], _ =>
    rw [p16, twoV]
    cases hexV a with
    | none => rfl
    | some x =>
      simp only
      rw [p16]
      cases hexV b with
      | none => rfl
      | some y => simp only [p16]; congr 1; omega
theorem twoV_lt {l : List UInt8} {x : Nat} (h : twoV l = some x) : x < 256 := by
  match l, h with
  | a :: b :: r, h =>
    rw [twoV] at h
    cases ha : hexV a with
    | none => rw [ha] at h; cases h
    | some p =>
      cases hb : hexV b with
      | none => rw [ha, hb] at h; cases h
      | some q =>
        rw [ha, hb] at h
        have := hexV_lt ha
        have := hexV_lt hb
        simp at h
        omega

set_option maxRecDepth 100000 in
theorem hexByte_any (s : ByteArray) (w : World) (hE : ErrsOk w) :
    Calls Tryz.prog 100 #[.string s] w fun e w' => e = .returned (optV (hexO s.data.toList)) ∧ Below w.heap.size w w' := by
  have hl := len_data s
  by_cases h2 : s.size = 2
  · cases hx : twoV s.data.toList with
    | none =>
      have e : hexO s.data.toList = none := by rw [hexO, if_pos (by omega), hx]
      have C := parse_none s h2 (by rw [p16_two (by omega), hx]) w hE
      rw [e]
      have H := Lib.hid C
      have h2' : ((s.size : Int) != 2) = false := by rw [h2]; rfl
      clear C e hx hl h2
      go_enter Tryz.func100, Tryz.ntmps100
      go_wp2_with fail
      refine H.out.mono ?_
      rintro e w1 ⟨⟨N, rfl⟩, hb⟩
      go_wp2
      go_ret2
      exact ⟨rfl, hb⟩
    | some x =>
      have e : hexO s.data.toList = some x := by rw [hexO, if_pos (by omega), hx]
      have C := parse_some s h2 x (by rw [p16_two (by omega), hx]) w
      have hlt := twoV_lt hx
      rw [e]
      have H := Lib.hid C
      have h2' : ((s.size : Int) != 2) = false := by rw [h2]; rfl
      clear C e hx hl h2
      go_enter Tryz.func100, Tryz.ntmps100
      go_wp2_with fail
      refine H.out.mono ?_
      rintro e w1 ⟨rfl, hb⟩
      go_wp2
      go_ret2
      exact ⟨rfl, hb⟩
  · have e : hexO s.data.toList = none := by rw [hexO, if_neg (by omega)]
    rw [e]
    have h2' : ((s.size : Int) != 2) = true := by simp; omega
    clear e hl h2
    go_enter Tryz.func100, Tryz.ntmps100
    go_wp2
    go_ret2
    exact ⟨rfl, Below.refl _ _⟩
end Go.Proofs.YtiamojpeedllbaaGreatDoor
