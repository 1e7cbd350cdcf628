/-
Contracts of the library at base sixteen and of package lex's hexByte, isNumeral, ofNumeral: what each returns, for every string; where the two errors of strconv are as the program lays them.
-/
import Derived.Test.YtiamojpeedllbaaGreatDoorT4
import Derived.Test.YtiamojpeedllbaaGreatDoorShelf
import Derived.Shelf.Strings.SlTrimAscii
import Derived.Lib.ConvBytes
import Derived.Lib.ParseIntBMem
import Derived.Laws.Closers25
import Derived.Laws.Closers25b
import Derived.BigCall
import Derived.BigGuard
namespace Go.Proofs.YtiamojpeedllbaaGreatDoor
open Go.ChangeShapes Go.WideShapes Go.ChangeAt Go.RowKit

/-- The two errors of strconv hold errors. -/
def ErrsOk (w : World) : Prop := (∃ tp p, w.cell? ⟨1, 0, none⟩ = some (.iface tp p)) ∧ (∃ tp p, w.cell? ⟨2, 0, none⟩ = some (.iface tp p))
theorem ErrsOk.two {w : World} (h : ErrsOk w) : 1 < w.heap.size ∧ 2 < w.heap.size := by
  obtain ⟨⟨_, _, g⟩, tp, p, h⟩ := h
  exact ⟨World.block_lt_of_cell? _ _ g, World.block_lt_of_cell? _ _ h⟩
theorem ErrsOk.below {w w' : World} {C : Nat} (h : ErrsOk w) (hb : Below C w w') (hC : 1 < C ∧ 2 < C) : ErrsOk w' := by
  obtain ⟨⟨tp, p, h0⟩, tq, q, h1⟩ := h
  exact ⟨⟨tp, p, by rw [hb.cell (p := ⟨1, 0, none⟩) hC.1]; exact h0⟩, tq, q, by rw [hb.cell (p := ⟨2, 0, none⟩) hC.2]; exact h1⟩

/-- What the letters of base sixteen are, to the library. -/
theorem hex_table : ∀ n : Fin 256, (48 ≤ (n.val : Int) ∧ (n.val : Int) ≤ 57 ∧ ((n.val : Int) == 95) = false ∧ hexV n.val.toUInt8 = some (n.val - 48)) ∨
    (((n.val : Int) < 48 ∨ 57 < (n.val : Int)) ∧ ((n.val : Int) == 95) = false ∧ 97 ≤ bits .or .u8 (n.val : Int) 32 ∧ bits .or .u8 (n.val : Int) 32 ≤ 102 ∧ hexV n.val.toUInt8 = some (bits .or .u8 (n.val : Int) 32 - 87).toNat) ∨
    (((n.val : Int) < 48 ∨ 57 < (n.val : Int)) ∧ ((n.val : Int) == 95) = false ∧ (103 ≤ bits .or .u8 (n.val : Int) 32 ∧ bits .or .u8 (n.val : Int) 32 ≤ 122) ∧ hexV n.val.toUInt8 = none) ∨
    (((n.val : Int) < 48 ∨ 57 < (n.val : Int)) ∧ ((n.val : Int) == 95) = false ∧ (bits .or .u8 (n.val : Int) 32 < 97 ∨ 122 < bits .or .u8 (n.val : Int) 32) ∧ hexV n.val.toUInt8 = none) ∨ (n.val.toUInt8 = 95 ∧ hexV n.val.toUInt8 = none) := by decide +kernel
theorem hex_ways (c : UInt8) : (48 ≤ (c.toNat : Int) ∧ (c.toNat : Int) ≤ 57 ∧ ((c.toNat : Int) == 95) = false ∧ hexV c = some (c.toNat - 48)) ∨
    (((c.toNat : Int) < 48 ∨ 57 < (c.toNat : Int)) ∧ ((c.toNat : Int) == 95) = false ∧ 97 ≤ bits .or .u8 (c.toNat : Int) 32 ∧ bits .or .u8 (c.toNat : Int) 32 ≤ 102 ∧ hexV c = some (bits .or .u8 (c.toNat : Int) 32 - 87).toNat) ∨
    (((c.toNat : Int) < 48 ∨ 57 < (c.toNat : Int)) ∧ ((c.toNat : Int) == 95) = false ∧ (103 ≤ bits .or .u8 (c.toNat : Int) 32 ∧ bits .or .u8 (c.toNat : Int) 32 ≤ 122) ∧ hexV c = none) ∨
    (((c.toNat : Int) < 48 ∨ 57 < (c.toNat : Int)) ∧ ((c.toNat : Int) == 95) = false ∧ (bits .or .u8 (c.toNat : Int) 32 < 97 ∨ 122 < bits .or .u8 (c.toNat : Int) 32) ∧ hexV c = none) ∨ (c = 95 ∧ hexV c = none) := by
  have h := hex_table ⟨c.toNat, c.toNat_lt⟩
  simpa using h

/-- What digits of base sixteen say, behind what was told. -/
def p16 (acc : Nat) : List UInt8 → Option Nat
  | [] => some acc
  | c :: r => match hexV c with
    | some d => p16 (acc * 16 + d) r
    | none => none
def p16V : Option Nat → Value
  | some x => .tuple #[.int .u64 (x : Int), .nilIface]
  | none => .tuple #[.int .u64 0, .iface 144 (.int .i64 2)]

set_option maxHeartbeats 32000000 in
set_option maxRecDepth 100000 in
/-- internal/strconv.ParseUint(s, 16, 8) of two bytes. -/
theorem parseInner (t : ByteArray) (ht : t.size = 2) (w : World) :
    Calls Tryz.prog 130 #[.string t, .int .i64 16, .int .i64 8] w fun e w' => e = .returned (p16V (p16 0 t.data.toList)) ∧ w' = Lib.bytesWorld w 5 t := by
  have hemp : t.toList.isEmpty = false := by
    rw [← decide_eq_emptyBytes]
    exact decide_eq_false (fun h => by rw [h] at ht; cases ht)
  have hcv := Lib.run_convert_string_bytes (P := Tryz.prog) w 9 35 5 t (u := .string) Tryz.underlying9 Tryz.underlying35 Tryz.underlying5
  have hB : ∀ j, j < t.size → (Lib.bytesWorld w 5 t).cell? ⟨w.heap.size, j, none⟩ = some (.int .u8 (t.data.toList.getD j 0).toNat) := fun j hj => Lib.bytesWorld_cell w 5 t j hj
  obtain ⟨W1, hW1⟩ : ∃ W1, W1 = Lib.bytesWorld w 5 t := ⟨_, rfl⟩
  rw [← hW1] at hcv hB ⊢
  clear hW1
  obtain ⟨bs, hL⟩ : ∃ bs, bs = t.data.toList := ⟨_, rfl⟩
  have hLn : bs.length = t.size := by rw [hL, Lib.size_eq]
  rw [← hL] at hB ⊢
  clear hL
  have hmv : IntKind.u64.wrap (IntKind.u64.wrap 256 - 1) = 255 := by
    rw [IntKind.wrap_u64, IntKind.wrap_u64]
    decide
  go_enter Tryz.func130, Tryz.ntmps130
  go_wp2
  go_loop [12, 13, 101] (fun vu vn vi => ∃ (k acc : Nat) (a : Int), vu = .bool false ∧ vn = .int .u64 a ∧ vi = .int .i64 k ∧ k ≤ t.size ∧ Hid (a = (acc : Int) ∧ acc < 16 ^ k ∧ p16 0 bs = p16 acc (bs.drop k)))
    (fun _ _ vi => t.size - (intOf vi).toNat)
  case atStart => exact ⟨0, 0, 0, rfl, rfl, rfl, by omega, rfl, by omega, rfl⟩
  case round =>
    obtain ⟨k, acc, a, rfl, rfl, rfl, hk, hh⟩ := hrel
    obtain ⟨ha, hacc, hdec⟩ := hh.out
    clear hh
    have hacc' : k < 2 → acc < 16 := fun h => by
      match k, h with
      | 0, _ => simp at hacc; omega
      | 1, _ => simpa using hacc
    have hp : 16 ^ (k + 1) = 16 ^ k * 16 := Nat.pow_succ _ _
    by_cases hkn : k < t.size
    · have hc := hB k hkn
      have hdrop : bs.drop k = bs[k]'(by omega) :: bs.drop (k + 1) := List.drop_eq_getElem_cons (by omega)
      have hget : bs.getD k 0 = bs[k]'(by omega) := by simp [List.getD, List.getElem?_eq_getElem (show k < bs.length by omega)]
      rw [hdrop] at hdec
      rw [hget] at hc
      generalize bs[k]'(by omega) = c at hc hdec
      have hc256 : c.toNat < 256 := c.toNat_lt
      have ha16 := hacc' (by omega)
      have a0 : 0 ≤ a := by omega
      have a1 : a ≤ 15 := by omega
      clear hB hdrop hget hacc'
      have hv0 := bits_lo_u8 .or (c.toNat : Int) 32
      have hv1 := bits_hi_u8 .or (c.toNat : Int) 32
      rcases hex_ways c with ⟨h1, h2, h95, hx⟩ | ⟨hnd, h95, h1, h2, hx⟩ | ⟨hnd, h95, ⟨h1, h2⟩, hx⟩ | ⟨hnd, h95, h1, hx⟩ | ⟨h95, hx⟩
      · have HN : Hid (a * 16 + ((c.toNat : Int) - 48) = ((acc * 16 + (c.toNat - 48) : Nat) : Int) ∧ acc * 16 + (c.toNat - 48) < 16 ^ (k + 1) ∧ p16 0 bs = p16 (acc * 16 + (c.toNat - 48)) (bs.drop (k + 1))) := Lib.hid ⟨by omega, by omega, by rw [hdec, p16, hx]⟩
        clear hdec hx ha hacc ha16 hp
        go_wp2
        refine ⟨⟨k + 1, acc * 16 + (c.toNat - 48), a * 16 + ((c.toNat : Int) - 48), rfl, (by first | rfl | (congr 1; omega)), (by first | rfl | (congr 1; omega)), by omega, HN⟩, by simp [intOf]; omega⟩
      · have HN : Hid (a * 16 + (bits .or .u8 (c.toNat : Int) 32 - 97 + 10) = ((acc * 16 + (bits .or .u8 (c.toNat : Int) 32 - 87).toNat : Nat) : Int) ∧ acc * 16 + (bits .or .u8 (c.toNat : Int) 32 - 87).toNat < 16 ^ (k + 1) ∧ p16 0 bs = p16 (acc * 16 + (bits .or .u8 (c.toNat : Int) 32 - 87).toNat) (bs.drop (k + 1))) := Lib.hid ⟨by omega, by omega, by rw [hdec, p16, hx]⟩
        clear hdec hx ha hacc ha16 hp
        rcases hnd with hnd | hnd
        all_goals
          go_wp2_with (go_at_call 146; refine (Tryz.internal_strconv_lower _ _).mono ?_; rintro e w' ⟨rfl, rfl⟩)
          refine ⟨⟨k + 1, _, a * 16 + (bits .or .u8 (c.toNat : Int) 32 - 97 + 10), rfl, (by first | rfl | (congr 1; omega)), (by first | rfl | (congr 1; omega)), by omega, HN⟩, by simp [intOf]; omega⟩
      · have HF : Hid (p16 0 bs = none) := Lib.hid (by rw [hdec, p16, hx])
        clear hdec hx ha hacc ha16 hp
        rcases hnd with hnd | hnd
        all_goals
          go_wp2_with (go_at_call 146; refine (Tryz.internal_strconv_lower _ _).mono ?_; rintro e w' ⟨rfl, rfl⟩)
          go_ret2
          exact ⟨by rw [HF.out]; rfl, rfl⟩
      · have HF : Hid (p16 0 bs = none) := Lib.hid (by rw [hdec, p16, hx])
        clear hdec hx ha hacc ha16 hp
        rcases hnd with hnd | hnd <;> rcases h1 with h1 | h1
        all_goals
          go_wp2_with (go_at_call 146; refine (Tryz.internal_strconv_lower _ _).mono ?_; rintro e w' ⟨rfl, rfl⟩)
          go_ret2
          exact ⟨by rw [HF.out]; rfl, rfl⟩
      · have HF : Hid (p16 0 bs = none) := Lib.hid (by rw [hdec, p16, hx])
        have hb : bits .or .u8 95 32 = 127 := by decide +kernel
        have hc95 : (c.toNat : Int) = 95 := by rw [h95]; rfl
        rw [hc95] at hc
        clear hdec hx ha hacc ha16 hp hv0 hv1 h95 hc95 hc256
        go_wp2_with (go_at_call 146; refine (Tryz.internal_strconv_lower _ _).mono ?_; rintro e w' ⟨rfl, rfl⟩)
        go_ret2
        exact ⟨by rw [HF.out]; rfl, rfl⟩
    · have hkk : k = t.size := by omega
      subst hkk
      have HF : Hid (p16 0 bs = some acc) := Lib.hid (by rw [hdec, List.drop_eq_nil_of_le (by omega)]; rfl)
      subst ha
      clear hdec hacc hacc' hp
      go_wp2
      go_ret2
      exact ⟨by rw [HF.out]; rfl, rfl⟩
end Go.Proofs.YtiamojpeedllbaaGreatDoor
