/-
The document's texts of bytes: Two, char, Digits: what each answers. A byte; a number in its kind.
-/
import Derived.Test.YtphgcdmjnmopiaaDoorD20
import Derived.RegionTactic
namespace Go.Proofs.YtphgcdmjnmopiaaDoor
open Go.ChangeShapes Go.WideShapes Go.ChangeAt Go.RowKit

theorem ret_str {a b : ByteArray} (h : a.data.toList = b.data.toList) : Ending.returned (.string a) = .returned (.string b) := by rw [Go.WideShapes.bytes_inj h]

def twoT (c : UInt8) : List UInt8 := [hexd (c.toNat / 16), hexd (c.toNat % 16)]

theorem hex_slice (n : Nat) (h : n < 16) : (({ data := #[48, 49, 50, 51, 52, 53, 54, 55, 56, 57, 97, 98, 99, 100, 101, 102] } : ByteArray).extract n (n + 1)).data.toList = [hexd n] := by
  have : ∀ m : Fin 16, (({ data := #[48, 49, 50, 51, 52, 53, 54, 55, 56, 57, 97, 98, 99, 100, 101, 102] } : ByteArray).extract m.val (m.val + 1)).data.toList = [hexd m.val] := by decide +kernel
  exact this ⟨n, h⟩

theorem two_any (c : UInt8) (w : World) : Calls Tryd.prog 50 #[.int .u8 (c.toNat : Int)] w fun e w' => e = .returned (.string ⟨(twoT c).toArray⟩) ∧ Below w.heap.size w w' := by
  have hc := c.toNat_lt
  have q0 : (0 : Int) ≤ (c.toNat : Int) / 16 := by omega
  have q1 : (c.toNat : Int) / 16 < 16 := by omega
  have r0 : (0 : Int) ≤ (c.toNat : Int) % 16 := by omega
  have r1 : (c.toNat : Int) % 16 < 16 := by omega
  go_enter Tryd.func50, Tryd.ntmps50
  go_wp2
  go_quiet (fail)
  go_wp2
  go_ret
  refine ⟨ret_str ?_, below_drewN (Below.refl _ _) _⟩
  simp only [ByteArray.data_append, Array.toList_append]
  rw [hex_slice _ (by omega), hex_slice _ (by omega)]
  rfl

/-- A byte as a string. -/
theorem byte_string (c : UInt8) (W : World) : (convert 49 9 (.slice (some ⟨W.heap.size, 0, none⟩) 1 1)).run Tryd.prog (W.alloc (.cells #[.int .u8 (c.toNat : Int)] 5)) = .ok (.string ⟨#[c]⟩) (W.alloc (.cells #[.int .u8 (c.toNat : Int)] 5)) := by
  have := run_convert_bytes_back (P := Tryd.prog) (W.alloc (.cells #[.int .u8 (c.toNat : Int)] 5)) 49 9 5 ⟨W.heap.size, 0, none⟩ 1 [c] Tryd.underlying49 Tryd.underlying5 Tryd.underlying9 (fun j hj => by
    have : j = 0 := by simpa using hj
    subst this
    rw [show (Addr.add ⟨W.heap.size, 0, none⟩ 0) = ⟨W.heap.size, 0, none⟩ from rfl, Lib.cell_of_heap (heap_alloc_new W _)]
    rfl)
  exact this

set_option maxRecDepth 100000 in
/-- A character's text. -/
theorem rchar_any (c : UInt8) (w : World) : Calls Tryd.prog 33 #[.int .u8 (c.toNat : Int)] w fun e w' => e = .returned (.string ⟨(charT c).toArray⟩) ∧ Below w.heap.size w w' := by
  by_cases h32 : c.toNat = 32
  · have e : (c.toNat : Int) = 32 := by omega
    have E := Lib.hid h32
    rw [e]
    clear h32 e
    go_enter Tryd.func33, Tryd.ntmps33
    go_wp2
    go_ret
    exact ⟨ret_str (by simp [charT, E.out, spaceT]), Below.refl _ _⟩
  by_cases h10 : c.toNat = 10
  · have e : (c.toNat : Int) = 10 := by omega
    have E := Lib.hid h10
    rw [e]
    clear h10 e h32
    go_enter Tryd.func33, Tryd.ntmps33
    go_wp2
    go_ret
    exact ⟨ret_str (by simp [charT, E.out, newlineT]), Below.refl _ _⟩
  have b32 : ((c.toNat : Int) == 32) = false := by simp; omega
  have b10 : ((c.toNat : Int) == 10) = false := by simp; omega
  by_cases hp : 32 < c.toNat ∧ c.toNat ≤ 126
  · obtain ⟨p1, p2⟩ := hp
    have p1' : (32 : Int) < c.toNat := by omega
    have p2' : (c.toNat : Int) < 127 := by omega
    have HT := Lib.hid (show charT c = [35, 92] ++ [c] by simp [charT, h32, h10, p1, p2])
    clear h32 h10
    have kc := byte_string c
    go_enter Tryd.func33, Tryd.ntmps33
    go_wp2
    go_ret
    refine ⟨ret_str ?_, (Below.refl _ _).alloc (Nat.le_refl _) _⟩
    rw [HT.out]
    simp only [ByteArray.data_append, Array.toList_append]
  · have HT := Lib.hid (show charT c = [35, 92] ++ hexT c by
      have : ¬ (32 < c.toNat ∧ c.toNat ≤ 126) := hp
      simp [charT, h32, h10]
      omega)
    have hl : (twoT c).length ≤ 2 := Nat.le_refl _
    clear h32 h10
    by_cases p1 : 32 < c.toNat
    · have p1' : (32 : Int) < c.toNat := by omega
      have p2' : ¬ (c.toNat : Int) < 127 := by omega
      clear hp
      go_enter Tryd.func33, Tryd.ntmps33
      go_wp2_with fail
      refine (two_any c _).mono ?_
      rintro e w1 ⟨rfl, hb1⟩
      go_wp2
      go_ret
      refine ⟨ret_str ?_, hb1⟩
      rw [HT.out]
      simp only [ByteArray.data_append, Array.toList_append]
      rfl
    · have p1' : ¬ (32 : Int) < c.toNat := by omega
      clear hp
      go_enter Tryd.func33, Tryd.ntmps33
      go_wp2_with fail
      refine (two_any c _).mono ?_
      rintro e w1 ⟨rfl, hb1⟩
      go_wp2
      go_ret
      refine ⟨ret_str ?_, hb1⟩
      rw [HT.out]
      simp only [ByteArray.data_append, Array.toList_append]
      rfl
end Go.Proofs.YtphgcdmjnmopiaaDoor
