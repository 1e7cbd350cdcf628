/-
The size of an expression without kids; the reference to a parameter, in the law of what closures hold. No condition but that the number is small.
-/
import Derived.Test.YtkjgdnfkpebejaaN20
import Derived.Test.YtkjgdnfkpebejaaWNF

namespace Go.Proofs.Ytkjgdnfkpebejaa.Core
open Go.ChangeShapes Go.WideShapes Go.ChangeAt Go.RowKit Go.Deep
open Dat (PT ok64 RowX)
set_option maxRecDepth 100000

theorem size_any (k : Int) (nm : ByteArray) (a1 : Option Addr) (n1 c1 : Nat) (ck ci : Int) (cs : ByteArray) (a2 : Option Addr) (n2 c2 : Nat) (a : Option Addr) (c : Nat) (w : World) :
    Calls Try.prog 17 #[.agg #[.int .i64 k, .string nm, .slice a1 n1 c1, .int .i64 ck, .int .i64 ci, .string cs, .slice a2 n2 c2, .slice a 0 c]] w fun e w' => e = .returned (.int .i64 1) ∧ Below w.heap.size w w' := by
  have HB := Lib.hid ((Below.refl w.heap.size w).alloc (Nat.le_refl _) (.cells #[.int .i64 k, .string nm, .slice a1 n1 c1, .int .i64 ck, .int .i64 ci, .string cs, .slice a2 n2 c2, .slice a 0 c] 28))
  have HZ := Lib.hid (heap_alloc_new w (.cells #[.int .i64 k, .string nm, .slice a1 n1 c1, .int .i64 ck, .int .i64 ci, .string cs, .slice a2 n2 c2, .slice a 0 c] 28))
  go_enter Try.func17, Try.ntmps17
  go_upto_region 1 with fail
  generalize w.alloc (.cells #[.int .i64 k, .string nm, .slice a1 n1 c1, .int .i64 ck, .int .i64 ci, .string cs, .slice a2 n2 c2, .slice a 0 c] 28) = w0 at *
  go_wp2
  go_loopw [3, 4] (fun sv iv wr => sv = .int .i64 1 ∧ iv = .int .i64 0 ∧ wr = w0) (fun _ _ _ => 0)
  case atStart => exact ⟨rfl, rfl, rfl⟩
  case round =>
    obtain ⟨rfl, rfl, rfl⟩ := hrel
    obtain ⟨x0, x1, x2, x3, x4, x5, x6, x7⟩ := look8n HZ.out
    go_wp2
    go_ret
    exact ⟨rfl, HB.out⟩
theorem par_any (i : Nat) (hi : i ≤ 8) (w : World) :
    Calls Try.prog 15 #[.int .i64 (i : Int)] w fun e w' => e = .returned (.agg #[.int .i64 1, .string (nmP i), .slice none 0 0, .int .i64 0, .int .i64 0, .string ⟨#[]⟩, .slice none 0 0, .slice none 0 0]) ∧ Below w.heap.size w w' := by
  obtain ⟨z0, z1, zb⟩ := two_new w (.cells #[.int .i64 0, .string ⟨#[]⟩, .slice none 0 0, .int .i64 0, .int .i64 0, .string ⟨#[]⟩, .slice none 0 0, .slice none 0 0] 28) (.cells #[.int .u8 112, .int .u8 (48 + (i : Int))] 5)
  have hsz : (w.alloc (.cells #[.int .i64 0, .string ⟨#[]⟩, .slice none 0 0, .int .i64 0, .int .i64 0, .string ⟨#[]⟩, .slice none 0 0, .slice none 0 0] 28)).heap.size = w.heap.size + 1 := size_new _ _
  have hcv := run_convert_bytes_back (P := Try.prog) ((w.alloc (.cells #[.int .i64 0, .string ⟨#[]⟩, .slice none 0 0, .int .i64 0, .int .i64 0, .string ⟨#[]⟩, .slice none 0 0, .slice none 0 0] 28)).alloc (.cells #[.int .u8 112, .int .u8 (48 + (i : Int))] 5)) 48 9 5 ⟨w.heap.size + 1, 0, none⟩ 2 [112, UInt8.ofNat (48 + i)] Try.underlying48 Try.underlying5 Try.underlying9 (fun j hj => by
    have hu : ((UInt8.ofNat (48 + i)).toNat : Int) = 48 + (i : Int) := by
      rw [UInt8.toNat_ofNat']
      omega
    match j, hj with
    | 0, _ => rw [add_plain, Lib.cell_of_heap z1]; rfl
    | 1, _ => rw [add_plain, Lib.cell_of_heap z1]; show _ = some (Value.int .u8 ((UInt8.ofNat (48 + i)).toNat : Int)); rw [hu]; rfl)
  obtain ⟨q0, -, qb⟩ := two_new w (.cells #[.int .i64 1, .string (nmP i), .slice none 0 0, .int .i64 0, .int .i64 0, .string ⟨#[]⟩, .slice none 0 0, .slice none 0 0] 28) (.cells #[.int .u8 112, .int .u8 (48 + (i : Int))] 5)
  have HZ9 := Lib.hid q0
  have HB9 := Lib.hid qb
  clear q0 qb
  obtain ⟨y0, y1, y2, y3, y4, y5, y6, y7⟩ := look8n z0
  obtain ⟨f0, f1, f2, f3, f4, f5, f6, f7⟩ := free8n z0
  clear z0 z1 zb hsz
  have hcv' : (convert 48 9 (.slice (some ⟨w.heap.size + 1, 0, none⟩) 2 2)).run Try.prog ((w.alloc (.cells #[.int .i64 0, .string ⟨#[]⟩, .slice none 0 0, .int .i64 0, .int .i64 0, .string ⟨#[]⟩, .slice none 0 0, .slice none 0 0] 28)).alloc (.cells #[.int .u8 112, .int .u8 (48 + (i : Int))] 5)) = .ok (.string (nmP i)) _ := hcv
  clear hcv
  go_enter Try.func15, Try.ntmps15
  go_wp2
  exact bodyPost_ret (results_cell_row (P := Try.prog) rfl _ _ w.heap.size 28 _ (0, 0) _ rfl HZ9.out Try.underlying28 rfl (by kernel_rfl)) rfl ⟨rfl, HB9.out⟩
end Go.Proofs.Ytkjgdnfkpebejaa.Core
