/-
The calls whose answers the document fixes: fixed answers true, in every world where the table of tens is as the program lays it.
-/
import Derived.Test.YtphgcdmjnmopiaaDoorD19
namespace Go.Proofs.YtphgcdmjnmopiaaDoor
open Go.ChangeShapes Go.WideShapes Go.ChangeAt Go.RowKit

def fx1 : PT := .mk 5 0 ⟨#[]⟩ [.mk 4 0 ⟨#[97]⟩ [], .mk 3 0 ⟨#[98, 34]⟩ [], .mk 2 32 ⟨#[]⟩ []]
def fx2 : PT := .mk 6 0 ⟨#[]⟩ [.mk 1 1 ⟨#[]⟩ [], .mk 1 (-2) ⟨#[]⟩ []]
def fx3 : PT := .mk 1 0 ⟨#[120]⟩ []
theorem fx1_check : checkB fx1 = 0 := by decide +kernel
theorem fx2_check : checkB fx2 = 0 := by decide +kernel
theorem fx3_check : checkB fx3 = 20 := by decide +kernel
theorem fx1_text : toldT false fx1 = [40, 97, 32, 34, 98, 92, 34, 34, 32, 35, 92, 115, 112, 97, 99, 101, 41] := by decide +kernel
theorem fx1_show : toldT true fx1 = [40, 97, 32, 98, 34, 32, 32, 41] := by decide +kernel
theorem itoa1 : Lib.itoa 1 = [49] := by
  rw [Lib.itoa, if_neg (by omega)]
  show Lib.decDigits 1 = _
  rw [Lib.decDigits]; decide
theorem itoa2 : Lib.itoa (-2) = [45, 50] := by
  rw [Lib.itoa, if_pos (by omega)]
  show 45 :: Lib.decDigits 2 = _
  rw [Lib.decDigits]; decide
theorem fx2_text : toldT false fx2 = [40, 49, 32, 46, 32, 45, 50, 41] := by
  unfold toldT
  rw [if_pos fx2_check]
  unfold fx2
  simp [textT, textsT, shapeT, itoa1, itoa2, joinT, tailJ]
theorem nm1 : nameB [49, 43] = true := by decide +kernel
theorem nm2 : nameB [45, 53] = false := by decide +kernel

theorem rep_none (W : World) (B : Nat) : RepS W B [] (.slice none 0 0) := ⟨none, 0, rfl, Nat.le_refl _, Nat.zero_le _, fun _ => rfl, .inl rfl⟩
theorem ok_small {n : Int} (h : -1000 ≤ n ∧ n ≤ 1000) : ok64 n := by unfold ok64; omega

theorem rep_fx1 (W : World) (B n : Nat) (hb : n < B) (h : W.heap[n]? = some (.cells #[.int .i64 4, .int .i64 0, .string ⟨#[97]⟩, .slice none 0 0, .int .i64 3, .int .i64 0, .string ⟨#[98, 34]⟩, .slice none 0 0, .int .i64 2, .int .i64 32, .string ⟨#[]⟩, .slice none 0 0] 24 (0, 0))) :
    RepV W B fx1 (.slice (some ⟨n, 0, none⟩) 3 3) := by
  refine ⟨ok_small (by decide), ok_small (by decide), by decide, some ⟨n, 0, none⟩, 3, rfl, by decide, by decide, (fun h => by cases h), .inr ⟨n, 0, rfl, hb, ?_⟩⟩
  rw [RepAt, RepAt, RepAt, RepAt]
  refine ⟨repD_mk.2 ⟨ok_small (by decide), ok_small (by decide), by decide, ?_, ?_, ?_, _, ?_, rep_none W B⟩, repD_mk.2 ⟨ok_small (by decide), ok_small (by decide), by decide, ?_, ?_, ?_, _, ?_, rep_none W B⟩, repD_mk.2 ⟨ok_small (by decide), ok_small (by decide), by decide, ?_, ?_, ?_, _, ?_, rep_none W B⟩, trivial⟩
  all_goals (rw [Lib.cell_of_heap h]; rfl)
theorem rep_fx2 (W : World) (B n : Nat) (hb : n < B) (h : W.heap[n]? = some (.cells #[.int .i64 1, .int .i64 1, .string ⟨#[]⟩, .slice none 0 0, .int .i64 1, .int .i64 (-2), .string ⟨#[]⟩, .slice none 0 0] 24 (0, 0))) :
    RepV W B fx2 (.slice (some ⟨n, 0, none⟩) 2 2) := by
  refine ⟨ok_small (by decide), ok_small (by decide), by decide, some ⟨n, 0, none⟩, 2, rfl, by decide, by decide, (fun h => by cases h), .inr ⟨n, 0, rfl, hb, ?_⟩⟩
  rw [RepAt, RepAt, RepAt]
  refine ⟨repD_mk.2 ⟨ok_small (by decide), ok_small (by decide), by decide, ?_, ?_, ?_, _, ?_, rep_none W B⟩, repD_mk.2 ⟨ok_small (by decide), ok_small (by decide), by decide, ?_, ?_, ?_, _, ?_, rep_none W B⟩, trivial⟩
  all_goals (rw [Lib.cell_of_heap h]; rfl)
theorem rep_fx3 (W : World) (B : Nat) : RepV W B fx3 (.slice none 0 0) :=
  ⟨ok_small (by decide), ok_small (by decide), by decide, rep_none W B⟩

/-- The three calls, each in its own world. -/
theorem fixed_text (W : World) (B : Nat) (v : Value) (hv : RepV W B fx1 v) (hB : B ≤ W.heap.size) (h2 : 2 ≤ W.heap.size) (htab : TabOk W) :
    Calls Tryd.prog 14 #[.agg #[.int .i64 5, .int .i64 0, .string ⟨#[]⟩, v]] W fun e w' => e = .returned (.tuple #[.string ⟨#[40, 97, 32, 34, 98, 92, 34, 34, 32, 35, 92, 115, 112, 97, 99, 101, 41]⟩, .int .i64 0]) ∧ Below W.heap.size W w' := by
  have := text_any fx1 v W B hv hB h2 htab
  rw [fx1_text, fx1_check] at this
  exact this
theorem fixed_show (W : World) (B : Nat) (v : Value) (hv : RepV W B fx1 v) (hB : B ≤ W.heap.size) (h2 : 2 ≤ W.heap.size) (htab : TabOk W) :
    Calls Tryd.prog 15 #[.agg #[.int .i64 5, .int .i64 0, .string ⟨#[]⟩, v]] W fun e w' => e = .returned (.tuple #[.string ⟨#[40, 97, 32, 98, 34, 32, 32, 41]⟩, .int .i64 0]) ∧ Below W.heap.size W w' := by
  have := show_any fx1 v W B hv hB h2 htab
  rw [fx1_show, fx1_check] at this
  exact this
theorem fixed_dot (W : World) (B : Nat) (v : Value) (hv : RepV W B fx2 v) (hB : B ≤ W.heap.size) (h2 : 2 ≤ W.heap.size) (htab : TabOk W) :
    Calls Tryd.prog 14 #[.agg #[.int .i64 6, .int .i64 0, .string ⟨#[]⟩, v]] W fun e w' => e = .returned (.tuple #[.string ⟨#[40, 49, 32, 46, 32, 45, 50, 41]⟩, .int .i64 0]) ∧ Below W.heap.size W w' := by
  have := text_any fx2 v W B hv hB h2 htab
  rw [fx2_text, fx2_check] at this
  exact this
theorem fixed_bad (W : World) :
    Calls Tryd.prog 10 #[.agg #[.int .i64 1, .int .i64 0, .string ⟨#[120]⟩, .slice none 0 0]] W fun e w' => e = .returned (.int .i64 20) ∧ Below W.heap.size W w' := by
  have := check_any fx3 _ W 0 (rep_fx3 W 0) (Nat.zero_le _)
  rw [fx3_check] at this
  exact this

set_option maxHeartbeats 2000000 in
theorem fixed_any (w : World) (h2 : 2 ≤ w.heap.size) (htab : TabOk w) : Calls Tryd.prog 9 #[] w fun e w' => e = .returned (.bool true) ∧ Below w.heap.size w w' := by
  have HTab := Lib.hid htab
  have N1 := Lib.hid (fun W => name_any ⟨#[49, 43]⟩ W (by decide))
  have N2 := Lib.hid (fun W => name_any ⟨#[45, 53]⟩ W (by decide))
  rw [show nameB (ByteArray.mk #[49, 43]).data.toList = true from nm1] at N1
  rw [show nameB (ByteArray.mk #[45, 53]).data.toList = false from nm2] at N2
  clear htab
  go_enter Tryd.func9, Tryd.ntmps9
  go_wp2_with fail
  generalize hW : (w.alloc (.cells #[.int .i64 4, .int .i64 0, .string ⟨#[97]⟩, .slice none 0 0] 24)).alloc (.cells #[.int .i64 4, .int .i64 0, .string ⟨#[97]⟩, .slice none 0 0, .int .i64 3, .int .i64 0, .string ⟨#[98, 34]⟩, .slice none 0 0, .int .i64 2, .int .i64 32, .string ⟨#[]⟩, .slice none 0 0] 24) = W0
  have hb0 : Below w.heap.size w W0 := by rw [← hW]; exact ((Below.refl w.heap.size w).alloc (Nat.le_refl _) _).alloc (by simp) _
  have hs0 : W0.heap.size = w.heap.size + 2 := by rw [← hW]; simp
  have hr0 : W0.heap[w.heap.size + 1]? = some (.cells #[.int .i64 4, .int .i64 0, .string ⟨#[97]⟩, .slice none 0 0, .int .i64 3, .int .i64 0, .string ⟨#[98, 34]⟩, .slice none 0 0, .int .i64 2, .int .i64 32, .string ⟨#[]⟩, .slice none 0 0] 24 (0, 0)) := by
    rw [← hW]
    have := heap_alloc_new (w.alloc (.cells #[.int .i64 4, .int .i64 0, .string ⟨#[97]⟩, .slice none 0 0] 24)) (.cells #[.int .i64 4, .int .i64 0, .string ⟨#[97]⟩, .slice none 0 0, .int .i64 3, .int .i64 0, .string ⟨#[98, 34]⟩, .slice none 0 0, .int .i64 2, .int .i64 32, .string ⟨#[]⟩, .slice none 0 0] 24)
    rwa [show (w.alloc (.cells #[.int .i64 4, .int .i64 0, .string ⟨#[97]⟩, .slice none 0 0] 24)).heap.size = w.heap.size + 1 by simp] at this
  clear hW
  have hs1 : W0.heap.size = w.heap.size + 1 + 1 := hs0
  have R0 := rep_fx1 W0 (w.heap.size + 2) (w.heap.size + 1) (by omega) hr0
  have HR := Lib.hid R0
  clear hr0 R0
  refine (fixed_text _ (w.heap.size + 2) _ ⟨HR.out.1, HR.out.2.1, HR.out.2.2.1, HR.out.2.2.2.below ((Below.refl W0.heap.size W0).alloc (Nat.le_refl _) _) (by omega)⟩ (by simp; omega) (by simp; omega) (tabOk_below HTab.out (hb0.alloc (by omega) _) h2)).mono ?_
  rintro e w1 ⟨rfl, hb1⟩
  have g0 := box_cell hb1 0 _ rfl
  have g1 := box_cell hb1 1 _ rfl
  have g2 := box_cell hb1 2 _ rfl
  have g3 := box_cell hb1 3 _ rfl
  rw [hs1] at g0 g1 g2 g3
  simp at g0 g1 g2 g3
  have hsz1 : w.heap.size + 1 + 1 < w1.heap.size := by have := hb1.size; simp at this; omega
  have hb1' : Below w.heap.size w w1 := (hb0.alloc (by omega) _).trans (hb1.mono (by simp; omega))
  have hR1 : RepS w1 (w.heap.size + 2) [.mk 4 0 ⟨#[97]⟩ [], .mk 3 0 ⟨#[98, 34]⟩ [], .mk 2 32 ⟨#[]⟩ []] (.slice (some ⟨w.heap.size + 1, 0, none⟩) 3 3) := HR.out.2.2.2.below (((Below.refl (w.heap.size + 2) W0).alloc (by omega) _).trans (hb1.mono (by simp; omega))) (Nat.le_refl _)
  have HR1 := Lib.hid hR1
  clear hb1 hR1 hs0 hs1 hb0
  go_wp2_with fail
  refine (fixed_show _ (w.heap.size + 2) _ ⟨HR.out.1, HR.out.2.1, HR.out.2.2.1, HR1.out⟩ (by omega) (by omega) (tabOk_below HTab.out hb1' h2)).mono ?_
  rintro e w2 ⟨rfl, hb2⟩
  have hb2' : Below w.heap.size w w2 := hb1'.trans (hb2.mono (by omega))
  have hsz2 : w.heap.size < w2.heap.size := by have := hb2.size; omega
  clear hb2 hsz1 g0 g1 g2 g3 hb1' HR1 HR w1 W0
  go_wp2_with fail
  refine (fixed_dot _ (w2.heap.size + 1) _ (rep_fx2 _ (w2.heap.size + 1) w2.heap.size (Nat.lt_succ_self _) (heap_alloc_new w2 _)) (by simp) (by simp; omega) (tabOk_below HTab.out (hb2'.alloc (by omega) _) h2)).mono ?_
  rintro e w3 ⟨rfl, hb3⟩
  have hb3' : Below w.heap.size w w3 := (hb2'.alloc (by omega) _).trans (hb3.mono (by simp; omega))
  have hsz3 : w.heap.size < w3.heap.size := by have := hb3.size; simp at this; omega
  clear hb3 hsz2 hb2'
  go_wp2_with fail
  refine (fixed_bad _).mono ?_
  rintro e w4 ⟨rfl, hb4⟩
  have hb4' : Below w.heap.size w w4 := hb3'.trans (hb4.mono (by omega))
  clear hb4 hsz3 hb3'
  go_wp2_with fail
  refine (N1.out _).mono ?_
  rintro e w5 ⟨rfl, rfl⟩
  go_wp2_with fail
  refine (N2.out _).mono ?_
  rintro e w5 ⟨rfl, rfl⟩
  go_wp2
  go_ret
  exact ⟨rfl, hb4'⟩
end Go.Proofs.YtphgcdmjnmopiaaDoor
