/-
The document's SameAll. No condition.
-/
import Derived.Test.YtiamojpeedllbaaGreatDoorM3
namespace Go.Proofs.YtiamojpeedllbaaGreatDoor.Dat
open Go.ChangeShapes Go.WideShapes Go.ChangeAt Go.RowKit
set_option maxRecDepth 100000

theorem rep_nil (w : World) (B : Nat) : RepS w B [] (.slice none 0 0) := ⟨none, 0, rfl, Nat.le_refl _, Nat.zero_le _, fun _ => rfl, .inl rfl⟩
theorem samePT_mk5 (l m : List PT) : sameB (.mk 0 0 ⟨#[]⟩ l) (.mk 0 0 ⟨#[]⟩ m) = samesB l m := by
  simp [sameB, samesB]
/-- The document's SameAll. -/
theorem sameAll_any (l m : List PT) (va vb : Value) (w : World) (B : Nat) (ha : RepS w B l va) (hb : RepS w B m vb) (hB : B ≤ w.heap.size) :
    Calls Tryz.prog 18 #[va, vb] w fun e w' => e = .returned (.bool (samesB l m)) ∧ Below w.heap.size w w' := by
  have C := same_any (.mk 0 0 ⟨#[]⟩ l) (.mk 0 0 ⟨#[]⟩ m) w B va vb ⟨ok_small (by decide), ok_small (by decide), by decide, ha⟩ ⟨ok_small (by decide), ok_small (by decide), by decide, hb⟩ hB
  rw [samePT_mk5] at C
  obtain ⟨a, c, rfl, _⟩ := ha
  obtain ⟨b, d, rfl, _⟩ := hb
  have HC := Lib.hid C
  clear C
  generalize samesB l m = q at HC ⊢
  go_enter Tryz.func18, Tryz.ntmps18
  go_wp2_with fail
  refine HC.out.mono ?_
  rintro e w1 ⟨rfl, hb1⟩
  go_wp2
  go_ret
  exact ⟨rfl, hb1⟩
end Go.Proofs.YtiamojpeedllbaaGreatDoor.Dat
