/-
What package data's Text and Show answer, for every datum: Check's error and no text; else the text. Where the table of tens is as the program lays it.
-/
import Derived.Test.YtiamojpeedllbaaGreatDoorD18
namespace Go.Proofs.YtiamojpeedllbaaGreatDoor.Dat
open Go.ChangeShapes Go.WideShapes Go.ChangeAt Go.RowKit
set_option maxRecDepth 100000

/-- The text that is told with no error. -/
def toldT (bare : Bool) (t : PT) : List UInt8 := if checkB t = 0 then textT bare t else []

theorem tell_bad (bare : Bool) (t : PT) (v : Value) (w : World) (B : Nat) (hv : RepV w B t v) (hB : B ≤ w.heap.size) (hc : checkB t ≠ 0) :
    Calls Tryz.prog 25 #[t.val v, .bool bare] w fun e w' => e = .returned (.tuple #[.string ⟨#[]⟩, .int .i64 (checkB t)]) ∧ Below w.heap.size w w' := by
  match t with
  | .mk k i s l =>
    have HV := Lib.hid hv
    obtain ⟨a, c, rfl, _⟩ := hv.2.2.2
    clear hv
    show Calls Tryz.prog 25 #[.agg #[.int .i64 k, .int .i64 i, .string s, .slice a l.length c], .bool bare] w _
    have C := fun o : Obj => check_any (.mk k i s l) _ (w.alloc o) B ⟨HV.out.1, HV.out.2.1, HV.out.2.2.1, HV.out.2.2.2.below ((Below.refl w.heap.size w).alloc (Nat.le_refl _) _) hB⟩ (by simp; omega)
    have hz : (checkB (.mk k i s l) != 0) = true := by simpa using hc
    generalize checkB (.mk k i s l) = r at C hz ⊢
    have HC := Lib.hid C
    clear C hc
    go_enter Tryz.func25, Tryz.ntmps25
    go_wp2_with fail
    refine (HC.out _).mono ?_
    rintro e w1 ⟨rfl, hb1⟩
    go_wp2
    go_ret2
    exact ⟨rfl, ((Below.refl w.heap.size w).alloc (Nat.le_refl _) _).trans (hb1.mono (by simp))⟩

theorem tell_good (bare : Bool) (t : PT) (v : Value) (w : World) (B : Nat) (hv : RepV w B t v) (hB : B ≤ w.heap.size) (h2 : 2 ≤ w.heap.size) (htab : TabOk w) (hc : checkB t = 0) :
    Calls Tryz.prog 25 #[t.val v, .bool bare] w fun e w' => e = .returned (.tuple #[.string ⟨(textT bare t).toArray⟩, .int .i64 0]) ∧ Below w.heap.size w w' := by
  have hok := check_ok t hc
  match t with
  | .mk k i s l =>
    have HV := Lib.hid hv
    obtain ⟨a, c, rfl, _⟩ := hv.2.2.2
    clear hv
    show Calls Tryz.prog 25 #[.agg #[.int .i64 k, .int .i64 i, .string s, .slice a l.length c], .bool bare] w _
    have C := fun o : Obj => check_any (.mk k i s l) _ (w.alloc o) B ⟨HV.out.1, HV.out.2.1, HV.out.2.2.1, HV.out.2.2.2.below ((Below.refl w.heap.size w).alloc (Nat.le_refl _) _) hB⟩ (by simp; omega)
    rw [hc] at C
    have HC := Lib.hid C
    have HOK := Lib.hid hok
    have HTab := Lib.hid htab
    clear C hc hok htab
    go_enter Tryz.func25, Tryz.ntmps25
    go_wp2_with fail
    refine (HC.out _).mono ?_
    rintro e w1 ⟨rfl, hb1⟩
    have g0 := box_cell hb1 0 _ rfl
    have g1 := box_cell hb1 1 _ rfl
    have g2 := box_cell hb1 2 _ rfl
    have g3 := box_cell hb1 3 _ rfl
    have hsz := hb1.size
    simp at g0 g1 g2 g3
    have hsz' : w.heap.size < w1.heap.size := by simp at hsz; omega
    clear hsz
    have hbr : Below w.heap.size w w1 := ((Below.refl w.heap.size w).alloc (Nat.le_refl _) _).trans (hb1.mono (by simp))
    clear hb1
    go_wp2_with fail
    have hT0 : IsTeller w1.heap.size bare [] (w1.alloc (.cells #[.pointer none, .slice none 0 0, .bool bare] 86)) :=
      .inl ⟨.slice none 0 0, heap_alloc_new w1 _, World.ownsRow_nil _ _ _ _, by simp [Value.ownBlock]⟩
    refine (tell_any bare (.mk k i s l) _ B w1.heap.size [] _ ⟨HV.out.1, HV.out.2.1, HV.out.2.2.1, (HV.out.2.2.2.below hbr hB).below ((Below.refl w1.heap.size w1).alloc (Nat.le_refl _) _) (by omega)⟩ (by omega) (by omega) (tabOk_below (tabOk_below HTab.out hbr h2) ((Below.refl w1.heap.size w1).alloc (Nat.le_refl _) _) (by omega)) hT0 HOK.out.1 (by have := HOK.out.2; simp; omega)).mono ?_
    rintro e w2 ⟨rfl, hT2, hb2⟩
    go_wp2_with fail
    refine (string_any _ bare _ _ hT2).mono ?_
    rintro e w3 ⟨rfl, hb3⟩
    go_wp2
    go_ret2
    exact ⟨rfl, ((hbr.alloc (by omega) _).trans (hb2.mono (by omega))).trans (hb3.mono (by omega))⟩

theorem told_any (bare : Bool) (t : PT) (v : Value) (w : World) (B : Nat) (hv : RepV w B t v) (hB : B ≤ w.heap.size) (h2 : 2 ≤ w.heap.size) (htab : TabOk w) :
    Calls Tryz.prog 25 #[t.val v, .bool bare] w fun e w' => e = .returned (.tuple #[.string ⟨(toldT bare t).toArray⟩, .int .i64 (checkB t)]) ∧ Below w.heap.size w w' := by
  unfold toldT
  by_cases hc : checkB t = 0
  · rw [if_pos hc, hc]
    exact tell_good bare t v w B hv hB h2 htab hc
  · rw [if_neg hc]
    exact tell_bad bare t v w B hv hB hc

theorem text_any (t : PT) (v : Value) (w : World) (B : Nat) (hv : RepV w B t v) (hB : B ≤ w.heap.size) (h2 : 2 ≤ w.heap.size) (htab : TabOk w) :
    Calls Tryz.prog 12 #[t.val v] w fun e w' => e = .returned (.tuple #[.string ⟨(toldT false t).toArray⟩, .int .i64 (checkB t)]) ∧ Below w.heap.size w w' := by
  match t with
  | .mk k i s l =>
    have HV := Lib.hid hv
    obtain ⟨a, c, rfl, _⟩ := hv.2.2.2
    clear hv
    show Calls Tryz.prog 12 #[.agg #[.int .i64 k, .int .i64 i, .string s, .slice a l.length c]] w _
    have C := fun o : Obj => told_any false (.mk k i s l) _ (w.alloc o) B ⟨HV.out.1, HV.out.2.1, HV.out.2.2.1, HV.out.2.2.2.below ((Below.refl w.heap.size w).alloc (Nat.le_refl _) _) hB⟩ (by simp; omega) (by simp; omega) (tabOk_below htab ((Below.refl w.heap.size w).alloc (Nat.le_refl _) _) h2)
    generalize toldT false (.mk k i s l) = tx at C ⊢
    generalize checkB (.mk k i s l) = r at C ⊢
    have HC := Lib.hid C
    clear C htab
    go_enter Tryz.func12, Tryz.ntmps12
    go_wp2_with fail
    refine (HC.out _).mono ?_
    rintro e w1 ⟨rfl, hb1⟩
    go_wp2
    go_ret2
    exact ⟨rfl, ((Below.refl w.heap.size w).alloc (Nat.le_refl _) _).trans (hb1.mono (by simp))⟩

end Go.Proofs.YtiamojpeedllbaaGreatDoor.Dat
