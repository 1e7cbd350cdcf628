/-
A map of the call's own from texts to slices, as a function of texts; package core's isVariable, boundFrom, numbered. No condition.
-/
import Derived.Test.YtkjgdnfkpebejaaWKB
import Derived.Test.YtkjgdnfkpebejaaK6
import Derived.Test.YtkjgdnfkpebejaaShelfI
import Derived.Lib.ItoaLen

namespace Go.Proofs.Ytkjgdnfkpebejaa.Core
open Go.ChangeShapes Go.WideShapes Go.ChangeAt Go.RowKit Go.Deep
open Go.Maps (Keyed IsMap)
open Dat (PT ok64)
set_option maxRecDepth 100000

/-- Each element reads as itself. -/
def RV (v : Value) : Option (DataW Value × List MemPlace) := some (.held v, [])
theorem zeroSl (w : World) : (zeroValue 47).run Try.prog w = .ok (.slice none 0 0) w := by kernel_rfl
/-- The map in block b holds just what f says. -/
def MapV (w : World) (b n : Nat) (f : ByteArray → Value) : Prop := ∃ D : DataW Value, w.ownsMap Try.prog 9 RV b n D ∧ ∀ s : ByteArray, s.size ≤ maxLen → D.atKey (.string s.data.toList) (.held (.slice none 0 0)) = .held (f s)
theorem MapV.made (w : World) : MapV (w.alloc (.map #[] 0)) w.heap.size 0 (fun _ => .slice none 0 0) := ⟨_, World.ownsMap_made _ _ _ _, fun _ _ => rfl⟩
theorem MapV.mono {w : World} {b n n' : Nat} {m : ByteArray → Value} (h : MapV w b n m) (hn : n ≤ n') : MapV w b n' m := let ⟨D, h1, h2⟩ := h; ⟨D, h1.mono hn, h2⟩
theorem MapV.kept {w w' : World} {b n : Nat} {m : ByteArray → Value} (h : MapV w b n m) {row : Option Nat} (hg : w.grownBy w' row) (hne : some b ≠ row) : MapV w' b n m := let ⟨D, h1, h2⟩ := h; ⟨D, h1.kept hg hne, h2⟩
theorem MapV.at {w w' : World} {b n : Nat} {m : ByteArray → Value} (h : MapV w b n m) (hb : w'.heap[b]? = w.heap[b]?) : MapV w' b n m := by
  obtain ⟨D, ⟨es, clock, h1, h2⟩, h3⟩ := h
  exact ⟨D, ⟨es, clock, hb.trans h1, h2⟩, h3⟩
theorem MapI.at {w w' : World} {b n : Nat} {m : ByteArray → Option Int} (h : MapI w b n m) (hb : w'.heap[b]? = w.heap[b]?) : MapI w' b n m := by
  obtain ⟨D, ⟨es, clock, h1, h2⟩, h3⟩ := h
  exact ⟨D, ⟨es, clock, hb.trans h1, h2⟩, h3⟩
theorem MapV.alloc {w : World} {b n : Nat} {m : ByteArray → Value} (h : MapV w b n m) (o : Obj) : MapV (w.alloc o) b n m := let ⟨D, h1, h2⟩ := h; ⟨D, h1.alloc o, h2⟩
theorem MapV.lt {w : World} {b n : Nat} {m : ByteArray → Value} (h : MapV w b n m) : b < w.heap.size := let ⟨_, h1, _⟩ := h; h1.lt
theorem MapV.ext {w : World} {b n : Nat} {m m' : ByteArray → Value} (h : MapV w b n m) (hm : ∀ s, s.size ≤ maxLen → m s = m' s) : MapV w b n m' := let ⟨D, h1, h2⟩ := h; ⟨D, h1, fun s hs => by rw [← hm s hs]; exact h2 s hs⟩
def setV (m : ByteArray → Value) (s : ByteArray) (v : Value) : ByteArray → Value := fun t => if t = s then v else m t
theorem MapI.look {w : World} {b n : Nat} {m : ByteArray → Option Int} (h : MapI w b n m) (s : ByteArray) (hs : s.size ≤ maxLen) : (Instr.lookup 68 (.map (some b)) (.string s) false).run Try.prog w = .ok (.int .i64 ((m s).getD 0)) w := by
  obtain ⟨D, h1, h2⟩ := h
  obtain ⟨c, hrun, hat, _⟩ := h1.lookup_int lawT Try.underlying68 Try.underlying3 (zeroI w) (key_s hs)
  rw [(h2 s hs).1] at hat
  cases hat
  exact hrun
theorem isVariable_any (k : Int) (nm : ByteArray) (vn : Value) (ck ci : Int) (cs : ByteArray) (vd vk : Value) (w : World) :
    Calls Try.prog 52 #[.agg #[.int .i64 k, .string nm, vn, .int .i64 ck, .int .i64 ci, .string cs, vd, vk]] w fun e w' => e = .returned (.bool (decide (k = 1) || decide (k = 2))) ∧ Below w.heap.size w w' := by
  go_enter Try.func52, Try.ntmps52
  go_wp2
  all_goals
    go_ret
    refine ⟨ret_bool ?_, (Below.refl _ _).alloc (Nat.le_refl _) _⟩
    rw [Bool.eq_iff_iff]
    simp [*]
/-- The place of the first kid in which the names are bound. -/
def fromT (k : Int) (n : Nat) : Nat := if k = 5 ∨ k = 9 ∨ k = 10 then 0 else if k = 8 then n - 1 else n
theorem boundFrom_any (k : Int) (nm : ByteArray) (vn : Value) (ck ci : Int) (cs : ByteArray) (vd : Value) (ak : Option Addr) (n c : Nat) (w : World) (hn : n ≤ c) (hm : c ≤ maxLen) :
    Calls Try.prog 53 #[.agg #[.int .i64 k, .string nm, vn, .int .i64 ck, .int .i64 ci, .string cs, vd, .slice ak n c]] w fun e w' => e = .returned (.int .i64 (fromT k n : Nat)) ∧ Below w.heap.size w w' := by
  unfold maxLen at hm
  by_cases h5 : k = 5 ∨ k = 9 ∨ k = 10
  · have HF : Hid (fromT k n = 0) := Lib.hid (by unfold fromT; rw [if_pos h5])
    rcases h5 with rfl | rfl | rfl
    all_goals
      go_enter Try.func53, Try.ntmps53
      go_wp2
      go_ret
      exact ⟨Dat.ret_i64 (by rw [HF.out]; rfl), (Below.refl _ _).alloc (Nat.le_refl _) _⟩
  by_cases h8 : k = 8
  · subst h8
    have HF : Hid (fromT 8 n = n - 1) := Lib.hid (by unfold fromT; rw [if_neg h5, if_pos rfl])
    clear h5
    go_enter Try.func53, Try.ntmps53
    go_wp2
    all_goals
      go_ret
      exact ⟨Dat.ret_i64 (by rw [HF.out]; omega), (Below.refl _ _).alloc (Nat.le_refl _) _⟩
  · have HF : Hid (fromT k n = n) := Lib.hid (by unfold fromT; rw [if_neg h5, if_neg h8])
    have b5 : (k == 5) = false := by simp; omega
    have b9 : (k == 9) = false := by simp; omega
    have b10 : (k == 10) = false := by simp; omega
    have b8 : (k == 8) = false := by simp; omega
    clear h5 h8
    go_enter Try.func53, Try.ntmps53
    go_wp2
    go_ret
    exact ⟨Dat.ret_i64 (by rw [HF.out]), (Below.refl _ _).alloc (Nat.le_refl _) _⟩
/-- A number's name. -/
def numS (n : Nat) : ByteArray := ⟨([118, 46] ++ Lib.itoa (n : Int)).toArray⟩
theorem numS_app (n : Nat) : (⟨#[118, 46]⟩ : ByteArray) ++ ⟨(Lib.itoa (n : Int)).toArray⟩ = numS n := by
  apply Go.WideShapes.bytes_inj
  simp [numS, ByteArray.data_append]
end Go.Proofs.Ytkjgdnfkpebejaa.Core
