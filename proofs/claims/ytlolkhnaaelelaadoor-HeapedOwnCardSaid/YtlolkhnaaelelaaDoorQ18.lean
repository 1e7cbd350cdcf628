/-
Package heap's Tell of what is told so; New, Count. No condition but that the heap lies in memory.
-/
import Derived.Test.YtlolkhnaaelelaaDoorQ17
namespace Go.Proofs.YtlolkhnaaelelaaDoor.Hp
open Go.ChangeShapes Go.WideShapes Go.ChangeAt Go.RowKit Go.Deep
open Dat (PT ok64 RepV RepS RowX infoDatum NewV NewS makeT make_any MakeOk numT numsT)
set_option maxRecDepth 100000

set_option maxHeartbeats 1000000 in
theorem tell_any (k i : Int) (s : ByteArray) (d : PT) (c : Nat) (hb : Nat) (T : List (Int × List PV)) (F : Nat → Prop) (w : World) (hH : HeapM w hb T F) (hF : ∀ b, F b → b < w.heap.size) (hs : s.size ≤ maxLen) (hv : hasB T.length ⟨k, i, s⟩ = true) (h : TellR T 0 ⟨k, i, s⟩ d c) (hc : c ≤ 200) :
    Calls Tryd.prog 16 #[.pointer (some ⟨hb, 0, none⟩), .agg #[.int .i64 k, .int .i64 i, .string s]] w fun e w' => (∃ x, e = .returned (.tuple #[d.val x, .bool true]) ∧ NewV w' w.heap.size d x) ∧ Below w.heap.size w w' := by
  obtain ⟨Z0, Z1, B0⟩ := two_new w (.cells #[.int .i64 k, .int .i64 i, .string s] 36) (.cells #[.int .i64 0, .int .i64 0, .string ⟨#[]⟩, .slice none 0 0] 50)
  have KH := Lib.hid (hv ▸ has_any k i s hb T.length _ hs (LenM.below hH.len B0))
  have hs0 : ((w.alloc (.cells #[.int .i64 k, .int .i64 i, .string s] 36)).alloc (.cells #[.int .i64 0, .int .i64 0, .string ⟨#[]⟩, .slice none 0 0] 50)).heap.size = w.heap.size + 1 + 1 := by rw [size_new, size_new]
  have HH := Lib.hid hH
  have HF := Lib.hid hF
  have HR := Lib.hid h
  have HS0 := Lib.hid hs0
  have HB0 := Lib.hid B0
  have HZ0 := Lib.hid Z0
  have HZ1 := Lib.hid Z1
  clear hH hF hs hv h hs0 Z0 Z1 B0
  go_enter Tryd.func16, Tryd.ntmps16
  go_wp2_with fail
  generalize (w.alloc (.cells #[.int .i64 k, .int .i64 i, .string s] 36)).alloc (.cells #[.int .i64 0, .int .i64 0, .string ⟨#[]⟩, .slice none 0 0] 50) = w0 at *
  refine KH.out.mono ?_
  rintro e w1 ⟨rfl, hb1⟩
  have B1 := HB0.out.trans (hb1.mono HB0.out.size)
  have hs1 : w.heap.size + 1 + 1 ≤ w1.heap.size := by have := hb1.size; have := HS0.out; omega
  obtain ⟨a, cp, hlc, _⟩ := HH.out.len
  have hl1 := (B1.cell (p := ⟨hb, 0, none⟩) (World.block_lt_of_cell? _ _ hlc)).trans hlc
  obtain ⟨⟨x0, x1, x2⟩, -⟩ := look3 ((hb1.block w.heap.size (by rw [HS0.out]; omega)).trans HZ0.out)
  have Y1 := Lib.hid ((hb1.block (w.heap.size + 1) (by rw [HS0.out]; omega)).trans HZ1.out)
  have HB1 := Lib.hid B1
  have HH1 := Lib.hid (HH.out.below B1)
  have HL1 := Lib.hid hl1
  clear hb1 B1 hlc
  have B2 := (Below.refl w1.heap.size w1).alloc (Nat.le_refl _) (.cells #[.slice a T.length cp, .int .i64 0] 89)
  have hnF : ¬ F w1.heap.size := fun hf => by have := HF.out _ hf; have := HB1.out.size; omega
  obtain ⟨F', hF'⟩ : ∃ F' : Nat → Prop, F' = F := ⟨F, rfl⟩
  have KVC : ValC hb w1.heap.size (.slice a T.length cp) T F ⟨k, i, s⟩ 0 d c := value_any (hb := hb) (tb := w1.heap.size) (sv := .slice a T.length cp) hnF (by obtain ⟨_, _, _, _, _, _, h2, _⟩ := HH.out; exact h2) HR.out hc
  have KV := Lib.hid (KVC 0 (w1.alloc (.cells #[.slice a T.length cp, .int .i64 0] 89)) (by omega) (heap_alloc_new w1 _) (HH1.out.below B2) ((B2.cell (p := ⟨hb, 0, none⟩) HH1.out.lt).trans HL1.out))
  have HB2 := Lib.hid B2
  have hs2 : (w1.alloc (.cells #[.slice a T.length cp, .int .i64 0] 89)).heap.size = w1.heap.size + 1 := size_new _ _
  have HS2 := Lib.hid hs2
  have mv2 := new_cells w1 (.cells #[.slice a T.length cp, .int .i64 0] 89) w.heap.size (by omega)
  replace x0 := (mv2 _).trans x0
  replace x1 := (mv2 _).trans x1
  replace x2 := (mv2 _).trans x2
  clear B2 hnF hF' hs2 KVC mv2
  go_wp2_with fail
  generalize w1.alloc (.cells #[.slice a T.length cp, .int .i64 0] 89) = w2 at *
  refine KV.out.mono ?_
  rintro e w3 ⟨⟨x', he, hnew⟩, t3, k3⟩
  obtain ⟨rk, ri, rs, rl⟩ := d
  have hnew' := hnew
  obtain ⟨za, zc, hze, _⟩ := hnew.2.2.2
  subst hze
  change e = .returned (.tuple #[.agg #[.int .i64 rk, .int .i64 ri, .string rs, .slice za rl.length zc], .bool true]) at he
  subst he
  have B3 : Below w1.heap.size w1 w3 := by
    have h0 := (HB2.out.mono (Nat.zero_le _)).trans k3.1
    exact ⟨h0.os, h0.tape, h0.output, h0.size, fun b hb => (k3.2 b (by rw [HS2.out]; omega) (show b ≠ w1.heap.size by omega)).trans (HB2.out.block b hb)⟩
  have E6 := (B3.block (w.heap.size + 1) (by omega)).trans Y1.out
  obtain ⟨⟨y0, y1, y2, y3⟩, f0, f1, f2, f3⟩ := look4 E6
  have HE := Lib.hid (put4 E6 (.int .i64 rk) (.int .i64 ri) (.string rs) (.slice za rl.length zc))
  have HB6 := Lib.hid (put4_below (HB1.out.trans (B3.mono HB1.out.size)) (Nat.le_succ _) (.int .i64 rk) (.int .i64 ri) (.string rs) (.slice za rl.length zc))
  have HN6 : Hid (NewV ((((w3.setCell ⟨w.heap.size + 1, 0, none⟩ (.int .i64 rk)).setCell ⟨w.heap.size + 1, 1, none⟩ (.int .i64 ri)).setCell ⟨w.heap.size + 1, 2, none⟩ (.string rs)).setCell ⟨w.heap.size + 1, 3, none⟩ (.slice za rl.length zc)) w.heap.size (.mk rk ri rs rl) (.slice za rl.length zc)) := Lib.hid (hnew'.move (by rw [HS2.out]; omega) fun b o v hb hv => (World.cell?_of_block (w := w3) (a := ⟨b, o, none⟩) (put4_other _ _ _ _ (show b ≠ w.heap.size + 1 by rw [HS2.out] at hb; omega))).trans hv)
  clear E6 hnew hnew' t3 k3 B3
  go_wp2
  have hE := HE.out
  have hB := HB6.out
  have hN := HN6.out
  clear HE HB6 HN6
  generalize (((w3.setCell ⟨w.heap.size + 1, 0, none⟩ (.int .i64 rk)).setCell ⟨w.heap.size + 1, 1, none⟩ (.int .i64 ri)).setCell ⟨w.heap.size + 1, 2, none⟩ (.string rs)).setCell ⟨w.heap.size + 1, 3, none⟩ (.slice za rl.length zc) = W at hE hB hN ⊢
  exact bodyPost_ret (res_db (t := 5) (p := 4) rfl _ _ (w.heap.size + 1) _ _ _ _ rfl hE) rfl ⟨⟨_, rfl, hN⟩, hB⟩
theorem new_any (w : World) : Calls Tryd.prog 6 #[] w fun e w' => e = .returned (.pointer (some ⟨w.heap.size, 0, none⟩)) ∧ HeapM w' w.heap.size [] (· = w.heap.size) ∧ Below w.heap.size w w' ∧ w.heap.size < w'.heap.size := by
  go_enter Tryd.func6, Tryd.ntmps6
  go_wp2
  go_ret
  refine ⟨rfl, ⟨.slice none 0 0, [], fun _ => 0, fun _ => .slice none 0 0, fun _ => .map none, heap_alloc_new w _, rfl, World.ownsRow_nil _ _ _ _, (fun b h => by cases h), (fun j h => by cases h)⟩, (Below.refl _ _).alloc (Nat.le_refl _) _, by rw [size_new]; omega⟩
theorem count_any (hb : Nat) (T : List (Int × List PV)) (F : Nat → Prop) (w : World) (hH : HeapM w hb T F) :
    Calls Tryd.prog 13 #[.pointer (some ⟨hb, 0, none⟩)] w fun e w' => e = .returned (.int .i64 (T.length : Int)) ∧ w = w' := by
  obtain ⟨a, c, hc, hm⟩ := hH.len
  unfold maxLen at hm
  clear hH
  go_enter Tryd.func13, Tryd.ntmps13
  go_wp2
  go_ret
  exact ⟨rfl, rfl⟩
end Go.Proofs.YtlolkhnaaelelaaDoor.Hp
