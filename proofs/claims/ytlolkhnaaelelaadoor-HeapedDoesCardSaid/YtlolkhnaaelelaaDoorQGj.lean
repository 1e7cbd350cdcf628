/-
Texts Q25, Q27, one behind the other (a claim bears sixty files). Conditions: as each says.
-/
import Derived.Test.YtlolkhnaaelelaaDoorQGg

/-
Package heap's Make of a vector. No condition but that the heap lies in memory.
-/
namespace Go.Proofs.YtlolkhnaaelelaaDoor.Hp
open Go.ChangeShapes Go.WideShapes Go.ChangeAt Go.RowKit Go.Deep
open Dat (PT ok64 RepV RepS RowX infoDatum NewV NewS makeT make_any MakeOk numT numsT)
set_option maxRecDepth 100000

theorem mayHave_vec (n : Nat) (hn : n ≤ 1000) (w : World) : Calls Tryd.prog 20 #[.int .i64 1, .int .i64 n] w fun e w' => e = .returned (.bool true) ∧ w' = w := by
  have h : (n : Int) ≤ 1000 := by omega
  go_enter Tryd.func20, Tryd.ntmps20
  go_wp2
  go_ret
  exact ⟨rfl, rfl⟩
set_option maxHeartbeats 1000000 in
theorem make_vec_any (l : List PV) (v : Value) (S : Nat → Prop) (hb : Nat) (T : List (Int × List PV)) (F : Nat → Prop) (w : World) (hH : HeapM w hb T F) (hF : ∀ b, F b → b < w.heap.size) (hP : InP w S l v) (hl : l.length ≤ 1000) (hT : T.length ≤ 100000)
    (q : PV × Int × List (Int × List PV)) (hq : q = if l.all (hasB T.length) = true then (⟨8, T.length, ⟨#[]⟩⟩, 0, T ++ [(1, l)]) else (⟨0, 0, ⟨#[]⟩⟩, 1, T)) :
    Calls Tryd.prog 9 #[.pointer (some ⟨hb, 0, none⟩), .int .i64 1, v] w fun e w' => DoOk w hb F q.1 q.2.1 q.2.2 e w' := by
  have Z0 := Lib.hid (heap_alloc_new w (.cells #[.int .i64 0, .int .i64 0, .string ⟨#[]⟩] 36))
  have B0 := Lib.hid ((Below.refl w.heap.size w).alloc (Nat.le_refl _) (.cells #[.int .i64 0, .int .i64 0, .string ⟨#[]⟩] 36))
  have hs0 := size_new w (.cells #[.int .i64 0, .int .i64 0, .string ⟨#[]⟩] 36)
  have HH := Lib.hid hH
  have HF := Lib.hid hF
  have HQ := Lib.hid hq
  have HP := Lib.hid hP
  have KM := Lib.hid (fun W => mayHave_vec l.length hl W)
  have KA := Lib.hid (hasAll_any l v S hb T.length _ (hP.belowP B0.out) (LenM.below hH.len B0.out))
  have KC := Lib.hid (fun W (hW : Below w.heap.size w W) => clone_any l v S W (hP.belowP hW) (by omega))
  obtain ⟨a, c, rfl, h1, h2, h3, h4⟩ := hP
  unfold maxLen at h2
  clear hH hF hq h3 h4
  go_enter Tryd.func9, Tryd.ntmps9
  go_wp2_with fail
  generalize w.alloc (.cells #[.int .i64 0, .int .i64 0, .string ⟨#[]⟩] 36) = w0 at *
  refine (KM.out _).mono ?_
  rintro e w1 ⟨rfl, rfl⟩
  obtain ⟨⟨y0, y1, y2⟩, f0, f1, f2⟩ := look3 Z0.out
  by_cases hall : l.all (hasB T.length) = true
  · rw [hall] at KA
    have HQ1 := Lib.hid (HQ.out.trans (if_pos hall))
    clear hall y0 y1 y2 f0 f1 f2
    go_wp2_with fail
    refine KA.out.mono ?_
    rintro e w2 ⟨rfl, hb2⟩
    have B2 := Lib.hid (B0.out.trans (hb2.mono B0.out.size))
    have Z2 := Lib.hid ((hb2.block w.heap.size (by omega)).trans Z0.out)
    have hs2 : w.heap.size + 1 ≤ w2.heap.size := by have := hb2.size; omega
    clear hb2 KA
    go_wp2_with fail
    refine (KC.out _ B2.out).mono ?_
    rintro e w3 ⟨⟨pv, g, rfl, hp, hg⟩, hb3⟩
    have B3 := B2.out.trans (hb3.mono B2.out.size)
    have hgg : l ≠ [] → w.heap.size + 1 ≤ g ∧ g < w3.heap.size := fun h => by have := hg h; omega
    have KD := Lib.hid (add_any 1 l g pv hb T F w3 (HH.out.below B3) (fun b h => by have := HF.out b h; have := B3.size; omega) ⟨by decide, by decide⟩ hp (fun h => ⟨fun hf => by have := HF.out g hf; have := (hgg h).1; omega, (hgg h).2⟩) hT)
    have HGG := Lib.hid hgg
    have HB3 := Lib.hid B3
    have hs3 : w.heap.size + 1 ≤ w3.heap.size := by have := hb3.size; omega
    have Z3 := Lib.hid ((hb3.block w.heap.size (by omega)).trans Z2.out)
    clear hp hg hb3 B3 hgg
    go_wp2_with fail
    refine KD.out.mono ?_
    rintro e w4 hA
    obtain ⟨rfl, F', q1, q2, q3⟩ := hA.doOk (w := w) HB3.out (fun h => by have := (HGG.out h).1; omega)
    obtain ⟨q4, q5⟩ := q3 w.heap.size (by omega) (fun hf => by have := HF.out _ hf; omega) (fun h e => by have := (HGG.out h).1; omega)
    have E4 := q5.trans Z3.out
    have HS := Lib.hid (put_res q1 q2 q4 (Nat.le_refl _) (.int .i64 8) (.int .i64 T.length) (.string ⟨#[]⟩))
    have HE := Lib.hid (put3 E4 (.int .i64 8) (.int .i64 T.length) (.string ⟨#[]⟩))
    obtain ⟨⟨y0, y1, y2⟩, f0, f1, f2⟩ := look3 E4
    clear hA q1 q2 q3 q4 q5 E4 KD
    go_wp2
    have hE := HE.out
    have hS := HS.out
    clear HE HS
    generalize ((w4.setCell ⟨w.heap.size, 0, none⟩ (.int .i64 8)).setCell ⟨w.heap.size, 1, none⟩ (.int .i64 T.length)).setCell ⟨w.heap.size, 2, none⟩ (.string ⟨#[]⟩) = W at hE hS ⊢
    exact bodyPost_ret (res_ve (t := 7) (p := 6) rfl _ _ w.heap.size _ _ _ rfl hE) rfl (by rw [HQ1.out]; exact ⟨rfl, F', hS.1, hS.2⟩)
  · have hf : l.all (hasB T.length) = false := by simpa using hall
    rw [hf] at KA
    have HQ1 := Lib.hid (HQ.out.trans (if_neg hall))
    clear hall hf y0 y1 y2 f0 f1 f2
    go_wp2_with fail
    refine KA.out.mono ?_
    rintro e w2 ⟨rfl, hb2⟩
    have B2 := Lib.hid (B0.out.trans (hb2.mono B0.out.size))
    have Z2 := Lib.hid ((hb2.block w.heap.size (by omega)).trans Z0.out)
    obtain ⟨⟨y0, y1, y2⟩, f0, f1, f2⟩ := look3 Z2.out
    clear hb2
    go_wp2
    have hE := put3 Z2.out (.int .i64 0) (.int .i64 0) (.string ⟨#[]⟩)
    have hB := put3_below B2.out (Nat.le_refl _) (.int .i64 0) (.int .i64 0) (.string ⟨#[]⟩)
    generalize ((w2.setCell ⟨w.heap.size, 0, none⟩ (.int .i64 0)).setCell ⟨w.heap.size, 1, none⟩ (.int .i64 0)).setCell ⟨w.heap.size, 2, none⟩ (.string ⟨#[]⟩) = W at hE hB ⊢
    exact bodyPost_ret (res_ve (t := 7) (p := 6) rfl _ _ w.heap.size _ _ _ rfl hE) rfl (by rw [HQ1.out]; exact DoOk.of HH.out rfl hB)
end Go.Proofs.YtlolkhnaaelelaaDoor.Hp

/-
The document's SameThing, of two things of one kind and the same parts. No condition but that they lie in memory.
-/
namespace Go.Proofs.YtlolkhnaaelelaaDoor.Hp
open Go.ChangeShapes Go.WideShapes Go.ChangeAt Go.RowKit Go.Deep
open Dat (PT ok64 RepV RepS RowX infoDatum NewV NewS makeT make_any MakeOk numT numsT)
set_option maxRecDepth 100000

set_option maxHeartbeats 1000000 in
theorem sameThing_any (kd : Int) (l : List PV) (v v' : Value) (S S' : Nat → Prop) (w : World) (h : InP w S l v) (h' : InP w S' l v') :
    Calls Tryd.prog 15 #[.agg #[.int .i64 kd, v], .agg #[.int .i64 kd, v']] w fun e w' => e = .returned (.bool true) ∧ Below w.heap.size w w' := by
  have HP := Lib.hid h
  have HP' := Lib.hid h'
  obtain ⟨a, c, rfl, h1, h2, _, _⟩ := h
  obtain ⟨a', c', rfl, h1', h2', _, _⟩ := h'
  unfold maxLen at h2 h2'
  have Za := heap_alloc_new w (.cells #[.int .i64 kd, .slice a l.length c] 43)
  have Ba := (Below.refl w.heap.size w).alloc (Nat.le_refl _) (.cells #[.int .i64 kd, .slice a l.length c] 43)
  have hsa := size_new w (.cells #[.int .i64 kd, .slice a l.length c] 43)
  have Zb := heap_alloc_new (w.alloc (.cells #[.int .i64 kd, .slice a l.length c] 43)) (.cells #[.int .i64 kd, .slice a' l.length c'] 43)
  have Za1 := Lib.hid (blk_skip' (o := .cells #[.int .i64 kd, .slice a' l.length c'] 43) Za)
  have B0 := Lib.hid (Ba.alloc (by omega) (.cells #[.int .i64 kd, .slice a' l.length c'] 43))
  have hs0 := size_new (w.alloc (.cells #[.int .i64 kd, .slice a l.length c] 43)) (.cells #[.int .i64 kd, .slice a' l.length c'] 43)
  rw [hsa] at hs0 Zb
  have Z0 := Lib.hid Zb
  clear Za Ba Zb hsa
  go_enter Tryd.func15, Tryd.ntmps15
  go_wp2
  generalize (w.alloc (.cells #[.int .i64 kd, .slice a l.length c] 43)).alloc (.cells #[.int .i64 kd, .slice a' l.length c'] 43) = w0 at *
  go_loopw [5] (fun x wr => ∃ j : Nat, j ≤ l.length ∧ x = .int .i64 j ∧ Below w0.heap.size w0 wr) (fun x _ => l.length - (intOf x).toNat)
  case atStart => exact ⟨0, Nat.zero_le _, rfl, Below.refl _ _⟩
  case round =>
    obtain ⟨j, hj, rfl, hbr⟩ := hrel
    have HBR := Lib.hid hbr
    have B3 := Lib.hid (B0.out.trans (hbr.mono B0.out.size))
    obtain ⟨⟨x0, x1⟩, -⟩ := look2 ((hbr.block w.heap.size (by omega)).trans Za1.out)
    obtain ⟨⟨y0, y1⟩, -⟩ := look2 ((hbr.block (w.heap.size + 1) (by omega)).trans Z0.out)
    clear hbr
    by_cases hlt : j < l.length
    · obtain ⟨b, o, c2, ea, hs, hbl, hv⟩ := HP.out.cells (by rintro rfl; cases hlt)
      cases ea
      obtain ⟨c0, c1, c2, ok⟩ := hv.item j hlt
      obtain ⟨b', o', c2', ea', hs', hbl', hv'⟩ := HP'.out.cells (by rintro rfl; cases hlt)
      cases ea'
      obtain ⟨d0, d1, d2, _⟩ := hv'.item j hlt
      replace c0 := (B3.out.cell (p := ⟨b, o + j * 3, none⟩) hbl).trans c0
      replace c1 := (B3.out.cell (p := ⟨b, o + j * 3 + 1, none⟩) hbl).trans c1
      replace c2 := (B3.out.cell (p := ⟨b, o + j * 3 + 2, none⟩) hbl).trans c2
      replace d0 := (B3.out.cell (p := ⟨b', o' + j * 3, none⟩) hbl').trans d0
      replace d1 := (B3.out.cell (p := ⟨b', o' + j * 3 + 1, none⟩) hbl').trans d1
      replace d2 := (B3.out.cell (p := ⟨b', o' + j * 3 + 2, none⟩) hbl').trans d2
      generalize l[j] = t at c0 c1 c2 d0 d1 d2
      have hi1 : (j : Int) < (l.length : Int) := by omega
      clear hv hv' ok
      go_wp2
      go_quiet (fail)
      go_wp2
      exact ⟨⟨j + 1, by omega, by go_num, Dat.below_drewN HBR.out _⟩, by simp [intOf]; omega⟩
    · go_wp2
      go_ret
      exact ⟨rfl, B3.out⟩
end Go.Proofs.YtlolkhnaaelelaaDoor.Hp
