/-
The walk of the law HeapedConsts, for every datum. Where the table of what is reckoned is as the program lays it.
-/
import Derived.Test.YtjplfgenobmbnaaDoorQ20
import Derived.Test.YtjplfgenobmbnaaDoorQ21
namespace Go.Proofs.YtjplfgenobmbnaaDoor.Hp
open Go.ChangeShapes Go.WideShapes Go.ChangeAt Go.RowKit Go.Deep
open Dat (PT ok64 RepV RepS RowX infoDatum NewV NewS makeT make_any MakeOk numT numsT)
set_option maxRecDepth 100000

set_option maxHeartbeats 2000000 in
theorem consts_walk (k i : Int) (s : ByteArray) (l : List PT) (x : Value) (w : World) (hx : RepV w w.heap.size (.mk k i s l) x) (hR : RecOk w) :
    Calls Tryd.prog 3 #[.agg #[.int .i64 k, .int .i64 i, .string s, x]] w fun e w' => e = .returned (.bool true) ∧ Below w.heap.size w w' := by
  have HX := Lib.hid hx
  have HR := Lib.hid hR
  have hss := hx.2.2.1
  have HCF := Lib.hid (fun (h : (constT (.mk k i s l)).2 = true) n => const_facts (i := i) hss h n)
  obtain ⟨xa, xc, rfl, hx1, hx2, _⟩ := hx.2.2.2
  have KC := Lib.hid (fun W hW => const_any k i s l (.slice xa l.length xc) W hW)
  have KRC := Lib.hid (fun W hW => rconst_any k i s l (.slice xa l.length xc) W hW)
  generalize constT (.mk k i s l) = r at KC KRC HCF
  obtain ⟨⟨uk, ui, us⟩, ub⟩ := r
  unfold maxLen at hx2
  have A0 := Lib.hid (al w (.cells #[.int .i64 k, .int .i64 i, .string s, .slice xa l.length xc] 24))
  have Z0 := Lib.hid (heap_alloc_new w (.cells #[.int .i64 k, .int .i64 i, .string s, .slice xa l.length xc] 24))
  have S0 := Lib.hid (size_new w (.cells #[.int .i64 k, .int .i64 i, .string s, .slice xa l.length xc] 24))
  clear hx hR hss
  go_enter Tryd.func3, Tryd.ntmps3
  go_wp2_with fail
  generalize w.alloc (.cells #[.int .i64 k, .int .i64 i, .string s, .slice xa l.length xc] 24) = w0 at *
  refine (new_any _).mono ?_
  rintro e w1 ⟨rfl, h1, hb1, hlt1⟩
  have C1 : Hid (Ctx w w0.heap.size [] (· = w0.heap.size) w1) := Lib.hid ⟨h1, fun b e => ⟨by have := S0.out; omega, by omega⟩, A0.out.trans (hb1.mono A0.out.size)⟩
  have L1 : Hid (Loc (· = w0.heap.size) w1 w.heap.size (.cells #[.int .i64 k, .int .i64 i, .string s, .slice xa l.length xc] 24)) := Lib.hid ⟨(hb1.block _ (by have := S0.out; omega)).trans Z0.out, fun e => by have := S0.out; omega⟩
  have X1 : Hid (RepV w1 w1.heap.size (.mk k i s l) (.slice xa l.length xc)) := Lib.hid (Dat.RepV.mono (Dat.RepV.below HX.out C1.out.2.2 (Nat.le_refl _)) C1.out.2.2.size)
  obtain ⟨⟨c0, c1, c2, c3⟩, -⟩ := look4 L1.out.1
  clear h1 hb1 hlt1
  go_wp2_with fail
  refine (KC.out _ X1.out).mono ?_
  rintro e w2 ⟨rfl, hb2⟩
  have C2 := Lib.hid (C1.out.below hb2)
  have L2 := Lib.hid (L1.out.below hb2)
  clear c0 c1 c2 c3 hb2
  have LA := Lib.hid (C2.out.loc (.cells #[.int .i64 uk, .int .i64 ui, .string us] 28))
  have C3 := Lib.hid (C2.out.below (al w2 (.cells #[.int .i64 uk, .int .i64 ui, .string us] 28)))
  have L3 := Lib.hid (L2.out.below (al w2 (.cells #[.int .i64 uk, .int .i64 ui, .string us] 28)))
  have X3 : Hid (RepV (w2.alloc (.cells #[.int .i64 uk, .int .i64 ui, .string us] 28)) (w2.alloc (.cells #[.int .i64 uk, .int .i64 ui, .string us] 28)).heap.size (.mk k i s l) (.slice xa l.length xc)) := Lib.hid (Dat.RepV.mono (Dat.RepV.below HX.out C3.out.2.2 (Nat.le_refl _)) C3.out.2.2.size)
  obtain ⟨⟨c0, c1, c2, c3⟩, -⟩ := look4 L3.out.1
  clear C2 L2 C1 L1 X1
  unfold VB
  go_wp2_with fail
  generalize w2.alloc (.cells #[.int .i64 uk, .int .i64 ui, .string us] 28) = w3 at *
  refine (KRC.out _ X3.out).mono ?_
  rintro e w4 ⟨rfl, hb4⟩
  have C4 := Lib.hid (C3.out.below hb4)
  have L4 := Lib.hid (L3.out.below hb4)
  have LA4 := Lib.hid (LA.out.below hb4)
  clear c0 c1 c2 c3 hb4 C3 L3 X3 LA
  have LB := Lib.hid (C4.out.loc (.cells #[.int .i64 uk, .int .i64 ui, .string us] 28))
  have C5 := Lib.hid (C4.out.below (al w4 (.cells #[.int .i64 uk, .int .i64 ui, .string us] 28)))
  have L5 := Lib.hid (L4.out.below (al w4 (.cells #[.int .i64 uk, .int .i64 ui, .string us] 28)))
  have LA5 := Lib.hid (LA4.out.below (al w4 (.cells #[.int .i64 uk, .int .i64 ui, .string us] 28)))
  have KF := Lib.hid (fixed_any _ (C5.out.rec HR.out))
  clear C4 L4 LA4
  unfold VB
  go_wp2_with fail
  generalize w4.alloc (.cells #[.int .i64 uk, .int .i64 ui, .string us] 28) = w5 at *
  refine KF.out.mono ?_
  rintro e w6 ⟨rfl, hb6⟩
  have C6 := Lib.hid (C5.out.below hb6)
  have L6 := Lib.hid (L5.out.below hb6)
  have LA6 := Lib.hid (LA5.out.below hb6)
  have LB6 := Lib.hid (LB.out.below hb6)
  clear hb6 C5 L5 LA5 LB KF
  obtain ⟨⟨a0, a1, a2⟩, -⟩ := look3 LA6.out.1
  obtain ⟨⟨b0, b1, b2⟩, -⟩ := look3 LB6.out.1
  cases ub
  · go_wp2
    go_ret
    exact ⟨rfl, C6.out.2.2⟩
  · obtain ⟨q1, q2, q3, q4, q5⟩ := HCF.out rfl 0
    have HD : TellR [] 0 ⟨uk, ui, us⟩ (.mk k i s l) 1 := by
      have := TellR.leaf (T := []) 0 ⟨uk, ui, us⟩ (by decide) q2 q3 q4
      rwa [q5] at this
    have KT := Lib.hid (tell_any uk ui us (.mk k i s l) 1 w0.heap.size [] _ w6 C6.out.1 C6.out.lt q4.2.2 q1 HD (by decide))
    clear q1 q2 q3 q4 q5 HD
    go_wp2_with fail
    refine KT.out.mono ?_
    rintro e w7 ⟨⟨x', he, hn⟩, hb7⟩
    have hn' := hn
    obtain ⟨za, zc, hze, _⟩ := hn.2.2.2
    subst hze
    change e = .returned (.tuple #[.agg #[.int .i64 k, .int .i64 i, .string s, .slice za l.length zc], .bool true]) at he
    subst he
    have C7 := Lib.hid (C6.out.below hb7)
    have L7 := Lib.hid (L6.out.below hb7)
    have N7 := Lib.hid hn'.rep
    clear hn hn' hb7 a0 a1 a2 b0 b1 b2
    have A8 := al w7 (.cells #[.int .i64 k, .int .i64 i, .string s, .slice za l.length zc] 24)
    have C8 := Lib.hid (C7.out.below A8)
    have L8 := Lib.hid (L7.out.below A8)
    have LT := Lib.hid (C7.out.loc (.cells #[.int .i64 k, .int .i64 i, .string s, .slice za l.length zc] 24))
    have N8 := Lib.hid (Dat.RepV.mono (Dat.RepV.below N7.out A8 (Nat.le_refl _)) A8.size)
    have X8 := Lib.hid (Dat.RepV.mono (Dat.RepV.below HX.out C8.out.2.2 (Nat.le_refl _)) C8.out.2.2.size)
    have KS0 := Dat.same_any (.mk k i s l) (.mk k i s l) _ _ _ _ N8.out X8.out (Nat.le_refl _)
    rw [Dat.sameB_refl] at KS0
    have KS := Lib.hid KS0
    obtain ⟨⟨c0, c1, c2, c3⟩, -⟩ := look4 L8.out.1
    clear A8 KS0 C7 L7
    go_wp2_with fail
    refine KS.out.mono ?_
    rintro e w9 ⟨rfl, hb9⟩
    have HB9 := Lib.hid ((C8.out.below hb9).2.2)
    clear hb9
    go_wp2
    go_ret
    exact ⟨rfl, HB9.out⟩
end Go.Proofs.YtjplfgenobmbnaaDoor.Hp
