/-
The law SignReads of layer 3: its walk. Where the two errors of strconv are as the program lays them.
-/
import Derived.Test.YtiamojpeedllbaaDoorU5a
namespace Go.Proofs.YtiamojpeedllbaaDoor
open Go.ChangeShapes Go.WideShapes Go.ChangeAt Go.RowKit

set_option maxRecDepth 100000 in
set_option maxHeartbeats 2000000 in
theorem reads_walk (s : ByteArray) (w : World) (hs : s.size ≤ maxLen) (hE : ErrsOk w) :
    Calls Tryd.prog 3 #[.string s] w fun e w' => e = .returned (.bool true) ∧ Below w.heap.size w w' := by
  have HE := Lib.hid (fun W (h : Below w.heap.size w W) => hE.below h hE.two)
  have C := tokens_any s w hs hE
  have D := fun W => rtokens_any s W hs
  have HF := Lib.hid (fun W h => fixed_any W h)
  have hlen := toks_some s.data.toList
  generalize toksT s.data.toList = q at C D hlen
  obtain ⟨ts, pl, er⟩ := q
  simp only at hlen
  have HC := Lib.hid C
  have HD := Lib.hid D
  have HLEN := Lib.hid hlen
  clear C D hlen hE hs
  go_enter Tryd.func3, Tryd.ntmps3
  go_wp2_with fail
  refine HC.out.mono ?_
  rintro e w1 ⟨⟨v, rfl, o1⟩, hb1⟩
  have B1 := Lib.hid hb1
  have O1 := Lib.hid o1.at
  clear o1 hb1
  go_wp2_with fail
  refine (HD.out w1).mono ?_
  rintro e w2 ⟨⟨u, rfl, o2⟩, hb2⟩
  have B2 := Lib.hid (B1.out.trans (hb2.mono B1.out.size))
  have O2 := Lib.hid o2.at
  have O1' := Lib.hid (O1.out.below hb2 (Nat.le_refl _))
  clear o2 hb2
  go_wp2_with fail
  refine (HF.out w2 (HE.out w2 B2.out)).mono ?_
  rintro e w3 ⟨rfl, hb3⟩
  have B3 := Lib.hid (B2.out.trans (hb3.mono B2.out.size))
  have O1'' := Lib.hid (O1'.out.below hb3 (Nat.le_refl _))
  have O2'' := Lib.hid (O2.out.below hb3 (Nat.le_refl _))
  clear hb3
  go_wp2_with fail
  refine (same_any ts v u w3 O1''.out O2''.out HLEN.out).mono ?_
  rintro e w4 ⟨rfl, hb4⟩
  have B4 := Lib.hid (B3.out.trans (hb4.mono B3.out.size))
  clear hb4
  go_wp2
  go_ret
  exact ⟨rfl, B4.out⟩
end Go.Proofs.YtiamojpeedllbaaDoor
