/-
What a teller of package data writes of rows, lists, dotted data, data. A text of at most 2^47 bytes.
-/
import Derived.Test.YtiamojpeedllbaaGreatDoorD15
import Derived.Deep.RegionHeld3
namespace Go.Proofs.YtiamojpeedllbaaGreatDoor.Dat
open Go.ChangeShapes Go.WideShapes Go.ChangeAt Go.RowKit
set_option maxRecDepth 100000

theorem tabOk_below {w w' : World} {C : Nat} (h : TabOk w) (hb : Below C w w') (hC : 2 ≤ C) : TabOk w' := by
  obtain ⟨T, fr, ht⟩ := h
  exact ⟨T, fr, (hb.block 0 (by omega)).trans ht⟩

/-- What is no row of bytes, and not the teller, is as it was. -/
def Others (tb : Nat) (w w' : World) : Prop := ∀ (q : Nat) (x : Array Value) (T : TypeId) (fr : Nat × Nat), T ≠ 5 → q ≠ tb → w.heap[q]? = some (.cells x T fr) → w'.heap[q]? = some (.cells x T fr)

theorem copyCheckK (tb : Nat) (bare : Bool) (l : List UInt8) (w : World) (h : IsTeller tb bare l w) :
    Calls Tryz.prog 60 #[.pointer (some ⟨tb, 0, none⟩)] w fun e w' => e = .returned (.tuple #[]) ∧ TellerAt tb bare (.pointer (some ⟨tb, 0, none⟩)) l w' ∧ Below tb w w' ∧ ∀ q, q ≠ tb → w'.heap[q]? = w.heap[q]? := by
  rcases h with h | h
  · obtain ⟨c0, _, f0, sh, _⟩ := h.cell
    refine (copyCheck_fresh tb w c0 sh f0).mono ?_
    rintro e w' ⟨rfl, rfl⟩
    exact ⟨rfl, h.used _, (Below.refl tb w).setCell (p := ⟨tb, 0, none⟩) (Nat.le_refl _) _, fun q hq => Below.heap_setCell _ _ _ _ hq⟩
  · refine (copyCheck_used tb w h.cell.1).mono ?_
    rintro e w' ⟨rfl, rfl⟩
    exact ⟨rfl, h, Below.refl tb _, fun _ _ => rfl⟩

set_option maxHeartbeats 1000000 in
set_option maxRecDepth 100000 in
theorem putByteK (tb : Nat) (bare : Bool) (l : List UInt8) (c : Int) (c8 : UInt8) (hc : c = (c8.toNat : Int)) (w : World) (h : IsTeller tb bare l w) (hlen : l.length + 1 ≤ 140737488355328) :
    Calls Tryz.prog 39 #[.pointer (some ⟨tb, 0, none⟩), .int .u8 c] w fun e w' => e = .returned .nilIface ∧ IsTeller tb bare (l ++ [c8]) w' ∧ Below tb w w' ∧ Others tb w w' := by
  obtain ⟨i0, hi, hz0, hz1, hz2⟩ := info_parts infoByte
  have htbw := h.cells.2
  have HC := Lib.hid hc
  clear hc
  go_enter Tryz.func39, Tryz.ntmps39
  go_wp2_with (go_at_call 60; refine (copyCheckK tb bare l _ h).mono ?_)
  rintro e w1 ⟨rfl, ⟨v, hbk, hown, hne⟩, hb1, hoth⟩
  have HO := Lib.hid hoth
  clear hoth
  have c0 : w1.cell? ⟨tb, 0, none⟩ = some (.pointer (some ⟨tb, 0, none⟩)) := by rw [Lib.cell_of_heap hbk]; rfl
  have c1 : w1.cell? ⟨tb, 1, none⟩ = some v := by rw [Lib.cell_of_heap hbk]; rfl
  have hlt : tb < w1.heap.size := lt_of_block hbk
  go_wp2_with (at_builtin; refine wpList_append_own _ rfl _ _ 35 rfl tb 5 i0 (.int .u8 0) 1 1 Tryz.underlying35 hi hz0 hz1 hz2 rfl (by decide) _ _ _ rfl (hown.alloc _) ⟨w1.heap.size, 0, none⟩ 1 1 [.int .u8 c] rfl rfl ?c1 ?c2 ?c3 ?c4 ?c5 ?_)
  case c1 =>
    intro j u hj
    match j, hj with
    | 0, hj => simp at hj; subst hj; simp [Addr.add]
  case c2 => intro u hu; simp at hu; subst hu; rfl
  case c3 => unfold maxLen; omega
  case c4 => omega
  case c5 => simp; omega
  intro v' w2 hown' hgrow _
  have hoth : Others tb w w2 := by
    intro q x T fr hT hq hx
    have hq1 : w1.heap[q]? = some (.cells x T fr) := (HO.out q hq).trans hx
    rw [hgrow.block q (by have := lt_of_block hq1; simp; omega) (fun e => Lib.ownBlock_ne hown hq1 hT e.symm), Lib.alloc_old w1 _ q (lt_of_block hq1)]
    exact hq1
  have HO2 := Lib.hid hoth
  clear hoth
  have hb2 : w2.heap[tb]? = some (.cells #[.pointer (some ⟨tb, 0, none⟩), v, .bool bare] 86 (0, 0)) := by
    rw [hgrow.block tb (by simp; omega) (fun e => hne e.symm), Lib.alloc_old w1 _ tb hlt]
    exact hbk
  have d0 : w2.cell? ⟨tb, 0, none⟩ = some (.pointer (some ⟨tb, 0, none⟩)) := by rw [Lib.cell_of_heap hb2]; rfl
  have d1 : w2.cell? ⟨tb, 1, none⟩ = some v := by rw [Lib.cell_of_heap hb2]; rfl
  have f1 : w2.frozen? ⟨tb, 1, none⟩ = false := Lib.frozen_of_heap hb2 1
  obtain ⟨g, cap, rfl⟩ : ∃ g cap, v' = .slice (some ⟨g, 0, none⟩) (l.length + 1) cap := by
    rcases hown'.2 with ⟨_, h0⟩ | ⟨g, cap, cur, hv, _⟩
    · omega
    · exact ⟨g, cap, hv⟩
  go_wp2
  go_ret
  rw [HC.out] at hown'
  refine ⟨rfl, .inr ?_, ?_, ?_⟩
  · exact teller_put hb2 (by simpa [Lib.byteCells_append, Lib.byteCells] using hown')
  · exact ((hb1.alloc (by omega) _).grown hgrow (by simp; omega) (fun k hk => (hown.lt k hk).1)).setCell (p := ⟨tb, 1, none⟩) (Nat.le_refl _) _
  · intro q x T fr hT hq hx
    exact (Below.heap_setCell _ _ _ _ hq).trans (HO2.out q x T fr hT hq hx)

def TellOk (bare : Bool) (t : PT) : Prop := ∀ (w : World) (B tb : Nat) (acc : List UInt8) (v : Value), RepV w B t v → B ≤ tb → 2 ≤ tb → TabOk w → IsTeller tb bare acc w → FormOk t → acc.length + roomT t ≤ 140737488355328 →
  Calls Tryz.prog 49 #[.pointer (some ⟨tb, 0, none⟩), t.val v] w (Wrote tb bare (acc ++ textT bare t) w)

theorem row_any (bare : Bool) (l : List PT) (ih : ∀ t ∈ l, TellOk bare t) (w : World) (B tb : Nat) (acc : List UInt8) (v : Value) (hv : RepS w B l v) (hB : B ≤ tb) (h2 : 2 ≤ tb) (htab : TabOk w) (hT : IsTeller tb bare acc w) (hf : FormsOk l) (hlen : acc.length + roomsT l ≤ 140737488355328) :
    Calls Tryz.prog 97 #[.pointer (some ⟨tb, 0, none⟩), v] w (Wrote tb bare (acc ++ joinT (textsT bare l)) w) := by
  obtain ⟨a, c, rfl, hl, hm, hna, hr⟩ := hv
  unfold maxLen at hm
  rcases hr with rfl | ⟨b, o, rfl, hb, hr⟩
  · go_enter Tryz.func97, Tryz.ntmps97
    go_wp2
    refine wp_loop_rounds 1 ?_
    rw [rounds_succ]
    go_wp2
    go_end0
    exact ⟨rfl, by simpa [textsT, joinT] using hT, Below.refl _ _⟩
  · have IH := Lib.hid ih
    have HR := Lib.hid hr
    have HF := Lib.hid hf
    have HTab := Lib.hid htab
    have hlt := hT.cells.2
    clear ih hr hf htab
    go_enter Tryz.func97, Tryz.ntmps97
    go_wp2
    go_loopw [8] (fun i wr => ∃ j : Nat, j ≤ l.length ∧ i = .int .i64 j ∧ IsTeller tb bare (acc ++ joinT ((textsT bare l).take j)) wr ∧ Below tb w wr) (fun i _ => l.length - (intOf i).toNat)
    case atStart => exact ⟨0, Nat.zero_le _, rfl, by simpa [joinT] using hT, Below.refl _ _⟩
    case round =>
      obtain ⟨j, hj, rfl, hTr, hbr⟩ := hrel
      by_cases hlt' : j < l.length
      · obtain ⟨k', i', s', m, v', hjl, ok1, ok2, hs', d0, d1, d2, d3, hv'⟩ := repAt_item (HR.out.below hbr hB hb) hlt'
        have hbs : b < wr.heap.size := World.block_lt_of_cell? _ _ d0
        have hroom := row_room bare l j HF.out
        have hget := roomsT_get l j hlt'
        have htx := textsT_get bare l j hlt'
        rw [hjl] at hget htx
        have hL : TellOk bare (.mk k' i' s' m) := by
          have := IH.out l[j] (List.getElem_mem _)
          rwa [hjl] at this
        have hF : FormOk (.mk k' i' s' m) := by
          have := formsOk_get HF.out l[j] (List.getElem_mem _)
          rwa [hjl] at this
        have HV := Lib.hid hv'
        have HFF := Lib.hid hF
        have HX := Lib.hid htx
        have HLL := Lib.hid hL
        obtain ⟨a', c', rfl, _⟩ := hv'
        clear hjl hF htx hL
        have hsz := hbr.size
        have hltr := hTr.cells.2
        have HTr := Lib.hid hTr
        clear hTr
        by_cases hj0 : j = 0
        · have hj0' : ¬ (0 : Int) < (j : Int) := by omega
          have HJ := Lib.hid hj0
          clear hj0
          go_wp2_with fail
          refine (HLL.out _ B tb _ _ ⟨ok1, ok2, hs', HV.out.below (((Below.refl tb wr)).alloc (by omega) _) hB⟩ hB h2 (tabOk_below HTab.out (hbr.alloc (by omega) _) h2) (HTr.out.moved ((Below.refl _ _).alloc (Nat.le_refl _) _)) HFF.out (by simp; omega)).mono ?_
          rintro e w2 ⟨rfl, hT2, hb2⟩
          go_wp2
          go_roundw
          case rel =>
            refine ⟨j + 1, by omega, by go_num, ?_, (hbr.alloc (by omega) _).trans hb2⟩
            have hj0 := HJ.out
            subst hj0
            rw [joinT_take0 _ (by rw [textsT_len]; omega), HX.out]
            simpa [joinT] using hT2
          case measure => simp [intOf]; omega
        · have hj0' : (0 : Int) < (j : Int) := by omega
          go_wp2_with fail
          refine (putByteK tb bare _ _ 32 rfl _ (HTr.out.moved ((Below.refl _ _).alloc (Nat.le_refl _) _)) (by simp; omega)).mono ?_
          rintro e w2 ⟨rfl, hT2, hb2, ho2⟩
          have hbox := ho2 wr.heap.size _ 28 (0, 0) (by decide) (by omega) (heap_alloc_new wr _)
          have g0 : w2.cell? ⟨wr.heap.size, 0, none⟩ = some (.int .i64 k') := by rw [Lib.cell_of_heap hbox]; rfl
          have g1 : w2.cell? ⟨wr.heap.size, 1, none⟩ = some (.int .i64 i') := by rw [Lib.cell_of_heap hbox]; rfl
          have g2 : w2.cell? ⟨wr.heap.size, 2, none⟩ = some (.string s') := by rw [Lib.cell_of_heap hbox]; rfl
          have g3 : w2.cell? ⟨wr.heap.size, 3, none⟩ = some (.slice a' m.length c') := by rw [Lib.cell_of_heap hbox]; rfl
          clear hbox ho2
          have hbr2 : Below tb w w2 := (hbr.alloc (by omega) _).trans hb2
          have hb22 : Below tb wr w2 := ((Below.refl tb wr).alloc (by omega) _).trans hb2
          clear hb2
          go_wp2_with fail
          refine (HLL.out _ B tb _ _ ⟨ok1, ok2, hs', HV.out.below hb22 hB⟩ hB h2 (tabOk_below HTab.out hbr2 h2) hT2 HFF.out (by simp; omega)).mono ?_
          rintro e w3 ⟨rfl, hT3, hb3⟩
          go_wp2
          go_roundw
          case rel =>
            refine ⟨j + 1, by omega, by go_num, ?_, hbr2.trans hb3⟩
            rw [joinT_take _ j (by omega) (by rw [textsT_len]; omega), HX.out]
            simpa using hT3
          case measure => simp [intOf]; omega
      · obtain rfl : j = l.length := by omega
        rw [List.take_of_length_le (by rw [textsT_len]; omega)] at hTr
        go_wp2
        go_end0
        exact ⟨rfl, hTr, hbr⟩
end Go.Proofs.YtiamojpeedllbaaGreatDoor.Dat
