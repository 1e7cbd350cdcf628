/-
Rows of tokens in memory, and the contract of package lex's Tokens, for every string; where the two errors of strconv are as the program lays them.
-/
import Derived.Test.YtiamojpeedllbaaGreatDoorT14
import Derived.Laws.OwnMore
import Derived.Laws.AppendOwnNone
namespace Go.Proofs.YtiamojpeedllbaaGreatDoor
open Go.ChangeShapes Go.WideShapes Go.ChangeAt Go.RowKit

theorem infoTok : (Tryz.prog.info? 33).map (fun i => (i.zero, i.size, i.bytes)) = some (some (.agg #[.int .i64 0, .string ⟨#[]⟩, .int .i64 0, .int .i64 0, .int .i64 0]), 5, 48) := by kernel_rfl

def TkP.cells (q : TkP) : List Value := [.int .i64 q.t.kind, .string ⟨q.t.text.toArray⟩, .int .i64 q.t.int, .int .i64 (q.a : Int), .int .i64 (q.b : Int)]
def cellsOf (ts : List TkP) : List Value := ts.flatMap TkP.cells
theorem cellsOf_len (ts : List TkP) : (cellsOf ts).length = ts.length * 5 := by
  induction ts with
  | nil => rfl
  | cons q ts ih => simp [cellsOf, TkP.cells] at ih ⊢; omega
theorem cellsOf_app (a b : List TkP) : cellsOf (a ++ b) = cellsOf a ++ cellsOf b := by simp [cellsOf]
theorem cellsOf_one (q : TkP) : cellsOf [q] = q.cells := by simp [cellsOf]
theorem cellsOf_cell (ts : List TkP) : ∀ u ∈ cellsOf ts, u.oneCell' = true := by
  intro u hu
  simp only [cellsOf, List.mem_flatMap] at hu
  obtain ⟨q, _, hu⟩ := hu
  simp only [TkP.cells, List.mem_cons, List.not_mem_nil, or_false] at hu
  rcases hu with rfl | rfl | rfl | rfl | rfl <;> rfl

/-- A row of tokens that the call has made itself. -/
def TokOwn (w : World) (base : Nat) (ts : List TkP) (v : Value) : Prop := w.ownsRow base 33 5 v ts.length (cellsOf ts)
theorem tokOwn_nil (w : World) (base : Nat) : TokOwn w base [] (.slice none 0 0) := World.ownsRow_nil _ _ _ _
theorem TokOwn.moved {w w' : World} {base : Nat} {ts : List TkP} {v : Value} (h : TokOwn w base ts v) (hb : Below w.heap.size w w') : TokOwn w' base ts v := by
  refine World.ownsRow.kept (row := none) h ⟨hb.os, hb.tape, hb.output, hb.size, fun k hk _ => hb.block k hk⟩ ?_
  cases hv : v.ownBlock <;> simp
theorem TokOwn.shape {w : World} {base : Nat} {ts : List TkP} {v : Value} (h : TokOwn w base ts v) : ∃ a c, v = .slice a ts.length c := by
  rcases h.2 with ⟨rfl, h0⟩ | ⟨g, cap, cur, rfl, _⟩
  · exact ⟨none, 0, by rw [h0]⟩
  · exact ⟨some ⟨g, 0, none⟩, cap, rfl⟩

/-- What Tokens answers. -/
def ToksOk (q : List TkP × Nat × Int) (base : Nat) (e : Ending) (w' : World) : Prop := ∃ v, e = .returned (.tuple #[v, .int .i64 (q.2.1 : Int), .int .i64 q.2.2]) ∧ TokOwn w' base q.1 v

/-- The fields of a struct in a block of its own, set one by one. -/
theorem tok_set2 {w : World} {g : Nat} {x0 x1 x2 x3 x4 : Value} (hb : w.heap[g]? = some (.cells #[x0, x1, x2, x3, x4] 33 (0, 0))) (y3 y4 : Value) :
    ((w.setCell ⟨g, 3, none⟩ y3).setCell ⟨g, 4, none⟩ y4).heap[g]? = some (.cells #[x0, x1, x2, y3, y4] 33 (0, 0)) :=
  heap_setCell_same _ g 4 _ 33 y4 (heap_setCell_same w g 3 _ 33 y3 hb)

theorem drop_tail {l y g : List UInt8} (h : l = y ++ g) : l.drop (l.length - g.length) = g := by
  subst h
  simp
theorem gap_drop (l : List UInt8) (j : Nat) : l.drop (l.length - (gapS false (l.drop j)).length) = gapS false (l.drop j) := by
  obtain ⟨x, hx⟩ := gapS_suffix false (l.drop j)
  exact drop_tail (y := l.take j ++ x) (by rw [List.append_assoc, ← hx, List.take_append_drop])
/-- What is read of the rest, behind what has been read. -/
def Going (l : List UInt8) (R : List TkP × Nat × Int) (ts : List TkP) (k : Nat) : Prop :=
  R = (ts ++ (runT l.length ts.length (l.drop k)).1, (runT l.length ts.length (l.drop k)).2)
theorem Going.start (l : List UInt8) : Going l (runT l.length 0 (gapS false l)) [] (l.length - (gapS false (l.drop 0)).length) := by
  unfold Going
  rw [gap_drop, List.drop_zero]
  simp
theorem Going.many {l : List UInt8} {R : List TkP × Nat × Int} {ts : List TkP} {k : Nat} (h : Going l R ts k) (hk : k < l.length) (hc : ts.length = 2048) : R.2 = (k, 34) := by
  unfold Going at h
  rw [h, hc]
  cases hd : l.drop k with
  | nil => have := congrArg List.length hd; rw [List.length_drop] at this; simp at this; omega
  | cons c r =>
    rw [runT_many]
    have := congrArg List.length hd
    rw [List.length_drop, List.length_cons] at this
    simp only
    congr 1; omega
theorem Going.bad {l : List UInt8} {R : List TkP × Nat × Int} {ts : List TkP} {k : Nat} (h : Going l R ts k) (hk : k < l.length) (hc : ts.length ≠ 2048) (he : (oneT (l.drop k)).2.2 ≠ 0) : R.2 = (k, (oneT (l.drop k)).2.2) := by
  unfold Going at h
  rw [h]
  cases hd : l.drop k with
  | nil => have := congrArg List.length hd; rw [List.length_drop] at this; simp at this; omega
  | cons c r =>
    rw [hd] at he
    rw [runT_bad _ _ c r hc he]
    have := congrArg List.length hd
    rw [List.length_drop, List.length_cons] at this
    simp only
    congr 1; omega
theorem Going.next {l : List UInt8} {R : List TkP × Nat × Int} {ts : List TkP} {k : Nat} (h : Going l R ts k) (hk : k < l.length) (hc : ts.length ≠ 2048) (he : (oneT (l.drop k)).2.2 = 0) :
    Going l R (ts ++ [⟨(oneT (l.drop k)).1, k, k + (oneT (l.drop k)).2.1⟩]) (l.length - (gapS false (l.drop (k + (oneT (l.drop k)).2.1))).length) := by
  unfold Going at h ⊢
  have hne : l.drop k ≠ [] := by
    intro e
    have := congrArg List.length e
    rw [List.length_drop] at this; simp at this; omega
  have e0 : l.length - (l.drop k).length = k := by rw [List.length_drop]; omega
  rw [h, runT_rest _ _ _ hne hc he, gap_drop, e0]
  have : restT (l.drop k) = gapS false (l.drop (k + (oneT (l.drop k)).2.1)) := by unfold restT; rw [List.drop_drop]
  rw [this, List.length_append]
  simp
theorem Going.done {l : List UInt8} {R : List TkP × Nat × Int} {ts : List TkP} (h : Going l R ts l.length) : R = (ts, 0, 0) := by
  unfold Going at h
  rw [h, List.drop_length, runT]
  simp
theorem toks_of {l : List UInt8} (hl : l.length ≤ 4096) : toksT l = if (runT l.length 0 (gapS false l)).2.2 = 0 then ((runT l.length 0 (gapS false l)).1, 0, 0) else ([], (runT l.length 0 (gapS false l)).2) := by
  unfold toksT; rw [if_neg (by omega)]

set_option maxRecDepth 100000 in
theorem tokens_long (s : ByteArray) (w : World) (h : 4096 < s.size) (hs : s.size ≤ maxLen) :
    Calls Tryz.prog 13 #[.string s] w fun e w' => ToksOk (toksT s.data.toList) w.heap.size e w' ∧ Below w.heap.size w w' := by
  have ht : toksT s.data.toList = ([], 0, 35) := by unfold toksT; rw [if_pos (by rw [len_data]; exact h)]
  rw [ht]
  unfold maxLen at hs
  have h' : (4096 : Int) < (s.size : Int) := by omega
  clear ht
  go_enter Tryz.func13, Tryz.ntmps13
  go_wp2
  go_ret3
  exact ⟨⟨_, rfl, tokOwn_nil _ _⟩, Below.refl _ _⟩

set_option maxRecDepth 100000 in
set_option maxHeartbeats 2000000 in
theorem tokens_go (s : ByteArray) (w : World) (hs : s.size ≤ 4096) (hE : ErrsOk w) :
    Calls Tryz.prog 13 #[.string s] w fun e w' => ToksOk (toksT s.data.toList) w.heap.size e w' ∧ Below w.heap.size w w' := by
  obtain ⟨i0, hi, hz0, hz1, hz2⟩ := info_parts infoTok
  have HL := Lib.hid (len_data s)
  have HE := Lib.hid (fun W (h : Below w.heap.size w W) => hE.below h hE.two)
  have HG := Lib.hid (fun k W (h : k ≤ s.size) => goOver_any s k W (by unfold maxLen; omega) h)
  obtain ⟨R, hR⟩ : ∃ R, R = runT s.data.toList.length 0 (gapS false s.data.toList) := ⟨_, rfl⟩
  obtain ⟨T, hT⟩ : ∃ T, T = toksT s.data.toList := ⟨_, rfl⟩
  have HT : Hid (T = if R.2.2 = 0 then (R.1, 0, 0) else ([], R.2)) := Lib.hid (by rw [hT, hR]; exact toks_of (by rw [HL.out]; exact hs))
  have G0 : Hid (Going s.data.toList R [] (s.size - (gapS false (s.data.toList.drop 0)).length)) := Lib.hid (by rw [hR, ← HL.out]; exact Going.start _)
  rw [← hT]
  have HG0 : Hid (∀ W, Calls Tryz.prog 26 #[.string s, .int .i64 0] W fun e w' => e = .returned (.int .i64 ((s.size - (gapS false (s.data.toList.drop 0)).length : Nat) : Int)) ∧ W = w') := Lib.hid (fun W => HG.out 0 W (Nat.zero_le _))
  have hk0 : s.size - (gapS false (s.data.toList.drop 0)).length ≤ s.size := Nat.sub_le _ _
  clear hT hR hE
  go_enter Tryz.func13, Tryz.ntmps13
  go_wp2_with (go_at_call 26; ((with_reducible refine (HG0.out _).mono ?_); rintro e w' ⟨rfl, rfl⟩))
  go_loopw [5, 6] (fun v i wr => ∃ (k : Nat) (ts : List TkP), k ≤ s.size ∧ i = .int .i64 k ∧ ts.length ≤ 2048 ∧ TokOwn wr w.heap.size ts v ∧ Below w.heap.size w wr ∧ Going s.data.toList R ts k) (fun _ i _ => s.size - (intOf i).toNat)
  case atStart => exact ⟨_, [], hk0, rfl, by simp, tokOwn_nil _ _, Below.refl _ _, G0.out⟩
  case round =>
    obtain ⟨k, ts, hk, rfl, hts, hown, hbr, hgo⟩ := hrel
    have HO := Lib.hid hown
    have HB := Lib.hid hbr
    have HGO := Lib.hid hgo
    obtain ⟨a, c, rfl⟩ := hown.shape
    clear hown hbr hgo
    by_cases hlt : k < s.size
    · have hll : k < s.data.toList.length := by rw [HL.out]; exact hlt
      by_cases hm : ts.length = 2048
      · have HF : Hid (T = ([], k, 34)) := Lib.hid (by
          have := HGO.out.many hll hm
          rw [HT.out, this]; rfl)
        have hm' : ((ts.length : Int) == 2048) = true := by rw [hm]; rfl
        clear hm hll
        go_wp2
        go_ret3
        exact ⟨⟨_, by rw [HF.out]; rfl, by rw [HF.out]; exact tokOwn_nil _ _⟩, HB.out⟩
      · have hm' : ((ts.length : Int) == 2048) = false := by simp; omega
        have hki : (k : Int) ≤ (s.size : Int) := by omega
        have hx : (s.extract k s.size).data.toList = s.data.toList.drop k := by rw [extract_list, List.take_of_length_le (by rw [List.length_drop, HL.out]; omega)]
        have C := first_any (s.extract k s.size) wr (by simp; omega) (by simp; omega) (HE.out wr HB.out)
        rw [hx] at C
        by_cases he : (oneT (s.data.toList.drop k)).2.2 = 0
        · have hn := oneT_len he
          rw [List.length_drop, HL.out] at hn
          have hgn := HGO.out.next hll hm he
          rw [HL.out] at hgn
          have GN := Lib.hid hgn
          unfold TokV Tk.val at C
          rw [he] at C
          have hle := gapS_le false (s.data.toList.drop (k + (oneT (s.data.toList.drop k)).2.1))
          rw [List.length_drop, HL.out] at hle
          clear hgn
          generalize oneT (s.data.toList.drop k) = q at C GN hn hle
          obtain ⟨t, n, er⟩ := q
          simp only at C GN hn hle
          have H := Lib.hid C
          have HLT : Hid (k + n ≤ s.size) := Lib.hid (by omega)
          have hn1 : 1 ≤ n := hn.1
          have hkn : k + n ≤ s.size := by omega
          have HGN : Hid (∀ W, Calls Tryz.prog 26 #[.string s, .int .i64 ((k : Int) + (n : Int))] W fun e w' => e = .returned (.int .i64 ((s.size - (gapS false (s.data.toList.drop (k + n))).length : Nat) : Int)) ∧ W = w') := Lib.hid (fun W => HG.out (k + n) W hkn)
          obtain ⟨K, hK⟩ : ∃ K, K = s.size - (gapS false (s.data.toList.drop (k + n))).length := ⟨_, rfl⟩
          have hK1 : k + n ≤ K := by omega
          have hK2 : K ≤ s.size := by omega
          rw [← hK] at HGN GN
          clear C hx he hn hll hle hK
          go_wp2_with fail
          refine H.out.mono ?_
          rintro e w1 ⟨rfl, hb1⟩
          have O1 := Lib.hid (HO.out.moved hb1)
          have B1 := Lib.hid (HB.out.trans (hb1.mono HB.out.size))
          have hsz1 : w.heap.size ≤ w1.heap.size := B1.out.size
          have HAB : Hid (Below w1.heap.size w1 ((w1.alloc (.cells #[.int .i64 t.kind, .string ⟨t.text.toArray⟩, .int .i64 t.int, .int .i64 (k : Int), .int .i64 ((k : Int) + (n : Int))] 33)).alloc (.cells #[.int .i64 t.kind, .string ⟨t.text.toArray⟩, .int .i64 t.int, .int .i64 (k : Int), .int .i64 ((k : Int) + (n : Int))] 33))) := Lib.hid (((Below.refl _ _).alloc (Nat.le_refl _) _).alloc (by simp) _)
          have OW : Hid (((w1.alloc (.cells #[.int .i64 t.kind, .string ⟨t.text.toArray⟩, .int .i64 t.int, .int .i64 (k : Int), .int .i64 ((k : Int) + (n : Int))] 33)).alloc (.cells #[.int .i64 t.kind, .string ⟨t.text.toArray⟩, .int .i64 t.int, .int .i64 (k : Int), .int .i64 ((k : Int) + (n : Int))] 33)).ownsRow w.heap.size 33 5 (.slice a ts.length c) ts.length (cellsOf ts)) := Lib.hid (O1.out.moved HAB.out)
          have HNE : Hid (∀ g, (Value.slice a ts.length c).ownBlock = some g → w.heap.size ≤ g ∧ g < w1.heap.size) := Lib.hid (fun g hg => World.ownsRow.lt (w := w1) O1.out g hg)
          clear hb1
          go_wp2_with (at_builtin; refine wpList_append_own _ rfl _ _ 29 rfl w.heap.size 33 i0 _ 5 48 Tryz.underlying29 hi hz0 hz1 hz2 rfl (by decide) _ _ _ rfl OW.out ⟨w1.heap.size + 1, 0, none⟩ 1 1 [.int .i64 t.kind, .string ⟨t.text.toArray⟩, .int .i64 t.int, .int .i64 (k : Int), .int .i64 ((k : Int) + (n : Int))] rfl rfl ?c1 ?c2 ?c3 ?c4 ?c5 ?_)
          case c1 =>
            intro j u hj
            have hnew : ((w1.alloc (.cells #[.int .i64 t.kind, .string ⟨t.text.toArray⟩, .int .i64 t.int, .int .i64 (k : Int), .int .i64 ((k : Int) + (n : Int))] 33)).alloc (.cells #[.int .i64 t.kind, .string ⟨t.text.toArray⟩, .int .i64 t.int, .int .i64 (k : Int), .int .i64 ((k : Int) + (n : Int))] 33)).heap[w1.heap.size + 1]? = some (.cells #[.int .i64 t.kind, .string ⟨t.text.toArray⟩, .int .i64 t.int, .int .i64 (k : Int), .int .i64 ((k : Int) + (n : Int))] 33 (0, 0)) := by
              have := heap_alloc_new (w1.alloc (.cells #[.int .i64 t.kind, .string ⟨t.text.toArray⟩, .int .i64 t.int, .int .i64 (k : Int), .int .i64 ((k : Int) + (n : Int))] 33)) (.cells #[.int .i64 t.kind, .string ⟨t.text.toArray⟩, .int .i64 t.int, .int .i64 (k : Int), .int .i64 ((k : Int) + (n : Int))] 33)
              simpa using this
            rw [add_plain, Nat.zero_add, Lib.cell_of_heap hnew]
            simpa using hj
          case c2 =>
            intro u hu
            simp only [List.mem_cons, List.not_mem_nil, or_false] at hu
            rcases hu with rfl | rfl | rfl | rfl | rfl <;> rfl
          case c3 => unfold maxLen; omega
          case c4 => omega
          case c5 => simp; omega
          intro v' w2 hown' hgrow _
          have hb2 : w2.heap[w1.heap.size]? = some (.cells #[.int .i64 t.kind, .string ⟨t.text.toArray⟩, .int .i64 t.int, .int .i64 (k : Int), .int .i64 ((k : Int) + (n : Int))] 33 (0, 0)) := by
            rw [hgrow.block w1.heap.size (by simp; omega) (fun e => by have := (HNE.out _ e.symm).2; omega), Lib.alloc_old _ _ _ (by simp)]
            exact heap_alloc_new w1 _
          have d4 : w2.cell? ⟨w1.heap.size, 4, none⟩ = some (.int .i64 ((k : Int) + (n : Int))) := by rw [Lib.cell_of_heap hb2]; rfl
          have O2 : Hid (TokOwn w2 w.heap.size (ts ++ [⟨t, k, k + n⟩]) v') := Lib.hid (by
            unfold TokOwn
            rw [cellsOf_app, cellsOf_one, List.length_append]
            exact hown')
          have B2 : Hid (Below w.heap.size w w2) := Lib.hid ((B1.out.trans (HAB.out.mono B1.out.size)).grown hgrow (by simp; omega) (fun g hg => (HNE.out g hg).1))
          clear hown' hgrow hb2
          go_wp2_with (go_at_call 26; ((with_reducible refine (HGN.out _).mono ?_); rintro e w' ⟨rfl, rfl⟩))
          go_roundw
          case rel => exact ⟨K, ts ++ [⟨t, k, k + n⟩], hK2, rfl, by simp; omega, O2.out, B2.out, GN.out⟩
          case measure => simp [intOf]; omega
        · have HF : Hid (T = ([], k, (oneT (s.data.toList.drop k)).2.2)) := Lib.hid (by
            have := HGO.out.bad hll hm he
            rw [HT.out, this, if_neg he])
          unfold TokV Tk.val at C
          generalize oneT (s.data.toList.drop k) = q at C HF he
          obtain ⟨t, n, er⟩ := q
          simp only at C HF he
          have H := Lib.hid C
          have he' : (er != 0) = true := by simpa using he
          clear C hx he hll
          go_wp2_with fail
          refine H.out.mono ?_
          rintro e w1 ⟨rfl, hb1⟩
          have B1 := Lib.hid (HB.out.trans (hb1.mono HB.out.size))
          have hsz1 : w.heap.size ≤ w1.heap.size := B1.out.size
          clear hb1
          go_wp2
          go_ret3
          exact ⟨⟨_, by rw [HF.out]; rfl, by rw [HF.out]; exact tokOwn_nil _ _⟩, B1.out.alloc hsz1 _⟩
    · obtain rfl : k = s.size := by omega
      have HF : Hid (T = (ts, 0, 0)) := Lib.hid (by
        have := HGO.out
        rw [← HL.out] at this
        have := this.done
        rw [HT.out, this]; rfl)
      go_wp2
      go_ret3
      exact ⟨⟨_, by rw [HF.out]; rfl, by rw [HF.out]; exact HO.out⟩, HB.out⟩

theorem tokens_any (s : ByteArray) (w : World) (hs : s.size ≤ maxLen) (hE : ErrsOk w) :
    Calls Tryz.prog 13 #[.string s] w fun e w' => ToksOk (toksT s.data.toList) w.heap.size e w' ∧ Below w.heap.size w w' := by
  by_cases h : 4096 < s.size
  · exact tokens_long s w h hs
  · exact tokens_go s w (by omega) hE
end Go.Proofs.YtiamojpeedllbaaGreatDoor
