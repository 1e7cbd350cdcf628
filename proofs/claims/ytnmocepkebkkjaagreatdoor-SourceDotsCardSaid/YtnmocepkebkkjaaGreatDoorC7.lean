/-
A row of bytes that a call has made itself, marked or not: append of a string to it, the string of it. No condition.
-/
import Derived.Test.YtnmocepkebkkjaaGreatDoorC5
import Derived.Laws.IdiomStrings
import Derived.Laws.IdiomCopy
import Derived.Lib.FrozenHead
import Derived.Lib.ConvBytes
import Derived.Lib.SlBytesConst
import Derived.Lib.SmallJoins
namespace Go.Proofs.YtnmocepkebkkjaaGreatDoor
open Go.ChangeShapes Go.WideShapes Go.ChangeAt Go.RowKit

/-- The slice v is of the bytes l, in a block from C on; all that it may grow into is there, and may be written. -/
def BufB (w : World) (C : Nat) (l : List UInt8) (v : Value) : Prop :=
  ∃ g cap, v = .slice (some ⟨g, 0, none⟩) l.length cap ∧ C ≤ g ∧ l.length ≤ cap ∧ cap ≤ maxLen ∧ (∀ j, j < cap → (w.cell? ⟨g, j, none⟩).isSome = true) ∧ (∀ j, j < cap → w.frozen? ⟨g, j, none⟩ = false) ∧
    (∀ j (h : j < l.length), w.cell? ⟨g, j, none⟩ = some (.int .u8 (l[j].toNat : Int))) ∧ g < w.heap.size
theorem BufB.moved {w w' : World} {C B : Nat} {l : List UInt8} {v : Value} (h : BufB w C l v) (hb : Below B w w') (hB : w.heap.size ≤ B) : BufB w' C l v := by
  obtain ⟨g, cap, e, h1, h2, h3, h4, h5, h6, h7⟩ := h
  have hk := hb.block g (by omega)
  have hc : ∀ j, w'.cell? ⟨g, j, none⟩ = w.cell? ⟨g, j, none⟩ := fun j => World.cell?_of_block hk
  have hf : ∀ j, w'.frozen? ⟨g, j, none⟩ = w.frozen? ⟨g, j, none⟩ := fun j => by simp only [World.frozen?]; rw [hk]
  exact ⟨g, cap, e, h1, h2, h3, fun j hj => by rw [hc]; exact h4 j hj, fun j hj => by rw [hf]; exact h5 j hj, fun j hj => by rw [hc]; exact h6 j hj, Nat.lt_of_lt_of_le h7 hb.size⟩
/-- A new one. -/
theorem buf_new (w : World) (s : ByteArray) (hs : s.size ≤ 1000) : BufB (Lib.bytesWorld w 5 s) w.heap.size s.data.toList (.slice (some ⟨w.heap.size, 0, none⟩) s.size (grownCap w s.size 0 5)) := by
  have hl : s.data.toList.length = s.size := Array.length_toList
  have hge := grownCap_ge w s.size 0 5
  have hcm : grownCap w s.size 0 5 ≤ maxLen := grownCap_le_maxLen w s.size 0 5 (by unfold maxLen; omega)
  have hnew := Lib.bytesWorld_at_new w 5 s
  have hsz : (Lib.bytesCells w 5 s).size = grownCap w s.size 0 5 := by
    simp [Lib.bytesCells]
    omega
  refine ⟨w.heap.size, _, by rw [hl], Nat.le_refl _, by rw [hl]; exact hge, hcm, fun j hj => ?_, fun j hj => ?_, fun j hj => ?_, by rw [Lib.bytesWorld_size]; omega⟩
  · have hj' : j < (Lib.bytesCells w 5 s).size := by omega
    simp [World.cell?, hnew, hj']
  · simp only [World.frozen?, hnew, Bool.and_eq_false_iff, decide_eq_false_iff_not]
    left
    omega
  · have := Lib.bytesWorld_cell w 5 s j (by omega)
    rw [this]
    simp [List.getD, List.getElem?_eq_getElem hj]
/-- One that a literal of one byte lays. -/
theorem buf_const (w : World) (C : Nat) (hC : C ≤ w.heap.size) (c : UInt8) : BufB (w.alloc (.cells #[.int .u8 (c.toNat : Int)] 5 (1, 2))) C [c] (.slice (some ⟨w.heap.size, 0, none⟩) 1 1) := by
  have hnew := heap_alloc_new w (.cells #[.int .u8 (c.toNat : Int)] 5 (1, 2))
  refine ⟨w.heap.size, 1, rfl, hC, Nat.le_refl _, by decide, fun j hj => ?_, fun j hj => ?_, fun j hj => ?_, by rw [size_new]; omega⟩
  · obtain rfl : j = 0 := by omega
    simp only [World.cell?]
    rw [hnew]
    rfl
  · obtain rfl : j = 0 := by omega
    simp only [World.frozen?]
    rw [hnew]
    rfl
  · simp only [List.length_cons, List.length_nil] at hj
    obtain rfl : j = 0 := by omega
    simp only [World.cell?]
    rw [hnew]
    rfl
theorem BufB.shape {w : World} {C : Nat} {l : List UInt8} {v : Value} (h : BufB w C l v) : ∃ g cap, v = .slice (some ⟨g, 0, none⟩) l.length cap := by
  obtain ⟨g, cap, e, _⟩ := h
  exact ⟨g, cap, e⟩
/-- append of a string. -/
theorem run_append_buf (w : World) (C : Nat) (l : List UInt8) (v : Value) (h : BufB w C l v) (s : ByteArray) (ty : TypeId) (hlen : l.length + s.size ≤ 140737488355328) (hC : C ≤ w.heap.size) :
    ∃ v' w', (Builtin.append_ #[39, 9] ty #[v, .string s]).run Tryz.prog w = .ok v' w' ∧ BufB w' C (l ++ s.data.toList) v' ∧ Below C w w' := by
  obtain ⟨i0, hi, hz0, hz1, hz2⟩ := info_parts Dat.infoByte
  obtain ⟨g, cap, rfl, h1, h2, h3, h4, h5, h6, h7⟩ := h
  have hsl : (Lib.strCells s).length = s.size := Lib.strCells_length s
  have hdl : s.data.toList.length = s.size := Array.length_toList
  by_cases hroom : l.length + s.size ≤ cap
  · have hf := Lib.run_firstCells_string (P := Tryz.prog) w 1 s
    have hst := run_storeCells_cells (P := Tryz.prog) g l.length (Lib.strCells s) 0 w (fun j hj => h4 _ (by omega)) (fun j hj => h5 _ (by omega)) (Lib.strCells_oneCell s)
    simp only [Nat.add_zero] at hst
    have hr : (Builtin.append_ #[39, 9] ty #[.slice (some ⟨g, 0, none⟩) l.length cap, .string s]).run Tryz.prog w = .ok (.slice (some ⟨g, 0, none⟩) (l.length + s.size) cap) (w.setCells g l.length (Lib.strCells s)) := by
      simp [Builtin.append_, run_underlying Tryz.underlying39, run_underlying Tryz.underlying9, sizeOf, typeInfo, hi, hz1, Builtin.lenOf, hroom, hf, Addr.add_lit, hst]
    have hbl : ∀ (vs : List Value) (o : Nat) (W : World), (∀ k, k ≠ g → (W.setCells g o vs).heap[k]? = W.heap[k]?) ∧ (W.setCells g o vs).heap.size = W.heap.size ∧ (W.setCells g o vs).os = W.os ∧ (W.setCells g o vs).tape = W.tape ∧ (W.setCells g o vs).output = W.output := by
      intro vs
      induction vs with
      | nil => intro o W; exact ⟨fun _ _ => rfl, rfl, rfl, rfl, rfl⟩
      | cons x vs ih =>
        intro o W
        obtain ⟨a1, a2, a3, a4, a5⟩ := ih (o + 1) (W.setCell ⟨g, o, none⟩ x)
        rw [World.setCells]
        exact ⟨fun k hk => (a1 k hk).trans (Below.heap_setCell _ _ _ _ hk), a2.trans (size_put _ _ _), a3, a4, a5⟩
    obtain ⟨a1, a2, a3, a4, a5⟩ := hbl (Lib.strCells s) l.length w
    refine ⟨_, _, hr, ⟨g, cap, by rw [List.length_append, hdl], h1, by rw [List.length_append, hdl]; exact hroom, h3, fun j hj => ?_, fun j hj => ?_, fun j hj => ?_, by rw [a2]; exact h7⟩, ⟨a3, a4, a5, by omega, fun k hk => a1 k (by omega)⟩⟩
    · by_cases hin : l.length ≤ j ∧ j < l.length + s.size
      · have := World.cell?_setCells_in g (Lib.strCells s) l.length w (fun j hj => h4 _ (by omega)) (j - l.length) (by omega)
        rw [show l.length + (j - l.length) = j by omega] at this
        rw [this]; rfl
      · rw [World.cell?_setCells_out g (Lib.strCells s) l.length w ⟨g, j, none⟩ (fun _ _ => by simp only []; omega)]; exact h4 j hj
    · rw [World.frozen?_setCells]; exact h5 j hj
    · rw [List.length_append, hdl] at hj
      by_cases hin : l.length ≤ j
      · have := World.cell?_setCells_in g (Lib.strCells s) l.length w (fun j hj => h4 _ (by omega)) (j - l.length) (by omega)
        rw [show l.length + (j - l.length) = j by omega] at this
        rw [this, List.getElem_append_right hin]
        simp [Lib.strCells]
      · rw [World.cell?_setCells_out g (Lib.strCells s) l.length w ⟨g, j, none⟩ (fun _ _ => by simp only []; omega), h6 j (by omega), List.getElem_append_left (by omega)]
  · have holds : ∀ j u, (Lib.byteCells l)[j]? = some u → w.cell? ((⟨g, 0, none⟩ : Addr).add j) = some u := fun j u hu => by
      rw [add_plain, Nat.zero_add]
      have hj : j < l.length := by
        have := (List.getElem?_eq_some_iff.1 hu).1
        simpa [Lib.byteCells] using this
      rw [h6 j hj]
      simpa [Lib.byteCells, List.getElem?_eq_getElem hj] using hu
    have hbc : (Lib.byteCells l).length = l.length := Lib.byteCells_length l
    have hr := Lib.run_append_grow_string (P := Tryz.prog) w 39 9 ty 5 i0 (.int .u8 0) Tryz.underlying39 Tryz.underlying9 hi hz0 ⟨g, 0, none⟩ l.length cap (Lib.byteCells l) (by rw [hz1, hbc, Nat.mul_one]) holds s (by omega) (by omega) (by rw [hz2]; exact growslice_fits (by omega) (by omega))
    have hge := grownCap_ge w (l.length + s.size) cap 5
    have hcm2 : grownCap w (l.length + s.size) cap 5 ≤ maxLen := grownCap_le_maxLen w (l.length + s.size) cap 5 (by unfold maxLen; omega)
    generalize grownCap w (l.length + s.size) cap 5 = cap2 at hr hge hcm2
    have hz : (Value.int IntKind.u8 0).cells.size = 1 := rfl
    have hnew := heap_alloc_new w.drew (.cells ((Lib.byteCells l).toArray ++ (Lib.strCells s).toArray ++ Builtin.zeroCells (Value.int IntKind.u8 0).cells (cap2 - (l.length + s.size))) 5)
    have hsz : ((Lib.byteCells l).toArray ++ (Lib.strCells s).toArray ++ Builtin.zeroCells (Value.int IntKind.u8 0).cells (cap2 - (l.length + s.size))).size = cap2 := by
      simp only [Array.size_append, List.size_toArray, size_zeroCells, hz, hbc, hsl]; omega
    have hsw : w.drew.heap.size = w.heap.size := rfl
    rw [hsw] at hnew
    have hall : Lib.byteCells l ++ Lib.strCells s = Lib.byteCells (l ++ s.data.toList) := by rw [Lib.byteCells_append, Lib.strCells_eq]
    refine ⟨_, _, hr, ⟨w.heap.size, cap2, by rw [List.length_append, hdl], hC, by rw [List.length_append, hdl]; exact hge, hcm2, fun j hj => ?_, fun j hj => Lib.frozen_of_heap hnew j, fun j hj => ?_, by rw [size_new]; show w.heap.size < w.heap.size + 1; omega⟩, ((Below.refl C w).drew).alloc (by exact hC) _⟩
    · rw [Lib.cell_of_heap hnew]
      have : j < ((Lib.byteCells l).toArray ++ (Lib.strCells s).toArray ++ Builtin.zeroCells (Value.int IntKind.u8 0).cells (cap2 - (l.length + s.size))).size := by omega
      rw [Array.getElem?_eq_getElem this]; rfl
    · rw [Lib.cell_of_heap hnew]
      have e : ((Lib.byteCells l).toArray ++ (Lib.strCells s).toArray ++ Builtin.zeroCells (Value.int IntKind.u8 0).cells (cap2 - (l.length + s.size)))[j]? = (Lib.byteCells (l ++ s.data.toList))[j]? := by
        rw [Array.getElem?_append_left (by simp only [Array.size_append, List.size_toArray, hbc, hsl]; rw [List.length_append, hdl] at hj; exact hj)]
        rw [← hall]
        simp
      rw [e]
      unfold Lib.byteCells
      rw [List.getElem?_map, List.getElem?_eq_getElem hj]
      rfl
/-- The same, for the walk. -/
theorem wpList_append_buf {ops : Array Oper} {rest : List Oper} {o : Oper} {a : Act} {w : World} {Q : Exit → Act → World → Prop} (hgd : o.guard = none) (sl x : Operand)
    (ho : o.op = .call { callee := .builtin .append, args := #[sl, x], argTypes := #[39, 9] }) (C : Nat) (l : List UInt8) (v : Value) (hs : a.eval sl = v) (h : BufB w C l v) (s : ByteArray) (hx : a.eval x = .string s)
    (hlen : l.length + s.size ≤ 140737488355328) (hC : C ≤ w.heap.size)
    (k : ∀ v' w', BufB w' C (l ++ s.data.toList) v' → Below C w w' → wpList Tryz.prog ops Q rest (a.put o.dst v') w') : wpList Tryz.prog ops Q (o :: rest) a w := by
  refine wpList_plain hgd fun K hK => ?_
  obtain ⟨v', w', hr, h2, h3⟩ := run_append_buf w C l v h s o.type hlen hC
  unfold Oper.wp execOp
  simp only [ho, resolve, invoke, builtin, Sem.run_bind, Sem.run_pure, Result.andThen_ok, List.map_toArray, List.map_cons, List.map_nil, hs, hx, hr]
  exact hK _ _ (k v' w' h2 h3)
/-- The string of it. -/
theorem conv_buf {w : World} {C : Nat} {l : List UInt8} {v : Value} (h : BufB w C l v) : (convert 39 9 v).run Tryz.prog w = .ok (.string ⟨l.toArray⟩) w := by
  obtain ⟨g, cap, rfl, _, _, _, _, _, h6, _⟩ := h
  exact run_convert_bytes_back w 39 9 5 ⟨g, 0, none⟩ cap l Tryz.underlying39 Tryz.underlying5 Tryz.underlying9 (fun j hj => by rw [add_plain, Nat.zero_add]; exact h6 j hj)
end Go.Proofs.YtnmocepkebkkjaaGreatDoor
