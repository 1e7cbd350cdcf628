/-
slices.Repeat of one value; package heap's filled. No condition but bounds.
-/
import Derived.Test.YtjhfafoelccfnaaDoorQ6
import Derived.Test.YtjhfafoelccfnaaDoorWT
import Derived.Deep.RegionWith
namespace Go.Proofs.YtjhfafoelccfnaaDoor.Hp
open Go.ChangeShapes Go.WideShapes Go.ChangeAt Go.RowKit Go.Deep
open Dat (PT ok64 RepV RepS RowX infoDatum)
set_option maxRecDepth 100000

theorem and_hi : ∀ n : Fin 1001, bits .and .u64 (n.val : Int) 4294967295 = n.val ∧ (IntKind.u64.wrap (n.val : Int) = n.val) := by decide +kernel
theorem and_hi' (n : Int) (h0 : 0 ≤ n) (h1 : n ≤ 1000) : bits .and .u64 n 4294967295 = n ∧ IntKind.u64.wrap n = n := by
  have := and_hi ⟨n.toNat, by omega⟩
  rwa [show ((⟨n.toNat, by omega⟩ : Fin 1001).val : Int) = n from by simp; omega] at this
theorem mul64_any (n : Int) (w : World) (h0 : 0 ≤ n) (h1 : n ≤ 1000) :
    Calls Tryd.prog 104 #[.int .u64 1, .int .u64 n] w fun e w' => e = .returned (.tuple #[.int .u64 0, .int .u64 n]) ∧ w = w' := by
  have e1 : bits .and .u64 1 4294967295 = 1 := by decide +kernel
  have e0 : bits .and .u64 0 4294967295 = 0 := by decide +kernel
  obtain ⟨e2, e3⟩ := and_hi' n h0 h1
  have z : IntKind.u64.wrap 0 = 0 := by decide +kernel
  go_enter Tryd.func104, Tryd.ntmps104
  go_wp2
  go_ret2
  refine ⟨ret_ints ?_ rfl, rfl⟩
  have d : n / 4294967296 = 0 := by omega
  simp only [d, z, e0, Int.zero_ediv, Int.add_zero]
theorem mul_any (n : Int) (w : World) (h0 : 0 ≤ n) (h1 : n ≤ 1000) :
    Calls Tryd.prog 92 #[.int .u64 1, .int .u64 n] w fun e w' => e = .returned (.tuple #[.int .u64 0, .int .u64 n]) ∧ w = w' := by
  have K := Lib.hid (fun w => mul64_any n w h0 h1)
  go_enter Tryd.func92, Tryd.ntmps92
  go_wp2_with (go_at_call 104; ((with_reducible refine (K.out _).mono ?_); rintro e w1 ⟨rfl, rfl⟩))
  go_ret2
  exact ⟨rfl, rfl⟩

/-! ### copy of values -/
def repl (n : Nat) (v : PV) : List PV := List.replicate n v
theorem run_copy_vals {w : World} {g od dn dc : Nat} {ad : Addr} {sn sc m : Nat} {cur : Array Value} {cs : List Value} (hg : w.heap[g]? = some (.cells cur 36 (0, 0))) (hm : m = Nat.min sn dn) (hl : cs.length = m * 3) (hsrc : ∀ j u, cs[j]? = some u → w.cell? (ad.add j) = some u) (h1 : ∀ u ∈ cs, u.oneCell' = true) (hfit : od + cs.length ≤ cur.size) (ty : TypeId) :
    (Builtin.copy_ #[30, 30] ty #[.slice (some ⟨g, od, none⟩) dn dc, .slice (some ad) sn sc]).run Tryd.prog w = .ok (goInt m) (w.setRow g (cur.toList.take od ++ cs ++ cur.toList.drop (od + cs.length)).toArray) := by
  obtain ⟨i0, hi, hz0, hz1, hz2⟩ := info_parts infoVal
  have hf := run_firstCells_some (P := Tryd.prog) w 3 m ad sn sc cs hl hsrc
  have hst := run_storeCells_at Tryd.prog g od 36 cs 0 cur w hg (by simpa using hfit) h1
  simp only [Nat.add_zero] at hst
  simp [Builtin.copy_, run_underlying Tryd.underlying30, sizeOf, typeInfo, hi, hz1, Builtin.lenOf, ← hm, hf, hst]
theorem wpList_copy_at (w : World) {ops : Array Oper} {rest : List Oper} {o : Oper} {a : Act} {Q : Exit → Act → World → Prop} (hgd : o.guard = none) (d s : Operand) (t t' : TypeId)
    (ho : o.op = .call { callee := .builtin .copy, args := #[d, s], argTypes := #[t, t'] }) (v u : Value) (hd : a.eval d = v) (hs : a.eval s = u) {v' : Value} {w' : World}
    (hr : (Builtin.copy_ #[t, t'] o.type #[v, u]).run Tryd.prog w = .ok v' w') (h : wpList Tryd.prog ops Q rest (a.put o.dst v') w') : wpList Tryd.prog ops Q (o :: rest) a w := by
  refine wpList_plain hgd fun _ hK => ?_
  unfold Oper.wp execOp
  simp only [ho, resolve, invoke, builtin, Sem.run_bind, Sem.run_pure, Result.andThen_ok, List.map_toArray, List.map_cons, List.map_nil, hd, hs, hr]
  exact hK _ _ h
theorem make_vals (m : Nat) (w : World) (h : m ≤ 1000) : ∃ w1 cur, (Instr.makeSlice 30 (.int .i64 (m : Int)) (.int .i64 (m : Int))).run Tryd.prog w = .ok (.slice (some ⟨w.heap.size, 0, none⟩) m m) w1 ∧
    w1.heap[w.heap.size]? = some (.cells cur 36 (0, 0)) ∧ cur.size = m * 3 ∧ Below w.heap.size w w1 := by
  obtain ⟨i0, hi, hz0, hz1, hz2⟩ := info_parts infoVal
  have hr := run_make (P := Tryd.prog) w 30 36 i0 _ Tryd.underlying30 hi hz0 .i64 .i64 (m : Int) (m : Int) (by omega) (Int.le_refl _) (by rw [hz2]; omega) (by omega)
  simp only [Int.toNat_natCast] at hr
  exact ⟨_, _, hr, heap_alloc_new w _, by rw [size_madeCells, hz1], (Below.refl _ _).alloc (Nat.le_refl _) _⟩
theorem repl_cells (v : PV) : ∀ d e : Nat, vCells (repl (d + e) v) = vCells (repl d v) ++ vCells (repl e v) := fun d e => by
  rw [← vCells_append]
  unfold repl
  rw [List.replicate_append_replicate]
theorem repl_len (v : PV) (d : Nat) : (vCells (repl d v)).length = d * 3 := by rw [vCells_len]; simp [repl]
/-- The row is filled with v up to d. -/
def Filled (w : World) (g m d : Nat) (v : PV) : Prop := ∃ cur : Array Value, w.heap[g]? = some (.cells cur 36 (0, 0)) ∧ cur.size = m * 3 ∧ cur.toList.take (d * 3) = vCells (repl d v)
theorem Filled.more {w : World} {g m d e : Nat} {v : PV} (cur : Array Value) (hg : w.heap[g]? = some (.cells cur 36 (0, 0))) (hc : cur.size = m * 3) (ht : cur.toList.take (d * 3) = vCells (repl d v)) (he : d + e ≤ m) :
    Filled (w.setRow g (cur.toList.take (d * 3) ++ vCells (repl e v) ++ cur.toList.drop (d * 3 + (vCells (repl e v)).length)).toArray) g m (d + e) v := by
  refine ⟨_, setRow_heap w g cur _ _ _ hg, ?_, ?_⟩
  · simp only [List.size_toArray, List.length_append, List.length_take, List.length_drop, Array.length_toList, repl_len]
    omega
  · rw [ht, ← repl_cells]
    have : (d + e) * 3 = (vCells (repl (d + e) v)).length := (repl_len v _).symm
    rw [this]
    exact List.take_left
theorem setRow_below {w : World} {g : Nat} {cs : Array Value} {C : Nat} (h : C ≤ g) : Below C w (w.setRow g cs) :=
  ⟨rfl, rfl, rfl, by simp, fun k hk => setRow_other w g k _ (by omega)⟩
set_option maxHeartbeats 1000000 in
theorem repeat_any (v : PV) (hv : okV v) (m : Nat) (b : Nat) (w : World) (hb : w.heap[b]? = some (.cells #[.int .i64 v.k, .int .i64 v.i, .string v.s] 36 (0, 0))) (h0 : 1 ≤ m) (h1 : m ≤ 1000) :
    Calls Tryd.prog 78 #[.slice (some ⟨b, 0, none⟩) 1 1, .int .i64 (m : Int)] w fun e w' => NewP w.heap.size (repl m v) e w' ∧ Below w.heap.size w w' := by
  have KM := Lib.hid (fun w => mul_any (m : Int) w (by omega) (by omega))
  obtain ⟨w1, cur, hm, hg, hcs, hbw⟩ := make_vals m w h1
  have hbl := lt_of_block hb
  have hcp := run_copy_vals (w := w1) (g := w.heap.size) (od := 0) (dn := m) (dc := m) (ad := ⟨b, 0, none⟩) (sn := 1) (sc := 1) (m := 1) (cs := vCells (repl 1 v)) hg (by show 1 = min 1 m; omega) rfl (World.news_of_block ((hbw.block b hbl).trans hb)) (vCells_one _) (by rw [repl_len]; omega)
  have hcp3 := hcp 3
  have HF := Filled.more (e := 1) cur hg hcs (show cur.toList.take (0 * 3) = vCells (repl 0 v) by simp [repl, vCells]) (by omega)
  have HB2 := hbw.trans (setRow_below (w := w1) (cs := (cur.toList.take (0 * 3) ++ vCells (repl 1 v) ++ cur.toList.drop (0 * 3 + (vCells (repl 1 v)).length)).toArray) (Nat.le_refl _))
  simp only [Nat.zero_mul] at HF HB2
  have hcp4 : (Builtin.copy_ #[30, 30] 3 #[.slice (some ⟨w.heap.size, 0, none⟩) m m, .slice (some ⟨b, 0, none⟩) 1 1]).run Tryd.prog w1 = .ok (.int .i64 1) (w1.setRow w.heap.size (List.take 0 cur.toList ++ vCells (repl 1 v) ++ List.drop (0 + (vCells (repl 1 v)).length) cur.toList).toArray) := hcp3
  generalize w1.setRow w.heap.size (List.take 0 cur.toList ++ vCells (repl 1 v) ++ List.drop (0 + (vCells (repl 1 v)).length) cur.toList).toArray = w2 at hcp4 HF HB2
  replace HF := Lib.hid HF
  replace HB2 := Lib.hid HB2
  have HV := Lib.hid hv
  clear hb hcp hcp3 hg hcs hbw hv
  go_enter Tryd.func78, Tryd.ntmps78
  go_wp2_with (go_at_call 92; ((with_reducible refine (KM.out _).mono ?_); rintro e w1 ⟨rfl, rfl⟩))
  clear hm hcp4
  go_loopw [8] (fun x wr => ∃ d : Nat, 1 ≤ d ∧ d ≤ m ∧ x = .int .i64 d ∧ Filled wr w.heap.size m d v ∧ Below w.heap.size w wr) (fun x _ => m - (intOf x).toNat)
  case atStart => exact ⟨1, Nat.le_refl _, h0, rfl, HF.out, HB2.out⟩
  case round =>
    obtain ⟨d, hd1, hdm, rfl, hf, hbr⟩ := hrel
    by_cases hlt : d < m
    · obtain ⟨cur2, hg2, hc2, ht2⟩ := hf
      have hcp := run_copy_vals (w := wr.drew) (g := w.heap.size) (od := d * 3) (dn := m - d) (dc := m - d) (ad := ⟨w.heap.size, 0, none⟩) (sn := d) (sc := m) (m := Nat.min d (m - d)) (cs := vCells (repl (Nat.min d (m - d)) v)) hg2 rfl (repl_len _ _) (fun j u hu => by
        rw [add_plain, Nat.zero_add]
        show wr.cell? _ = _
        rw [Lib.cell_of_heap hg2]
        refine take_at ht2 ?_
        have h9 : d = Nat.min d (m - d) + (d - Nat.min d (m - d)) := by simp only [Nat.min_def]; split <;> omega
        rw [h9, repl_cells, List.getElem?_append_left]
        · exact hu
        · exact (List.getElem?_eq_some_iff.1 hu).1) (vCells_one _) (by rw [repl_len, hc2]; simp only [Nat.min_def]; split <;> omega) 3
      have HM := Filled.more (w := wr.drew) (e := Nat.min d (m - d)) cur2 hg2 hc2 ht2 (by simp only [Nat.min_def]; split <;> omega)
      have HB3 := (hbr.drew).trans (setRow_below (w := wr.drew) (cs := (cur2.toList.take (d * 3) ++ vCells (repl (Nat.min d (m - d)) v) ++ cur2.toList.drop (d * 3 + (vCells (repl (Nat.min d (m - d)) v)).length)).toArray) (Nat.le_refl w.heap.size))
      have hmin1 : 1 ≤ Nat.min d (m - d) := by simp only [Nat.min_def]; split <;> omega
      have hmin2 : Nat.min d (m - d) ≤ m - d := by simp only [Nat.min_def]; split <;> omega
      generalize Nat.min d (m - d) = q at hcp HM HB3 hmin1 hmin2
      generalize wr.drew.setRow w.heap.size (cur2.toList.take (d * 3) ++ vCells (repl q v) ++ cur2.toList.drop (d * 3 + (vCells (repl q v)).length)).toArray = w3 at hcp HM HB3
      replace hcp : (Builtin.copy_ #[30, 30] 3 #[.slice (some ⟨w.heap.size, d * 3, none⟩) (m - d) (m - d), .slice (some ⟨w.heap.size, 0, none⟩) d m]).run Tryd.prog wr.drew = .ok (.int .i64 q) w3 := hcp
      replace HM := Lib.hid HM
      replace HB3 := Lib.hid HB3
      clear hg2 hc2 ht2 hbr
      go_wp2
      go_region
      go_wp2
      exact ⟨⟨d + q, by omega, by omega, by go_num, HM.out, HB3.out⟩, by simp [intOf]; omega⟩
    · obtain rfl : d = m := by omega
      have HFF := Lib.hid hf
      have HBB := Lib.hid hbr
      clear hf hbr
      go_wp2
      go_ret
      obtain ⟨cur2, hg2, hc2, ht2⟩ := HFF.out
      have hne : repl d v ≠ [] := by intro e; have := congrArg List.length e; simp [repl] at this; omega
      have hlen : (repl d v).length = d := by simp [repl]
      refine ⟨⟨_, w.heap.size, rfl, .inr ⟨hne, fun u hu => ?_, d, cur2, by rw [hlen]; rfl, by rw [hlen]; exact Nat.le_refl _, by unfold maxLen; omega, hg2, hc2, by rw [hlen]; exact ht2⟩, fun _ => ⟨Nat.le_refl _, lt_of_block hg2⟩⟩, HBB.out⟩
      have := (List.mem_replicate.1 hu).2
      rw [this]
      exact HV.out
theorem repeat_none (b : Nat) (w : World) :
    Calls Tryd.prog 78 #[.slice (some ⟨b, 0, none⟩) 1 1, .int .i64 0] w fun e w' => NewP w.heap.size [] e w' ∧ Below w.heap.size w w' := by
  have KM := Lib.hid (fun w => mul_any 0 w (by omega) (by omega))
  obtain ⟨w1, cur, hm, hg, hcs, hbw⟩ := make_vals 0 w (by omega)
  have hcp4 : ∀ W, (Builtin.copy_ #[30, 30] 3 #[.slice (some ⟨w.heap.size, 0, none⟩) 0 0, .slice (some ⟨b, 0, none⟩) 1 1]).run Tryd.prog W = .ok (.int .i64 0) W := by
    intro W
    obtain ⟨i0, hi, hz0, hz1, hz2⟩ := info_parts infoVal
    have hf := run_firstCells_some (P := Tryd.prog) W 3 0 ⟨b, 0, none⟩ 1 1 [] rfl (fun j u h => by simp at h)
    simp [Builtin.copy_, run_underlying Tryd.underlying30, sizeOf, typeInfo, hi, hz1, Builtin.lenOf, hf, storeCells, goInt]
  have hcp5 := hcp4 w1
  have HB2 := Lib.hid hbw
  replace hm : (Instr.makeSlice 30 (.int .i64 0) (.int .i64 0)).run Tryd.prog w = .ok (.slice (some ⟨w.heap.size, 0, none⟩) 0 0) w1 := hm
  clear hg hcs hbw hcp4
  go_enter Tryd.func78, Tryd.ntmps78
  go_wp2_with (go_at_call 92; ((with_reducible refine (KM.out _).mono ?_); rintro e w1 ⟨rfl, rfl⟩))
  clear hm hcp5
  go_loopw [8] (fun x wr => x = .int .i64 0 ∧ Below w.heap.size w wr) (fun x _ => 0)
  case atStart => exact ⟨rfl, HB2.out⟩
  case round =>
    obtain ⟨rfl, hbr⟩ := hrel
    go_wp2
    go_ret
    exact ⟨⟨_, 0, rfl, .inl ⟨rfl, _, 0, rfl, Nat.zero_le _, fun h => by cases h⟩, fun h => absurd rfl h⟩, hbr⟩

/-- How one goes on from a thing that was made in a new block. -/
theorem AddOk.doOk {w w0 w' : World} {hb : Nat} {F : Nat → Prop} {l : List PV} {g0 : Nat} {T : List (Int × List PV)} {n : Int} {e : Ending} (h : AddOk w0 hb F l g0 T n e w') (hb0 : Below w.heap.size w w0) (hg : l ≠ [] → w.heap.size ≤ g0) :
    e = .returned (.agg #[.int .i64 8, .int .i64 n, .string ⟨#[]⟩]) ∧ ∃ F', HeapM w' hb T F' ∧ Stp F w F' w' ∧ ∀ R, R < w0.heap.size → ¬ F R → (l ≠ [] → R ≠ g0) → ¬ F' R ∧ w'.heap[R]? = w0.heap[R]? := by
  obtain ⟨h1, F', h2, h3, h4⟩ := h
  refine ⟨h1, F', h2, ⟨⟨(hb0.mono (Nat.zero_le _)).trans h3.1, fun b hlt hn => ?_⟩, fun b hb => ?_⟩, fun R h5 h6 h7 => ⟨fun hR => ?_, h3.2 R h5 h6⟩⟩
  · rw [h3.2 b (Nat.lt_of_lt_of_le hlt hb0.size) hn]
    exact hb0.block b hlt
  · have := hb0.size
    rcases h4 b hb with h | ⟨h, e⟩ | h
    · exact .inl h
    · have := hg h; exact .inr (by omega)
    · exact .inr (by omega)
  · rcases h4 R hR with h | ⟨h, e⟩ | h
    · exact h6 h
    · exact h7 h e
    · omega
/-- A value put into the result's cell. -/
theorem put_res {w W : World} {R hb : Nat} {T : List (Int × List PV)} {F F' : Nat → Prop} (h : HeapM W hb T F') (hs : Stp F w F' W) (hF : ¬ F' R) (hR : w.heap.size ≤ R) (y0 y1 y2 : Value) :
    HeapM (((W.setCell ⟨R, 0, none⟩ y0).setCell ⟨R, 1, none⟩ y1).setCell ⟨R, 2, none⟩ y2) hb T F' ∧ Stp F w F' (((W.setCell ⟨R, 0, none⟩ y0).setCell ⟨R, 1, none⟩ y1).setCell ⟨R, 2, none⟩ y2) := by
  refine ⟨h.move (fun b hb _ => put3_other _ _ _ (fun e => hF (e ▸ hb))) fun _ h => h, ⟨⟨hs.1.1.trans (put3_below (Below.refl 0 W) (Nat.zero_le _) _ _ _), fun b hb hn => ?_⟩, hs.2⟩⟩
  rw [put3_other _ _ _ (by omega)]
  exact hs.1.2 b hb hn
/-- What comes of filled. -/
def fillT (T : List (Int × List PV)) (kind n : Int) (u : PV) : PV × Int × List (Int × List PV) :=
  if 0 ≤ n ∧ n ≤ 1000 then (⟨8, T.length, ⟨#[]⟩⟩, 0, T ++ [(kind, repl n.toNat u)]) else (⟨0, 0, ⟨#[]⟩⟩, 83, T)
theorem repeat_all (v : PV) (hv : okV v) (m : Nat) (b : Nat) (w : World) (hb : w.heap[b]? = some (.cells #[.int .i64 v.k, .int .i64 v.i, .string v.s] 36 (0, 0))) (h1 : m ≤ 1000) :
    Calls Tryd.prog 78 #[.slice (some ⟨b, 0, none⟩) 1 1, .int .i64 (m : Int)] w fun e w' => NewP w.heap.size (repl m v) e w' ∧ Below w.heap.size w w' := by
  by_cases h0 : m = 0
  · subst h0
    exact repeat_none b w
  · exact repeat_any v hv m b w hb (by omega) h1
set_option maxHeartbeats 1000000 in
theorem filled_any (kind n : Int) (uk ui : Int) (us : ByteArray) (hu : okV ⟨uk, ui, us⟩) (hb : Nat) (T : List (Int × List PV)) (F : Nat → Prop) (w : World) (h : HeapM w hb T F) (hF : ∀ b, F b → b < w.heap.size) (hk : ok64 kind) (hT : T.length ≤ 100000) :
    Calls Tryd.prog 58 #[.pointer (some ⟨hb, 0, none⟩), .int .i64 kind, .int .i64 n, .agg #[.int .i64 uk, .int .i64 ui, .string us]] w
      fun e w' => DoOk w hb F (fillT T kind n ⟨uk, ui, us⟩).1 (fillT T kind n ⟨uk, ui, us⟩).2.1 (fillT T kind n ⟨uk, ui, us⟩).2.2 e w' := by
  obtain ⟨Z0, Z1, B0⟩ := two_new w (.cells #[.int .i64 uk, .int .i64 ui, .string us] 36) (.cells #[.int .i64 0, .int .i64 0, .string ⟨#[]⟩] 36)
  by_cases hn : 0 ≤ n ∧ n ≤ 1000
  · obtain ⟨hn0, hn1⟩ := hn
    have HR : Hid (fillT T kind n ⟨uk, ui, us⟩ = (⟨8, T.length, ⟨#[]⟩⟩, 0, T ++ [(kind, repl n.toNat ⟨uk, ui, us⟩)])) := Lib.hid (if_pos ⟨hn0, hn1⟩)
    generalize fillT T kind n ⟨uk, ui, us⟩ = r at HR
    obtain ⟨m, rfl⟩ := Int.eq_ofNat_of_zero_le hn0
    rw [Int.toNat_natCast] at HR
    obtain ⟨Y0, Y1, Y2, C0⟩ := three_new w (.cells #[.int .i64 uk, .int .i64 ui, .string us] 36) (.cells #[.int .i64 0, .int .i64 0, .string ⟨#[]⟩] 36) (.cells #[.int .i64 uk, .int .i64 ui, .string us] 36)
    have KR := Lib.hid (repeat_all ⟨uk, ui, us⟩ hu m (w.heap.size + 1 + 1) _ Y2 (by omega))
    have HH := Lib.hid h
    have HF := Lib.hid hF
    have hsz : (((w.alloc (.cells #[.int .i64 uk, .int .i64 ui, .string us] 36)).alloc (.cells #[.int .i64 0, .int .i64 0, .string ⟨#[]⟩] 36)).alloc (.cells #[.int .i64 uk, .int .i64 ui, .string us] 36)).heap.size = w.heap.size + 1 + 1 + 1 := by rw [size_new, size_new, size_new]
    have HSZ := Lib.hid hsz
    have HY1 := Lib.hid Y1
    have HC0 := Lib.hid C0
    clear Y0 Y1 Y2 C0 Z0 Z1 B0 h hF hu hsz
    go_enter Tryd.func58, Tryd.ntmps58
    go_wp2_with fail
    refine KR.out.mono ?_
    rintro e w1 ⟨⟨pv, g, rfl, hp, hg⟩, hb1⟩
    have HB1 := Lib.hid (HC0.out.trans (hb1.mono HC0.out.size))
    have HY2 := Lib.hid ((hb1.block (w.heap.size + 1) (by rw [HSZ.out]; omega)).trans HY1.out)
    have hlt1 : w.heap.size + 1 + 1 + 1 ≤ w1.heap.size := by have := hb1.size; rw [HSZ.out] at this; exact this
    have hgg : repl m ⟨uk, ui, us⟩ ≠ [] → w.heap.size + 1 + 1 + 1 ≤ g ∧ g < w1.heap.size := fun h => by have := hg h; rw [HSZ.out] at this; exact this
    have KA := Lib.hid (add_any kind _ g pv hb T F w1 (HH.out.below HB1.out) (fun b h => by have := HF.out b h; omega) hk hp (fun h => ⟨fun hf => by have := HF.out g hf; have := (hgg h).1; omega, (hgg h).2⟩) hT)
    have HGG := Lib.hid hgg
    clear hp hg hb1 hgg
    go_wp2_with fail
    refine KA.out.mono ?_
    rintro e w2 hA
    obtain ⟨rfl, F', q1, q2, q3⟩ := hA.doOk (w := w) HB1.out (fun h => by have := (HGG.out h).1; omega)
    obtain ⟨q4, q5⟩ := q3 (w.heap.size + 1) (by omega) (fun hf => by have := HF.out _ hf; omega) (fun h e => by have := (HGG.out h).1; omega)
    have E2 := q5.trans HY2.out
    have Q := put_res q1 q2 q4 (Nat.le_succ _) (.int .i64 8) (.int .i64 T.length) (.string ⟨#[]⟩)
    have HE := Lib.hid (put3 E2 (.int .i64 8) (.int .i64 T.length) (.string ⟨#[]⟩))
    obtain ⟨⟨y0, y1, y2⟩, f0, f1, f2⟩ := look3 E2
    have HQ := Lib.hid Q
    clear hA q1 q2 q3 q4 q5 E2 Q
    go_wp2
    have hE := HE.out
    have Q' : DoOk w hb F r.1 r.2.1 r.2.2 (VE ⟨8, T.length, ⟨#[]⟩⟩ 0) (((w2.setCell ⟨w.heap.size + 1, 0, none⟩ (.int .i64 8)).setCell ⟨w.heap.size + 1, 1, none⟩ (.int .i64 T.length)).setCell ⟨w.heap.size + 1, 2, none⟩ (.string ⟨#[]⟩)) := ⟨by rw [HR.out], F', by rw [HR.out]; exact HQ.out.1, HQ.out.2⟩
    clear HE HQ
    generalize (((w2.setCell ⟨w.heap.size + 1, 0, none⟩ (.int .i64 8)).setCell ⟨w.heap.size + 1, 1, none⟩ (.int .i64 T.length)).setCell ⟨w.heap.size + 1, 2, none⟩ (.string ⟨#[]⟩)) = W at hE Q' ⊢
    exact bodyPost_ret (res_ve (t := 9) (p := 8) rfl _ _ (w.heap.size + 1) _ _ _ rfl hE) rfl Q'
  · have HR : Hid (fillT T kind n ⟨uk, ui, us⟩ = (⟨0, 0, ⟨#[]⟩⟩, 83, T)) := Lib.hid (if_neg hn)
    generalize fillT T kind n ⟨uk, ui, us⟩ = r at HR
    have HH := Lib.hid h
    have HB := Lib.hid B0
    have H1 := Lib.hid Z1
    clear h hF hu Z0 Z1 B0
    by_cases hn0 : n < 0
    · clear hn
      go_enter Tryd.func58, Tryd.ntmps58
      go_wp2
      exact bodyPost_ret (res_ve (t := 9) (p := 8) rfl _ _ (w.heap.size + 1) _ _ _ rfl H1.out) rfl (by rw [HR.out]; exact DoOk.of HH.out rfl HB.out)
    · have hn1 : 1000 < n := by omega
      clear hn
      go_enter Tryd.func58, Tryd.ntmps58
      go_wp2
      exact bodyPost_ret (res_ve (t := 9) (p := 8) rfl _ _ (w.heap.size + 1) _ _ _ rfl H1.out) rfl (by rw [HR.out]; exact DoOk.of HH.out rfl HB.out)
end Go.Proofs.YtjhfafoelccfnaaDoor.Hp
