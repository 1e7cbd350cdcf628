/-
Texts Q84, Q87, Q88, Q85, one behind the other (a claim bears sixty files). Conditions: as each says.
-/
import Derived.Test.YtpejhilfopjckaaDoorQGm

/-
Package heap's teller: a vector's values, one by one; any value. No condition but that the heap and the teller lie in memory and the heap's things are such as calls make.
-/
namespace Go.Proofs.YtpejhilfopjckaaDoor.Hp
open Go.ChangeShapes Go.WideShapes Go.ChangeAt Go.RowKit Go.Deep Go.Shelf
open Dat (PT ok64 RepV RepS RowX infoDatum NewV NewS makeT make_any MakeOk numT numsT)
set_option maxRecDepth 100000
attribute [local go_sem] Oper.semAt_some

/-- What a round may turn: nothing below C but the teller. -/
def KpB (C tb : Nat) (A B : World) : Prop := Below 0 A B ∧ ∀ b, b < C → b ≠ tb → B.heap[b]? = A.heap[b]?
theorem kpB_t {C tb : Nat} {X Y Z : World} (h : KpB C tb X Y) (k : KpB C tb Y Z) : KpB C tb X Z := ⟨h.1.trans k.1, fun b hb hn => (k.2 b hb hn).trans (h.2 b hb hn)⟩
theorem kpB_b {C tb : Nat} {w : World} (hC : C ≤ w.heap.size) (W : World) (l : Nat) (o o' : Obj) (hl : w.heap.size ≤ l) (_ho : W.heap[l]? = some o) (_h1 : o.isCells = false) (_h2 : o.isWalk = false) : KpB C tb W (W.putObj l o') :=
  ⟨⟨rfl, rfl, rfl, by simp, fun _ h => absurd h (Nat.not_lt_zero _)⟩, fun b hb _ => World.putObj_heap_other (by omega)⟩
/-- What tells the thing's cells all the while. -/
def PcS (hb : Nat) (sv : Value) (T : List (Int × List PV)) (F : Nat → Prop) (Bn tk j : Nat) (W : World) : Prop :=
  W.cell? ⟨Bn, 0, none⟩ = some (.pointer (some ⟨tk, j * 4, none⟩)) ∧ HeapM W hb T F ∧ W.cell? ⟨hb, 0, none⟩ = some sv
theorem PcS.piece {hb : Nat} {sv : Value} {T : List (Int × List PV)} {F : Nat → Prop} {Bn tk j : Nat} {W : World} {cap : Nat} (h : PcS hb sv T F Bn tk j W) (hsv : sv = .slice (some ⟨tk, 0, none⟩) T.length cap) (hj : j < T.length) :
    W.cell? ⟨Bn, 0, none⟩ = some (.pointer (some ⟨tk, j * 4, none⟩)) ∧ PieceC W tk (j * 4) T[j].2 := by
  refine ⟨h.1, ?_⟩
  obtain ⟨tk', cap', sa, sn, sc, mo, c0, _, _, _, _, _, _, _, hp, _⟩ := h.2.1.piece j hj
  rw [h.2.2, hsv] at c0
  cases c0
  exact hp
theorem PcS.below {hb : Nat} {sv : Value} {T : List (Int × List PV)} {F : Nat → Prop} {Bn tk j : Nat} {A B : World} (h : PcS hb sv T F Bn tk j A) (hk : Below A.heap.size A B) : PcS hb sv T F Bn tk j B :=
  ⟨cell_below hk h.1, h.2.1.below hk, cell_below hk h.2.2⟩
theorem PcS.kpB {hb : Nat} {sv : Value} {T : List (Int × List PV)} {F : Nat → Prop} {Bn tk j C tb : Nat} {A B : World} (h : PcS hb sv T F Bn tk j A) (hk : KpB C tb A B) (hBn : Bn < C ∧ Bn ≠ tb) (hF : ∀ b, F b → b < C) (hFt : ¬ F tb) (hhb : F hb) : PcS hb sv T F Bn tk j B :=
  ⟨(World.cell?_of_block (w := A) (a := ⟨Bn, 0, none⟩) (hk.2 Bn hBn.1 hBn.2)).trans h.1, h.2.1.move (fun b hb _ => hk.2 b (hF b hb) (fun e => hFt (e ▸ hb))) (fun _ q => q), (World.cell?_of_block (w := A) (a := ⟨hb, 0, none⟩) (hk.2 hb (hF hb hhb) (fun e => hFt (e ▸ hhb)))).trans h.2.2⟩
theorem PcS.ck {hb : Nat} {sv : Value} {T : List (Int × List PV)} {F : Nat → Prop} {Bn tk j B : Nat} {w w' : World} (h : PcS hb sv T F Bn tk j w) (hk : CK B w w') (hF : ∀ b, F b → b < B) : PcS hb sv T F Bn tk j w' :=
  ⟨hk.cell h.1, h.2.1.move (fun b hb hlt => hk.2 b hlt (.inl (hF b hb))) (fun _ q => q), hk.cell h.2.2⟩
/-- A value that the heap has. -/
abbrev HVal (T : List (Int × List PV)) := { u : PV // okV u ∧ hasB T.length u = true }
/-- How things stand in a vector's loop. -/
def VecI (w : World) (hb tb : Nat) (sv : Value) (T : List (Int × List PV)) (F : Nat → Prop) (Bn tk j f m n : Nat) (pre : List (HVal T)) (W : World) : Prop :=
  ∃ r n' v, tellI (fun _ u k => tellF T f u (m + 1) k) (pre.map (·.1)) 0 n = some (r, n') ∧ TelM W tb sv n' ∧ PcS hb sv T F Bn tk j W ∧ KpF (TS tb) w W ∧
    W.heap[w.heap.size]? = some (.cells #[.pointer (some ⟨tb, 0, none⟩)] 112 (0, 0)) ∧ W.heap[w.heap.size + 1]? = some (.cells #[.int .i64 (m : Int)] 3 (0, 0)) ∧
    W.heap[w.heap.size + 2]? = some (.cells #[.int .i64 0, .int .i64 0, .string ⟨#[]⟩, .slice none 0 0] 50 (0, 0)) ∧ W.heap[w.heap.size + 3]? = some (.cells #[.bool false] 4 (0, 0)) ∧
    W.heap[w.heap.size + 4]? = some (.cells #[.int .i64 7, .int .i64 0, .string ⟨#[]⟩, v] 50 (0, 0)) ∧ OutD W (w.heap.size + 5) (w.heap.size + 5 ≤ ·) r v
/-- Where it was told that one can't be told. -/
def VecX (w : World) (tb : Nat) (T : List (Int × List PV)) (f m n : Nat) (c : Code) (pre : List (HVal T)) (W : World) : Prop :=
  c = .ret ∧ tellI (fun _ u k => tellF T f u (m + 1) k) (pre.map (·.1)) 0 n = none ∧ KpF (TS tb) w W ∧
    W.heap[w.heap.size + 2]? = some (.cells #[.int .i64 0, .int .i64 0, .string ⟨#[]⟩, .slice none 0 0] 50 (0, 0)) ∧ W.heap[w.heap.size + 3]? = some (.cells #[.bool false] 4 (0, 0))
theorem CK.kpf {B tb : Nat} {w W W' : World} (h : CK B W W') (hB : w.heap.size ≤ B) (hk : KpF (TS tb) w W) : KpF (TS tb) w W' :=
  ⟨hk.1.trans h.1, fun b hb hn => (h.2 b (Nat.lt_of_lt_of_le hb hk.1.size) (.inl (by omega))).trans (hk.2 b hb hn)⟩
theorem vecI_own {w : World} {hb tb : Nat} {sv : Value} {T : List (Int × List PV)} {F : Nat → Prop} {Bn tk j f m n B : Nat} (hF : ∀ b, F b → b < w.heap.size) (hB : w.heap.size ≤ B) : OwnFrom B (VecI w hb tb sv T F Bn tk j f m n) := by
  rintro pre W W' row ⟨r, n', v, h1, h2, h3, h4, h5, h6, h7, h8, h9, h10⟩ hg hr
  have hk := CK.of_grown hg hr
  exact ⟨r, n', v, h1, hk.block h2, h3.ck hk (fun b hb => by have := hF b hb; omega), hk.kpf hB h4, hk.block h5, hk.block h6, hk.block h7, hk.block h8, hk.block h9, h10.ck hk⟩
theorem vecX_own {w : World} {tb : Nat} {T : List (Int × List PV)} {f m n B : Nat} (hB : w.heap.size ≤ B) (c : Code) : OwnFrom B (VecX w tb T f m n c) := by
  rintro pre W W' row ⟨h1, h2, h3, h4, h5⟩ hg hr
  have hk := CK.of_grown hg hr
  exact ⟨h1, h2, hk.kpf hB h3, hk.block h4, hk.block h5⟩
theorem keepsFrom_of {B tb : Nat} {sv : Value} {n : Nat} {W W' : World} (h : ∀ b, b < W.heap.size → B ≤ b → b ≠ tb → W'.heap[b]? = W.heap[b]?) (hs : W.heap.size ≤ W'.heap.size) (ht : TelM W tb sv n) : KeepsFrom B W W' :=
  ⟨hs, fun k o hB hk ho => by
    have hkt : k ≠ tb := fun e => by
      rw [e, show W.heap[tb]? = _ from ht] at hk
      cases hk
      cases ho
    exact (h k (lt_of_block hk) hB hkt).trans hk⟩
theorem kpf_set {w W : World} {tb R : Nat} (h : KpF (TS tb) w W) (hR : w.heap.size ≤ R) (y : Value) : KpF (TS tb) w (W.setCell ⟨R, 0, none⟩ y) :=
  ⟨h.1.trans ((Below.refl 0 W).setCell (p := ⟨R, 0, none⟩) (Nat.zero_le _) _), fun b hb hne => (Below.heap_setCell _ _ _ _ (by show b ≠ R; omega)).trans (h.2 b hb hne)⟩
theorem res_dcb {fn : Func} {p q : Tmp} (h : fn.results = #[.cell p 50, .cell q 4]) (tmps : Array Value) (w : World) (g g' : Nat) (a b c d : Value) (ok : Bool)
    (hp : tmps.getD p undef = .pointer (some ⟨g, 0, none⟩)) (hq : tmps.getD q undef = .pointer (some ⟨g', 0, none⟩)) (hg : w.heap[g]? = some (.cells #[a, b, c, d] 50 (0, 0))) (hg' : w.heap[g']? = some (.cells #[.bool ok] 4 (0, 0))) :
    (results fn tmps).run Tryd.prog w = .ok (.tuple #[.agg #[a, b, c, d], .bool ok]) w := by
  have hp' : tmps[p]?.getD undef = .pointer (some ⟨g, 0, none⟩) := by simpa using hp
  have hq' : tmps[q]?.getD undef = .pointer (some ⟨g', 0, none⟩) := by simpa using hq
  have hi : (Tryd.prog.info? 50).map (·.size) = some (#[a, b, c, d] : Array Value).size := by kernel_rfl
  have hc : w.cell? ⟨g', 0, none⟩ = some (.bool ok) := by rw [Lib.cell_of_heap hg']; rfl
  have hl : (loadVar 4 ⟨g', 0, none⟩).run Tryd.prog w = .ok (.bool ok) w := by
    have hu := Tryd.underlying4
    simp [loadVar, go_sem, hc]
  simp [results, h, hp', hq', asAddr, run_loadVar_row w g 50 50 #[a, b, c, d] (0, 0) _ hg Tryd.underlying50 rfl hi, hl, Result.andThen]
set_option maxHeartbeats 4000000 in
theorem vector_in (cnt : Nat) (hcnt : 2 ≤ cnt) (hb tb : Nat) (cap tk j : Nat) (T : List (Int × List PV)) (F : Nat → Prop) (hFt : ¬ F tb) (hhb : F hb) (hj : j < T.length) (hW : WfT T) (f m n : Nat) (hm : m ≤ 32) (hn : n ≤ 200) (hf : 200 ≤ n + f)
    (HV : ValF hb tb (.slice (some ⟨tk, 0, none⟩) T.length cap) T F f) (Bn : Nat) (w : World) (hF : ∀ b, F b → b < w.heap.size) (hBn : Bn < w.heap.size ∧ Bn ≠ tb) (hP : PcS hb (.slice (some ⟨tk, 0, none⟩) T.length cap) T F Bn tk j w) (ht : TelM w tb (.slice (some ⟨tk, 0, none⟩) T.length cap) n) :
    CallsIn Fence.wide cnt Tryd.prog 64 #[.pointer (some ⟨tb, 0, none⟩), .func (.func 61) #[] #[.pointer (some ⟨Bn, 0, none⟩)], .int .i64 (m : Int)] w fun e w' =>
      TelOk w tb (.slice (some ⟨tk, 0, none⟩) T.length cap) (match tellI (fun _ u k => tellF T f u (m + 1) k) T[j].2 0 n with | none => none | some (l, n2) => some (.mk 7 0 ⟨#[]⟩ l, n2)) e w' := by
  have h1 : 1 ≤ cnt := by omega
  have htb := lt_of_block ht
  obtain ⟨R, HRR⟩ : ∃ R : Option (PT × Nat), Hid (R = match tellI (fun _ u k => tellF T f u (m + 1) k) T[j].2 0 n with | none => none | some (l, n2) => some (.mk 7 0 ⟨#[]⟩ l, n2)) := ⟨_, Lib.hid rfl⟩
  rw [← HRR.out]
  obtain ⟨xs, hxs⟩ : ∃ xs : List (HVal T), xs.map (·.1) = T[j].2 := by
    have hok : ∀ u ∈ T[j].2, okV u ∧ hasB T.length u = true := fun u hu => by
      obtain ⟨_, _, _, _, _, _, _, _, _, _, _, _, _, _, _, ho⟩ := hP.2.1.piece j hj
      exact ⟨ho u hu, (hW _ (List.getElem_mem hj)).2.2.2.2 u hu⟩
    exact ⟨T[j].2.attachWith _ hok, by rw [List.attachWith_map_val hok (f := fun u => u), List.map_id']⟩
  have hxl : xs.length ≤ 1000 := by
    have := (hW _ (List.getElem_mem hj)).2.2.2.1
    rw [← hxs, List.length_map] at this
    exact this
  have hPc := fun W (h : PcS hb (.slice (some ⟨tk, 0, none⟩) T.length cap) T F Bn tk j W) => h.piece rfl hj
  rw [← hxs] at hPc HRR
  clear hxs
  refine callsIn_of_wp_marks Tryd.func64 rfl trivial ?_ rfl
  simp only [Tryd.ntmps64, List.size_toArray, List.length_cons, List.length_nil, Nat.reduceAdd, Nat.reduceSub, Array.replicate_succ, Array.replicate_zero, List.push_toArray, List.append_toArray, List.nil_append, List.cons_append]
  gi_wp2
  have A1 := Below.refl w.heap.size w
  have b1 := heap_alloc_new w (.cells #[.pointer (some ⟨tb, 0, none⟩)] 112)
  replace A1 := A1.alloc A1.size (.cells #[.pointer (some ⟨tb, 0, none⟩)] 112)
  have s1 := size_new w (.cells #[.pointer (some ⟨tb, 0, none⟩)] 112)
  generalize w.alloc (.cells #[.pointer (some ⟨tb, 0, none⟩)] 112) = W1 at *
  have b2 := heap_alloc_new W1 (.cells #[.int .i64 (m : Int)] 3)
  replace b1 := blk_skip' (o := .cells #[.int .i64 (m : Int)] 3) b1
  replace A1 := A1.alloc A1.size (.cells #[.int .i64 (m : Int)] 3)
  have s2 := size_new W1 (.cells #[.int .i64 (m : Int)] 3)
  rw [s1] at b2 s2
  generalize W1.alloc (.cells #[.int .i64 (m : Int)] 3) = W2 at *
  have b3 := heap_alloc_new W2 (.cells #[.int .i64 0, .int .i64 0, .string ⟨#[]⟩, .slice none 0 0] 50)
  replace b1 := blk_skip' (o := .cells #[.int .i64 0, .int .i64 0, .string ⟨#[]⟩, .slice none 0 0] 50) b1
  replace b2 := blk_skip' (o := .cells #[.int .i64 0, .int .i64 0, .string ⟨#[]⟩, .slice none 0 0] 50) b2
  replace A1 := A1.alloc A1.size (.cells #[.int .i64 0, .int .i64 0, .string ⟨#[]⟩, .slice none 0 0] 50)
  have s3 := size_new W2 (.cells #[.int .i64 0, .int .i64 0, .string ⟨#[]⟩, .slice none 0 0] 50)
  rw [s2] at b3 s3
  generalize W2.alloc (.cells #[.int .i64 0, .int .i64 0, .string ⟨#[]⟩, .slice none 0 0] 50) = W3 at *
  have b4 := heap_alloc_new W3 (.cells #[.bool false] 4)
  replace b1 := blk_skip' (o := .cells #[.bool false] 4) b1
  replace b2 := blk_skip' (o := .cells #[.bool false] 4) b2
  replace b3 := blk_skip' (o := .cells #[.bool false] 4) b3
  replace A1 := A1.alloc A1.size (.cells #[.bool false] 4)
  have s4 := size_new W3 (.cells #[.bool false] 4)
  rw [s3] at b4 s4
  generalize W3.alloc (.cells #[.bool false] 4) = W4 at *
  have b5 := heap_alloc_new W4 (.cells #[.int .i64 7, .int .i64 0, .string ⟨#[]⟩, .slice none 0 0] 50)
  replace b1 := blk_skip' (o := .cells #[.int .i64 7, .int .i64 0, .string ⟨#[]⟩, .slice none 0 0] 50) b1
  replace b2 := blk_skip' (o := .cells #[.int .i64 7, .int .i64 0, .string ⟨#[]⟩, .slice none 0 0] 50) b2
  replace b3 := blk_skip' (o := .cells #[.int .i64 7, .int .i64 0, .string ⟨#[]⟩, .slice none 0 0] 50) b3
  replace b4 := blk_skip' (o := .cells #[.int .i64 7, .int .i64 0, .string ⟨#[]⟩, .slice none 0 0] 50) b4
  replace A1 := A1.alloc A1.size (.cells #[.int .i64 7, .int .i64 0, .string ⟨#[]⟩, .slice none 0 0] 50)
  have s5 := size_new W4 (.cells #[.int .i64 7, .int .i64 0, .string ⟨#[]⟩, .slice none 0 0] 50)
  rw [s4] at b5 s5
  generalize W4.alloc (.cells #[.int .i64 7, .int .i64 0, .string ⟨#[]⟩, .slice none 0 0] 50) = W0 at *
  clear s1 s2 s3 s4 W1 W2 W3 W4
  have hb0 := A1
  have hsz : W0.heap.size = w.heap.size + 5 := s5
  have hI0 : VecI w hb tb (.slice (some ⟨tk, 0, none⟩) T.length cap) T F Bn tk j f m n [] W0 :=
    ⟨[], n, .slice none 0 0, rfl, (hb0.block tb htb).trans ht, hP.below hb0, KpF.of_below hb0, b1, b2, b3, b4, b5, OutD.nil _ _ _⟩
  clear b1 b2 b3 b4 b5 A1 s5
  refine wpIn_rangeFunc_ownH rfl h1 (gf := 61) (lb := #[.pointer (some ⟨Bn, 0, none⟩)]) rfl trivial (enters_of Tryd.func61 (by kernel_rfl) rfl)
    (partsK_seq (fun x : HVal T => x.1) (cnt - 1) (by omega) Bn tk (j * 4) xs (by omega) (PcS hb (.slice (some ⟨tk, 0, none⟩) T.length cap) T F Bn tk j) (KpB w.heap.size tb) hPc (fun _ _ h hk => h.below hk) (fun _ _ h hk => h.kpB hk hBn hF hFt hhb) w hP)
    kpB_t (kpB_b (by omega)) hb0 (fun _ => rfl)
    (VecI w hb tb (.slice (some ⟨tk, 0, none⟩) T.length cap) T F Bn tk j f m n)
    (VecX w tb T f m n)
    (vecI_own hF (by omega))
    (vecX_own (by omega))
    hI0
    (fun x a' W => ∃ Bx, w.heap.size + 4 < Bx ∧ BoxV W Bx x.1 ∧ a' = { tmps := #[.pointer (some ⟨tb, 0, none⟩), .func (.func 61) #[] #[.pointer (some ⟨Bn, 0, none⟩)], .int .i64 (m : Int), .pointer (some ⟨w.heap.size, 0, none⟩), undef, .pointer (some ⟨w.heap.size + 1, 0, none⟩), .pointer (some ⟨w.heap.size + 1 + 1, 0, none⟩), .pointer (some ⟨w.heap.size + 1 + 1 + 1, 0, none⟩), .pointer (some ⟨w.heap.size + 1 + 1 + 1 + 1, 0, none⟩), .pointer (some ⟨Bx, 0, none⟩), undef, undef, .agg #[.int .i64 7, .int .i64 0, .string ⟨#[]⟩, .slice none 0 0], .func (.func 61) #[] #[.pointer (some ⟨Bn, 0, none⟩)], .agg #[.int .i64 x.1.k, .int .i64 x.1.i, .string x.1.s], undef, undef, undef, undef, undef, undef, undef, undef, undef, undef, undef, undef, undef, undef, undef, undef, undef, undef, undef, undef], defers := [] })
    (fun x a' _ X Y row hs hg hr => by obtain ⟨Bx, h1, h2, h3⟩ := hs; exact ⟨Bx, h1, h2.kept hg (fun r e => (hr r e).2), h3⟩)
    ?assign ?body ?done ?stop
  case assign =>
    rintro l pre x W K hI hK
    have hsW : w.heap.size + 4 < W.heap.size := by obtain ⟨_, _, _, _, _, _, _, _, _, _, _, h9, _⟩ := hI; exact lt_of_block h9
    have hI' := (vecI_own (w := w) (hb := hb) (tb := tb) (Bn := Bn) (tk := tk) (j := j) (f := f) (m := m) (n := n) hF (Nat.le_refl _)).alloc (.cells #[.int .i64 x.1.k, .int .i64 x.1.i, .string x.1.s] 36) hI
    unfold encV
    gi_wp2
    exact hK _ _ ((KeepsOthers.alloc _ _).from _) ⟨(Below.refl 0 W).alloc (Nat.zero_le _) _, fun b hb _ => Below.heap_alloc W _ b (by omega)⟩ hI' ⟨W.heap.size, hsW, World.alloc_heap_new W _, rfl⟩
  case body =>
    rintro l pre ⟨⟨xk, xi, xt⟩, hxo, hxb⟩ a' W hl ⟨r, hr⟩ hI ⟨Bx, hBx, bX, rfl⟩ hlt
    obtain ⟨rr, n', v, e1, hT, hP1, hk1, c0, c1, c2, c3, c4, hO⟩ := hI
    obtain ⟨q1, q2, q3, q4⟩ := tellI_num (fun i u => tellF_num hW f u (m + 1)) _ _ _ _ _ hn e1
    rw [List.length_map] at q4
    have KV0 := HV ⟨xk, xi, xt⟩ (m + 1) n' W hxb hxo (by omega) q2 (by omega) hT hP1.2.1 (fun b hb => Nat.lt_of_lt_of_le (hF b hb) hk1.1.size) hP1.2.2
    rw [show ((m + 1 : Nat) : Int) = (m : Int) + 1 from by omega] at KV0
    have HE : tellI (fun _ u k => tellF T f u (m + 1) k) ((pre ++ [(⟨⟨xk, xi, xt⟩, hxo, hxb⟩ : HVal T)]).map (fun x : HVal T => x.1)) 0 n = match tellF T f ⟨xk, xi, xt⟩ (m + 1) n' with | none => none | some (x, n2) => some (rr ++ [x], n2) := by
      rw [List.map_append, List.map_cons, List.map_nil, tellI_snoc, e1]
      rfl
    generalize tellF T f ⟨xk, xi, xt⟩ (m + 1) n' = res at KV0 HE
    have KV := Lib.hid KV0
    have HRE := Lib.hid HE
    dsimp only at KV bX
    have x3 : W.cell? ⟨w.heap.size, 0, none⟩ = some (.pointer (some ⟨tb, 0, none⟩)) := by rw [Lib.cell_of_heap c0]; rfl
    have x5 : W.cell? ⟨w.heap.size + 1, 0, none⟩ = some (.int .i64 (m : Int)) := by rw [Lib.cell_of_heap c1]; rfl
    obtain ⟨⟨y0, y1, y2⟩, -⟩ := look3 bX
    have HC := Lib.hid (And.intro hT (And.intro hP1 (And.intro hk1 (And.intro c0 (And.intro c1 (And.intro c2 (And.intro c3 (And.intro c4 hO))))))))
    have hsW := lt_of_block c4
    clear KV0 HE hT hP1 hk1 c0 c1 c2 c3 c4 hO e1 bX hI0 hPc hP hr
    gi_wp2_with fail
    refine ⟨trivial, (fun e => by cases e), (CallsIn.inRound l (callsIn_wide.2 KV.out)).mono ?_⟩
    rintro e w2 ⟨dk, di, ds, za, zn, zc, ok, rfl, hres, k2⟩
    have sz2 := k2.1.size
    have hbb : ∀ b, b < w.heap.size + 5 → b ≠ tb → w2.heap[b]? = W.heap[b]? := fun b hb hn => k2.2 b (by omega) hn
    have g2 := (hbb (w.heap.size + 2) (by omega) (by omega)).trans HC.out.2.2.2.2.2.1
    have g3 := (hbb (w.heap.size + 3) (by omega) (by omega)).trans HC.out.2.2.2.2.2.2.1
    have g4 := (hbb (w.heap.size + 4) (by omega) (by omega)).trans HC.out.2.2.2.2.2.2.2.1
    have g0 := (hbb w.heap.size (by omega) (by omega)).trans HC.out.2.2.2.1
    have g1 := (hbb (w.heap.size + 1) (by omega) (by omega)).trans HC.out.2.2.2.2.1
    have HK2 := Lib.hid k2
    have A3 := (Below.refl w2.heap.size w2).alloc (Nat.le_refl _) (.cells #[.int .i64 dk, .int .i64 di, .string ds, .slice za zn zc] 50)
    have HA3 := Lib.hid A3
    have E3 := Lib.hid (heap_alloc_new w2 (.cells #[.int .i64 dk, .int .i64 di, .string ds, .slice za zn zc] 50))
    replace g0 := blk_skip' (o := .cells #[.int .i64 dk, .int .i64 di, .string ds, .slice za zn zc] 50) g0
    replace g1 := blk_skip' (o := .cells #[.int .i64 dk, .int .i64 di, .string ds, .slice za zn zc] 50) g1
    replace g2 := blk_skip' (o := .cells #[.int .i64 dk, .int .i64 di, .string ds, .slice za zn zc] 50) g2
    replace g3 := blk_skip' (o := .cells #[.int .i64 dk, .int .i64 di, .string ds, .slice za zn zc] 50) g3
    replace g4 := blk_skip' (o := .cells #[.int .i64 dk, .int .i64 di, .string ds, .slice za zn zc] 50) g4
    have s3 := Lib.hid (size_new w2 (.cells #[.int .i64 dk, .int .i64 di, .string ds, .slice za zn zc] 50))
    clear x3 x5 y0 y1 y2 A3 hbb
    match res, HRE, hres with
    | none, HRE, hres =>
      obtain ⟨rfl, rfl, rfl, rfl, hz⟩ := hres
      cases hz
      have G2 := Lib.hid g2
      have G3 := Lib.hid g3
      obtain ⟨⟨z0, z1, z2, z3⟩, f0, f1, f2, f3⟩ := look4 (g := w.heap.size + 1 + 1) g2
      have z4 : (w2.alloc (.cells #[.int .i64 0, .int .i64 0, .string ⟨#[]⟩, .slice none 0 0] 50)).cell? ⟨w.heap.size + 1 + 1 + 1, 0, none⟩ = some (.bool false) := by rw [Lib.cell_of_heap g3]; rfl
      have f4 : (w2.alloc (.cells #[.int .i64 0, .int .i64 0, .string ⟨#[]⟩, .slice none 0 0] 50)).frozen? ⟨w.heap.size + 1 + 1 + 1, 0, none⟩ = false := Lib.frozen_of_heap g3 _
      clear g0 g1 g2 g3 g4 k2
      gi_wp2
      have hsz3 := s3.out
      refine ⟨keepsFrom_of (tb := tb) (fun b hb hB hn => ?_) ?_ HC.out.1, rfl, HRE.out, kpf_set (kpf_put4 ((HC.out.2.2.1.trans HK2.out).trans (KpF.of_below HA3.out)) (by omega) _ _ _ _) (by omega) _, ?_, ?_⟩
      · rw [Below.heap_setCell _ _ _ _ (by show b ≠ w.heap.size + 1 + 1 + 1; omega), put4_other _ _ _ _ (by omega), HA3.out.block b (by omega), HK2.out.2 b hb hn]
      · rw [size_put, size_put, size_put, size_put, size_put]; omega
      · exact (Below.heap_setCell _ _ _ _ (by show w.heap.size + 2 ≠ w.heap.size + 1 + 1 + 1; omega)).trans (put4 G2.out _ _ _ _)
      · exact heap_setCell_same _ _ 0 _ _ _ ((put4_other _ _ _ _ (by omega)).trans G3.out)
    | some (d, n2), HRE, hres =>
      obtain ⟨rfl, ⟨l2, rfl, hnew⟩, hT2⟩ := hres
      have HN := Lib.hid hnew
      have HT2 := Lib.hid hT2
      have G0 := Lib.hid g0
      have G1 := Lib.hid g1
      have G2 := Lib.hid g2
      have G3 := Lib.hid g3
      have G4 := Lib.hid g4
      clear g0 g1 g2 g3 g4 k2 hnew hT2
      gi_wp2
      obtain ⟨va, vc, rfl, hvlt⟩ := HC.out.2.2.2.2.2.2.2.2.slice
      have HVL := Lib.hid hvlt
      have HOW := Lib.hid ((HC.out.2.2.2.2.2.2.2.2).keep (w' := w2.alloc (.cells #[.int .i64 dk, .int .i64 di, .string ds, .slice za zn zc] 50)) (fun b hb hc => by
        have hbt : b ≠ tb := by
          rcases hc with hc | hc
          · omega
          · have := hvlt b hc; omega
        rw [HA3.out.block b (by omega), HK2.out.2 b hb hbt]))
      clear hvlt
      have hsz3 := s3.out
      have HNI : Hid (InS (w2.alloc (.cells #[.int .i64 dk, .int .i64 di, .string ds, .slice za zn zc] 50)) (fun b => w.heap.size + 5 ≤ b ∧ some b ≠ (Value.slice va rr.length vc).ownBlock) l2 (.slice za zn zc)) :=
        Lib.hid ((inS_new.2 HN.out.2.2.2).move (fun b hb _ => ⟨by omega, fun e => by have := (HVL.out b e.symm).2; omega⟩) (fun b o y _ hc => cell_below HA3.out hc))
      have hdk := HN.out.1
      have hdi := HN.out.2.1
      have hds := HN.out.2.2.1
      generalize w2.alloc (.cells #[.int .i64 dk, .int .i64 di, .string ds, .slice za zn zc] 50) = w3 at *
      have hO4 : w.heap.size + 1 + 1 + 1 + 1 = w.heap.size + 4 := rfl
      rw [hO4]
      generalize hOO : w.heap.size + 4 = O at *
      have hDn : w2.heap.size < w3.heap.size := by omega
      generalize hDD : w2.heap.size = Db at *
      obtain ⟨xs3, ho3, hx3⟩ := HOW.out
      have HO3 := Lib.hid ho3
      have HX3 := Lib.hid hx3
      clear ho3 hx3 HOW
      obtain ⟨i0, hi0, hz0, hz1, hz2⟩ := info_parts infoDatum
      have hrl : rr.length ≤ 1000 := by omega
      clear q4
      refine wpIn_region_any (by kernel_rfl) (Rg.anyIn_of (noDefer_of (by kernel_rfl)) (by rintro ⟨a, w, h⟩; exact h) _ _ _ _ (Rg.wpAny_region_invK (fun S vs Wx => IP1 w3 O rr.length (.slice va rr.length vc) (.agg #[.int .i64 dk, .int .i64 di, .string ds, .slice za zn zc]) S vs Wx ∨ IP2 w3 (w.heap.size + 5) O rr.length dk di (.string ds) (.slice va rr.length vc) (.slice za zn zc) (.int .i64 7) (.int .i64 0) (.string ⟨#[]⟩) xs3 S vs Wx) (by kernel_rfl) (fun vs => .inl ⟨rfl, (Below.refl _ _).drew, fun j _ h => by cases h⟩) ?_ ?_))
      · intro i o hi S vs Wx hI hSi hdep hcl K hK
        rcases i with _ | _ | _ | _ | _ | _ | _ | _ | _ | _ | i
        case succ.succ.succ.succ.succ.succ.succ.succ.succ.succ => simp at hi
        all_goals simp only [List.getElem?_cons_zero, List.getElem?_cons_succ, Option.some.injEq, Nat.reduceAdd, Nat.zero_add] at hi hSi hdep
        all_goals subst hi
        all_goals simp only [Rg.putAll, Act.put, List.setIfInBounds_toArray, List.set_cons_zero, List.set_cons_succ, Nat.zero_add, Nat.reduceAdd]
        · rcases hI with hI | hI
          case inr => exact absurd (hcl 5 0 hI.1 (by kernel_rfl)) (by rw [hSi]; decide)
          go_simp
          exact ⟨_, rfl, hK _ _ (.inl (ip1_new (i := 0) (by decide) hI rfl (Below.refl _ _)))⟩
        · rcases hI with hI | hI
          case inr => exact absurd (hcl 5 1 hI.1 (by kernel_rfl)) (by rw [hSi]; decide)
          have e0 := (hI.2.2 0 (by decide) (hdep 0 (by kernel_rfl)) : RAp O rr.length _ _ 0 (vs 0) Wx)
          rw [show vs 0 = _ from e0]
          have x3 : Wx.cell? ⟨O, 3, none⟩ = some (.slice va rr.length vc) := by
            rw [Lib.cell_of_heap ((hI.2.1.block O (by omega)).trans G4.out)]; rfl
          go_simp
          exact ⟨_, rfl, hK _ _ (.inl (ip1_new (i := 1) (by decide) hI rfl (Below.refl _ _)))⟩
        · rcases hI with hI | hI
          case inr => exact absurd (hcl 5 2 hI.1 (by kernel_rfl)) (by rw [hSi]; decide)
          obtain ⟨⟨x0, x1, x2, x3⟩, -⟩ := look4 ((hI.2.1.block Db hDn).trans E3.out)
          go_simp
          exact ⟨_, rfl, hK _ _ (.inl (ip1_new (i := 2) (by decide) hI rfl (Below.refl _ _)))⟩
        · rcases hI with hI | hI
          case inr => exact absurd (hcl 5 3 hI.1 (by kernel_rfl)) (by rw [hSi]; decide)
          have e1 := (hI.2.2 1 (by decide) (hdep 1 (by kernel_rfl)) : RAp O rr.length _ _ 1 (vs 1) Wx)
          rw [show vs 1 = _ from e1]
          go_simp
          exact ⟨_, rfl, hK _ _ (.inl (ip1_new (i := 3) (by decide) hI rfl (Below.refl _ _)))⟩
        · rcases hI with hI | hI
          case inr => exact absurd (hcl 5 4 hI.1 (by kernel_rfl)) (by rw [hSi]; decide)
          go_simp
          exact ⟨_, rfl, hK _ _ (.inl (ip1_new (i := 4) (by decide) hI ⟨_, rfl, heap_alloc_new Wx _⟩ ((Below.refl _ _).alloc (Nat.le_refl _) _)))⟩
        · rcases hI with hI | hI
          case inr => exact absurd hI.1 (by rw [hSi]; decide)
          have e1 := (hI.2.2 1 (by decide) (hdep 1 (by kernel_rfl)) : RAp O rr.length _ _ 1 (vs 1) Wx)
          have e2 := (hI.2.2 2 (by decide) (hdep 2 (by kernel_rfl)) : RAp O rr.length _ _ 2 (vs 2) Wx)
          have e3 := (hI.2.2 3 (by decide) (hdep 3 (by kernel_rfl)) : RAp O rr.length _ _ 3 (vs 3) Wx)
          obtain ⟨gz, e4, hgz⟩ := (hI.2.2 4 (by decide) (hdep 4 (by kernel_rfl)) : RAp O rr.length _ _ 4 (vs 4) Wx)
          have no : ∀ k, Rg.waits _ k 5 = true → S k = false := fun k hk => by
            cases h : S k with
            | false => rfl
            | true => have := hcl k 5 h hk; rw [hSi] at this; cases this
          have n6 : S 6 = false := no 6 (by kernel_rfl)
          have n7 : S 7 = false := no 7 (by kernel_rfl)
          have n8 : S 8 = false := no 8 (by kernel_rfl)
          have n9 : S 9 = false := no 9 (by kernel_rfl)
          clear no
          have hbw := hI.2.1
          have hszx := hbw.size
          have HOx : Wx.ownsRow (w.heap.size + 5) 50 4 (.slice va rr.length vc) rr.length xs3 := ⟨HO3.out.1, HO3.out.2.imp id (by
            rintro ⟨tb', cap', cur, e, b1, b2, b3⟩
            exact ⟨tb', cap', cur, e, b1, (hbw.block tb' (lt_of_block b2)).trans b2, b3⟩)⟩
          have hOown : some O ≠ (Value.slice va rr.length vc).ownBlock := fun e => by have := (HVL.out O e.symm).1; omega
          rw [show vs 1 = _ from e1, e4]
          refine wp_append_lies Wx _ _ 48 rfl (w.heap.size + 5) 50 i0 _ 4 56 Tryd.underlying48 hi0 hz0 hz1 hz2 rfl (by decide) (.slice va rr.length vc) rr.length xs3 rfl HOx ⟨gz, 0, none⟩ 1 1 [.int .i64 0, .int .i64 0, .string ⟨#[]⟩, .slice none 0 0] rfl rfl (World.news_of_block hgz) (by intro u hu; simp only [List.mem_cons, List.not_mem_nil, or_false] at hu; rcases hu with rfl | rfl | rfl | rfl <;> rfl) (by decide) (by unfold maxLen; omega) (by omega) (by omega) Wx.heap.size rfl ?_
          intro g capn w1 ho hg hat hlt'
          have hO1 : w1.heap[O]? = some (.cells #[.int .i64 7, .int .i64 0, .string ⟨#[]⟩, .slice va rr.length vc] 50 (0, 0)) := (hg.block O (by omega) hOown).trans ((hbw.block O (by omega)).trans G4.out)
          obtain ⟨cur, d1, d2, d3, d4, d5, d6⟩ : ∃ cur, w.heap.size + 5 ≤ g ∧ w1.heap[g]? = some (.cells cur 50 (0, 0)) ∧ rr.length + 1 ≤ capn ∧ capn ≤ maxLen ∧ cur.size = capn * 4 ∧ cur.toList.take ((rr.length + 1) * 4) = xs3 ++ [.int .i64 0, .int .i64 0, .string ⟨#[]⟩, .slice none 0 0] := by
            rcases ho.2 with ⟨e, _⟩ | ⟨g', cap', cur, e, d1, d2, d3⟩
            · cases e
            · cases e
              exact ⟨cur, d1, d2, d3⟩
          refine ⟨_, rfl, hK _ _ (.inr ⟨by simp, by simpa using (show vs 2 = _ from e2), by simpa using (show vs 3 = _ from e3), g, capn, cur, Wx, by simp, by simp [n6], by simp [n8], hbw, hat, d1, d3, d4, d5, d6, by simpa [n7] using d2, by simpa [n9] using hO1, ?_, fun b hb h1 h2 h3 => hg.block b hb h3⟩)⟩
          exact (Below.refl 0 Wx).grown hg (Nat.zero_le _) (fun _ _ => Nat.zero_le _)
        · rcases hI with hI | hI
          case inl => exact absurd (hdep 5 (by kernel_rfl)) (by rw [hI.1]; decide)
          obtain ⟨h5, h2, h3, g, capn, cur, W1, v5, h6, h8, b1, hat, hCg, hn1, hn2, hcs, htk, hg, hO, b0, hkeep⟩ := hI
          rw [v5, h3]
          have hlt1 : (rr.length : Int) < ((rr.length : Int) + 1) := by omega
          go_simp
          exact ⟨_, rfl, hK _ _ (.inr ⟨by simpa using h5, by simpa using h2, by simpa using h3, g, capn, cur, W1, by simpa using v5, by simp, by simpa using h8, b1, hat, hCg, hn1, hn2, hcs, htk, by simpa using hg, by simpa using hO, b0, hkeep⟩)⟩
        · rcases hI with hI | hI
          case inl => exact absurd (hdep 5 (by kernel_rfl)) (by rw [hI.1]; decide)
          obtain ⟨h5, h2, h3, g, capn, cur, W1, v5, h6, h8, b1, hat, hCg, hn1, hn2, hcs, htk, hg, hO, b0, hkeep⟩ := hI
          rw [hSi, if_neg (by decide)] at hg
          rw [h6 (hdep 6 (by kernel_rfl)), h2]
          have hsz : rr.length * 4 + 3 < cur.size := by omega
          have y0 : Wx.cell? ⟨g, rr.length * 4, none⟩ = cur[rr.length * 4]? := by rw [Lib.cell_of_heap hg]
          have y1 : Wx.cell? ⟨g, rr.length * 4 + 1, none⟩ = cur[rr.length * 4 + 1]? := by rw [Lib.cell_of_heap hg]
          have y2 : Wx.cell? ⟨g, rr.length * 4 + 2, none⟩ = cur[rr.length * 4 + 2]? := by rw [Lib.cell_of_heap hg]
          have y3 : Wx.cell? ⟨g, rr.length * 4 + 3, none⟩ = cur[rr.length * 4 + 3]? := by rw [Lib.cell_of_heap hg]
          rw [Array.getElem?_eq_getElem (by omega)] at y0 y1 y2 y3
          have f0 : Wx.frozen? ⟨g, rr.length * 4, none⟩ = false := Lib.frozen_of_heap hg _
          have f1 : Wx.frozen? ⟨g, rr.length * 4 + 1, none⟩ = false := Lib.frozen_of_heap hg _
          have f2 : Wx.frozen? ⟨g, rr.length * 4 + 2, none⟩ = false := Lib.frozen_of_heap hg _
          have f3 : Wx.frozen? ⟨g, rr.length * 4 + 3, none⟩ = false := Lib.frozen_of_heap hg _
          go_simp
          have hOg : O ≠ g := by omega
          exact ⟨undef, rfl, hK _ _ (.inr ⟨by simpa using h5, by simpa using h2, by simpa using h3, g, capn, cur, W1, by simpa using v5, by simpa using h6, by simpa using h8, b1, hat, hCg, hn1, hn2, hcs, htk, by simpa using put_at hg _ _ _ _, by simpa using (put_at_other hOg _ _ _ _).trans hO, b0.trans (put_at_below _ _ _ _), fun b hb q1 q2 q3 => (put_at_other q1 _ _ _ _).trans (hkeep b hb q1 q2 q3)⟩)⟩
        · rcases hI with hI | hI
          case inl => exact absurd (hdep 5 (by kernel_rfl)) (by rw [hI.1]; decide)
          obtain ⟨h5, h2, h3, g, capn, cur, W1, v5, h6, h8, b1, hat, hCg, hn1, hn2, hcs, htk, hg, hO, b0, hkeep⟩ := hI
          go_simp
          exact ⟨_, rfl, hK _ _ (.inr ⟨by simpa using h5, by simpa using h2, by simpa using h3, g, capn, cur, W1, by simpa using v5, by simpa using h6, by simp, b1, hat, hCg, hn1, hn2, hcs, htk, by simpa using hg, by simpa using hO, b0, hkeep⟩)⟩
        · rcases hI with hI | hI
          case inl => exact absurd (hdep 5 (by kernel_rfl)) (by rw [hI.1]; decide)
          obtain ⟨h5, h2, h3, g, capn, cur, W1, v5, h6, h8, b1, hat, hCg, hn1, hn2, hcs, htk, hg, hO, b0, hkeep⟩ := hI
          rw [hSi, if_neg (by decide)] at hO
          rw [h8 (hdep 8 (by kernel_rfl)), v5]
          have x3 : Wx.cell? ⟨O, 3, none⟩ = some (.slice va rr.length vc) := by rw [Lib.cell_of_heap hO]; rfl
          have f3 : Wx.frozen? ⟨O, 3, none⟩ = false := Lib.frozen_of_heap hO _
          go_simp
          have hOg : O ≠ g := by omega
          exact ⟨undef, rfl, hK _ _ (.inr ⟨by simpa using h5, by simpa using h2, by simpa using h3, g, capn, cur, W1, by simpa using v5, by simpa using h6, by simpa using h8, b1, hat, hCg, hn1, hn2, hcs, htk, by simpa using (Below.heap_setCell _ _ _ _ (show g ≠ O from hOg.symm)).trans hg, by simpa using heap_setCell_same Wx O 3 _ _ _ hO, b0.setCell (p := ⟨O, 3, none⟩) (Nat.zero_le _) _, fun b hb q1 q2 q3 => (Below.heap_setCell _ _ _ _ (show b ≠ O from q2)).trans (hkeep b hb q1 q2 q3)⟩)⟩
      · intro vs Wx hI
        rcases hI with hI | hI
        case inl => exact absurd hI.1 (by decide)
        obtain ⟨v', hOD, hOx, hb0x, hkp⟩ := ip2_end hI rfl rfl HO3.out HX3.out hdk hdi hds HNI.out (by omega)
        have hOown : ∀ b, b < w.heap.size + 5 → some b ≠ (Value.slice va rr.length vc).ownBlock := fun b hb e => by have := (HVL.out b e.symm).1; omega
        have kOld : ∀ b, b < W.heap.size → b ≠ tb → b ≠ O → some b ≠ (Value.slice va rr.length vc).ownBlock → Wx.heap[b]? = W.heap[b]? := fun b hb h1 h2 h3 => by
          rw [hkp b (by omega) h2 h3, HA3.out.block b (by omega), HK2.out.2 b hb h1]
        have hszx : w3.heap.size ≤ Wx.heap.size := hb0x.size
        have hKw : KpF (TS tb) w Wx := ⟨(((HC.out.2.2.1.1.trans HK2.out.1).trans (HA3.out.mono (Nat.zero_le _))).trans hb0x), fun b hb hn => (kOld b (by omega) hn (by omega) (hOown b (by omega))).trans (HC.out.2.2.1.2 b hb hn)⟩
        refine ⟨?_, ⟨(HK2.out.1.trans (HA3.out.mono (Nat.zero_le _))).trans hb0x, fun b hb hn => kOld b (by omega) hn (by omega) (hOown b (by omega))⟩, rr ++ [.mk dk di ds l2], n2, v', HRE.out, ?_, ?_, hKw, ?_, ?_, ?_, ?_, ?_, hOD⟩
        · refine ⟨by omega, fun k o hB hk ho => ?_⟩
          have hkt : k ≠ tb := fun e => by
            rw [e, show W.heap[tb]? = _ from HC.out.1] at hk
            cases hk
            cases ho
          have hko : some k ≠ (Value.slice va rr.length vc).ownBlock := fun e => by
            rcases HO3.out.2 with ⟨e2, h0⟩ | ⟨g', cap', cur, e2, d1, d2, _⟩
            · rw [e2] at e; cases e
            · rw [e2] at e
              cases e
              have hgl : g' < W.heap.size := lt_of_block hk
              rw [HA3.out.block g' (by omega), HK2.out.2 g' hgl hkt, show W.heap[g']? = _ from hk] at d2
              cases d2
              cases ho
          exact (kOld k (lt_of_block hk) hkt (by omega) hko).trans hk
        · exact (hkp tb (by omega) (by omega) (hOown tb (by omega))).trans ((HA3.out.block tb (by omega)).trans HT2.out)
        · exact HC.out.2.1.kpB (C := w.heap.size) (tb := tb) ⟨(HK2.out.1.trans (HA3.out.mono (Nat.zero_le _))).trans hb0x, fun b hb hn => kOld b (by omega) hn (by omega) (hOown b (by omega))⟩ hBn hF hFt hhb
        · exact (hkp _ (by omega) (by omega) (hOown _ (by omega))).trans G0.out
        · exact (hkp _ (by omega) (by omega) (hOown _ (by omega))).trans G1.out
        · exact (hkp _ (by omega) (by omega) (hOown _ (by omega))).trans G2.out
        · exact (hkp _ (by omega) (by omega) (hOown _ (by omega))).trans G3.out
        · rw [hOO]; exact hOx
  case done =>
    rintro D ys W hD rfl hI hK
    obtain ⟨rr, n', v, e1, hT, hP1, hk1, c0, c1, c2, c3, c4, hO⟩ := hI
    obtain ⟨va, vc, rfl, hvlt⟩ := hO.slice
    obtain ⟨⟨x0, x1, x2, x3⟩, -⟩ := look4 (g := w.heap.size + 1 + 1 + 1 + 1) c4
    obtain ⟨⟨z0, z1, z2, z3⟩, f0, f1, f2, f3⟩ := look4 (g := w.heap.size + 1 + 1) c2
    have z4 : W.cell? ⟨w.heap.size + 1 + 1 + 1, 0, none⟩ = some (.bool false) := by rw [Lib.cell_of_heap c3]; rfl
    have f4 : W.frozen? ⟨w.heap.size + 1 + 1 + 1, 0, none⟩ = false := Lib.frozen_of_heap c3 _
    have HE1 := Lib.hid e1
    have HC := Lib.hid (And.intro hT (And.intro hk1 (And.intro c2 (And.intro c3 hO))))
    have hRR := HRR.out
    rw [e1] at hRR
    subst hRR
    have HVL := Lib.hid hvlt
    clear e1 hT hP1 hk1 c0 c1 c2 c3 c4 hO hvlt hI0 hPc hP HRR HE1
    gi_wp2
    have hsW := lt_of_block HC.out.2.2.2.1
    have e5 := (Below.heap_setCell (((((W.setCell ⟨w.heap.size + 1 + 1, 0, none⟩ (.int .i64 7)).setCell ⟨w.heap.size + 1 + 1, 1, none⟩ (.int .i64 0)).setCell ⟨w.heap.size + 1 + 1, 2, none⟩ (.string ⟨#[]⟩)).setCell ⟨w.heap.size + 1 + 1, 3, none⟩ (.slice va rr.length vc))) ⟨w.heap.size + 1 + 1 + 1, 0, none⟩ (.bool true) (w.heap.size + 1 + 1) (by show w.heap.size + 1 + 1 ≠ w.heap.size + 1 + 1 + 1; omega)).trans (put4 (g := w.heap.size + 1 + 1) HC.out.2.2.1 (.int .i64 7) (.int .i64 0) (.string ⟨#[]⟩) (.slice va rr.length vc))
    have e6 := heap_setCell_same (((((W.setCell ⟨w.heap.size + 1 + 1, 0, none⟩ (.int .i64 7)).setCell ⟨w.heap.size + 1 + 1, 1, none⟩ (.int .i64 0)).setCell ⟨w.heap.size + 1 + 1, 2, none⟩ (.string ⟨#[]⟩)).setCell ⟨w.heap.size + 1 + 1, 3, none⟩ (.slice va rr.length vc))) (w.heap.size + 1 + 1 + 1) 0 _ _ (.bool true) ((put4_other (g := w.heap.size + 1 + 1) (.int .i64 7) (.int .i64 0) (.string ⟨#[]⟩) (.slice va rr.length vc) (show w.heap.size + 1 + 1 + 1 ≠ w.heap.size + 1 + 1 by omega)).trans HC.out.2.2.2.1)
    have kk : ∀ b, b ≠ w.heap.size + 1 + 1 → b ≠ w.heap.size + 1 + 1 + 1 → (((((W.setCell ⟨w.heap.size + 1 + 1, 0, none⟩ (.int .i64 7)).setCell ⟨w.heap.size + 1 + 1, 1, none⟩ (.int .i64 0)).setCell ⟨w.heap.size + 1 + 1, 2, none⟩ (.string ⟨#[]⟩)).setCell ⟨w.heap.size + 1 + 1, 3, none⟩ (.slice va rr.length vc)).setCell ⟨w.heap.size + 1 + 1 + 1, 0, none⟩ (.bool true)).heap[b]? = W.heap[b]? := fun b h1 h2 => (Below.heap_setCell _ _ _ _ (show b ≠ _ from h2)).trans (put4_other _ _ _ _ h1)
    have hkp : KpF (TS tb) w (((((W.setCell ⟨w.heap.size + 1 + 1, 0, none⟩ (.int .i64 7)).setCell ⟨w.heap.size + 1 + 1, 1, none⟩ (.int .i64 0)).setCell ⟨w.heap.size + 1 + 1, 2, none⟩ (.string ⟨#[]⟩)).setCell ⟨w.heap.size + 1 + 1, 3, none⟩ (.slice va rr.length vc)).setCell ⟨w.heap.size + 1 + 1 + 1, 0, none⟩ (.bool true)) := kpf_set (kpf_put4 HC.out.2.1 (by omega) _ _ _ _) (by omega) _
    generalize (((((W.setCell ⟨w.heap.size + 1 + 1, 0, none⟩ (.int .i64 7)).setCell ⟨w.heap.size + 1 + 1, 1, none⟩ (.int .i64 0)).setCell ⟨w.heap.size + 1 + 1, 2, none⟩ (.string ⟨#[]⟩)).setCell ⟨w.heap.size + 1 + 1, 3, none⟩ (.slice va rr.length vc)).setCell ⟨w.heap.size + 1 + 1 + 1, 0, none⟩ (.bool true)) = WE at *
    have hK' := (kk D (by omega) (by omega)).trans hK
    have hpo : ∀ b, b ≠ D → (WE.putObj D (.deferred none)).heap[b]? = WE.heap[b]? := fun b hb => World.putObj_heap_other hb
    refine ⟨by simp, .inl ⟨_, _, rfl, run_takeDeferred hK', ?_⟩⟩
    refine ⟨_, res_dcb (p := 6) (q := 7) rfl _ _ (w.heap.size + 1 + 1) (w.heap.size + 1 + 1 + 1) _ _ _ _ true rfl rfl ((hpo _ (by omega)).trans e5) ((hpo _ (by omega)).trans e6), 7, 0, ⟨#[]⟩, va, rr.length, vc, true, rfl, ⟨rfl, ⟨rr, rfl, ?_⟩, ?_⟩, ?_⟩
    · refine ⟨⟨by decide, by decide⟩, ⟨by decide, by decide⟩, by decide, inS_new.1 (HC.out.2.2.2.2.ins.move (fun b hb _ => by rcases hb with hb | hb <;> omega) (fun b o y hb hc => ?_))⟩
      have hbD : b ≠ D := fun e => by
        obtain ⟨ob, h1, h2⟩ := cell_cells hc
        rw [e, hK] at h1
        cases h1
        cases h2
      exact (World.cell?_of_block (w := W) (a := ⟨b, o, none⟩) ((hpo b hbD).trans (kk b (by rcases hb with hb | hb <;> omega) (by rcases hb with hb | hb <;> omega)))).trans hc
    · exact (hpo tb (by omega)).trans ((kk tb (by omega) (by omega)).trans HC.out.1)
    · exact ⟨hkp.1.trans ⟨rfl, rfl, rfl, by simp, fun _ h => absurd h (Nat.not_lt_zero _)⟩, fun b hb hn => (hpo b (by omega)).trans (hkp.2 b hb hn)⟩
  case stop =>
    rintro D c pre W hD hpre ⟨rfl, hx2, hx3, hx4, hx5⟩ hK
    have HX := Lib.hid (And.intro hx2 (And.intro hx3 (And.intro hx4 hx5)))
    have hRR := HRR.out
    rw [tellI_pre (show pre.map (fun x : HVal T => x.1) <+: xs.map (fun x : HVal T => x.1) from List.IsPrefix.map _ hpre) hx2] at hRR
    subst hRR
    clear hx2 hx3 hx4 hx5 hI0 hPc hP HRR
    gi_wp2
    have hsW := lt_of_block HX.out.2.2.2
    have hpo : ∀ b, b ≠ D → (W.putObj D (.deferred none)).heap[b]? = W.heap[b]? := fun b hb => World.putObj_heap_other hb
    refine ⟨by simp, .inl ⟨_, _, rfl, run_takeDeferred hK, ?_⟩⟩
    refine ⟨_, res_dcb (p := 6) (q := 7) rfl _ _ (w.heap.size + 1 + 1) (w.heap.size + 1 + 1 + 1) _ _ _ _ false rfl rfl ((hpo _ (by omega)).trans HX.out.2.2.1) ((hpo _ (by omega)).trans HX.out.2.2.2), 0, 0, ⟨#[]⟩, none, 0, 0, false, rfl, TelRes.zero, ?_⟩
    exact ⟨HX.out.2.1.1.trans ⟨rfl, rfl, rfl, by simp, fun _ h => absurd h (Nat.not_lt_zero _)⟩, fun b hb hn => (hpo b (by omega)).trans (HX.out.2.1.2 b hb hn)⟩
/-- A vector's values. -/
theorem vector_any (hb tb : Nat) (cap tk j : Nat) (T : List (Int × List PV)) (F : Nat → Prop) (hFt : ¬ F tb) (hhb : F hb) (hj : j < T.length) (hW : WfT T) (f m n : Nat) (hm : m ≤ 32) (hn : n ≤ 200) (hf : 200 ≤ n + f)
    (HV : ValF hb tb (.slice (some ⟨tk, 0, none⟩) T.length cap) T F f) (Bn : Nat) (w : World) (hF : ∀ b, F b → b < w.heap.size) (hBn : Bn < w.heap.size ∧ Bn ≠ tb) (hP : PcS hb (.slice (some ⟨tk, 0, none⟩) T.length cap) T F Bn tk j w) (ht : TelM w tb (.slice (some ⟨tk, 0, none⟩) T.length cap) n) :
    Calls Tryd.prog 64 #[.pointer (some ⟨tb, 0, none⟩), .func (.func 61) #[] #[.pointer (some ⟨Bn, 0, none⟩)], .int .i64 (m : Int)] w fun e w' =>
      TelOk w tb (.slice (some ⟨tk, 0, none⟩) T.length cap) (match tellI (fun _ u k => tellF T f u (m + 1) k) T[j].2 0 n with | none => none | some (l, n2) => some (.mk 7 0 ⟨#[]⟩ l, n2)) e w' :=
  callsIn_wide.1 (vector_in 4 (by decide) hb tb cap tk j T F hFt hhb hj hW f m n hm hn hf HV Bn w hF hBn hP ht)
end Go.Proofs.YtpejhilfopjckaaDoor.Hp

/-
Package heap's teller: a pair, told or not; any value. No condition but that the heap and the teller lie in memory and the heap's things are such as calls make.
-/
namespace Go.Proofs.YtpejhilfopjckaaDoor.Hp
open Go.ChangeShapes Go.WideShapes Go.ChangeAt Go.RowKit Go.Deep
open Dat (PT ok64 RepV RepS RowX infoDatum NewV NewS makeT make_any MakeOk numT numsT)
set_option maxRecDepth 100000

theorem pair_tell {g : Nat → PV → Nat → Option (PT × Nat)} (a b : PV) (n : Nat) : (match tellI g [a, b] 0 n with | none => none | some (l, n2) => some (joinT 0 l, n2)) = match g 0 a n with
    | none => none
    | some (x, n1) => match g 1 b n1 with
      | none => none
      | some (y, n2) => some (makeT [x] y, n2) := by
  simp only [tellI]
  cases g 0 a n with
  | none => rfl
  | some p =>
    obtain ⟨x, n1⟩ := p
    dsimp only
    cases g 1 b n1 with
    | none => rfl
    | some q => rfl
set_option maxHeartbeats 2000000 in
theorem pair_opt (ak ai : Int) (as_ : ByteArray) (bk bi : Int) (bs : ByteArray) (m : Nat) (hm : m ≤ 32) (hb tb : Nat) (sv : Value) (T : List (Int × List PV)) (F : Nat → Prop) (hF : ¬ F tb) (hhb : F hb) (hW : WfT T) (f n : Nat) (hn : n ≤ 200) (hf : 200 ≤ n + f)
    (HV : ValF hb tb sv T F f) (ha : hasB T.length ⟨ak, ai, as_⟩ = true) (hb' : hasB T.length ⟨bk, bi, bs⟩ = true)
    (w : World) (hFb : ∀ b, F b → b < w.heap.size) (ht : TelM w tb sv n) (hH : HeapM w hb T F) (hc : w.cell? ⟨hb, 0, none⟩ = some sv) (S : Nat → Prop) (hS : ∀ b, S b → b ≠ tb) (pv : Value) (hP : InP w S [⟨ak, ai, as_⟩, ⟨bk, bi, bs⟩] pv)
    (R : Option (PT × Nat)) (hR : R = match tellF T f ⟨ak, ai, as_⟩ (m + 1) n with | none => none | some (x, n1) => match tellF T f ⟨bk, bi, bs⟩ m n1 with | none => none | some (y, n2) => some (makeT [x] y, n2)) :
    Calls Tryd.prog 63 #[.pointer (some ⟨tb, 0, none⟩), pv, .int .i64 (m : Int)] w fun e w' => TelOk w tb sv R e w' := by
  have hhb' : hb ≠ tb := fun e => hF (e ▸ hhb)
  have hSP := hP
  obtain ⟨b, o, c, rfl, hc1, hc2, hbl, ⟨a0, a1, a2⟩, ok, ⟨b0, b1, b2⟩, ok'⟩ := two_args hP
  have hbt : b ≠ tb := by
    obtain ⟨b', o', c', e, hs, _⟩ := hSP.cells (by simp)
    cases e
    exact hS _ hs
  have hlt := lt_of_block ht
  have Z0 := heap_alloc_new w (.cells #[.int .i64 0, .int .i64 0, .string ⟨#[]⟩, .slice none 0 0] 50)
  have B0 := (Below.refl w.heap.size w).alloc (Nat.le_refl _) (.cells #[.int .i64 0, .int .i64 0, .string ⟨#[]⟩, .slice none 0 0] 50)
  have hs0 := size_new w (.cells #[.int .i64 0, .int .i64 0, .string ⟨#[]⟩, .slice none 0 0] 50)
  have mv := new_cells w (.cells #[.int .i64 0, .int .i64 0, .string ⟨#[]⟩, .slice none 0 0] 50) b hbl
  have p0 := (mv _).trans a0
  have p1 := (mv _).trans a1
  have p2 := (mv _).trans a2
  have KA0 := HV ⟨ak, ai, as_⟩ (m + 1) n _ ha ok (by omega) hn hf ((B0.block tb hlt).trans ht) (hH.below B0) (fun b hb => by have := hFb b hb; omega) ((B0.cell (p := ⟨hb, 0, none⟩) (World.block_lt_of_cell? _ _ hc)).trans hc)
  rw [show ((m + 1 : Nat) : Int) = (m : Int) + 1 from by omega] at KA0
  obtain ⟨r1, hr1⟩ : ∃ r1, r1 = tellF T f ⟨ak, ai, as_⟩ (m + 1) n := ⟨_, rfl⟩
  have HR1 := Lib.hid hr1
  rw [← hr1] at KA0 hR
  have HRR := Lib.hid hR
  clear hr1
  have HKA := Lib.hid KA0
  have HKB := Lib.hid HV
  have HH := Lib.hid hH
  have HC := Lib.hid hc
  have HF := Lib.hid hF
  have HB0 := Lib.hid B0
  have HZ0 := Lib.hid Z0
  have HBT := Lib.hid hbt
  have HHB := Lib.hid hhb'
  have HFB := Lib.hid hFb
  have HHA := Lib.hid (And.intro hb' ok')
  have HWF := Lib.hid hW
  unfold maxLen at hc2
  clear KA0 HV hH hP hSP ht Z0 B0 ok ok' mv hF hhb hS hc hbt hhb' hR hFb hb' hW ha
  go_enter Tryd.func63, Tryd.ntmps63
  go_wp2_with fail
  refine HKA.out.mono ?_
  rintro e w2 ⟨k1, i1, s1, xa, xn, xc, ok1, rfl, hres1, k2⟩
  have hs2 : w.heap.size + 1 ≤ w2.heap.size := by have := k2.1.size; omega
  match r1, HR1, HRR, hres1 with
  | none, HR1, HRR, hres1 =>
    obtain ⟨rfl, rfl, rfl, rfl, hz⟩ := hres1
    cases hz
    have hRR := HRR.out
    subst hRR
    have A3 := (Below.refl w2.heap.size w2).alloc (Nat.le_refl _) (.cells #[.int .i64 0, .int .i64 0, .string ⟨#[]⟩, .slice none 0 0] 50)
    have E0 := (A3.block w.heap.size (by omega)).trans ((k2.2 w.heap.size (by omega) (show w.heap.size ≠ tb by omega)).trans HZ0.out)
    obtain ⟨⟨y0, y1, y2, y3⟩, f0, f1, f2, f3⟩ := look4 E0
    have HE := Lib.hid (put4 E0 (.int .i64 0) (.int .i64 0) (.string ⟨#[]⟩) (.slice none 0 0))
    have HK := Lib.hid (kpf_put4 (((KpF.of_below (F := TS tb) HB0.out).trans k2).trans (KpF.of_below A3)) (Nat.le_refl _) (.int .i64 0) (.int .i64 0) (.string ⟨#[]⟩) (.slice none 0 0))
    clear k2 A3 E0 HKB HHA
    go_wp2
    have hE := HE.out
    have hK := HK.out
    clear HE HK
    exact bodyPost_ret (res_db (t := 7) (p := 6) rfl _ _ w.heap.size _ _ _ _ rfl hE) rfl ⟨0, 0, ⟨#[]⟩, none, 0, 0, false, rfl, TelRes.zero, hK⟩
  | some (d1, n1), HR1, HRR, hres1 =>
    obtain ⟨rfl, ⟨l1, rfl, hx1⟩, t2⟩ := hres1
    obtain ⟨q1, q2, q3⟩ := tellF_num HWF.out f _ _ _ _ _ hn HR1.out.symm
    have hxn : xn = l1.length := by obtain ⟨_, _, e, _⟩ := hx1.2.2.2; cases e; rfl
    subst hxn
    -- behind the first one
    have Z3 := heap_alloc_new w2 (.cells #[.int .i64 k1, .int .i64 i1, .string s1, .slice xa l1.length xc] 50)
    have B3 := (Below.refl w2.heap.size w2).alloc (Nat.le_refl _) (.cells #[.int .i64 k1, .int .i64 i1, .string s1, .slice xa l1.length xc] 50)
    have hs3 := size_new w2 (.cells #[.int .i64 k1, .int .i64 i1, .string s1, .slice xa l1.length xc] 50)
    have K3 := ((KpF.of_below (F := TS tb) HB0.out).trans k2).trans (KpF.of_below B3)
    have T3 : TelM (w2.alloc (.cells #[.int .i64 k1, .int .i64 i1, .string s1, .slice xa l1.length xc] 50)) tb sv n1 := (B3.block tb (by omega)).trans t2
    have cellOf : ∀ (W : World), KpF (TS tb) w W → ∀ (b o : Nat), b < w.heap.size → b ≠ tb → W.cell? ⟨b, o, none⟩ = w.cell? ⟨b, o, none⟩ := fun W hW b o h1 h2 => World.cell?_of_block (w := w) (a := ⟨b, o, none⟩) (hW.2 b h1 h2)
    have q0 := (cellOf _ K3 b (o + 3) hbl HBT.out).trans b0
    have q1' := (cellOf _ K3 b (o + 4) hbl HBT.out).trans b1
    have q2' := (cellOf _ K3 b (o + 5) hbl HBT.out).trans b2
    obtain ⟨r2, hr2⟩ : ∃ r2, r2 = tellF T f ⟨bk, bi, bs⟩ m n1 := ⟨_, rfl⟩
    have HR2 := Lib.hid hr2
    have KB0 := HKB.out ⟨bk, bi, bs⟩ m n1 _ HHA.out.1 HHA.out.2 (by omega) q2 (by omega) T3 (HH.out.kept K3 HF.out) (fun b hb => by have := HFB.out b hb; omega) ((cellOf _ K3 hb 0 (HH.out.lt) HHB.out).trans HC.out)
    rw [← hr2] at KB0
    have hR1 := HRR.out
    dsimp only at hR1
    rw [← hr2] at hR1
    have HRR1 := Lib.hid hR1
    have HKB3 := Lib.hid KB0
    have HX1 := Lib.hid (newV_kept (tb := tb) (hx1.move (C' := w.heap.size) (by omega) (fun _ _ _ _ h => h)) (KpF.of_below B3) hlt)
    have HK3 := Lib.hid K3
    have HZ3 := Lib.hid Z3
    have HZ0' := Lib.hid ((B3.block w.heap.size (by omega)).trans ((k2.2 w.heap.size (by omega) (show w.heap.size ≠ tb by omega)).trans HZ0.out))
    have HQ := Lib.hid (And.intro q1 (And.intro q2 q3))
    clear hx1 t2 k2 Z3 B3 T3 K3 KB0 hR1 hr2 HRR q1 q2 q3
    go_wp2_with fail
    generalize w2.alloc (.cells #[.int .i64 k1, .int .i64 i1, .string s1, .slice xa l1.length xc] 50) = w3 at *
    refine HKB3.out.mono ?_
    rintro e w4 ⟨k2, i2, s2, ya, yn, yc, ok2, rfl, hres2, k4⟩
    have hs4 : w2.heap.size + 1 ≤ w4.heap.size := by have := k4.1.size; omega
    have Z4 : w4.heap[w2.heap.size]? = some (.cells #[.int .i64 k1, .int .i64 i1, .string s1, .slice xa l1.length xc] 50 (0, 0)) := (k4.2 w2.heap.size (by omega) (show w2.heap.size ≠ tb by omega)).trans HZ3.out
    have Z04 := (k4.2 w.heap.size (by omega) (show w.heap.size ≠ tb by omega)).trans HZ0'.out
    match r2, HR2, HRR1, hres2 with
    | none, HR2, HRR1, hres2 =>
      obtain ⟨rfl, rfl, rfl, rfl, hz⟩ := hres2
      cases hz
      have hRR := HRR1.out
      subst hRR
      have A5 := (Below.refl w4.heap.size w4).alloc (Nat.le_refl _) (.cells #[.int .i64 0, .int .i64 0, .string ⟨#[]⟩, .slice none 0 0] 50)
      have E0 := (A5.block w.heap.size (by omega)).trans Z04
      obtain ⟨⟨y0, y1, y2, y3⟩, f0, f1, f2, f3⟩ := look4 E0
      have HE := Lib.hid (put4 E0 (.int .i64 0) (.int .i64 0) (.string ⟨#[]⟩) (.slice none 0 0))
      have HK := Lib.hid (kpf_put4 ((HK3.out.trans k4).trans (KpF.of_below A5)) (Nat.le_refl _) (.int .i64 0) (.int .i64 0) (.string ⟨#[]⟩) (.slice none 0 0))
      clear k4 A5 E0 Z4 Z04
      go_wp2
      have hE := HE.out
      have hK := HK.out
      clear HE HK
      exact bodyPost_ret (res_db (t := 7) (p := 6) rfl _ _ w.heap.size _ _ _ _ rfl hE) rfl ⟨0, 0, ⟨#[]⟩, none, 0, 0, false, rfl, TelRes.zero, hK⟩
    | some (d2, n2), HR2, HRR1, hres2 =>
      obtain ⟨rfl, ⟨l2, rfl, hx2⟩, t4⟩ := hres2
      obtain ⟨q1, q2, q3⟩ := tellF_num HWF.out f _ _ _ _ _ HQ.out.2.1 HR2.out.symm
      have hyn : yn = l2.length := by obtain ⟨_, _, e, _⟩ := hx2.2.2.2; cases e; rfl
      subst hyn
      have hnum : numsT [PT.mk k1 i1 s1 l1] + numT (PT.mk k2 i2 s2 l2) ≤ 200000 := by
        have := HQ.out.2.2
        simp only [numsT]
        omega
      obtain ⟨u0, u1, u2⟩ := two_new w4 (.cells #[.int .i64 k2, .int .i64 i2, .string s2, .slice ya l2.length yc] 50) (.cells #[.int .i64 k1, .int .i64 i1, .string s1, .slice xa l1.length xc] 50)
      obtain ⟨⟨g0, g1, g2, g3⟩, -⟩ := look4 Z4
      have mv4 := new_cells w4 (.cells #[.int .i64 k2, .int .i64 i2, .string s2, .slice ya l2.length yc] 50) w2.heap.size (by omega)
      replace g0 := (mv4 _).trans g0
      replace g1 := (mv4 _).trans g1
      replace g2 := (mv4 _).trans g2
      replace g3 := (mv4 _).trans g3
      clear mv4
      have NW1 := newV_kept (tb := tb) (newV_kept HX1.out k4 hlt) (KpF.of_below u2) hlt
      have NW2 := newV_kept (tb := tb) hx2 (KpF.of_below u2) (by omega)
      have hsz : ((w4.alloc (.cells #[.int .i64 k2, .int .i64 i2, .string s2, .slice ya l2.length yc] 50)).alloc (.cells #[.int .i64 k1, .int .i64 i1, .string s1, .slice xa l1.length xc] 50)).heap.size = w4.heap.size + 1 + 1 := by rw [size_new, size_new]
      have HKM := Lib.hid (make_any [.mk k1 i1 s1 l1] k2 i2 s2 l2 _ (.slice ya l2.length yc) _ _ (Dat.rep_one (by rw [hsz]; omega) u1 NW1.rep) NW2.rep (Nat.le_refl _) hnum (makeT [.mk k1 i1 s1 l1] (.mk k2 i2 s2 l2)) rfl)
      have hRR := HRR1.out
      dsimp only at hRR
      generalize makeT [PT.mk k1 i1 s1 l1] (PT.mk k2 i2 s2 l2) = r at HKM hRR
      have HR9 := Lib.hid hRR
      clear hRR
      have K5 := Lib.hid ((HK3.out.trans k4).trans (KpF.of_below u2))
      have T5 := Lib.hid ((u2.block tb (by omega)).trans t4)
      have Z5 := Lib.hid ((u2.block w.heap.size (by omega)).trans Z04)
      have HSZ := Lib.hid hsz
      clear hx2 t4 k4 Z4 Z04 u0 u1 u2 NW1 NW2 hsz q0 q1' q2' p0 p1 p2 a0 a1 a2 b0 b1 b2 q1 q2 q3 HRR1 hnum
      go_wp2_with fail
      generalize (w4.alloc (.cells #[.int .i64 k2, .int .i64 i2, .string s2, .slice ya l2.length yc] 50)).alloc (.cells #[.int .i64 k1, .int .i64 i1, .string s1, .slice xa l1.length xc] 50) = w5 at *
      refine HKM.out.mono ?_
      rintro e w6 ⟨⟨x', he, _, hnew⟩, hb6⟩
      obtain ⟨rk, ri, rs, rl⟩ := r
      have hnew' := hnew
      obtain ⟨za, zc, hze, _⟩ := hnew.2.2.2
      subst hze
      change e = .returned (.agg #[.int .i64 rk, .int .i64 ri, .string rs, .slice za rl.length zc]) at he
      subst he
      have E6 := (hb6.block w.heap.size (by rw [HSZ.out]; omega)).trans Z5.out
      obtain ⟨⟨y0, y1, y2, y3⟩, f0, f1, f2, f3⟩ := look4 E6
      have HE := Lib.hid (put4 E6 (.int .i64 rk) (.int .i64 ri) (.string rs) (.slice za rl.length zc))
      have HT6 := Lib.hid ((put4_other (W := w6) (.int .i64 rk) (.int .i64 ri) (.string rs) (.slice za rl.length zc) (show tb ≠ w.heap.size by omega)).trans ((hb6.block tb (by rw [HSZ.out]; omega)).trans T5.out))
      have HK6 := Lib.hid (kpf_put4 (K5.out.trans (KpF.of_below hb6)) (Nat.le_refl _) (.int .i64 rk) (.int .i64 ri) (.string rs) (.slice za rl.length zc))
      have HN6 : Hid (NewV ((((w6.setCell ⟨w.heap.size, 0, none⟩ (.int .i64 rk)).setCell ⟨w.heap.size, 1, none⟩ (.int .i64 ri)).setCell ⟨w.heap.size, 2, none⟩ (.string rs)).setCell ⟨w.heap.size, 3, none⟩ (.slice za rl.length zc)) w.heap.size (.mk rk ri rs rl) (.slice za rl.length zc)) := Lib.hid (hnew'.move (by rw [HSZ.out]; omega) fun b o v hb hv => (World.cell?_of_block (w := w6) (a := ⟨b, o, none⟩) (put4_other _ _ _ _ (show b ≠ w.heap.size by rw [HSZ.out] at hb; omega))).trans hv)
      clear hb6 E6 hnew hnew'
      go_wp2
      have hE := HE.out
      have hT := HT6.out
      have hK := HK6.out
      have hN := HN6.out
      clear HE HT6 HK6 HN6
      generalize (((w6.setCell ⟨w.heap.size, 0, none⟩ (.int .i64 rk)).setCell ⟨w.heap.size, 1, none⟩ (.int .i64 ri)).setCell ⟨w.heap.size, 2, none⟩ (.string rs)).setCell ⟨w.heap.size, 3, none⟩ (.slice za rl.length zc) = W at hE hT hK hN ⊢
      exact bodyPost_ret (res_db (t := 7) (p := 6) rfl _ _ w.heap.size _ _ _ _ rfl hE) rfl ⟨rk, ri, rs, za, rl.length, zc, true, rfl, by rw [HR9.out]; exact ⟨rfl, ⟨rl, rfl, hN⟩, hT⟩, hK⟩
end Go.Proofs.YtpejhilfopjckaaDoor.Hp

/-
Package heap's teller: a value that tells of a thing, of each kind; any value, as the function tellF says. No condition but that the heap and the teller lie in memory and the heap's things are such as calls make.
-/
namespace Go.Proofs.YtpejhilfopjckaaDoor.Hp
open Go.ChangeShapes Go.WideShapes Go.ChangeAt Go.RowKit Go.Deep
open Dat (PT ok64 RepV RepS RowX infoDatum NewV NewS makeT make_any MakeOk numT numsT)
set_option maxRecDepth 100000

set_option maxHeartbeats 1000000 in
/-- Too many, or too deep. -/
theorem value_fail (k i : Int) (s : ByteArray) (m n : Nat) (h : n = 200 ∨ 32 < m) (hn : n ≤ 200) (tb : Nat) (sv : Value) (w : World) (ht : TelM w tb sv n) :
    Calls Tryd.prog 41 #[.pointer (some ⟨tb, 0, none⟩), .agg #[.int .i64 k, .int .i64 i, .string s], .int .i64 (m : Int)] w fun e w' => TelOk w tb sv none e w' := by
  have hlt := lt_of_block ht
  obtain ⟨z0, z1, b0⟩ := two_new w (.cells #[.int .i64 k, .int .i64 i, .string s] 36) (.cells #[.int .i64 0, .int .i64 0, .string ⟨#[]⟩, .slice none 0 0] 50)
  obtain ⟨⟨a0, a1⟩, -⟩ := look2 ((b0.block tb hlt).trans ht)
  obtain ⟨⟨y0, y1, y2, y3⟩, f0, f1, f2, f3⟩ := look4 z1
  have HE := Lib.hid z1
  have HK := Lib.hid (KpF.of_below (F := TS tb) b0)
  clear ht z0 z1 b0
  by_cases h200 : n = 200
  · have n1 : ((n : Int) == 200) = true := by simp; omega
    go_enter Tryd.func41, Tryd.ntmps41
    go_wp2
    have hE := HE.out
    have hK := HK.out
    clear HE HK
    exact bodyPost_ret (res_db (t := 7) (p := 6) rfl _ _ (w.heap.size + 1) _ _ _ _ rfl hE) rfl ⟨0, 0, ⟨#[]⟩, none, 0, 0, false, rfl, TelRes.zero, hK⟩
  · have n1 : ((n : Int) == 200) = false := by simp; omega
    have n2 : (32 : Int) < (m : Int) := by omega
    go_enter Tryd.func41, Tryd.ntmps41
    go_wp2
    have hE := HE.out
    have hK := HK.out
    clear HE HK
    exact bodyPost_ret (res_db (t := 7) (p := 6) rfl _ _ (w.heap.size + 1) _ _ _ _ rfl hE) rfl ⟨0, 0, ⟨#[]⟩, none, 0, 0, false, rfl, TelRes.zero, hK⟩
theorem tellF_thing {T : List (Int × List PV)} {f : Nat} {i : Int} {s : ByteArray} {m n : Nat} {t : Int × List PV} (hn : n < 200) (hm : m ≤ 32) (hT : T[i.toNat]? = some t) : tellF T (f + 1) ⟨8, i, s⟩ m n =
    if t.1 = 3 then some (boxT, n + 1) else if t.1 = 4 then some (procT, n + 1) else if t.1 = 2 then some (.mk 3 0 (textB t.2) [], n + 1)
    else match tellI (fun i u k => tellF T f u (downN t.1 m i) k) t.2 0 (n + 1) with | none => none | some (l, n2) => some (joinT t.1 l, n2) := by
  rw [tellF, if_neg (by omega), if_neg (by simp)]
  dsimp only
  rw [hT]
  rfl
set_option maxHeartbeats 2000000 in
theorem value_box (i : Int) (s : ByteArray) (m : Nat) (hm : m ≤ 32) (hb tb : Nat) (sv : Value) (T : List (Int × List PV)) (F : Nat → Prop) (hF : ¬ F tb) (hhb : F hb) (hW : WfT T) (f n : Nat) (hn : n < 200) (_ : 200 ≤ n + 1 + f)
    (hi : 0 ≤ i) (l : List PV) (hT : T[i.toNat]? = some (3, l)) (HV : ValF hb tb sv T F f) (w : World) (hFb : ∀ b, F b → b < w.heap.size) (ht : TelM w tb sv n) (hH : HeapM w hb T F) (hc : w.cell? ⟨hb, 0, none⟩ = some sv)
    (R : Option (PT × Nat)) (hR : R = some (boxT, n + 1)) :
    Calls Tryd.prog 41 #[.pointer (some ⟨tb, 0, none⟩), .agg #[.int .i64 8, .int .i64 i, .string s], .int .i64 (m : Int)] w fun e w' => TelOk w tb sv R e w' := by
  obtain ⟨t1, z0, z1, kp, hs1⟩ := tel_start ht (.cells #[.int .i64 8, .int .i64 i, .string s] 36) (.cells #[.int .i64 0, .int .i64 0, .string ⟨#[]⟩, .slice none 0 0] 50) ((n : Int) + 1) (by omega)
  have hlt := lt_of_block ht
  obtain ⟨⟨a0, a1⟩, b0, b1⟩ := look2 (((two_new w (.cells #[.int .i64 8, .int .i64 i, .string s] 36) (.cells #[.int .i64 0, .int .i64 0, .string ⟨#[]⟩, .slice none 0 0] 50)).2.2.block tb hlt).trans ht)
  have hj : i.toNat < T.length := (List.getElem?_eq_some_iff.1 hT).1
  have hTj : T[i.toNat] = (3, l) := (List.getElem?_eq_some_iff.1 hT).2
  have hH1 := hH.kept kp hF
  obtain ⟨tk, cap, sa, sn, sc, mo, x0, x1, x2, x3, x4, x5, x6, x7, hpc, hok⟩ := hH1.piece i.toNat hj
  rw [hTj] at x3 x4 x7 hpc hok
  have HPC := Lib.hid hpc
  have hhb' : hb ≠ tb := fun e => hF (e ▸ hhb)
  have hc1 := (World.cell?_of_block (w := w) (a := ⟨hb, 0, none⟩) (kp.2 hb hH.lt (show hb ≠ tb from hhb'))).trans hc
  have hsv : sv = .slice (some ⟨tk, 0, none⟩) T.length cap := Option.some.inj (hc1.symm.trans x0)
  subst hsv
  have hL : i < (T.length : Int) := by omega
  have T1 := Lib.hid t1
  have Z1 := Lib.hid z1
  have KP := Lib.hid kp
  have HS1 := Lib.hid hs1
  have HH1 := Lib.hid hH1
  have HC1 := Lib.hid hc1
  have HF := Lib.hid hF
  have HHB := Lib.hid hhb
  have HVV := Lib.hid HV
  have HRR := Lib.hid hR
  have HFB := Lib.hid hFb
  have HTJ := Lib.hid hTj
  have HWF := Lib.hid hW
  have hjj : i.toNat < T.length := hj
  obtain ⟨⟨w0, w1, w2⟩, -⟩ := look3 z0
  obtain ⟨⟨tt0, tt1⟩, -⟩ := look2 t1
  have n1 : ((n : Int) == 200) = false := by simp; omega
  have n2 : ¬ (32 : Int) < (m : Int) := by omega
  unfold maxLen at x2
  clear ht t1 z0 z1 kp hs1 hH hc hH1 hc1 hF hhb HV hT hTj hhb' hR hFb hW x0 x4 x5 x6 x7 hpc hok
  go_enter Tryd.func41, Tryd.ntmps41
  go_wp2_with fail
  generalize ((w.setCell ⟨tb, 1, none⟩ (.int .i64 ((n : Int) + 1))).alloc (.cells #[.int .i64 8, .int .i64 i, .string s] 36)).alloc (.cells #[.int .i64 0, .int .i64 0, .string ⟨#[]⟩, .slice none 0 0] 50) = W1 at *
  have l1 : w.heap.size + 1 < W1.heap.size := by rw [HS1.out]; omega
  have l2 : tk < W1.heap.size := World.block_lt_of_cell? _ _ x3
  have l3 : tb < W1.heap.size := by rw [HS1.out]; omega
  have l4 : w.heap.size < W1.heap.size := by omega
  go_region
  have B2 := (Below.refl W1.heap.size W1).drew
  have hs2 : W1.drew.heap.size = W1.heap.size := rfl
  have HB2 := Lib.hid B2
  have HS2 := Lib.hid hs2
  have Z2 := Lib.hid ((B2.block (w.heap.size + 1) l1).trans Z1.out)
  have T2 := Lib.hid ((B2.block tb l3).trans T1.out)
  replace x3 := cell_below HB2.out x3
  clear B2 hs2
  generalize W1.drew = W2 at *
  have KS := Lib.hid (symbol_any ⟨#[98, 111, 120]⟩ W2)
  go_wp2_with fail
  refine KS.out.mono ?_
  rintro e w3 ⟨rfl, hb3⟩
  have k3 : KpF (TS tb) W2 w3 := KpF.of_below hb3
  have E6 := (hb3.block (w.heap.size + 1) (by rw [HS2.out]; omega)).trans Z2.out
  obtain ⟨⟨y0, y1, y2, y3⟩, f0, f1, f2, f3⟩ := look4 E6
  have HE := Lib.hid (put4 E6 (.int .i64 4) (.int .i64 0) (.string ⟨#[98, 111, 120]⟩) (.slice none 0 0))
  have HT6 := Lib.hid ((put4_other (W := w3) (.int .i64 4) (.int .i64 0) (.string ⟨#[98, 111, 120]⟩) (.slice none 0 0) (show tb ≠ w.heap.size + 1 by omega)).trans ((hb3.block tb (by rw [HS2.out]; omega)).trans T2.out))
  have HK6 := Lib.hid (kpf_put4 ((KP.out.trans (KpF.of_below HB2.out)).trans k3) (Nat.le_succ _) (.int .i64 4) (.int .i64 0) (.string ⟨#[98, 111, 120]⟩) (.slice none 0 0))
  clear E6 hb3 k3
  go_wp2
  have hE := HE.out
  have hT := HT6.out
  have hK := HK6.out
  have hR := HRR.out
  subst hR
  clear HE HT6 HK6 HRR
  generalize (((w3.setCell ⟨w.heap.size + 1, 0, none⟩ (.int .i64 4)).setCell ⟨w.heap.size + 1, 1, none⟩ (.int .i64 0)).setCell ⟨w.heap.size + 1, 2, none⟩ (.string ⟨#[98, 111, 120]⟩)).setCell ⟨w.heap.size + 1, 3, none⟩ (.slice none 0 0) = W at hE hT hK ⊢
  exact bodyPost_ret (res_db (t := 7) (p := 6) rfl _ _ (w.heap.size + 1) _ _ _ _ rfl hE) rfl ⟨4, 0, ⟨#[98, 111, 120]⟩, none, 0, 0, true, rfl, ⟨rfl, ⟨[], rfl, ⟨by decide, by decide⟩, ⟨by decide, by decide⟩, by decide, new_none _ _⟩, hT⟩, hK⟩
set_option maxHeartbeats 2000000 in
theorem value_proc (i : Int) (s : ByteArray) (m : Nat) (hm : m ≤ 32) (hb tb : Nat) (sv : Value) (T : List (Int × List PV)) (F : Nat → Prop) (hF : ¬ F tb) (hhb : F hb) (hW : WfT T) (f n : Nat) (hn : n < 200) (_ : 200 ≤ n + 1 + f)
    (hi : 0 ≤ i) (l : List PV) (hT : T[i.toNat]? = some (4, l)) (HV : ValF hb tb sv T F f) (w : World) (hFb : ∀ b, F b → b < w.heap.size) (ht : TelM w tb sv n) (hH : HeapM w hb T F) (hc : w.cell? ⟨hb, 0, none⟩ = some sv)
    (R : Option (PT × Nat)) (hR : R = some (procT, n + 1)) :
    Calls Tryd.prog 41 #[.pointer (some ⟨tb, 0, none⟩), .agg #[.int .i64 8, .int .i64 i, .string s], .int .i64 (m : Int)] w fun e w' => TelOk w tb sv R e w' := by
  obtain ⟨t1, z0, z1, kp, hs1⟩ := tel_start ht (.cells #[.int .i64 8, .int .i64 i, .string s] 36) (.cells #[.int .i64 0, .int .i64 0, .string ⟨#[]⟩, .slice none 0 0] 50) ((n : Int) + 1) (by omega)
  have hlt := lt_of_block ht
  obtain ⟨⟨a0, a1⟩, b0, b1⟩ := look2 (((two_new w (.cells #[.int .i64 8, .int .i64 i, .string s] 36) (.cells #[.int .i64 0, .int .i64 0, .string ⟨#[]⟩, .slice none 0 0] 50)).2.2.block tb hlt).trans ht)
  have hj : i.toNat < T.length := (List.getElem?_eq_some_iff.1 hT).1
  have hTj : T[i.toNat] = (4, l) := (List.getElem?_eq_some_iff.1 hT).2
  have hH1 := hH.kept kp hF
  obtain ⟨tk, cap, sa, sn, sc, mo, x0, x1, x2, x3, x4, x5, x6, x7, hpc, hok⟩ := hH1.piece i.toNat hj
  rw [hTj] at x3 x4 x7 hpc hok
  have HPC := Lib.hid hpc
  have hhb' : hb ≠ tb := fun e => hF (e ▸ hhb)
  have hc1 := (World.cell?_of_block (w := w) (a := ⟨hb, 0, none⟩) (kp.2 hb hH.lt (show hb ≠ tb from hhb'))).trans hc
  have hsv : sv = .slice (some ⟨tk, 0, none⟩) T.length cap := Option.some.inj (hc1.symm.trans x0)
  subst hsv
  have hL : i < (T.length : Int) := by omega
  have T1 := Lib.hid t1
  have Z1 := Lib.hid z1
  have KP := Lib.hid kp
  have HS1 := Lib.hid hs1
  have HH1 := Lib.hid hH1
  have HC1 := Lib.hid hc1
  have HF := Lib.hid hF
  have HHB := Lib.hid hhb
  have HVV := Lib.hid HV
  have HRR := Lib.hid hR
  have HFB := Lib.hid hFb
  have HTJ := Lib.hid hTj
  have HWF := Lib.hid hW
  have hjj : i.toNat < T.length := hj
  obtain ⟨⟨w0, w1, w2⟩, -⟩ := look3 z0
  obtain ⟨⟨tt0, tt1⟩, -⟩ := look2 t1
  have n1 : ((n : Int) == 200) = false := by simp; omega
  have n2 : ¬ (32 : Int) < (m : Int) := by omega
  unfold maxLen at x2
  clear ht t1 z0 z1 kp hs1 hH hc hH1 hc1 hF hhb HV hT hTj hhb' hR hFb hW x0 x4 x5 x6 x7 hpc hok
  go_enter Tryd.func41, Tryd.ntmps41
  go_wp2_with fail
  generalize ((w.setCell ⟨tb, 1, none⟩ (.int .i64 ((n : Int) + 1))).alloc (.cells #[.int .i64 8, .int .i64 i, .string s] 36)).alloc (.cells #[.int .i64 0, .int .i64 0, .string ⟨#[]⟩, .slice none 0 0] 50) = W1 at *
  have l1 : w.heap.size + 1 < W1.heap.size := by rw [HS1.out]; omega
  have l2 : tk < W1.heap.size := World.block_lt_of_cell? _ _ x3
  have l3 : tb < W1.heap.size := by rw [HS1.out]; omega
  have l4 : w.heap.size < W1.heap.size := by omega
  go_region
  have B2 := (Below.refl W1.heap.size W1).drew
  have hs2 : W1.drew.heap.size = W1.heap.size := rfl
  have HB2 := Lib.hid B2
  have HS2 := Lib.hid hs2
  have Z2 := Lib.hid ((B2.block (w.heap.size + 1) l1).trans Z1.out)
  have T2 := Lib.hid ((B2.block tb l3).trans T1.out)
  replace x3 := cell_below HB2.out x3
  clear B2 hs2
  generalize W1.drew = W2 at *
  have KS := Lib.hid (symbol_any ⟨#[112, 114, 111, 99, 101, 100, 117, 114, 101]⟩ W2)
  go_wp2_with fail
  refine KS.out.mono ?_
  rintro e w3 ⟨rfl, hb3⟩
  have k3 : KpF (TS tb) W2 w3 := KpF.of_below hb3
  have E6 := (hb3.block (w.heap.size + 1) (by rw [HS2.out]; omega)).trans Z2.out
  obtain ⟨⟨y0, y1, y2, y3⟩, f0, f1, f2, f3⟩ := look4 E6
  have HE := Lib.hid (put4 E6 (.int .i64 4) (.int .i64 0) (.string ⟨#[112, 114, 111, 99, 101, 100, 117, 114, 101]⟩) (.slice none 0 0))
  have HT6 := Lib.hid ((put4_other (W := w3) (.int .i64 4) (.int .i64 0) (.string ⟨#[112, 114, 111, 99, 101, 100, 117, 114, 101]⟩) (.slice none 0 0) (show tb ≠ w.heap.size + 1 by omega)).trans ((hb3.block tb (by rw [HS2.out]; omega)).trans T2.out))
  have HK6 := Lib.hid (kpf_put4 ((KP.out.trans (KpF.of_below HB2.out)).trans k3) (Nat.le_succ _) (.int .i64 4) (.int .i64 0) (.string ⟨#[112, 114, 111, 99, 101, 100, 117, 114, 101]⟩) (.slice none 0 0))
  clear E6 hb3 k3
  go_wp2
  have hE := HE.out
  have hT := HT6.out
  have hK := HK6.out
  have hR := HRR.out
  subst hR
  clear HE HT6 HK6 HRR
  generalize (((w3.setCell ⟨w.heap.size + 1, 0, none⟩ (.int .i64 4)).setCell ⟨w.heap.size + 1, 1, none⟩ (.int .i64 0)).setCell ⟨w.heap.size + 1, 2, none⟩ (.string ⟨#[112, 114, 111, 99, 101, 100, 117, 114, 101]⟩)).setCell ⟨w.heap.size + 1, 3, none⟩ (.slice none 0 0) = W at hE hT hK ⊢
  exact bodyPost_ret (res_db (t := 7) (p := 6) rfl _ _ (w.heap.size + 1) _ _ _ _ rfl hE) rfl ⟨4, 0, ⟨#[112, 114, 111, 99, 101, 100, 117, 114, 101]⟩, none, 0, 0, true, rfl, ⟨rfl, ⟨[], rfl, ⟨by decide, by decide⟩, ⟨by decide, by decide⟩, by decide, new_none _ _⟩, hT⟩, hK⟩
set_option maxHeartbeats 2000000 in
theorem value_str (i : Int) (s : ByteArray) (m : Nat) (hm : m ≤ 32) (hb tb : Nat) (sv : Value) (T : List (Int × List PV)) (F : Nat → Prop) (hF : ¬ F tb) (hhb : F hb) (hW : WfT T) (f n : Nat) (hn : n < 200) (_ : 200 ≤ n + 1 + f)
    (hi : 0 ≤ i) (l : List PV) (hT : T[i.toNat]? = some (2, l)) (HV : ValF hb tb sv T F f) (w : World) (hFb : ∀ b, F b → b < w.heap.size) (ht : TelM w tb sv n) (hH : HeapM w hb T F) (hc : w.cell? ⟨hb, 0, none⟩ = some sv)
    (R : Option (PT × Nat)) (hR : R = some (.mk 3 0 (textB l) [], n + 1)) :
    Calls Tryd.prog 41 #[.pointer (some ⟨tb, 0, none⟩), .agg #[.int .i64 8, .int .i64 i, .string s], .int .i64 (m : Int)] w fun e w' => TelOk w tb sv R e w' := by
  obtain ⟨t1, z0, z1, kp, hs1⟩ := tel_start ht (.cells #[.int .i64 8, .int .i64 i, .string s] 36) (.cells #[.int .i64 0, .int .i64 0, .string ⟨#[]⟩, .slice none 0 0] 50) ((n : Int) + 1) (by omega)
  have hlt := lt_of_block ht
  obtain ⟨⟨a0, a1⟩, b0, b1⟩ := look2 (((two_new w (.cells #[.int .i64 8, .int .i64 i, .string s] 36) (.cells #[.int .i64 0, .int .i64 0, .string ⟨#[]⟩, .slice none 0 0] 50)).2.2.block tb hlt).trans ht)
  have hj : i.toNat < T.length := (List.getElem?_eq_some_iff.1 hT).1
  have hTj : T[i.toNat] = (2, l) := (List.getElem?_eq_some_iff.1 hT).2
  have hH1 := hH.kept kp hF
  obtain ⟨tk, cap, sa, sn, sc, mo, x0, x1, x2, x3, x4, x5, x6, x7, hpc, hok⟩ := hH1.piece i.toNat hj
  rw [hTj] at x3 x4 x7 hpc hok
  have HPC := Lib.hid hpc
  have hhb' : hb ≠ tb := fun e => hF (e ▸ hhb)
  have hc1 := (World.cell?_of_block (w := w) (a := ⟨hb, 0, none⟩) (kp.2 hb hH.lt (show hb ≠ tb from hhb'))).trans hc
  have hsv : sv = .slice (some ⟨tk, 0, none⟩) T.length cap := Option.some.inj (hc1.symm.trans x0)
  have hl9 : l.length ≤ 1000 := by have := (hW _ (List.mem_of_getElem? hT)).2.2.2.1; exact this
  subst hsv
  have hL : i < (T.length : Int) := by omega
  have T1 := Lib.hid t1
  have Z1 := Lib.hid z1
  have KP := Lib.hid kp
  have HS1 := Lib.hid hs1
  have HH1 := Lib.hid hH1
  have HC1 := Lib.hid hc1
  have HF := Lib.hid hF
  have HHB := Lib.hid hhb
  have HVV := Lib.hid HV
  have HRR := Lib.hid hR
  have HFB := Lib.hid hFb
  have HTJ := Lib.hid hTj
  have HWF := Lib.hid hW
  have hjj : i.toNat < T.length := hj
  obtain ⟨⟨w0, w1, w2⟩, -⟩ := look3 z0
  obtain ⟨⟨tt0, tt1⟩, -⟩ := look2 t1
  have n1 : ((n : Int) == 200) = false := by simp; omega
  have n2 : ¬ (32 : Int) < (m : Int) := by omega
  unfold maxLen at x2
  clear ht t1 z0 z1 kp hs1 hH hc hH1 hc1 hF hhb HV hT hTj hhb' hR hFb hW x0 x4 x5 x6 x7 hpc hok
  go_enter Tryd.func41, Tryd.ntmps41
  go_wp2_with fail
  generalize ((w.setCell ⟨tb, 1, none⟩ (.int .i64 ((n : Int) + 1))).alloc (.cells #[.int .i64 8, .int .i64 i, .string s] 36)).alloc (.cells #[.int .i64 0, .int .i64 0, .string ⟨#[]⟩, .slice none 0 0] 50) = W1 at *
  have l1 : w.heap.size + 1 < W1.heap.size := by rw [HS1.out]; omega
  have l2 : tk < W1.heap.size := World.block_lt_of_cell? _ _ x3
  have l3 : tb < W1.heap.size := by rw [HS1.out]; omega
  have l4 : w.heap.size < W1.heap.size := by omega
  go_region
  have B2 := (Below.refl W1.heap.size W1).drew
  have hs2 : W1.drew.heap.size = W1.heap.size := rfl
  have HB2 := Lib.hid B2
  have HS2 := Lib.hid hs2
  have Z2 := Lib.hid ((B2.block (w.heap.size + 1) l1).trans Z1.out)
  have T2 := Lib.hid ((B2.block tb l3).trans T1.out)
  replace x3 := cell_below HB2.out x3
  clear B2 hs2
  generalize W1.drew = W2 at *
  have KP1 := Lib.hid (parts_any (some ⟨tk, i.toNat * 4, none⟩) W2)
  have HB3 := Lib.hid ((Below.refl W2.heap.size W2).alloc (Nat.le_refl _) (.cells #[.pointer (some ⟨tk, i.toNat * 4, none⟩)] 101))
  have KT := Lib.hid (textOf_any W2.heap.size tk (i.toNat * 4) l (by omega) (W2.alloc (.cells #[.pointer (some ⟨tk, i.toNat * 4, none⟩)] 101)) (by rw [Lib.cell_of_heap (heap_alloc_new W2 _)]; rfl) ((HPC.out.below HB2.out).below HB3.out))
  have hsz3 : (W2.alloc (.cells #[.pointer (some ⟨tk, i.toNat * 4, none⟩)] 101)).heap.size = W2.heap.size + 1 := size_new _ _
  have HSZ3 := Lib.hid hsz3
  clear hsz3
  go_wp2_with fail
  refine KP1.out.mono ?_
  rintro e w2 ⟨rfl, rfl⟩
  generalize W2.alloc (.cells #[.pointer (some ⟨tk, i.toNat * 4, none⟩)] 101) = W3 at *
  go_wp2_with fail
  refine KT.out.mono ?_
  rintro e w3 ⟨rfl, hb3⟩
  have E6 := (hb3.block (w.heap.size + 1) (by rw [HSZ3.out, HS2.out]; omega)).trans ((HB3.out.block _ (by rw [HS2.out]; omega)).trans Z2.out)
  obtain ⟨⟨y0, y1, y2, y3⟩, f0, f1, f2, f3⟩ := look4 E6
  have htx : (textB l).size ≤ maxLen := by rw [textB_size]; unfold maxLen; omega
  generalize textB l = tx at *
  have HE := Lib.hid (put4 E6 (.int .i64 3) (.int .i64 0) (.string tx) (.slice none 0 0))
  have HT6 := Lib.hid ((put4_other (W := w3) (.int .i64 3) (.int .i64 0) (.string tx) (.slice none 0 0) (show tb ≠ w.heap.size + 1 by omega)).trans ((hb3.block tb (by rw [HSZ3.out, HS2.out]; omega)).trans ((HB3.out.block tb (by rw [HS2.out]; omega)).trans T2.out)))
  have HK6 := Lib.hid (kpf_put4 (((KP.out.trans (KpF.of_below HB2.out)).trans (KpF.of_below HB3.out)).trans (KpF.of_below hb3)) (Nat.le_succ _) (.int .i64 3) (.int .i64 0) (.string tx) (.slice none 0 0))
  have HTX := Lib.hid htx
  clear E6 hb3 htx
  go_wp2
  have hE := HE.out
  have hT := HT6.out
  have hK := HK6.out
  clear HE HT6 HK6
  generalize (((w3.setCell ⟨w.heap.size + 1, 0, none⟩ (.int .i64 3)).setCell ⟨w.heap.size + 1, 1, none⟩ (.int .i64 0)).setCell ⟨w.heap.size + 1, 2, none⟩ (.string tx)).setCell ⟨w.heap.size + 1, 3, none⟩ (.slice none 0 0) = W at hE hT hK ⊢
  exact bodyPost_ret (res_db (t := 7) (p := 6) rfl _ _ (w.heap.size + 1) _ _ _ _ rfl hE) rfl ⟨3, 0, tx, none, 0, 0, true, rfl, by rw [HRR.out]; exact ⟨rfl, ⟨[], rfl, ⟨by decide, by decide⟩, ⟨by decide, by decide⟩, HTX.out, new_none _ _⟩, hT⟩, hK⟩
set_option maxHeartbeats 2000000 in
theorem value_vec (i : Int) (s : ByteArray) (m : Nat) (hm : m ≤ 32) (hb tb : Nat) (sv : Value) (T : List (Int × List PV)) (F : Nat → Prop) (hF : ¬ F tb) (hhb : F hb) (hW : WfT T) (f n : Nat) (hn : n < 200) (hf : 200 ≤ n + 1 + f)
    (hi : 0 ≤ i) (l : List PV) (hT : T[i.toNat]? = some (1, l)) (HV : ValF hb tb sv T F f) (w : World) (hFb : ∀ b, F b → b < w.heap.size) (ht : TelM w tb sv n) (hH : HeapM w hb T F) (hc : w.cell? ⟨hb, 0, none⟩ = some sv)
    (R : Option (PT × Nat)) (hR : R = match tellI (fun _ u k => tellF T f u (m + 1) k) l 0 (n + 1) with | none => none | some (l, n2) => some (.mk 7 0 ⟨#[]⟩ l, n2)) :
    Calls Tryd.prog 41 #[.pointer (some ⟨tb, 0, none⟩), .agg #[.int .i64 8, .int .i64 i, .string s], .int .i64 (m : Int)] w fun e w' => TelOk w tb sv R e w' := by
  obtain ⟨t1, z0, z1, kp, hs1⟩ := tel_start ht (.cells #[.int .i64 8, .int .i64 i, .string s] 36) (.cells #[.int .i64 0, .int .i64 0, .string ⟨#[]⟩, .slice none 0 0] 50) ((n : Int) + 1) (by omega)
  have hlt := lt_of_block ht
  obtain ⟨⟨a0, a1⟩, b0, b1⟩ := look2 (((two_new w (.cells #[.int .i64 8, .int .i64 i, .string s] 36) (.cells #[.int .i64 0, .int .i64 0, .string ⟨#[]⟩, .slice none 0 0] 50)).2.2.block tb hlt).trans ht)
  have hj : i.toNat < T.length := (List.getElem?_eq_some_iff.1 hT).1
  have hTj : T[i.toNat] = (1, l) := (List.getElem?_eq_some_iff.1 hT).2
  have hH1 := hH.kept kp hF
  obtain ⟨tk, cap, sa, sn, sc, mo, x0, x1, x2, x3, x4, x5, x6, x7, hpc, hok⟩ := hH1.piece i.toNat hj
  rw [hTj] at x3 x4 x7 hpc hok
  have HPC := Lib.hid hpc
  have hhb' : hb ≠ tb := fun e => hF (e ▸ hhb)
  have hc1 := (World.cell?_of_block (w := w) (a := ⟨hb, 0, none⟩) (kp.2 hb hH.lt (show hb ≠ tb from hhb'))).trans hc
  have hsv : sv = .slice (some ⟨tk, 0, none⟩) T.length cap := Option.some.inj (hc1.symm.trans x0)
  subst hsv
  have hL : i < (T.length : Int) := by omega
  have T1 := Lib.hid t1
  have Z1 := Lib.hid z1
  have KP := Lib.hid kp
  have HS1 := Lib.hid hs1
  have HH1 := Lib.hid hH1
  have HC1 := Lib.hid hc1
  have HF := Lib.hid hF
  have HHB := Lib.hid hhb
  have HVV := Lib.hid HV
  have HRR := Lib.hid hR
  have HFB := Lib.hid hFb
  have HTJ := Lib.hid hTj
  have HWF := Lib.hid hW
  have hjj : i.toNat < T.length := hj
  obtain ⟨⟨w0, w1, w2⟩, -⟩ := look3 z0
  obtain ⟨⟨tt0, tt1⟩, -⟩ := look2 t1
  have n1 : ((n : Int) == 200) = false := by simp; omega
  have n2 : ¬ (32 : Int) < (m : Int) := by omega
  unfold maxLen at x2
  clear ht t1 z0 z1 kp hs1 hH hc hH1 hc1 hF hhb HV hT hTj hhb' hR hFb hW x0 x4 x5 x6 x7 hpc hok
  go_enter Tryd.func41, Tryd.ntmps41
  go_wp2_with fail
  generalize ((w.setCell ⟨tb, 1, none⟩ (.int .i64 ((n : Int) + 1))).alloc (.cells #[.int .i64 8, .int .i64 i, .string s] 36)).alloc (.cells #[.int .i64 0, .int .i64 0, .string ⟨#[]⟩, .slice none 0 0] 50) = W1 at *
  have l1 : w.heap.size + 1 < W1.heap.size := by rw [HS1.out]; omega
  have l2 : tk < W1.heap.size := World.block_lt_of_cell? _ _ x3
  have l3 : tb < W1.heap.size := by rw [HS1.out]; omega
  have l4 : w.heap.size < W1.heap.size := by omega
  go_region
  have B2 := (Below.refl W1.heap.size W1).drew
  have hs2 : W1.drew.heap.size = W1.heap.size := rfl
  have HB2 := Lib.hid B2
  have HS2 := Lib.hid hs2
  have Z2 := Lib.hid ((B2.block (w.heap.size + 1) l1).trans Z1.out)
  have T2 := Lib.hid ((B2.block tb l3).trans T1.out)
  replace x3 := cell_below HB2.out x3
  clear B2 hs2
  generalize W1.drew = W2 at *
  have KP1 := Lib.hid (parts_any (some ⟨tk, i.toNat * 4, none⟩) W2)
  have HB3 := Lib.hid ((Below.refl W2.heap.size W2).alloc (Nat.le_refl _) (.cells #[.pointer (some ⟨tk, i.toNat * 4, none⟩)] 101))
  have hsz3 : (W2.alloc (.cells #[.pointer (some ⟨tk, i.toNat * 4, none⟩)] 101)).heap.size = W2.heap.size + 1 := size_new _ _
  have hPS : PcS hb (.slice (some ⟨tk, 0, none⟩) T.length cap) T F W2.heap.size tk i.toNat (W2.alloc (.cells #[.pointer (some ⟨tk, i.toNat * 4, none⟩)] 101)) :=
    ⟨by rw [Lib.cell_of_heap (heap_alloc_new W2 _)]; rfl, (HH1.out.below HB2.out).below HB3.out, cell_below HB3.out (cell_below HB2.out HC1.out)⟩
  have KT0 := vector_any hb tb cap tk i.toNat T F HF.out HHB.out hjj HWF.out f m (n + 1) hm (by omega) (by omega) HVV.out W2.heap.size (W2.alloc (.cells #[.pointer (some ⟨tk, i.toNat * 4, none⟩)] 101)) (fun b hb => by have := HFB.out b hb; rw [hsz3, HS2.out, HS1.out]; omega) ⟨by omega, by rw [HS2.out]; omega⟩ hPS ((HB3.out.block tb (by rw [HS2.out]; omega)).trans T2.out)
  rw [HTJ.out] at KT0
  dsimp only at KT0
  replace KT0 := KT0.mono (R' := fun e w' => TelOk (W2.alloc (.cells #[.pointer (some ⟨tk, i.toNat * 4, none⟩)] 101)) tb (.slice (some ⟨tk, 0, none⟩) T.length cap) R e w') (fun e w' h => by rw [HRR.out]; exact h)
  have KT := Lib.hid KT0
  have HSZ3 := Lib.hid hsz3
  clear hsz3 KT0 hPS
  go_wp2_with fail
  refine KP1.out.mono ?_
  rintro e w2 ⟨rfl, rfl⟩
  generalize W2.alloc (.cells #[.pointer (some ⟨tk, i.toNat * 4, none⟩)] 101) = W3 at *
  go_wp2_with fail
  refine KT.out.mono ?_
  rintro e w3 ⟨rk, ri, rs, za, zn, zc, rok, rfl, hres, k3⟩
  have E6 := (k3.2 (w.heap.size + 1) (by rw [HSZ3.out, HS2.out]; omega) (show w.heap.size + 1 ≠ tb by omega)).trans ((HB3.out.block _ (by rw [HS2.out]; omega)).trans Z2.out)
  obtain ⟨⟨y0, y1, y2, y3⟩, f0, f1, f2, f3⟩ := look4 E6
  have HE := Lib.hid (put4 E6 (.int .i64 rk) (.int .i64 ri) (.string rs) (.slice za zn zc))
  have HR6 := Lib.hid (hres.put (C' := w.heap.size) (R := w.heap.size + 1) (by rw [HSZ3.out, HS2.out]; omega) (by rw [HSZ3.out, HS2.out]; omega) (by omega) (.int .i64 rk) (.int .i64 ri) (.string rs) (.slice za zn zc))
  have HK6 := Lib.hid (kpf_put4 (((KP.out.trans (KpF.of_below HB2.out)).trans (KpF.of_below HB3.out)).trans k3) (Nat.le_succ _) (.int .i64 rk) (.int .i64 ri) (.string rs) (.slice za zn zc))
  clear E6 hres k3
  go_wp2
  have hE := HE.out
  have hR := HR6.out
  have hK := HK6.out
  clear HE HR6 HK6
  generalize (((w3.setCell ⟨w.heap.size + 1, 0, none⟩ (.int .i64 rk)).setCell ⟨w.heap.size + 1, 1, none⟩ (.int .i64 ri)).setCell ⟨w.heap.size + 1, 2, none⟩ (.string rs)).setCell ⟨w.heap.size + 1, 3, none⟩ (.slice za zn zc) = W at hE hR hK ⊢
  exact bodyPost_ret (res_db (t := 7) (p := 6) rfl _ _ (w.heap.size + 1) _ _ _ _ rfl hE) rfl ⟨rk, ri, rs, za, zn, zc, rok, rfl, hR, hK⟩
set_option maxHeartbeats 2000000 in
theorem value_pr (i : Int) (s : ByteArray) (m : Nat) (hm : m ≤ 32) (hb tb : Nat) (sv : Value) (T : List (Int × List PV)) (F : Nat → Prop) (hF : ¬ F tb) (hhb : F hb) (hW : WfT T) (f n : Nat) (hn : n < 200) (hf : 200 ≤ n + 1 + f)
    (hi : 0 ≤ i) (ak ai : Int) (as_ : ByteArray) (bk bi : Int) (bs : ByteArray) (hT : T[i.toNat]? = some (0, [⟨ak, ai, as_⟩, ⟨bk, bi, bs⟩])) (HV : ValF hb tb sv T F f) (w : World) (hFb : ∀ b, F b → b < w.heap.size) (ht : TelM w tb sv n) (hH : HeapM w hb T F) (hc : w.cell? ⟨hb, 0, none⟩ = some sv)
    (R : Option (PT × Nat)) (hR : R = match tellF T f ⟨ak, ai, as_⟩ (m + 1) (n + 1) with | none => none | some (x, n1) => match tellF T f ⟨bk, bi, bs⟩ m n1 with | none => none | some (y, n2) => some (makeT [x] y, n2)) :
    Calls Tryd.prog 41 #[.pointer (some ⟨tb, 0, none⟩), .agg #[.int .i64 8, .int .i64 i, .string s], .int .i64 (m : Int)] w fun e w' => TelOk w tb sv R e w' := by
  obtain ⟨t1, z0, z1, kp, hs1⟩ := tel_start ht (.cells #[.int .i64 8, .int .i64 i, .string s] 36) (.cells #[.int .i64 0, .int .i64 0, .string ⟨#[]⟩, .slice none 0 0] 50) ((n : Int) + 1) (by omega)
  have hlt := lt_of_block ht
  obtain ⟨⟨a0, a1⟩, b0, b1⟩ := look2 (((two_new w (.cells #[.int .i64 8, .int .i64 i, .string s] 36) (.cells #[.int .i64 0, .int .i64 0, .string ⟨#[]⟩, .slice none 0 0] 50)).2.2.block tb hlt).trans ht)
  have hj : i.toNat < T.length := (List.getElem?_eq_some_iff.1 hT).1
  have hTj : T[i.toNat] = (0, [⟨ak, ai, as_⟩, ⟨bk, bi, bs⟩]) := (List.getElem?_eq_some_iff.1 hT).2
  have hH1 := hH.kept kp hF
  obtain ⟨tk, cap, g, pv, x0, x1, x2, x3, xl, x4, xm, _, x6, x7, x8⟩ := hH1.thing0 i.toNat hj (by rw [hTj]) (by rw [hTj]; simp)
  rw [hTj] at x3 xl x6 x8
  have hhb' : hb ≠ tb := fun e => hF (e ▸ hhb)
  have hc1 := (World.cell?_of_block (w := w) (a := ⟨hb, 0, none⟩) (kp.2 hb hH.lt (show hb ≠ tb from hhb'))).trans hc
  have hsv : sv = .slice (some ⟨tk, 0, none⟩) T.length cap := Option.some.inj (hc1.symm.trans x0)
  have HPP := Lib.hid x6.inP
  have HFG := Lib.hid (x8 (by simp))
  obtain ⟨pa, pc, rfl, p1, p2⟩ := x6.slice
  have hha := hW _ (List.mem_of_getElem? hT)
  have HHA : Hid (hasB T.length ⟨ak, ai, as_⟩ = true ∧ hasB T.length ⟨bk, bi, bs⟩ = true) := Lib.hid ⟨hha.2.2.2.2 _ (by simp), hha.2.2.2.2 _ (by simp)⟩
  clear hha
  subst hsv
  have hL : i < (T.length : Int) := by omega
  have T1 := Lib.hid t1
  have Z1 := Lib.hid z1
  have KP := Lib.hid kp
  have HS1 := Lib.hid hs1
  have HH1 := Lib.hid hH1
  have HC1 := Lib.hid hc1
  have HF := Lib.hid hF
  have HHB := Lib.hid hhb
  have HVV := Lib.hid HV
  have HRR := Lib.hid hR
  have HFB := Lib.hid hFb
  have HTJ := Lib.hid hTj
  have HWF := Lib.hid hW
  have hjj : i.toNat < T.length := hj
  obtain ⟨⟨w0, w1, w2⟩, -⟩ := look3 z0
  obtain ⟨⟨tt0, tt1⟩, -⟩ := look2 t1
  have n1 : ((n : Int) == 200) = false := by simp; omega
  have n2 : ¬ (32 : Int) < (m : Int) := by omega
  unfold maxLen at x2
  clear ht t1 z0 z1 kp hs1 hH hc hH1 hc1 hF hhb HV hT hTj hhb' hR hFb hW x0 x6 x7 x8
  go_enter Tryd.func41, Tryd.ntmps41
  go_wp2_with fail
  generalize ((w.setCell ⟨tb, 1, none⟩ (.int .i64 ((n : Int) + 1))).alloc (.cells #[.int .i64 8, .int .i64 i, .string s] 36)).alloc (.cells #[.int .i64 0, .int .i64 0, .string ⟨#[]⟩, .slice none 0 0] 50) = W1 at *
  have l1 : w.heap.size + 1 < W1.heap.size := by rw [HS1.out]; omega
  have l2 : tk < W1.heap.size := World.block_lt_of_cell? _ _ x3
  have l3 : tb < W1.heap.size := by rw [HS1.out]; omega
  have l4 : w.heap.size < W1.heap.size := by omega
  go_region
  have B2 := (Below.refl W1.heap.size W1).drew
  have hs2 : W1.drew.heap.size = W1.heap.size := rfl
  have HB2 := Lib.hid B2
  have HS2 := Lib.hid hs2
  have Z2 := Lib.hid ((B2.block (w.heap.size + 1) l1).trans Z1.out)
  have T2 := Lib.hid ((B2.block tb l3).trans T1.out)
  replace x3 := cell_below HB2.out x3
  replace x4 := cell_below HB2.out x4
  clear B2 hs2
  generalize W1.drew = W2 at *
  have HKP := Lib.hid (pair_opt ak ai as_ bk bi bs m hm hb tb (.slice (some ⟨tk, 0, none⟩) T.length cap) T F HF.out HHB.out HWF.out f (n + 1) (by omega) (by omega) HVV.out HHA.out.1 HHA.out.2 W2 (fun b hb => by have := HFB.out b hb; rw [HS2.out, HS1.out]; omega) T2.out (HH1.out.below HB2.out) (cell_below HB2.out HC1.out) (· = g) (fun b e e2 => HF.out (e2 ▸ e ▸ HFG.out)) _ (HPP.out.belowP HB2.out) R HRR.out)
  go_wp2_with fail
  refine HKP.out.mono ?_
  rintro e w3 ⟨rk, ri, rs, za, zn, zc, rok, rfl, hres, k3⟩
  have E6 := (k3.2 (w.heap.size + 1) (by rw [HS2.out]; omega) (show w.heap.size + 1 ≠ tb by omega)).trans Z2.out
  obtain ⟨⟨y0, y1, y2, y3⟩, f0, f1, f2, f3⟩ := look4 E6
  have HE := Lib.hid (put4 E6 (.int .i64 rk) (.int .i64 ri) (.string rs) (.slice za zn zc))
  have HR6 := Lib.hid (hres.put (C' := w.heap.size) (R := w.heap.size + 1) (by rw [HS2.out]; omega) (by rw [HS2.out]; omega) (by omega) (.int .i64 rk) (.int .i64 ri) (.string rs) (.slice za zn zc))
  have HK6 := Lib.hid (kpf_put4 (((KP.out.trans (KpF.of_below HB2.out))).trans k3) (Nat.le_succ _) (.int .i64 rk) (.int .i64 ri) (.string rs) (.slice za zn zc))
  clear E6 hres k3
  go_wp2
  have hE := HE.out
  have hR := HR6.out
  have hK := HK6.out
  clear HE HR6 HK6
  generalize (((w3.setCell ⟨w.heap.size + 1, 0, none⟩ (.int .i64 rk)).setCell ⟨w.heap.size + 1, 1, none⟩ (.int .i64 ri)).setCell ⟨w.heap.size + 1, 2, none⟩ (.string rs)).setCell ⟨w.heap.size + 1, 3, none⟩ (.slice za zn zc) = W at hE hR hK ⊢
  exact bodyPost_ret (res_db (t := 7) (p := 6) rfl _ _ (w.heap.size + 1) _ _ _ _ rfl hE) rfl ⟨rk, ri, rs, za, zn, zc, rok, rfl, hR, hK⟩
/-- One more may be looked at. -/
theorem value_step {hb tb : Nat} {sv : Value} {T : List (Int × List PV)} {F : Nat → Prop} (hF : ¬ F tb) (hhb : F hb) (hW : WfT T) (f : Nat) (HV : ValF hb tb sv T F f) : ValF hb tb sv T F (f + 1) := by
  rintro ⟨k, i, s⟩ m n w hhas hok hm hn hf ht hH hFb hc
  dsimp only
  by_cases hfail : 200 ≤ n ∨ 32 < m
  · rw [tellF, if_pos hfail]
    exact value_fail k i s m n (by omega) hn tb sv w ht
  have hn' : n < 200 := by omega
  have hm' : m ≤ 32 := by omega
  by_cases h8 : k = 8
  · subst h8
    have hix : 0 ≤ i ∧ i < (T.length : Int) := by
      unfold hasB numB at hhas
      simp at hhas
      omega
    have hj : i.toNat < T.length := by omega
    have hT : T[i.toNat]? = some T[i.toNat] := List.getElem?_eq_getElem hj
    rw [tellF_thing hn' hm' hT]
    obtain ⟨w1, w2, w3, w4, w5⟩ := hW _ (List.getElem_mem hj)
    generalize T[i.toNat] = t at hT w1 w2 w3 w4 w5
    obtain ⟨kd, l⟩ := t
    dsimp only at w1 w2 w3 w4 w5 ⊢
    have hkd : kd = 0 ∨ kd = 1 ∨ kd = 2 ∨ kd = 3 ∨ kd = 4 := by omega
    rcases hkd with rfl | rfl | rfl | rfl | rfl
    · match l, w3 rfl, hT with
      | [⟨ak, ai, as_⟩, ⟨bk, bi, bs⟩], _, hT =>
        exact value_pr i s m hm' hb tb sv T F hF hhb hW f n hn' (by omega) hix.1 ak ai as_ bk bi bs hT HV w hFb ht hH hc _ (pair_tell _ _ _)
    · exact value_vec i s m hm' hb tb sv T F hF hhb hW f n hn' (by omega) hix.1 l hT HV w hFb ht hH hc _ rfl
    · exact value_str i s m hm' hb tb sv T F hF hhb hW f n hn' (by omega) hix.1 l hT HV w hFb ht hH hc _ rfl
    · exact value_box i s m hm' hb tb sv T F hF hhb hW f n hn' (by omega) hix.1 l hT HV w hFb ht hH hc _ rfl
    · exact value_proc i s m hm' hb tb sv T F hF hhb hW f n hn' (by omega) hix.1 l hT HV w hFb ht hH hc _ rfl
  · have hk : 0 ≤ k ∧ k ≤ 7 := by
      unfold hasB at hhas
      dsimp only at hhas
      rcases kind9 k with h | h | h | h | h | h | h | h | h | h
      all_goals first | omega | skip
      rw [if_neg (by omega), if_neg (by omega), if_neg (by omega), if_neg (by omega), if_neg (by omega), if_neg (by omega)] at hhas
      cases hhas
    rw [tellF, if_neg hfail, if_pos h8]
    exact (value_leaf k i s hk.1 hk.2 hok m n hm' hn' tb sv w ht).mono fun e w' h => TelOk.of_val h
theorem value_zero {hb tb : Nat} {sv : Value} {T : List (Int × List PV)} {F : Nat → Prop} : ValF hb tb sv T F 0 := by
  rintro ⟨k, i, s⟩ m n w hhas hok hm hn hf ht hH hFb hc
  exact value_fail k i s m n (by omega) hn tb sv w ht
/-- The telling of any value, however many may still be looked at. -/
theorem value_all {hb tb : Nat} {sv : Value} {T : List (Int × List PV)} {F : Nat → Prop} (hF : ¬ F tb) (hhb : F hb) (hW : WfT T) : ∀ f : Nat, ValF hb tb sv T F f
  | 0 => value_zero
  | f + 1 => value_step hF hhb hW f (value_all hF hhb hW f)
end Go.Proofs.YtpejhilfopjckaaDoor.Hp

/-
Package heap's Tell of any value, as the function tellT says. No condition but that the heap lies in memory and its things are such as calls make.
-/
namespace Go.Proofs.YtpejhilfopjckaaDoor.Hp
open Go.ChangeShapes Go.WideShapes Go.ChangeAt Go.RowKit Go.Deep
open Dat (PT ok64 RepV RepS RowX infoDatum NewV NewS makeT make_any MakeOk numT numsT)
set_option maxRecDepth 100000

theorem HeapM.self {w : World} {hb : Nat} {T : List (Int × List PV)} {F : Nat → Prop} (h : HeapM w hb T F) : F hb := by
  obtain ⟨_, _, _, _, _, _, h2, _⟩ := h
  exact h2
def zeroD : PT := .mk 0 0 ⟨#[]⟩ []
/-- What a value tells, and whether it does. -/
def tellT (T : List (Int × List PV)) (v : PV) : PT × Bool := if hasB T.length v = true then (match tellF T 200 v 0 0 with | none => (zeroD, false) | some (d, _) => (d, true)) else (zeroD, false)
/-- What Tell answers. -/
def TellIs (C : Nat) (r : PT × Bool) (e : Ending) (w' : World) : Prop := ∃ k i s l a n c, r.1 = .mk k i s l ∧ e = .returned (.tuple #[.agg #[.int .i64 k, .int .i64 i, .string s, .slice a n c], .bool r.2]) ∧ NewV w' C (.mk k i s l) (.slice a n c)
theorem new_zero (W : World) (C : Nat) : NewV W C (.mk 0 0 ⟨#[]⟩ []) (.slice none 0 0) := ⟨⟨by decide, by decide⟩, ⟨by decide, by decide⟩, by decide, new_none _ _⟩
theorem TelRes.is {W : World} {C tb : Nat} {sv : Value} {T : List (Int × List PV)} {v : PV} (hv : hasB T.length v = true) {k i : Int} {s : ByteArray} {x : Value} {ok : Bool} (h : TelRes W C tb sv (tellF T 200 v 0 0) k i s x ok) : ∃ l, (tellT T v).1 = .mk k i s l ∧ (tellT T v).2 = ok ∧ NewV W C (.mk k i s l) x := by
  unfold tellT
  rw [if_pos hv]
  cases hr : tellF T 200 v 0 0 with
  | none =>
    rw [hr] at h
    obtain ⟨rfl, rfl, rfl, rfl, rfl⟩ := h
    exact ⟨[], rfl, rfl, new_zero _ _⟩
  | some p =>
    obtain ⟨d, n⟩ := p
    rw [hr] at h
    obtain ⟨rfl, ⟨l, rfl, hn⟩, _⟩ := h
    exact ⟨l, rfl, rfl, hn⟩
set_option maxHeartbeats 1000000 in
theorem tellc_any (k i : Int) (s : ByteArray) (hb : Nat) (T : List (Int × List PV)) (F : Nat → Prop) (w : World) (hW : WfT T) (hH : HeapM w hb T F) (hF : ∀ b, F b → b < w.heap.size) (ho : okV ⟨k, i, s⟩) :
    Calls Tryd.prog 15 #[.pointer (some ⟨hb, 0, none⟩), .agg #[.int .i64 k, .int .i64 i, .string s]] w fun e w' => TellIs w.heap.size (tellT T ⟨k, i, s⟩) e w' ∧ Below w.heap.size w w' := by
  obtain ⟨Z0, Z1, B0⟩ := two_new w (.cells #[.int .i64 k, .int .i64 i, .string s] 36) (.cells #[.int .i64 0, .int .i64 0, .string ⟨#[]⟩, .slice none 0 0] 50)
  have KH0 := has_any k i s hb T.length _ ho.2.2 (LenM.below hH.len B0)
  have hs0 : ((w.alloc (.cells #[.int .i64 k, .int .i64 i, .string s] 36)).alloc (.cells #[.int .i64 0, .int .i64 0, .string ⟨#[]⟩, .slice none 0 0] 50)).heap.size = w.heap.size + 1 + 1 := by rw [size_new, size_new]
  have HH := Lib.hid hH
  have HF := Lib.hid hF
  have HS0 := Lib.hid hs0
  have HB0 := Lib.hid B0
  have HZ0 := Lib.hid Z0
  have HZ1 := Lib.hid Z1
  have HO := Lib.hid ho
  have HWF := Lib.hid hW
  clear hH hF hs0 Z0 Z1 B0 ho hW
  by_cases hv : hasB T.length ⟨k, i, s⟩ = true
  · have HV := Lib.hid hv
    rw [hv] at KH0
    have KH := Lib.hid KH0
    clear hv KH0
    go_enter Tryd.func15, Tryd.ntmps15
    go_wp2_with fail
    generalize (w.alloc (.cells #[.int .i64 k, .int .i64 i, .string s] 36)).alloc (.cells #[.int .i64 0, .int .i64 0, .string ⟨#[]⟩, .slice none 0 0] 50) = w0 at *
    refine KH.out.mono ?_
    rintro e w1 ⟨rfl, hb1⟩
    have B1 := HB0.out.trans (hb1.mono HB0.out.size)
    have hs1 : w.heap.size + 1 + 1 ≤ w1.heap.size := by have := hb1.size; have := HS0.out; omega
    obtain ⟨a, cp, hlc, _⟩ := HH.out.len
    have hl1 := (B1.cell (p := ⟨hb, 0, none⟩) (World.block_lt_of_cell? _ _ hlc)).trans hlc
    obtain ⟨⟨x0, x1, x2⟩, -⟩ := look3 ((hb1.block w.heap.size (by rw [HS0.out]; omega)).trans HZ0.out)
    have Y1 := Lib.hid ((hb1.block (w.heap.size + 1) (by rw [HS0.out]; omega)).trans HZ1.out)
    have HB1 := Lib.hid B1
    have HH1 := Lib.hid (HH.out.below B1)
    have HL1 := Lib.hid hl1
    clear hb1 B1 hlc
    have B2 := (Below.refl w1.heap.size w1).alloc (Nat.le_refl _) (.cells #[.slice a T.length cp, .int .i64 0] 89)
    have hnF : ¬ F w1.heap.size := fun hf => by have := HF.out _ hf; have := HB1.out.size; omega
    have hs2 : (w1.alloc (.cells #[.slice a T.length cp, .int .i64 0] 89)).heap.size = w1.heap.size + 1 := size_new _ _
    have KV := Lib.hid (value_all hnF HH.out.self HWF.out 200 ⟨k, i, s⟩ 0 0 (w1.alloc (.cells #[.slice a T.length cp, .int .i64 0] 89)) HV.out HO.out (by omega) (by omega) (by omega) (heap_alloc_new w1 _) (HH1.out.below B2) (fun b hf => by have := HF.out b hf; have := HB1.out.size; omega) ((B2.cell (p := ⟨hb, 0, none⟩) HH1.out.lt).trans HL1.out))
    have HB2 := Lib.hid B2
    have HS2 := Lib.hid hs2
    have mv2 := new_cells w1 (.cells #[.slice a T.length cp, .int .i64 0] 89) w.heap.size (by omega)
    replace x0 := (mv2 _).trans x0
    replace x1 := (mv2 _).trans x1
    replace x2 := (mv2 _).trans x2
    clear B2 hnF hs2 mv2
    go_wp2_with fail
    generalize w1.alloc (.cells #[.slice a T.length cp, .int .i64 0] 89) = w2 at *
    refine KV.out.mono ?_
    rintro e w3 ⟨rk, ri, rs, za, zn, zc, rok, rfl, hres, k3⟩
    have B3 : Below w1.heap.size w1 w3 := by
      have h0 := (HB2.out.mono (Nat.zero_le _)).trans k3.1
      exact ⟨h0.os, h0.tape, h0.output, h0.size, fun b hb => (k3.2 b (by rw [HS2.out]; omega) (show b ≠ w1.heap.size by omega)).trans (HB2.out.block b hb)⟩
    have E6 := (B3.block (w.heap.size + 1) (by omega)).trans Y1.out
    obtain ⟨⟨y0, y1, y2, y3⟩, f0, f1, f2, f3⟩ := look4 E6
    have HE := Lib.hid (put4 E6 (.int .i64 rk) (.int .i64 ri) (.string rs) (.slice za zn zc))
    have HB6 := Lib.hid (put4_below (HB1.out.trans (B3.mono HB1.out.size)) (Nat.le_succ _) (.int .i64 rk) (.int .i64 ri) (.string rs) (.slice za zn zc))
    have HR6 := Lib.hid ((hres.put (C' := w.heap.size) (R := w.heap.size + 1) (by rw [HS2.out]; omega) (by rw [HS2.out]; omega) (by omega) (.int .i64 rk) (.int .i64 ri) (.string rs) (.slice za zn zc)).is HV.out)
    clear E6 hres k3 B3
    go_wp2
    have hE := HE.out
    have hB := HB6.out
    obtain ⟨l, hr1, hr2, hN⟩ := HR6.out
    clear HE HB6 HR6
    generalize (((w3.setCell ⟨w.heap.size + 1, 0, none⟩ (.int .i64 rk)).setCell ⟨w.heap.size + 1, 1, none⟩ (.int .i64 ri)).setCell ⟨w.heap.size + 1, 2, none⟩ (.string rs)).setCell ⟨w.heap.size + 1, 3, none⟩ (.slice za zn zc) = W at hE hB hN ⊢
    exact bodyPost_ret (res_db (t := 5) (p := 4) rfl _ _ (w.heap.size + 1) _ _ _ _ rfl hE) rfl ⟨⟨rk, ri, rs, l, za, zn, zc, hr1, by rw [hr2]; rfl, hN⟩, hB⟩
  · have hv' : hasB T.length ⟨k, i, s⟩ = false := by simpa using hv
    rw [hv'] at KH0
    have KH := Lib.hid KH0
    have HT : Hid (tellT T ⟨k, i, s⟩ = (zeroD, false)) := Lib.hid (by unfold tellT; rw [hv']; rfl)
    clear hv hv' KH0
    go_enter Tryd.func15, Tryd.ntmps15
    go_wp2_with fail
    generalize (w.alloc (.cells #[.int .i64 k, .int .i64 i, .string s] 36)).alloc (.cells #[.int .i64 0, .int .i64 0, .string ⟨#[]⟩, .slice none 0 0] 50) = w0 at *
    refine KH.out.mono ?_
    rintro e w1 ⟨rfl, hb1⟩
    have B1 := HB0.out.trans (hb1.mono HB0.out.size)
    have Y1 := (hb1.block (w.heap.size + 1) (by rw [HS0.out]; omega)).trans HZ1.out
    obtain ⟨⟨y0, y1, y2, y3⟩, f0, f1, f2, f3⟩ := look4 Y1
    have HE := Lib.hid (put4 Y1 (.int .i64 0) (.int .i64 0) (.string ⟨#[]⟩) (.slice none 0 0))
    have HB6 := Lib.hid (put4_below B1 (Nat.le_succ _) (.int .i64 0) (.int .i64 0) (.string ⟨#[]⟩) (.slice none 0 0))
    clear hb1 B1 Y1
    go_wp2
    have hE := HE.out
    have hB := HB6.out
    clear HE HB6
    generalize (((w1.setCell ⟨w.heap.size + 1, 0, none⟩ (.int .i64 0)).setCell ⟨w.heap.size + 1, 1, none⟩ (.int .i64 0)).setCell ⟨w.heap.size + 1, 2, none⟩ (.string ⟨#[]⟩)).setCell ⟨w.heap.size + 1, 3, none⟩ (.slice none 0 0) = W at hE hB ⊢
    exact bodyPost_ret (res_db (t := 5) (p := 4) rfl _ _ (w.heap.size + 1) _ _ _ _ rfl hE) rfl ⟨⟨0, 0, ⟨#[]⟩, [], none, 0, 0, by rw [HT.out]; rfl, by rw [HT.out]; rfl, new_zero _ _⟩, hB⟩
end Go.Proofs.YtpejhilfopjckaaDoor.Hp
