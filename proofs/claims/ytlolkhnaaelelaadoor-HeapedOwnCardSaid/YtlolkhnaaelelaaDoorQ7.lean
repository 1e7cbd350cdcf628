/-
How one goes on from a new thing. No condition.
-/
import Derived.Test.YtlolkhnaaelelaaDoorQ6
import Derived.Test.YtlolkhnaaelelaaDoorWT
namespace Go.Proofs.YtlolkhnaaelelaaDoor.Hp
open Go.ChangeShapes Go.WideShapes Go.ChangeAt Go.RowKit Go.Deep
open Dat (PT ok64 RepV RepS RowX infoDatum)
set_option maxRecDepth 100000

def repl (n : Nat) (v : PV) : List PV := List.replicate n v
/-- How one goes on from a thing that was made in a new block. -/
theorem AddOk.doOk {w w0 w' : World} {hb : Nat} {F : Nat → Prop} {l : List PV} {g0 : Nat} {T : List (Int × List PV)} {n : Int} {e : Ending} (h : AddOk w0 hb F l g0 T n e w') (hb0 : Below w.heap.size w w0) (hg : l ≠ [] → w.heap.size ≤ g0) :
    e = .returned (.agg #[.int .i64 8, .int .i64 n, .string ⟨#[]⟩]) ∧ ∃ F', HeapM w' hb T F' ∧ Stp F w F' w' ∧ ∀ R, R < w0.heap.size → ¬ F R → (l ≠ [] → R ≠ g0) → ¬ F' R ∧ w'.heap[R]? = w0.heap[R]? := by
  obtain ⟨h1, F', h2, h3, h4⟩ := h
  refine ⟨h1, F', h2, ⟨⟨(hb0.mono (Nat.zero_le _)).trans h3.1, fun b hlt hn => ?_⟩, fun b hb => ?_⟩, fun R h5 h6 h7 => ⟨fun hR => ?_, h3.2 R h5 h6⟩⟩
  · rw [h3.2 b (Nat.lt_of_lt_of_le hlt hb0.size) hn]
    exact hb0.block b hlt
  · have := hb0.size
    rcases h4 b hb with h | ⟨h, e⟩ | h
    · exact .inl h
    · have := hg h; exact .inr (by omega)
    · exact .inr (by omega)
  · rcases h4 R hR with h | ⟨h, e⟩ | h
    · exact h6 h
    · exact h7 h e
    · omega
/-- A value put into the result's cell. -/
theorem put_res {w W : World} {R hb : Nat} {T : List (Int × List PV)} {F F' : Nat → Prop} (h : HeapM W hb T F') (hs : Stp F w F' W) (hF : ¬ F' R) (hR : w.heap.size ≤ R) (y0 y1 y2 : Value) :
    HeapM (((W.setCell ⟨R, 0, none⟩ y0).setCell ⟨R, 1, none⟩ y1).setCell ⟨R, 2, none⟩ y2) hb T F' ∧ Stp F w F' (((W.setCell ⟨R, 0, none⟩ y0).setCell ⟨R, 1, none⟩ y1).setCell ⟨R, 2, none⟩ y2) := by
  refine ⟨h.move (fun b hb _ => put3_other _ _ _ (fun e => hF (e ▸ hb))) fun _ h => h, ⟨⟨hs.1.1.trans (put3_below (Below.refl 0 W) (Nat.zero_le _) _ _ _), fun b hb hn => ?_⟩, hs.2⟩⟩
  rw [put3_other _ _ _ (by omega)]
  exact hs.1.2 b hb hn
/-- What comes of filled. -/
def fillT (T : List (Int × List PV)) (kind n : Int) (u : PV) : PV × Int × List (Int × List PV) :=
  if 0 ≤ n ∧ n ≤ 1000 then (⟨8, T.length, ⟨#[]⟩⟩, 0, T ++ [(kind, repl n.toNat u)]) else (⟨0, 0, ⟨#[]⟩⟩, 83, T)
theorem repl_length (n : Nat) (v : PV) : (repl n v).length = n := List.length_replicate
/-- What is filled with one part is a thing. -/
theorem piece_filled {W : World} {kd : Int} (hk : kd ≠ 0) {m : Nat} (hm : m ≤ 1000) {u : PV} (hu : okV u) {g : Nat} {a : Option Addr} {n c : Nat} (h : PartsM W [u] g (.slice a n c)) : Piece W (kd, repl m u) g (.slice a n c) (.map none) := by
  by_cases h1 : m = 1
  · subst h1
    exact .inl ⟨rfl, h⟩
  · by_cases h0 : m = 0
    · subst h0
      exact .inr (.inl ⟨rfl, rfl, a, n, c, rfl⟩)
    · refine .inr (.inr ⟨hk, by rw [repl_length]; omega, by rw [repl_length]; exact hm, fun v hv => ?_, u, h, .inl ⟨rfl, by rw [repl_length]; rfl⟩⟩)
      rw [List.eq_of_mem_replicate hv]
      exact hu
set_option maxHeartbeats 1000000 in
theorem filled_any (kind n : Int) (uk ui : Int) (us : ByteArray) (hu : okV ⟨uk, ui, us⟩) (hb : Nat) (T : List (Int × List PV)) (F : Nat → Prop) (w : World) (h : HeapM w hb T F) (hF : ∀ b, F b → b < w.heap.size) (hk : ok64 kind) (hk0 : kind ≠ 0) (hT : T.length ≤ 100000) :
    Calls Tryd.prog 50 #[.pointer (some ⟨hb, 0, none⟩), .int .i64 kind, .int .i64 n, .agg #[.int .i64 uk, .int .i64 ui, .string us]] w
      fun e w' => DoOk w hb F (fillT T kind n ⟨uk, ui, us⟩).1 (fillT T kind n ⟨uk, ui, us⟩).2.1 (fillT T kind n ⟨uk, ui, us⟩).2.2 e w' := by
  obtain ⟨Z0, Z1, B0⟩ := two_new w (.cells #[.int .i64 uk, .int .i64 ui, .string us] 36) (.cells #[.int .i64 0, .int .i64 0, .string ⟨#[]⟩] 36)
  by_cases hn : 0 ≤ n ∧ n ≤ 1000
  · obtain ⟨hn0, hn1⟩ := hn
    have HR : Hid (fillT T kind n ⟨uk, ui, us⟩ = (⟨8, T.length, ⟨#[]⟩⟩, 0, T ++ [(kind, repl n.toNat ⟨uk, ui, us⟩)])) := Lib.hid (if_pos ⟨hn0, hn1⟩)
    generalize fillT T kind n ⟨uk, ui, us⟩ = r at HR
    obtain ⟨m, rfl⟩ := Int.eq_ofNat_of_zero_le hn0
    rw [Int.toNat_natCast] at HR
    obtain ⟨Y0, Y1, Y2, C0⟩ := three_new w (.cells #[.int .i64 uk, .int .i64 ui, .string us] 36) (.cells #[.int .i64 0, .int .i64 0, .string ⟨#[]⟩] 36) (.cells #[.int .i64 uk, .int .i64 ui, .string us] 36)
    have hsz : (((w.alloc (.cells #[.int .i64 uk, .int .i64 ui, .string us] 36)).alloc (.cells #[.int .i64 0, .int .i64 0, .string ⟨#[]⟩] 36)).alloc (.cells #[.int .i64 uk, .int .i64 ui, .string us] 36)).heap.size = w.heap.size + 1 + 1 + 1 := by rw [size_new, size_new, size_new]
    have hP : PartsM (((w.alloc (.cells #[.int .i64 uk, .int .i64 ui, .string us] 36)).alloc (.cells #[.int .i64 0, .int .i64 0, .string ⟨#[]⟩] 36)).alloc (.cells #[.int .i64 uk, .int .i64 ui, .string us] 36)) [⟨uk, ui, us⟩] (w.heap.size + 1 + 1) (.slice (some ⟨w.heap.size + 1 + 1, 0, none⟩) 1 1) :=
      .inr ⟨by simp, fun v hv => by rw [List.mem_singleton.1 hv]; exact hu, 1, _, rfl, Nat.le_refl _, by unfold maxLen; omega, Y2, rfl, rfl⟩
    have KA := add_gen kind (repl m ⟨uk, ui, us⟩) [⟨uk, ui, us⟩] (w.heap.size + 1 + 1) _ hb T F _ (h.below C0) (fun b h => by have := hF b h; rw [hsz]; omega) hk hP (fun W q => piece_filled hk0 (by omega) hu q) (fun _ => by simp) (fun _ => ⟨fun hf => by have := hF _ hf; omega, by rw [hsz]; omega⟩) hT
    rw [repl_length] at KA
    replace KA := Lib.hid KA
    have HF := Lib.hid hF
    have HSZ := Lib.hid hsz
    have HY1 := Lib.hid Y1
    have HC0 := Lib.hid C0
    clear Y0 Y1 Y2 C0 Z0 Z1 B0 h hF hu hsz hP
    go_enter Tryd.func50, Tryd.ntmps50
    go_wp2_with fail
    refine KA.out.mono ?_
    rintro e w2 hA
    obtain ⟨rfl, F', q1, q2, q3⟩ := hA.doOk (w := w) HC0.out (fun h => by omega)
    obtain ⟨q4, q5⟩ := q3 (w.heap.size + 1) (by rw [HSZ.out]; omega) (fun hf => by have := HF.out _ hf; omega) (fun h e => by omega)
    have E2 := q5.trans HY1.out
    have Q := put_res q1 q2 q4 (Nat.le_succ _) (.int .i64 8) (.int .i64 T.length) (.string ⟨#[]⟩)
    have HE := Lib.hid (put3 E2 (.int .i64 8) (.int .i64 T.length) (.string ⟨#[]⟩))
    obtain ⟨⟨y0, y1, y2⟩, f0, f1, f2⟩ := look3 E2
    have HQ := Lib.hid Q
    clear hA q1 q2 q3 q4 q5 E2 Q
    go_wp2
    have hE := HE.out
    have Q' : DoOk w hb F r.1 r.2.1 r.2.2 (VE ⟨8, T.length, ⟨#[]⟩⟩ 0) (((w2.setCell ⟨w.heap.size + 1, 0, none⟩ (.int .i64 8)).setCell ⟨w.heap.size + 1, 1, none⟩ (.int .i64 T.length)).setCell ⟨w.heap.size + 1, 2, none⟩ (.string ⟨#[]⟩)) := ⟨by rw [HR.out], F', by rw [HR.out]; exact HQ.out.1, HQ.out.2⟩
    clear HE HQ
    generalize (((w2.setCell ⟨w.heap.size + 1, 0, none⟩ (.int .i64 8)).setCell ⟨w.heap.size + 1, 1, none⟩ (.int .i64 T.length)).setCell ⟨w.heap.size + 1, 2, none⟩ (.string ⟨#[]⟩)) = W at hE Q' ⊢
    exact bodyPost_ret (res_ve (t := 9) (p := 8) rfl _ _ (w.heap.size + 1) _ _ _ rfl hE) rfl Q'
  · have HR : Hid (fillT T kind n ⟨uk, ui, us⟩ = (⟨0, 0, ⟨#[]⟩⟩, 83, T)) := Lib.hid (if_neg hn)
    generalize fillT T kind n ⟨uk, ui, us⟩ = r at HR
    have HH := Lib.hid h
    have HB := Lib.hid B0
    have H1 := Lib.hid Z1
    clear h hF hu Z0 Z1 B0
    by_cases hn0 : n < 0
    · clear hn
      go_enter Tryd.func50, Tryd.ntmps50
      go_wp2
      exact bodyPost_ret (res_ve (t := 9) (p := 8) rfl _ _ (w.heap.size + 1) _ _ _ rfl H1.out) rfl (by rw [HR.out]; exact DoOk.of HH.out rfl HB.out)
    · have hn1 : 1000 < n := by omega
      clear hn
      go_enter Tryd.func50, Tryd.ntmps50
      go_wp2
      exact bodyPost_ret (res_ve (t := 9) (p := 8) rfl _ _ (w.heap.size + 1) _ _ _ rfl H1.out) rfl (by rw [HR.out]; exact DoOk.of HH.out rfl HB.out)
end Go.Proofs.YtlolkhnaaelelaaDoor.Hp
