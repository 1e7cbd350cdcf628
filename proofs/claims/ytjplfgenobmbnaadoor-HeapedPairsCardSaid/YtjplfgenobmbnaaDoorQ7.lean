/-
How one goes on from a new thing. No condition.
-/
import Derived.Test.YtjplfgenobmbnaaDoorQ6
import Derived.Test.YtjplfgenobmbnaaDoorWT
namespace Go.Proofs.YtjplfgenobmbnaaDoor.Hp
open Go.ChangeShapes Go.WideShapes Go.ChangeAt Go.RowKit Go.Deep
open Dat (PT ok64 RepV RepS RowX infoDatum)
set_option maxRecDepth 100000

def repl (n : Nat) (v : PV) : List PV := List.replicate n v
/-- How one goes on from a thing that was made in a new block. -/
theorem AddOk.doOk {w w0 w' : World} {hb : Nat} {F : Nat → Prop} {l : List PV} {g0 : Nat} {T : List (Int × List PV)} {n : Int} {e : Ending} (h : AddOk w0 hb F l g0 T n e w') (hb0 : Below w.heap.size w w0) (hg : l ≠ [] → w.heap.size ≤ g0) :
    e = .returned (.agg #[.int .i64 8, .int .i64 n, .string ⟨#[]⟩]) ∧ ∃ F', HeapM w' hb T F' ∧ Stp F w F' w' ∧ ∀ R, R < w0.heap.size → ¬ F R → (l ≠ [] → R ≠ g0) → ¬ F' R ∧ w'.heap[R]? = w0.heap[R]? := by
  obtain ⟨h1, F', h2, h3, h4⟩ := h
  refine ⟨h1, F', h2, ⟨⟨(hb0.mono (Nat.zero_le _)).trans h3.1, fun b hlt hn => ?_⟩, fun b hb => ?_⟩, fun R h5 h6 h7 => ⟨fun hR => ?_, h3.2 R h5 h6⟩⟩
  · rw [h3.2 b (Nat.lt_of_lt_of_le hlt hb0.size) hn]
    exact hb0.block b hlt
  · have := hb0.size
    rcases h4 b hb with h | ⟨h, e⟩ | h
    · exact .inl h
    · have := hg h; exact .inr (by omega)
    · exact .inr (by omega)
  · rcases h4 R hR with h | ⟨h, e⟩ | h
    · exact h6 h
    · exact h7 h e
    · omega
/-- A value put into the result's cell. -/
theorem put_res {w W : World} {R hb : Nat} {T : List (Int × List PV)} {F F' : Nat → Prop} (h : HeapM W hb T F') (hs : Stp F w F' W) (hF : ¬ F' R) (hR : w.heap.size ≤ R) (y0 y1 y2 : Value) :
    HeapM (((W.setCell ⟨R, 0, none⟩ y0).setCell ⟨R, 1, none⟩ y1).setCell ⟨R, 2, none⟩ y2) hb T F' ∧ Stp F w F' (((W.setCell ⟨R, 0, none⟩ y0).setCell ⟨R, 1, none⟩ y1).setCell ⟨R, 2, none⟩ y2) := by
  refine ⟨h.move (fun b hb _ => put3_other _ _ _ (fun e => hF (e ▸ hb))) fun _ h => h, ⟨⟨hs.1.1.trans (put3_below (Below.refl 0 W) (Nat.zero_le _) _ _ _), fun b hb hn => ?_⟩, hs.2⟩⟩
  rw [put3_other _ _ _ (by omega)]
  exact hs.1.2 b hb hn
/-- What comes of filled. -/
def fillT (T : List (Int × List PV)) (kind n : Int) (u : PV) : PV × Int × List (Int × List PV) :=
  if 0 ≤ n ∧ n ≤ 1000 then (⟨8, T.length, ⟨#[]⟩⟩, 0, T ++ [(kind, repl n.toNat u)]) else (⟨0, 0, ⟨#[]⟩⟩, 83, T)
end Go.Proofs.YtjplfgenobmbnaaDoor.Hp
