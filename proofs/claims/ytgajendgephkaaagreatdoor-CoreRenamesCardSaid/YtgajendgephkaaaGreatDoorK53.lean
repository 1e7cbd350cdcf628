/-
Expressions that a call lays in memory, node by node. No condition.
-/
import Derived.Test.YtgajendgephkaaaGreatDoorWRG
import Derived.Test.YtgajendgephkaaaGreatDoorWKG
namespace Go.Proofs.YtgajendgephkaaaGreatDoor.Core
open Go.ChangeShapes Go.WideShapes Go.ChangeAt Go.RowKit Go.Deep
open Dat (PT ok64 RepV RepS RowX)
set_option maxRecDepth 100000

/-- A block from C on that is no variable of an expression's that stands empty. -/
def Nz (C : Nat) (W : World) (b : Nat) : Prop := C ≤ b ∧ W.heap[b]? ≠ some (.cells #[.int .i64 0, .string ⟨#[]⟩, .slice none 0 0, .int .i64 0, .int .i64 0, .string ⟨#[]⟩, .slice none 0 0, .slice none 0 0] 28 (0, 0))
theorem Nz.up {C : Nat} {W W' : World} (hb : Below W.heap.size W W') {b : Nat} (h : Nz C W b) (hlt : b < W.heap.size) : Nz C W' b := ⟨h.1, by rw [hb.block b hlt]; exact h.2⟩
theorem inN_up {C : Nat} {W W' : World} {l : List ByteArray} {v : Value} (h : InN W (Nz C W) l v) (hb : Below W.heap.size W W') : InN W' (Nz C W') l v := h.move (fun _ h hl => h.up hb hl) fun _ _ _ _ hc => cell_below hb hc
theorem inK_up {C : Nat} {W W' : World} {l : List PE} {v : Value} (h : InK W (Nz C W) l v) (hb : Below W.heap.size W W') : InK W' (Nz C W') l v := h.move (fun _ h hl => h.up hb hl) fun _ _ _ _ hc => cell_below hb hc
theorem inF_up {C : Nat} {W W' : World} {e : PE} {vn vd vk : Value} (h : InF W (Nz C W) e vn vd vk) (hb : Below W.heap.size W W') : InF W' (Nz C W') e vn vd vk := h.move (fun _ h hl => h.up hb hl) fun _ _ _ _ hc => cell_below hb hc
/-- The value v is the expression t, whose rows lie in blocks from C on. -/
def ValE (W : World) (C : Nat) (t : PE) (v : Value) : Prop := ∃ vn vd vk, v = t.val vn vd vk ∧ InF W (Nz C W) t vn vd vk
theorem ValE.below {W W' : World} {C : Nat} {t : PE} {v : Value} (h : ValE W C t v) (hb : Below W.heap.size W W') : ValE W' C t v := by
  obtain ⟨vn, vd, vk, e, h⟩ := h
  exact ⟨vn, vd, vk, e, inF_up h hb⟩
theorem ValE.node {W : World} {C : Nat} {k : Int} {nm : ByteArray} {ns : List ByteArray} {l : List PE} {vn vk : Value} (hk : ok64 k) (hm : nm.size ≤ maxLen) (hn : InN W (Nz C W) ns vn) (hl : InK W (Nz C W) l vk) :
    ValE W C (.mk k nm ns PT0 l) (.agg #[.int .i64 k, .string nm, vn, .int .i64 0, .int .i64 0, .string ⟨#[]⟩, .slice none 0 0, vk]) :=
  ⟨vn, _, vk, rfl, ⟨hk, hm, hn⟩, ⟨by constructor <;> decide, by constructor <;> decide, by decide, none, 0, rfl, Nat.le_refl _, Nat.zero_le _, fun _ => rfl, .inl rfl⟩, hl⟩
theorem inN_nil {W : World} {S : Nat → Prop} : InN W S [] (.slice none 0 0) := ⟨none, 0, rfl, Nat.le_refl _, Nat.zero_le _, fun _ => rfl, .inl rfl⟩
theorem inK_nil {W : World} {S : Nat → Prop} : InK W S [] (.slice none 0 0) := ⟨none, 0, rfl, Nat.le_refl _, Nat.zero_le _, fun _ => rfl, .inl rfl⟩
theorem inN_one {W : World} {C : Nat} {s : ByteArray} (hs : s.size ≤ maxLen) (hC : C ≤ W.heap.size) : InN (W.alloc (.cells #[.string s] 9)) (Nz C (W.alloc (.cells #[.string s] 9))) [s] (.slice (some ⟨W.heap.size, 0, none⟩) 1 1) := by
  refine ⟨_, 1, rfl, Nat.le_refl _, by decide, (fun h => by cases h), .inr ⟨W.heap.size, 0, rfl, ⟨hC, by rw [heap_alloc_new]; intro e; cases e⟩, fun j hj => ?_⟩⟩
  obtain rfl : j = 0 := by simp at hj; omega
  exact ⟨by rw [Lib.cell_of_heap (heap_alloc_new W _)]; rfl, hs⟩
/-- The value of a node without a constant. -/
def nodeV (k : Int) (nm : ByteArray) (vn vk : Value) : Value := .agg #[.int .i64 k, .string nm, vn, .int .i64 0, .int .i64 0, .string ⟨#[]⟩, .slice none 0 0, vk]
theorem inK_one {W : World} {C : Nat} {k : Int} {nm : ByteArray} {ns : List ByteArray} {l : List PE} {vn vk : Value} (hk0 : k ≠ 0) (h : ValE W C (.mk k nm ns PT0 l) (.agg #[.int .i64 k, .string nm, vn, .int .i64 0, .int .i64 0, .string ⟨#[]⟩, .slice none 0 0, vk])) (hC : C ≤ W.heap.size) :
    InK (W.alloc (.cells #[.int .i64 k, .string nm, vn, .int .i64 0, .int .i64 0, .string ⟨#[]⟩, .slice none 0 0, vk] 28)) (Nz C (W.alloc (.cells #[.int .i64 k, .string nm, vn, .int .i64 0, .int .i64 0, .string ⟨#[]⟩, .slice none 0 0, vk] 28))) [.mk k nm ns PT0 l] (.slice (some ⟨W.heap.size, 0, none⟩) 1 1) := by
  obtain ⟨vn', vd', vk', e, h⟩ := h
  unfold PE.val PT0 at e
  simp only [Value.agg.injEq, Array.mk.injEq, List.cons.injEq, and_true, true_and] at e
  obtain ⟨rfl, rfl, rfl⟩ := e
  have hb := heap_alloc_new W (.cells #[.int .i64 k, .string nm, vn, .int .i64 0, .int .i64 0, .string ⟨#[]⟩, .slice none 0 0, vk] 28)
  have h' := inF_up h ((Below.refl _ _).alloc (Nat.le_refl _) (.cells #[.int .i64 k, .string nm, vn, .int .i64 0, .int .i64 0, .string ⟨#[]⟩, .slice none 0 0, vk] 28))
  refine ⟨_, 1, rfl, Nat.le_refl _, by decide, (fun h => by cases h), .inr ⟨W.heap.size, 0, rfl, ⟨hC, by rw [hb]; intro e; cases e; exact hk0 rfl⟩, ?_⟩⟩
  rw [InEs, InEs]
  refine ⟨inE_of h' ?_ ?_ ?_ ?_ ?_ ?_ ?_ ?_, trivial⟩
  all_goals (rw [Lib.cell_of_heap hb]; rfl)
theorem inK_two {W : World} {C : Nat} {k k' : Int} {nm nm' : ByteArray} {ns ns' : List ByteArray} {l l' : List PE} {vn vk vn' vk' : Value} (h : ValE W C (.mk k nm ns PT0 l) (.agg #[.int .i64 k, .string nm, vn, .int .i64 0, .int .i64 0, .string ⟨#[]⟩, .slice none 0 0, vk]))
    (g : ValE W C (.mk k' nm' ns' PT0 l') (.agg #[.int .i64 k', .string nm', vn', .int .i64 0, .int .i64 0, .string ⟨#[]⟩, .slice none 0 0, vk'])) (hC : C ≤ W.heap.size) :
    InK (W.alloc (.cells #[.int .i64 k, .string nm, vn, .int .i64 0, .int .i64 0, .string ⟨#[]⟩, .slice none 0 0, vk, .int .i64 k', .string nm', vn', .int .i64 0, .int .i64 0, .string ⟨#[]⟩, .slice none 0 0, vk'] 28)) (Nz C (W.alloc (.cells #[.int .i64 k, .string nm, vn, .int .i64 0, .int .i64 0, .string ⟨#[]⟩, .slice none 0 0, vk, .int .i64 k', .string nm', vn', .int .i64 0, .int .i64 0, .string ⟨#[]⟩, .slice none 0 0, vk'] 28))) [.mk k nm ns PT0 l, .mk k' nm' ns' PT0 l'] (.slice (some ⟨W.heap.size, 0, none⟩) 2 2) := by
  obtain ⟨un, ud, uk, e, h⟩ := h
  obtain ⟨un', ud', uk', e', g⟩ := g
  unfold PE.val PT0 at e e'
  simp only [Value.agg.injEq, Array.mk.injEq, List.cons.injEq, and_true, true_and] at e e'
  obtain ⟨rfl, rfl, rfl⟩ := e
  obtain ⟨rfl, rfl, rfl⟩ := e'
  generalize ho : Obj.cells #[.int .i64 k, .string nm, vn, .int .i64 0, .int .i64 0, .string ⟨#[]⟩, .slice none 0 0, vk, .int .i64 k', .string nm', vn', .int .i64 0, .int .i64 0, .string ⟨#[]⟩, .slice none 0 0, vk'] 28 (0, 0) = o
  have hb := heap_alloc_new W o
  have h' := inF_up h ((Below.refl _ _).alloc (Nat.le_refl _) o)
  have g' := inF_up g ((Below.refl _ _).alloc (Nat.le_refl _) o)
  rw [← ho] at hb
  refine ⟨_, 2, rfl, Nat.le_refl _, by decide, (fun h => by cases h), .inr ⟨W.heap.size, 0, rfl, ⟨hC, by rw [heap_alloc_new, ← ho]; intro e; cases e⟩, ?_⟩⟩
  rw [InEs, InEs, InEs]
  rw [← ho] at h' g' ⊢
  refine ⟨inE_of h' ?_ ?_ ?_ ?_ ?_ ?_ ?_ ?_, inE_of g' ?_ ?_ ?_ ?_ ?_ ?_ ?_ ?_, trivial⟩
  all_goals (rw [Lib.cell_of_heap hb]; rfl)
/-- Put into a variable that stood empty. -/
theorem ValE.put {W : World} {C g : Nat} {t : PE} {k : Int} {nm : ByteArray} {vn vk : Value} (h : ValE W C t (.agg #[.int .i64 k, .string nm, vn, .int .i64 0, .int .i64 0, .string ⟨#[]⟩, .slice none 0 0, vk])) (hg : W.heap[g]? = some (.cells #[.int .i64 0, .string ⟨#[]⟩, .slice none 0 0, .int .i64 0, .int .i64 0, .string ⟨#[]⟩, .slice none 0 0, .slice none 0 0] 28 (0, 0))) {W' : World} (hW : ∀ b, b ≠ g → W'.heap[b]? = W.heap[b]?) :
    ∃ vn' vd' vk', (.agg #[.int .i64 k, .string nm, vn, .int .i64 0, .int .i64 0, .string ⟨#[]⟩, .slice none 0 0, vk] : Value) = t.val vn' vd' vk' ∧ InF W' (fun b => C ≤ b) t vn' vd' vk' := by
  obtain ⟨vn', vd', vk', e, h⟩ := h
  refine ⟨vn', vd', vk', e, h.move (fun b hb _ => hb.1) fun b o y hb hc => ?_⟩
  rw [World.cell?_of_block (w := W) (a := ⟨b, o, none⟩) (hW b fun e => hb.2 (by rw [e]; exact hg))]
  exact hc
theorem ref_any (s : ByteArray) (w : World) :
    Calls Tryz.prog 24 #[.string s] w fun e w' => e = .returned (.agg #[.int .i64 1, .string s, .slice none 0 0, .int .i64 0, .int .i64 0, .string ⟨#[]⟩, .slice none 0 0, .slice none 0 0]) ∧ Below w.heap.size w w' := by
  go_enter Tryz.func24, Tryz.ntmps24
  go_wp2
  exact bodyPost_ret (results_cell_row (P := Tryz.prog) rfl _ _ w.heap.size 28 _ (0, 0) _ rfl (heap_alloc_new w _) Tryz.underlying28 rfl (by kernel_rfl)) rfl ⟨rfl, (Below.refl _ _).alloc (Nat.le_refl _) _⟩
end Go.Proofs.YtgajendgephkaaaGreatDoor.Core
