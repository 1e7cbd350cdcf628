/-
The document's expression of a datum: its expr, for every datum that is not huge. No condition but that bound.
-/
import Derived.Test.YtjofdlnopchaeaaGreatDoorWKR
import Derived.Test.YtjofdlnopchaeaaGreatDoorK80
import Derived.Test.YtjofdlnopchaeaaGreatDoorWKK
import Derived.Test.YtjofdlnopchaeaaGreatDoorK48
import Derived.Test.YtjofdlnopchaeaaGreatDoorWRG
import Derived.Deep.DeepCutAuto
import Derived.Deep.CutBlock
import Derived.Deep.DeepMust
namespace Go.Proofs.YtjofdlnopchaeaaGreatDoor.Core
open Go.ChangeShapes Go.WideShapes Go.ChangeAt Go.RowKit Go.Deep
open Dat (PT ok64 sameB numT numsT)
set_option maxRecDepth 100000

/-- How things stand while expr goes on. -/
structure RX (w : World) (q : Nat) (W : World) (DB EB : Obj) : Prop where
  bel : Below w.heap.size w W
  db : W.heap[w.heap.size]? = some DB
  zb : W.heap[w.heap.size + 1]? = some (.cells #[.int .i64 0, .string ⟨#[]⟩, .slice none 0 0, .int .i64 0, .int .i64 0, .string ⟨#[]⟩, .slice none 0 0, .slice none 0 0] 28)
  qb : W.heap[q]? = some EB
  hq : w.heap.size + 2 ≤ q
theorem RX.call {w W W' : World} {q : Nat} {DB EB : Obj} (h : RX w q W DB EB) (hb : Below W.heap.size W W') : RX w q W' DB EB :=
  ⟨h.bel.trans (hb.mono h.bel.size), (hb.block _ (lt_of_block h.db)).trans h.db, (hb.block _ (lt_of_block h.zb)).trans h.zb, (hb.block _ (lt_of_block h.qb)).trans h.qb, h.hq⟩
theorem RX.kp {w W W' : World} {q : Nat} {DB EB : Obj} {o : Option Nat} (h : RX w q W DB EB) (hk : KP W o W') (ho : ∀ b, o = some b → q + 1 ≤ b) : RX w q W' DB EB :=
  have hq := h.hq
  ⟨h.bel.trans (hk.below h.bel.size (fun b e => by have := ho b e.symm; omega)), (hk.2 _ (lt_of_block h.db) (fun e => by have := ho _ e.symm; omega)).trans h.db, (hk.2 _ (lt_of_block h.zb) (fun e => by have := ho _ e.symm; omega)).trans h.zb, (hk.2 _ (lt_of_block h.qb) (fun e => by have := ho _ e.symm; omega)).trans h.qb, hq⟩
theorem RX.put {w W : World} {q : Nat} {DB : Obj} {cells : Array Value} {ty : TypeId} (h : RX w q W DB (.cells cells ty)) (j : Nat) (v : Value) : RX w q (W.setCell ⟨q, j, none⟩ v) DB (.cells (cells.setIfInBounds j v) ty) :=
  have hq := h.hq
  ⟨h.bel.setCell (p := ⟨q, j, none⟩) (by show w.heap.size ≤ q; omega) v, (Below.heap_setCell _ _ _ _ (by show w.heap.size ≠ q; omega)).trans h.db, (Below.heap_setCell _ _ _ _ (by show w.heap.size + 1 ≠ q; omega)).trans h.zb, heap_setCell_same _ _ _ _ _ _ h.qb, hq⟩
/-- Where the kids' rows lie: not in the names' own block. -/
def PK (S : Nat → Prop) (q : Nat) (vN : Value) (b : Nat) : Prop := (S b ∨ q + 1 ≤ b) ∧ some b ≠ vN.ownBlock
/-- The two rows that grow. -/
structure Rows2 (S : Nat → Prop) (q : Nat) (ns : List ByteArray) (l0 : List PE) (vN vK : Value) (W : World) : Prop where
  nrow : OutT W (q + 1) ns vN
  krow : OutE W (q + 1) (PK S q vN) l0 vK
  apart : ∀ b, vN.ownBlock = some b → vK.ownBlock ≠ some b
  sizes : ∀ s ∈ ns, s.size ≤ maxLen
theorem Rows2.nlt {S : Nat → Prop} {q : Nat} {ns : List ByteArray} {l0 : List PE} {vN vK : Value} {W : World} (h : Rows2 S q ns l0 vN vK W) {b : Nat} (e : vN.ownBlock = some b) : q + 1 ≤ b ∧ b < W.heap.size := by
  obtain ⟨_, _, _, h1⟩ := h.nrow.slice
  exact h1 b e
theorem Rows2.klt {S : Nat → Prop} {q : Nat} {ns : List ByteArray} {l0 : List PE} {vN vK : Value} {W : World} (h : Rows2 S q ns l0 vN vK W) {b : Nat} (e : vK.ownBlock = some b) : q + 1 ≤ b ∧ b < W.heap.size := by
  obtain ⟨_, _, _, h1⟩ := h.krow.slice
  exact h1 b e
theorem Rows2.nil (S : Nat → Prop) (q : Nat) (W : World) : Rows2 S q [] [] (.slice none 0 0) (.slice none 0 0) W :=
  ⟨OutT.nil _ _, OutE.nil _ _ _, (fun b e => by cases e), (fun s h => by cases h)⟩
theorem Rows2.call {S : Nat → Prop} {q : Nat} {ns : List ByteArray} {l0 : List PE} {vN vK : Value} {W W' : World} (h : Rows2 S q ns l0 vN vK W) (hb : Below W.heap.size W W') : Rows2 S q ns l0 vN vK W' :=
  ⟨h.nrow.at fun b e => hb.block b (h.nlt e).2, h.krow.at (fun b e => hb.block b (h.klt e).2) fun b hp hl => ⟨hb.block b hl, hp⟩, h.apart, h.sizes⟩
/-- .. where all but one block below is as it was. -/
theorem Rows2.but {S : Nat → Prop} {q : Nat} {ns : List ByteArray} {l0 : List PE} {vN vK : Value} {W W' : World} (h : Rows2 S q ns l0 vN vK W) (z : Nat) (hz : z ≤ q) (hS : ¬ S z) (hb : ∀ b, b ≠ z → W'.heap[b]? = W.heap[b]?) : Rows2 S q ns l0 vN vK W' :=
  ⟨h.nrow.at fun b e => hb b (by have := (h.nlt e).1; omega), h.krow.at (fun b e => hb b (by have := (h.klt e).1; omega)) fun b hp _ => ⟨hb b (fun e => by
    subst e
    rcases hp.1 with h1 | h1
    · exact hS h1
    · omega), hp⟩, h.apart, h.sizes⟩
theorem Rows2.putq {S : Nat → Prop} {q : Nat} {ns : List ByteArray} {l0 : List PE} {vN vK : Value} {W : World} (h : Rows2 S q ns l0 vN vK W) (hS : ∀ b, S b → b < q) (j : Nat) (v : Value) : Rows2 S q ns l0 vN vK (W.setCell ⟨q, j, none⟩ v) :=
  h.but q (Nat.le_refl _) (fun e => by have := hS q e; omega) fun b hb => Below.heap_setCell _ _ _ _ hb
theorem Rows2.name {S : Nat → Prop} {q : Nat} {ns ms : List ByteArray} {l0 : List PE} {vN vN' vK : Value} {W W' : World} (h : Rows2 S q ns l0 vN vK W) (ho : OutT W' (q + 1) (ns ++ ms) vN') (hk : KP W vN.ownBlock W') (ha : vN'.ownBlock = vN.ownBlock ∨ ∀ b, vN'.ownBlock = some b → W.heap.size ≤ b) (hs : ∀ s ∈ ms, s.size ≤ maxLen) : Rows2 S q (ns ++ ms) l0 vN' vK W' := by
  refine ⟨ho, h.krow.at (fun b e => hk.2 b (h.klt e).2 (fun e2 => h.apart b e2.symm e)) (fun b hp hl => ⟨hk.2 b hl hp.2, hp.1, fun e => ?_⟩), fun b e e2 => ?_, fun s hm => ?_⟩
  · rcases ha with h1 | h1
    · exact hp.2 (e.trans h1)
    · have := h1 b e.symm; omega
  · rcases ha with h1 | h1
    · exact h.apart b (h1.symm.trans e) e2
    · have := h1 b e; have := (h.klt e2).2; omega
  · rcases List.mem_append.1 hm with h1 | h1
    · exact h.sizes s h1
    · exact hs s h1
theorem Rows2.kid {S : Nat → Prop} {q g n cap : Nat} {ns : List ByteArray} {l0 : List PE} {t : PE} {vN vK : Value} {W W' : World} (h : Rows2 S q ns l0 vN vK W) (ho : OutE W' (q + 1) (PK S q vN) (l0 ++ [t]) (.slice (some ⟨g, 0, none⟩) n cap)) (hk : W.grownBy W' vK.ownBlock) (ha : vK.ownBlock = some g ∨ g = W.heap.size) : Rows2 S q ns (l0 ++ [t]) vN (.slice (some ⟨g, 0, none⟩) n cap) W' := by
  refine ⟨h.nrow.at fun b e => hk.block b (h.nlt e).2 (fun e2 => h.apart b e e2.symm), ho, fun b e e2 => ?_, h.sizes⟩
  have e3 : g = b := by injection e2
  subst e3
  rcases ha with h1 | h1
  · exact h.apart _ e h1
  · have := (h.nlt e).2; omega
/-- What is newly made lies apart from both rows. -/
theorem Rows2.fresh {S : Nat → Prop} {q : Nat} {ns : List ByteArray} {l0 : List PE} {vN vK : Value} {W : World} (h : Rows2 S q ns l0 vN vK W) (hS : ∀ b, S b → b < q) (hq : q < W.heap.size) {b : Nat} (hb : S b ∨ W.heap.size ≤ b) : PK S q vN b ∧ some b ≠ vK.ownBlock := by
  refine ⟨⟨hb.imp id fun h => by omega, fun e => ?_⟩, fun e => ?_⟩
  · have h1 := h.nlt e.symm
    rcases hb with h2 | h2
    · have := hS b h2; omega
    · omega
  · have h1 := h.klt e.symm
    rcases hb with h2 | h2
    · have := hS b h2; omega
    · omega
theorem leaf_in {W : World} {S : Nat → Prop} {k : Int} {nm : ByteArray} (hk : ok64 k) (hn : nm.size ≤ maxLen) : InF W S (.mk k nm [] PT0 []) (.slice none 0 0) (.slice none 0 0) (.slice none 0 0) :=
  ⟨⟨hk, hn, inN_nil⟩, ⟨by constructor <;> decide, by constructor <;> decide, by decide, none, 0, rfl, Nat.le_refl _, Nat.zero_le _, fun _ => rfl, .inl rfl⟩, inK_nil⟩
theorem Rows2.inF {S : Nat → Prop} {q B : Nat} {ns : List ByteArray} {l0 : List PE} {vN vK : Value} {W : World} (h : Rows2 S q ns l0 vN vK W) (hB : B ≤ q) {k : Int} {nm : ByteArray} (hk : ok64 k) (hn : nm.size ≤ maxLen) : InF W (fun b => S b ∨ B ≤ b) (.mk k nm ns PT0 l0) vN (.slice none 0 0) vK :=
  ⟨⟨hk, hn, h.nrow.inN h.sizes fun b e => .inr (by have := (h.nlt e).1; omega)⟩, ⟨by constructor <;> decide, by constructor <;> decide, by decide, none, 0, rfl, Nat.le_refl _, Nat.zero_le _, fun _ => rfl, .inl rfl⟩, h.krow.inK (fun b hp => hp.1.imp id fun h => by omega) fun b e => .inr (by have := (h.klt e).1; omega)⟩
theorem ins_tail {w : World} {S : Nat → Prop} {y : PT} {r : List PT} {b o n c : Nat} (h : InS w S (y :: r) (.slice (some ⟨b, o, none⟩) n c)) : InS w S r (.slice (some ⟨b, o + 4, none⟩) (n - 1) (c - 1)) := by
  obtain ⟨a, c', e, hl, hm, ha, hr⟩ := id h
  cases e
  cases r with
  | nil => exact ⟨_, c - 1, rfl, Nat.zero_le _, by unfold maxLen at hm ⊢; omega, (fun h => by cases h), .inl rfl⟩
  | cons z r =>
    have := InS.dropQ h (q := 1) (by simp)
    simpa using this
theorem expr_bad {k i : Int} {s : ByteArray} {l : List PT} (h4 : k ≠ 4) (h5 : ¬ (k = 5 ∧ 2 ≤ l.length)) : exprT (.mk k i s l) = badE := by
  match l with
  | [] => unfold exprT; simp [h4]
  | [_] => unfold exprT; simp [h4]
  | _ :: .mk _ _ _ _ :: _ =>
    have : k ≠ 5 := fun e => h5 ⟨e, by simp⟩
    rw [exprT]
    simp [h4, this]
/-- What expr answers. -/
def ExprIs (S : Nat → Prop) (B : Nat) (d : PT) (e : Ending) (w' : World) : Prop := ∃ vn vd vk, e = .returned ((exprT d).val vn vd vk) ∧ InF w' (fun b => S b ∨ B ≤ b) (exprT d) vn vd vk
def ExprOk (d : PT) : Prop := ∀ (w : World) (S : Nat → Prop) (v : Value), InV w S d v → (∀ b, S b → b < w.heap.size) → numT d ≤ 100000 →
  Calls Tryz.prog 42 #[d.val v] w fun e w' => ExprIs S w.heap.size d e w' ∧ Below w.heap.size w w'
/-- What the operations yield that look which word it is. -/
def RWd (w : World) (lv dv : Value) (b o j : Nat) (eqb : Bool) : Nat → Value → World → Prop
  | 0, v, _ => v = .int .i64 (j : Int)
  | 1, v, _ => v = .bool true
  | 2, v, _ => v = .bool true
  | 3, v, _ => v = .pointer (some ⟨w.heap.size, 3, none⟩)
  | 4, v, _ => v = lv
  | 5, v, _ => v = .pointer (some ⟨b, o, none⟩)
  | 6, v, _ => v = dv
  | 7, v, _ => v = .int .i64 (j : Int)
  | 8, v, _ => v = .string (wordS (j : Int))
  | 9, v, _ => v = .agg #[.int .i64 4, .int .i64 0, .string (wordS (j : Int)), .slice none 0 0]
  | 10, v, _ => v = .bool eqb
  | 11, v, _ => v = .bool eqb
  | _, _, _ => True
theorem RWd.mono {w : World} {lv dv : Value} {b o j : Nat} {eqb : Bool} : ∀ (i : Nat) (v : Value) (W W' : World), RWd w lv dv b o j eqb i v W → Below W.heap.size W W' → RWd w lv dv b o j eqb i v W' := by
  intro i v W W' h _
  rcases i with _ | _ | _ | _ | _ | _ | _ | _ | _ | _ | _ | _ | i <;> exact h
/-- What the operations yield that put a name behind the names: of a word's row .. -/
def R26 (q : Nat) (vN lv rv : Value) (b o yb yo j : Nat) (u : ByteArray) : Nat → Value → World → Prop
  | 0, v, _ => v = .pointer (some ⟨q, 2, none⟩)
  | 1, v, _ => v = vN
  | 2, v, _ => v = lv
  | 3, v, _ => v = .pointer (some ⟨b, o, none⟩)
  | 4, v, _ => v = .pointer (some ⟨b, o + 3, none⟩)
  | 5, v, _ => v = rv
  | 6, v, _ => v = .int .i64 (j : Int)
  | 7, v, _ => v = .pointer (some ⟨yb, yo + j * 4, none⟩)
  | 8, v, _ => v = .pointer (some ⟨yb, yo + j * 4 + 2, none⟩)
  | 9, v, _ => v = .string u
  | 10, v, W => ∃ g, v = .slice (some ⟨g, 0, none⟩) 1 1 ∧ W.heap[g]? = some (.cells #[.string u] 9 (0, 0))
  | _, _, _ => True
theorem R26.mono {q : Nat} {vN lv rv : Value} {b o yb yo j : Nat} {u : ByteArray} : ∀ (i : Nat) (v : Value) (W W' : World), R26 q vN lv rv b o yb yo j u i v W → Below W.heap.size W W' → R26 q vN lv rv b o yb yo j u i v W' := by
  intro i v W W' h hb
  rcases i with _ | _ | _ | _ | _ | _ | _ | _ | _ | _ | _ | i
  all_goals first | exact h | exact h.elim fun g h => ⟨g, h.1, (hb.block g (lt_of_block h.2)).trans h.2⟩
/-- .. of a binding .. -/
def R37 (q X : Nat) (vN rv : Value) (yb yo : Nat) (u : ByteArray) : Nat → Value → World → Prop
  | 0, v, _ => v = .pointer (some ⟨q, 2, none⟩)
  | 1, v, _ => v = vN
  | 2, v, _ => v = .pointer (some ⟨X, 3, none⟩)
  | 3, v, _ => v = rv
  | 4, v, _ => v = .pointer (some ⟨yb, yo, none⟩)
  | 5, v, _ => v = .pointer (some ⟨yb, yo + 2, none⟩)
  | 6, v, _ => v = .string u
  | 7, v, W => ∃ g, v = .slice (some ⟨g, 0, none⟩) 1 1 ∧ W.heap[g]? = some (.cells #[.string u] 9 (0, 0))
  | _, _, _ => True
theorem R37.mono {q X : Nat} {vN rv : Value} {yb yo : Nat} {u : ByteArray} : ∀ (i : Nat) (v : Value) (W W' : World), R37 q X vN rv yb yo u i v W → Below W.heap.size W W' → R37 q X vN rv yb yo u i v W' := by
  intro i v W W' h hb
  rcases i with _ | _ | _ | _ | _ | _ | _ | _ | i
  all_goals first | exact h | exact h.elim fun g h => ⟨g, h.1, (hb.block g (lt_of_block h.2)).trans h.2⟩
/-- An expression as a call gives it. -/
def KidV (P : Nat → Prop) (uk : Int) (un : ByteArray) (uns : List ByteArray) (uck uci : Int) (ucs : ByteArray) (ucl : List PT) (ul : List PE) (v : Value) (W : World) : Prop :=
  ∃ uan ucn uad ucd uak uc2, v = .agg #[.int .i64 uk, .string un, .slice uan uns.length ucn, .int .i64 uck, .int .i64 uci, .string ucs, .slice uad ucl.length ucd, .slice uak ul.length uc2] ∧ InF W P (.mk uk un uns (.mk uck uci ucs ucl) ul) (.slice uan uns.length ucn) (.slice uad ucl.length ucd) (.slice uak ul.length uc2)
/-- .. in a row of one. -/
def KidS (P : Nat → Prop) (uk : Int) (un : ByteArray) (uns : List ByteArray) (uck uci : Int) (ucs : ByteArray) (ucl : List PT) (ul : List PE) (v : Value) (W : World) : Prop :=
  ∃ g uan ucn uad ucd uak uc2, v = .slice (some ⟨g, 0, none⟩) 1 1 ∧ W.heap[g]? = some (.cells #[.int .i64 uk, .string un, .slice uan uns.length ucn, .int .i64 uck, .int .i64 uci, .string ucs, .slice uad ucl.length ucd, .slice uak ul.length uc2] 28 (0, 0)) ∧ InF W P (.mk uk un uns (.mk uck uci ucs ucl) ul) (.slice uan uns.length ucn) (.slice uad ucl.length ucd) (.slice uak ul.length uc2)
theorem KidV.mono {P : Nat → Prop} {uk : Int} {un : ByteArray} {uns : List ByteArray} {uck uci : Int} {ucs : ByteArray} {ucl : List PT} {ul : List PE} {v : Value} {W W' : World} (h : KidV P uk un uns uck uci ucs ucl ul v W) (hb : Below W.heap.size W W') : KidV P uk un uns uck uci ucs ucl ul v W' := by
  obtain ⟨a, c, a2, c2, a3, c3, e, h⟩ := h
  exact ⟨a, c, a2, c2, a3, c3, e, h.below hb⟩
theorem KidS.mono {P : Nat → Prop} {uk : Int} {un : ByteArray} {uns : List ByteArray} {uck uci : Int} {ucs : ByteArray} {ucl : List PT} {ul : List PE} {v : Value} {W W' : World} (h : KidS P uk un uns uck uci ucs ucl ul v W) (hb : Below W.heap.size W W') : KidS P uk un uns uck uci ucs ucl ul v W' := by
  obtain ⟨g, a, c, a2, c2, a3, c3, e, hg, h⟩ := h
  exact ⟨g, a, c, a2, c2, a3, c3, e, (hb.block g (lt_of_block hg)).trans hg, h.below hb⟩
/-- What the operations yield that put a kid behind the kids: of a binding .. -/
def R38 (q X : Nat) (vK rv dv : Value) (yb yo : Nat) (P : Nat → Prop) (uk : Int) (un : ByteArray) (uns : List ByteArray) (uck uci : Int) (ucs : ByteArray) (ucl : List PT) (ul : List PE) : Nat → Value → World → Prop
  | 0, v, _ => v = .pointer (some ⟨q, 7, none⟩)
  | 1, v, _ => v = vK
  | 2, v, _ => v = .pointer (some ⟨X, 3, none⟩)
  | 3, v, _ => v = rv
  | 4, v, _ => v = .pointer (some ⟨yb, yo + 4, none⟩)
  | 5, v, _ => v = dv
  | 6, v, W => KidV P uk un uns uck uci ucs ucl ul v W
  | 7, v, W => KidS P uk un uns uck uci ucs ucl ul v W
  | _, _, _ => True
theorem R38.mono {q X : Nat} {vK rv dv : Value} {yb yo : Nat} {P : Nat → Prop} {uk : Int} {un : ByteArray} {uns : List ByteArray} {uck uci : Int} {ucs : ByteArray} {ucl : List PT} {ul : List PE} : ∀ (i : Nat) (v : Value) (W W' : World), R38 q X vK rv dv yb yo P uk un uns uck uci ucs ucl ul i v W → Below W.heap.size W W' → R38 q X vK rv dv yb yo P uk un uns uck uci ucs ucl ul i v W' := by
  intro i v W W' h hb
  rcases i with _ | _ | _ | _ | _ | _ | _ | _ | i
  all_goals first | exact h | exact KidV.mono h hb | exact KidS.mono h hb
/-- .. of what is left. -/
def R43 (q : Nat) (vK lv dv : Value) (b o j : Nat) (P : Nat → Prop) (uk : Int) (un : ByteArray) (uns : List ByteArray) (uck uci : Int) (ucs : ByteArray) (ucl : List PT) (ul : List PE) : Nat → Value → World → Prop
  | 0, v, _ => v = .pointer (some ⟨q, 7, none⟩)
  | 1, v, _ => v = vK
  | 2, v, _ => v = lv
  | 3, v, _ => v = .int .i64 (j : Int)
  | 4, v, _ => v = .pointer (some ⟨b, o + j * 4, none⟩)
  | 5, v, _ => v = dv
  | 6, v, W => KidV P uk un uns uck uci ucs ucl ul v W
  | 7, v, W => KidS P uk un uns uck uci ucs ucl ul v W
  | _, _, _ => True
theorem R43.mono {q : Nat} {vK lv dv : Value} {b o j : Nat} {P : Nat → Prop} {uk : Int} {un : ByteArray} {uns : List ByteArray} {uck uci : Int} {ucs : ByteArray} {ucl : List PT} {ul : List PE} : ∀ (i : Nat) (v : Value) (W W' : World), R43 q vK lv dv b o j P uk un uns uck uci ucs ucl ul i v W → Below W.heap.size W W' → R43 q vK lv dv b o j P uk un uns uck uci ucs ucl ul i v W' := by
  intro i v W W' h hb
  rcases i with _ | _ | _ | _ | _ | _ | _ | _ | i
  all_goals first | exact h | exact KidV.mono h hb | exact KidS.mono h hb
theorem insAt {w W W' : World} {S : Nat → Prop} {l : List PT} {v : Value} (h : InS W S l v) (hS : ∀ b, S b → b < w.heap.size) (hW : Below w.heap.size w W) (hW' : Below w.heap.size w W') : InS W' S l v :=
  h.move (fun _ h _ => h) fun b o v hs hc => by
    rw [World.cell?_of_block (w := W) (a := ⟨b, o, none⟩) ((hW'.block b (hS b hs)).trans (hW.block b (hS b hs)).symm)]; exact hc
theorem kp_of_grown {w w' : World} {o : Option Nat} (h : w.grownBy w' o) : KP w o w' := ⟨⟨h.os, h.tape, h.output, h.size, fun _ hb => (Nat.not_lt_zero _ hb).elim⟩, fun b h1 h2 => h.block b h1 h2⟩
theorem inN_single {W : World} {g : Nat} {s : ByteArray} {ty : TypeId} (hg : W.heap[g]? = some (.cells #[.string s] ty)) (hs : s.size ≤ maxLen) : InN W (fun _ => True) [s] (.slice (some ⟨g, 0, none⟩) 1 1) :=
  ⟨_, 1, rfl, Nat.le_refl _, by decide, (fun h => by cases h), .inr ⟨g, 0, rfl, trivial, fun j hj => by
    obtain rfl : j = 0 := by simpa using hj
    refine ⟨?_, hs⟩
    rw [Lib.cell_of_heap hg]; rfl⟩⟩
set_option maxHeartbeats 16000000 in
theorem rexpr_step (k i : Int) (s : ByteArray) (l : List PT) (ih : ∀ t, numT t < numT (.mk k i s l) → ExprOk t) : ExprOk (.mk k i s l) := by
  intro w S v hv hS hsz
  have HV := Lib.hid hv
  have HSL := Lib.hid hS
  have HIH := Lib.hid ih
  have HSZ := Lib.hid hsz
  have HSS := Lib.hid hv.2.2.1
  obtain ⟨_, _, _, a, c, rfl, hlc, hcm, _, hr⟩ := hv
  have HR := Lib.hid hr
  unfold maxLen at hcm
  show Calls Tryz.prog 42 #[.agg #[.int .i64 k, .int .i64 i, .string s, .slice a l.length c]] w _
  obtain ⟨z0, z1, zb⟩ := two_new w (.cells #[.int .i64 k, .int .i64 i, .string s, .slice a l.length c] 25) (.cells #[.int .i64 0, .string ⟨#[]⟩, .slice none 0 0, .int .i64 0, .int .i64 0, .string ⟨#[]⟩, .slice none 0 0, .slice none 0 0] 28)
  have hs0 : ((w.alloc (.cells #[.int .i64 k, .int .i64 i, .string s, .slice a l.length c] 25)).alloc (.cells #[.int .i64 0, .string ⟨#[]⟩, .slice none 0 0, .int .i64 0, .int .i64 0, .string ⟨#[]⟩, .slice none 0 0, .slice none 0 0] 28)).heap.size = w.heap.size + 2 := by rw [size_new, size_new]
  generalize hw0 : (w.alloc (.cells #[.int .i64 k, .int .i64 i, .string s, .slice a l.length c] 25)).alloc (.cells #[.int .i64 0, .string ⟨#[]⟩, .slice none 0 0, .int .i64 0, .int .i64 0, .string ⟨#[]⟩, .slice none 0 0, .slice none 0 0] 28) = w0 at z0 z1 zb hs0
  have HW0 := Lib.hid hw0
  have Z0 := Lib.hid z0
  have Z1 := Lib.hid z1
  have ZB := Lib.hid zb
  have HS0 := Lib.hid hs0
  obtain ⟨x0, x1, x2, x3⟩ := look4c z0
  obtain ⟨t0, t1, t2, t3, t4, t5, t6, t7⟩ := look8 z1
  obtain ⟨g0, g1, g2, g3, g4, g5, g6, g7⟩ := free8 z1
  clear hw0 z0 z1 zb hr hS ih hsz hs0
  go_enter Tryz.func42, Tryz.ntmps42
  go_upto_region 1 with fail
  rw [HW0.out]
  by_cases hk : k = 4
  · subst hk
    have HZ5 := Lib.hid (put8 (v0 := .int .i64 1) (v1 := .string s) (v2 := .slice none 0 0) (v3 := .int .i64 0) (v4 := .int .i64 0) (v5 := .string ⟨#[]⟩) (v6 := .slice none 0 0) (v7 := .slice none 0 0) Z1.out)
    have HB6 := Lib.hid (below8 ZB.out (Nat.le_succ w.heap.size) (.int .i64 1) (.string s) (.slice none 0 0) (.int .i64 0) (.int .i64 0) (.string ⟨#[]⟩) (.slice none 0 0) (.slice none 0 0))
    have HE : Hid (exprT (.mk 4 i s l) = .mk 1 s [] PT0 []) := Lib.hid (by unfold exprT; simp)
    go_wp2
    refine bodyPost_ret (results_cell_row (P := Tryz.prog) rfl _ _ (w.heap.size + 1) 28 _ (0, 0) _ rfl HZ5.out Tryz.underlying28 rfl (by kernel_rfl)) rfl ⟨⟨.slice none 0 0, .slice none 0 0, .slice none 0 0, by rw [HE.out]; rfl, by rw [HE.out]; exact leaf_in (by constructor <;> decide) HSS.out⟩, HB6.out⟩
  have hkb : (k == 4) = false := by simpa using hk
  have HBAD : Hid (∀ W : World, InF W (fun b => S b ∨ w.heap.size ≤ b) badE (.slice none 0 0) (.slice none 0 0) (.slice none 0 0)) := Lib.hid fun W => leaf_in (by constructor <;> decide) (by decide)
  by_cases h5 : k = 5 ∧ 2 ≤ l.length
  rotate_left
  · have HE : Hid (exprT (.mk k i s l) = badE) := Lib.hid (expr_bad hk h5)
    have HZ5 := Lib.hid (put8 (v0 := .int .i64 (-1)) (v1 := .string ⟨#[]⟩) (v2 := .slice none 0 0) (v3 := .int .i64 0) (v4 := .int .i64 0) (v5 := .string ⟨#[]⟩) (v6 := .slice none 0 0) (v7 := .slice none 0 0) Z1.out)
    have HB6 := Lib.hid (below8 ZB.out (Nat.le_succ w.heap.size) (.int .i64 (-1)) (.string ⟨#[]⟩) (.slice none 0 0) (.int .i64 0) (.int .i64 0) (.string ⟨#[]⟩) (.slice none 0 0) (.slice none 0 0))
    by_cases hk5 : k = 5
    · subst hk5
      have hll : decide ((1 : Int) < l.length) = false := by simp; omega
      clear h5 hk
      go_wp2
      refine bodyPost_ret (results_cell_row (P := Tryz.prog) rfl _ _ (w.heap.size + 1) 28 _ (0, 0) _ rfl HZ5.out Tryz.underlying28 rfl (by kernel_rfl)) rfl ⟨⟨.slice none 0 0, .slice none 0 0, .slice none 0 0, by rw [HE.out]; rfl, by rw [HE.out]; exact HBAD.out _⟩, HB6.out⟩
    · have hk5b : (k == 5) = false := by simpa using hk5
      clear h5 hk
      go_wp2
      refine bodyPost_ret (results_cell_row (P := Tryz.prog) rfl _ _ (w.heap.size + 1) 28 _ (0, 0) _ rfl HZ5.out Tryz.underlying28 rfl (by kernel_rfl)) rfl ⟨⟨.slice none 0 0, .slice none 0 0, .slice none 0 0, by rw [HE.out]; rfl, by rw [HE.out]; exact HBAD.out _⟩, HB6.out⟩
  obtain ⟨rfl, h2⟩ := h5
  obtain ⟨x, y, r, rfl⟩ : ∃ x y r, l = x :: y :: r := two_more (by omega)
  obtain ⟨b, o, rfl, hsb, _⟩ := HR.out.resolve_left (fun h => by cases h)
  have i0 := insItem HV.out.2.2.2 0 (by simp)
  have i1 := insItem HV.out.2.2.2 1 (by simp)
  simp only [List.getElem_cons_zero, List.getElem_cons_succ, Nat.zero_mul, Nat.add_zero, Nat.one_mul] at i0 i1
  obtain ⟨xk, xi, xs, xl⟩ := x
  obtain ⟨yk, yi, ys, yl⟩ := y
  rw [inD_mk] at i0 i1
  obtain ⟨hxk, hxi, hxs, d0, d1, d2, vx, d3, hvx⟩ := i0
  obtain ⟨hyk, hyi, hys, e0, e1, e2, vy, e3, hvy⟩ := i1
  have HVX := Lib.hid hvx
  have HVY := Lib.hid hvy
  have HXK := Lib.hid (And.intro hxk (And.intro hxi hxs))
  have HYK := Lib.hid (And.intro hyk (And.intro hyi hys))
  obtain ⟨ax, cx, rfl, _⟩ := hvx
  obtain ⟨ay, cy, rfl, hly, hmy, _, hry⟩ := hvy
  unfold maxLen at hmy
  have HRY := Lib.hid hry
  have HCB : Hid (∀ W, Below w.heap.size w W → W.cell? ⟨b, o, none⟩ = some (.int .i64 xk) ∧ W.cell? ⟨b, o + 1, none⟩ = some (.int .i64 xi) ∧ W.cell? ⟨b, o + 2, none⟩ = some (.string xs) ∧ W.cell? ⟨b, o + 3, none⟩ = some (.slice ax xl.length cx) ∧ W.cell? ⟨b, o + 4, none⟩ = some (.int .i64 yk) ∧ W.cell? ⟨b, o + 4 + 1, none⟩ = some (.int .i64 yi) ∧ W.cell? ⟨b, o + 4 + 2, none⟩ = some (.string ys) ∧ W.cell? ⟨b, o + 4 + 3, none⟩ = some (.slice ay yl.length cy)) := Lib.hid fun W hW =>
    ⟨cell_below hW d0, cell_below hW d1, cell_below hW d2, cell_below hW d3, cell_below hW e0, cell_below hW e1, cell_below hW e2, cell_below hW e3⟩
  have HNUM : Hid ((∀ t ∈ yl, numT t < numT (.mk 5 i s (.mk xk xi xs xl :: .mk yk yi ys yl :: r))) ∧ (∀ t ∈ r, numT t < numT (.mk 5 i s (.mk xk xi xs xl :: .mk yk yi ys yl :: r))) ∧ numT (.mk yk yi ys yl) < numT (.mk 5 i s (.mk xk xi xs xl :: .mk yk yi ys yl :: r)) ∧ yl.length + r.length + 1 ≤ 100000) := Lib.hid (by
    have hz := HSZ.out
    simp only [numT, numsT] at hz ⊢
    refine ⟨fun t ht => by have := nums_mem ht; omega, fun t ht => by have := nums_mem ht; omega, by omega, ?_⟩
    have := len_nums yl
    have := len_nums r
    omega)
  have HTN : Hid ((PT.mk xk xi xs xl :: PT.mk yk yi ys yl :: r).length = r.length + 2) := Lib.hid (by simp)
  have HVI : Hid (∀ W, Below w.heap.size w W → InS W S (.mk yk yi ys yl :: r) (.slice (some ⟨b, o + 4, none⟩) ((PT.mk xk xi xs xl :: PT.mk yk yi ys yl :: r).length - 1) (c - 1))) := Lib.hid fun W hW => insBelow (ins_tail HV.out.2.2.2) hW
  generalize (PT.mk xk xi xs xl :: PT.mk yk yi ys yl :: r).length = tn at *
  have h1i : (1 : Int) < tn := by omega
  have h1j : decide ((1 : Int) < tn) = true := by simp; omega
  have hc1 : ¬ c = 1 := by omega
  have h1k : (1 : Int) ≤ tn := by omega
  have htc : (tn : Int) ≤ c := by omega
  have h0i : (0 : Int) < tn := by omega
  have h0t : 0 < tn := by omega
  clear hry d0 d1 d2 d3 e0 e1 e2 e3 hxk hxi hxs hyk hyi hys t0 t1 t2 t3 t4 t5 t6 t7 g0 g1 g2 g3 g4 g5 g6 g7 hk hkb
  go_wp2
  go_loopw [3, 4] (fun v3 v4 wr => ∃ j : Nat, j ≤ 11 ∧ v4 = .int .i64 j ∧ v3 = .int .i64 (kdn (.mk xk xi xs xl) j) ∧ Below w0.heap.size w0 wr) (fun _ i _ => 11 - (intOf i).toNat)
  case atStart => exact ⟨0, Nat.zero_le _, rfl, rfl, Below.refl _ _⟩
  case round =>
  obtain ⟨j, hj, rfl, rfl, hb⟩ := hrel
  have HB := Lib.hid hb
  have HBW := Lib.hid (ZB.out.trans (hb.mono ZB.out.size))
  have hwr : w.heap.size + 2 ≤ wr.heap.size := by have := hb.size; have := HS0.out; omega
  clear x0 x1 x2 x3 hb
  by_cases hlt : j < 11
  · have HKS : Hid (kdn (.mk xk xi xs xl) (j + 1) = if j ≠ 1 ∧ sameB (.mk xk xi xs xl) (symT (wordS (j : Int))) = true then (j : Int) else kdn (.mk xk xi xs xl) j) := Lib.hid rfl
    generalize kdn (.mk xk xi xs xl) j = kj at *
    by_cases h1 : j = 1
    · subst h1
      have HK1 : Hid (kdn (.mk xk xi xs xl) 2 = kj) := Lib.hid (HKS.out.trans (if_neg (fun h => h.1 rfl)))
      have hj3 : ((1 : Int) != 1) = false := by decide
      clear HKS
      go_upto_region 8 with fail
      go_quiet (fail)
      go_wp2
      go_roundw
      case rel => exact ⟨2, by omega, by go_num, by rw [HK1.out], HB.out.trans (Dat.below_drewN (Below.refl _ _) _)⟩
      case measure => simp [intOf]
    · have HCC : Hid (∀ W, Below wr.heap.size wr W → W.cell? ⟨w.heap.size, 3, none⟩ = some (.slice (some ⟨b, o, none⟩) tn c) ∧ W.cell? ⟨b, o, none⟩ = some (.int .i64 xk) ∧ W.cell? ⟨b, o + 1, none⟩ = some (.int .i64 xi) ∧ W.cell? ⟨b, o + 2, none⟩ = some (.string xs) ∧ W.cell? ⟨b, o + 3, none⟩ = some (.slice ax xl.length cx)) := Lib.hid fun W hW => by
        obtain ⟨a0, a1, a2, a3, _⟩ := HCB.out W (HBW.out.trans (hW.mono HBW.out.size))
        refine ⟨?_, a0, a1, a2, a3⟩
        rw [Lib.cell_of_heap ((hW.block w.heap.size (by omega)).trans ((HB.out.block w.heap.size (lt_of_block Z0.out)).trans Z0.out))]; rfl
      have KW := Lib.hid (fun W => rwordK (j : Int) ⟨by omega, by omega, by omega⟩ W)
      have KSY := Lib.hid (fun W => rsym_any (wordS (j : Int)) W)
      have KSM : Hid (∀ W, Below wr.heap.size wr W → Calls Tryz.prog 19 #[.agg #[.int .i64 xk, .int .i64 xi, .string xs, .slice ax xl.length cx], .agg #[.int .i64 4, .int .i64 0, .string (wordS (j : Int)), .slice none 0 0]] W fun e w' => e = .returned (.bool (sameB (.mk xk xi xs xl) (symT (wordS (j : Int))))) ∧ Below W.heap.size W w') := Lib.hid fun W hW =>
        Dat.same_any (.mk xk xi xs xl) (symT (wordS (j : Int))) W W.heap.size (.slice ax xl.length cx) (.slice none 0 0) (InV.rep (S := S) ⟨HXK.out.1, HXK.out.2.1, HXK.out.2.2, insBelow HVX.out (HBW.out.trans (hW.mono HBW.out.size))⟩) (InV.rep (S := S) ⟨by constructor <;> decide, by constructor <;> decide, word_size (j : Int), none, 0, rfl, Nat.le_refl _, Nat.zero_le _, fun _ => rfl, .inl rfl⟩) (Nat.le_refl _)
      have HK1 : Hid (kdn (.mk xk xi xs xl) (j + 1) = if sameB (.mk xk xi xs xl) (symT (wordS (j : Int))) = true then (j : Int) else kj) := Lib.hid (by
        rw [HKS.out]
        simp [h1])
      generalize sameB (.mk xk xi xs xl) (symT (wordS (j : Int))) = eqb at *
      have hj1 : ¬ (j : Int) = 1 := by omega
      have hj2 : ((j : Int) == 1) = false := by simp; omega
      have hj3 : ((j : Int) != 1) = true := by simp; omega
      clear HKS
      go_upto_region 8 with fail
      refine Rg.wp_region_guard 12 (by kernel_rfl) wr.heap.size (Nat.le_refl _) (RWd w (.slice (some ⟨b, o, none⟩) tn c) (.agg #[.int .i64 xk, .int .i64 xi, .string xs, .slice ax xl.length cx]) b o j eqb) RWd.mono (by kernel_rfl) ?_ ?_
      · intro i9 o9 d hiL hi hd vs W hb hR
        obtain ⟨x3, a0, a1, a2, a3⟩ := HCC.out W hb
        have HR := Lib.hid hR
        clear hR
        rcases i9 with _ | _ | _ | _ | _ | _ | _ | _ | _ | _ | _ | _ | i9
        all_goals simp only [List.getElem?_cons_zero, List.getElem?_cons_succ, List.getElem?_nil, Option.some.injEq, reduceCtorEq] at hi
        all_goals try subst hi
        all_goals try simp only [Option.some.injEq] at hd
        all_goals try subst hd
        all_goals try simp only [List.take_succ_cons, List.take_zero, Rg.putAll, Act.put, List.setIfInBounds_toArray, List.set_cons_zero, List.set_cons_succ, Nat.zero_add, Nat.reduceAdd]
        · refine Rg.wpOp_go rfl rfl ?_
          go_simp
          exact ⟨_, rfl, rfl, Below.refl _ _⟩
        · rw [show vs 0 = _ from (HR.out 0 (by decide) (by kernel_rfl))]
          refine Rg.wpOp_go rfl rfl ?_
          go_simp
          exact ⟨_, rfl, rfl, Below.refl _ _⟩
        · rw [show vs 1 = _ from (HR.out 1 (by decide) (by kernel_rfl))]
          refine Rg.wpOp_go rfl rfl ?_
          go_simp
          exact ⟨_, rfl, rfl, Below.refl _ _⟩
        · rw [show vs 2 = _ from (HR.out 2 (by decide) (by kernel_rfl))]
          refine Rg.wpOp_go rfl rfl ?_
          go_simp
          exact ⟨_, rfl, rfl, Below.refl _ _⟩
        · rw [show vs 2 = _ from (HR.out 2 (by decide) (by kernel_rfl))]
          rw [show vs 3 = _ from (HR.out 3 (by decide) (by kernel_rfl))]
          refine Rg.wpOp_go rfl rfl ?_
          go_simp
          exact ⟨_, rfl, rfl, Below.refl _ _⟩
        · rw [show vs 2 = _ from (HR.out 2 (by decide) (by kernel_rfl))]
          rw [show vs 4 = _ from (HR.out 4 (by decide) (by kernel_rfl))]
          refine Rg.wpOp_go rfl rfl ?_
          go_simp
          exact ⟨_, rfl, rfl, Below.refl _ _⟩
        · rw [show vs 2 = _ from (HR.out 2 (by decide) (by kernel_rfl))]
          rw [show vs 5 = _ from (HR.out 5 (by decide) (by kernel_rfl))]
          refine Rg.wpOp_go rfl rfl ?_
          go_simp
          exact ⟨_, rfl, rfl, Below.refl _ _⟩
        · rw [show vs 2 = _ from (HR.out 2 (by decide) (by kernel_rfl))]
          refine Rg.wpOp_go rfl rfl ?_
          go_simp
          exact ⟨_, rfl, rfl, Below.refl _ _⟩
        · rw [show vs 2 = _ from (HR.out 2 (by decide) (by kernel_rfl))]
          rw [show vs 7 = _ from (HR.out 7 (by decide) (by kernel_rfl))]
          refine Rg.wpOp_go rfl rfl ?_
          go_simp
          refine (KW.out _).mono ?_
          rintro e w7 ⟨rfl, hb7⟩
          exact ⟨_, rfl, rfl, hb7⟩
        · rw [show vs 2 = _ from (HR.out 2 (by decide) (by kernel_rfl))]
          rw [show vs 8 = _ from (HR.out 8 (by decide) (by kernel_rfl))]
          refine Rg.wpOp_go rfl rfl ?_
          go_simp
          refine (KSY.out _).mono ?_
          rintro e w7 ⟨rfl, hb7⟩
          exact ⟨_, rfl, rfl, hb7⟩
        · rw [show vs 2 = _ from (HR.out 2 (by decide) (by kernel_rfl))]
          rw [show vs 6 = _ from (HR.out 6 (by decide) (by kernel_rfl))]
          rw [show vs 9 = _ from (HR.out 9 (by decide) (by kernel_rfl))]
          refine Rg.wpOp_go rfl rfl ?_
          go_simp
          refine (KSM.out _ hb).mono ?_
          rintro e w7 ⟨rfl, hb7⟩
          exact ⟨_, rfl, rfl, hb7⟩
        · rw [show vs 2 = _ from (HR.out 2 (by decide) (by kernel_rfl))]
          rw [show vs 10 = _ from (HR.out 10 (by decide) (by kernel_rfl))]
          refine Rg.wpOp_go rfl rfl ?_
          go_simp
          exact ⟨_, rfl, rfl, Below.refl _ _⟩
      · intro vs W hBW hR
        simp only [List.take_succ_cons, List.take_zero, List.drop_succ_cons, List.drop_zero, Rg.putAll, Act.put, List.setIfInBounds_toArray, List.set_cons_zero, List.set_cons_succ, Nat.zero_add, Nat.reduceAdd]
        rw [show vs 11 = _ from hR 11 (by decide)]
        have HB2 := Lib.hid (HB.out.trans (hBW.mono HB.out.size))
        clear hR hBW
        cases eqb
        case false =>
          have HK2 : Hid (kdn (.mk xk xi xs xl) (j + 1) = kj) := Lib.hid (by rw [HK1.out]; simp)
          go_wp2
          go_roundw
          case rel => exact ⟨j + 1, by omega, by go_num, by rw [HK2.out], HB2.out⟩
          case measure => simp [intOf]; omega
        case true =>
          have HK2 : Hid (kdn (.mk xk xi xs xl) (j + 1) = (j : Int)) := Lib.hid (by rw [HK1.out]; simp)
          go_wp2
          go_roundw
          case rel => exact ⟨j + 1, by omega, by go_num, by rw [HK2.out], HB2.out⟩
          case measure => simp [intOf]; omega
  have hj11 : kdn (.mk xk xi xs xl) j = kdn (.mk xk xi xs xl) 11 := by rw [show j = 11 by omega]
  rw [hj11]
  clear hj11
  have hjn : ¬ (j : Int) < 11 := by omega
  have hjd : decide ((j : Int) < 11) = false := decide_eq_false hjn
  obtain ⟨wm, hwm⟩ : ∃ wm, wm = wr := ⟨_, rfl⟩
  subst hwm
  rcases kdn_all (.mk xk xi xs xl) with ⟨hk11, hkn⟩ | ⟨hkl, hkd1, hkn⟩
  · rw [hkn]
    have HE : Hid (exprT (.mk 5 i s (.mk xk xi xs xl :: .mk yk yi ys yl :: r)) = badE) := Lib.hid (by rw [exprT]; simp [hk11])
    have Z1m : wm.heap[w.heap.size + 1]? = some (.cells #[.int .i64 0, .string ⟨#[]⟩, .slice none 0 0, .int .i64 0, .int .i64 0, .string ⟨#[]⟩, .slice none 0 0, .slice none 0 0] 28) := (HB.out.block (w.heap.size + 1) (lt_of_block Z1.out)).trans Z1.out
    obtain ⟨t0, t1, t2, t3, t4, t5, t6, t7⟩ := look8 Z1m
    obtain ⟨g0, g1, g2, g3, g4, g5, g6, g7⟩ := free8 Z1m
    have HZ5 := Lib.hid (put8 (v0 := .int .i64 (-1)) (v1 := .string ⟨#[]⟩) (v2 := .slice none 0 0) (v3 := .int .i64 0) (v4 := .int .i64 0) (v5 := .string ⟨#[]⟩) (v6 := .slice none 0 0) (v7 := .slice none 0 0) Z1m)
    have HB6 := Lib.hid (below8 HBW.out (Nat.le_succ w.heap.size) (.int .i64 (-1)) (.string ⟨#[]⟩) (.slice none 0 0) (.int .i64 0) (.int .i64 0) (.string ⟨#[]⟩) (.slice none 0 0) (.slice none 0 0))
    clear hk11 hkn Z1m
    go_wp2
    refine bodyPost_ret (results_cell_row (P := Tryz.prog) rfl _ _ (w.heap.size + 1) 28 _ (0, 0) _ rfl HZ5.out Tryz.underlying28 rfl (by kernel_rfl)) rfl ⟨⟨.slice none 0 0, .slice none 0 0, .slice none 0 0, by rw [HE.out]; rfl, by rw [HE.out]; exact HBAD.out _⟩, HB6.out⟩
  rw [hkn]
  generalize hkd : kindD (.mk xk xi xs xl) = kd at *
  have HKD := Lib.hid hkd
  have hkz0 : 0 ≤ (kd : Int) := by omega
  have hkzl : (kd : Int) < 11 := by omega
  have hkz1 : (kd : Int) ≠ 1 := by omega
  generalize hkz : (kd : Int) = kz at *
  have HKZ := Lib.hid hkz
  have hkn0 : ¬ kz < 0 := by omega
  clear hkn hkd hkl hkd1 hkz
  have hRX0 : RX w wm.heap.size (wm.alloc (.cells #[.int .i64 kz, .string ⟨#[]⟩, .slice none 0 0, .int .i64 0, .int .i64 0, .string ⟨#[]⟩, .slice none 0 0, .slice none 0 0] 28)) (.cells #[.int .i64 5, .int .i64 i, .string s, .slice (some ⟨b, o, none⟩) tn c] 25) (.cells #[.int .i64 kz, .string ⟨#[]⟩, .slice none 0 0, .int .i64 0, .int .i64 0, .string ⟨#[]⟩, .slice none 0 0, .slice none 0 0] 28) := ⟨bel_alloc' HBW.out _, blk_skip' ((HB.out.block w.heap.size (lt_of_block Z0.out)).trans Z0.out), blk_skip' ((HB.out.block (w.heap.size + 1) (lt_of_block Z1.out)).trans Z1.out), heap_alloc_new wm _, hwr⟩
  have HRX0 := Lib.hid hRX0
  clear hRX0
  go_upto_region 12 with fail
  go_upto_region 13 with fail
  generalize wm.alloc (.cells #[.int .i64 kz, .string ⟨#[]⟩, .slice none 0 0, .int .i64 0, .int .i64 0, .string ⟨#[]⟩, .slice none 0 0, .slice none 0 0] 28) = w1 at *
  generalize wm.heap.size = q at *
  have x3 : w1.cell? ⟨w.heap.size, 3, none⟩ = some (.slice (some ⟨b, o, none⟩) tn c) := by rw [Lib.cell_of_heap HRX0.out.db]; rfl
  go_upto_block 2 with fail
  have hn1 : tn - 1 = r.length + 1 := by have := HTN.out; omega
  have hn1c : tn - 1 ≤ c - 1 := by omega
  generalize tn - 1 = n1 at *
  generalize c - 1 = c1 at *
  have HN1 := Lib.hid hn1
  have HVI2 := HVI
  have HSQ : Hid (∀ b, S b → b < q) := Lib.hid fun b hb => by have := HSL.out b hb; omega
  have h0n : (0 : Int) < n1 := by omega
  have h0m : 0 < n1 := by omega
  have h1n : (1 : Int) ≤ n1 := by omega
  have hnc : (n1 : Int) ≤ c1 := by omega
  have HN1C := Lib.hid hn1c
  have HYK2 := Lib.hid HYK.out.2.2
  clear hn1 x3 hc1 h1i h1j h1k htc h0i h0t HVI
  go_cut [6] (fun v6 wx => ∃ (nm : ByteArray) (ns : List ByteArray) (l0 : List PE) (m : List PT) (vN vK : Value) (la : Option Addr) (lc : Nat), v6 = .slice la m.length lc ∧ InS wx S m (.slice la m.length lc) ∧ RX w q wx (.cells #[.int .i64 5, .int .i64 i, .string s, .slice (some ⟨b, o, none⟩) tn c] 25) (.cells #[.int .i64 kz, .string nm, vN, .int .i64 0, .int .i64 0, .string ⟨#[]⟩, .slice none 0 0, vK] 28) ∧ Rows2 S q ns l0 vN vK wx ∧ exprT (.mk 5 i s (.mk xk xi xs xl :: .mk yk yi ys yl :: r)) = .mk kz nm ns PT0 (l0 ++ exprTs m) ∧ nm.size ≤ maxLen ∧ l0.length + m.length ≤ 100000 ∧ (∀ t ∈ m, numT t < numT (.mk 5 i s (.mk xk xi xs xl :: .mk yk yi ys yl :: r))) ∧ ok64 kz)
  case first =>
    obtain ⟨d0, d1, d2, d3, e0, e1, e2, e3⟩ := HCB.out w1 HRX0.out.bel
    have hkk : kz = 0 ∨ kz = 2 ∨ kz = 3 ∨ kz = 4 ∨ kz = 5 ∨ kz = 6 ∨ kz = 7 ∨ kz = 8 ∨ kz = 9 ∨ kz = 10 := by omega
    obtain ⟨u0, u1, u2, u3, u4, u5, u6, u7⟩ := look8 HRX0.out.qb
    obtain ⟨g0, g1, g2, g3, g4, g5, g6, g7⟩ := free8 HRX0.out.qb
    clear hkz0 hkzl hkz1 hkn0
    obtain rfl | rfl | rfl | rfl | rfl | rfl | rfl | hkk := hkk
    · have HE : Hid (exprT (.mk 5 i s (.mk xk xi xs xl :: .mk yk yi ys yl :: r)) = .mk 0 ⟨#[]⟩ [] (.mk yk yi ys yl) []) := Lib.hid (by rw [exprT]; simp [show kindD (.mk xk xi xs xl) = 0 by rw [HKD.out]; have := HKZ.out; omega])
      go_upto_region 17 with fail
      have HRX2 : Hid (RX w q ((((w1.setCell ⟨q, 3, none⟩ (.int .i64 yk)).setCell ⟨q, 4, none⟩ (.int .i64 yi)).setCell ⟨q, 5, none⟩ (.string ys)).setCell ⟨q, 6, none⟩ (.slice ay yl.length cy)) (.cells #[.int .i64 5, .int .i64 i, .string s, .slice (some ⟨b, o, none⟩) tn c] 25) (.cells #[.int .i64 0, .string ⟨#[]⟩, .slice none 0 0, .int .i64 yk, .int .i64 yi, .string ys, .slice ay yl.length cy, .slice none 0 0] 28)) := Lib.hid ((((HRX0.out.put 3 (.int .i64 yk)).put 4 (.int .i64 yi)).put 5 (.string ys)).put 6 (.slice ay yl.length cy))
      generalize (((w1.setCell ⟨q, 3, none⟩ (.int .i64 yk)).setCell ⟨q, 4, none⟩ (.int .i64 yi)).setCell ⟨q, 5, none⟩ (.string ys)).setCell ⟨q, 6, none⟩ (.slice ay yl.length cy) = w2 at *
      clear u0 u1 u2 u3 u4 u5 u6 u7 g0 g1 g2 g3 g4 g5 g6 g7 d0 d1 d2 d3 e0 e1 e2 e3
      obtain ⟨u0, u1, u2, u3, u4, u5, u6, u7⟩ := look8 HRX2.out.qb
      obtain ⟨t0, t1, t2, t3, t4, t5, t6, t7⟩ := look8 HRX2.out.zb
      obtain ⟨g0, g1, g2, g3, g4, g5, g6, g7⟩ := free8 HRX2.out.zb
      have HZ5 := Lib.hid (put8 (v0 := .int .i64 0) (v1 := .string ⟨#[]⟩) (v2 := .slice none 0 0) (v3 := .int .i64 yk) (v4 := .int .i64 yi) (v5 := .string ys) (v6 := .slice ay yl.length cy) (v7 := .slice none 0 0) HRX2.out.zb)
      have HB6 := Lib.hid (below8 HRX2.out.bel (Nat.le_succ w.heap.size) (.int .i64 0) (.string ⟨#[]⟩) (.slice none 0 0) (.int .i64 yk) (.int .i64 yi) (.string ys) (.slice ay yl.length cy) (.slice none 0 0))
      go_wp2
      refine bodyPost_ret (results_cell_row (P := Tryz.prog) rfl _ _ (w.heap.size + 1) 28 _ (0, 0) _ rfl HZ5.out Tryz.underlying28 rfl (by kernel_rfl)) rfl ⟨⟨.slice none 0 0, .slice ay yl.length cy, .slice none 0 0, by rw [HE.out]; rfl, by rw [HE.out]; exact ⟨⟨by constructor <;> decide, by decide, inN_nil⟩, ⟨HYK.out.1, HYK.out.2.1, HYK.out.2.2, insTo (insBelow HVY.out HB6.out) fun b hb _ => .inl hb⟩, inK_nil⟩⟩, HB6.out⟩
    · have HE : Hid (exprT (.mk 5 i s (.mk xk xi xs xl :: .mk yk yi ys yl :: r)) = .mk 2 ys [] PT0 ([] ++ exprTs r)) := Lib.hid (by rw [exprT]; simp [show kindD (.mk xk xi xs xl) = 2 by rw [HKD.out]; have := HKZ.out; omega])
      go_upto_region 21 with fail
      have HRX2 : Hid (RX w q (w1.setCell ⟨q, 1, none⟩ (.string ys)) (.cells #[.int .i64 5, .int .i64 i, .string s, .slice (some ⟨b, o, none⟩) tn c] 25) (.cells #[.int .i64 2, .string ys, .slice none 0 0, .int .i64 0, .int .i64 0, .string ⟨#[]⟩, .slice none 0 0, .slice none 0 0] 28)) := Lib.hid (HRX0.out.put 1 (.string ys))
      generalize w1.setCell ⟨q, 1, none⟩ (.string ys) = w2 at *
      clear u0 u1 u2 u3 u4 u5 u6 u7 g0 g1 g2 g3 g4 g5 g6 g7 d0 d1 d2 d3 e0 e1 e2 e3
      by_cases hc2 : c1 = 1
      · have HR0 : Hid (r.length = 0) := Lib.hid (by have := HN1.out; omega)
        obtain rfl : n1 = 1 := by have := HN1.out; omega
        subst hc2
        have HIN : Hid (∀ W, InS W S r (.slice (some ⟨b, o + 4, none⟩) 0 0)) := Lib.hid fun W => by
          obtain rfl := List.eq_nil_of_length_eq_zero HR0.out
          exact ⟨_, 0, rfl, Nat.le_refl _, Nat.zero_le _, (fun h => by cases h), .inl rfl⟩
        go_wp2
        go_meet
        exact ⟨ys, [], [], r, .slice none 0 0, .slice none 0 0, _, _, by rw [HR0.out], by rw [HR0.out]; exact HIN.out _, HRX2.out, Rows2.nil _ _ _, HE.out, HYK2.out, by have := HNUM.out.2.2.2; simp only [List.length_nil]; omega, HNUM.out.2.1, by constructor <;> decide⟩
      · have HTR : Hid (r.length = n1 - 1) := Lib.hid (by have := HN1.out; omega)
        have HIN : Hid (∀ W, Below w.heap.size w W → InS W S r (.slice (some ⟨b, o + 4 + 4, none⟩) (n1 - 1) (c1 - 1))) := Lib.hid fun W hW => ins_tail (HVI2.out W hW)
        go_wp2
        go_meet
        exact ⟨ys, [], [], r, .slice none 0 0, .slice none 0 0, _, _, by rw [HTR.out], by rw [HTR.out]; exact HIN.out _ (HRX2.out).bel, HRX2.out, Rows2.nil _ _ _, HE.out, HYK2.out, by have := HNUM.out.2.2.2; simp only [List.length_nil]; omega, HNUM.out.2.1, by constructor <;> decide⟩
    · have HE : Hid (exprT (.mk 5 i s (.mk xk xi xs xl :: .mk yk yi ys yl :: r)) = .mk 3 ⟨#[]⟩ [] PT0 ([] ++ exprTs (.mk yk yi ys yl :: r))) := Lib.hid (by rw [exprT, exprTs]; simp [show kindD (.mk xk xi xs xl) = 3 by rw [HKD.out]; have := HKZ.out; omega])
      have HLN : Hid ((PT.mk yk yi ys yl :: r).length = n1) := Lib.hid (by rw [HN1.out, List.length_cons])
      go_wp2
      go_meet
      exact ⟨⟨#[]⟩, [], [], .mk yk yi ys yl :: r, .slice none 0 0, .slice none 0 0, _, _, by rw [HLN.out], by rw [HLN.out]; exact HVI2.out _ HRX0.out.bel, HRX0.out, Rows2.nil _ _ _, HE.out, by decide, by have := HNUM.out.2.2.2; have := HN1.out; have := HLN.out; simp only [List.length_nil]; omega, fun t ht => (List.mem_cons.1 ht).elim (fun e => e ▸ HNUM.out.2.2.1) (HNUM.out.2.1 t), by constructor <;> decide⟩
    · have HE : Hid (exprT (.mk 5 i s (.mk xk xi xs xl :: .mk yk yi ys yl :: r)) = .mk 4 ⟨#[]⟩ [] PT0 ([] ++ exprTs (.mk yk yi ys yl :: r))) := Lib.hid (by rw [exprT, exprTs]; simp [show kindD (.mk xk xi xs xl) = 4 by rw [HKD.out]; have := HKZ.out; omega])
      have HLN : Hid ((PT.mk yk yi ys yl :: r).length = n1) := Lib.hid (by rw [HN1.out, List.length_cons])
      go_wp2
      go_meet
      exact ⟨⟨#[]⟩, [], [], .mk yk yi ys yl :: r, .slice none 0 0, .slice none 0 0, _, _, by rw [HLN.out], by rw [HLN.out]; exact HVI2.out _ HRX0.out.bel, HRX0.out, Rows2.nil _ _ _, HE.out, by decide, by have := HNUM.out.2.2.2; have := HN1.out; have := HLN.out; simp only [List.length_nil]; omega, fun t ht => (List.mem_cons.1 ht).elim (fun e => e ▸ HNUM.out.2.2.1) (HNUM.out.2.1 t), by constructor <;> decide⟩
    · have HE : Hid (exprT (.mk 5 i s (.mk xk xi xs xl :: .mk yk yi ys yl :: r)) = .mk 5 ⟨#[]⟩ (yl.map txt) PT0 ([] ++ exprTs r)) := Lib.hid (by rw [exprT]; simp [show kindD (.mk xk xi xs xl) = 5 by rw [HKD.out]; have := HKZ.out; omega])
      clear u0 u1 u2 u3 u4 u5 u6 u7 g0 g1 g2 g3 g4 g5 g6 g7 d0 d1 d2 d3 e0 e1 e2
      go_wp2
      go_loopw [7] (fun v7 wr => ∃ (j : Nat) (vN : Value), j ≤ yl.length ∧ v7 = .int .i64 j ∧ RX w q wr (.cells #[.int .i64 5, .int .i64 i, .string s, .slice (some ⟨b, o, none⟩) tn c] 25) (.cells #[.int .i64 5, .string ⟨#[]⟩, vN, .int .i64 0, .int .i64 0, .string ⟨#[]⟩, .slice none 0 0, .slice none 0 0] 28) ∧ Rows2 S q ((yl.take j).map txt) [] vN (.slice none 0 0) wr) (fun i _ => yl.length - (intOf i).toNat)
      case atStart => exact ⟨0, .slice none 0 0, Nat.zero_le _, rfl, HRX0.out, Rows2.nil _ _ _⟩
      case round =>
        clear e3
        obtain ⟨j, vN, hj, rfl, hrx, hrw⟩ := hrel
        have HRX := Lib.hid hrx
        have HRW := Lib.hid hrw
        obtain ⟨_, _, _, _, _, _, _, e3⟩ := HCB.out wr hrx.bel
        clear hrx hrw
        by_cases hlt : j < yl.length
        · obtain ⟨yb, yo, rfl, hsy, _⟩ := HRY.out.resolve_left (by rintro rfl; cases hlt)
          have it := insItem HVY.out j hlt
          have HTS : Hid ((yl.take (j + 1)).map txt = (yl.take j).map txt ++ [txt yl[j]]) := Lib.hid (by rw [List.take_succ_eq_append_getElem hlt, List.map_append]; rfl)
          generalize yl[j] = t at *
          obtain ⟨uk, ui, us, ul⟩ := t
          rw [inD_mk] at it
          obtain ⟨_, _, hus, _, _, c2, _⟩ := it
          have HUS := Lib.hid hus
          have HCC : Hid (∀ W, Below wr.heap.size wr W → W.cell? ⟨q, 2, none⟩ = some vN ∧ W.cell? ⟨b, o + 4 + 3, none⟩ = some (.slice (some ⟨yb, yo, none⟩) yl.length cy) ∧ W.cell? ⟨yb, yo + j * 4 + 2, none⟩ = some (.string us)) := Lib.hid fun W hW =>
            ⟨by rw [Lib.cell_of_heap (HRX.out.call hW).qb]; rfl, cell_below hW e3, cell_below (HRX.out.call hW).bel c2⟩
          have hlen : ((yl.take j).map txt).length + [us].length ≤ 100000 := by
            have := HNUM.out.2.2.2
            simp only [List.length_map, List.length_take, List.length_cons, List.length_nil]
            omega
          have HLEN := Lib.hid hlen
          generalize hNS : (yl.take j).map txt = nsj at *
          clear c2 hus hlen hNS
          go_upto_region 26 with fail
          clear e3
          refine Rg.wp_region_guard 11 (by kernel_rfl) wr.heap.size (Nat.le_refl _) (R26 q vN (.slice (some ⟨b, o + 4, none⟩) n1 c1) (.slice (some ⟨yb, yo, none⟩) yl.length cy) b (o + 4) yb yo j us) R26.mono (by kernel_rfl) ?_ ?_
          · intro i9 o9 d hiL hi hd vs W hb hR
            obtain ⟨q2, e3, c2⟩ := HCC.out W hb
            have HR := Lib.hid hR
            clear hR
            rcases i9 with _ | _ | _ | _ | _ | _ | _ | _ | _ | _ | _ | i9
            all_goals first | (exfalso; clear hi hd; omega) | skip
            all_goals simp only [List.getElem?_cons_zero, List.getElem?_cons_succ, Option.some.injEq] at hi
            all_goals try subst hi
            all_goals try simp only [Option.some.injEq] at hd
            all_goals try subst hd
            all_goals try simp only [List.take_succ_cons, List.take_zero, Rg.putAll, Act.put, List.setIfInBounds_toArray, List.set_cons_zero, List.set_cons_succ, Nat.zero_add, Nat.reduceAdd]
            · refine Rg.wpOp_go rfl rfl ?_
              go_simp
              exact ⟨_, rfl, rfl, Below.refl _ _⟩
            · rw [show vs 0 = _ from (HR.out 0 (by decide) (by kernel_rfl))]
              refine Rg.wpOp_go rfl rfl ?_
              go_simp
              exact ⟨_, rfl, rfl, Below.refl _ _⟩
            · refine Rg.wpOp_go rfl rfl ?_
              go_simp
              exact ⟨_, rfl, rfl, Below.refl _ _⟩
            · rw [show vs 2 = _ from (HR.out 2 (by decide) (by kernel_rfl))]
              refine Rg.wpOp_go rfl rfl ?_
              go_simp
              exact ⟨_, rfl, rfl, Below.refl _ _⟩
            · rw [show vs 3 = _ from (HR.out 3 (by decide) (by kernel_rfl))]
              refine Rg.wpOp_go rfl rfl ?_
              go_simp
              exact ⟨_, rfl, rfl, Below.refl _ _⟩
            · rw [show vs 4 = _ from (HR.out 4 (by decide) (by kernel_rfl))]
              refine Rg.wpOp_go rfl rfl ?_
              go_simp
              exact ⟨_, rfl, rfl, Below.refl _ _⟩
            · refine Rg.wpOp_go rfl rfl ?_
              go_simp
              exact ⟨_, rfl, rfl, Below.refl _ _⟩
            · rw [show vs 5 = _ from (HR.out 5 (by decide) (by kernel_rfl))]
              rw [show vs 6 = _ from (HR.out 6 (by decide) (by kernel_rfl))]
              refine Rg.wpOp_go rfl rfl ?_
              go_simp
              exact ⟨_, rfl, rfl, Below.refl _ _⟩
            · rw [show vs 7 = _ from (HR.out 7 (by decide) (by kernel_rfl))]
              refine Rg.wpOp_go rfl rfl ?_
              go_simp
              exact ⟨_, rfl, rfl, Below.refl _ _⟩
            · rw [show vs 8 = _ from (HR.out 8 (by decide) (by kernel_rfl))]
              refine Rg.wpOp_go rfl rfl ?_
              go_simp
              exact ⟨_, rfl, rfl, Below.refl _ _⟩
            · rw [show vs 9 = _ from (HR.out 9 (by decide) (by kernel_rfl))]
              refine Rg.wpOp_go rfl rfl ?_
              go_simp
              exact ⟨_, rfl, ⟨_, rfl, heap_alloc_new _ _⟩, (Below.refl _ _).alloc (Nat.le_refl _) _⟩
          · intro vs W hBW hR
            simp only [List.take_succ_cons, List.take_zero, List.drop_succ_cons, List.drop_zero, Rg.putAll, Act.put, List.setIfInBounds_toArray, List.set_cons_zero, List.set_cons_succ, Nat.zero_add, Nat.reduceAdd]
            obtain ⟨g, h10, hg⟩ : ∃ g, vs 10 = .slice (some ⟨g, 0, none⟩) 1 1 ∧ W.heap[g]? = some (.cells #[.string us] 9 (0, 0)) := hR 10 (by decide)
            rw [show vs 1 = _ from hR 1 (by decide), h10]
            have HRX2 := Lib.hid (HRX.out.call hBW)
            have HRW2 := Lib.hid (HRW.out.call hBW)
            have HG := Lib.hid hg
            have hCq : q + 1 ≤ W.heap.size := lt_of_block HRX2.out.qb
            clear hR hg h10 hBW
            go_wp2_with (at_builtin; refine wpList_append_ts rfl _ _ rfl (q + 1) nsj vN rfl HRW2.out.nrow (fun _ => True) [us] _ (inN_single HG.out HUS.out) rfl HLEN.out hCq ?_; intro v3 w3 ho3 hk3 ha3; go_must (have HRW4 := Lib.hid (HRW2.out.name ho3 hk3 ha3 (fun s h => by obtain rfl : s = us := (by simpa using h); exact HUS.out))); go_must (have HRX4 := Lib.hid (HRX2.out.kp hk3 (fun b e => (HRW2.out.nlt e).1))); go_must (have f2 : w3.frozen? ⟨q, 2, none⟩ = false := Lib.frozen_of_heap HRX4.out.qb 2); go_must (have q3 : w3.cell? ⟨q, 2, none⟩ = some vN := by (rw [Lib.cell_of_heap HRX4.out.qb]; rfl)); go_must (obtain ⟨av, cv, e3, _⟩ := ho3.slice); go_must (rw [List.length_append, List.length_cons, List.length_nil, Nat.zero_add] at e3); go_must (subst e3); go_must (clear ho3 hk3 ha3))
            go_wp2
            go_roundw
            case rel => exact ⟨j + 1, _, by omega, by go_num, HRX4.out.put 2 _, by rw [HTS.out]; exact HRW4.out.putq HSQ.out 2 _⟩
            case measure => simp [intOf]; omega
        · obtain rfl : j = yl.length := by omega
          rw [List.take_length] at HRW
          by_cases hc2 : c1 = 1
          · have HR0 : Hid (r.length = 0) := Lib.hid (by have := HN1.out; omega)
            obtain rfl : n1 = 1 := by have := HN1.out; omega
            subst hc2
            have HIN : Hid (∀ W, InS W S r (.slice (some ⟨b, o + 4, none⟩) 0 0)) := Lib.hid fun W => by
              obtain rfl := List.eq_nil_of_length_eq_zero HR0.out
              exact ⟨_, 0, rfl, Nat.le_refl _, Nat.zero_le _, (fun h => by cases h), .inl rfl⟩
            go_wp2
            go_meet
            exact ⟨⟨#[]⟩, yl.map txt, [], r, vN, .slice none 0 0, _, _, by rw [HR0.out], by rw [HR0.out]; exact HIN.out _, HRX.out, HRW.out, HE.out, by decide, by have := HNUM.out.2.2.2; simp only [List.length_nil]; omega, HNUM.out.2.1, by constructor <;> decide⟩
          · have HTR : Hid (r.length = n1 - 1) := Lib.hid (by have := HN1.out; omega)
            have HIN : Hid (∀ W, Below w.heap.size w W → InS W S r (.slice (some ⟨b, o + 4 + 4, none⟩) (n1 - 1) (c1 - 1))) := Lib.hid fun W hW => ins_tail (HVI2.out W hW)
            go_wp2
            go_meet
            exact ⟨⟨#[]⟩, yl.map txt, [], r, vN, .slice none 0 0, _, _, by rw [HTR.out], by rw [HTR.out]; exact HIN.out _ (HRX.out).bel, HRX.out, HRW.out, HE.out, by decide, by have := HNUM.out.2.2.2; simp only [List.length_nil]; omega, HNUM.out.2.1, by constructor <;> decide⟩
    · have HE : Hid (exprT (.mk 5 i s (.mk xk xi xs xl :: .mk yk yi ys yl :: r)) = .mk 6 ⟨#[]⟩ [] PT0 ([] ++ exprTs (.mk yk yi ys yl :: r))) := Lib.hid (by rw [exprT, exprTs]; simp [show kindD (.mk xk xi xs xl) = 6 by rw [HKD.out]; have := HKZ.out; omega])
      have HLN : Hid ((PT.mk yk yi ys yl :: r).length = n1) := Lib.hid (by rw [HN1.out, List.length_cons])
      go_wp2
      go_meet
      exact ⟨⟨#[]⟩, [], [], .mk yk yi ys yl :: r, .slice none 0 0, .slice none 0 0, _, _, by rw [HLN.out], by rw [HLN.out]; exact HVI2.out _ HRX0.out.bel, HRX0.out, Rows2.nil _ _ _, HE.out, by decide, by have := HNUM.out.2.2.2; have := HN1.out; have := HLN.out; simp only [List.length_nil]; omega, fun t ht => (List.mem_cons.1 ht).elim (fun e => e ▸ HNUM.out.2.2.1) (HNUM.out.2.1 t), by constructor <;> decide⟩
    · have HE : Hid (exprT (.mk 5 i s (.mk xk xi xs xl :: .mk yk yi ys yl :: r)) = .mk 7 ys [] PT0 ([] ++ exprTs r)) := Lib.hid (by rw [exprT]; simp [show kindD (.mk xk xi xs xl) = 7 by rw [HKD.out]; have := HKZ.out; omega])
      go_upto_region 21 with fail
      have HRX2 : Hid (RX w q (w1.setCell ⟨q, 1, none⟩ (.string ys)) (.cells #[.int .i64 5, .int .i64 i, .string s, .slice (some ⟨b, o, none⟩) tn c] 25) (.cells #[.int .i64 7, .string ys, .slice none 0 0, .int .i64 0, .int .i64 0, .string ⟨#[]⟩, .slice none 0 0, .slice none 0 0] 28)) := Lib.hid (HRX0.out.put 1 (.string ys))
      generalize w1.setCell ⟨q, 1, none⟩ (.string ys) = w2 at *
      clear u0 u1 u2 u3 u4 u5 u6 u7 g0 g1 g2 g3 g4 g5 g6 g7 d0 d1 d2 d3 e0 e1 e2 e3
      by_cases hc2 : c1 = 1
      · have HR0 : Hid (r.length = 0) := Lib.hid (by have := HN1.out; omega)
        obtain rfl : n1 = 1 := by have := HN1.out; omega
        subst hc2
        have HIN : Hid (∀ W, InS W S r (.slice (some ⟨b, o + 4, none⟩) 0 0)) := Lib.hid fun W => by
          obtain rfl := List.eq_nil_of_length_eq_zero HR0.out
          exact ⟨_, 0, rfl, Nat.le_refl _, Nat.zero_le _, (fun h => by cases h), .inl rfl⟩
        go_wp2
        go_meet
        exact ⟨ys, [], [], r, .slice none 0 0, .slice none 0 0, _, _, by rw [HR0.out], by rw [HR0.out]; exact HIN.out _, HRX2.out, Rows2.nil _ _ _, HE.out, HYK2.out, by have := HNUM.out.2.2.2; simp only [List.length_nil]; omega, HNUM.out.2.1, by constructor <;> decide⟩
      · have HTR : Hid (r.length = n1 - 1) := Lib.hid (by have := HN1.out; omega)
        have HIN : Hid (∀ W, Below w.heap.size w W → InS W S r (.slice (some ⟨b, o + 4 + 4, none⟩) (n1 - 1) (c1 - 1))) := Lib.hid fun W hW => ins_tail (HVI2.out W hW)
        go_wp2
        go_meet
        exact ⟨ys, [], [], r, .slice none 0 0, .slice none 0 0, _, _, by rw [HTR.out], by rw [HTR.out]; exact HIN.out _ (HRX2.out).bel, HRX2.out, Rows2.nil _ _ _, HE.out, HYK2.out, by have := HNUM.out.2.2.2; simp only [List.length_nil]; omega, HNUM.out.2.1, by constructor <;> decide⟩
    · have HKD8 : Hid (kindD (.mk xk xi xs xl) = 8 ∨ kindD (.mk xk xi xs xl) = 9 ∨ kindD (.mk xk xi xs xl) = 10) := Lib.hid (by rw [HKD.out]; have := HKZ.out; omega)
      have HES : Hid (∀ ns ks, exprBs yl = some (ns, ks) → exprT (.mk 5 i s (.mk xk xi xs xl :: .mk yk yi ys yl :: r)) = .mk kz ⟨#[]⟩ ns PT0 (ks ++ exprTs r)) := Lib.hid fun ns ks h => by
        rw [← HKZ.out, ← HKD.out, exprT]
        rcases HKD8.out with h8 | h8 | h8 <;> simp [h8, h]
      have HEN : Hid (exprBs yl = none → exprT (.mk 5 i s (.mk xk xi xs xl :: .mk yk yi ys yl :: r)) = badE) := Lib.hid fun h => by
        rw [exprT]
        rcases HKD8.out with h8 | h8 | h8 <;> simp [h8, h]
      have HOKZ : Hid (ok64 kz) := Lib.hid (by rcases hkk with rfl | rfl | rfl <;> constructor <;> decide)
      have b0 : (kz == 0) = false := by rcases hkk with rfl | rfl | rfl <;> rfl
      have b2 : (kz == 2) = false := by rcases hkk with rfl | rfl | rfl <;> rfl
      have b7 : (kz == 7) = false := by rcases hkk with rfl | rfl | rfl <;> rfl
      have b5 : (kz == 5) = false := by rcases hkk with rfl | rfl | rfl <;> rfl
      have b8 : (kz == 8) = true ∨ ((kz == 8) = false ∧ (kz == 9) = true) ∨ ((kz == 8) = false ∧ (kz == 9) = false ∧ (kz == 10) = true) := by rcases hkk with rfl | rfl | rfl <;> decide
      clear hkk
      rcases b8 with b8 | ⟨b8, b9⟩ | ⟨b8, b9, b10⟩
      all_goals
        clear u0 u1 u2 u3 u4 u5 u6 u7 g0 g1 g2 g3 g4 g5 g6 g7 d0 d1 d2 d3 e0 e1 e2
        go_wp2
        go_loopw [8, 9] (fun v8 _ wr => ∃ (j : Nat) (ns : List ByteArray) (ks : List PE) (vN vK : Value), j ≤ yl.length ∧ v8 = .int .i64 j ∧ exprBs (yl.take j) = some (ns, ks) ∧ RX w q wr (.cells #[.int .i64 5, .int .i64 i, .string s, .slice (some ⟨b, o, none⟩) tn c] 25) (.cells #[.int .i64 kz, .string ⟨#[]⟩, vN, .int .i64 0, .int .i64 0, .string ⟨#[]⟩, .slice none 0 0, vK] 28) ∧ Rows2 S q ns ks vN vK wr) (fun i _ _ => yl.length - (intOf i).toNat)
        case atStart => exact ⟨0, [], [], .slice none 0 0, .slice none 0 0, Nat.zero_le _, rfl, by rw [List.take_zero, exprBs], HRX0.out, Rows2.nil _ _ _⟩
        case round =>
          clear e3
          obtain ⟨j, ns, ks, vN, vK, hj, rfl, hbs, hrx, hrw⟩ := hrel
          have HRX := Lib.hid hrx
          have HRW := Lib.hid hrw
          have HBS := Lib.hid hbs
          obtain ⟨_, _, _, _, _, _, _, e3⟩ := HCB.out wr hrx.bel
          clear hrx hrw hbs
          by_cases hlt : j < yl.length
          · obtain ⟨yb, yo, rfl, hsy, _⟩ := HRY.out.resolve_left (by rintro rfl; cases hlt)
            have it := insItem (insBelow HVY.out HRX.out.bel) j hlt
            have HTS : Hid (yl.take (j + 1) = yl.take j ++ [yl[j]]) := Lib.hid (List.take_succ_eq_append_getElem hlt)
            have HMEM : Hid (yl[j] ∈ yl) := Lib.hid (List.getElem_mem hlt)
            have HLEN : Hid (ks.length ≤ 100000 ∧ ns.length + 1 ≤ 100000) := Lib.hid (by
              have h1 := exprBs_len HBS.out
              have := HNUM.out.2.2.2
              simp only [List.length_take] at h1
              omega)
            generalize yl[j] = t at *
            obtain ⟨uk0, ui0, us0, ul0⟩ := t
            rw [inD_mk] at it
            obtain ⟨_, _, _, c0, c1', c2, vu, c3, hvu⟩ := it
            have HVU := Lib.hid hvu
            obtain ⟨au, cu, rfl, _, _, _, hru⟩ := hvu
            have HRU := Lib.hid hru
            have HQM : Hid (numT (.mk uk0 ui0 us0 ul0) < numT (.mk 5 i s (.mk xk xi xs xl :: .mk yk yi ys yl :: r))) := Lib.hid (HNUM.out.1 _ HMEM.out)
            generalize hul : ul0.length = n2 at *
            have HUL := Lib.hid hul
            have HX := Lib.hid (heap_alloc_new wr (.cells #[.int .i64 uk0, .int .i64 ui0, .string us0, .slice au n2 cu] 25))
            have HRX2 := Lib.hid (HRX.out.call ((Below.refl _ _).alloc (Nat.le_refl _) (.cells #[.int .i64 uk0, .int .i64 ui0, .string us0, .slice au n2 cu] 25)))
            have HRW2 := Lib.hid (HRW.out.call ((Below.refl _ _).alloc (Nat.le_refl _) (.cells #[.int .i64 uk0, .int .i64 ui0, .string us0, .slice au n2 cu] 25)))
            have HVU2 := Lib.hid (insBelow HVU.out ((Below.refl _ _).alloc (Nat.le_refl _) (.cells #[.int .i64 uk0, .int .i64 ui0, .string us0, .slice au n2 cu] 25)))
            have HXL : Hid (∀ b, vN.ownBlock = some b → b < wr.heap.size) := Lib.hid fun b e => (HRW.out.nlt e).2
            have HXK2 : Hid (q < wr.heap.size) := Lib.hid (lt_of_block HRX.out.qb)
            clear hul hru
            go_upto_region 35 with fail
            generalize wr.alloc (.cells #[.int .i64 uk0, .int .i64 ui0, .string us0, .slice au n2 cu] 25) = w2 at *
            generalize wr.heap.size = X at *
            obtain ⟨m0, m1, m2, m3⟩ := look4c HX.out
            clear c0 c1' c2 c3 e3
            by_cases h2 : n2 = 2
            rotate_left
            · have hnb : ((n2 : Int) != 2) = true := by simp; omega
              have hnb2 : ¬ (n2 : Int) = 2 := by omega
              have HE : Hid (exprT (.mk 5 i s (.mk xk xi xs xl :: .mk yk yi ys yl :: r)) = badE) := Lib.hid (HEN.out (exprBs_bad yl _ _ _ _ HMEM.out (by rw [HUL.out]; exact h2)))
              obtain ⟨t0, t1, t2, t3, t4, t5, t6, t7⟩ := look8 HRX2.out.zb
              obtain ⟨g0, g1, g2, g3, g4, g5, g6, g7⟩ := free8 HRX2.out.zb
              have HZ5 := Lib.hid (put8 (v0 := .int .i64 (-1)) (v1 := .string ⟨#[]⟩) (v2 := .slice none 0 0) (v3 := .int .i64 0) (v4 := .int .i64 0) (v5 := .string ⟨#[]⟩) (v6 := .slice none 0 0) (v7 := .slice none 0 0) HRX2.out.zb)
              have HB6 := Lib.hid (below8 HRX2.out.bel (Nat.le_succ w.heap.size) (.int .i64 (-1)) (.string ⟨#[]⟩) (.slice none 0 0) (.int .i64 0) (.int .i64 0) (.string ⟨#[]⟩) (.slice none 0 0) (.slice none 0 0))
              clear h2
              go_wp2
              refine bodyPost_ret (results_cell_row (P := Tryz.prog) rfl _ _ (w.heap.size + 1) 28 _ (0, 0) _ rfl HZ5.out Tryz.underlying28 rfl (by kernel_rfl)) rfl ⟨⟨.slice none 0 0, .slice none 0 0, .slice none 0 0, by rw [HE.out]; rfl, by rw [HE.out]; exact HBAD.out _⟩, HB6.out⟩
            subst h2
            obtain ⟨p1, p2, rfl⟩ : ∃ p1 p2, ul0 = [p1, p2] := by
              have h := HUL.out
              match ul0, h with
              | [a, b], _ => exact ⟨a, b, rfl⟩
            obtain ⟨xb, xo, rfl, hsx, _⟩ := HRU.out.resolve_left (fun h => by cases h)
            have it0 := insItem HVU2.out 0 (by simp)
            have it1 := insItem HVU2.out 1 (by simp)
            simp only [List.getElem_cons_zero, List.getElem_cons_succ, Nat.zero_mul, Nat.add_zero, Nat.one_mul] at it0 it1
            obtain ⟨pk, pi, ps, pl⟩ := p1
            obtain ⟨qk, qi, qs, ql⟩ := p2
            rw [inD_mk] at it0 it1
            obtain ⟨_, _, hps, _, _, c2, _⟩ := it0
            obtain ⟨hqk, hqi, hqs, f0, f1, f2, vq, f3, hvq⟩ := it1
            have HPS := Lib.hid hps
            have HQ := Lib.hid (And.intro hqk (And.intro hqi hqs))
            have HVQ0 := Lib.hid hvq
            obtain ⟨aq, cq, rfl, _⟩ := hvq
            have HF := Lib.hid (And.intro f0 (And.intro f1 (And.intro f2 f3)))
            have HQN : Hid (numT (.mk qk qi qs ql) < numT (.mk 5 i s (.mk xk xi xs xl :: .mk yk yi ys yl :: r))) := Lib.hid (by
              have := HQM.out
              simp only [numT, numsT] at this ⊢
              omega)
            have HBS2 : Hid (exprBs (yl.take (j + 1)) = some (ns ++ [ps], ks ++ [exprT (.mk qk qi qs ql)])) := Lib.hid (by rw [HTS.out, exprBs_snoc, HBS.out]; rfl)
            have HCC : Hid (∀ W, Below w2.heap.size w2 W → W.cell? ⟨q, 2, none⟩ = some vN ∧ W.cell? ⟨X, 3, none⟩ = some (.slice (some ⟨xb, xo, none⟩) 2 cu) ∧ W.cell? ⟨xb, xo + 2, none⟩ = some (.string ps)) := Lib.hid fun W hW =>
              ⟨by rw [Lib.cell_of_heap (HRX2.out.call hW).qb]; rfl, cell_below hW m3, cell_below hW c2⟩
            clear m0 m1 m2 c2 f0 f1 f2 f3 hqk hqi hqs hps
            go_upto_region 37 with fail
            clear m3
            refine Rg.wp_region_guard 8 (by kernel_rfl) w2.heap.size (Nat.le_refl _) (R37 q X vN (.slice (some ⟨xb, xo, none⟩) 2 cu) xb xo ps) R37.mono (by kernel_rfl) ?_ ?_
            · intro i9 o9 d hiL hi hd vs W hb hR
              obtain ⟨q2, m3, c2⟩ := HCC.out W hb
              have HR := Lib.hid hR
              clear hR
              rcases i9 with _ | _ | _ | _ | _ | _ | _ | _ | i9
              all_goals first | (exfalso; clear hi hd; omega) | skip
              all_goals simp only [List.getElem?_cons_zero, List.getElem?_cons_succ, Option.some.injEq] at hi
              all_goals try subst hi
              all_goals try simp only [Option.some.injEq] at hd
              all_goals try subst hd
              all_goals try simp only [List.take_succ_cons, List.take_zero, Rg.putAll, Act.put, List.setIfInBounds_toArray, List.set_cons_zero, List.set_cons_succ, Nat.zero_add, Nat.reduceAdd]
              · refine Rg.wpOp_go rfl rfl ?_
                go_simp
                exact ⟨_, rfl, rfl, Below.refl _ _⟩
              · rw [show vs 0 = _ from (HR.out 0 (by decide) (by kernel_rfl))]
                refine Rg.wpOp_go rfl rfl ?_
                go_simp
                exact ⟨_, rfl, rfl, Below.refl _ _⟩
              · refine Rg.wpOp_go rfl rfl ?_
                go_simp
                exact ⟨_, rfl, rfl, Below.refl _ _⟩
              · rw [show vs 2 = _ from (HR.out 2 (by decide) (by kernel_rfl))]
                refine Rg.wpOp_go rfl rfl ?_
                go_simp
                exact ⟨_, rfl, rfl, Below.refl _ _⟩
              · rw [show vs 3 = _ from (HR.out 3 (by decide) (by kernel_rfl))]
                refine Rg.wpOp_go rfl rfl ?_
                go_simp
                exact ⟨_, rfl, rfl, Below.refl _ _⟩
              · rw [show vs 4 = _ from (HR.out 4 (by decide) (by kernel_rfl))]
                refine Rg.wpOp_go rfl rfl ?_
                go_simp
                exact ⟨_, rfl, rfl, Below.refl _ _⟩
              · rw [show vs 5 = _ from (HR.out 5 (by decide) (by kernel_rfl))]
                refine Rg.wpOp_go rfl rfl ?_
                go_simp
                exact ⟨_, rfl, rfl, Below.refl _ _⟩
              · rw [show vs 6 = _ from (HR.out 6 (by decide) (by kernel_rfl))]
                refine Rg.wpOp_go rfl rfl ?_
                go_simp
                exact ⟨_, rfl, ⟨_, rfl, heap_alloc_new _ _⟩, (Below.refl _ _).alloc (Nat.le_refl _) _⟩
            · intro vs W hBW hR
              simp only [List.take_succ_cons, List.take_zero, List.drop_succ_cons, List.drop_zero, Rg.putAll, Act.put, List.setIfInBounds_toArray, List.set_cons_zero, List.set_cons_succ, Nat.zero_add, Nat.reduceAdd]
              obtain ⟨g, h10, hg⟩ : ∃ g, vs 7 = .slice (some ⟨g, 0, none⟩) 1 1 ∧ W.heap[g]? = some (.cells #[.string ps] 9 (0, 0)) := hR 7 (by decide)
              rw [show vs 1 = _ from hR 1 (by decide), h10]
              have HRX3 := Lib.hid (HRX2.out.call hBW)
              have HRW3 := Lib.hid (HRW2.out.call hBW)
              have HX3 := Lib.hid ((hBW.block X (lt_of_block HX.out)).trans HX.out)
              have HG := Lib.hid hg
              have hCq : q + 1 ≤ W.heap.size := lt_of_block HRX3.out.qb
              clear hR hg h10 hBW HCC
              go_wp2_with (at_builtin; refine wpList_append_ts rfl _ _ rfl (q + 1) ns vN rfl HRW3.out.nrow (fun _ => True) [ps] _ (inN_single HG.out HPS.out) rfl HLEN.out.2 hCq ?_; intro v3 w3 ho3 hk3 ha3; go_must (have HRW4 := Lib.hid (HRW3.out.name ho3 hk3 ha3 (fun s h => by obtain rfl : s = ps := (by simpa using h); exact HPS.out))); go_must (have HRX4 := Lib.hid (HRX3.out.kp hk3 (fun b e => (HRW3.out.nlt e).1))); go_must (have HX4 := Lib.hid ((hk3.2 X (lt_of_block HX3.out) (fun e => Nat.lt_irrefl _ (HXL.out X e.symm))).trans HX3.out)); go_must (have f2 : w3.frozen? ⟨q, 2, none⟩ = false := Lib.frozen_of_heap HRX4.out.qb 2); go_must (have q3 : w3.cell? ⟨q, 2, none⟩ = some vN := by (rw [Lib.cell_of_heap HRX4.out.qb]; rfl)); go_must (obtain ⟨av, cv, e3, _⟩ := ho3.slice); go_must (rw [List.length_append, List.length_cons, List.length_nil, Nat.zero_add] at e3); go_must (subst e3); go_must (clear ho3 hk3 ha3))
              go_upto_region 38 with fail
              have HRXn : Hid (RX w q (w3.setCell ⟨q, 2, none⟩ (.slice av (ns.length + 1) cv)) (.cells #[.int .i64 5, .int .i64 i, .string s, .slice (some ⟨b, o, none⟩) tn c] 25) (.cells #[.int .i64 kz, .string ⟨#[]⟩, .slice av (ns.length + 1) cv, .int .i64 0, .int .i64 0, .string ⟨#[]⟩, .slice none 0 0, vK] 28)) := Lib.hid (HRX4.out.put 2 _)
              have HRWn := Lib.hid (HRW4.out.putq HSQ.out 2 (.slice av (ns.length + 1) cv))
              have HX5 : Hid ((w3.setCell ⟨q, 2, none⟩ (.slice av (ns.length + 1) cv)).heap[X]? = _) := Lib.hid ((Below.heap_setCell _ _ _ _ (by have := HXK2.out; show X ≠ q; omega)).trans HX4.out)
              generalize hgl : w3.setCell ⟨q, 2, none⟩ (.slice av (ns.length + 1) cv) = w4 at *
              clear hgl f2 q3
              have HRX := HRXn
              have HRW := HRWn
              have HVQ := Lib.hid (insAt HVQ0.out HSL.out HRX2.out.bel HRX.out.bel)
              have HCC : Hid (∀ W, Below w4.heap.size w4 W → W.cell? ⟨q, 7, none⟩ = some vK ∧ W.cell? ⟨X, 3, none⟩ = some (.slice (some ⟨xb, xo, none⟩) 2 cu) ∧ W.cell? ⟨xb, xo + 4, none⟩ = some (.int .i64 qk) ∧ W.cell? ⟨xb, xo + 4 + 1, none⟩ = some (.int .i64 qi) ∧ W.cell? ⟨xb, xo + 4 + 2, none⟩ = some (.string qs) ∧ W.cell? ⟨xb, xo + 4 + 3, none⟩ = some (.slice aq ql.length cq)) := Lib.hid fun W hW => by
                have hb8 : ∀ o' y, w2.cell? ⟨xb, o', none⟩ = some y → W.cell? ⟨xb, o', none⟩ = some y := fun o' y hc => by
                  rw [World.cell?_of_block (w := w2) (a := ⟨xb, o', none⟩) (((HRX.out.call hW).bel.block xb (HSL.out xb hsx)).trans (HRX2.out.bel.block xb (HSL.out xb hsx)).symm)]; exact hc
                refine ⟨by rw [Lib.cell_of_heap (HRX.out.call hW).qb]; rfl, by rw [Lib.cell_of_heap ((hW.block X (lt_of_block HX5.out)).trans HX5.out)]; rfl, hb8 _ _ HF.out.1, hb8 _ _ HF.out.2.1, hb8 _ _ HF.out.2.2.1, hb8 _ _ HF.out.2.2.2⟩
              have HLEN := Lib.hid HLEN.out.1
              have HTT : ∃ T, exprT (.mk qk qi qs ql) = T := ⟨_, rfl⟩
              obtain ⟨⟨uk, un, uns, ⟨uck, uci, ucs, ucl⟩, ul⟩, hT⟩ := HTT
              have HT := Lib.hid hT
              have KID : Hid (∀ W, Below w4.heap.size w4 W → Calls Tryz.prog 42 #[.agg #[.int .i64 qk, .int .i64 qi, .string qs, .slice aq ql.length cq]] W fun e w' => (∃ uan ucn uad ucd uak uc2, e = .returned (.agg #[.int .i64 uk, .string un, .slice uan uns.length ucn, .int .i64 uck, .int .i64 uci, .string ucs, .slice uad ucl.length ucd, .slice uak ul.length uc2]) ∧ InF w' (fun b => S b ∨ w4.heap.size ≤ b) (.mk uk un uns (.mk uck uci ucs ucl) ul) (.slice uan uns.length ucn) (.slice uad ucl.length ucd) (.slice uak ul.length uc2)) ∧ Below W.heap.size W w') := Lib.hid fun W hW => by
                have hbw := HRX.out.bel.trans (hW.mono HRX.out.bel.size)
                refine (HIH.out (.mk qk qi qs ql) HQN.out W S (.slice aq ql.length cq) ⟨HQ.out.1, HQ.out.2.1, HQ.out.2.2, insBelow HVQ.out hW⟩ (fun b hb => Nat.lt_of_lt_of_le (HSL.out b hb) hbw.size) (by have := HQN.out; have := HSZ.out; omega)).mono ?_
                rintro e w' ⟨⟨vn, vd, vk, rfl, hF⟩, hb⟩
                rw [HT.out] at hF ⊢
                have hF2 := hF
                obtain ⟨⟨_, _, uan, ucn, rfl, -⟩, ⟨_, _, _, uad, ucd, rfl, -⟩, uak, uc2, rfl, -⟩ := hF2
                exact ⟨⟨uan, ucn, uad, ucd, uak, uc2, rfl, hF.move (fun b h _ => h.imp id (fun h => Nat.le_trans hW.size h)) fun _ _ _ _ h => h⟩, hb⟩
              clear hT
              refine Rg.wp_region_guard 8 (by kernel_rfl) w4.heap.size (Nat.le_refl _) (R38 q X vK (.slice (some ⟨xb, xo, none⟩) 2 cu) (.agg #[.int .i64 qk, .int .i64 qi, .string qs, .slice aq ql.length cq]) xb xo (fun b => S b ∨ w4.heap.size ≤ b) uk un uns uck uci ucs ucl ul) R38.mono (by kernel_rfl) ?_ ?_
              · intro i9 o9 d hiL hi hd vs W hb hR
                obtain ⟨q7, m3, f0, f1, f2, f3⟩ := HCC.out W hb
                have HR := Lib.hid hR
                clear hR
                rcases i9 with _ | _ | _ | _ | _ | _ | _ | _ | i9
                all_goals first | (exfalso; clear hi hd; omega) | skip
                all_goals simp only [List.getElem?_cons_zero, List.getElem?_cons_succ, Option.some.injEq] at hi
                all_goals try subst hi
                all_goals try simp only [Option.some.injEq] at hd
                all_goals try subst hd
                all_goals try simp only [List.take_succ_cons, List.take_zero, Rg.putAll, Act.put, List.setIfInBounds_toArray, List.set_cons_zero, List.set_cons_succ, Nat.zero_add, Nat.reduceAdd]
                · refine Rg.wpOp_go rfl rfl ?_
                  go_simp
                  exact ⟨_, rfl, rfl, Below.refl _ _⟩
                · rw [show vs 0 = _ from (HR.out 0 (by decide) (by kernel_rfl))]
                  refine Rg.wpOp_go rfl rfl ?_
                  go_simp
                  exact ⟨_, rfl, rfl, Below.refl _ _⟩
                · refine Rg.wpOp_go rfl rfl ?_
                  go_simp
                  exact ⟨_, rfl, rfl, Below.refl _ _⟩
                · rw [show vs 2 = _ from (HR.out 2 (by decide) (by kernel_rfl))]
                  refine Rg.wpOp_go rfl rfl ?_
                  go_simp
                  exact ⟨_, rfl, rfl, Below.refl _ _⟩
                · rw [show vs 3 = _ from (HR.out 3 (by decide) (by kernel_rfl))]
                  refine Rg.wpOp_go rfl rfl ?_
                  go_simp
                  exact ⟨_, rfl, rfl, Below.refl _ _⟩
                · rw [show vs 4 = _ from (HR.out 4 (by decide) (by kernel_rfl))]
                  refine Rg.wpOp_go rfl rfl ?_
                  go_simp
                  exact ⟨_, rfl, rfl, Below.refl _ _⟩
                · rw [show vs 5 = _ from (HR.out 5 (by decide) (by kernel_rfl))]
                  refine Rg.wpOp_go rfl rfl ?_
                  go_simp
                  refine (KID.out _ hb).mono ?_
                  rintro e w7 ⟨⟨uan, ucn, uad, ucd, uak, uc2, rfl, hF7⟩, hb7⟩
                  exact ⟨_, rfl, ⟨uan, ucn, uad, ucd, uak, uc2, rfl, hF7⟩, hb7⟩
                · obtain ⟨uan, ucn, uad, ucd, uak, uc2, h6, hF7⟩ : KidV _ uk un uns uck uci ucs ucl ul (vs 6) W := HR.out 6 (by decide) (by kernel_rfl)
                  rw [h6]
                  refine Rg.wpOp_go rfl rfl ?_
                  go_simp
                  exact ⟨_, rfl, ⟨_, uan, ucn, uad, ucd, uak, uc2, rfl, heap_alloc_new _ _, hF7.below ((Below.refl _ _).alloc (Nat.le_refl _) _)⟩, (Below.refl _ _).alloc (Nat.le_refl _) _⟩
              · intro vs W hBW hR
                simp only [List.take_succ_cons, List.take_zero, List.drop_succ_cons, List.drop_zero, Rg.putAll, Act.put, List.setIfInBounds_toArray, List.set_cons_zero, List.set_cons_succ, Nat.zero_add, Nat.reduceAdd]
                obtain ⟨g, uan, ucn, uad, ucd, uak, uc2, h7, hg, hF7⟩ : KidS _ uk un uns uck uci ucs ucl ul (vs 7) W := hR 7 (by decide)
                rw [show vs 1 = _ from hR 1 (by decide), h7]
                have HRX2 := Lib.hid (HRX.out.call hBW)
                have HRW2 := Lib.hid (HRW.out.call hBW)
                have HG := Lib.hid hg
                have HF2 : Hid (InF W (fun b => PK S q (.slice av (ns.length + 1) cv) b ∧ some b ≠ (vK : Value).ownBlock) (.mk uk un uns (.mk uck uci ucs ucl) ul) (.slice uan uns.length ucn) (.slice uad ucl.length ucd) (.slice uak ul.length uc2)) := Lib.hid (hF7.move (fun b hb _ => HRW.out.fresh HSQ.out (lt_of_block HRX.out.qb) hb) fun _ _ _ _ h => h)
                have hCq : q + 1 ≤ W.heap.size := lt_of_block HRX2.out.qb
                have HBW := Lib.hid hBW
                clear hR hg hF7 h7 hBW
                go_wp2_with (at_builtin; refine wpList_append_e rfl _ _ rfl (q + 1) (PK S q (.slice av (ns.length + 1) cv)) (ks) vK rfl HRW2.out.krow g uk un uns uck uci ucs ucl ul _ _ _ rfl HG.out HF2.out HLEN.out hCq ?_; intro g8 cap w3 ho3 hk3 ha3; go_must (have HRW4 := Lib.hid (HRW2.out.kid ho3 hk3 ha3)); go_must (have HRX4 := Lib.hid (HRX2.out.kp (kp_of_grown hk3) (fun b e => (HRW2.out.klt e).1))); go_must (have f2 : w3.frozen? ⟨q, 7, none⟩ = false := Lib.frozen_of_heap HRX4.out.qb 7); go_must (have q3 : w3.cell? ⟨q, 7, none⟩ = some vK := by (rw [Lib.cell_of_heap HRX4.out.qb]; rfl)); go_must (clear ho3 hk3 ha3))
                go_wp2
                go_roundw
                case rel => exact ⟨j + 1, ns ++ [ps], ks ++ [.mk uk un uns (.mk uck uci ucs ucl) ul], _, _, by omega, by go_num, by rw [HBS2.out, HT.out], HRX4.out.put 7 _, HRW4.out.putq HSQ.out 7 _⟩
                case measure => simp [intOf]; omega
          · obtain rfl : j = yl.length := by omega
            rw [List.take_length] at HBS
            have HE := Lib.hid (HES.out _ _ HBS.out)
            by_cases hc2 : c1 = 1
            · have HR0 : Hid (r.length = 0) := Lib.hid (by have := HN1.out; omega)
              obtain rfl : n1 = 1 := by have := HN1.out; omega
              subst hc2
              have HIN : Hid (∀ W, InS W S r (.slice (some ⟨b, o + 4, none⟩) 0 0)) := Lib.hid fun W => by
                obtain rfl := List.eq_nil_of_length_eq_zero HR0.out
                exact ⟨_, 0, rfl, Nat.le_refl _, Nat.zero_le _, (fun h => by cases h), .inl rfl⟩
              go_wp2
              go_meet
              exact ⟨⟨#[]⟩, ns, ks, r, vN, vK, _, _, by rw [HR0.out], by rw [HR0.out]; exact HIN.out _, HRX.out, HRW.out, HE.out, by decide, by have := HNUM.out.2.2.2; have h9 : ks.length = yl.length := (exprBs_len HBS.out).2; omega, HNUM.out.2.1, HOKZ.out⟩
            · have HTR : Hid (r.length = n1 - 1) := Lib.hid (by have := HN1.out; omega)
              have HIN : Hid (∀ W, Below w.heap.size w W → InS W S r (.slice (some ⟨b, o + 4 + 4, none⟩) (n1 - 1) (c1 - 1))) := Lib.hid fun W hW => ins_tail (HVI2.out W hW)
              go_wp2
              go_meet
              exact ⟨⟨#[]⟩, ns, ks, r, vN, vK, _, _, by rw [HTR.out], by rw [HTR.out]; exact HIN.out _ (HRX.out).bel, HRX.out, HRW.out, HE.out, by decide, by have := HNUM.out.2.2.2; have h9 : ks.length = yl.length := (exprBs_len HBS.out).2; omega, HNUM.out.2.1, HOKZ.out⟩
  case rest =>
    obtain ⟨nm, ns, l0, m, vN, vK0, la, lc, rfl, hin, hrx, hrw, he, hnm, hlen, hnum, hk64⟩ := hcut
    have HRX0' := Lib.hid hrx
    have HRW0' := Lib.hid hrw
    have HE := Lib.hid he
    have HNM := Lib.hid hnm
    have HLN := Lib.hid hlen
    have HNUMM := Lib.hid hnum
    have HK64 := Lib.hid hk64
    have HMV : Hid (∀ W, Below w.heap.size w W → InS W S m (.slice la m.length lc)) := Lib.hid fun W hW => insAt hin HSL.out hrx.bel hW
    obtain ⟨_, _, e', hlm, hmm, _, hrm⟩ := id hin
    cases e'
    have HRM := Lib.hid hrm
    unfold maxLen at hmm
    clear hin hrx hrw he hnm hlen hnum hk64 hrm hkz0 hkzl hkz1 hkn0 
    go_wp2
    go_loopw [10] (fun v10 wr => ∃ (j : Nat) (vK : Value), j ≤ m.length ∧ v10 = .int .i64 j ∧ RX w q wr (.cells #[.int .i64 5, .int .i64 i, .string s, .slice (some ⟨b, o, none⟩) tn c] 25) (.cells #[.int .i64 kz, .string nm, vN, .int .i64 0, .int .i64 0, .string ⟨#[]⟩, .slice none 0 0, vK] 28) ∧ Rows2 S q ns (l0 ++ exprTs (m.take j)) vN vK wr) (fun i _ => m.length - (intOf i).toNat)
    case atStart => exact ⟨0, vK0, Nat.zero_le _, rfl, HRX0'.out, by rw [List.take_zero, exprTs, List.append_nil]; exact HRW0'.out⟩
    case round =>
      obtain ⟨j, vK, hj, rfl, hrx, hrw⟩ := hrel
      have HRX := Lib.hid hrx
      have HRW := Lib.hid hrw
      clear hrx hrw
      by_cases hlt : j < m.length
      · obtain ⟨mb, mo, rfl, hsm, _⟩ := HRM.out.resolve_left (by rintro rfl; cases hlt)
        have it := insItem (HMV.out wr HRX.out.bel) j hlt
        have HTS : Hid (l0 ++ exprTs (m.take (j + 1)) = l0 ++ exprTs (m.take j) ++ [exprT m[j]]) := Lib.hid (by rw [List.take_succ_eq_append_getElem hlt, exprTs_snoc, List.append_assoc])
        have HQN : Hid (numT m[j] < numT (.mk 5 i s (.mk xk xi xs xl :: .mk yk yi ys yl :: r))) := Lib.hid (HNUMM.out _ (List.getElem_mem hlt))
        have HLEN : Hid ((l0 ++ exprTs (m.take j)).length ≤ 100000) := Lib.hid (by
          have := HLN.out
          rw [List.length_append, exprTs_len, List.length_take]
          omega)
        generalize m[j] = t at *
        generalize l0 ++ exprTs (m.take j) = lj at *
        obtain ⟨qk, qi, qs, ql⟩ := t
        rw [inD_mk] at it
        obtain ⟨hqk, hqi, hqs, f0, f1, f2, vq, f3, hvq⟩ := it
        have HQ := Lib.hid (And.intro hqk (And.intro hqi hqs))
        have HVQ := Lib.hid hvq
        obtain ⟨aq, cq, rfl, _⟩ := hvq
        have HCC : Hid (∀ W, Below wr.heap.size wr W → W.cell? ⟨q, 7, none⟩ = some vK ∧ W.cell? ⟨mb, mo + j * 4, none⟩ = some (.int .i64 qk) ∧ W.cell? ⟨mb, mo + j * 4 + 1, none⟩ = some (.int .i64 qi) ∧ W.cell? ⟨mb, mo + j * 4 + 2, none⟩ = some (.string qs) ∧ W.cell? ⟨mb, mo + j * 4 + 3, none⟩ = some (.slice aq ql.length cq)) := Lib.hid fun W hW =>
          ⟨by rw [Lib.cell_of_heap (HRX.out.call hW).qb]; rfl, cell_below hW f0, cell_below hW f1, cell_below hW f2, cell_below hW f3⟩
        have HTT : ∃ T, exprT (.mk qk qi qs ql) = T := ⟨_, rfl⟩
        obtain ⟨⟨uk, un, uns, ⟨uck, uci, ucs, ucl⟩, ul⟩, hT⟩ := HTT
        have HT := Lib.hid hT
        have KID : Hid (∀ W, Below wr.heap.size wr W → Calls Tryz.prog 42 #[.agg #[.int .i64 qk, .int .i64 qi, .string qs, .slice aq ql.length cq]] W fun e w' => (∃ uan ucn uad ucd uak uc2, e = .returned (.agg #[.int .i64 uk, .string un, .slice uan uns.length ucn, .int .i64 uck, .int .i64 uci, .string ucs, .slice uad ucl.length ucd, .slice uak ul.length uc2]) ∧ InF w' (fun b => S b ∨ wr.heap.size ≤ b) (.mk uk un uns (.mk uck uci ucs ucl) ul) (.slice uan uns.length ucn) (.slice uad ucl.length ucd) (.slice uak ul.length uc2)) ∧ Below W.heap.size W w') := Lib.hid fun W hW => by
          have hbw := HRX.out.bel.trans (hW.mono HRX.out.bel.size)
          refine (HIH.out (.mk qk qi qs ql) HQN.out W S (.slice aq ql.length cq) ⟨HQ.out.1, HQ.out.2.1, HQ.out.2.2, insBelow HVQ.out hW⟩ (fun b hb => Nat.lt_of_lt_of_le (HSL.out b hb) hbw.size) (by have := HQN.out; have := HSZ.out; omega)).mono ?_
          rintro e w' ⟨⟨vn, vd, vk, rfl, hF⟩, hb⟩
          rw [HT.out] at hF ⊢
          have hF2 := hF
          obtain ⟨⟨_, _, uan, ucn, rfl, -⟩, ⟨_, _, _, uad, ucd, rfl, -⟩, uak, uc2, rfl, -⟩ := hF2
          exact ⟨⟨uan, ucn, uad, ucd, uak, uc2, rfl, hF.move (fun b h _ => h.imp id (fun h => Nat.le_trans hW.size h)) fun _ _ _ _ h => h⟩, hb⟩
        clear hT
        clear f0 f1 f2 f3 hqk hqi hqs
        go_upto_region 43 with fail
        refine Rg.wp_region_guard 8 (by kernel_rfl) wr.heap.size (Nat.le_refl _) (R43 q vK (.slice (some ⟨mb, mo, none⟩) m.length lc) (.agg #[.int .i64 qk, .int .i64 qi, .string qs, .slice aq ql.length cq]) mb mo j (fun b => S b ∨ wr.heap.size ≤ b) uk un uns uck uci ucs ucl ul) R43.mono (by kernel_rfl) ?_ ?_
        · intro i9 o9 d hiL hi hd vs W hb hR
          obtain ⟨q7, f0, f1, f2, f3⟩ := HCC.out W hb
          have HR := Lib.hid hR
          clear hR
          rcases i9 with _ | _ | _ | _ | _ | _ | _ | _ | i9
          all_goals first | (exfalso; clear hi hd; omega) | skip
          all_goals simp only [List.getElem?_cons_zero, List.getElem?_cons_succ, Option.some.injEq] at hi
          all_goals try subst hi
          all_goals try simp only [Option.some.injEq] at hd
          all_goals try subst hd
          all_goals try simp only [List.take_succ_cons, List.take_zero, Rg.putAll, Act.put, List.setIfInBounds_toArray, List.set_cons_zero, List.set_cons_succ, Nat.zero_add, Nat.reduceAdd]
          · refine Rg.wpOp_go rfl rfl ?_
            go_simp
            exact ⟨_, rfl, rfl, Below.refl _ _⟩
          · rw [show vs 0 = _ from (HR.out 0 (by decide) (by kernel_rfl))]
            refine Rg.wpOp_go rfl rfl ?_
            go_simp
            exact ⟨_, rfl, rfl, Below.refl _ _⟩
          · refine Rg.wpOp_go rfl rfl ?_
            go_simp
            exact ⟨_, rfl, rfl, Below.refl _ _⟩
          · refine Rg.wpOp_go rfl rfl ?_
            go_simp
            exact ⟨_, rfl, rfl, Below.refl _ _⟩
          · rw [show vs 2 = _ from (HR.out 2 (by decide) (by kernel_rfl))]
            rw [show vs 3 = _ from (HR.out 3 (by decide) (by kernel_rfl))]
            refine Rg.wpOp_go rfl rfl ?_
            go_simp
            exact ⟨_, rfl, rfl, Below.refl _ _⟩
          · rw [show vs 4 = _ from (HR.out 4 (by decide) (by kernel_rfl))]
            refine Rg.wpOp_go rfl rfl ?_
            go_simp
            exact ⟨_, rfl, rfl, Below.refl _ _⟩
          · rw [show vs 5 = _ from (HR.out 5 (by decide) (by kernel_rfl))]
            refine Rg.wpOp_go rfl rfl ?_
            go_simp
            refine (KID.out _ hb).mono ?_
            rintro e w7 ⟨⟨uan, ucn, uad, ucd, uak, uc2, rfl, hF7⟩, hb7⟩
            exact ⟨_, rfl, ⟨uan, ucn, uad, ucd, uak, uc2, rfl, hF7⟩, hb7⟩
          · obtain ⟨uan, ucn, uad, ucd, uak, uc2, h6, hF7⟩ : KidV _ uk un uns uck uci ucs ucl ul (vs 6) W := HR.out 6 (by decide) (by kernel_rfl)
            rw [h6]
            refine Rg.wpOp_go rfl rfl ?_
            go_simp
            exact ⟨_, rfl, ⟨_, uan, ucn, uad, ucd, uak, uc2, rfl, heap_alloc_new _ _, hF7.below ((Below.refl _ _).alloc (Nat.le_refl _) _)⟩, (Below.refl _ _).alloc (Nat.le_refl _) _⟩
        · intro vs W hBW hR
          simp only [List.take_succ_cons, List.take_zero, List.drop_succ_cons, List.drop_zero, Rg.putAll, Act.put, List.setIfInBounds_toArray, List.set_cons_zero, List.set_cons_succ, Nat.zero_add, Nat.reduceAdd]
          obtain ⟨g, uan, ucn, uad, ucd, uak, uc2, h7, hg, hF7⟩ : KidS _ uk un uns uck uci ucs ucl ul (vs 7) W := hR 7 (by decide)
          rw [show vs 1 = _ from hR 1 (by decide), h7]
          have HRX2 := Lib.hid (HRX.out.call hBW)
          have HRW2 := Lib.hid (HRW.out.call hBW)
          have HG := Lib.hid hg
          have HF2 : Hid (InF W (fun b => PK S q vN b ∧ some b ≠ (vK : Value).ownBlock) (.mk uk un uns (.mk uck uci ucs ucl) ul) (.slice uan uns.length ucn) (.slice uad ucl.length ucd) (.slice uak ul.length uc2)) := Lib.hid (hF7.move (fun b hb _ => HRW.out.fresh HSQ.out (lt_of_block HRX.out.qb) hb) fun _ _ _ _ h => h)
          have hCq : q + 1 ≤ W.heap.size := lt_of_block HRX2.out.qb
          have HBW := Lib.hid hBW
          clear hR hg hF7 h7 hBW
          go_wp2_with (at_builtin; refine wpList_append_e rfl _ _ rfl (q + 1) (PK S q vN) (lj) vK rfl HRW2.out.krow g uk un uns uck uci ucs ucl ul _ _ _ rfl HG.out HF2.out HLEN.out hCq ?_; intro g8 cap w3 ho3 hk3 ha3; go_must (have HRW4 := Lib.hid (HRW2.out.kid ho3 hk3 ha3)); go_must (have HRX4 := Lib.hid (HRX2.out.kp (kp_of_grown hk3) (fun b e => (HRW2.out.klt e).1))); go_must (have f2 : w3.frozen? ⟨q, 7, none⟩ = false := Lib.frozen_of_heap HRX4.out.qb 7); go_must (have q3 : w3.cell? ⟨q, 7, none⟩ = some vK := by (rw [Lib.cell_of_heap HRX4.out.qb]; rfl)); go_must (clear ho3 hk3 ha3))
          go_wp2
          go_roundw
          case rel => exact ⟨j + 1, _, by omega, by go_num, HRX4.out.put 7 _, by rw [HTS.out, HT.out]; exact HRW4.out.putq HSQ.out 7 _⟩
          case measure => simp [intOf]; omega
      · obtain rfl : j = m.length := by omega
        rw [List.take_length] at HRW
        obtain ⟨an, cn, rfl, _⟩ := HRW.out.nrow.slice
        obtain ⟨ak, ck, rfl, _⟩ := HRW.out.krow.slice
        go_upto_region 44 with fail
        obtain ⟨u0, u1, u2, u3, u4, u5, u6, u7⟩ := look8 HRX.out.qb
        obtain ⟨t0, t1, t2, t3, t4, t5, t6, t7⟩ := look8 HRX.out.zb
        obtain ⟨g0, g1, g2, g3, g4, g5, g6, g7⟩ := free8 HRX.out.zb
        have HZ5 := Lib.hid (put8 (v0 := .int .i64 kz) (v1 := .string nm) (v2 := .slice an ns.length cn) (v3 := .int .i64 0) (v4 := .int .i64 0) (v5 := .string ⟨#[]⟩) (v6 := .slice none 0 0) (v7 := .slice ak (l0 ++ exprTs m).length ck) HRX.out.zb)
        have HB6 := Lib.hid (below8 HRX.out.bel (Nat.le_succ w.heap.size) (.int .i64 kz) (.string nm) (.slice an ns.length cn) (.int .i64 0) (.int .i64 0) (.string ⟨#[]⟩) (.slice none 0 0) (.slice ak (l0 ++ exprTs m).length ck))
        have HRW9 := Lib.hid (HRW.out.but (w.heap.size + 1) (by have := HRX.out.hq; omega) (fun h => by have := HSL.out _ h; omega) (fun bb hb => off8 (W := wr) (b := w.heap.size + 1) (.int .i64 kz) (.string nm) (.slice an ns.length cn) (.int .i64 0) (.int .i64 0) (.string ⟨#[]⟩) (.slice none 0 0) (.slice ak (l0 ++ exprTs m).length ck) hb))
        have HQW : Hid (w.heap.size ≤ q) := Lib.hid (by have := HRX.out.hq; omega)
        generalize (l0 ++ exprTs m).length = lk at *
        go_wp2
        refine bodyPost_ret (results_cell_row (P := Tryz.prog) rfl _ _ (w.heap.size + 1) 28 _ (0, 0) _ rfl HZ5.out Tryz.underlying28 rfl (by kernel_rfl)) rfl ⟨⟨.slice an ns.length cn, .slice none 0 0, .slice ak lk ck, by rw [HE.out]; rfl, by rw [HE.out]; exact HRW9.out.inF HQW.out HK64.out HNM.out⟩, HB6.out⟩
theorem rexpr_any (d : PT) : ExprOk d := by
  induction hn : numT d using Nat.strongRecOn generalizing d with
  | ind n ih =>
    obtain ⟨k, i, s, l⟩ := d
    exact rexpr_step k i s l fun t ht => ih (numT t) (by omega) t rfl
end Go.Proofs.YtjofdlnopchaeaaGreatDoor.Core
