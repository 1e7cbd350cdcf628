/-
Texts A1, Z1, Z2, Z3, Z4, one behind the other (a claim bears sixty files). Conditions: as each says.
-/
import Derived.Test.YthfjlcflpneffaaGreatDoorWY
import Derived.Test.YthfjlcflpneffaaGreatDoorWM
import Derived.Deep.AppendLies

/-
Data out of tokens, pure: the document's row of what is open; and what a reader that goes down the grammar may answer. No condition.
-/
namespace Go.Proofs.YthfjlcflpneffaaGreatDoor
open Go.ChangeShapes Go.WideShapes Go.ChangeAt Go.RowKit
open Dat (PT makeT)

/-- Something that is open. -/
structure Op where
  kind : Int
  list : List PT
  dot : Int

def quoteS : ByteArray := ⟨#[113, 117, 111, 116, 101]⟩
def quoteD (d : PT) : PT := .mk 5 0 ⟨#[]⟩ [.mk 4 0 quoteS [], d]
def kindT (k : Int) : Int := if k = 5 then 0 else if k = 6 then 1 else if k = 7 then 2 else if k = 8 then 3 else 4
def leafD (t : Tk) : PT := .mk (kindT t.kind) t.int ⟨t.text.toArray⟩ []
def endedM : List Op → PT → List Op × Option PT
  | [], d => ([], some d)
  | o :: st, d => if o.kind = 3 then endedM st (quoteD d) else (⟨o.kind, o.list ++ [d], o.dot⟩ :: st, none)
def closedM (o : Op) : PT :=
  if o.kind = 2 then .mk 7 0 ⟨#[]⟩ o.list else if o.dot < 0 then .mk 5 0 ⟨#[]⟩ o.list else makeT (o.list.take o.dot.toNat) (o.list.getD o.dot.toNat (.mk 0 0 ⟨#[]⟩ []))
def topM (st : List Op) : Op := st.headD ⟨-1, [], -1⟩
def fullB (o : Op) : Bool := decide (0 ≤ o.dot) && decide ((o.list.length : Int) = o.dot + 1)
def mayM (st : List Op) (k : Int) : Int :=
  if k = 1 then (if (topM st).kind = -1 ∨ (topM st).kind = 3 ∨ 0 ≤ (topM st).dot ∧ fullB (topM st) = false then 40 else 0)
  else if k = 4 then (if (topM st).kind ≠ 0 ∨ 0 ≤ (topM st).dot ∨ (topM st).list = [] then 42 else 0)
  else if fullB (topM st) = true then 42
  else if (k = 0 ∨ k = 2 ∨ k = 3) ∧ 32 ≤ st.length then 43 else 0
/-- A datum is there. -/
def giveM (st : List Op) (out : List PT) (d : PT) : List Op × List PT := ((endedM st d).1, out ++ (endedM st d).2.toList)
/-- What a token does that may follow. -/
def stepM (st : List Op) (out : List PT) (t : Tk) : List Op × List PT :=
  if t.kind = 0 ∨ t.kind = 2 ∨ t.kind = 3 then (⟨t.kind, [], -1⟩ :: st, out)
  else if t.kind = 4 then (⟨(topM st).kind, (topM st).list, ((topM st).list.length : Int)⟩ :: st.tail, out)
  else if t.kind = 1 then giveM st.tail out (closedM (topM st))
  else giveM st out (leafD t)
def runM (N : Nat) : List Op → List PT → List TkP → List PT × Nat × Int
  | st, out, [] => if st = [] then (out, 0, 0) else ([], N, 41)
  | st, out, t :: r => if mayM st t.t.kind ≠ 0 then ([], t.a, mayM st t.t.kind) else runM N (stepM st out t.t).1 (stepM st out t.t).2 r
/-- The data of a source; or the place and the number of what is wrong. -/
def readT (s : List UInt8) : List PT × Nat × Int := if (toksT s).2.2 ≠ 0 then ([], (toksT s).2) else runM s.length [] [] (toksT s).1

theorem run_nil (N : Nat) (st : List Op) (out : List PT) : runM N st out [] = if st = [] then (out, 0, 0) else ([], N, 41) := by rw [runM]
theorem run_bad {N : Nat} {st : List Op} {out : List PT} {t : TkP} {r : List TkP} (h : mayM st t.t.kind ≠ 0) : runM N st out (t :: r) = ([], t.a, mayM st t.t.kind) := by rw [runM, if_pos h]
theorem run_next {N : Nat} {st : List Op} {out : List PT} {t : TkP} {r : List TkP} (h : mayM st t.t.kind = 0) : runM N st out (t :: r) = runM N (stepM st out t.t).1 (stepM st out t.t).2 r := by
  rw [runM, if_neg (by simpa using h)]

/-! ### what a reader that goes down the grammar may answer -/
/-- A datum may follow what is open; what can't be one's beginning is refused there as it would be in a datum's place. -/
def Wants (st : List Op) (ts : List TkP) : Prop :=
  fullB (topM st) = false ∧ (∀ t r, ts = t :: r → (t.t.kind = 1 → mayM st 1 = 40) ∧ (t.t.kind = 4 → mayM st 4 = 42)) ∧ (ts = [] → st ≠ [])
/-- The tokens begin with a datum, behind which so much is left. -/
def Gives (N n : Nat) (ts : List TkP) (d : PT) (rest : List TkP) : Prop := ∀ st out, st.length = n → Wants st ts → runM N st out ts = runM N (giveM st out d).1 (giveM st out d).2 rest
def Fails (N n : Nat) (ts : List TkP) (a : Nat) (e : Int) : Prop := ∀ st out, st.length = n → Wants st ts → runM N st out ts = ([], a, e)
/-- Within brackets, behind so many items. -/
def GivesIn (N n : Nat) (k : Int) (l : List PT) (ts : List TkP) (d : PT) (rest : List TkP) : Prop :=
  ∀ st out, st.length = n → fullB (topM st) = false → runM N (⟨k, l, -1⟩ :: st) out ts = runM N (giveM st out d).1 (giveM st out d).2 rest
def FailsIn (N n : Nat) (k : Int) (l : List PT) (ts : List TkP) (a : Nat) (e : Int) : Prop :=
  ∀ st out, st.length = n → fullB (topM st) = false → runM N (⟨k, l, -1⟩ :: st) out ts = ([], a, e)

theorem may_other {st : List Op} {k : Int} (h1 : k ≠ 1) (h4 : k ≠ 4) (hf : fullB (topM st) = false) : mayM st k = if (k = 0 ∨ k = 2 ∨ k = 3) ∧ 32 ≤ st.length then 43 else 0 := by
  unfold mayM; rw [if_neg h1, if_neg h4, hf]; simp
theorem gives_leaf {N n : Nat} {t : TkP} {r : List TkP} (h0 : t.t.kind ≠ 0) (h1 : t.t.kind ≠ 1) (h2 : t.t.kind ≠ 2) (h3 : t.t.kind ≠ 3) (h4 : t.t.kind ≠ 4) : Gives N n (t :: r) (leafD t.t) r := by
  intro st out _ hw
  have hm : mayM st t.t.kind = 0 := by rw [may_other h1 h4 hw.1, if_neg (by omega)]
  rw [run_next hm]
  unfold stepM
  rw [if_neg (by omega), if_neg h4, if_neg h1]
theorem fails_end {N n : Nat} : Fails N n [] N 41 := by
  intro st out _ hw
  rw [run_nil, if_neg (hw.2.2 rfl)]
theorem fails_close {N n : Nat} {t : TkP} {r : List TkP} (h : t.t.kind = 1) : Fails N n (t :: r) t.a 40 := by
  intro st out _ hw
  have hm := (hw.2.1 t r rfl).1 h
  rw [← h] at hm
  rw [run_bad (by rw [hm]; decide), hm]
theorem fails_dot {N n : Nat} {t : TkP} {r : List TkP} (h : t.t.kind = 4) : Fails N n (t :: r) t.a 42 := by
  intro st out _ hw
  have hm := (hw.2.1 t r rfl).2 h
  rw [← h] at hm
  rw [run_bad (by rw [hm]; decide), hm]
theorem fails_deep {N n : Nat} {t : TkP} {r : List TkP} (h : t.t.kind = 0 ∨ t.t.kind = 2 ∨ t.t.kind = 3) (hn : 32 ≤ n) : Fails N n (t :: r) t.a 43 := by
  intro st out hl hw
  have hm : mayM st t.t.kind = 43 := by rw [may_other (by omega) (by omega) hw.1, if_pos ⟨h, by omega⟩]
  rw [run_bad (by rw [hm]; decide), hm]
theorem run_open {N : Nat} {t : TkP} {r : List TkP} (h : t.t.kind = 0 ∨ t.t.kind = 2 ∨ t.t.kind = 3) {st : List Op} (hn : st.length < 32) (out : List PT) (hf : fullB (topM st) = false) :
    runM N st out (t :: r) = runM N (⟨t.t.kind, [], -1⟩ :: st) out r := by
  have hm : mayM st t.t.kind = 0 := by rw [may_other (by omega) (by omega) hf, if_neg (by omega)]
  rw [run_next hm]
  unfold stepM
  rw [if_pos h]
theorem wants_quote (st : List Op) (r : List TkP) : Wants (⟨3, [], -1⟩ :: st) r := by
  refine ⟨rfl, fun t q _ => ⟨fun _ => ?_, fun _ => ?_⟩, fun _ => by simp⟩
  · unfold mayM topM; simp
  · unfold mayM topM; simp
theorem gives_quote {N n : Nat} {t : TkP} {r : List TkP} {d : PT} {q : List TkP} (h : t.t.kind = 3) (hn : n < 32) (hd : Gives N (n + 1) r d q) : Gives N n (t :: r) (quoteD d) q := by
  intro st out hl hw
  rw [run_open (by omega) (by omega) out hw.1, h, hd _ out (by simp; omega) (wants_quote st r)]
  unfold giveM
  rw [endedM, if_pos rfl]
theorem fails_quote {N n : Nat} {t : TkP} {r : List TkP} {a : Nat} {e : Int} (h : t.t.kind = 3) (hn : n < 32) (hd : Fails N (n + 1) r a e) : Fails N n (t :: r) a e := by
  intro st out hl hw
  rw [run_open (by omega) (by omega) out hw.1, h, hd _ out (by simp; omega) (wants_quote st r)]
theorem gives_open {N n : Nat} {t : TkP} {r : List TkP} {d : PT} {q : List TkP} (h : t.t.kind = 0 ∨ t.t.kind = 2) (hn : n < 32) (hd : GivesIn N n t.t.kind [] r d q) : Gives N n (t :: r) d q := by
  intro st out hl hw
  rw [run_open (by omega) (by omega) out hw.1, hd st out hl hw.1]
theorem fails_open {N n : Nat} {t : TkP} {r : List TkP} {a : Nat} {e : Int} (h : t.t.kind = 0 ∨ t.t.kind = 2) (hn : n < 32) (hd : FailsIn N n t.t.kind [] r a e) : Fails N n (t :: r) a e := by
  intro st out hl hw
  rw [run_open (by omega) (by omega) out hw.1, hd st out hl hw.1]
theorem in_close {N n : Nat} {k : Int} {l : List PT} {t : TkP} {r : List TkP} (_hk : k = 0 ∨ k = 2) (h : t.t.kind = 1) : GivesIn N n k l (t :: r) (.mk (if k = 2 then 7 else 5) 0 ⟨#[]⟩ l) r := by
  intro st out _ _
  have hm : mayM (⟨k, l, -1⟩ :: st) t.t.kind = 0 := by
    rw [h]; unfold mayM topM
    rw [if_pos rfl, if_neg]
    simp only [List.headD_cons]; omega
  rw [run_next hm]
  unfold stepM
  rw [if_neg (by omega), if_neg (by omega), if_pos h]
  have : closedM (topM (⟨k, l, -1⟩ :: st)) = .mk (if k = 2 then 7 else 5) 0 ⟨#[]⟩ l := by
    rcases _hk with rfl | rfl <;> simp [closedM, topM]
  rw [this]; rfl
theorem wants_in {k : Int} {l : List PT} {ts : List TkP} (st : List Op) (_hk : k = 0 ∨ k = 2) (h1 : ∀ t r, ts = t :: r → t.t.kind ≠ 1) (h4 : k = 0 → l ≠ [] → ∀ t r, ts = t :: r → t.t.kind ≠ 4) : Wants (⟨k, l, -1⟩ :: st) ts := by
  refine ⟨rfl, fun t q e => ⟨fun h => absurd h (h1 t q e), fun h => ?_⟩, fun _ => by simp⟩
  unfold mayM topM
  rw [if_neg (by decide), if_pos rfl, if_pos]
  simp only [List.headD_cons]
  by_cases h0 : k = 0
  · by_cases hl : l = []
    · exact .inr (.inr hl)
    · exact absurd h (h4 h0 hl t q e)
  · exact .inl h0
theorem give_in {k : Int} (hk : k = 0 ∨ k = 2) (l : List PT) (z : Int) (st : List Op) (out : List PT) (d : PT) : giveM (⟨k, l, z⟩ :: st) out d = (⟨k, l ++ [d], z⟩ :: st, out) := by
  unfold giveM
  rw [endedM, if_neg (by simp only []; omega)]
  simp
theorem in_item {N n : Nat} {k : Int} {l : List PT} {ts : List TkP} {d : PT} {q : List TkP} (hk : k = 0 ∨ k = 2) (h1 : ∀ t r, ts = t :: r → t.t.kind ≠ 1) (h4 : k = 0 → l ≠ [] → ∀ t r, ts = t :: r → t.t.kind ≠ 4) (hd : Gives N (n + 1) ts d q)
    {D : PT} {rest : List TkP} (hr : GivesIn N n k (l ++ [d]) q D rest) : GivesIn N n k l ts D rest := by
  intro st out hl hf
  rw [hd _ out (by simp; omega) (wants_in st hk h1 h4), give_in hk, hr st out hl hf]
theorem in_item_fails {N n : Nat} {k : Int} {l : List PT} {ts : List TkP} {d : PT} {q : List TkP} (hk : k = 0 ∨ k = 2) (h1 : ∀ t r, ts = t :: r → t.t.kind ≠ 1) (h4 : k = 0 → l ≠ [] → ∀ t r, ts = t :: r → t.t.kind ≠ 4) (hd : Gives N (n + 1) ts d q)
    {a : Nat} {e : Int} (hr : FailsIn N n k (l ++ [d]) q a e) : FailsIn N n k l ts a e := by
  intro st out hl hf
  rw [hd _ out (by simp; omega) (wants_in st hk h1 h4), give_in hk, hr st out hl hf]
theorem in_fails {N n : Nat} {k : Int} {l : List PT} {ts : List TkP} (hk : k = 0 ∨ k = 2) (h1 : ∀ t r, ts = t :: r → t.t.kind ≠ 1) (h4 : k = 0 → l ≠ [] → ∀ t r, ts = t :: r → t.t.kind ≠ 4)
    {a : Nat} {e : Int} (hd : Fails N (n + 1) ts a e) : FailsIn N n k l ts a e := by
  intro st out hl hf
  rw [hd _ out (by simp; omega) (wants_in st hk h1 h4)]
/-- A dot, what stands behind it, and what follows that. -/
theorem run_dot {N : Nat} {l : List PT} (hl : l ≠ []) {t : TkP} {r : List TkP} (h : t.t.kind = 4) (st : List Op) (out : List PT) : runM N (⟨0, l, -1⟩ :: st) out (t :: r) = runM N (⟨0, l, (l.length : Int)⟩ :: st) out r := by
  have hm : mayM (⟨0, l, -1⟩ :: st) t.t.kind = 0 := by
    rw [h]; unfold mayM topM
    rw [if_neg (by decide), if_pos rfl, if_neg]
    simp [hl]
  rw [run_next hm]
  unfold stepM
  rw [if_neg (by omega), if_pos h]
  rfl
theorem wants_tail (l : List PT) (st : List Op) (r : List TkP) : Wants (⟨0, l, (l.length : Int)⟩ :: st) r := by
  refine ⟨by unfold fullB topM; simp; omega, fun t q _ => ⟨fun _ => ?_, fun _ => ?_⟩, fun _ => by simp⟩
  · have : fullB ⟨0, l, (l.length : Int)⟩ = false := by unfold fullB; simp; omega
    unfold mayM topM
    rw [if_pos rfl, if_pos]
    simp only [List.headD_cons]
    exact .inr (.inr ⟨by omega, this⟩)
  · unfold mayM topM
    rw [if_neg (by decide), if_pos rfl, if_pos]
    simp only [List.headD_cons]
    exact .inr (.inl (by omega))
theorem full_tail (l : List PT) (d : PT) : fullB ⟨0, l ++ [d], (l.length : Int)⟩ = true := by unfold fullB; simp
theorem in_dot {N n : Nat} {l : List PT} (hl : l ≠ []) {t u : TkP} {r q : List TkP} {d : PT} (h : t.t.kind = 4) (hd : Gives N (n + 1) r d (u :: q)) (hu : u.t.kind = 1) : GivesIn N n 0 l (t :: r) (makeT l d) q := by
  intro st out hn hf
  rw [run_dot hl h, hd _ out (by simp; omega) (wants_tail l st r), give_in (.inl rfl)]
  have hm : mayM (⟨0, l ++ [d], (l.length : Int)⟩ :: st) u.t.kind = 0 := by
    rw [hu]; unfold mayM topM
    rw [if_pos rfl, if_neg]
    simp only [List.headD_cons]
    rw [full_tail]; simp
  rw [run_next hm]
  unfold stepM
  rw [if_neg (by omega), if_neg (by omega), if_pos hu]
  have : closedM (topM (⟨0, l ++ [d], (l.length : Int)⟩ :: st)) = makeT l d := by
    have h0 : ¬ ((l.length : Int) < 0) := by omega
    simp [closedM, topM, h0]
  rw [this]; rfl
theorem in_dot_end {N n : Nat} {l : List PT} (hl : l ≠ []) {t : TkP} {r : List TkP} {d : PT} (h : t.t.kind = 4) (hd : Gives N (n + 1) r d []) : FailsIn N n 0 l (t :: r) N 41 := by
  intro st out hn hf
  rw [run_dot hl h, hd _ out (by simp; omega) (wants_tail l st r), give_in (.inl rfl), run_nil, if_neg (by simp)]
theorem in_dot_more {N n : Nat} {l : List PT} (hl : l ≠ []) {t u : TkP} {r q : List TkP} {d : PT} (h : t.t.kind = 4) (hd : Gives N (n + 1) r d (u :: q)) (hu : u.t.kind ≠ 1) : FailsIn N n 0 l (t :: r) u.a 42 := by
  intro st out hn hf
  rw [run_dot hl h, hd _ out (by simp; omega) (wants_tail l st r), give_in (.inl rfl)]
  have hm : mayM (⟨0, l ++ [d], (l.length : Int)⟩ :: st) u.t.kind = 42 := by
    unfold mayM topM
    rw [if_neg hu]
    by_cases h4 : u.t.kind = 4
    · rw [if_pos h4, if_pos (.inr (.inl (by simp only [List.headD_cons]; omega)))]
    · rw [if_neg h4]; exact if_pos (full_tail l d)
  rw [run_bad (by rw [hm]; decide), hm]
theorem in_dot_fails {N n : Nat} {l : List PT} (hl : l ≠ []) {t : TkP} {r : List TkP} (h : t.t.kind = 4) {a : Nat} {e : Int} (hd : Fails N (n + 1) r a e) : FailsIn N n 0 l (t :: r) a e := by
  intro st out hn hf
  rw [run_dot hl h, hd _ out (by simp; omega) (wants_tail l st r)]
theorem in_end {N n : Nat} {k : Int} {l : List PT} : FailsIn N n k l [] N 41 := by
  intro st out _ _
  rw [run_nil, if_neg (by simp)]
/-- Ahead of all, with nothing open. -/
theorem wants_top {ts : List TkP} (h : ts ≠ []) : Wants [] ts := by
  refine ⟨rfl, fun t q _ => ⟨fun _ => ?_, fun _ => ?_⟩, fun e => absurd e h⟩
  · unfold mayM topM; simp
  · unfold mayM topM; simp
theorem source_next {N : Nat} {ts : List TkP} {d : PT} {q : List TkP} (h : ts ≠ []) (hd : Gives N 0 ts d q) (out : List PT) : runM N [] out ts = runM N [] (out ++ [d]) q := by
  rw [hd [] out rfl (wants_top h)]
  unfold giveM
  rw [endedM]; simp
theorem source_fails {N : Nat} {ts : List TkP} {a : Nat} {e : Int} (h : ts ≠ []) (hd : Fails N 0 ts a e) (out : List PT) : runM N [] out ts = ([], a, e) := hd [] out rfl (wants_top h)
end Go.Proofs.YthfjlcflpneffaaGreatDoor

/-
Package read's reader in memory; next, passes, kindOf: what each answers. No condition.
-/
namespace Go.Proofs.YthfjlcflpneffaaGreatDoor
open Go.ChangeShapes Go.WideShapes Go.ChangeAt Go.RowKit
open Dat (PT makeT)

/-- Each token's number is an int, its text no longer than may be. -/
def OkToks (ts : List TkP) : Prop := ∀ t ∈ ts, Dat.ok64 t.t.int ∧ t.t.text.length ≤ maxLen
/-- Tokens that lie in a block below R. -/
def TokLo (w : World) (R : Nat) (ts : List TkP) (v : Value) : Prop :=
  ∃ a c, v = .slice a ts.length c ∧ ts.length ≤ c ∧ (c ≤ maxLen ∧ OkToks ts) ∧ (ts = [] ∨ ∃ g o, a = some ⟨g, o, none⟩ ∧ g < R ∧ ∀ (j : Nat) x, (cellsOf ts)[j]? = some x → w.cell? ⟨g, o + j, none⟩ = some x)
/-- The reader's block: the tokens that are not read yet, and where the source ends. -/
def RdAt (w : World) (R N : Nat) (ts : List TkP) : Prop := ∃ v, w.heap[R]? = some (.cells #[v, .int .i64 (N : Int)] 48 (0, 0)) ∧ TokLo w R ts v
/-- Nothing has turned but block R. -/
structure But (R : Nat) (w w' : World) : Prop where
  os : w'.os = w.os
  tape : w'.tape = w.tape
  output : w'.output = w.output
  size : w.heap.size ≤ w'.heap.size
  block : ∀ k, k < w.heap.size → k ≠ R → w'.heap[k]? = w.heap[k]?
theorem But.refl (R : Nat) (w : World) : But R w w := ⟨rfl, rfl, rfl, Nat.le_refl _, fun _ _ _ => rfl⟩
theorem But.of {R : Nat} {w w' : World} (h : Below w.heap.size w w') : But R w w' := ⟨h.os, h.tape, h.output, h.size, fun k hk _ => h.block k hk⟩
theorem But.trans {R : Nat} {a b c : World} (h : But R a b) (k : But R b c) : But R a c :=
  ⟨k.os.trans h.os, k.tape.trans h.tape, k.output.trans h.output, Nat.le_trans h.size k.size, fun i hi hr => (k.block i (Nat.lt_of_lt_of_le hi h.size) hr).trans (h.block i hi hr)⟩
theorem But.setCell {R : Nat} {a w : World} (h : But R a w) (o : Nat) (u : Value) : But R a (w.setCell ⟨R, o, none⟩ u) :=
  h.trans ⟨rfl, rfl, rfl, by simp [World.setCell], fun k _ hr => Below.heap_setCell _ _ _ _ hr⟩
theorem But.alloc {R : Nat} {a w : World} (h : But R a w) (o : Obj) : But R a (w.alloc o) := h.trans (.of ((Below.refl _ _).alloc (Nat.le_refl _) o))
theorem But.below {R : Nat} {w w' : World} (h : But R w w') (hR : R < w.heap.size) : Below R w w' := ⟨h.os, h.tape, h.output, h.size, fun k hk => h.block k (by omega) (by omega)⟩
theorem But.cell {R : Nat} {w w' : World} (h : But R w w') {b o : Nat} (hb : b < w.heap.size) (hr : b ≠ R) : w'.cell? ⟨b, o, none⟩ = w.cell? ⟨b, o, none⟩ := World.cell?_of_block (w := w) (a := ⟨b, o, none⟩) (h.block b hb hr)
theorem TokLo.but {R R' : Nat} {w w' : World} {ts : List TkP} {v : Value} (h : TokLo w R ts v) (hb : But R' w w') (hR : R ≤ R') (hs : R ≤ w.heap.size) : TokLo w' R ts v := by
  obtain ⟨a, c, e, h1, h2, h3⟩ := h
  refine ⟨a, c, e, h1, h2, h3.imp id ?_⟩
  rintro ⟨g, o, ea, hg, hc⟩
  exact ⟨g, o, ea, hg, fun j x hj => (hb.cell (by omega) (by omega)).trans (hc j x hj)⟩
theorem RdAt.lt {w : World} {R N : Nat} {ts : List TkP} (h : RdAt w R N ts) : R < w.heap.size := lt_of_block h.choose_spec.1
theorem RdAt.grown {w w' : World} {R N : Nat} {ts : List TkP} (h : RdAt w R N ts) (hb : Below w.heap.size w w') : RdAt w' R N ts := by
  have hlt := h.lt
  obtain ⟨v, h1, h2⟩ := h
  exact ⟨v, (hb.block R hlt).trans h1, h2.but (.of hb) (Nat.le_refl _) (by omega)⟩

/-- The first token's cells, through the reader. -/
theorem rd_first {w : World} {R N : Nat} {t : TkP} {r : List TkP} (h : RdAt w R N (t :: r)) : ∃ g o c, w.cell? ⟨R, 0, none⟩ = some (.slice (some ⟨g, o, none⟩) (r.length + 1) c) ∧ w.cell? ⟨R, 1, none⟩ = some (.int .i64 (N : Int)) ∧ w.frozen? ⟨R, 0, none⟩ = false ∧ r.length + 1 ≤ c ∧ c ≤ maxLen ∧ (g < w.heap.size ∧ Dat.ok64 t.t.int ∧ t.t.text.length ≤ maxLen) ∧
    w.cell? ⟨g, o, none⟩ = some (.int .i64 t.t.kind) ∧ w.cell? ⟨g, o + 1, none⟩ = some (.string ⟨t.t.text.toArray⟩) ∧ w.cell? ⟨g, o + 2, none⟩ = some (.int .i64 t.t.int) ∧ w.cell? ⟨g, o + 3, none⟩ = some (.int .i64 (t.a : Int)) ∧ w.cell? ⟨g, o + 4, none⟩ = some (.int .i64 (t.b : Int)) ∧
    (∀ c', r.length ≤ c' → c' ≤ maxLen → ∀ v, (r = [] → ∃ a, v = .slice a 0 c') → (r ≠ [] → v = .slice (some ⟨g, o + 5, none⟩) r.length c') → RdAt (w.setCell ⟨R, 0, none⟩ v) R N r) := by
  have hlt := h.lt
  obtain ⟨v, hb, a, c, rfl, h1, h2, h3⟩ := h
  rcases h3 with h3 | ⟨g, o, rfl, hg, hc⟩
  · cases h3
  obtain ⟨x0, x1, x2, x3, x4⟩ := cells_item hc 0 (by simp)
  simp only [Nat.zero_mul, Nat.add_zero, List.getElem_cons_zero] at x0 x1 x2 x3 x4
  refine ⟨g, o, c, ?_, ?_, Lib.frozen_of_heap hb 0, h1, h2.1, ⟨by omega, h2.2 t (List.mem_cons_self ..)⟩, x0, x1, x2, x3, x4, ?_⟩
  · rw [Lib.cell_of_heap hb]; rfl
  · rw [Lib.cell_of_heap hb]; rfl
  · intro c' hc1 hc2 v hv0 hv1
    have hb2 : (w.setCell ⟨R, 0, none⟩ v).heap[R]? = some (.cells #[v, .int .i64 (N : Int)] 48 (0, 0)) := heap_setCell_same w R 0 _ 48 v hb
    refine ⟨v, hb2, ?_⟩
    by_cases hr : r = []
    · obtain ⟨a, rfl⟩ := hv0 hr
      exact ⟨a, c', by rw [hr]; rfl, hc1, ⟨hc2, fun u hu => h2.2 u (List.mem_cons_of_mem _ hu)⟩, .inl hr⟩
    · refine ⟨_, c', hv1 hr, hc1, ⟨hc2, fun u hu => h2.2 u (List.mem_cons_of_mem _ hu)⟩, .inr ⟨g, o + 5, rfl, hg, fun j x hj => ?_⟩⟩
      have : (cellsOf (t :: r))[5 + j]? = some x := by
        have e : cellsOf (t :: r) = t.cells ++ cellsOf r := rfl
        have e5 : t.cells.length = 5 := rfl
        rw [e, List.getElem?_append_right (by omega), e5, Nat.add_sub_cancel_left]; exact hj
      have hcc := hc (5 + j) x this
      rw [← Nat.add_assoc] at hcc
      rw [World.cell?_of_block (w := w) (a := ⟨g, o + 5 + j, none⟩) (Below.heap_setCell w ⟨R, 0, none⟩ v g (by show g ≠ R; omega))]
      exact hcc

/-- What is wrong, as the reader panics with it. -/
def wrongP (a : Nat) (e : Int) : Ending := .panicked [{ v := .iface 46 (.agg #[.int .i64 (a : Int), .int .i64 e]), recovered := false }]
def TkP.val (q : TkP) : Value := .agg #[.int .i64 q.t.kind, .string ⟨q.t.text.toArray⟩, .int .i64 q.t.int, .int .i64 (q.a : Int), .int .i64 (q.b : Int)]

set_option maxRecDepth 100000 in
theorem next_none (w : World) (R N : Nat) (h : RdAt w R N []) :
    Calls Tryz.prog 53 #[.pointer (some ⟨R, 0, none⟩)] w fun e w' => e = wrongP N 41 ∧ Below w.heap.size w w' := by
  have hlt := h.lt
  obtain ⟨v, hb, a, c, rfl, h1, ⟨h2, _⟩, h3⟩ := h
  have c0 : w.cell? ⟨R, 0, none⟩ = some (.slice a 0 c) := by rw [Lib.cell_of_heap hb]; rfl
  have c1 : w.cell? ⟨R, 1, none⟩ = some (.int .i64 (N : Int)) := by rw [Lib.cell_of_heap hb]; rfl
  unfold maxLen at h2
  go_enter Tryz.func53, Tryz.ntmps53
  go_wp2
  exact ⟨rfl, rfl, (Below.refl _ _).alloc (Nat.le_refl _) _⟩
theorem tok_new (w : World) (t : TkP) : ((w.alloc (.cells #[.int .i64 t.t.kind, .string ⟨t.t.text.toArray⟩, .int .i64 t.t.int, .int .i64 (t.a : Int), .int .i64 (t.b : Int)] 52)).alloc (.cells #[.int .i64 t.t.kind, .string ⟨t.t.text.toArray⟩, .int .i64 t.t.int, .int .i64 (t.a : Int), .int .i64 (t.b : Int)] 52)).heap[w.heap.size]? = some (.cells #[.int .i64 t.t.kind, .string ⟨t.t.text.toArray⟩, .int .i64 t.t.int, .int .i64 (t.a : Int), .int .i64 (t.b : Int)] 52 (0, 0)) ∧
    Below w.heap.size w ((w.alloc (.cells #[.int .i64 t.t.kind, .string ⟨t.t.text.toArray⟩, .int .i64 t.t.int, .int .i64 (t.a : Int), .int .i64 (t.b : Int)] 52)).alloc (.cells #[.int .i64 t.t.kind, .string ⟨t.t.text.toArray⟩, .int .i64 t.t.int, .int .i64 (t.a : Int), .int .i64 (t.b : Int)] 52)) := by
  refine ⟨?_, ((Below.refl _ _).alloc (Nat.le_refl _) _).alloc (by simp) _⟩
  rw [Lib.alloc_old _ _ _ (by simp)]
  exact heap_alloc_new w _
set_option maxRecDepth 100000 in
theorem next_some (w : World) (R N : Nat) (t : TkP) (r : List TkP) (h : RdAt w R N (t :: r)) :
    Calls Tryz.prog 53 #[.pointer (some ⟨R, 0, none⟩)] w fun e w' => e = .returned t.val ∧ RdAt w' R N r ∧ But R w w' := by
  have hlt := h.lt
  obtain ⟨g, o, c, c0, c1, f0, h1, h2, ⟨hg, _, _⟩, x0, x1, x2, x3, x4, fin⟩ := rd_first h
  have FIN := Lib.hid fin
  have hl : (0 : Int) < (r.length : Int) + 1 := by omega
  have hz : ((r.length : Int) + 1 == 0) = false := by rw [beq_eq_false_iff_ne]; omega
  unfold maxLen at h2
  clear fin
  go_enter Tryz.func53, Tryz.ntmps53
  go_wp2
  · obtain rfl : c = 1 := by assumption
    have hr : r = [] := List.length_eq_zero_iff.1 (by omega)
    have F := FIN.out 0 (by omega) (by decide) (.slice (some ⟨g, o, none⟩) 0 0) (fun _ => ⟨_, rfl⟩) (fun h => absurd hr h)
    subst hr
    have e1 := tok_new (w.setCell ⟨R, 0, none⟩ (.slice (some ⟨g, o, none⟩) 0 0)) t
    exact bodyPost_ret (results_cell_row (P := Tryz.prog) rfl _ _ w.heap.size 52 _ (0, 0) _ rfl (by simpa using e1.1) Tryz.underlying52 rfl size35) rfl ⟨rfl, F.grown e1.2, ((But.refl R w).setCell 0 _).trans (.of e1.2)⟩
  · have F := FIN.out (c - 1) (by omega) (by unfold maxLen; omega) (.slice (some ⟨g, o + 5, none⟩) r.length (c - 1)) (fun h => ⟨_, by rw [h]; rfl⟩) (fun _ => rfl)
    have e1 := tok_new (w.setCell ⟨R, 0, none⟩ (.slice (some ⟨g, o + 5, none⟩) r.length (c - 1))) t
    exact bodyPost_ret (results_cell_row (P := Tryz.prog) rfl _ _ w.heap.size 52 _ (0, 0) _ rfl (by simpa using e1.1) Tryz.underlying52 rfl size35) rfl ⟨rfl, F.grown e1.2, ((But.refl R w).setCell 0 _).trans (.of e1.2)⟩

def isKind (ts : List TkP) (k : Int) : Bool := match ts with
  | [] => false
  | t :: _ => t.t.kind == k
set_option maxRecDepth 100000 in
theorem passes_no (w : World) (R N : Nat) (ts : List TkP) (k : Int) (h : RdAt w R N ts) (hk : isKind ts k = false) :
    Calls Tryz.prog 94 #[.pointer (some ⟨R, 0, none⟩), .int .i64 k] w fun e w' => e = .returned (.bool false) ∧ w' = w := by
  match ts, h, hk with
  | [], h, _ =>
    have hlt := h.lt
    obtain ⟨v, hb, a, c, rfl, h1, ⟨h2, _⟩, h3⟩ := h
    have c0 : w.cell? ⟨R, 0, none⟩ = some (.slice a 0 c) := by rw [Lib.cell_of_heap hb]; rfl
    unfold maxLen at h2
    go_enter Tryz.func94, Tryz.ntmps94
    go_wp2
    go_ret
    exact ⟨rfl, rfl⟩
  | t :: r, h, hk =>
    have hlt := h.lt
    have hk' : (t.t.kind != k) = true := by simpa [isKind] using hk
    obtain ⟨g, o, c, c0, c1, f0, h1, h2, ⟨hg, _, _⟩, x0, x1, x2, x3, x4, fin⟩ := rd_first h
    have hl : (0 : Int) < (r.length : Int) + 1 := by omega
    have hz : ((r.length : Int) + 1 == 0) = false := by rw [beq_eq_false_iff_ne]; omega
    unfold maxLen at h2
    clear fin h
    go_enter Tryz.func94, Tryz.ntmps94
    go_wp2
    go_ret
    exact ⟨rfl, rfl⟩
set_option maxRecDepth 100000 in
theorem passes_yes (w : World) (R N : Nat) (t : TkP) (r : List TkP) (k : Int) (h : RdAt w R N (t :: r)) (hk : t.t.kind = k) :
    Calls Tryz.prog 94 #[.pointer (some ⟨R, 0, none⟩), .int .i64 k] w fun e w' => e = .returned (.bool true) ∧ RdAt w' R N r ∧ But R w w' := by
  have hlt := h.lt
  obtain ⟨g, o, c, c0, c1, f0, h1, h2, ⟨hg, _, _⟩, x0, x1, x2, x3, x4, fin⟩ := rd_first h
  have FIN := Lib.hid fin
  have hl : (0 : Int) < (r.length : Int) + 1 := by omega
  have hz : ((r.length : Int) + 1 == 0) = false := by rw [beq_eq_false_iff_ne]; omega
  have hk' : (t.t.kind != k) = false := by simpa using hk
  unfold maxLen at h2
  clear fin h hk
  go_enter Tryz.func94, Tryz.ntmps94
  go_wp2
  · obtain rfl : c = 1 := by assumption
    have hr : r = [] := List.length_eq_zero_iff.1 (by omega)
    have F := FIN.out 0 (by omega) (by decide) (.slice (some ⟨g, o, none⟩) 0 0) (fun _ => ⟨_, rfl⟩) (fun h => absurd hr h)
    subst hr
    go_ret
    exact ⟨rfl, F, (But.refl R w).setCell 0 _⟩
  · have F := FIN.out (c - 1) (by omega) (by unfold maxLen; omega) (.slice (some ⟨g, o + 5, none⟩) r.length (c - 1)) (fun h => ⟨_, by rw [h]; rfl⟩) (fun _ => rfl)
    go_ret
    exact ⟨rfl, F, (But.refl R w).setCell 0 _⟩
theorem kindOf_any (k : Int) (w : World) : Calls Tryz.prog 55 #[.int .i64 k] w fun e w' => e = .returned (.int .i64 (kindT k)) ∧ w' = w := by
  unfold kindT
  by_cases h5 : k = 5
  · subst h5
    go_enter Tryz.func55, Tryz.ntmps55
    go_wp2
    go_ret
    exact ⟨rfl, rfl⟩
  by_cases h6 : k = 6
  · subst h6
    go_enter Tryz.func55, Tryz.ntmps55
    go_wp2
    go_ret
    exact ⟨rfl, rfl⟩
  by_cases h7 : k = 7
  · subst h7
    go_enter Tryz.func55, Tryz.ntmps55
    go_wp2
    go_ret
    exact ⟨rfl, rfl⟩
  by_cases h8 : k = 8
  · subst h8
    go_enter Tryz.func55, Tryz.ntmps55
    go_wp2
    go_ret
    exact ⟨rfl, rfl⟩
  rw [if_neg h5, if_neg h6, if_neg h7, if_neg h8]
  have b5 : (k == 5) = false := by simpa using h5
  have b6 : (k == 6) = false := by simpa using h6
  have b7 : (k == 7) = false := by simpa using h7
  have b8 : (k == 8) = false := by simpa using h8
  clear h5 h6 h7 h8
  go_enter Tryz.func55, Tryz.ntmps55
  go_wp2
  go_ret
  exact ⟨rfl, rfl⟩
end Go.Proofs.YthfjlcflpneffaaGreatDoor

/-
New data among blocks that are told by a predicate; rows that grow by append. No condition.
-/
namespace Go.Proofs.YthfjlcflpneffaaGreatDoor
open Go.ChangeShapes Go.WideShapes Go.ChangeAt Go.RowKit
open Dat (PT makeT RowX NewS NewV NewX NewD NewAt)
set_option maxRecDepth 100000

mutual
/-- The datum lies at four cells from ⟨b, o⟩ on, and its rows lie in blocks of S. -/
def InD (w : World) (S : Nat → Prop) : PT → Nat → Nat → Prop
  | .mk k i s l, b, o => Dat.ok64 k ∧ Dat.ok64 i ∧ s.size ≤ maxLen ∧ w.cell? ⟨b, o, none⟩ = some (.int .i64 k) ∧ w.cell? ⟨b, o + 1, none⟩ = some (.int .i64 i) ∧ w.cell? ⟨b, o + 2, none⟩ = some (.string s) ∧
      ∃ v, w.cell? ⟨b, o + 3, none⟩ = some v ∧ ∃ a c, v = .slice a l.length c ∧ l.length ≤ c ∧ c ≤ maxLen ∧ (a = none → c = 0) ∧ (l = [] ∨ ∃ b' o', a = some ⟨b', o', none⟩ ∧ S b' ∧ InAt w S l b' o')
def InAt (w : World) (S : Nat → Prop) : List PT → Nat → Nat → Prop
  | [], _, _ => True
  | t :: l, b, o => InD w S t b o ∧ InAt w S l b (o + 4)
end
def InS (w : World) (S : Nat → Prop) (l : List PT) (v : Value) : Prop :=
  ∃ a c, v = .slice a l.length c ∧ l.length ≤ c ∧ c ≤ maxLen ∧ (a = none → c = 0) ∧ (l = [] ∨ ∃ b' o', a = some ⟨b', o', none⟩ ∧ S b' ∧ InAt w S l b' o')
theorem inD_mk {w : World} {S : Nat → Prop} {k i : Int} {s : ByteArray} {l : List PT} {b o : Nat} :
    InD w S (.mk k i s l) b o ↔ Dat.ok64 k ∧ Dat.ok64 i ∧ s.size ≤ maxLen ∧ w.cell? ⟨b, o, none⟩ = some (.int .i64 k) ∧ w.cell? ⟨b, o + 1, none⟩ = some (.int .i64 i) ∧ w.cell? ⟨b, o + 2, none⟩ = some (.string s) ∧
      ∃ v, w.cell? ⟨b, o + 3, none⟩ = some v ∧ InS w S l v := by
  rw [InD]; rfl
mutual
theorem InD.move {w w' : World} {S S' : Nat → Prop} (hS : ∀ b, S b → b < w.heap.size → S' b) (hc : ∀ b o v, S b → w.cell? ⟨b, o, none⟩ = some v → w'.cell? ⟨b, o, none⟩ = some v) :
    ∀ (t : PT) {b o : Nat}, S b → InD w S t b o → InD w' S' t b o
  | .mk k i s l, b, o, hb, h => by
    rw [inD_mk] at h ⊢
    obtain ⟨h1, h2, h3, c0, c1, c2, v, c3, a, c, e, hl, hm, hn, hr⟩ := h
    refine ⟨h1, h2, h3, hc _ _ _ hb c0, hc _ _ _ hb c1, hc _ _ _ hb c2, v, hc _ _ _ hb c3, a, c, e, hl, hm, hn, ?_⟩
    rcases hr with hr | ⟨b', o', ha, hlt, hr⟩
    · exact .inl hr
    · match l, hr with
      | [], _ => exact .inl rfl
      | u :: l, hr =>
        have hlt' : b' < w.heap.size := by
          match u, hr with
          | .mk k i s m, hr =>
            rw [InAt, inD_mk] at hr
            exact World.block_lt_of_cell? _ _ hr.1.2.2.2.1
        exact .inr ⟨b', o', ha, hS _ hlt hlt', InAt.move hS hc (u :: l) hlt hr⟩
theorem InAt.move {w w' : World} {S S' : Nat → Prop} (hS : ∀ b, S b → b < w.heap.size → S' b) (hc : ∀ b o v, S b → w.cell? ⟨b, o, none⟩ = some v → w'.cell? ⟨b, o, none⟩ = some v) :
    ∀ (l : List PT) {b o : Nat}, S b → InAt w S l b o → InAt w' S' l b o
  | [], _, _, _, _ => by rw [InAt]; trivial
  | t :: l, b, o, hb, h => by
    rw [InAt] at h ⊢
    exact ⟨InD.move hS hc t hb h.1, InAt.move hS hc l hb h.2⟩
end
theorem InS.move {w w' : World} {S S' : Nat → Prop} (hS : ∀ b, S b → b < w.heap.size → S' b) (hc : ∀ b o v, S b → w.cell? ⟨b, o, none⟩ = some v → w'.cell? ⟨b, o, none⟩ = some v) {l : List PT} {v : Value} (h : InS w S l v) : InS w' S' l v := by
  obtain ⟨a, c, e, hl, hm, hn, hr⟩ := h
  refine ⟨a, c, e, hl, hm, hn, ?_⟩
  rcases hr with hr | ⟨b', o', ha, hlt, hr⟩
  · exact .inl hr
  · match l, hr with
    | [], _ => exact .inl rfl
    | .mk k i s m :: l, hr =>
      have hlt' : b' < w.heap.size := by
        rw [InAt, inD_mk] at hr
        exact World.block_lt_of_cell? _ _ hr.1.2.2.2.1
      exact .inr ⟨b', o', ha, hS _ hlt hlt', hr.move hS hc _ hlt⟩
mutual
theorem InD.new {w : World} {C : Nat} : ∀ (t : PT) {b o : Nat}, InD w (C ≤ ·) t b o ↔ NewD w C t b o
  | .mk k i s l, b, o => by
    rw [inD_mk, Dat.newD_mk]
    have := fun b' o' => InAt.new (w := w) (C := C) l (b := b') (o := o')
    unfold InS NewS
    simp only [this]
theorem InAt.new {w : World} {C : Nat} : ∀ (l : List PT) {b o : Nat}, InAt w (C ≤ ·) l b o ↔ NewAt w C l b o
  | [], _, _ => by rw [InAt, NewAt]
  | t :: l, b, o => by
    rw [InAt, NewAt, InD.new t, InAt.new l]
end
theorem inS_new {w : World} {C : Nat} {l : List PT} {v : Value} : InS w (C ≤ ·) l v ↔ NewS w C l v := by
  unfold InS NewS
  simp only [InAt.new]

/-- A row of data that is this call's own, in a block from C on; its data's rows lie elsewhere, from C on. -/
def ItemsOwn (w : World) (C : Nat) (l : List PT) (v : Value) : Prop :=
  ∃ xs, w.ownsRow C 34 4 v l.length xs ∧ RowX (InS w fun b => C ≤ b ∧ v.ownBlock ≠ some b) l xs
theorem itemsOwn_nil (w : World) (C : Nat) : ItemsOwn w C [] (.slice none 0 0) := ⟨[], World.ownsRow_nil _ _ _ _, by rw [RowX]⟩
theorem ItemsOwn.shape {w : World} {C : Nat} {l : List PT} {v : Value} (h : ItemsOwn w C l v) : ∃ a c, v = .slice a l.length c := by
  obtain ⟨xs, h, _⟩ := h
  rcases h.2 with ⟨rfl, h0⟩ | ⟨g, cap, cur, rfl, _⟩
  · exact ⟨none, 0, by rw [h0]⟩
  · exact ⟨some ⟨g, 0, none⟩, cap, rfl⟩
theorem ItemsOwn.news {w : World} {C : Nat} {l : List PT} {v : Value} (h : ItemsOwn w C l v) : NewS w C l v := by
  obtain ⟨xs, ho, hx⟩ := h
  have hn : NewX w C l xs := RowX.imp (fun m u hm => inS_new.1 (hm.move (fun b hb _ => hb.1) (fun _ _ _ _ h => h))) hx
  rcases ho.2 with ⟨rfl, h0⟩ | ⟨g, cap, cur, rfl, hb, hcur, h1, h2, h3, h4⟩
  · obtain rfl : l = [] := List.length_eq_zero_iff.1 h0
    exact ⟨none, 0, rfl, Nat.le_refl _, Nat.zero_le _, fun _ => rfl, .inl rfl⟩
  · refine ⟨_, cap, rfl, h1, h2, (fun h => by cases h), .inr ⟨g, 0, rfl, hb, Dat.newAt_of_x hn fun j u hj => ?_⟩⟩
    rw [Nat.zero_add, Lib.cell_of_heap hcur]
    rw [← h4, List.getElem?_take] at hj
    split at hj
    · simpa using hj
    · cases hj
/-- Other blocks than the row's own are as they were. -/
theorem ItemsOwn.but {w w' : World} {C R : Nat} {l : List PT} {v : Value} (h : ItemsOwn w C l v) (hb : But R w w') (hR : R < C) : ItemsOwn w' C l v := by
  obtain ⟨xs, ho, hx⟩ := h
  refine ⟨xs, ⟨ho.1, ho.2.imp id ?_⟩, RowX.imp (fun m u hm => hm.move (fun b hb _ => hb) (fun b o v hS hc => ?_)) hx⟩
  · rintro ⟨g, cap, cur, e, h1, h2, h3⟩
    exact ⟨g, cap, cur, e, h1, (hb.block g (lt_of_block h2) (by omega)).trans h2, h3⟩
  · have h1 : C ≤ b := hS.1
    have h2 : b < w.heap.size := World.block_lt_of_cell? _ _ hc
    rw [hb.cell h2 (by omega)]; exact hc
/-- One item more. -/
theorem ItemsOwn.snoc {w w1 w2 : World} {C : Nat} {l : List PT} {v v' : Value} {k i : Int} {s : ByteArray} {m : List PT} {x : Value} {xs : List Value} {o : Obj}
    (hx : RowX (InS w1 fun b => C ≤ b ∧ v.ownBlock ≠ some b) l xs) (hd : NewV w1 w.heap.size (.mk k i s m) x) (hC : C ≤ w.heap.size) (hv : ∀ g, v.ownBlock = some g → g < w.heap.size)
    (hown : w2.ownsRow C 34 4 v' (l.length + 1) (xs ++ [.int .i64 k, .int .i64 i, .string s, x])) (hg : (w1.alloc o).grownBy w2 v.ownBlock) (hv' : ∀ g, v'.ownBlock = some g → v.ownBlock = some g ∨ w1.heap.size ≤ g) : ItemsOwn w2 C (l ++ [.mk k i s m]) v' := by
  have kept : ∀ b, b < w1.heap.size → v.ownBlock ≠ some b → w2.heap[b]? = w1.heap[b]? := fun b hb hne => by
    rw [hg.block b (by simp; omega) (fun e => hne e.symm), Lib.alloc_old _ _ _ hb]
  have hcell : ∀ b o u, v.ownBlock ≠ some b → w1.cell? ⟨b, o, none⟩ = some u → w2.cell? ⟨b, o, none⟩ = some u := fun b o u hne hc => by
    rw [World.cell?_of_block (w := w1) (a := ⟨b, o, none⟩) (kept b (World.block_lt_of_cell? _ _ hc) hne)]; exact hc
  have hS : ∀ b, (C ≤ b ∧ v.ownBlock ≠ some b) → b < w1.heap.size → C ≤ b ∧ v'.ownBlock ≠ some b := fun b hb hlt => ⟨hb.1, fun e => by
    rcases hv' b e with h | h
    · exact hb.2 h
    · omega⟩
  refine ⟨_, by rw [List.length_append]; exact hown, RowX.append ?_ (RowX.imp (fun m u hm => hm.move hS (fun b o u hb hc => hcell b o u hb.2 hc)) hx)⟩
  obtain ⟨d1, d2, d3, d4⟩ := hd
  rw [RowX]
  refine ⟨x, [], rfl, d1, d2, d3, ?_, by rw [RowX]⟩
  have hin := inS_new.2 d4
  have hne : ∀ b, w.heap.size ≤ b → v.ownBlock ≠ some b := fun b hb e => by have := hv b e; omega
  exact hin.move (fun b hb hlt => hS b ⟨by omega, hne b hb⟩ hlt) (fun b o u hb hc => hcell b o u (hne b hb) hc)
end Go.Proofs.YthfjlcflpneffaaGreatDoor

/-
Package read's vector: what it answers, where datum answers as it should of no more tokens. No condition.
-/
namespace Go.Proofs.YthfjlcflpneffaaGreatDoor
open Go.ChangeShapes Go.WideShapes Go.ChangeAt Go.RowKit
open Dat (PT makeT RowX NewS NewV NewX numT numsT)

def wrongC (a : Nat) (e : Int) : List PanicEntry := [{ v := .iface 46 (.agg #[.int .i64 (a : Int), .int .i64 e]), recovered := false }]
/-- What datum answers of tokens, within so many. -/
def GotD (N R n : Nat) (ts : List TkP) (w : World) (e : Ending) (w' : World) : Prop :=
  But R w w' ∧ ((∃ k i s l v rest, e = .returned (.agg #[.int .i64 k, .int .i64 i, .string s, v]) ∧ NewV w' w.heap.size (.mk k i s l) v ∧ numT (.mk k i s l) + 2 * rest.length + 1 ≤ 2 * ts.length ∧ Gives N n ts (.mk k i s l) rest ∧ RdAt w' R N rest) ∨
    ∃ a er, e = .panicked (wrongC a er) ∧ Fails N n ts a er)
def DatOk (N R m : Nat) : Prop := ∀ (w : World) (ts : List TkP) (n : Nat), ts.length ≤ m → n ≤ 32 → RdAt w R N ts →
  Calls Tryz.prog 39 #[.pointer (some ⟨R, 0, none⟩), .int .i64 (n : Int)] w (GotD N R n ts w)
/-- What vector, list answer, behind the opening bracket. -/
def GotIn (N R n : Nat) (k0 : Int) (ts : List TkP) (w : World) (e : Ending) (w' : World) : Prop :=
  But R w w' ∧ ((∃ k i s l v rest, e = .returned (.agg #[.int .i64 k, .int .i64 i, .string s, v]) ∧ NewV w' w.heap.size (.mk k i s l) v ∧ numT (.mk k i s l) + 2 * rest.length ≤ 2 * ts.length ∧ GivesIn N n k0 [] ts (.mk k i s l) rest ∧ RdAt w' R N rest) ∨
    ∃ a er, e = .panicked (wrongC a er) ∧ FailsIn N n k0 [] ts a er)

/-- How many items a slice has. -/
def lenOf : Value → Nat | .slice _ n _ => n | _ => 0
theorem infoDatum : (Tryz.prog.info? 34).map (fun i => (i.zero, i.size, i.bytes)) = some (some (.agg #[.int .i64 0, .int .i64 0, .string ⟨#[]⟩, .slice none 0 0]), 4, 56) := by kernel_rfl
abbrev zero4 : Array Value := #[.int .i64 0, .int .i64 0, .string ⟨#[]⟩, .slice none 0 0]

/-- What is known of the loop over the items of brackets: so many items are there, these tokens are left. -/
structure InLoop (N R n : Nat) (k0 : Int) (ts : List TkP) (w wr : World) (l : List PT) (q : List TkP) (v : Value) : Prop where
  own : ItemsOwn wr (w.heap.size + 1) l v
  rd : RdAt wr R N q
  but : But R w wr
  res : wr.heap[w.heap.size]? = some (.cells zero4 34 (0, 0))
  num : numsT l + 2 * q.length ≤ 2 * ts.length
  len : l.length + q.length ≤ ts.length
  ok : ∀ D rest, GivesIn N n k0 l q D rest → GivesIn N n k0 [] ts D rest
  bad : ∀ a er, FailsIn N n k0 l q a er → FailsIn N n k0 [] ts a er
theorem InLoop.start {N R n : Nat} {k0 : Int} {ts : List TkP} {w : World} (h : RdAt w R N ts) : InLoop N R n k0 ts w (w.alloc (.cells zero4 34)) [] ts (.slice none 0 0) :=
  ⟨itemsOwn_nil _ _, h.grown ((Below.refl _ _).alloc (Nat.le_refl _) _), (But.refl R w).alloc _, heap_alloc_new w _, by simp [numsT], by simp, fun _ _ h => h, fun _ _ h => h⟩

/-- The stores to a result. -/
theorem res_put {N R n : Nat} {k0 : Int} {ts : List TkP} {w wr : World} {l : List PT} {q : List TkP} {v : Value} (h : InLoop N R n k0 ts w wr l q v) (hw : RdAt w R N ts) :
    R < w.heap.size ∧ w.heap.size < wr.heap.size ∧ wr.cell? ⟨w.heap.size, 0, none⟩ = some (.int .i64 0) ∧ wr.cell? ⟨w.heap.size, 1, none⟩ = some (.int .i64 0) ∧ wr.cell? ⟨w.heap.size, 2, none⟩ = some (.string ⟨#[]⟩) ∧ wr.cell? ⟨w.heap.size, 3, none⟩ = some (.slice none 0 0) ∧
    wr.frozen? ⟨w.heap.size, 0, none⟩ = false ∧ wr.frozen? ⟨w.heap.size, 1, none⟩ = false ∧ wr.frozen? ⟨w.heap.size, 2, none⟩ = false ∧ wr.frozen? ⟨w.heap.size, 3, none⟩ = false := by
  refine ⟨hw.lt, lt_of_block h.res, ?_, ?_, ?_, ?_, Lib.frozen_of_heap h.res 0, Lib.frozen_of_heap h.res 1, Lib.frozen_of_heap h.res 2, Lib.frozen_of_heap h.res 3⟩
  all_goals (rw [Lib.cell_of_heap h.res]; rfl)

theorem res_cells {W : World} {b : Nat} (h : W.heap[b]? = some (.cells zero4 34 (0, 0))) : W.cell? ⟨b, 0, none⟩ = some (.int .i64 0) ∧ W.cell? ⟨b, 1, none⟩ = some (.int .i64 0) ∧ W.cell? ⟨b, 2, none⟩ = some (.string ⟨#[]⟩) ∧ W.cell? ⟨b, 3, none⟩ = some (.slice none 0 0) ∧
    W.frozen? ⟨b, 0, none⟩ = false ∧ W.frozen? ⟨b, 1, none⟩ = false ∧ W.frozen? ⟨b, 2, none⟩ = false ∧ W.frozen? ⟨b, 3, none⟩ = false := by
  refine ⟨?_, ?_, ?_, ?_, Lib.frozen_of_heap h 0, Lib.frozen_of_heap h 1, Lib.frozen_of_heap h 2, Lib.frozen_of_heap h 3⟩
  all_goals (rw [Lib.cell_of_heap h]; rfl)
theorem news_set {w : World} {C : Nat} {l : List PT} {v : Value} (h : NewS w C l v) {a : Addr} (ha : a.block < C) (u : Value) : NewS (w.setCell a u) C l v :=
  h.move (Nat.le_refl _) fun b o x hb hc => by
    rw [World.cell?_of_block (w := w) (a := ⟨b, o, none⟩) (Below.heap_setCell w a u b (by omega))]; exact hc
theorem RdAt.setCell {w : World} {R N : Nat} {ts : List TkP} (h : RdAt w R N ts) {b o : Nat} (hb : R < b) (u : Value) : RdAt (w.setCell ⟨b, o, none⟩ u) R N ts := by
  obtain ⟨v, h1, h2⟩ := h
  refine ⟨v, (Below.heap_setCell w ⟨b, o, none⟩ u R (by show R ≠ b; omega)).trans h1, ?_⟩
  obtain ⟨a, c, e, g1, g2, g3⟩ := h2
  refine ⟨a, c, e, g1, g2, g3.imp id ?_⟩
  rintro ⟨g, p, ea, hg, hc⟩
  exact ⟨g, p, ea, hg, fun j x hj => by
    rw [World.cell?_of_block (w := w) (a := ⟨g, p + j, none⟩) (Below.heap_setCell w ⟨b, o, none⟩ u g (by show g ≠ b; omega))]; exact hc j x hj⟩
theorem But.put {R : Nat} {w wr : World} (h : But R w wr) {b o : Nat} (hb : w.heap.size ≤ b) (u : Value) : But R w (wr.setCell ⟨b, o, none⟩ u) :=
  ⟨h.os, h.tape, h.output, by simp [World.setCell]; exact h.size, fun k hk hr => (Below.heap_setCell wr ⟨b, o, none⟩ u k (by show k ≠ b; omega)).trans (h.block k hk hr)⟩
theorem put4 {w : World} {b : Nat} {x0 x1 x2 x3 : Value} (hb : w.heap[b]? = some (.cells #[x0, x1, x2, x3] 34 (0, 0))) (y0 y1 y2 y3 : Value) :
    ((((w.setCell ⟨b, 0, none⟩ y0).setCell ⟨b, 1, none⟩ y1).setCell ⟨b, 2, none⟩ y2).setCell ⟨b, 3, none⟩ y3).heap[b]? = some (.cells #[y0, y1, y2, y3] 34 (0, 0)) := Dat.row_set4 hb y0 y1 y2 y3

theorem news_one {w : World} {C : Nat} {k i : Int} {s : ByteArray} {d : List PT} {x : Value} (h : NewV w C (.mk k i s d) x) : x.oneCell' = true := by
  obtain ⟨_, _, _, a, c, rfl, _⟩ := h
  rfl
theorem RdAt.grow {w1 w2 : World} {R N : Nat} {q : List TkP} {o : Obj} {row : Option Nat} (h : RdAt w1 R N q) (hg : (w1.alloc o).grownBy w2 row) (hrow : ∀ g, row = some g → R < g) : RdAt w2 R N q := by
  have hlt := h.lt
  have h' := h.grown ((Below.refl w1.heap.size w1).alloc (Nat.le_refl _) o)
  obtain ⟨v, h1, a, c, e, g1, g2, g3⟩ := h'
  refine ⟨v, (hg.block R (by simp; omega) (fun e => by have := hrow R e.symm; omega)).trans h1, a, c, e, g1, g2, g3.imp id ?_⟩
  rintro ⟨g, p, ea, hgR, hc⟩
  exact ⟨g, p, ea, hgR, fun j x hj => by
    rw [World.cell?_of_block (w := w1.alloc o) (a := ⟨g, p + j, none⟩) (hg.block g (by simp; omega) (fun e => by have := hrow g e.symm; omega))]; exact hc j x hj⟩
theorem But.grow {w w1 w2 : World} {R : Nat} {o : Obj} {row : Option Nat} (h : But R w w1) (hg : (w1.alloc o).grownBy w2 row) (hrow : ∀ g, row = some g → w.heap.size ≤ g) : But R w w2 := by
  have h2 := h.alloc o
  exact ⟨hg.os.trans h2.os, hg.tape.trans h2.tape, hg.output.trans h2.output, Nat.le_trans h2.size hg.size, fun k hk hr =>
    (hg.block k (Nat.lt_of_lt_of_le hk h2.size) (fun e => by have := hrow k e.symm; omega)).trans (h2.block k hk hr)⟩
theorem numsT_snoc (l : List PT) (t : PT) : numsT (l ++ [t]) = numsT l + numT t := by rw [Dat.numsT_append, numsT, numsT]; omega
/-- One round more of the loop. -/
theorem InLoop.snoc {N R n : Nat} {k0 : Int} {ts : List TkP} {w w0 w1 w2 : World} {l : List PT} {q rest : List TkP} {v x : Value} {k i : Int} {s : ByteArray} {d : List PT} {xs : List Value} {o : Obj} {g cap : Nat}
    (hL : InLoop N R n k0 ts w w0 l q v) (hbt : But R w0 w1) (hnew : NewV w1 w0.heap.size (.mk k i s d) x) (hnm : numT (.mk k i s d) + 2 * rest.length + 1 ≤ 2 * q.length)
    (hok : ∀ D r2, GivesIn N n k0 (l ++ [.mk k i s d]) rest D r2 → GivesIn N n k0 [] ts D r2) (hbad : ∀ a er, FailsIn N n k0 (l ++ [.mk k i s d]) rest a er → FailsIn N n k0 [] ts a er) (hrd : RdAt w1 R N rest)
    (hrx : RowX (InS w1 fun b => w.heap.size + 1 ≤ b ∧ v.ownBlock ≠ some b) l xs) (hR : R < w.heap.size)
    (hown : w2.ownsRow (w.heap.size + 1) 34 4 (.slice (some ⟨g, 0, none⟩) (l.length + 1) cap) (l.length + 1) (xs ++ [.int .i64 k, .int .i64 i, .string s, x]))
    (hgrow : (w1.alloc o).grownBy w2 v.ownBlock) (hlie : v.ownBlock = some g ∨ g = w1.heap.size + 1) : InLoop N R n k0 ts w w2 (l ++ [.mk k i s d]) rest (.slice (some ⟨g, 0, none⟩) (l.length + 1) cap) := by
  have hv : ∀ b, v.ownBlock = some b → w.heap.size + 1 ≤ b ∧ b < w0.heap.size := fun b hb => by
    obtain ⟨ys, ho, _⟩ := hL.own
    exact World.ownsRow.lt (w := w0) ho b hb
  have hsz := lt_of_block hL.res
  have h01 := hbt.size
  have hnum := hL.num
  have hlen := hL.len
  have hp := Dat.nums_len [PT.mk k i s d]
  have h1 : 1 ≤ numT (.mk k i s d) := by rw [numT]; omega
  refine ⟨ItemsOwn.snoc hrx hnew (by omega) (fun b hb => (hv b hb).2) hown hgrow (fun b hb => ?_), hrd.grow hgrow (fun b hb => by have := hv b hb; omega), (hL.but.trans hbt).grow hgrow (fun b hb => by have := hv b hb; omega), ?_, ?_, ?_, hok, hbad⟩
  · have e : g = b := by simpa [Value.ownBlock] using hb
    subst e
    rcases hlie with h | h
    · exact .inl h
    · right; omega
  · rw [hgrow.block w.heap.size (by simp; omega) (fun e => by have := hv _ e.symm; omega), Lib.alloc_old _ _ _ (by omega), hbt.block _ hsz (by omega)]
    exact hL.res
  · rw [numsT_snoc]; omega
  · simp only [List.length_append, List.length_cons, List.length_nil]; omega

set_option maxRecDepth 100000 in
set_option maxHeartbeats 2000000 in
theorem vector_of {N R m : Nat} (hD : DatOk N R m) (w : World) (ts : List TkP) (n : Nat) (hm : ts.length ≤ m) (hts : ts.length ≤ 4096) (hn : n < 32) (hr : RdAt w R N ts) :
    Calls Tryz.prog 76 #[.pointer (some ⟨R, 0, none⟩), .int .i64 ((n : Int) + 1)] w (GotIn N R n 2 ts w) := by
  obtain ⟨i0, hi, hz0, hz1, hz2⟩ := info_parts infoDatum
  have HDD := Lib.hid hD
  have HR0 := Lib.hid hr
  have L0 : Hid (InLoop N R n 2 ts w (w.alloc (.cells zero4 34)) [] ts (.slice none 0 0)) := Lib.hid (InLoop.start hr)
  have hRlt := hr.lt
  clear hD hr
  go_enter Tryz.func76, Tryz.ntmps76
  go_wp2
  go_loopw [5] (fun v wr => ∃ l q, InLoop N R n 2 ts w wr l q v) (fun v _ => ts.length - lenOf v)
  case atStart => exact ⟨[], ts, L0.out⟩
  case round =>
    obtain ⟨l, q, hL⟩ := hrel
    have HL := Lib.hid hL
    obtain ⟨a, c, rfl⟩ := hL.own.shape
    obtain ⟨_, hsz, c0, c1, c2, c3, f0, f1, f2, f3⟩ := res_put hL HR0.out
    clear hL
    by_cases hk : isKind q 1 = true
    · match q, HL, hk with
      | [], _, hk => cases hk
      | t :: q, HL, hk =>
        have ht : t.t.kind = 1 := by simpa [isKind] using hk
        go_wp2_with fail
        refine (passes_yes _ R N t q 1 HL.out.rd ht).mono ?_
        rintro e w1 ⟨rfl, hrd, hbt⟩
        have hcl := in_close (N := N) (n := n) (k := 2) (l := l) (r := q) (.inr rfl) ht
        have L1 : Hid (But R w w1 ∧ RdAt w1 R N q ∧ NewS w1 (w.heap.size + 1) l (.slice a l.length c) ∧ w1.heap[w.heap.size]? = some (.cells zero4 34 (0, 0))) := Lib.hid
          ⟨HL.out.but.trans hbt, hrd, (HL.out.own.but hbt (by omega)).news, (hbt.block _ hsz (by omega)).trans HL.out.res⟩
        have G1 : Hid (GivesIn N n 2 [] ts (.mk 7 0 ⟨#[]⟩ l) q) := Lib.hid (HL.out.ok _ _ hcl)
        have hnum := HL.out.num
        obtain ⟨d0, d1, d2, d3, g0, g1, g2, g3⟩ := res_cells L1.out.2.2.2
        have hsz1 : w.heap.size < w1.heap.size := lt_of_block L1.out.2.2.2
        clear hrd hbt hcl c0 c1 c2 c3 f0 f1 f2 f3
        go_wp2
        have e4 := put4 L1.out.2.2.2 (.int .i64 7) (.int .i64 0) (.string ⟨#[]⟩) (.slice a l.length c)
        refine bodyPost_ret (results_cell_row (P := Tryz.prog) rfl _ _ w.heap.size 34 _ (0, 0) _ rfl e4 Tryz.underlying34 rfl (by kernel_rfl)) rfl ⟨?_, .inl ⟨7, 0, ⟨#[]⟩, l, _, q, rfl, ?_, ?_, G1.out, ?_⟩⟩
        · exact (((L1.out.1.put (Nat.le_refl _) _).put (Nat.le_refl _) _).put (Nat.le_refl _) _).put (Nat.le_refl _) _
        · refine ⟨by unfold Dat.ok64; omega, by unfold Dat.ok64; omega, by decide, ?_⟩
          exact (news_set (news_set (news_set (news_set L1.out.2.2.1 (a := ⟨w.heap.size, 0, none⟩) (by simp only []; omega) _) (a := ⟨w.heap.size, 1, none⟩) (by simp only []; omega) _) (a := ⟨w.heap.size, 2, none⟩) (by simp only []; omega) _) (a := ⟨w.heap.size, 3, none⟩) (by simp only []; omega) _).move (by omega) fun _ _ _ _ h => h
        · rw [numT]; simp only [List.length_cons] at hnum; omega
        · exact (((L1.out.2.1.setCell (by omega) _).setCell (by omega) _).setCell (by omega) _).setCell (by omega) _
    · have hk' : isKind q 1 = false := by simpa using hk
      clear hk
      go_wp2_with fail
      refine (passes_no _ R N q 1 HL.out.rd hk').mono ?_
      rintro e w0 ⟨rfl, rfl⟩
      have hq : q.length ≤ m := by have := HL.out.len; omega
      have hl5 : l.length ≤ 4096 := by have := HL.out.len; omega
      have hk1 : ∀ t r, q = t :: r → t.t.kind ≠ 1 := fun t r e => by rw [e] at hk'; simpa [isKind] using hk'
      have HK1 := Lib.hid hk1
      clear hk1 hk'
      go_wp2_with fail
      refine (HDD.out _ q (n + 1) hq (by omega) HL.out.rd).mono ?_
      rintro e w1 ⟨hbt, ⟨k, i, s, d, x, rest, rfl, hnew, hnm, hg, hrd⟩ | ⟨at_, er, rfl, hf⟩⟩
      · have G1 : Hid (∀ D r2, GivesIn N n 2 (l ++ [.mk k i s d]) rest D r2 → GivesIn N n 2 [] ts D r2) := Lib.hid (fun D r2 h => HL.out.ok _ _ (in_item (.inr rfl) HK1.out (fun h => by cases h) hg h))
        have F1 : Hid (∀ a er, FailsIn N n 2 (l ++ [.mk k i s d]) rest a er → FailsIn N n 2 [] ts a er) := Lib.hid (fun a er h => HL.out.bad _ _ (in_item_fails (.inr rfl) HK1.out (fun h => by cases h) hg h))
        have OWN := Lib.hid (HL.out.own.but hbt (by omega))
        obtain ⟨xs, hox, hrx⟩ := OWN.out
        have HOX := Lib.hid hox
        have HRX := Lib.hid hrx
        have HNEW := Lib.hid hnew
        have HRD := Lib.hid hrd
        have HBT := Lib.hid hbt
        have HV : Hid (∀ g, (Value.slice a l.length c).ownBlock = some g → w.heap.size + 1 ≤ g ∧ g < w0.heap.size) := Lib.hid (fun g hg => by
          obtain ⟨ys, ho, _⟩ := HL.out.own
          exact World.ownsRow.lt (w := w0) ho g hg)
        have hwr1 := hbt.size
        clear hox hrx hnew hrd hbt hg
        go_wp2_with (at_builtin; refine wpList_append_lies _ rfl _ _ 22 rfl (w.heap.size + 1) 34 i0 _ 4 56 Tryz.underlying22 hi hz0 hz1 hz2 rfl (by decide) _ _ xs rfl (HOX.out.alloc _) ⟨w1.heap.size, 0, none⟩ 1 1 [.int .i64 k, .int .i64 i, .string s, x] rfl rfl ?c1 ?c2 ?c3 ?c4 ?c5 ?c6 _ rfl ?_)
        case c1 =>
          intro j u hj
          rw [add_plain, Nat.zero_add, Lib.cell_of_heap (heap_alloc_new w1 _)]
          simpa using hj
        case c2 =>
          intro u hu
          simp only [List.mem_cons, List.not_mem_nil, or_false] at hu
          rcases hu with rfl | rfl | rfl | rfl
          · rfl
          · rfl
          · rfl
          · exact news_one HNEW.out
        case c3 => exact Nat.one_pos
        case c4 => unfold maxLen; omega
        case c5 => omega
        case c6 => simp; omega
        intro g cap w2 hown hgrow hlie hglt
        have LN := Lib.hid (HL.out.snoc HBT.out HNEW.out hnm G1.out F1.out HRD.out HRX.out HR0.out.lt hown hgrow hlie)
        clear hown hgrow
        go_wp2
        go_roundw
        case rel => exact ⟨_, _, LN.out⟩
        case measure => have := LN.out.len; simp [lenOf] at this ⊢; omega
      · have F1 : Hid (FailsIn N n 2 [] ts at_ er) := Lib.hid (HL.out.bad _ _ (in_fails (.inr rfl) HK1.out (fun h => by cases h) hf))
        have HBT := Lib.hid (HL.out.but.trans hbt)
        clear hf hbt
        go_wp2
        exact ⟨rfl, HBT.out, .inr ⟨at_, er, rfl, F1.out⟩⟩
end Go.Proofs.YthfjlcflpneffaaGreatDoor

/-
Package read's tail and list: what they answer, where datum answers as it should of no more tokens. No condition.
-/
namespace Go.Proofs.YthfjlcflpneffaaGreatDoor
open Go.ChangeShapes Go.WideShapes Go.ChangeAt Go.RowKit
open Dat (PT makeT RowX NewS NewV NewX numT numsT)

/-- A result that stands in its block, when all is done. -/
structure ResEnd (N R : Nat) (w W : World) (q : List TkP) (k i : Int) (s : ByteArray) (d : List PT) (x : Value) : Prop where
  blk : W.heap[w.heap.size]? = some (.cells #[.int .i64 k, .int .i64 i, .string s, x] 34 (0, 0))
  but : But R w W
  rd : RdAt W R N q
  new : NewV W w.heap.size (.mk k i s d) x
theorem ResEnd.put {N R : Nat} {w W : World} {q : List TkP} {k i : Int} {s : ByteArray} {d : List PT} {x : Value} (hb : But R w W) (hrd : RdAt W R N q) (hR : R < w.heap.size) (hres : W.heap[w.heap.size]? = some (.cells zero4 34 (0, 0)))
    (hk : Dat.ok64 k) (hi : Dat.ok64 i) (hs : s.size ≤ maxLen) (hn : NewS W (w.heap.size + 1) d x) :
    ResEnd N R w ((((W.setCell ⟨w.heap.size, 0, none⟩ (.int .i64 k)).setCell ⟨w.heap.size, 1, none⟩ (.int .i64 i)).setCell ⟨w.heap.size, 2, none⟩ (.string s)).setCell ⟨w.heap.size, 3, none⟩ x) q k i s d x := by
  refine ⟨put4 hres _ _ _ _, (((hb.put (Nat.le_refl _) _).put (Nat.le_refl _) _).put (Nat.le_refl _) _).put (Nat.le_refl _) _, (((hrd.setCell hR _).setCell hR _).setCell hR _).setCell hR _, hk, hi, hs, ?_⟩
  exact (news_set (news_set (news_set (news_set hn (a := ⟨w.heap.size, 0, none⟩) (by simp only []; omega) _) (a := ⟨w.heap.size, 1, none⟩) (by simp only []; omega) _) (a := ⟨w.heap.size, 2, none⟩) (by simp only []; omega) _) (a := ⟨w.heap.size, 3, none⟩) (by simp only []; omega) _).move (by omega) fun _ _ _ _ h => h
theorem ResEnd.alloc {N R : Nat} {w W : World} {q : List TkP} {k i : Int} {s : ByteArray} {d : List PT} {x : Value} (h : ResEnd N R w W q k i s d x) (o : Obj) : ResEnd N R w (W.alloc o) q k i s d x :=
  ⟨(Lib.alloc_old _ _ _ (lt_of_block h.blk)).trans h.blk, h.but.alloc o, h.rd.grown ((Below.refl _ _).alloc (Nat.le_refl _) o), h.new.1, h.new.2.1, h.new.2.2.1,
    h.new.2.2.2.move (Nat.le_refl _) (fun b o' v _ hc => Dat.kept_of_below ((Below.refl _ _).alloc (Nat.le_refl _) o) b o' v hc)⟩

/-- What tail answers, behind a dot. -/
def GotT (N R n : Nat) (ts : List TkP) (w : World) (e : Ending) (w' : World) : Prop :=
  But R w w' ∧ ((∃ k i s l v u rest, e = .returned (.agg #[.int .i64 k, .int .i64 i, .string s, v]) ∧ NewV w' w.heap.size (.mk k i s l) v ∧ numT (.mk k i s l) + 2 * rest.length + 3 ≤ 2 * ts.length ∧ Gives N n ts (.mk k i s l) (u :: rest) ∧ u.t.kind = 1 ∧ RdAt w' R N rest) ∨
    (∃ a er, e = .panicked (wrongC a er) ∧ Fails N n ts a er) ∨ (∃ d, e = .panicked (wrongC N 41) ∧ Gives N n ts d []) ∨ (∃ d u rest, e = .panicked (wrongC u.a 42) ∧ Gives N n ts d (u :: rest) ∧ u.t.kind ≠ 1))

set_option maxRecDepth 100000 in
set_option maxHeartbeats 2000000 in
theorem tail_of {N R m : Nat} (hD : DatOk N R m) (w : World) (ts : List TkP) (n : Nat) (hm : ts.length ≤ m) (hn : n ≤ 32) (hr : RdAt w R N ts) :
    Calls Tryz.prog 95 #[.pointer (some ⟨R, 0, none⟩), .int .i64 (n : Int)] w (GotT N R n ts w) := by
  have B0 : Hid (But R w (w.alloc (.cells zero4 34))) := Lib.hid ((But.refl R w).alloc _)
  have HD := Lib.hid (hD (w.alloc (.cells zero4 34)) ts n hm hn (hr.grown ((Below.refl _ _).alloc (Nat.le_refl _) _)))
  have hRlt := hr.lt
  clear hD hr
  go_enter Tryz.func95, Tryz.ntmps95
  go_wp2_with fail
  refine HD.out.mono ?_
  rintro e w1 ⟨hbt, ⟨k, i, s, d, x, rest, rfl, hnew, hnm, hg, hrd⟩ | ⟨at_, er, rfl, hf⟩⟩
  · have HBT := Lib.hid (B0.out.trans hbt)
    have HN := Lib.hid hnew
    have HG := Lib.hid hg
    have hblk : w1.heap[w.heap.size]? = some (.cells zero4 34 (0, 0)) := (hbt.block _ (by simp) (by omega)).trans (heap_alloc_new w _)
    have HB := Lib.hid hblk
    have hsz : w.heap.size < w1.heap.size := lt_of_block hblk
    obtain ⟨a, c, ex, _⟩ := hnew.2.2.2
    subst ex
    match rest, hrd, hnm, HG with
    | [], hrd, _, HG =>
      have hrd2 := hrd.grown ((Below.refl w1.heap.size w1).alloc (Nat.le_refl _) (.cells #[.int .i64 k, .int .i64 i, .string s, .slice a d.length c] 34))
      have HRD := Lib.hid hrd2
      clear hrd hrd2 hbt hg hblk hnew
      go_wp2_with fail
      refine (next_none _ R N HRD.out).mono ?_
      rintro e w2 ⟨he, hb2⟩
      change e = .panicked (wrongC N 41) at he
      subst he
      have HF := Lib.hid ((HBT.out.alloc (.cells #[.int .i64 k, .int .i64 i, .string s, .slice a d.length c] 34)).trans (.of hb2))
      clear hb2
      go_wp2
      exact ⟨rfl, HF.out, .inr (.inr (.inl ⟨_, rfl, HG.out⟩))⟩
    | u :: q, hrd, hnm, HG =>
      have hrd2 := hrd.grown ((Below.refl w1.heap.size w1).alloc (Nat.le_refl _) (.cells #[.int .i64 k, .int .i64 i, .string s, .slice a d.length c] 34))
      have HRD := Lib.hid hrd2
      clear hrd hrd2 hbt hg hblk hnew
      go_wp2_with fail
      refine (next_some _ R N u q HRD.out).mono ?_
      rintro e w2 ⟨he, hrd, hb2⟩
      change e = .returned (.agg #[.int .i64 u.t.kind, .string ⟨u.t.text.toArray⟩, .int .i64 u.t.int, .int .i64 (u.a : Int), .int .i64 (u.b : Int)]) at he
      subst he
      have S2 : Hid (But R w w2 ∧ RdAt w2 R N q ∧ NewS w2 (w.heap.size + 1) d (.slice a d.length c) ∧ w2.heap[w.heap.size]? = some (.cells zero4 34 (0, 0)) ∧ w2.heap[w1.heap.size]? = some (.cells #[.int .i64 k, .int .i64 i, .string s, .slice a d.length c] 34 (0, 0))) := Lib.hid (by
        have hal := But.of (R := R) ((Below.refl w1.heap.size w1).alloc (Nat.le_refl _) (.cells #[.int .i64 k, .int .i64 i, .string s, .slice a d.length c] 34))
        have h2 := hal.trans hb2
        refine ⟨HBT.out.trans h2, hrd, ?_, (h2.block _ hsz (by omega)).trans HB.out, (hb2.block _ (by simp) (by omega)).trans (heap_alloc_new w1 _)⟩
        refine HN.out.2.2.2.move (by simp) fun b o v hb hc => ?_
        have hb' : w.heap.size + 1 ≤ b := by simpa using hb
        have hlt : b < w1.heap.size := World.block_lt_of_cell? _ _ hc
        rw [h2.cell hlt (by omega)]; exact hc)
      obtain ⟨d0, d1, d2, d3, g0, g1, g2, g3⟩ := res_cells S2.out.2.2.2.1
      have x0 : w2.cell? ⟨w1.heap.size, 0, none⟩ = some (.int .i64 k) := by rw [Lib.cell_of_heap S2.out.2.2.2.2]; rfl
      have x1 : w2.cell? ⟨w1.heap.size, 1, none⟩ = some (.int .i64 i) := by rw [Lib.cell_of_heap S2.out.2.2.2.2]; rfl
      have x2 : w2.cell? ⟨w1.heap.size, 2, none⟩ = some (.string s) := by rw [Lib.cell_of_heap S2.out.2.2.2.2]; rfl
      have x3 : w2.cell? ⟨w1.heap.size, 3, none⟩ = some (.slice a d.length c) := by rw [Lib.cell_of_heap S2.out.2.2.2.2]; rfl
      have hs1 : w1.heap.size < w2.heap.size := lt_of_block S2.out.2.2.2.2
      have hs2 : w.heap.size < w2.heap.size := lt_of_block S2.out.2.2.2.1
      clear hrd hb2
      by_cases hk : u.t.kind = 1
      · have hk' : (u.t.kind != 1) = false := by simpa using hk
        have HK := Lib.hid hk
        clear hk
        go_wp2
        have E := (ResEnd.put S2.out.1 S2.out.2.1 hRlt S2.out.2.2.2.1 HN.out.1 HN.out.2.1 HN.out.2.2.1 S2.out.2.2.1).alloc (.cells #[.int .i64 u.t.kind, .string ⟨u.t.text.toArray⟩, .int .i64 u.t.int, .int .i64 (u.a : Int), .int .i64 (u.b : Int)] 52)
        exact bodyPost_ret (results_cell_row (P := Tryz.prog) rfl _ _ w.heap.size 34 _ (0, 0) _ rfl E.blk Tryz.underlying34 rfl (by kernel_rfl)) rfl ⟨E.but, .inl ⟨k, i, s, d, _, u, q, rfl, E.new, by simp only [List.length_cons] at hnm; omega, HG.out, HK.out, E.rd⟩⟩
      · have hk' : (u.t.kind != 1) = true := by simpa using hk
        have HK := Lib.hid hk
        clear hk
        go_wp2
        exact ⟨rfl, S2.out.1.alloc _, .inr (.inr (.inr ⟨_, u, q, rfl, HG.out, HK.out⟩))⟩
  · have HF := Lib.hid (B0.out.trans hbt)
    have HFL := Lib.hid hf
    clear hbt hf
    go_wp2
    exact ⟨rfl, HF.out, .inr (.inl ⟨_, _, rfl, HFL.out⟩)⟩

theorem NewV.rep' {w : World} {C : Nat} {k i : Int} {s : ByteArray} {l : List PT} {v : Value} (h : NewV w C (.mk k i s l) v) : Dat.RepV w w.heap.size (.mk k i s l) v := ⟨h.1, h.2.1, h.2.2.1, h.2.2.2.rep⟩
theorem make_num (l : List PT) (t : PT) : numT (makeT l t) ≤ 1 + numsT l + numT t := by
  obtain ⟨k, i, s, m⟩ := t
  rw [makeT]
  split
  · omega
  · split
    · rw [numT, numT, Dat.numsT_append]; omega
    · rw [numT, numsT_snoc]; omega

set_option maxRecDepth 100000 in
set_option maxHeartbeats 4000000 in
theorem list_of {N R m : Nat} (hD : DatOk N R m) (w : World) (ts : List TkP) (n : Nat) (hm : ts.length ≤ m) (hts : ts.length ≤ 4096) (hn : n < 32) (hr : RdAt w R N ts) :
    Calls Tryz.prog 77 #[.pointer (some ⟨R, 0, none⟩), .int .i64 ((n : Int) + 1)] w (GotIn N R n 0 ts w) := by
  obtain ⟨i0, hi, hz0, hz1, hz2⟩ := info_parts infoDatum
  have HDD := Lib.hid hD
  have HR0 := Lib.hid hr
  have L0 : Hid (InLoop N R n 0 ts w (w.alloc (.cells zero4 34)) [] ts (.slice none 0 0)) := Lib.hid (InLoop.start hr)
  have hRlt := hr.lt
  clear hD hr
  go_enter Tryz.func77, Tryz.ntmps77
  go_wp2
  go_loopw [5] (fun v wr => ∃ l q, InLoop N R n 0 ts w wr l q v) (fun v _ => ts.length - lenOf v)
  case atStart => exact ⟨[], ts, L0.out⟩
  case round =>
    obtain ⟨l, q, hL⟩ := hrel
    have HL := Lib.hid hL
    obtain ⟨a, c, rfl⟩ := hL.own.shape
    obtain ⟨_, hsz, c0, c1, c2, c3, f0, f1, f2, f3⟩ := res_put hL HR0.out
    clear hL
    by_cases hk : isKind q 1 = true
    · match q, HL, hk with
      | [], _, hk => cases hk
      | t :: q, HL, hk =>
        have ht : t.t.kind = 1 := by simpa [isKind] using hk
        go_wp2_with fail
        refine (passes_yes _ R N t q 1 HL.out.rd ht).mono ?_
        rintro e w1 ⟨rfl, hrd, hbt⟩
        have hcl := in_close (N := N) (n := n) (k := 0) (l := l) (r := q) (.inl rfl) ht
        have L1 : Hid (But R w w1 ∧ RdAt w1 R N q ∧ NewS w1 (w.heap.size + 1) l (.slice a l.length c) ∧ w1.heap[w.heap.size]? = some (.cells zero4 34 (0, 0))) := Lib.hid
          ⟨HL.out.but.trans hbt, hrd, (HL.out.own.but hbt (by omega)).news, (hbt.block _ hsz (by omega)).trans HL.out.res⟩
        have G1 : Hid (GivesIn N n 0 [] ts (.mk 5 0 ⟨#[]⟩ l) q) := Lib.hid (HL.out.ok _ _ hcl)
        have hnum := HL.out.num
        obtain ⟨d0, d1, d2, d3, g0, g1, g2, g3⟩ := res_cells L1.out.2.2.2
        have hsz1 : w.heap.size < w1.heap.size := lt_of_block L1.out.2.2.2
        clear hrd hbt hcl c0 c1 c2 c3 f0 f1 f2 f3
        go_wp2
        have E := ResEnd.put (k := 5) (i := 0) (s := ⟨#[]⟩) L1.out.1 L1.out.2.1 hRlt L1.out.2.2.2 (by unfold Dat.ok64; omega) (by unfold Dat.ok64; omega) (by decide) L1.out.2.2.1
        exact bodyPost_ret (results_cell_row (P := Tryz.prog) rfl _ _ w.heap.size 34 _ (0, 0) _ rfl E.blk Tryz.underlying34 rfl (by kernel_rfl)) rfl ⟨E.but, .inl ⟨5, 0, ⟨#[]⟩, l, _, q, rfl, E.new, by rw [numT]; simp only [List.length_cons] at hnum; omega, G1.out, E.rd⟩⟩
    · have hk' : isKind q 1 = false := by simpa using hk
      clear hk
      have hq : q.length ≤ m := by have := HL.out.len; omega
      have hl5 : l.length ≤ 4096 := by have := HL.out.len; omega
      have hk1 : ∀ t r, q = t :: r → t.t.kind ≠ 1 := fun t r e => by rw [e] at hk'; simpa [isKind] using hk'
      have HK1 := Lib.hid hk1
      have HP := Lib.hid hk'
      clear hk1 hk'
      go_wp2_with fail
      refine (passes_no _ R N q 1 HL.out.rd HP.out).mono ?_
      rintro e w0 ⟨rfl, rfl⟩
      by_cases hdot : l ≠ [] ∧ isKind q 4 = true
      · obtain ⟨hl, hk4⟩ := hdot
        have hl0 : 0 < (l.length : Int) := by have := List.length_pos_iff.2 hl; omega
        have HLN := Lib.hid hl
        match q, HL, hk4, hq, HK1, HP with
        | [], _, hk4, _, _, _ => cases hk4
        | t :: q, HL, hk4, hq, HK1, HP =>
          have ht : t.t.kind = 4 := by simpa [isKind] using hk4
          have HT := Lib.hid ht
          have hnum := HL.out.num
          clear hl hk4 ht
          go_wp2_with fail
          refine (passes_yes _ R N t q 4 HL.out.rd HT.out).mono ?_
          rintro e w1 ⟨rfl, hrd, hbt⟩
          have S1 : Hid (But R w w1 ∧ RdAt w1 R N q ∧ NewS w1 (w.heap.size + 1) l (.slice a l.length c) ∧ w1.heap[w.heap.size]? = some (.cells zero4 34 (0, 0))) := Lib.hid
            ⟨HL.out.but.trans hbt, hrd, (HL.out.own.but hbt (by omega)).news, (hbt.block _ hsz (by omega)).trans HL.out.res⟩
          clear hrd hbt c0 c1 c2 c3 f0 f1 f2 f3
          go_wp2_with fail
          refine (tail_of HDD.out w1 q (n + 1) (by simp only [List.length_cons] at hq; omega) (by omega) S1.out.2.1).mono ?_
          rintro e w2 ⟨hbt, ⟨k, i, s, d, x, u, rest, rfl, hnew, hnm, hg, hu, hrd⟩ | ⟨at_, er, rfl, hf⟩ | ⟨dd, rfl, hg⟩ | ⟨dd, u, rest, rfl, hg, hu⟩⟩
          · have hs1 : w.heap.size < w1.heap.size := lt_of_block S1.out.2.2.2
            have S2 : Hid (But R w w2 ∧ RdAt w2 R N rest ∧ NewS w2 (w.heap.size + 1) l (.slice a l.length c) ∧ w2.heap[w.heap.size]? = some (.cells zero4 34 (0, 0))) := Lib.hid
              ⟨S1.out.1.trans hbt, hrd, S1.out.2.2.1.move (Nat.le_refl _) (fun b o v hb hc => by
                have hlt : b < w1.heap.size := World.block_lt_of_cell? _ _ hc
                rw [hbt.cell hlt (by omega)]; exact hc), (hbt.block _ hs1 (by omega)).trans S1.out.2.2.2⟩
            have G1 : Hid (GivesIn N n 0 [] ts (makeT l (.mk k i s d)) rest) := Lib.hid (HL.out.ok _ _ (in_dot HLN.out HT.out hg hu))
            have hs2 : w.heap.size < w2.heap.size := lt_of_block S2.out.2.2.2
            have hmk := make_num l (.mk k i s d)
            have hsum : numsT l + numT (.mk k i s d) + 2 * rest.length + 5 ≤ 2 * ts.length := by simp only [List.length_cons] at hnum; omega
            obtain ⟨rr, hrr⟩ : ∃ rr, rr = makeT l (.mk k i s d) := ⟨_, rfl⟩
            rw [← hrr] at G1 hmk
            have MK := Lib.hid (Dat.make_any l k i s d (.slice a l.length c) x w2 w2.heap.size S2.out.2.2.1.rep (NewV.rep' hnew) (Nat.le_refl _) (by omega) rr hrr)
            obtain ⟨ax, cx, ex, _⟩ := hnew.2.2.2
            subst ex
            clear hbt hnew hg hu hrd hrr
            obtain ⟨rk, ri, rs, rl⟩ := rr
            go_wp2_with fail
            refine MK.out.mono ?_
            rintro e w3 ⟨⟨x', he, _, hnew⟩, hb3⟩
            change e = .returned (.agg #[.int .i64 rk, .int .i64 ri, .string rs, x']) at he
            subst he
            have S3 : Hid (But R w w3 ∧ RdAt w3 R N rest ∧ NewV w3 (w.heap.size + 1) (.mk rk ri rs rl) x' ∧ w3.heap[w.heap.size]? = some (.cells zero4 34 (0, 0))) := Lib.hid
              ⟨S2.out.1.trans (.of hb3), S2.out.2.1.grown hb3, ⟨hnew.1, hnew.2.1, hnew.2.2.1, hnew.2.2.2.move (by omega) fun _ _ _ _ h => h⟩, (hb3.block _ hs2).trans S2.out.2.2.2⟩
            obtain ⟨ay, cy, ey, _⟩ := hnew.2.2.2
            subst ey
            clear hb3 hnew MK
            obtain ⟨d0, d1, d2, d3, g0, g1, g2, g3⟩ := res_cells S3.out.2.2.2
            have hs3 : w.heap.size < w3.heap.size := lt_of_block S3.out.2.2.2
            go_wp2
            have E := ResEnd.put S3.out.1 S3.out.2.1 hRlt S3.out.2.2.2 S3.out.2.2.1.1 S3.out.2.2.1.2.1 S3.out.2.2.1.2.2.1 S3.out.2.2.1.2.2.2
            exact bodyPost_ret (results_cell_row (P := Tryz.prog) rfl _ _ w.heap.size 34 _ (0, 0) _ rfl E.blk Tryz.underlying34 rfl (by kernel_rfl)) rfl ⟨E.but, .inl ⟨rk, ri, rs, rl, _, rest, rfl, E.new, by omega, G1.out, E.rd⟩⟩
          · have F1 : Hid (FailsIn N n 0 [] ts at_ er) := Lib.hid (HL.out.bad _ _ (in_dot_fails HLN.out HT.out hf))
            have HB := Lib.hid (S1.out.1.trans hbt)
            clear hf hbt
            go_wp2
            exact ⟨rfl, HB.out, .inr ⟨_, _, rfl, F1.out⟩⟩
          · have F1 : Hid (FailsIn N n 0 [] ts N 41) := Lib.hid (HL.out.bad _ _ (in_dot_end HLN.out HT.out hg))
            have HB := Lib.hid (S1.out.1.trans hbt)
            clear hg hbt
            go_wp2
            exact ⟨rfl, HB.out, .inr ⟨_, _, rfl, F1.out⟩⟩
          · have F1 : Hid (FailsIn N n 0 [] ts u.a 42) := Lib.hid (HL.out.bad _ _ (in_dot_more HLN.out HT.out hg hu))
            have HB := Lib.hid (S1.out.1.trans hbt)
            clear hg hbt hu
            go_wp2
            exact ⟨rfl, HB.out, .inr ⟨_, _, rfl, F1.out⟩⟩
      · have H4 : Hid (l ≠ [] → ∀ t r, q = t :: r → t.t.kind ≠ 4) := Lib.hid (fun hl t r e h4 => hdot ⟨hl, by rw [e]; simp [isKind, h4]⟩)
        by_cases hl : l = []
        · have hl0 : (l.length : Int) ≤ 0 := by rw [hl]; simp
          clear hl hdot
          go_wp2_with fail
          refine (HDD.out _ q (n + 1) hq (by omega) HL.out.rd).mono ?_
          rintro e w1 ⟨hbt, ⟨k, i, s, d, x, rest, rfl, hnew, hnm, hg, hrd⟩ | ⟨at_, er, rfl, hf⟩⟩
          · have G1 : Hid (∀ D r2, GivesIn N n 0 (l ++ [.mk k i s d]) rest D r2 → GivesIn N n 0 [] ts D r2) := Lib.hid (fun D r2 h => HL.out.ok _ _ (in_item (.inl rfl) HK1.out (fun _ => H4.out) hg h))
            have F1 : Hid (∀ a er, FailsIn N n 0 (l ++ [.mk k i s d]) rest a er → FailsIn N n 0 [] ts a er) := Lib.hid (fun a er h => HL.out.bad _ _ (in_item_fails (.inl rfl) HK1.out (fun _ => H4.out) hg h))
            have OWN := Lib.hid (HL.out.own.but hbt (by omega))
            obtain ⟨xs, hox, hrx⟩ := OWN.out
            have HOX := Lib.hid hox
            have HRX := Lib.hid hrx
            have HNEW := Lib.hid hnew
            have HRD := Lib.hid hrd
            have HBT := Lib.hid hbt
            have HV : Hid (∀ g, (Value.slice a l.length c).ownBlock = some g → w.heap.size + 1 ≤ g ∧ g < w0.heap.size) := Lib.hid (fun g hg => by
              obtain ⟨ys, ho, _⟩ := HL.out.own
              exact World.ownsRow.lt (w := w0) ho g hg)
            have hwr1 := hbt.size
            clear hox hrx hnew hrd hbt hg
            go_wp2_with (at_builtin; refine wpList_append_lies _ rfl _ _ 22 rfl (w.heap.size + 1) 34 i0 _ 4 56 Tryz.underlying22 hi hz0 hz1 hz2 rfl (by decide) _ _ xs rfl (HOX.out.alloc _) ⟨w1.heap.size, 0, none⟩ 1 1 [.int .i64 k, .int .i64 i, .string s, x] rfl rfl ?c1 ?c2 ?c3 ?c4 ?c5 ?c6 _ rfl ?_)
            case c1 =>
              intro j u hj
              rw [add_plain, Nat.zero_add, Lib.cell_of_heap (heap_alloc_new w1 _)]
              simpa using hj
            case c2 =>
              intro u hu
              simp only [List.mem_cons, List.not_mem_nil, or_false] at hu
              rcases hu with rfl | rfl | rfl | rfl
              · rfl
              · rfl
              · rfl
              · exact news_one HNEW.out
            case c3 => exact Nat.one_pos
            case c4 => unfold maxLen; omega
            case c5 => omega
            case c6 => simp; omega
            intro g cap w2 hown hgrow hlie hglt
            have LN := Lib.hid (HL.out.snoc HBT.out HNEW.out hnm G1.out F1.out HRD.out HRX.out HR0.out.lt hown hgrow hlie)
            clear hown hgrow
            go_wp2
            go_roundw
            case rel => exact ⟨_, _, LN.out⟩
            case measure => have := LN.out.len; simp [lenOf] at this ⊢; omega
          · have F1 : Hid (FailsIn N n 0 [] ts at_ er) := Lib.hid (HL.out.bad _ _ (in_fails (.inl rfl) HK1.out (fun _ => H4.out) hf))
            have HBT := Lib.hid (HL.out.but.trans hbt)
            clear hf hbt
            go_wp2
            exact ⟨rfl, HBT.out, .inr ⟨at_, er, rfl, F1.out⟩⟩
        · have hl0 : 0 < (l.length : Int) := by have := List.length_pos_iff.2 hl; omega
          have hk4 : isKind q 4 = false := by
            cases h : isKind q 4 with
            | false => rfl
            | true => exact absurd ⟨hl, h⟩ hdot
          clear hl hdot
          go_wp2_with fail
          refine (passes_no _ R N q 4 HL.out.rd hk4).mono ?_
          rintro e w0' ⟨rfl, rfl⟩
          clear hk4
          go_wp2_with fail
          refine (HDD.out _ q (n + 1) hq (by omega) HL.out.rd).mono ?_
          rintro e w1 ⟨hbt, ⟨k, i, s, d, x, rest, rfl, hnew, hnm, hg, hrd⟩ | ⟨at_, er, rfl, hf⟩⟩
          · have G1 : Hid (∀ D r2, GivesIn N n 0 (l ++ [.mk k i s d]) rest D r2 → GivesIn N n 0 [] ts D r2) := Lib.hid (fun D r2 h => HL.out.ok _ _ (in_item (.inl rfl) HK1.out (fun _ => H4.out) hg h))
            have F1 : Hid (∀ a er, FailsIn N n 0 (l ++ [.mk k i s d]) rest a er → FailsIn N n 0 [] ts a er) := Lib.hid (fun a er h => HL.out.bad _ _ (in_item_fails (.inl rfl) HK1.out (fun _ => H4.out) hg h))
            have OWN := Lib.hid (HL.out.own.but hbt (by omega))
            obtain ⟨xs, hox, hrx⟩ := OWN.out
            have HOX := Lib.hid hox
            have HRX := Lib.hid hrx
            have HNEW := Lib.hid hnew
            have HRD := Lib.hid hrd
            have HBT := Lib.hid hbt
            have HV : Hid (∀ g, (Value.slice a l.length c).ownBlock = some g → w.heap.size + 1 ≤ g ∧ g < w0'.heap.size) := Lib.hid (fun g hg => by
              obtain ⟨ys, ho, _⟩ := HL.out.own
              exact World.ownsRow.lt (w := w0') ho g hg)
            have hwr1 := hbt.size
            clear hox hrx hnew hrd hbt hg
            go_wp2_with (at_builtin; refine wpList_append_lies _ rfl _ _ 22 rfl (w.heap.size + 1) 34 i0 _ 4 56 Tryz.underlying22 hi hz0 hz1 hz2 rfl (by decide) _ _ xs rfl (HOX.out.alloc _) ⟨w1.heap.size, 0, none⟩ 1 1 [.int .i64 k, .int .i64 i, .string s, x] rfl rfl ?c1 ?c2 ?c3 ?c4 ?c5 ?c6 _ rfl ?_)
            case c1 =>
              intro j u hj
              rw [add_plain, Nat.zero_add, Lib.cell_of_heap (heap_alloc_new w1 _)]
              simpa using hj
            case c2 =>
              intro u hu
              simp only [List.mem_cons, List.not_mem_nil, or_false] at hu
              rcases hu with rfl | rfl | rfl | rfl
              · rfl
              · rfl
              · rfl
              · exact news_one HNEW.out
            case c3 => exact Nat.one_pos
            case c4 => unfold maxLen; omega
            case c5 => omega
            case c6 => simp; omega
            intro g cap w2 hown hgrow hlie hglt
            have LN := Lib.hid (HL.out.snoc HBT.out HNEW.out hnm G1.out F1.out HRD.out HRX.out HR0.out.lt hown hgrow hlie)
            clear hown hgrow
            go_wp2
            go_roundw
            case rel => exact ⟨_, _, LN.out⟩
            case measure => have := LN.out.len; simp [lenOf] at this ⊢; omega
          · have F1 : Hid (FailsIn N n 0 [] ts at_ er) := Lib.hid (HL.out.bad _ _ (in_fails (.inl rfl) HK1.out (fun _ => H4.out) hf))
            have HBT := Lib.hid (HL.out.but.trans hbt)
            clear hf hbt
            go_wp2
            exact ⟨rfl, HBT.out, .inr ⟨at_, er, rfl, F1.out⟩⟩
end Go.Proofs.YthfjlcflpneffaaGreatDoor
