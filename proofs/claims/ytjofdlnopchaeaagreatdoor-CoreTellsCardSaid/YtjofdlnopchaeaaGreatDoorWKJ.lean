/-
Texts K58, K59, K63, one behind the other (a claim bears sixty files). Conditions: as each says.
-/
import Derived.Test.YtjofdlnopchaeaaGreatDoorK51
import Derived.Test.YtjofdlnopchaeaaGreatDoorWKU

/-
What core.Make makes of a datum, as trees; its small functions: texts, kindOf. No condition but a bound on rows.
-/
namespace Go.Proofs.YtjofdlnopchaeaaGreatDoor.Core
open Go.ChangeShapes Go.WideShapes Go.ChangeAt Go.RowKit Go.Deep
open Dat (PT ok64 RepV RepS RowX infoDatum numT numsT)
set_option maxRecDepth 100000

def txt : PT → ByteArray | .mk _ _ s _ => s
def lst : PT → List PT | .mk _ _ _ l => l
/-- The kind of which a list's datum begins with that word, or 11. -/
def kindT (s : ByteArray) : Nat := ((List.range 11).find? fun (k : Nat) => (wordS (k : Int)).toList == s.toList).getD 11
/-- The names of bindings, and what they are bound to. -/
def bindsT : List PT → Option (List ByteArray × List PT)
  | [] => some ([], [])
  | .mk _ _ _ (a :: b :: _) :: l => (bindsT l).map fun x => (txt a :: x.1, b :: x.2)
  | _ :: _ => none
/-- A datum's expression but for kids, and the kids' data. -/
def headT : PT → Option (PE × List PT)
  | .mk k _ s l =>
    if k = 4 then some (.mk 1 s [] PT0 [], [])
    else match l with
      | d0 :: .mk fk fi fs fl :: others =>
        if kindT (txt d0) = 0 then some (.mk 0 ⟨#[]⟩ [] (.mk fk fi fs []) [], [])
        else if kindT (txt d0) = 2 ∨ kindT (txt d0) = 7 then some (.mk (kindT (txt d0) : Nat) fs [] PT0 [], others)
        else if kindT (txt d0) = 5 then some (.mk 5 ⟨#[]⟩ (fl.map txt) PT0 [], others)
        else if kindT (txt d0) = 8 ∨ kindT (txt d0) = 9 ∨ kindT (txt d0) = 10 then (bindsT fl).map fun x => (.mk (kindT (txt d0) : Nat) ⟨#[]⟩ x.1 PT0 [], x.2 ++ others)
        else if kindT (txt d0) = 3 ∨ kindT (txt d0) = 4 ∨ kindT (txt d0) = 6 then some (.mk (kindT (txt d0) : Nat) ⟨#[]⟩ [] PT0 [], .mk fk fi fs fl :: others)
        else none
      | _ => none
def withKids : PE → List PE → PE
  | .mk k nm ns d _, l => .mk k nm ns d l
mutual
/-- What is made of a datum, so many having been begun; how many have been then. -/
inductive MadeR : Nat → PT → Nat → Option PE → Prop
  | many (d : PT) : MadeR 4096 d 4096 none
  | bad {n : Nat} {d : PT} : n ≠ 4096 → headT d = none → MadeR n d (n + 1) none
  | no {n n' : Nat} {d : PT} {e : PE} {kids : List PT} : n ≠ 4096 → headT d = some (e, kids) → MadesR (n + 1) kids n' none → MadeR n d n' none
  | yes {n n' : Nat} {d : PT} {e : PE} {kids : List PT} {l : List PE} : n ≠ 4096 → headT d = some (e, kids) → MadesR (n + 1) kids n' (some l) → MadeR n d n' (some (withKids e l))
inductive MadesR : Nat → List PT → Nat → Option (List PE) → Prop
  | nil (n : Nat) : MadesR n [] n (some [])
  | no {n n' : Nat} {d : PT} {l : List PT} : MadeR n d n' none → MadesR n (d :: l) n' none
  | later {n n1 n' : Nat} {d : PT} {l : List PT} {t : PE} : MadeR n d n1 (some t) → MadesR n1 l n' none → MadesR n (d :: l) n' none
  | yes {n n1 n' : Nat} {d : PT} {l : List PT} {t : PE} {r : List PE} : MadeR n d n1 (some t) → MadesR n1 l n' (some r) → MadesR n (d :: l) n' (some (t :: r))
end
theorem madesR_snoc {n1 n2 : Nat} {d : PT} {t : PE} : ∀ {l : List PT} {n : Nat} {r : List PE}, MadesR n l n1 (some r) → MadeR n1 d n2 (some t) → MadesR n (l ++ [d]) n2 (some (r ++ [t]))
  | [], n, r, h, g => by
    cases h
    exact .yes g (.nil _)
  | u :: l, n, r, h, g => by
    cases h with
    | yes h1 h2 => exact .yes h1 (madesR_snoc h2 g)
theorem madesR_stop {n1 n2 : Nat} {d : PT} {m : List PT} : ∀ {l : List PT} {n : Nat} {r : List PE}, MadesR n l n1 (some r) → MadeR n1 d n2 none → MadesR n (l ++ d :: m) n2 none
  | [], n, r, h, g => by
    cases h
    exact .no g
  | u :: l, n, r, h, g => by
    cases h with
    | yes h1 h2 => exact .later h1 (madesR_stop h2 g)
theorem kindT_le (s : ByteArray) : kindT s ≤ 11 := by
  unfold kindT
  cases h : (List.range 11).find? fun (k : Nat) => (wordS (k : Int)).toList == s.toList with
  | none => simp
  | some k =>
    have := List.mem_of_find?_eq_some h
    simp at this
    simp; omega
theorem kindT_found {s : ByteArray} {j : Nat} (hj : j < 11) (hn : ∀ i : Nat, i < j → ((wordS (i : Int)).toList == s.toList) = false) (h : ((wordS (j : Int)).toList == s.toList) = true) : kindT s = j := by
  unfold kindT
  have : (List.range 11).find? (fun (k : Nat) => (wordS (k : Int)).toList == s.toList) = some j := by
    rw [List.find?_range_eq_some]
    exact ⟨h, by simpa using hj, fun i hi => by simp [hn i hi]⟩
  rw [this]; rfl
theorem kindT_none {s : ByteArray} (hn : ∀ i : Nat, i < 11 → ((wordS (i : Int)).toList == s.toList) = false) : kindT s = 11 := by
  unfold kindT
  have : (List.range 11).find? (fun (k : Nat) => (wordS (k : Int)).toList == s.toList) = none := by
    rw [List.find?_eq_none]
    intro i hi
    rw [hn i (by simpa using hi)]; simp
  rw [this]; rfl
theorem kindOf_any (s : ByteArray) (w : World) : Calls Tryz.prog 87 #[.string s] w fun e w' => e = .returned (.int .i64 (kindT s : Nat)) ∧ w = w' := by
  go_enter Tryz.func87, Tryz.ntmps87
  go_wp2
  go_loop [4] (fun i => ∃ j : Nat, j ≤ 11 ∧ i = .int .i64 j ∧ ∀ i : Nat, i < j → ((wordS (i : Int)).toList == s.toList) = false) (fun i => 11 - (intOf i).toNat)
  case atStart => exact ⟨0, by omega, rfl, fun i hi => by omega⟩
  case round =>
    obtain ⟨j, hj, rfl, hn⟩ := hrel
    have HN := Lib.hid hn
    clear hn
    by_cases hlt : j < 11
    · by_cases hw : ((wordS (j : Int)).toList == s.toList) = true
      · have HF := Lib.hid (kindT_found hlt HN.out hw)
        have KW := Lib.hid (word_any (j : Int) w)
        generalize wordS (j : Int) = ws at hw KW
        go_wp2_with fail
        refine KW.out.mono ?_
        rintro e w' ⟨rfl, rfl⟩
        go_wp2
        go_ret
        exact ⟨by rw [HF.out]; rfl, rfl⟩
      · have hw' : ((wordS (j : Int)).toList == s.toList) = false := by simpa using hw
        have HS : Hid (∀ i : Nat, i < j + 1 → ((wordS (i : Int)).toList == s.toList) = false) := Lib.hid fun i hi => by
          by_cases e : i = j
          · subst e; exact hw'
          · exact HN.out i (by omega)
        have KW := Lib.hid (word_any (j : Int) w)
        clear hw
        generalize wordS (j : Int) = ws at hw' KW
        go_wp2_with fail
        refine KW.out.mono ?_
        rintro e w' ⟨rfl, rfl⟩
        go_wp2
        go_round
        case rel => exact ⟨j + 1, by omega, by go_num, HS.out⟩
        case measure => simp [intOf]; omega
    · obtain rfl : j = 11 := by omega
      have HF := Lib.hid (kindT_none HN.out)
      go_wp2
      go_ret
      exact ⟨by rw [HF.out]; rfl, rfl⟩
/-- What texts answers. -/
def TxtIs (C : Nat) (l : List ByteArray) (e : Ending) (w : World) : Prop := ∃ v, e = .returned v ∧ InN w (fun b => C ≤ b) l v
theorem texts_any (l : List PT) (S : Nat → Prop) (v : Value) (w : World) (hv : InS w S l v) (hn : l.length ≤ 100000) :
    Calls Tryz.prog 88 #[v] w fun e w' => TxtIs w.heap.size (l.map txt) e w' ∧ Below w.heap.size w w' := by
  have HV := Lib.hid hv
  obtain ⟨a, c, rfl, hl, hm, _, hr⟩ := hv
  have HR := Lib.hid hr
  have HSZ : Hid (∀ s ∈ l.map txt, s.size ≤ maxLen) := Lib.hid fun s hs => by
    obtain ⟨⟨tk, ti, ts, tl⟩, ht, rfl⟩ := List.mem_map.1 hs
    obtain ⟨j, hj, e⟩ := List.getElem_of_mem ht
    obtain ⟨b, o, rfl, hs, hc⟩ := HR.out.resolve_left (by rintro rfl; cases hj)
    have := insItem HV.out j hj
    rw [e, inD_mk] at this
    exact this.2.2.1
  unfold maxLen at hm
  clear hr
  go_enter Tryz.func88, Tryz.ntmps88
  go_wp2
  go_loopw [3, 8] (fun v i wr => ∃ j : Nat, j ≤ l.length ∧ i = .int .i64 j ∧ OutT wr w.heap.size ((l.take j).map txt) v ∧ Below w.heap.size w wr) (fun _ i _ => l.length - (intOf i).toNat)
  case atStart => exact ⟨0, Nat.zero_le _, rfl, by rw [List.take_zero, List.map_nil]; exact OutT.nil _ _, Below.refl _ _⟩
  case round =>
    obtain ⟨j, hj, rfl, ho, hbr⟩ := hrel
    have HO := Lib.hid ho
    have HBR := Lib.hid hbr
    by_cases hlt : j < l.length
    · obtain ⟨b, o, rfl, hs, hc⟩ := HR.out.resolve_left (by rintro rfl; cases hlt)
      have hi := insItem (insBelow HV.out hbr) j hlt
      have HTS : Hid ((l.take (j + 1)).map txt = (l.take j).map txt ++ [txt l[j]]) := Lib.hid (by rw [List.take_succ_eq_append_getElem hlt, List.map_append]; rfl)
      have HL1 : Hid (((l.take j).map txt).length ≤ 99999) := Lib.hid (by rw [List.length_map, List.length_take]; omega)
      clear hc ho hbr
      generalize l[j] = t at *
      generalize (l.take j).map txt = q at *
      obtain ⟨tk, ti, ts, tl⟩ := t
      rw [inD_mk] at hi
      obtain ⟨_, _, hts, c0, c1, c2, vl, c3, hvl⟩ := hi
      obtain ⟨al, cl, rfl, _⟩ := hvl
      have hbl : b < wr.heap.size := World.block_lt_of_cell? _ _ c0
      have hC := HBR.out.size
      have hb1 := bel_alloc' (bel_alloc' HBR.out (.cells #[.int .i64 tk, .int .i64 ti, .string ts, .slice al tl.length cl] 25)) (.cells #[.string ts] 9)
      have hn1 := inN_one (W := wr.alloc (.cells #[.int .i64 tk, .int .i64 ti, .string ts, .slice al tl.length cl] 25)) (C := w.heap.size) hts (by rw [size_new]; omega)
      rw [size_new] at hn1
      have ho1 := HO.out.at (w' := (wr.alloc (.cells #[.int .i64 tk, .int .i64 ti, .string ts, .slice al tl.length cl] 25)).alloc (.cells #[.string ts] 9)) (fun b e => by
        have hlt := (World.ownsRow.lt HO.out b e).2
        rw [Below.heap_alloc _ _ _ (by rw [size_new]; omega), Below.heap_alloc _ _ _ hlt])
      have HO1 := Lib.hid ho1
      have HB1 := Lib.hid hb1
      have HN1 := Lib.hid hn1
      clear ho1 hb1 hn1
      go_wp2_with (at_builtin; refine wpList_append_ts rfl _ _ rfl w.heap.size q _ rfl HO1.out _ [ts] _ HN1.out rfl (by have := HL1.out; simp only [List.length_cons, List.length_nil]; omega) HB1.out.size ?_; intro v3 w3 h1 h2 h3)
      have H1 := Lib.hid h1
      have HB4 := Lib.hid (HB1.out.trans (h2.toBelow HO1.out HB1.out.size))
      clear h1 h2 h3
      go_wp2
      go_roundw
      case rel => exact ⟨j + 1, by omega, by go_num, by rw [HTS.out]; exact H1.out, HB4.out⟩
      case measure => simp [intOf]; omega
    · obtain rfl : j = l.length := by omega
      rw [List.take_length] at ho
      have HIN : Hid (InN _ (fun b => w.heap.size ≤ b) (l.map txt) _) := Lib.hid (ho.inN HSZ.out fun b e => (World.ownsRow.lt ho b e).1)
      clear ho hbr
      go_wp2
      go_ret
      exact ⟨⟨_, rfl, HIN.out⟩, HBR.out⟩
end Go.Proofs.YtjofdlnopchaeaaGreatDoor.Core

/-
Package core's bindingsOf: the names of a row of bindings, and the data of what they are bound to. No condition but a bound on the row.
-/
namespace Go.Proofs.YtjofdlnopchaeaaGreatDoor.Core
open Go.ChangeShapes Go.WideShapes Go.ChangeAt Go.RowKit Go.Deep
open Dat (PT ok64 RepV RepS RowX infoDatum)
set_option maxRecDepth 100000

theorem binds_snoc {k i : Int} {s : ByteArray} {a b : PT} {r : List PT} : ∀ {q : List PT} {ns : List ByteArray} {ks : List PT}, bindsT q = some (ns, ks) → bindsT (q ++ [.mk k i s (a :: b :: r)]) = some (ns ++ [txt a], ks ++ [b])
  | [], ns, ks, h => by
    rw [bindsT] at h
    simp only [Option.some.injEq, Prod.mk.injEq] at h
    obtain ⟨rfl, rfl⟩ := h
    simp [bindsT]
  | .mk _ _ _ (x :: y :: _) :: q, ns, ks, h => by
    rw [bindsT] at h
    cases hq : bindsT q with
    | none => rw [hq] at h; cases h
    | some z =>
      obtain ⟨ns', ks'⟩ := z
      rw [hq] at h
      simp only [Option.map_some, Option.some.injEq, Prod.mk.injEq] at h
      obtain ⟨rfl, rfl⟩ := h
      rw [List.cons_append, bindsT, binds_snoc hq]
      simp
  | .mk _ _ _ [] :: q, ns, ks, h => by simp [bindsT] at h
  | .mk _ _ _ [_] :: q, ns, ks, h => by simp [bindsT] at h
theorem binds_bad {k i : Int} {s : ByteArray} {l r : List PT} (hl : l.length < 2) : ∀ {q : List PT} {ns : List ByteArray} {ks : List PT}, bindsT q = some (ns, ks) → bindsT (q ++ .mk k i s l :: r) = none
  | [], ns, ks, h => by
    match l, hl with
    | [], _ => simp [bindsT]
    | [_], _ => simp [bindsT]
  | .mk _ _ _ (x :: y :: _) :: q, ns, ks, h => by
    rw [bindsT] at h
    cases hq : bindsT q with
    | none => rw [hq] at h; cases h
    | some z => rw [List.cons_append, bindsT, binds_bad hl hq]; rfl
  | .mk _ _ _ [] :: q, ns, ks, h => by simp [bindsT] at h
  | .mk _ _ _ [_] :: q, ns, ks, h => by simp [bindsT] at h
theorem binds_len : ∀ {q : List PT} {ns : List ByteArray} {ks : List PT}, bindsT q = some (ns, ks) → ns.length = q.length ∧ ks.length = q.length
  | [], ns, ks, h => by
    rw [bindsT] at h
    simp only [Option.some.injEq, Prod.mk.injEq] at h
    obtain ⟨rfl, rfl⟩ := h
    simp
  | .mk _ _ _ (x :: y :: _) :: q, ns, ks, h => by
    rw [bindsT] at h
    cases hq : bindsT q with
    | none => rw [hq] at h; cases h
    | some z =>
      obtain ⟨ns', ks'⟩ := z
      rw [hq] at h
      simp only [Option.map_some, Option.some.injEq, Prod.mk.injEq] at h
      obtain ⟨rfl, rfl⟩ := h
      have := binds_len hq
      simp; omega
  | .mk _ _ _ [] :: q, ns, ks, h => by simp [bindsT] at h
  | .mk _ _ _ [_] :: q, ns, ks, h => by simp [bindsT] at h
/-- A row of texts and a row of data of the call's own lie apart. -/
theorem own_ne {w w' : World} {C : Nat} {P : Nat → Prop} {ns : List ByteArray} {ks : List PT} {v u : Value} (h : OutT w C ns v) (g : OutD w' C P ks u) {b : Nat} (hv : v.ownBlock = some b) (hw : w'.heap[b]? = w.heap[b]?) : u.ownBlock ≠ some b := by
  intro hu
  obtain ⟨xs, hg, _⟩ := g
  rcases h.2 with ⟨rfl, _⟩ | ⟨x, cap, cur, rfl, _, hb, _⟩
  · cases hv
  rcases hg.2 with ⟨rfl, _⟩ | ⟨y, cap', cur', rfl, _, hb', _⟩
  · cases hu
  obtain rfl := Option.some.inj hv
  obtain rfl := Option.some.inj hu
  rw [hw, hb] at hb'
  cases hb'
theorem two_more {l : List PT} (h : ¬ l.length < 2) : ∃ x y r, l = x :: y :: r :=
  match l, h with
  | [], h => absurd (by simp) h
  | [_], h => absurd (by simp) h
  | x :: y :: r, _ => ⟨x, y, r, rfl⟩
/-- What bindingsOf answers. -/
def BindIs (C : Nat) (S : Nat → Prop) (l : List PT) (e : Ending) (w : World) : Prop :=
  (bindsT l = none ∧ e = .returned (.tuple #[.slice none 0 0, .slice none 0 0, .bool false])) ∨
  ∃ ns ks vn vk, bindsT l = some (ns, ks) ∧ e = .returned (.tuple #[vn, vk, .bool true]) ∧ OutT w C ns vn ∧ (∀ s ∈ ns, s.size ≤ maxLen) ∧ OutD w C S ks vk
set_option maxHeartbeats 1000000 in
theorem bindingsOf_any (l : List PT) (S : Nat → Prop) (v : Value) (w : World) (hv : InS w S l v) (hS : ∀ b, S b → b < w.heap.size) (hn : l.length ≤ 100000) :
    Calls Tryz.prog 89 #[v] w fun e w' => BindIs w.heap.size S l e w' ∧ Below w.heap.size w w' := by
  have HV := Lib.hid hv
  have HSL := Lib.hid hS
  obtain ⟨a, c, rfl, hl, hm, _, hr⟩ := hv
  have HR := Lib.hid hr
  unfold maxLen at hm
  clear hr hS
  go_enter Tryz.func89, Tryz.ntmps89
  go_wp2
  go_loopw [5, 6, 11] (fun v u i wr => ∃ (j : Nat) (ns : List ByteArray) (ks : List PT), j ≤ l.length ∧ i = .int .i64 j ∧ bindsT (l.take j) = some (ns, ks) ∧ OutT wr w.heap.size ns v ∧ OutD wr w.heap.size S ks u ∧ (∀ s ∈ ns, s.size ≤ maxLen) ∧ Below w.heap.size w wr) (fun _ _ i _ => l.length - (intOf i).toNat)
  case atStart => exact ⟨0, [], [], Nat.zero_le _, rfl, by rw [List.take_zero, bindsT], OutT.nil _ _, OutD.nil _ _ _, (fun s h => by cases h), Below.refl _ _⟩
  case round =>
    obtain ⟨j, ns, ks, hj, rfl, hbs, ho, hu, hsz, hbr⟩ := hrel
    have HO := Lib.hid ho
    have HU := Lib.hid hu
    have HZ := Lib.hid hsz
    have HBR := Lib.hid hbr
    have HBS := Lib.hid hbs
    have HLN := Lib.hid (binds_len hbs)
    by_cases hlt : j < l.length
    · obtain ⟨b, o, rfl, hs, hc⟩ := HR.out.resolve_left (by rintro rfl; cases hlt)
      have hi := insItem (insBelow HV.out hbr) j hlt
      have HTS : Hid (l.take (j + 1) = l.take j ++ [l[j]]) := Lib.hid (List.take_succ_eq_append_getElem hlt)
      have HTD : Hid (l = l.take j ++ l[j] :: l.drop (j + 1)) := Lib.hid (by rw [← List.drop_eq_getElem_cons hlt, List.take_append_drop])
      have HLJ : Hid (ns.length ≤ 99999 ∧ ks.length ≤ 99999) := Lib.hid (by have := HLN.out; rw [List.length_take] at this; omega)
      clear hc ho hu hsz hbr hbs
      generalize l[j] = t at *
      obtain ⟨tk, ti, ts, tl⟩ := t
      rw [inD_mk] at hi
      obtain ⟨_, _, hts, c0, c1, c2, vl, c3, hvl⟩ := hi
      have HVL := Lib.hid hvl
      obtain ⟨al, cl, rfl, hll, hlm, _, hlr⟩ := hvl
      have hbl : b < wr.heap.size := World.block_lt_of_cell? _ _ c0
      have hC := HBR.out.size
      unfold maxLen at hlm
      by_cases h2 : tl.length < 2
      · have HBAD := Lib.hid (binds_bad (k := tk) (i := ti) (s := ts) (r := l.drop (j + 1)) h2 HBS.out)
        have HBF := Lib.hid (bel_alloc' HBR.out (.cells #[.int .i64 tk, .int .i64 ti, .string ts, .slice al tl.length cl] 25))
        clear hlr
        go_wp2
        go_ret3
        exact ⟨.inl ⟨by rw [HTD.out]; exact HBAD.out, rfl⟩, HBF.out⟩
      · obtain ⟨x, y, r, rfl⟩ : ∃ x y r, tl = x :: y :: r := two_more h2
        have HSN := Lib.hid (binds_snoc (k := tk) (i := ti) (s := ts) (a := x) (b := y) (r := r) HBS.out)
        obtain ⟨bl, ol, rfl, hsl, _⟩ := hlr.resolve_left (fun h => by cases h)
        have i0 := insItem HVL.out 0 (by simp)
        have i1 := insItem HVL.out 1 (by simp)
        simp only [List.getElem_cons_zero, List.getElem_cons_succ, Nat.zero_mul, Nat.add_zero, Nat.one_mul] at i0 i1
        obtain ⟨xk, xi, xs, xl⟩ := x
        obtain ⟨yk, yi, ys, yl⟩ := y
        rw [inD_mk] at i0 i1
        obtain ⟨_, _, hxs, _, _, d2, _⟩ := i0
        obtain ⟨hyk, hyi, hys, e0, e1, e2, vy, e3, hvy⟩ := i1
        have HVY := Lib.hid hvy
        obtain ⟨ay, cy, rfl, _⟩ := hvy
        have hlen2 : 2 ≤ (PT.mk xk xi xs xl :: PT.mk yk yi ys yl :: r).length := by simp
        have HRV : Hid (txt (.mk xk xi xs xl) = xs) := Lib.hid rfl
        rw [HRV.out] at HSN
        generalize hTL : (PT.mk xk xi xs xl :: PT.mk yk yi ys yl :: r).length = tn at *
        clear hTL
        clear hlr
        have hbsl : bl < wr.heap.size := World.block_lt_of_cell? _ _ d2
        have zd := heap_alloc_new wr (.cells #[.int .i64 tk, .int .i64 ti, .string ts, .slice (some ⟨bl, ol, none⟩) tn cl] 25)
        have hb1 := bel_alloc' (bel_alloc' HBR.out (.cells #[.int .i64 tk, .int .i64 ti, .string ts, .slice (some ⟨bl, ol, none⟩) tn cl] 25)) (.cells #[.string xs] 9)
        have hn1 := inN_one (W := wr.alloc (.cells #[.int .i64 tk, .int .i64 ti, .string ts, .slice (some ⟨bl, ol, none⟩) tn cl] 25)) (C := w.heap.size) hxs (by rw [size_new]; omega)
        rw [size_new] at hn1
        have ho1 := HO.out.at (w' := (wr.alloc (.cells #[.int .i64 tk, .int .i64 ti, .string ts, .slice (some ⟨bl, ol, none⟩) tn cl] 25)).alloc (.cells #[.string xs] 9)) (fun b e => by
          have hlt := (World.ownsRow.lt HO.out b e).2
          rw [Below.heap_alloc _ _ _ (by rw [size_new]; omega), Below.heap_alloc _ _ _ hlt])
        have hu1 := (HU.out.below ((Below.refl _ _).alloc (Nat.le_refl _) (.cells #[.int .i64 tk, .int .i64 ti, .string ts, .slice (some ⟨bl, ol, none⟩) tn cl] 25))).below ((Below.refl _ _).alloc (Nat.le_refl _) (.cells #[.string xs] 9))
        have zd1 : ((wr.alloc (.cells #[.int .i64 tk, .int .i64 ti, .string ts, .slice (some ⟨bl, ol, none⟩) tn cl] 25)).alloc (.cells #[.string xs] 9)).heap[wr.heap.size]? = _ := blk_skip' zd
        have hsz1 : ((wr.alloc (.cells #[.int .i64 tk, .int .i64 ti, .string ts, .slice (some ⟨bl, ol, none⟩) tn cl] 25)).alloc (.cells #[.string xs] 9)).heap.size = wr.heap.size + 2 := by rw [size_new, size_new]
        have HO1 := Lib.hid ho1
        have HU1 := Lib.hid hu1
        have HB1 := Lib.hid hb1
        have HN1 := Lib.hid hn1
        have HZD := Lib.hid zd1
        have HS1 := Lib.hid hsz1
        clear ho1 hu1 hb1 hn1 zd zd1 hsz1
        go_upto_region 9 with (at_builtin; refine wpList_append_ts rfl _ _ rfl w.heap.size ns _ rfl HO1.out _ [xs] _ HN1.out rfl (by have := HLJ.out; simp only [List.length_cons, List.length_nil]; omega) HB1.out.size ?_; intro v3 w3 h1 h2 h3)
        have hb3 := h2.toBelow HO1.out HB1.out.size
        have HB3 := Lib.hid (HB1.out.trans hb3)
        have HO3 := Lib.hid h1
        have hlow : ∀ x, some x = u5.ownBlock → x < wr.heap.size := fun x e => (World.ownsRow.lt HO.out x e.symm).2
        have zd3 := (h2.2 wr.heap.size (by rw [HS1.out]; omega) (fun e => by have := hlow _ e; omega)).trans HZD.out
        have HU3 : Hid (OutD w3 w.heap.size S ks u6) := Lib.hid (HU1.out.kept (fun x e => h2.2 x (HU1.out.slice.choose_spec.choose_spec.2 x e).2 (fun e2 => own_ne HO1.out HU1.out e2.symm rfl e)) (fun x hx hlt => hb3.block x (HSL.out x hx)))
        have q3 : w3.cell? ⟨wr.heap.size, 3, none⟩ = some (.slice (some ⟨bl, ol, none⟩) tn cl) := by rw [Lib.cell_of_heap zd3]; rfl
        have hcb : ∀ o v, wr.cell? ⟨bl, o, none⟩ = some v → w3.cell? ⟨bl, o, none⟩ = some v := fun o v hc => by
          have hbC := HSL.out bl hsl
          have e1 : w3.heap[bl]? = wr.heap[bl]? := (hb3.block bl hbC).trans (by rw [Below.heap_alloc _ _ _ (by rw [size_new]; omega), Below.heap_alloc _ _ _ hbsl])
          rw [World.cell?_of_block (w := wr) (a := ⟨bl, o, none⟩) e1]; exact hc
        have e0' := hcb _ _ e0
        have e1' := hcb _ _ e1
        have e2' := hcb _ _ e2
        have e3' := hcb _ _ e3
        have hvy3 : InS w3 S yl (.slice ay yl.length cy) := HVY.out.move (fun _ h _ => h) fun b' o' v' hb' hc => by
          have hbC := HSL.out b' hb'
          have e1 : w3.heap[b']? = wr.heap[b']? := (hb3.block b' hbC).trans (by rw [Below.heap_alloc _ _ _ (by rw [size_new]; omega), Below.heap_alloc _ _ _ (by omega)])
          rw [World.cell?_of_block (w := wr) (a := ⟨b', o', none⟩) e1]; exact hc
        have HS3 : Hid (wr.heap.size + 2 ≤ w3.heap.size) := Lib.hid (by have := h2.1.size; rw [HS1.out] at this; exact this)
        have hbl3 : bl < w3.heap.size := by have := HS3.out; omega
        have HYE : Hid (InS (w3.alloc (.cells #[.int .i64 yk, .int .i64 yi, .string ys, .slice ay yl.length cy] 25)) (fun b => S b ∧ some b ≠ u6.ownBlock) yl (.slice ay yl.length cy)) := Lib.hid ((insBelow hvy3 ((Below.refl _ _).alloc (Nat.le_refl _) (.cells #[.int .i64 yk, .int .i64 yi, .string ys, .slice ay yl.length cy] 25))).move (fun b hb _ => ⟨hb, fun e => by have := (HU3.out.slice.choose_spec.choose_spec.2 b e.symm).1; have := HSL.out b hb; omega⟩) fun _ _ _ _ h => h)
        have HU4 : Hid (OutD (w3.alloc (.cells #[.int .i64 yk, .int .i64 yi, .string ys, .slice ay yl.length cy] 25)) w.heap.size S ks u6) := Lib.hid (HU3.out.below ((Below.refl _ _).alloc (Nat.le_refl _) (.cells #[.int .i64 yk, .int .i64 yi, .string ys, .slice ay yl.length cy] 25)))
        have HB4 : Hid (Below w.heap.size w (w3.alloc (.cells #[.int .i64 yk, .int .i64 yi, .string ys, .slice ay yl.length cy] 25))) := Lib.hid (bel_alloc' HB3.out (.cells #[.int .i64 yk, .int .i64 yi, .string ys, .slice ay yl.length cy] 25))
        have HO4 : Hid (OutT (w3.alloc (.cells #[.int .i64 yk, .int .i64 yi, .string ys, .slice ay yl.length cy] 25)) w.heap.size (ns ++ [xs]) v3) := Lib.hid (HO3.out.at fun x e => Below.heap_alloc _ _ _ (World.ownsRow.lt HO3.out x e).2)
        clear h1 h2 h3 hb3 hlow zd3 hcb hvy3 e0 e1 e2 e3
        obtain ⟨au, cu, e6, _⟩ := HU3.out.slice
        go_wp2_with (at_builtin; refine wpList_append_outD rfl _ _ rfl w.heap.size S ks _ rfl HU4.out w3.heap.size yk yi ys yl (.slice ay yl.length cy) rfl (heap_alloc_new w3 _) hyk hyi hys HYE.out (by have := HLJ.out; omega) HB4.out.size ?_; intro g cap w5 k1 k2 k3)
        have K1 := Lib.hid k1
        have HB5 := Lib.hid (HB4.out.trans k2)
        have HO5 : Hid (OutT w5 w.heap.size (ns ++ [xs]) v3) := Lib.hid (HO4.out.at fun x e => k3 x (World.ownsRow.lt HO4.out x e).2 (fun e2 => own_ne HO4.out HU4.out e rfl e2.symm))
        clear k1 k2 k3
        go_wp2
        go_roundw
        case rel => exact ⟨j + 1, ns ++ [xs], ks ++ [.mk yk yi ys yl], by omega, by go_num, by rw [HTS.out]; exact HSN.out, HO5.out, K1.out, (fun s hs => by rcases List.mem_append.1 hs with h | h; exact HZ.out s h; rw [List.mem_singleton] at h; rw [h]; exact hxs), HB5.out⟩
        case measure => simp [intOf]; omega
    · obtain rfl : j = l.length := by omega
      rw [List.take_length] at hbs
      have HBS := Lib.hid hbs
      clear ho hu hsz hbr hbs
      go_wp2
      go_ret3
      exact ⟨.inr ⟨ns, ks, _, _, HBS.out, rfl, HO.out, HZ.out, HU.out⟩, HBR.out⟩
end Go.Proofs.YtjofdlnopchaeaaGreatDoor.Core

/-
An expression that may be is made of its datum (trees alone). No condition.
-/
namespace Go.Proofs.YtjofdlnopchaeaaGreatDoor.Core
open Go.ChangeShapes Go.WideShapes Go.ChangeAt Go.RowKit Go.Deep
open Dat (PT ok64 RepV RepS RowX infoDatum)
set_option maxRecDepth 100000

mutual
/-- How many expressions stand in one. -/
def nodes : PE → Nat
  | .mk _ _ _ _ l => 1 + nodess l
def nodess : List PE → Nat
  | [] => 0
  | t :: l => nodes t + nodess l
end
mutual
theorem chk_nodes (deep n : Nat) : ∀ t : PE, (chkE deep n t).2 = 0 → (chkE deep n t).1 = n + nodes t
  | .mk k nm ns d l, h => by
    rw [chkE] at h ⊢
    rw [nodes]
    split at h
    · cases h
    split at h
    · cases h
    split at h
    · rename_i h1 h2 h3
      rw [if_neg h1, if_neg h2, if_pos h3, chks_nodes (deep + 1) (n + 1) l h]
      omega
    · cases h
theorem chks_nodes (deep n : Nat) : ∀ l : List PE, (chkEs deep n l).2 = 0 → (chkEs deep n l).1 = n + nodess l
  | [], _ => by rw [chkEs, nodess]; rfl
  | t :: l, h => by
    rw [chkEs] at h ⊢
    rw [nodess]
    split at h
    · rename_i h1
      rw [if_pos h1, chks_nodes deep _ l h, chk_nodes deep n t h1]
      omega
    · rename_i h1
      exact absurd h h1
end
theorem nodes_few {t : PE} (h : checkE t = 0) : nodes t ≤ 4096 := by
  have h1 := chk_nodes 0 0 t h
  have h2 := (chkE_le 0 0 (by omega) t).2
  omega
theorem kind_word : ∀ k : Fin 11, k.val ≠ 1 → kindT (wordS (k.val : Int)) = k.val := by decide +kernel
theorem kind_of (k : Nat) (hk : k < 11) (h1 : k ≠ 1) : kindT (wordS (k : Int)) = k := kind_word ⟨k, hk⟩ h1
theorem txt_sym : ∀ ns : List ByteArray, (ns.map symT).map txt = ns
  | [] => rfl
  | n :: ns => by rw [List.map_cons, List.map_cons, txt_sym ns]; rfl
theorem binds_bind : ∀ (ns : List ByteArray) (l : List PT), ns.length ≤ l.length → bindsT (bindT ns l) = some (ns, l.take ns.length)
  | [], l, _ => by simp [bindT, bindsT]
  | n :: ns, [], h => by simp at h
  | n :: ns, t :: l, h => by
    rw [bindT]
    unfold listT symT
    rw [bindsT, binds_bind ns l (by simpa using h)]
    simp [txt]
theorem dataTs_len (l : List PE) : (dataTs l).length = l.length := by rw [dataTs_map, List.length_map]
theorem head_quote {w d : PT} {others : List PT} (hj : kindT (txt w) = 0) : headT (listT (w :: d :: others)) = some (.mk 0 ⟨#[]⟩ [] (match d with | .mk k i s _ => .mk k i s []) [], []) := by
  obtain ⟨k, i, s, l⟩ := d
  simp [headT, listT, hj]
theorem head_named {w d : PT} {others : List PT} {j : Nat} (hj : kindT (txt w) = j) (h : j = 2 ∨ j = 7) : headT (listT (w :: d :: others)) = some (.mk (j : Nat) (txt d) [] PT0 [], others) := by
  obtain ⟨k, i, s, l⟩ := d
  show _ = some (PE.mk (j : Nat) s [] PT0 [], others)
  rcases h with rfl | rfl <;> simp [headT, listT, hj]
theorem head_lam {w d : PT} {others : List PT} (hj : kindT (txt w) = 5) : headT (listT (w :: d :: others)) = some (.mk 5 ⟨#[]⟩ ((lst d).map txt) PT0 [], others) := by
  obtain ⟨k, i, s, l⟩ := d
  show _ = some (PE.mk 5 ⟨#[]⟩ (l.map txt) PT0 [], others)
  simp [headT, listT, hj]
theorem head_let {w d : PT} {others : List PT} {j : Nat} (hj : kindT (txt w) = j) (h : j = 8 ∨ j = 9 ∨ j = 10) : headT (listT (w :: d :: others)) = (bindsT (lst d)).map fun x => (.mk (j : Nat) ⟨#[]⟩ x.1 PT0 [], x.2 ++ others) := by
  obtain ⟨k, i, s, l⟩ := d
  show _ = (bindsT l).map _
  rcases h with rfl | rfl | rfl <;> simp [headT, listT, hj]
theorem head_plain {w d : PT} {others : List PT} {j : Nat} (hj : kindT (txt w) = j) (h : j = 3 ∨ j = 4 ∨ j = 6) : headT (listT (w :: d :: others)) = some (.mk (j : Nat) ⟨#[]⟩ [] PT0 [], d :: others) := by
  obtain ⟨k, i, s, l⟩ := d
  rcases h with rfl | rfl | rfl <;> simp [headT, listT, hj]
/-- The head of an expression's datum is the expression but for kids. -/
theorem head_data {k : Int} {nm : ByteArray} {ns : List ByteArray} {d : PT} {l : List PE} (h : formE (.mk k nm ns d l) = true) : headT (dataT (.mk k nm ns d l)) = some (.mk k nm ns d [], dataTs l) := by
  obtain ⟨dk, di, ds, dl⟩ := d
  obtain rfl := form_nil h
  have hw : ∀ (j : Nat), j < 11 → j ≠ 1 → kindT (txt (symT (wordS (j : Int)))) = j := fun j h1 h2 => kind_of j h1 h2
  unfold formE fieldsB nameOkB namesOkB constOkB kidsB at h
  simp only [Bool.and_eq_true] at h
  obtain ⟨hk, ⟨hn, hs⟩, hc⟩ := h
  have nmE : ¬ (k = 1 ∨ k = 2) → k ≠ 7 → nm = ⟨#[]⟩ := fun h1 h2 => by
    rw [if_neg h1, if_neg h2] at hn
    have h3 : nm.toList = [] := of_decide_eq_true hn
    exact Classical.byContradiction fun hne => by
      have := text_ne hne
      rw [h3] at this
      exact absurd this (by decide +kernel)
  have nsE : ¬ (k = 5 ∨ k = 8 ∨ k = 9 ∨ k = 10) → ns = [] := fun h1 => by
    rw [if_neg h1] at hs
    exact List.length_eq_zero_iff.1 (of_decide_eq_true hs)
  have dE : k ≠ 0 → (.mk dk di ds [] : PT) = PT0 := fun h1 => by
    rw [if_neg h1] at hc
    unfold PT0 at hc ⊢
    obtain ⟨rfl, rfl, rfl, _⟩ := (Dat.sameB_mk _ _ _ _ _ _ _ _).1 hc
    rfl
  have w0 : kindT (txt (symT (wordS 0))) = 0 := hw 0 (by omega) (by omega)
  have w2 : kindT (txt (symT (wordS 2))) = 2 := hw 2 (by omega) (by omega)
  have w7 : kindT (txt (symT (wordS 7))) = 7 := hw 7 (by omega) (by omega)
  have w5 : kindT (txt (symT (wordS 5))) = 5 := hw 5 (by omega) (by omega)
  have hlen := dataTs_len l
  by_cases h0 : k = 0
  · subst h0
    obtain rfl := nmE (by omega) (by omega)
    obtain rfl := nsE (by omega)
    have hl : l = [] := by simpa using hk
    subst hl
    rw [dataT, if_pos rfl, head_quote w0, dataTs]
  rw [dE h0]
  by_cases h1 : k = 1
  · subst h1
    obtain rfl := nsE (by omega)
    have hl : l = [] := by simpa using hk
    subst hl
    rw [dataT, if_neg h0, if_pos rfl]
    simp [headT, symT, dataTs]
  by_cases h2 : k = 2
  · subst h2
    obtain rfl := nsE (by omega)
    rw [dataT, if_neg h0, if_neg h1, if_pos (.inl rfl), head_named w2 (.inl rfl)]; rfl
  by_cases h7 : k = 7
  · subst h7
    obtain rfl := nsE (by omega)
    rw [dataT, if_neg h0, if_neg h1, if_pos (.inr rfl), head_named w7 (.inr rfl)]; rfl
  obtain rfl := nmE (by omega) h7
  by_cases h5 : k = 5
  · subst h5
    rw [dataT, if_neg h0, if_neg h1, if_neg (by omega), if_pos rfl, head_lam w5]
    unfold listT lst
    rw [txt_sym]
  by_cases h8 : k = 8 ∨ k = 9 ∨ k = 10
  · have hl : l.length = ns.length + 1 := by
      rcases h8 with rfl | rfl | rfl
      · simpa using hk
      · simpa using hk
      · simp at hk; exact hk.1.2
    have hb := binds_bind ns (dataTs l) (by omega)
    rw [dataT, if_neg h0, if_neg h1, if_neg (by omega), if_neg h5, if_pos h8]
    have hd : ∀ j : Nat, (j = 8 ∨ j = 9 ∨ j = 10) → k = (j : Int) → headT (listT (symT (wordS k) :: listT (bindT ns (dataTs l)) :: (dataTs l).drop ns.length)) = some (.mk k ⟨#[]⟩ ns PT0 [], dataTs l) := fun j hj e => by
      subst e
      rw [head_let (hw j (by omega) (by omega)) hj]
      unfold listT lst
      rw [hb]
      simp
    rcases h8 with rfl | rfl | rfl
    · exact hd 8 (by omega) rfl
    · exact hd 9 (by omega) rfl
    · exact hd 10 (by omega) rfl
  obtain rfl := nsE (by omega)
  rw [dataT, if_neg h0, if_neg h1, if_neg (by omega), if_neg h5, if_neg h8]
  have hd : ∀ j : Nat, (j = 3 ∨ j = 4 ∨ j = 6) → k = (j : Int) → 1 ≤ l.length → headT (listT (symT (wordS k) :: dataTs l)) = some (.mk k ⟨#[]⟩ [] PT0 [], dataTs l) := fun j hj e hl => by
    subst e
    cases hdl : dataTs l with
    | nil => rw [hdl] at hlen; simp at hlen; omega
    | cons d1 others => exact head_plain (hw j (by omega) (by omega)) hj
  by_cases h3 : k = 3
  · subst h3; exact hd 3 (by omega) rfl (by simp at hk; omega)
  by_cases h4 : k = 4
  · subst h4; exact hd 4 (by omega) rfl (by simp at hk; omega)
  by_cases h6 : k = 6
  · subst h6; exact hd 6 (by omega) rfl (by simp at hk; omega)
  · exfalso
    have h9 : ¬ (k = 8 ∨ k = 9) := fun h => h8 (by omega)
    have h10 : ¬ k = 10 := fun h => h8 (by omega)
    simp [h0, h1, h2, h3, h4, h5, h6, h7, h9, h10] at hk
mutual
/-- What is made of an expression's datum is the expression. -/
theorem made_back {n n' : Nat} {r : Option PE} : ∀ t : PE, okE t → n + nodes t ≤ 4096 → MadeR n (dataT t) n' r → r = some t ∧ n' = n + nodes t
  | .mk k nm ns d l, ho, hn, h => by
    rw [okE] at ho
    have hh := head_data ho.1
    rw [nodes] at hn ⊢
    cases h with
    | many => omega
    | bad h1 h2 => rw [hh] at h2; cases h2
    | no h1 h2 h3 =>
      rw [hh] at h2
      simp only [Option.some.injEq, Prod.mk.injEq] at h2
      obtain ⟨rfl, rfl⟩ := h2
      have := (mades_back l ho.2.2.2 (by omega) h3).1
      cases this
    | yes h1 h2 h3 =>
      rw [hh] at h2
      simp only [Option.some.injEq, Prod.mk.injEq] at h2
      obtain ⟨rfl, rfl⟩ := h2
      have := mades_back l ho.2.2.2 (by omega) h3
      obtain ⟨e1, e2⟩ := this
      rw [Option.some.injEq] at e1
      subst e1
      exact ⟨rfl, by omega⟩
theorem mades_back {n n' : Nat} {r : Option (List PE)} : ∀ l : List PE, okEs l → n + nodess l ≤ 4096 → MadesR n (dataTs l) n' r → r = some l ∧ n' = n + nodess l
  | [], ho, hn, h => by
    rw [dataTs] at h
    cases h
    exact ⟨rfl, by rw [nodess]; rfl⟩
  | t :: l, ho, hn, h => by
    rw [okEs] at ho
    rw [nodess] at hn ⊢
    rw [dataTs] at h
    cases h with
    | no h1 => have := (made_back t ho.1 (by omega) h1).1; cases this
    | later h1 h2 =>
      obtain ⟨_, rfl⟩ := made_back t ho.1 (by omega) h1
      have := (mades_back l ho.2 (by omega) h2).1; cases this
    | yes h1 h2 =>
      obtain ⟨e1, rfl⟩ := made_back t ho.1 (by omega) h1
      obtain ⟨e3, rfl⟩ := mades_back l ho.2 (by omega) h2
      rw [Option.some.injEq] at e1 e3
      subst e1 e3
      exact ⟨rfl, by omega⟩
end
end Go.Proofs.YtjofdlnopchaeaaGreatDoor.Core
