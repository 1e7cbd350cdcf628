/-
Texts Q8, Q8b, Q9, one behind the other (a claim bears sixty files). Conditions: as each says.
-/
import Derived.Test.YtpejhilfopjckaaDoorQGc

/-
Package heap's Do, given what a primitive wants and what it does. No condition but that the heap lies in memory.
-/
namespace Go.Proofs.YtpejhilfopjckaaDoor.Hp
open Go.ChangeShapes Go.WideShapes Go.ChangeAt Go.RowKit Go.Deep
open Dat (PT ok64 RepV RepS RowX infoDatum)
set_option maxRecDepth 100000

/-- What is wanted lies at the slice a. -/
def WAt (w : World) (ws : List Int) (a : Option Addr) : Prop := ws = [] ∨ ∃ b, a = some ⟨b, 0, none⟩ ∧ b < w.heap.size ∧ ∀ (j : Nat) (h : j < ws.length), w.cell? ⟨b, j, none⟩ = some (.int .i64 ws[j])
def WantsIs (ws : List Int) (e : Ending) (w : World) : Prop := ∃ a, e = .returned (.tuple #[.slice a ws.length ws.length, .bool true]) ∧ WAt w ws a
theorem WAt.below {w w' : World} {ws : List Int} {a : Option Addr} (h : WAt w ws a) (hb : Below w.heap.size w w') : WAt w' ws a := by
  rcases h with h | ⟨b, e, hlt, h⟩
  · exact .inl h
  · exact .inr ⟨b, e, Nat.lt_of_lt_of_le hlt hb.size, fun j hj => (hb.cell (p := ⟨b, j, none⟩) hlt).trans (h j hj)⟩
def allIs (T : List (Int × List PV)) : List Int → List PV → Bool
  | q :: ws, v :: l => isB T v q && allIs T ws l
  | _, _ => true
theorem allIs_iff {T : List (Int × List PV)} : ∀ {ws : List Int} {l : List PV}, ws.length = l.length → (allIs T ws l = true ↔ ∀ (j : Nat) (h : j < l.length) (h' : j < ws.length), isB T l[j] ws[j] = true)
  | [], [], _ => by simp [allIs]
  | q :: ws, v :: l, h => by
    have ih := allIs_iff (T := T) (ws := ws) (l := l) (by simpa using h)
    rw [allIs, Bool.and_eq_true, ih]
    constructor
    · rintro ⟨h1, h2⟩ j hj hj'
      match j with
      | 0 => exact h1
      | j + 1 => exact h2 j (by simpa using hj) (by simpa using hj')
    · intro h
      exact ⟨h 0 (by simp) (by simp), fun j hj hj' => h (j + 1) (by simpa using hj) (by simpa using hj')⟩
  | [], v :: l, h => by simp at h
  | q :: ws, [], h => by simp at h
/-- What comes of a primitive that wants ws and then makes r. -/
def doG (T : List (Int × List PV)) (ws : List Int) (l : List PV) (r : PV × Int × List (Int × List PV)) : PV × Int × List (Int × List PV) :=
  if ws.length = l.length ∧ l.all (hasB T.length) = true then (if allIs T ws l = true then r else (⟨0, 0, ⟨#[]⟩⟩, 80, T)) else (⟨0, 0, ⟨#[]⟩⟩, 1, T)
theorem inT_of {T : List (Int × List PV)} {v : PV} (h : hasB T.length v = true) : InT T v := by
  intro h8
  unfold hasB at h
  rw [if_neg (by omega), if_neg (by omega), if_neg (by omega), if_neg (by omega), if_neg (by omega), if_pos h8] at h
  simp only [numB, decide_eq_true_eq] at h
  omega
theorem okV_all {w : World} {S : Nat → Prop} {l : List PV} {v : Value} (h : InP w S l v) : ∀ u ∈ l, okV u := by
  obtain ⟨a, c, e, _, _, _, h4⟩ := h
  rcases h4 with rfl | ⟨b, o, _, _, hv⟩
  · intro u hu; cases hu
  · exact hv.2
/-- What a primitive does where its arguments are what it wants. -/
def DoneOk (prim : ByteArray) (hb : Nat) (T : List (Int × List PV)) (F : Nat → Prop) (l : List PV) (r : PV × Int × List (Int × List PV)) (w0 : World) : Prop :=
  ∀ (W : World) (S : Nat → Prop) (v : Value), Below w0.heap.size w0 W → HeapM W hb T F → (∀ b, F b → b < W.heap.size) → InP W S l v → Calls Tryd.prog 29 #[.pointer (some ⟨hb, 0, none⟩), .string prim, v] W fun e w' => DoOk W hb F r.1 r.2.1 r.2.2 e w'
theorem InP.belowP {w w' : World} {S : Nat → Prop} {l : List PV} {v : Value} (h : InP w S l v) (hb : Below w.heap.size w w') : InP w' S l v := h.move fun b hs hlt => ⟨hs, hb.block b hlt⟩
set_option maxHeartbeats 2000000 in
theorem do_any (prim : ByteArray) (ws : List Int) (hws : ∀ q ∈ ws, 0 ≤ q ∧ q ≤ 11) (l : List PV) (v : Value) (S : Nat → Prop) (hb : Nat) (T : List (Int × List PV)) (F : Nat → Prop) (w : World) (r : PV × Int × List (Int × List PV))
    (hw : ∀ W, Calls Tryd.prog 27 #[.string prim] W fun e w' => WantsIs ws e w' ∧ Below W.heap.size W w')
    (h : HeapM w hb T F) (hF : ∀ b, F b → b < w.heap.size) (hp : InP w S l v) (hwl : ws.length ≤ 1000)
    (hd : l.all (hasB T.length) = true → ws.length = l.length → allIs T ws l = true → DoneOk prim hb T F l r w) :
    Calls Tryd.prog 10 #[.pointer (some ⟨hb, 0, none⟩), .string prim, v] w fun e w' => DoOk w hb F (doG T ws l r).1 (doG T ws l r).2.1 (doG T ws l r).2.2 e w' := by
  have Z0 := Lib.hid (heap_alloc_new w (.cells #[.int .i64 0, .int .i64 0, .string ⟨#[]⟩] 36))
  have B0 := Lib.hid ((Below.refl w.heap.size w).alloc (Nat.le_refl _) (.cells #[.int .i64 0, .int .i64 0, .string ⟨#[]⟩] 36))
  have hs0 := size_new w (.cells #[.int .i64 0, .int .i64 0, .string ⟨#[]⟩] 36)
  have KW := Lib.hid hw
  have HH := Lib.hid h
  have HF := Lib.hid hF
  have HP := Lib.hid hp
  have HD := Lib.hid hd
  have HWS := Lib.hid hws
  have HOK := Lib.hid (okV_all hp)
  have HR : Hid (doG T ws l r = if ws.length = l.length ∧ l.all (hasB T.length) = true then (if allIs T ws l = true then r else (⟨0, 0, ⟨#[]⟩⟩, 80, T)) else (⟨0, 0, ⟨#[]⟩⟩, 1, T)) := Lib.hid rfl
  generalize doG T ws l r = q at HR
  obtain ⟨a, c, rfl, h1, h2, h3, h4⟩ := hp
  unfold maxLen at h2
  clear hw h hF hd hws h3 h4
  go_enter Tryd.func10, Tryd.ntmps10
  go_wp2_with fail
  generalize w.alloc (.cells #[.int .i64 0, .int .i64 0, .string ⟨#[]⟩] 36) = w0 at *
  refine (KW.out _).mono ?_
  rintro e w1 ⟨⟨wa, rfl, hwa⟩, hb1⟩
  have HWA := Lib.hid hwa
  have B1 := Lib.hid (B0.out.trans (hb1.mono B0.out.size))
  have Z1 := Lib.hid ((hb1.block w.heap.size (by omega)).trans Z0.out)
  have hs1 : w.heap.size + 1 ≤ w1.heap.size := by have := hb1.size; omega
  obtain ⟨⟨y0, y1, y2⟩, f0, f1, f2⟩ := look3 Z1.out
  clear hwa hb1
  have FIN : Hid (∀ (W : World) (u : PV) (err : Int), Below w1.heap.size w1 W → q = (⟨0, 0, ⟨#[]⟩⟩, err, T) → DoOk w hb F q.1 q.2.1 q.2.2 (VE ⟨0, 0, ⟨#[]⟩⟩ err) (((W.setCell ⟨w.heap.size, 0, none⟩ (.int .i64 0)).setCell ⟨w.heap.size, 1, none⟩ (.int .i64 0)).setCell ⟨w.heap.size, 2, none⟩ (.string ⟨#[]⟩)) ∧
      (((W.setCell ⟨w.heap.size, 0, none⟩ (.int .i64 0)).setCell ⟨w.heap.size, 1, none⟩ (.int .i64 0)).setCell ⟨w.heap.size, 2, none⟩ (.string ⟨#[]⟩)).heap[w.heap.size]? = some (.cells #[.int .i64 0, .int .i64 0, .string ⟨#[]⟩] 36 (0, 0))) := Lib.hid fun W u err hW hq => by
    rw [hq]
    exact ⟨DoOk.of HH.out rfl (put3_below (B1.out.trans (hW.mono B1.out.size)) (Nat.le_refl _) _ _ _), put3 ((hW.block _ (by omega)).trans Z1.out) _ _ _⟩
  by_cases hlen : ws.length = l.length
  · rw [hlen]
    have LN := Lib.hid (HH.out.len)
    have hP1 := HP.out.belowP B1.out
    have hL1 : LenM w1 hb T.length := LenM.below HH.out.len B1.out
    by_cases hall : l.all (hasB T.length) = true
    · have KA := Lib.hid (hall ▸ hasAll_any l _ S hb T.length w1 hP1 hL1)
      have HR1 : Hid (q = if allIs T ws l = true then r else (⟨0, 0, ⟨#[]⟩⟩, 80, T)) := Lib.hid (by rw [HR.out, if_pos ⟨hlen, hall⟩])
      have HLEN := Lib.hid hlen
      have HALL := Lib.hid hall
      clear hall hlen hP1 hL1
      go_wp2_with fail
      refine KA.out.mono ?_
      rintro e w2 ⟨rfl, hb2⟩
      have B2 := Lib.hid (B1.out.trans (hb2.mono B1.out.size))
      have B12 := Lib.hid hb2
      have Z2 := Lib.hid ((hb2.block w.heap.size (by omega)).trans Z1.out)
      have HWA2 := Lib.hid (HWA.out.below hb2)
      have hs2 : w.heap.size + 1 ≤ w2.heap.size := by have := hb2.size; omega
      clear hb2 y0 y1 y2 f0 f1 f2
      go_wp2
      go_loopw [35] (fun x wr => ∃ j : Nat, j ≤ l.length ∧ x = .int .i64 j ∧ (∀ (k : Nat) (hk : k < l.length) (hk' : k < ws.length), k < j → isB T l[k] ws[k] = true) ∧ Below w2.heap.size w2 wr) (fun x _ => l.length - (intOf x).toNat)
      case atStart => exact ⟨0, Nat.zero_le _, rfl, fun k _ _ h => by omega, Below.refl _ _⟩
      case round =>
        obtain ⟨j, hj, rfl, hok, hbr⟩ := hrel
        have HOKJ := Lib.hid hok
        have HBR := Lib.hid hbr
        have B3 := Lib.hid (B2.out.trans (hbr.mono B2.out.size))
        have B13 := Lib.hid (B12.out.trans (hbr.mono B12.out.size))
        clear hok hbr
        by_cases hlt : j < l.length
        · have hjw : j < ws.length := by rw [HLEN.out]; exact hlt
          obtain ⟨b, o, c', ea, hs, hbl, hv⟩ := HP.out.cells (by rintro rfl; cases hlt)
          cases ea
          obtain ⟨c0, c1, c2, ok⟩ := hv.item j hlt
          replace c0 := (B3.out.cell (p := ⟨b, o + j * 3, none⟩) hbl).trans c0
          replace c1 := (B3.out.cell (p := ⟨b, o + j * 3 + 1, none⟩) hbl).trans c1
          replace c2 := (B3.out.cell (p := ⟨b, o + j * 3 + 2, none⟩) hbl).trans c2
          obtain ⟨wb, rfl, hwb, hwc⟩ := HWA2.out.resolve_left (by rintro rfl; cases hjw)
          have d0 := (HBR.out.cell (p := ⟨wb, j, none⟩) hwb).trans (hwc j hjw)
          have hin := inT_of (List.all_eq_true.1 HALL.out l[j] (List.getElem_mem hlt))
          obtain ⟨hq0, hq1⟩ := HWS.out _ (List.getElem_mem hjw)
          have HT : Hid (isB T l[j] ws[j] = true → ∀ (k : Nat) (hk : k < l.length) (hk' : k < ws.length), k < j + 1 → isB T l[k] ws[k] = true) := Lib.hid fun h k hk hk' hkj => by
            rcases Nat.lt_or_ge k j with h' | h'
            · exact HOKJ.out k hk hk' h'
            · obtain rfl : k = j := by omega
              exact h
          have HTF : Hid (isB T l[j] ws[j] = false → q = (⟨0, 0, ⟨#[]⟩⟩, 80, T)) := Lib.hid fun h => by
            rw [HR1.out, if_neg]
            intro h'
            rw [(allIs_iff HLEN.out).1 h' j hlt hjw] at h
            cases h
          generalize l[j] = t at c0 c1 c2 ok hin HT HTF
          generalize ws[j] = z at d0 hq0 hq1 HT HTF
          obtain ⟨tk, ti, ts⟩ := t
          dsimp only at c0 c1 c2
          have hwbr : wb < wr.heap.size := by have := HBR.out.size; omega
          have KI := Lib.hid (fun W (hW : Below wr.heap.size wr W) => is_any tk ti ts z hq0 hq1 hb T F W (HH.out.below (B3.out.trans (hW.mono B3.out.size))) hin)
          clear hv ok hin hwc
          go_wp2
          have Z5 := heap_alloc_new wr (.cells #[.int .i64 tk, .int .i64 ti, .string ts] 36)
          have B5 := (Below.refl wr.heap.size wr).alloc (Nat.le_refl _) (.cells #[.int .i64 tk, .int .i64 ti, .string ts] 36)
          have e0 := (B5.cell (p := ⟨wb, j, none⟩) hwbr).trans d0
          generalize wr.alloc (.cells #[.int .i64 tk, .int .i64 ti, .string ts] 36) = w5 at Z5 B5 e0 ⊢
          obtain ⟨⟨x0, x1, x2⟩, -⟩ := look3 Z5
          have HB5 := Lib.hid B5
          clear Z5 B5
          go_still_tail 6, (by kernel_rfl)
          change wpList _ _ _ _ _ w5.drew
          by_cases hz : isB T ⟨tk, ti, ts⟩ z = true
          · have KI' := Lib.hid (fun W hW => hz ▸ KI.out W hW)
            have HT' := Lib.hid (HT.out hz)
            clear hz KI HT HTF
            go_wp2_with (go_at_call 28; ((with_reducible refine (KI'.out _ (Below.drew HB5.out)).mono ?_); rintro e w6 ⟨rfl, hb6⟩))
            go_roundw
            case rel => exact ⟨j + 1, by omega, by go_num, HT'.out, HBR.out.trans ((HB5.out.drew.trans (hb6.mono HB5.out.size)).mono HBR.out.size)⟩
            case measure => simp [intOf]; omega
          · have hz' : isB T ⟨tk, ti, ts⟩ z = false := by simpa using hz
            have KI' := Lib.hid (fun W hW => hz' ▸ KI.out W hW)
            have HT' := Lib.hid (HTF.out hz')
            clear hz hz' KI HT HTF
            go_wp2_with fail
            refine (KI'.out _ (Below.drew HB5.out)).mono ?_
            rintro e w6 ⟨rfl, hb6⟩
            have B6 := Lib.hid (B13.out.trans ((HB5.out.drew.trans (hb6.mono HB5.out.size)).mono B13.out.size))
            obtain ⟨⟨y0, y1, y2⟩, f0, f1, f2⟩ := look3 ((B6.out.block _ (by omega)).trans Z1.out)
            clear hb6
            go_wp2
            obtain ⟨g1, g2⟩ := FIN.out w6 ⟨0, 0, ⟨#[]⟩⟩ 80 B6.out HT'.out
            generalize ((w6.setCell ⟨w.heap.size, 0, none⟩ (.int .i64 0)).setCell ⟨w.heap.size, 1, none⟩ (.int .i64 0)).setCell ⟨w.heap.size, 2, none⟩ (.string ⟨#[]⟩) = W at g1 g2 ⊢
            exact bodyPost_ret (res_ve (t := 7) (p := 6) rfl _ _ w.heap.size _ _ _ rfl g2) rfl g1
        · obtain rfl : j = l.length := by omega
          have hai := (allIs_iff HLEN.out).2 (fun k hk hk' => HOKJ.out k hk hk' hk)
          have HR2 : Hid (q = r) := Lib.hid (by rw [HR1.out, if_pos hai])
          have KD := Lib.hid (HD.out HALL.out HLEN.out hai wr S _ B3.out (HH.out.below B3.out) (fun b hb => by have := HF.out b hb; have := B3.out.size; omega) (HP.out.belowP B3.out))
          have Z3 := Lib.hid ((B13.out.block w.heap.size (by omega)).trans Z1.out)
          clear hai hlt
          go_wp2_with fail
          refine KD.out.mono ?_
          rintro e w6 ⟨rfl, F', q1, q2⟩
          have hR : ¬ F' w.heap.size := fun hf => by
            rcases q2.2 _ hf with h | h
            · have := HF.out _ h; omega
            · have := B3.out.size; have := B13.out.size; omega
          have e2 := (q2.1.2 w.heap.size (by have := B13.out.size; omega) (fun h => by have := HF.out _ h; omega)).trans Z3.out
          obtain ⟨⟨y0, y1, y2⟩, f0, f1, f2⟩ := look3 e2
          obtain ⟨g1, g2⟩ := put_res q1 ((Stp.of_below B3.out).trans q2) hR (Nat.le_refl _) (.int .i64 r.1.k) (.int .i64 r.1.i) (.string r.1.s)
          have g3 := put3 e2 (.int .i64 r.1.k) (.int .i64 r.1.i) (.string r.1.s)
          have G1 := Lib.hid g1
          have G2 := Lib.hid g2
          have G3 := Lib.hid g3
          clear q1 q2 hR e2 g1 g2 g3
          unfold VE
          go_wp2
          have Q : DoOk w hb F q.1 q.2.1 q.2.2 (VE r.1 r.2.1) (((w6.setCell ⟨w.heap.size, 0, none⟩ (.int .i64 r.1.k)).setCell ⟨w.heap.size, 1, none⟩ (.int .i64 r.1.i)).setCell ⟨w.heap.size, 2, none⟩ (.string r.1.s)) := ⟨by rw [HR2.out], F', by rw [HR2.out]; exact G1.out, G2.out⟩
          have g3 := G3.out
          clear G1 G2 G3
          generalize ((w6.setCell ⟨w.heap.size, 0, none⟩ (.int .i64 r.1.k)).setCell ⟨w.heap.size, 1, none⟩ (.int .i64 r.1.i)).setCell ⟨w.heap.size, 2, none⟩ (.string r.1.s) = W at g3 Q ⊢
          exact bodyPost_ret (res_ve (t := 7) (p := 6) rfl _ _ w.heap.size _ _ _ rfl g3) rfl Q
    · have hall' : l.all (hasB T.length) = false := by simpa using hall
      have KA := Lib.hid (hall' ▸ hasAll_any l _ S hb T.length w1 hP1 hL1)
      have HR1 : Hid (q = (⟨0, 0, ⟨#[]⟩⟩, 1, T)) := Lib.hid (by rw [HR.out, if_neg (by rintro ⟨_, h⟩; exact hall h)])
      clear hall hall' hlen hP1 hL1
      go_wp2_with fail
      refine KA.out.mono ?_
      rintro e w2 ⟨rfl, hb2⟩
      have B2 := Lib.hid hb2
      obtain ⟨⟨y0, y1, y2⟩, f0, f1, f2⟩ := look3 ((hb2.block _ (by omega)).trans Z1.out)
      clear hb2
      go_wp2
      obtain ⟨g1, g2⟩ := FIN.out w2 ⟨0, 0, ⟨#[]⟩⟩ 1 B2.out HR1.out
      generalize ((w2.setCell ⟨w.heap.size, 0, none⟩ (.int .i64 0)).setCell ⟨w.heap.size, 1, none⟩ (.int .i64 0)).setCell ⟨w.heap.size, 2, none⟩ (.string ⟨#[]⟩) = W at g1 g2 ⊢
      exact bodyPost_ret (res_ve (t := 7) (p := 6) rfl _ _ w.heap.size _ _ _ rfl g2) rfl g1
  · have HR1 : Hid (q = (⟨0, 0, ⟨#[]⟩⟩, 1, T)) := Lib.hid (by rw [HR.out, if_neg (by rintro ⟨h, _⟩; exact hlen h)])
    have hne : ((l.length : Int) == (ws.length : Int)) = false := by simp; omega
    have hne2 : ((l.length : Int) != (ws.length : Int)) = true := by simp; omega
    clear hlen
    go_wp2
    obtain ⟨g1, g2⟩ := FIN.out w1 ⟨0, 0, ⟨#[]⟩⟩ 1 (Below.refl _ _) HR1.out
    generalize ((w1.setCell ⟨w.heap.size, 0, none⟩ (.int .i64 0)).setCell ⟨w.heap.size, 1, none⟩ (.int .i64 0)).setCell ⟨w.heap.size, 2, none⟩ (.string ⟨#[]⟩) = W at g1 g2 ⊢
    exact bodyPost_ret (res_ve (t := 7) (p := 6) rfl _ _ w.heap.size _ _ _ rfl g2) rfl g1
end Go.Proofs.YtpejhilfopjckaaDoor.Hp

/-
Package heap's Do, as before, where what a primitive wants is known in the worlds behind w alone. No condition but that the heap lies in memory.
-/
namespace Go.Proofs.YtpejhilfopjckaaDoor.Hp
open Go.ChangeShapes Go.WideShapes Go.ChangeAt Go.RowKit Go.Deep
open Dat (PT ok64 RepV RepS RowX infoDatum)
set_option maxRecDepth 100000

set_option maxHeartbeats 2000000 in
theorem do_anyR (prim : ByteArray) (ws : List Int) (hws : ∀ q ∈ ws, 0 ≤ q ∧ q ≤ 11) (l : List PV) (v : Value) (S : Nat → Prop) (hb : Nat) (T : List (Int × List PV)) (F : Nat → Prop) (w : World) (r : PV × Int × List (Int × List PV))
    (hw : ∀ W, Below w.heap.size w W → Calls Tryd.prog 27 #[.string prim] W fun e w' => WantsIs ws e w' ∧ Below W.heap.size W w')
    (h : HeapM w hb T F) (hF : ∀ b, F b → b < w.heap.size) (hp : InP w S l v) (hwl : ws.length ≤ 1000)
    (hd : l.all (hasB T.length) = true → ws.length = l.length → allIs T ws l = true → DoneOk prim hb T F l r w) :
    Calls Tryd.prog 10 #[.pointer (some ⟨hb, 0, none⟩), .string prim, v] w fun e w' => DoOk w hb F (doG T ws l r).1 (doG T ws l r).2.1 (doG T ws l r).2.2 e w' := by
  have Z0 := Lib.hid (heap_alloc_new w (.cells #[.int .i64 0, .int .i64 0, .string ⟨#[]⟩] 36))
  have B0 := Lib.hid ((Below.refl w.heap.size w).alloc (Nat.le_refl _) (.cells #[.int .i64 0, .int .i64 0, .string ⟨#[]⟩] 36))
  have hs0 := size_new w (.cells #[.int .i64 0, .int .i64 0, .string ⟨#[]⟩] 36)
  have KW := Lib.hid hw
  have HH := Lib.hid h
  have HF := Lib.hid hF
  have HP := Lib.hid hp
  have HD := Lib.hid hd
  have HWS := Lib.hid hws
  have HOK := Lib.hid (okV_all hp)
  have HR : Hid (doG T ws l r = if ws.length = l.length ∧ l.all (hasB T.length) = true then (if allIs T ws l = true then r else (⟨0, 0, ⟨#[]⟩⟩, 80, T)) else (⟨0, 0, ⟨#[]⟩⟩, 1, T)) := Lib.hid rfl
  generalize doG T ws l r = q at HR
  obtain ⟨a, c, rfl, h1, h2, h3, h4⟩ := hp
  unfold maxLen at h2
  clear hw h hF hd hws h3 h4
  go_enter Tryd.func10, Tryd.ntmps10
  go_wp2_with fail
  generalize w.alloc (.cells #[.int .i64 0, .int .i64 0, .string ⟨#[]⟩] 36) = w0 at *
  refine (KW.out _ B0.out).mono ?_
  rintro e w1 ⟨⟨wa, rfl, hwa⟩, hb1⟩
  have HWA := Lib.hid hwa
  have B1 := Lib.hid (B0.out.trans (hb1.mono B0.out.size))
  have Z1 := Lib.hid ((hb1.block w.heap.size (by omega)).trans Z0.out)
  have hs1 : w.heap.size + 1 ≤ w1.heap.size := by have := hb1.size; omega
  obtain ⟨⟨y0, y1, y2⟩, f0, f1, f2⟩ := look3 Z1.out
  clear hwa hb1
  have FIN : Hid (∀ (W : World) (u : PV) (err : Int), Below w1.heap.size w1 W → q = (⟨0, 0, ⟨#[]⟩⟩, err, T) → DoOk w hb F q.1 q.2.1 q.2.2 (VE ⟨0, 0, ⟨#[]⟩⟩ err) (((W.setCell ⟨w.heap.size, 0, none⟩ (.int .i64 0)).setCell ⟨w.heap.size, 1, none⟩ (.int .i64 0)).setCell ⟨w.heap.size, 2, none⟩ (.string ⟨#[]⟩)) ∧
      (((W.setCell ⟨w.heap.size, 0, none⟩ (.int .i64 0)).setCell ⟨w.heap.size, 1, none⟩ (.int .i64 0)).setCell ⟨w.heap.size, 2, none⟩ (.string ⟨#[]⟩)).heap[w.heap.size]? = some (.cells #[.int .i64 0, .int .i64 0, .string ⟨#[]⟩] 36 (0, 0))) := Lib.hid fun W u err hW hq => by
    rw [hq]
    exact ⟨DoOk.of HH.out rfl (put3_below (B1.out.trans (hW.mono B1.out.size)) (Nat.le_refl _) _ _ _), put3 ((hW.block _ (by omega)).trans Z1.out) _ _ _⟩
  by_cases hlen : ws.length = l.length
  · rw [hlen]
    have LN := Lib.hid (HH.out.len)
    have hP1 := HP.out.belowP B1.out
    have hL1 : LenM w1 hb T.length := LenM.below HH.out.len B1.out
    by_cases hall : l.all (hasB T.length) = true
    · have KA := Lib.hid (hall ▸ hasAll_any l _ S hb T.length w1 hP1 hL1)
      have HR1 : Hid (q = if allIs T ws l = true then r else (⟨0, 0, ⟨#[]⟩⟩, 80, T)) := Lib.hid (by rw [HR.out, if_pos ⟨hlen, hall⟩])
      have HLEN := Lib.hid hlen
      have HALL := Lib.hid hall
      clear hall hlen hP1 hL1
      go_wp2_with fail
      refine KA.out.mono ?_
      rintro e w2 ⟨rfl, hb2⟩
      have B2 := Lib.hid (B1.out.trans (hb2.mono B1.out.size))
      have B12 := Lib.hid hb2
      have Z2 := Lib.hid ((hb2.block w.heap.size (by omega)).trans Z1.out)
      have HWA2 := Lib.hid (HWA.out.below hb2)
      have hs2 : w.heap.size + 1 ≤ w2.heap.size := by have := hb2.size; omega
      clear hb2 y0 y1 y2 f0 f1 f2
      go_wp2
      go_loopw [35] (fun x wr => ∃ j : Nat, j ≤ l.length ∧ x = .int .i64 j ∧ (∀ (k : Nat) (hk : k < l.length) (hk' : k < ws.length), k < j → isB T l[k] ws[k] = true) ∧ Below w2.heap.size w2 wr) (fun x _ => l.length - (intOf x).toNat)
      case atStart => exact ⟨0, Nat.zero_le _, rfl, fun k _ _ h => by omega, Below.refl _ _⟩
      case round =>
        obtain ⟨j, hj, rfl, hok, hbr⟩ := hrel
        have HOKJ := Lib.hid hok
        have HBR := Lib.hid hbr
        have B3 := Lib.hid (B2.out.trans (hbr.mono B2.out.size))
        have B13 := Lib.hid (B12.out.trans (hbr.mono B12.out.size))
        clear hok hbr
        by_cases hlt : j < l.length
        · have hjw : j < ws.length := by rw [HLEN.out]; exact hlt
          obtain ⟨b, o, c', ea, hs, hbl, hv⟩ := HP.out.cells (by rintro rfl; cases hlt)
          cases ea
          obtain ⟨c0, c1, c2, ok⟩ := hv.item j hlt
          replace c0 := (B3.out.cell (p := ⟨b, o + j * 3, none⟩) hbl).trans c0
          replace c1 := (B3.out.cell (p := ⟨b, o + j * 3 + 1, none⟩) hbl).trans c1
          replace c2 := (B3.out.cell (p := ⟨b, o + j * 3 + 2, none⟩) hbl).trans c2
          obtain ⟨wb, rfl, hwb, hwc⟩ := HWA2.out.resolve_left (by rintro rfl; cases hjw)
          have d0 := (HBR.out.cell (p := ⟨wb, j, none⟩) hwb).trans (hwc j hjw)
          have hin := inT_of (List.all_eq_true.1 HALL.out l[j] (List.getElem_mem hlt))
          obtain ⟨hq0, hq1⟩ := HWS.out _ (List.getElem_mem hjw)
          have HT : Hid (isB T l[j] ws[j] = true → ∀ (k : Nat) (hk : k < l.length) (hk' : k < ws.length), k < j + 1 → isB T l[k] ws[k] = true) := Lib.hid fun h k hk hk' hkj => by
            rcases Nat.lt_or_ge k j with h' | h'
            · exact HOKJ.out k hk hk' h'
            · obtain rfl : k = j := by omega
              exact h
          have HTF : Hid (isB T l[j] ws[j] = false → q = (⟨0, 0, ⟨#[]⟩⟩, 80, T)) := Lib.hid fun h => by
            rw [HR1.out, if_neg]
            intro h'
            rw [(allIs_iff HLEN.out).1 h' j hlt hjw] at h
            cases h
          generalize l[j] = t at c0 c1 c2 ok hin HT HTF
          generalize ws[j] = z at d0 hq0 hq1 HT HTF
          obtain ⟨tk, ti, ts⟩ := t
          dsimp only at c0 c1 c2
          have hwbr : wb < wr.heap.size := by have := HBR.out.size; omega
          have KI := Lib.hid (fun W (hW : Below wr.heap.size wr W) => is_any tk ti ts z hq0 hq1 hb T F W (HH.out.below (B3.out.trans (hW.mono B3.out.size))) hin)
          clear hv ok hin hwc
          go_wp2
          have Z5 := heap_alloc_new wr (.cells #[.int .i64 tk, .int .i64 ti, .string ts] 36)
          have B5 := (Below.refl wr.heap.size wr).alloc (Nat.le_refl _) (.cells #[.int .i64 tk, .int .i64 ti, .string ts] 36)
          have e0 := (B5.cell (p := ⟨wb, j, none⟩) hwbr).trans d0
          generalize wr.alloc (.cells #[.int .i64 tk, .int .i64 ti, .string ts] 36) = w5 at Z5 B5 e0 ⊢
          obtain ⟨⟨x0, x1, x2⟩, -⟩ := look3 Z5
          have HB5 := Lib.hid B5
          clear Z5 B5
          go_still_tail 6, (by kernel_rfl)
          change wpList _ _ _ _ _ w5.drew
          by_cases hz : isB T ⟨tk, ti, ts⟩ z = true
          · have KI' := Lib.hid (fun W hW => hz ▸ KI.out W hW)
            have HT' := Lib.hid (HT.out hz)
            clear hz KI HT HTF
            go_wp2_with (go_at_call 28; ((with_reducible refine (KI'.out _ (Below.drew HB5.out)).mono ?_); rintro e w6 ⟨rfl, hb6⟩))
            go_roundw
            case rel => exact ⟨j + 1, by omega, by go_num, HT'.out, HBR.out.trans ((HB5.out.drew.trans (hb6.mono HB5.out.size)).mono HBR.out.size)⟩
            case measure => simp [intOf]; omega
          · have hz' : isB T ⟨tk, ti, ts⟩ z = false := by simpa using hz
            have KI' := Lib.hid (fun W hW => hz' ▸ KI.out W hW)
            have HT' := Lib.hid (HTF.out hz')
            clear hz hz' KI HT HTF
            go_wp2_with fail
            refine (KI'.out _ (Below.drew HB5.out)).mono ?_
            rintro e w6 ⟨rfl, hb6⟩
            have B6 := Lib.hid (B13.out.trans ((HB5.out.drew.trans (hb6.mono HB5.out.size)).mono B13.out.size))
            obtain ⟨⟨y0, y1, y2⟩, f0, f1, f2⟩ := look3 ((B6.out.block _ (by omega)).trans Z1.out)
            clear hb6
            go_wp2
            obtain ⟨g1, g2⟩ := FIN.out w6 ⟨0, 0, ⟨#[]⟩⟩ 80 B6.out HT'.out
            generalize ((w6.setCell ⟨w.heap.size, 0, none⟩ (.int .i64 0)).setCell ⟨w.heap.size, 1, none⟩ (.int .i64 0)).setCell ⟨w.heap.size, 2, none⟩ (.string ⟨#[]⟩) = W at g1 g2 ⊢
            exact bodyPost_ret (res_ve (t := 7) (p := 6) rfl _ _ w.heap.size _ _ _ rfl g2) rfl g1
        · obtain rfl : j = l.length := by omega
          have hai := (allIs_iff HLEN.out).2 (fun k hk hk' => HOKJ.out k hk hk' hk)
          have HR2 : Hid (q = r) := Lib.hid (by rw [HR1.out, if_pos hai])
          have KD := Lib.hid (HD.out HALL.out HLEN.out hai wr S _ B3.out (HH.out.below B3.out) (fun b hb => by have := HF.out b hb; have := B3.out.size; omega) (HP.out.belowP B3.out))
          have Z3 := Lib.hid ((B13.out.block w.heap.size (by omega)).trans Z1.out)
          clear hai hlt
          go_wp2_with fail
          refine KD.out.mono ?_
          rintro e w6 ⟨rfl, F', q1, q2⟩
          have hR : ¬ F' w.heap.size := fun hf => by
            rcases q2.2 _ hf with h | h
            · have := HF.out _ h; omega
            · have := B3.out.size; have := B13.out.size; omega
          have e2 := (q2.1.2 w.heap.size (by have := B13.out.size; omega) (fun h => by have := HF.out _ h; omega)).trans Z3.out
          obtain ⟨⟨y0, y1, y2⟩, f0, f1, f2⟩ := look3 e2
          obtain ⟨g1, g2⟩ := put_res q1 ((Stp.of_below B3.out).trans q2) hR (Nat.le_refl _) (.int .i64 r.1.k) (.int .i64 r.1.i) (.string r.1.s)
          have g3 := put3 e2 (.int .i64 r.1.k) (.int .i64 r.1.i) (.string r.1.s)
          have G1 := Lib.hid g1
          have G2 := Lib.hid g2
          have G3 := Lib.hid g3
          clear q1 q2 hR e2 g1 g2 g3
          unfold VE
          go_wp2
          have Q : DoOk w hb F q.1 q.2.1 q.2.2 (VE r.1 r.2.1) (((w6.setCell ⟨w.heap.size, 0, none⟩ (.int .i64 r.1.k)).setCell ⟨w.heap.size, 1, none⟩ (.int .i64 r.1.i)).setCell ⟨w.heap.size, 2, none⟩ (.string r.1.s)) := ⟨by rw [HR2.out], F', by rw [HR2.out]; exact G1.out, G2.out⟩
          have g3 := G3.out
          clear G1 G2 G3
          generalize ((w6.setCell ⟨w.heap.size, 0, none⟩ (.int .i64 r.1.k)).setCell ⟨w.heap.size, 1, none⟩ (.int .i64 r.1.i)).setCell ⟨w.heap.size, 2, none⟩ (.string r.1.s) = W at g3 Q ⊢
          exact bodyPost_ret (res_ve (t := 7) (p := 6) rfl _ _ w.heap.size _ _ _ rfl g3) rfl Q
    · have hall' : l.all (hasB T.length) = false := by simpa using hall
      have KA := Lib.hid (hall' ▸ hasAll_any l _ S hb T.length w1 hP1 hL1)
      have HR1 : Hid (q = (⟨0, 0, ⟨#[]⟩⟩, 1, T)) := Lib.hid (by rw [HR.out, if_neg (by rintro ⟨_, h⟩; exact hall h)])
      clear hall hall' hlen hP1 hL1
      go_wp2_with fail
      refine KA.out.mono ?_
      rintro e w2 ⟨rfl, hb2⟩
      have B2 := Lib.hid hb2
      obtain ⟨⟨y0, y1, y2⟩, f0, f1, f2⟩ := look3 ((hb2.block _ (by omega)).trans Z1.out)
      clear hb2
      go_wp2
      obtain ⟨g1, g2⟩ := FIN.out w2 ⟨0, 0, ⟨#[]⟩⟩ 1 B2.out HR1.out
      generalize ((w2.setCell ⟨w.heap.size, 0, none⟩ (.int .i64 0)).setCell ⟨w.heap.size, 1, none⟩ (.int .i64 0)).setCell ⟨w.heap.size, 2, none⟩ (.string ⟨#[]⟩) = W at g1 g2 ⊢
      exact bodyPost_ret (res_ve (t := 7) (p := 6) rfl _ _ w.heap.size _ _ _ rfl g2) rfl g1
  · have HR1 : Hid (q = (⟨0, 0, ⟨#[]⟩⟩, 1, T)) := Lib.hid (by rw [HR.out, if_neg (by rintro ⟨h, _⟩; exact hlen h)])
    have hne : ((l.length : Int) == (ws.length : Int)) = false := by simp; omega
    have hne2 : ((l.length : Int) != (ws.length : Int)) = true := by simp; omega
    clear hlen
    go_wp2
    obtain ⟨g1, g2⟩ := FIN.out w1 ⟨0, 0, ⟨#[]⟩⟩ 1 (Below.refl _ _) HR1.out
    generalize ((w1.setCell ⟨w.heap.size, 0, none⟩ (.int .i64 0)).setCell ⟨w.heap.size, 1, none⟩ (.int .i64 0)).setCell ⟨w.heap.size, 2, none⟩ (.string ⟨#[]⟩) = W at g1 g2 ⊢
    exact bodyPost_ret (res_ve (t := 7) (p := 6) rfl _ _ w.heap.size _ _ _ rfl g2) rfl g1
end Go.Proofs.YtpejhilfopjckaaDoor.Hp

/-
Package heap's operation, charOf, reckon. Where the table of what is reckoned is as the program lays it.
-/
namespace Go.Proofs.YtpejhilfopjckaaDoor.Hp
open Go.ChangeShapes Go.WideShapes Go.ChangeAt Go.RowKit Go.Deep
open Dat (PT ok64 RepV RepS RowX infoDatum)
set_option maxRecDepth 100000

/-- The table of what is reckoned. -/
def RecOk (w : World) : Prop := ∃ T fr, w.heap[0]? = some (.cells #[.string ⟨#[43]⟩, .string ⟨#[45]⟩, .string ⟨#[42]⟩, .string ⟨#[113, 117, 111, 116, 105, 101, 110, 116]⟩, .string ⟨#[114, 101, 109, 97, 105, 110, 100, 101, 114]⟩] T fr)
theorem RecOk.below {w w' : World} {C : Nat} (h : RecOk w) (hb : Below C w w') (hC : 1 ≤ C) : RecOk w' := by
  obtain ⟨T, fr, h⟩ := h
  exact ⟨T, fr, (hb.block _ (by show 0 < C; omega)).trans h⟩
theorem RecOk.cells {w : World} (h : RecOk w) : w.cell? ⟨0, 0, none⟩ = some (.string ⟨#[43]⟩) ∧ w.cell? ⟨0, 1, none⟩ = some (.string ⟨#[45]⟩) ∧ w.cell? ⟨0, 2, none⟩ = some (.string ⟨#[42]⟩) ∧
    w.cell? ⟨0, 3, none⟩ = some (.string ⟨#[113, 117, 111, 116, 105, 101, 110, 116]⟩) ∧ w.cell? ⟨0, 4, none⟩ = some (.string ⟨#[114, 101, 109, 97, 105, 110, 100, 101, 114]⟩) := by
  obtain ⟨T, fr, h⟩ := h
  refine ⟨?_, ?_, ?_, ?_, ?_⟩
  all_goals (rw [Lib.cell_of_heap h]; rfl)
theorem rec_at0 (w : World) : (Instr.index 122 (.agg #[.string ⟨#[43]⟩, .string ⟨#[45]⟩, .string ⟨#[42]⟩, .string ⟨#[113, 117, 111, 116, 105, 101, 110, 116]⟩, .string ⟨#[114, 101, 109, 97, 105, 110, 100, 101, 114]⟩]) (.int .i64 0)).run Tryd.prog w = .ok (.string ⟨#[43]⟩) w := by kernel_rfl
theorem rec_at1 (w : World) : (Instr.index 122 (.agg #[.string ⟨#[43]⟩, .string ⟨#[45]⟩, .string ⟨#[42]⟩, .string ⟨#[113, 117, 111, 116, 105, 101, 110, 116]⟩, .string ⟨#[114, 101, 109, 97, 105, 110, 100, 101, 114]⟩]) (.int .i64 1)).run Tryd.prog w = .ok (.string ⟨#[45]⟩) w := by kernel_rfl
theorem rec_at2 (w : World) : (Instr.index 122 (.agg #[.string ⟨#[43]⟩, .string ⟨#[45]⟩, .string ⟨#[42]⟩, .string ⟨#[113, 117, 111, 116, 105, 101, 110, 116]⟩, .string ⟨#[114, 101, 109, 97, 105, 110, 100, 101, 114]⟩]) (.int .i64 2)).run Tryd.prog w = .ok (.string ⟨#[42]⟩) w := by kernel_rfl
theorem rec_at3 (w : World) : (Instr.index 122 (.agg #[.string ⟨#[43]⟩, .string ⟨#[45]⟩, .string ⟨#[42]⟩, .string ⟨#[113, 117, 111, 116, 105, 101, 110, 116]⟩, .string ⟨#[114, 101, 109, 97, 105, 110, 100, 101, 114]⟩]) (.int .i64 3)).run Tryd.prog w = .ok (.string ⟨#[113, 117, 111, 116, 105, 101, 110, 116]⟩) w := by kernel_rfl
theorem rec_at4 (w : World) : (Instr.index 122 (.agg #[.string ⟨#[43]⟩, .string ⟨#[45]⟩, .string ⟨#[42]⟩, .string ⟨#[113, 117, 111, 116, 105, 101, 110, 116]⟩, .string ⟨#[114, 101, 109, 97, 105, 110, 100, 101, 114]⟩]) (.int .i64 4)).run Tryd.prog w = .ok (.string ⟨#[114, 101, 109, 97, 105, 110, 100, 101, 114]⟩) w := by kernel_rfl
theorem op_none (prim : ByteArray) (w : World) (h : RecOk w) (h0 : ([43] == prim.toList) = false) (h1 : ([45] == prim.toList) = false) (h2 : ([42] == prim.toList) = false) (h3 : ([113, 117, 111, 116, 105, 101, 110, 116] == prim.toList) = false) (h4 : ([114, 101, 109, 97, 105, 110, 100, 101, 114] == prim.toList) = false) :
    Calls Tryd.prog 47 #[.string prim] w fun e w' => e = .returned (.tuple #[.int .i64 0, .bool false]) ∧ w = w' := by
  obtain ⟨c0, c1, c2, c3, c4⟩ := h.cells
  have x0 := rec_at0 w
  have x1 := rec_at1 w
  have x2 := rec_at2 w
  have x3 := rec_at3 w
  have x4 := rec_at4 w
  clear h
  go_enter Tryd.func47, Tryd.ntmps47
  go_wp2
  go_loop [7] (fun x => ∃ j : Nat, j ≤ 5 ∧ x = .int .i64 j) (fun x => 5 - (intOf x).toNat)
  case atStart => exact ⟨0, Nat.zero_le _, rfl⟩
  case round =>
    obtain ⟨j, hj, rfl⟩ := hrel
    have h6 : j = 0 ∨ j = 1 ∨ j = 2 ∨ j = 3 ∨ j = 4 ∨ j = 5 := by omega
    rcases h6 with rfl | rfl | rfl | rfl | rfl | rfl
    · go_wp2
      go_round
      case rel => exact ⟨1, by omega, rfl⟩
      case measure => simp [intOf]
    · go_wp2
      go_round
      case rel => exact ⟨2, by omega, rfl⟩
      case measure => simp [intOf]
    · go_wp2
      go_round
      case rel => exact ⟨3, by omega, rfl⟩
      case measure => simp [intOf]
    · go_wp2
      go_round
      case rel => exact ⟨4, by omega, rfl⟩
      case measure => simp [intOf]
    · go_wp2
      go_round
      case rel => exact ⟨5, by omega, rfl⟩
      case measure => simp [intOf]
    · go_wp2
      go_ret2
      exact ⟨rfl, rfl⟩
end Go.Proofs.YtpejhilfopjckaaDoor.Hp
