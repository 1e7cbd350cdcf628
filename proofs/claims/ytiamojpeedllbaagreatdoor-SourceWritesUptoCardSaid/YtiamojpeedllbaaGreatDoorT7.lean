/-
Contracts of package lex's isNumeral, ofNumeral: what each returns, for every word; where the two errors of strconv are as the program lays them.
-/
import Derived.Test.YtiamojpeedllbaaGreatDoorT6
namespace Go.Proofs.YtiamojpeedllbaaGreatDoor
open Go.ChangeShapes Go.WideShapes Go.ChangeAt Go.RowKit

def tens : List UInt8 := [48, 49, 50, 51, 52, 53, 54, 55, 56, 57]
theorem tens_table : ∀ n : Fin 256, tens.contains n.val.toUInt8 = dig8 n.val.toUInt8 := by decide +kernel
theorem tens_dig (c : UInt8) : tens.contains c = dig8 c := by
  have h := tens_table ⟨c.toNat, c.toNat_lt⟩
  simpa using h
theorem dropWhile_nil {p : UInt8 → Bool} : ∀ {l : List UInt8}, l.dropWhile p = [] ↔ l.all p = true
  | [] => by simp
  | c :: r => by
    by_cases h : p c = true
    · simp [h, dropWhile_nil (l := r)]
    · simp [h]
theorem trim_digits (l : List UInt8) : Lib.trimS l tens = [] ↔ digsB l = true := by
  have hp : (fun c => tens.contains c) = dig8 := funext tens_dig
  unfold Lib.trimS Lib.trimLeftS Lib.trimRightS digsB
  rw [hp, dropWhile_nil]
  constructor
  · intro h
    -- what is left behind is no digit at its end, or nothing
    cases hd : l.reverse.dropWhile dig8 with
    | nil => have := dropWhile_nil.1 hd; simpa using this
    | cons c r =>
      exfalso
      rw [hd] at h
      have hc : dig8 c = true := List.all_eq_true.1 h c (by simp)
      have : (l.reverse.dropWhile dig8).head? = some c := by rw [hd]; rfl
      have hn := List.head?_dropWhile_not dig8 l.reverse
      rw [this] at hn
      simp [hc] at hn
  · intro h
    have : l.reverse.dropWhile dig8 = [] := dropWhile_nil.2 (by simpa using h)
    rw [this]
    rfl

theorem trim_yes (t : ByteArray) (w : World) (hs : t.size ≤ maxLen) (h : digsB t.data.toList = true) :
    Calls Tryz.prog 101 #[.string t, .string ⟨#[48, 49, 50, 51, 52, 53, 54, 55, 56, 57]⟩] w fun e w' => e = .returned (.string ⟨#[]⟩) ∧ Below w.heap.size w w' := by
  have C := Any.strings_Trim_laid Tryz.lays160 (by kernel_rfl) t ⟨#[48, 49, 50, 51, 52, 53, 54, 55, 56, 57]⟩ w (by unfold maxLen at hs; omega) (by decide) (ascii_of_all (by decide))
  have e : Lib.trimS t.data.toList (⟨#[48, 49, 50, 51, 52, 53, 54, 55, 56, 57]⟩ : ByteArray).data.toList = [] := (trim_digits _).2 h
  rw [e] at C
  exact C
theorem trim_no (t : ByteArray) (w : World) (hs : t.size ≤ maxLen) (h : digsB t.data.toList = false) :
    Calls Tryz.prog 101 #[.string t, .string ⟨#[48, 49, 50, 51, 52, 53, 54, 55, 56, 57]⟩] w fun e w' => (∃ u : ByteArray, e = .returned (.string u) ∧ 0 < u.size) ∧ Below w.heap.size w w' := by
  have C := Any.strings_Trim_laid Tryz.lays160 (by kernel_rfl) t ⟨#[48, 49, 50, 51, 52, 53, 54, 55, 56, 57]⟩ w (by unfold maxLen at hs; omega) (by decide) (ascii_of_all (by decide))
  refine C.mono ?_
  rintro e w' ⟨he, hb⟩
  refine ⟨⟨_, he, ?_⟩, hb⟩
  have hne : Lib.trimS t.data.toList tens ≠ [] := fun e => by
    have := (trim_digits _).1 e
    rw [h] at this; cases this
  have := List.length_pos_iff.2 hne
  show 0 < (Lib.trimS t.data.toList tens).toArray.size
  simpa using this

theorem isNum_go (s : ByteArray) (r : Bool) (w : World) (hs : s.size ≤ maxLen) (h0 : 0 < s.size)
    (hr : ((s[0].toNat : Int) == 43) = true ∧ r = (!(s.data.toList.drop 1).isEmpty && digsB (s.data.toList.drop 1)) ∨
      ((s[0].toNat : Int) == 43) = false ∧ ((s[0].toNat : Int) == 45) = true ∧ r = (!(s.data.toList.drop 1).isEmpty && digsB (s.data.toList.drop 1)) ∨
      ((s[0].toNat : Int) == 43) = false ∧ ((s[0].toNat : Int) == 45) = false ∧ r = digsB s.data.toList) :
    Calls Tryz.prog 78 #[.string s] w fun e w' => e = .returned (.bool r) ∧ Below w.heap.size w w' := by
  have he : (s.extract 1 s.size).data.toList = s.data.toList.drop 1 := by rw [Lib.extract_data, List.take_of_length_le]; simp
  have hz : (s.extract 1 s.size).size = s.size - 1 := by simp
  have hle : (s.extract 1 s.size).size ≤ maxLen := by omega
  have sgn : ∀ W, (s.extract 1 s.size).size ≠ 0 → digsB (s.data.toList.drop 1) = true → Calls Tryz.prog 101 #[.string (s.extract 1 s.size), .string ⟨#[48, 49, 50, 51, 52, 53, 54, 55, 56, 57]⟩] W fun e w' => e = .returned (.string ⟨#[]⟩) ∧ Below W.heap.size W w' := fun W _ h => trim_yes _ W hle (by rw [he]; exact h)
  have sgn' : ∀ W, digsB (s.data.toList.drop 1) = false → Calls Tryz.prog 101 #[.string (s.extract 1 s.size), .string ⟨#[48, 49, 50, 51, 52, 53, 54, 55, 56, 57]⟩] W fun e w' => (∃ u : ByteArray, e = .returned (.string u) ∧ 0 < u.size) ∧ Below W.heap.size W w' := fun W h => trim_no _ W hle (by rw [he]; exact h)
  have HS := Lib.hid sgn
  have HS' := Lib.hid sgn'
  have HY := Lib.hid (fun W h => trim_yes s W hs h)
  have HNO := Lib.hid (fun W h => trim_no s W hs h)
  have HE := Lib.hid he
  have HZ := Lib.hid hz
  obtain ⟨n1, n2⟩ := ne_of_size h0
  unfold maxLen at hs
  clear sgn sgn' he hz hle
  rcases hr with ⟨h1, hr⟩ | ⟨h1, h2, hr⟩ | ⟨h1, h2, hr⟩
  · have HR := Lib.hid hr
    clear hr
    by_cases hd0 : s.size = 1
    · have hzz : (s.extract 1 s.size).toList = [] := by
        rw [ByteArray.toList_eq]
        exact List.length_eq_zero_iff.1 (by rw [len_data, HZ.out]; omega)
      have hrf : r = false := by rw [HR.out, ← HE.out, ← ByteArray.toList_eq, hzz]; rfl
      have HRF := Lib.hid hrf
      have hz2 : (s.extract 1 s.size).toList.isEmpty = true := by rw [hzz]; rfl
      clear hrf hd0
      go_enter Tryz.func78, Tryz.ntmps78
      go_wp2
      go_ret
      exact ⟨ret_bool HRF.out.symm, Below.refl _ _⟩
    · obtain ⟨m1, m2⟩ := ne_of_size (s := s.extract 1 s.size) (by rw [HZ.out]; omega)
      have hq : (s.data.toList.drop 1).isEmpty = false := by rw [← HE.out, ← ByteArray.toList_eq]; exact m2
      by_cases hdd : digsB (s.data.toList.drop 1) = true
      · have HRF := Lib.hid (show r = true by rw [HR.out, hq, hdd]; rfl)
        have C := Lib.hid (fun W => HS.out W (by rw [HZ.out]; omega) hdd)
        clear hdd hd0 hq
        go_enter Tryz.func78, Tryz.ntmps78
        go_wp2_with (go_at_call 101; refine (C.out _).mono ?_; rintro e w1 ⟨rfl, hb⟩)
        go_ret
        exact ⟨ret_bool HRF.out.symm, hb⟩
      · have hdd' : digsB (s.data.toList.drop 1) = false := by simpa using hdd
        have HRF := Lib.hid (show r = false by rw [HR.out, hdd']; simp)
        have C := Lib.hid (fun W => HS'.out W hdd')
        clear hdd hdd' hd0 hq
        go_enter Tryz.func78, Tryz.ntmps78
        go_wp2_with fail
        refine (C.out _).mono ?_
        rintro e w1 ⟨⟨u, rfl, hu⟩, hb⟩
        obtain ⟨u1, u2⟩ := ne_of_size hu
        go_wp2
        go_ret
        exact ⟨ret_bool HRF.out.symm, hb⟩
  · have HR := Lib.hid hr
    clear hr
    by_cases hd0 : s.size = 1
    · have hzz : (s.extract 1 s.size).toList = [] := by
        rw [ByteArray.toList_eq]
        exact List.length_eq_zero_iff.1 (by rw [len_data, HZ.out]; omega)
      have hrf : r = false := by rw [HR.out, ← HE.out, ← ByteArray.toList_eq, hzz]; rfl
      have HRF := Lib.hid hrf
      have hz2 : (s.extract 1 s.size).toList.isEmpty = true := by rw [hzz]; rfl
      clear hrf hd0
      go_enter Tryz.func78, Tryz.ntmps78
      go_wp2
      go_ret
      exact ⟨ret_bool HRF.out.symm, Below.refl _ _⟩
    · obtain ⟨m1, m2⟩ := ne_of_size (s := s.extract 1 s.size) (by rw [HZ.out]; omega)
      have hq : (s.data.toList.drop 1).isEmpty = false := by rw [← HE.out, ← ByteArray.toList_eq]; exact m2
      by_cases hdd : digsB (s.data.toList.drop 1) = true
      · have HRF := Lib.hid (show r = true by rw [HR.out, hq, hdd]; rfl)
        have C := Lib.hid (fun W => HS.out W (by rw [HZ.out]; omega) hdd)
        clear hdd hd0 hq
        go_enter Tryz.func78, Tryz.ntmps78
        go_wp2_with (go_at_call 101; refine (C.out _).mono ?_; rintro e w1 ⟨rfl, hb⟩)
        go_ret
        exact ⟨ret_bool HRF.out.symm, hb⟩
      · have hdd' : digsB (s.data.toList.drop 1) = false := by simpa using hdd
        have HRF := Lib.hid (show r = false by rw [HR.out, hdd']; simp)
        have C := Lib.hid (fun W => HS'.out W hdd')
        clear hdd hdd' hd0 hq
        go_enter Tryz.func78, Tryz.ntmps78
        go_wp2_with fail
        refine (C.out _).mono ?_
        rintro e w1 ⟨⟨u, rfl, hu⟩, hb⟩
        obtain ⟨u1, u2⟩ := ne_of_size hu
        go_wp2
        go_ret
        exact ⟨ret_bool HRF.out.symm, hb⟩
  · have HR := Lib.hid hr
    clear hr
    by_cases hdd : digsB s.data.toList = true
    · have HRF := Lib.hid (show r = true by rw [HR.out, hdd])
      have C := Lib.hid (fun W => HY.out W hdd)
      clear hdd
      go_enter Tryz.func78, Tryz.ntmps78
      go_wp2_with (go_at_call 101; refine (C.out _).mono ?_; rintro e w1 ⟨rfl, hb⟩)
      go_ret
      exact ⟨ret_bool HRF.out.symm, hb⟩
    · have hdd' : digsB s.data.toList = false := by simpa using hdd
      have HRF := Lib.hid (show r = false by rw [HR.out, hdd'])
      have C := Lib.hid (fun W => HNO.out W hdd')
      clear hdd hdd'
      go_enter Tryz.func78, Tryz.ntmps78
      go_wp2_with fail
      refine (C.out _).mono ?_
      rintro e w1 ⟨⟨u, rfl, hu⟩, hb⟩
      obtain ⟨u1, u2⟩ := ne_of_size hu
      go_wp2
      go_ret
      exact ⟨ret_bool HRF.out.symm, hb⟩

theorem isNum_any (s : ByteArray) (w : World) (hs : s.size ≤ maxLen) (h0 : 0 < s.size) :
    Calls Tryz.prog 78 #[.string s] w fun e w' => e = .returned (.bool (numB s.data.toList)) ∧ Below w.heap.size w w' := by
  have h0' : 0 < s.data.toList.length := by rw [len_data]; exact h0
  have hq : s.data.toList[0] = s[0] := rfl
  refine isNum_go s _ w hs h0 ?_
  by_cases h1 : ((s[0].toNat : Int) == 43) = true
  · refine .inl ⟨h1, numB_sign _ h0' ?_⟩
    left
    rw [hq]
    exact UInt8.toNat_inj.1 (by have := beq_iff_eq.1 h1; have e : (43 : UInt8).toNat = 43 := rfl; omega)
  · by_cases h2 : ((s[0].toNat : Int) == 45) = true
    · refine .inr (.inl ⟨by simpa using h1, h2, numB_sign _ h0' ?_⟩)
      right
      rw [hq]
      exact UInt8.toNat_inj.1 (by have := beq_iff_eq.1 h2; have e : (45 : UInt8).toNat = 45 := rfl; omega)
    · refine .inr (.inr ⟨by simpa using h1, by simpa using h2, numB_plain _ h0' ?_⟩)
      rw [hq]
      rintro (h | h)
      · exact h1 (by rw [h]; rfl)
      · exact h2 (by rw [h]; rfl)

/-! ### tokens as values -/
def Tk.val (t : Tk) (a b : Int) : Value := .agg #[.int .i64 t.kind, .string ⟨t.text.toArray⟩, .int .i64 t.int, .int .i64 a, .int .i64 b]
def Tk.row (t : Tk) (a b : Int) : Array Value := #[.int .i64 t.kind, .string ⟨t.text.toArray⟩, .int .i64 t.int, .int .i64 a, .int .i64 b]

theorem results_row_tmp {P : Program} {fn : Func} {t p : Tmp} {ty : TypeId} (h : fn.results = #[.cell p ty, .tmp t]) (tmps : Array Value) (w : World) (g : Nat) (t' : TypeId) (cs : Array Value) (fr : Nat × Nat) (d : TypeDesc)
    (hp : tmps.getD p undef = .pointer (some ⟨g, 0, none⟩)) (hg : w.heap[g]? = some (.cells cs t' fr))
    (hu : P.underlying ty = some d) (hd : (match d with | .struct _ | .array _ _ => true | _ => false) = true) (hi : (P.info? ty).map (·.size) = some cs.size) :
    (results fn tmps).run P w = .ok (.tuple #[.agg cs, tmps.getD t undef]) w := by
  have hp' : tmps[p]?.getD undef = .pointer (some ⟨g, 0, none⟩) := by simpa using hp
  simp [results, h, hp', asAddr, run_loadVar_row w g t' ty cs fr d hg hu hd hi]
theorem results_row_tmp2 {P : Program} {fn : Func} {t u p : Tmp} {ty : TypeId} (h : fn.results = #[.cell p ty, .tmp t, .tmp u]) (tmps : Array Value) (w : World) (g : Nat) (t' : TypeId) (cs : Array Value) (fr : Nat × Nat) (d : TypeDesc)
    (hp : tmps.getD p undef = .pointer (some ⟨g, 0, none⟩)) (hg : w.heap[g]? = some (.cells cs t' fr))
    (hu : P.underlying ty = some d) (hd : (match d with | .struct _ | .array _ _ => true | _ => false) = true) (hi : (P.info? ty).map (·.size) = some cs.size) :
    (results fn tmps).run P w = .ok (.tuple #[.agg cs, tmps.getD t undef, tmps.getD u undef]) w := by
  have hp' : tmps[p]?.getD undef = .pointer (some ⟨g, 0, none⟩) := by simpa using hp
  simp [results, h, hp', asAddr, run_loadVar_row w g t' ty cs fr d hg hu hd hi]
end Go.Proofs.YtiamojpeedllbaaGreatDoor
