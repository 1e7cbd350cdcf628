/-
What package data's Text and Show answer, for every datum that may be: the text; for every other one Check's error and no text. Where the table of tens is as the program lays it.
-/
import Derived.Test.YtiamojpeedllbaaGreatDoorD17
namespace Go.Proofs.YtiamojpeedllbaaGreatDoor.Dat
open Go.ChangeShapes Go.WideShapes Go.ChangeAt Go.RowKit
set_option maxRecDepth 100000

theorem datum_items (bare : Bool) (k i : Int) (s : ByteArray) (l : List PT) (ih : ∀ t ∈ l, TellOk bare t) (hk : k = 5 ∨ k = 7) (w : World) (B tb : Nat) (acc : List UInt8) (v : Value) (hv : RepS w B l v) (hB : B ≤ tb) (h2 : 2 ≤ tb) (htab : TabOk w) (hT : IsTeller tb bare acc w) (hf : FormsOk l) (hlen : acc.length + roomsT l + 3 ≤ 140737488355328)
    (tx : List UInt8) (htx : tx = (if k = 5 then [] else [35]) ++ ([40] ++ (joinT (textsT bare l) ++ [41]))) :
    Calls Tryz.prog 49 #[.pointer (some ⟨tb, 0, none⟩), .agg #[.int .i64 k, .int .i64 i, .string s, v]] w (Wrote tb bare (acc ++ tx) w) := by
  have hlt := hT.cells.2
  have HV := Lib.hid hv
  obtain ⟨a, c, rfl, _⟩ := hv
  have hM := hT.moved ((Below.refl w.heap.size w).alloc (Nat.le_refl _) (.cells #[.int .i64 k, .int .i64 i, .string s, .slice a l.length c] 28))
  have hB0 := (Below.refl tb w).alloc (by omega) (.cells #[.int .i64 k, .int .i64 i, .string s, .slice a l.length c] 28)
  have HT := Lib.hid hM
  have HB := Lib.hid hB0
  have HTab := Lib.hid htab
  have IH := Lib.hid ih
  have HF := Lib.hid hf
  have HX := Lib.hid htx
  clear hT hM hB0 htab ih hf htx
  rcases hk with rfl | rfl
  · go_enter Tryz.func49, Tryz.ntmps49
    go_wp2_with fail
    refine (list_any bare l IH.out _ B tb _ _ (HV.out.below HB.out hB) hB h2 (tabOk_below HTab.out HB.out h2) HT.out HF.out (by omega)).mono ?_
    rintro e w1 ⟨rfl, h1, hb1⟩
    go_wp2
    go_end0
    refine ⟨rfl, ?_, HB.out.trans hb1⟩
    rw [HX.out]; exact h1
  · go_enter Tryz.func49, Tryz.ntmps49
    go_wp2_with fail
    refine (putByteK tb bare _ _ 35 rfl _ HT.out (by omega)).mono ?_
    rintro e w2 ⟨rfl, hT2, hb2, ho2⟩
    have hbox := ho2 w.heap.size _ 28 (0, 0) (by decide) (by omega) (heap_alloc_new w _)
    have g3 : w2.cell? ⟨w.heap.size, 3, none⟩ = some (.slice a l.length c) := by rw [Lib.cell_of_heap hbox]; rfl
    clear hbox ho2
    have hbr2 : Below tb w w2 := HB.out.trans hb2
    clear hb2
    go_wp2_with fail
    refine (list_any bare l IH.out _ B tb _ _ (HV.out.below hbr2 hB) hB h2 (tabOk_below HTab.out hbr2 h2) hT2 HF.out (by simp; omega)).mono ?_
    rintro e w1 ⟨rfl, h1, hb1⟩
    go_wp2
    go_end0
    refine ⟨rfl, ?_, hbr2.trans hb1⟩
    rw [HX.out]
    rw [List.append_assoc] at h1
    exact h1

theorem datum_dotted (bare : Bool) (i : Int) (s : ByteArray) (l : List PT) (ih : ∀ t ∈ l, TellOk bare t) (w : World) (B tb : Nat) (acc : List UInt8) (v : Value) (hv : RepS w B l v) (hn : 2 ≤ l.length) (hB : B ≤ tb) (h2 : 2 ≤ tb) (htab : TabOk w) (hT : IsTeller tb bare acc w) (hf : FormsOk l) (hlen : acc.length + roomsT l + 8 ≤ 140737488355328) :
    Calls Tryz.prog 49 #[.pointer (some ⟨tb, 0, none⟩), .agg #[.int .i64 6, .int .i64 i, .string s, v]] w (Wrote tb bare (acc ++ ([40] ++ (joinT (textsT bare l).dropLast ++ ([32, 46, 32] ++ ((textsT bare l).getLast?.getD [] ++ [41]))))) w) := by
  have hlt := hT.cells.2
  obtain ⟨a, c, rfl, hl, hm, hna, hr⟩ := hv
  rcases hr with rfl | ⟨b, o, rfl, hb, hr⟩
  · simp at hn
  have hM := hT.moved ((Below.refl w.heap.size w).alloc (Nat.le_refl _) (.cells #[.int .i64 6, .int .i64 i, .string s, .slice (some ⟨b, o, none⟩) l.length c] 28))
  have hB0 := (Below.refl tb w).alloc (by omega) (.cells #[.int .i64 6, .int .i64 i, .string s, .slice (some ⟨b, o, none⟩) l.length c] 28)
  have HT := Lib.hid hM
  have HB := Lib.hid hB0
  have HTab := Lib.hid htab
  have IH := Lib.hid ih
  have HF := Lib.hid hf
  have HR := Lib.hid hr
  clear hT hM hB0 htab ih hf hr
  go_enter Tryz.func49, Tryz.ntmps49
  go_wp2_with fail
  refine (dotted_any bare l IH.out _ B tb b o c acc hl hm hb (HR.out.below HB.out hB hb) hn hB h2 (tabOk_below HTab.out HB.out h2) HT.out HF.out (by omega)).mono ?_
  rintro e w1 ⟨rfl, h1, hb1⟩
  go_wp2
  go_end0
  exact ⟨rfl, h1, HB.out.trans hb1⟩

theorem tell_step (bare : Bool) (k i : Int) (s : ByteArray) (l : List PT) (ih : ∀ t ∈ l, TellOk bare t) : TellOk bare (.mk k i s l) := by
  intro w B tb acc v hv hB h2 htab hT hf hlen
  obtain ⟨ok1, ok2, hs, hv⟩ := hv
  rw [FormOk] at hf
  rw [roomT] at hlen
  rw [textT]
  obtain ⟨hf1, hf2⟩ := hf
  show Calls Tryz.prog 49 #[.pointer (some ⟨tb, 0, none⟩), .agg #[.int .i64 k, .int .i64 i, .string s, v]] w _
  rcases kind_ways k with (rfl | rfl | rfl) | rfl | rfl | hk | rfl | hk
  · obtain ⟨a, c, rfl, _⟩ := hv
    exact datum_plain bare 0 i s a l.length c _ (.inl ⟨rfl, rfl⟩) w tb acc hs hT (by omega)
  · obtain ⟨a, c, rfl, _⟩ := hv
    exact datum_int bare i ok2 s a l.length c w tb acc h2 htab hT (by omega)
  · obtain ⟨a, c, rfl, _⟩ := hv
    have hb : 0 ≤ i ∧ i ≤ 255 := by
      unfold formB at hf1
      simp at hf1
      omega
    have e : ((UInt8.ofNat i.toNat).toNat : Int) = i := by simp; omega
    have := datum_char bare (UInt8.ofNat i.toNat) s a l.length c w tb acc hT (by omega)
    rw [e] at this
    exact this
  · obtain ⟨a, c, rfl, _⟩ := hv
    exact datum_plain bare 3 i s a l.length c _ (.inr ⟨rfl, rfl⟩) w tb acc hs hT (by omega)
  · obtain ⟨a, c, rfl, _⟩ := hv
    exact datum_symbol bare i s a l.length c w tb acc hT (by omega)
  · rcases hk with rfl | rfl
    · exact datum_items bare 5 i s l ih (.inl rfl) w B tb acc v hv hB h2 htab hT hf2 (by omega) _ rfl
    · exact datum_items bare 7 i s l ih (.inr rfl) w B tb acc v hv hB h2 htab hT hf2 (by omega) _ rfl
  · have hn : 2 ≤ l.length := by
      unfold formB at hf1
      simp at hf1
      omega
    exact datum_dotted bare i s l ih w B tb acc v hv hn hB h2 htab hT hf2 (by omega)
  · exfalso
    have : formB k i s.data.toList l = false := by
      unfold formB
      repeat (rw [if_neg (by omega)])
    rw [this] at hf1
    cases hf1

mutual
theorem tell_any (bare : Bool) : ∀ t : PT, TellOk bare t
  | .mk k i s l => tell_step bare k i s l (tell_all bare l)
theorem tell_all (bare : Bool) : ∀ l : List PT, ∀ t ∈ l, TellOk bare t
  | [], t, h => by cases h
  | u :: l, t, h => (List.mem_cons.1 h).elim (fun e => e ▸ tell_any bare u) (fun h => tell_all bare l t h)
end

/-! ### what Check finds nothing wrong in -/
theorem form_size {k i : Int} {s : ByteArray} {l : List PT} (h : formB k i s.data.toList l = true) : s.size ≤ 4096 := by
  have hl := len_data s
  have hn : nameB s.data.toList = true → s.data.toList.length ≤ 64 := by
    intro hh
    unfold nameB at hh
    simp only [Bool.and_eq_true, decide_eq_true_eq] at hh
    exact hh.1.1.1.2
  have he : s.data.toList.isEmpty = true → s.data.toList.length = 0 := by
    intro hh
    rw [List.isEmpty_iff] at hh
    rw [hh]; rfl
  rw [← hl]
  generalize s.data.toList = x at *
  clear hl
  unfold formB at h
  repeat' split at h
  all_goals (first | (exfalso; cases h; done) | simp only [Bool.and_eq_true, decide_eq_true_eq] at h)
  · have := he h.1.2; omega
  · have := he h.1.2; omega
  · have := he h.1.2; omega
  · omega
  · have := hn h.1.2; omega
  · have := he h.2; omega
  · have := he h.1.1.2; omega

mutual
theorem chk_ok (deep n : Nat) : ∀ t : PT, (chk deep n t).2 = 0 → FormOk t ∧ roomT t + 1 + n * 16417 ≤ (chk deep n t).1 * 16417
  | .mk k i s l, h => by
    rw [chk] at h ⊢
    split at h
    · cases h
    split at h
    · cases h
    split at h
    · rename_i h1 h2 h3
      rw [if_neg h1, if_neg h2, if_pos h3]
      have := chkL_ok (deep + 1) (n + 1) l h
      have hs := form_size h3
      rw [FormOk, roomT]
      exact ⟨⟨h3, this.1⟩, by omega⟩
    · cases h
theorem chkL_ok (deep n : Nat) : ∀ l : List PT, (chkL deep n l).2 = 0 → FormsOk l ∧ roomsT l + n * 16417 ≤ (chkL deep n l).1 * 16417
  | [], _ => by simp [FormsOk, roomsT, chkL]
  | t :: l, h => by
    rw [chkL] at h ⊢
    split at h
    · rename_i h0
      rw [if_pos h0]
      have h1 := chk_ok deep n t h0
      have h2 := chkL_ok deep _ l h
      rw [FormsOk, roomsT]
      exact ⟨⟨h1.1, h2.1⟩, by omega⟩
    · rename_i h0
      exact absurd h h0
end
theorem check_ok (t : PT) (h : checkB t = 0) : FormOk t ∧ roomT t ≤ 67244032 := by
  have h1 := chk_ok 0 0 t h
  have h2 := chk_le 0 0 (by omega) t
  exact ⟨h1.1, by omega⟩

/-! ### the string that has been written -/
theorem unsafeString_none (W : World) (q : Option Addr) : (Builtin.unsafeString_ #[95, 3] 9 #[.pointer q, .int .i64 0]).run Tryz.prog W = .ok (.string .empty) W :=
  Lib.run_unsafeString_none W _ _ _ q

set_option maxHeartbeats 1000000 in
set_option maxRecDepth 100000 in
theorem string_nil (tb : Nat) (bare : Bool) (p : Value) (w : World) (hbk : w.heap[tb]? = some (.cells #[p, .slice none 0 0, .bool bare] 86 (0, 0))) :
    Calls Tryz.prog 40 #[.pointer (some ⟨tb, 0, none⟩)] w fun e w' => e = .returned (.string ⟨#[]⟩) ∧ Below tb w w' := by
  have hUS := unsafeString_none
  have c1 : w.drew.cell? ⟨tb, 1, none⟩ = some (.slice none 0 0) := by
    have : w.drew.heap[tb]? = some (.cells #[p, .slice none 0 0, .bool bare] 86 (0, 0)) := hbk
    rw [Lib.cell_of_heap this]; rfl
  have hSD : (Builtin.unsafeSliceData_ #[35] 95 #[.slice none 0 0]).run Tryz.prog w.drew = .ok (.pointer none) w.drew := rfl
  go_enter Tryz.func40, Tryz.ntmps40
  go_wp2
  go_region
  all_goals (go_wp2; go_ret; exact ⟨rfl, Below.drew (Below.refl tb w)⟩)

set_option maxHeartbeats 1000000 in
set_option maxRecDepth 100000 in
theorem string_noroom (tb g : Nat) (bare : Bool) (p : Value) (cur : Array Value) (w : World) (hbk : w.heap[tb]? = some (.cells #[p, .slice (some ⟨g, 0, none⟩) 0 0, .bool bare] 86 (0, 0))) (hg : w.heap[g]? = some (.cells cur 5 (0, 0))) :
    Calls Tryz.prog 40 #[.pointer (some ⟨tb, 0, none⟩)] w fun e w' => e = .returned (.string ⟨#[]⟩) ∧ Below tb w w' := by
  have hUS := unsafeString_none
  have hlt := lt_of_block hbk
  have c1 : w.drew.cell? ⟨tb, 1, none⟩ = some (.slice (some ⟨g, 0, none⟩) 0 0) := by
    have : w.drew.heap[tb]? = some (.cells #[p, .slice (some ⟨g, 0, none⟩) 0 0, .bool bare] 86 (0, 0)) := hbk
    rw [Lib.cell_of_heap this]; rfl
  have hSD : (Builtin.unsafeSliceData_ #[35] 95 #[.slice (some ⟨g, 0, none⟩) 0 0]).run Tryz.prog w.drew = .ok (.pointer (some ⟨w.drew.heap.size, 0, none⟩)) (w.drew.alloc (.view ⟨g, 0, none⟩ 5)) :=
    Lib.run_unsafeSliceData_zero w.drew _ _ 5 Tryz.underlying95 ⟨g, 0, none⟩ 0 (5, cur.size) (by have hg' : w.drew.heap[g]? = some (.cells cur 5 (0, 0)) := hg; simp [World.shape?, hg'])
  have c2 : (w.drew.alloc (.view ⟨g, 0, none⟩ 5)).cell? ⟨tb, 1, none⟩ = some (.slice (some ⟨g, 0, none⟩) 0 0) := by
    have : (w.drew.alloc (.view ⟨g, 0, none⟩ 5)).heap[tb]? = _ := (Lib.alloc_old w.drew _ tb hlt).trans hbk
    rw [Lib.cell_of_heap this]; rfl
  have c3 : (w.alloc (.view ⟨g, 0, none⟩ 5)).drew.cell? ⟨tb, 1, none⟩ = some (.slice (some ⟨g, 0, none⟩) 0 0) := c2
  have c0 : w.cell? ⟨tb, 1, none⟩ = some (.slice (some ⟨g, 0, none⟩) 0 0) := c1
  go_enter Tryz.func40, Tryz.ntmps40
  go_wp2
  go_region
  all_goals (go_wp2; go_ret; exact ⟨rfl, (Below.drew (Below.refl tb w)).alloc (by show tb ≤ w.heap.size; omega) _⟩)

set_option maxHeartbeats 1000000 in
set_option maxRecDepth 100000 in
theorem string_room (tb g cap : Nat) (bare : Bool) (p : Value) (w : World) (hc0 : cap ≠ 0) (hbk : w.heap[tb]? = some (.cells #[p, .slice (some ⟨g, 0, none⟩) 0 cap, .bool bare] 86 (0, 0))) :
    Calls Tryz.prog 40 #[.pointer (some ⟨tb, 0, none⟩)] w fun e w' => e = .returned (.string ⟨#[]⟩) ∧ Below tb w w' := by
  have hUS := unsafeString_none
  have c1 : w.drew.cell? ⟨tb, 1, none⟩ = some (.slice (some ⟨g, 0, none⟩) 0 cap) := by
    have : w.drew.heap[tb]? = some (.cells #[p, .slice (some ⟨g, 0, none⟩) 0 cap, .bool bare] 86 (0, 0)) := hbk
    rw [Lib.cell_of_heap this]; rfl
  have hSD : (Builtin.unsafeSliceData_ #[35] 95 #[.slice (some ⟨g, 0, none⟩) 0 cap]).run Tryz.prog w.drew = .ok (.pointer (some ⟨g, 0, none⟩)) w.drew :=
    Lib.run_unsafeSliceData_row _ _ _ _ _ _ hc0
  clear hc0
  go_enter Tryz.func40, Tryz.ntmps40
  go_wp2
  go_region
  all_goals (go_wp2; go_ret; exact ⟨rfl, Below.drew (Below.refl tb w)⟩)

theorem string_any (tb : Nat) (bare : Bool) (l : List UInt8) (w : World) (h : IsTeller tb bare l w) :
    Calls Tryz.prog 40 #[.pointer (some ⟨tb, 0, none⟩)] w fun e w' => e = .returned (.string ⟨l.toArray⟩) ∧ Below tb w w' := by
  by_cases h0 : l = []
  · subst h0
    obtain ⟨p, v, hbk, hown, hne⟩ := h.has
    rcases hown.2 with ⟨rfl, _⟩ | ⟨g, cap, cur, rfl, hbg, hg, _⟩
    · exact string_nil tb bare p w hbk
    · by_cases hc : cap = 0
      · subst hc
        exact string_noroom tb g bare p cur w hbk hg
      · exact string_room tb g cap bare p w hc hbk
  · exact string_some tb bare l w h h0
end Go.Proofs.YtiamojpeedllbaaGreatDoor.Dat
