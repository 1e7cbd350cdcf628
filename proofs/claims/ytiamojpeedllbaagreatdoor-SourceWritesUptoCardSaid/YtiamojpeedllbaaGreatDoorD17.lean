/-
What a teller of package data writes of lists, dotted data, data. A text of at most 2^47 bytes.
-/
import Derived.Test.YtiamojpeedllbaaGreatDoorD16
namespace Go.Proofs.YtiamojpeedllbaaGreatDoor.Dat
open Go.ChangeShapes Go.WideShapes Go.ChangeAt Go.RowKit
set_option maxRecDepth 100000

theorem list_any (bare : Bool) (l : List PT) (ih : ∀ t ∈ l, TellOk bare t) (w : World) (B tb : Nat) (acc : List UInt8) (v : Value) (hv : RepS w B l v) (hB : B ≤ tb) (h2 : 2 ≤ tb) (htab : TabOk w) (hT : IsTeller tb bare acc w) (hf : FormsOk l) (hlen : acc.length + roomsT l + 2 ≤ 140737488355328) :
    Calls Tryz.prog 72 #[.pointer (some ⟨tb, 0, none⟩), v] w (Wrote tb bare (acc ++ ([40] ++ (joinT (textsT bare l) ++ [41]))) w) := by
  have hj : (joinT (textsT bare l)).length ≤ roomsT l := by
    have := row_room bare l l.length hf
    rwa [List.take_of_length_le (by rw [textsT_len]; omega), List.take_length] at this
  have HV := Lib.hid hv
  obtain ⟨a, c, rfl, _⟩ := hv
  have IH := Lib.hid ih
  have HF := Lib.hid hf
  have HTab := Lib.hid htab
  clear ih hf htab
  go_enter Tryz.func72, Tryz.ntmps72
  go_wp2_with fail
  refine (putByte tb bare _ _ 40 rfl _ hT (by omega)).mono ?_
  rintro e w1 ⟨rfl, h1, hb1⟩
  go_wp2_with fail
  refine (row_any bare l IH.out _ B tb _ _ (HV.out.below hb1 hB) hB h2 (tabOk_below HTab.out hb1 h2) h1 HF.out (by simp; omega)).mono ?_
  rintro e w2 ⟨rfl, hT2, hb2⟩
  go_wp2_with fail
  refine (putByte tb bare _ _ 41 rfl _ hT2 (by simp; omega)).mono ?_
  rintro e w3 ⟨rfl, h3, hb3⟩
  go_wp2
  go_end0
  refine ⟨rfl, ?_, (hb1.trans hb2).trans hb3⟩
  rw [List.append_assoc, List.append_assoc] at h3
  exact h3

theorem dotted_any (bare : Bool) (l : List PT) (ih : ∀ t ∈ l, TellOk bare t) (w : World) (B tb b o c : Nat) (acc : List UInt8) (hl : l.length ≤ c) (hm : c ≤ maxLen) (hb : b < B) (hr : RepAt w B l b o) (hn : 2 ≤ l.length) (hB : B ≤ tb) (h2 : 2 ≤ tb) (htab : TabOk w) (hT : IsTeller tb bare acc w) (hf : FormsOk l)
    (hlen : acc.length + roomsT l + 8 ≤ 140737488355328) :
    Calls Tryz.prog 73 #[.pointer (some ⟨tb, 0, none⟩), .slice (some ⟨b, o, none⟩) l.length c] w (Wrote tb bare (acc ++ ([40] ++ (joinT (textsT bare l).dropLast ++ ([32, 46, 32] ++ ((textsT bare l).getLast?.getD [] ++ [41]))))) w) := by
  have hgl : roomsT (l.take (l.length - 1)) + 1 + roomT (l[l.length - 1]'(by omega)) ≤ roomsT l := roomsT_get l (l.length - 1) (by omega)
  have hdl : (textsT bare l).dropLast = textsT bare (l.take (l.length - 1)) := by
    rw [List.dropLast_eq_take, textsT_len, textsT_take]
  have hla : (textsT bare l).getLast?.getD [] = textT bare (l[l.length - 1]'(by omega)) := by
    rw [List.getLast?_eq_getElem?, textsT_len, List.getElem?_eq_getElem (by rw [textsT_len]; omega), Option.getD_some, textsT_get]
  rw [hdl, hla]
  have hj : (joinT (textsT bare (l.take (l.length - 1)))).length ≤ roomsT (l.take (l.length - 1)) := by
    have := row_room bare l (l.length - 1) hf
    rwa [textsT_take] at this
  clear hdl hla
  have hv : RepS w B (l.take (l.length - 1)) (.slice (some ⟨b, o, none⟩) (l.length - 1) c) :=
    ⟨_, c, by rw [List.length_take, Nat.min_eq_left (by omega)], by rw [List.length_take]; omega, hm, (fun h => by cases h), .inr ⟨b, o, rfl, hb, repAt_take _ hr⟩⟩
  have hlastm : l[l.length - 1]'(by omega) ∈ l := List.getElem_mem _
  have hF : FormOk (l[l.length - 1]'(by omega)) := formsOk_get hf _ hlastm
  have hL : TellOk bare (l[l.length - 1]'(by omega)) := ih _ hlastm
  have hih : ∀ t ∈ l.take (l.length - 1), TellOk bare t := fun t ht => ih t (List.mem_of_mem_take ht)
  have hff := formsOk_take l (l.length - 1) hf
  have HV := Lib.hid hv
  have IH := Lib.hid hih
  have HF := Lib.hid hff
  have HFL := Lib.hid hF
  have HL := Lib.hid hL
  have HTab := Lib.hid htab
  have HR := Lib.hid hr
  have hlt := hT.cells.2
  unfold maxLen at hm
  clear ih hf htab hv hff hih hr hF hL
  go_enter Tryz.func73, Tryz.ntmps73
  go_wp2_with fail
  refine (putByte tb bare _ _ 40 rfl _ hT (by omega)).mono ?_
  rintro e w1 ⟨rfl, h1, hb1⟩
  go_wp2_with fail
  refine (row_any bare (l.take (l.length - 1)) IH.out _ B tb _ _ (HV.out.below hb1 hB) hB h2 (tabOk_below HTab.out hb1 h2) h1 HF.out (by simp; omega)).mono ?_
  rintro e w2 ⟨rfl, hT2, hb2⟩
  go_wp2_with fail
  refine (putText tb bare _ _ [32, 46, 32] rfl _ hT2 (by simp; omega)).mono ?_
  rintro e w3 ⟨rfl, h3, hb3⟩
  have hbr : Below tb w w3 := (hb1.trans hb2).trans hb3
  clear hb1 hb2 hb3 h1 hT2
  obtain ⟨k', i', s', m, v', hjl, ok1, ok2, hs', d0, d1, d2, d3, hv'⟩ := repAt_item (HR.out.below hbr hB hb) (j := l.length - 1) (by omega)
  rw [hjl] at HFL HL hgl
  have HJL := Lib.hid hjl
  have HV' := Lib.hid hv'
  obtain ⟨a', c', rfl, _⟩ := hv'
  have hbs : b < w3.heap.size := World.block_lt_of_cell? _ _ d0
  clear hjl
  go_wp2_with fail
  refine (HL.out _ B tb _ _ ⟨ok1, ok2, hs', HV'.out⟩ hB h2 (tabOk_below HTab.out hbr h2) h3 HFL.out (by simp; omega)).mono ?_
  rintro e w4 ⟨rfl, h4, hb4⟩
  have hlen4 := textT_len bare _ HFL.out
  go_wp2_with fail
  refine (putByte tb bare _ _ 41 rfl _ h4 (by simp; omega)).mono ?_
  rintro e w5 ⟨rfl, h5, hb5⟩
  go_wp2
  go_end0
  refine ⟨rfl, ?_, (hbr.trans hb4).trans hb5⟩
  rw [HJL.out]
  simp only [List.append_assoc] at h5 ⊢
  exact h5

/-- The kinds whose text needs no items. -/
theorem datum_plain (bare : Bool) (k i : Int) (s : ByteArray) (a : Option Addr) (n c : Nat) (tx : List UInt8) (hk : k = 0 ∧ tx = (if i = 0 then [35, 102] else [35, 116]) ∨ k = 3 ∧ tx = quoteS bare s.data.toList) (w : World) (tb : Nat) (acc : List UInt8) (hs : s.size ≤ maxLen) (hT : IsTeller tb bare acc w) (hlen : acc.length + 32 + 4 * s.size ≤ 140737488355328) :
    Calls Tryz.prog 49 #[.pointer (some ⟨tb, 0, none⟩), .agg #[.int .i64 k, .int .i64 i, .string s, .slice a n c]] w (Wrote tb bare (acc ++ tx) w) := by
  have hlt := hT.cells.2
  have HT := Lib.hid (hT.moved ((Below.refl w.heap.size w).alloc (Nat.le_refl _) (.cells #[.int .i64 k, .int .i64 i, .string s, .slice a n c] 28)))
  rcases hk with ⟨rfl, htx⟩ | ⟨rfl, htx⟩
  · have HX := Lib.hid htx
    clear htx hT
    go_enter Tryz.func49, Tryz.ntmps49
    go_wp2_with fail
    refine (truth_any tb bare acc i _ HT.out (by omega)).mono ?_
    rintro e w1 ⟨rfl, h1, hb1⟩
    go_wp2
    go_end0
    refine ⟨rfl, ?_, ((Below.refl tb w).alloc (by omega) _).trans hb1⟩
    rw [HX.out]; exact h1
  · have HX := Lib.hid htx
    clear htx hT
    go_enter Tryz.func49, Tryz.ntmps49
    go_wp2_with fail
    refine (quoted_any tb bare acc s _ HT.out hs (by omega)).mono ?_
    rintro e w1 ⟨rfl, h1, hb1⟩
    go_wp2
    go_end0
    refine ⟨rfl, ?_, ((Below.refl tb w).alloc (by omega) _).trans hb1⟩
    rw [HX.out]; exact h1

theorem datum_char (bare : Bool) (ch : UInt8) (s : ByteArray) (a : Option Addr) (n c : Nat) (w : World) (tb : Nat) (acc : List UInt8) (hT : IsTeller tb bare acc w) (hlen : acc.length + 32 ≤ 140737488355328) :
    Calls Tryz.prog 49 #[.pointer (some ⟨tb, 0, none⟩), .agg #[.int .i64 2, .int .i64 (ch.toNat : Int), .string s, .slice a n c]] w (Wrote tb bare (acc ++ charS bare ch) w) := by
  have hlt := hT.cells.2
  have HT := Lib.hid (hT.moved ((Below.refl w.heap.size w).alloc (Nat.le_refl _) (.cells #[.int .i64 2, .int .i64 (ch.toNat : Int), .string s, .slice a n c] 28)))
  have hch := ch.toNat_lt
  have hch0 : (0 : Int) ≤ ch.toNat := by omega
  have hch1 : (ch.toNat : Int) ≤ 255 := by omega
  clear hT
  go_enter Tryz.func49, Tryz.ntmps49
  go_wp2_with fail
  refine (char_any tb bare acc ch _ HT.out (by omega)).mono ?_
  rintro e w1 ⟨rfl, h1, hb1⟩
  go_wp2
  go_end0
  exact ⟨rfl, h1, ((Below.refl tb w).alloc (by omega) _).trans hb1⟩

/-- A cell of the newest block. -/
theorem new_cell (w : World) (cs : Array Value) (T : TypeId) (j : Nat) (v : Value) (hv : cs[j]? = some v) : (w.alloc (.cells cs T)).cell? ⟨w.heap.size, j, none⟩ = some v := by
  rw [Lib.cell_of_heap (heap_alloc_new w _)]; exact hv

theorem datum_symbol (bare : Bool) (i : Int) (s : ByteArray) (a : Option Addr) (n c : Nat) (w : World) (tb : Nat) (acc : List UInt8) (hT : IsTeller tb bare acc w) (hlen : acc.length + s.size ≤ 140737488355328) :
    Calls Tryz.prog 49 #[.pointer (some ⟨tb, 0, none⟩), .agg #[.int .i64 4, .int .i64 i, .string s, .slice a n c]] w (Wrote tb bare (acc ++ s.data.toList) w) := by
  have hlt := hT.cells.2
  have hM := hT.moved ((Below.refl w.heap.size w).alloc (Nat.le_refl _) (.cells #[.int .i64 4, .int .i64 i, .string s, .slice a n c] 28))
  have hB := (Below.refl tb w).alloc (by omega) (.cells #[.int .i64 4, .int .i64 i, .string s, .slice a n c] 28)
  have hcl := new_cell w #[.int .i64 4, .int .i64 i, .string s, .slice a n c] 28 2 _ rfl
  have HT := Lib.hid hM.drew
  have HB := Lib.hid hB.drew
  have HL := Lib.hid (len_data s)
  clear hT hM hB
  go_enter Tryz.func49, Tryz.ntmps49
  go_wp2
  generalize w.alloc (.cells #[.int .i64 4, .int .i64 i, .string s, .slice a n c] 28) = w1 at hcl HT HB ⊢
  go_still_tail 5, (by kernel_rfl)
  change wpList _ _ _ _ _ w1.drew
  clear hcl
  generalize w1.drew = w2 at HT HB ⊢
  go_wp2_with fail
  refine (putText tb bare acc _ s.data.toList rfl _ HT.out (by rw [HL.out]; omega)).mono ?_
  rintro e w3 ⟨rfl, h3, hb3⟩
  go_wp2
  go_end0
  exact ⟨rfl, h3, HB.out.trans hb3⟩

theorem datum_int (bare : Bool) (i : Int) (hi : ok64 i) (s : ByteArray) (a : Option Addr) (n c : Nat) (w : World) (tb : Nat) (acc : List UInt8) (h2 : 2 ≤ tb) (htab : TabOk w) (hT : IsTeller tb bare acc w) (hlen : acc.length + 32 ≤ 140737488355328) :
    Calls Tryz.prog 49 #[.pointer (some ⟨tb, 0, none⟩), .agg #[.int .i64 1, .int .i64 i, .string s, .slice a n c]] w (Wrote tb bare (acc ++ Lib.itoa i) w) := by
  have hlt := hT.cells.2
  have hM := hT.moved ((Below.refl w.heap.size w).alloc (Nat.le_refl _) (.cells #[.int .i64 1, .int .i64 i, .string s, .slice a n c] 28))
  have hB := (Below.refl tb w).alloc (by omega) (.cells #[.int .i64 1, .int .i64 i, .string s, .slice a n c] 28)
  have hcl := new_cell w #[.int .i64 1, .int .i64 i, .string s, .slice a n c] 28 1 _ rfl
  have hlen2 := itoa_len i hi
  have htab' := tabOk_below htab hB h2
  have hsz : tb < (w.alloc (.cells #[.int .i64 1, .int .i64 i, .string s, .slice a n c] 28)).heap.size := by simp; omega
  have HT := Lib.hid hM
  have HB := Lib.hid hB
  have HTab := Lib.hid htab'
  obtain ⟨i0, i1⟩ := hi
  clear hT hM hB htab htab'
  go_enter Tryz.func49, Tryz.ntmps49
  go_wp2
  generalize w.alloc (.cells #[.int .i64 1, .int .i64 i, .string s, .slice a n c] 28) = w1 at hcl HT HB HTab hsz ⊢
  have C : ∀ nq, Calls Tryz.prog 69 #[.int .i64 i] (w1.drewN nq) fun e w' => e = .returned (.string ⟨(Lib.itoa i).toArray⟩) ∧ Below w1.heap.size w1 w' := fun nq =>
    (Tryz.strconv_Itoa i i0 i1 (w1.drewN nq) (tabOk_below HTab.out (below_drewN (Below.refl tb w1) nq) h2)).mono fun _ _ ⟨he, hb⟩ => ⟨he, (below_drewN (Below.refl w1.heap.size w1) nq).trans (hb.mono (Nat.le_refl _))⟩
  have HC := Lib.hid C
  clear C
  go_region_with (first | (go_at_call 69; refine (HC.out 1).mono ?_; rintro e w2 ⟨rfl, hb2⟩) | (go_at_call 38; refine (putText tb bare acc _ (Lib.itoa i) rfl _ (HT.out.moved (by assumption)) (by omega)).mono ?_; rintro e w3 ⟨rfl, h3, hb3⟩))
  go_end0
  exact ⟨rfl, by assumption, (HB.out.trans ((by assumption : Below w1.heap.size w1 _).mono (by omega))).trans (by assumption)⟩
end Go.Proofs.YtiamojpeedllbaaGreatDoor.Dat
