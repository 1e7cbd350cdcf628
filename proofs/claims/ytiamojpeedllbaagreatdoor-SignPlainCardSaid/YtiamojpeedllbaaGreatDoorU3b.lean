/-
The document's text: what it returns at a double quote. For strings of at most 4096 bytes.
-/
import Derived.Test.YtiamojpeedllbaaGreatDoorU3
import Derived.Lib.ConvBytes
namespace Go.Proofs.YtiamojpeedllbaaGreatDoor
open Go.ChangeShapes Go.WideShapes Go.ChangeAt Go.RowKit

def ByteOwn (w : World) (base : Nat) (l : List UInt8) (v : Value) : Prop := w.ownsRow base 5 1 v l.length (Lib.byteCells l)
theorem byteCells_len (l : List UInt8) : (Lib.byteCells l).length = l.length := by simp [Lib.byteCells]
theorem ByteOwn.alloc {w : World} {base : Nat} {l : List UInt8} {v : Value} (h : ByteOwn w base l v) (o : Obj) : (w.alloc o).ownsRow base 5 1 v l.length (Lib.byteCells l) := World.ownsRow.alloc h o
theorem ByteOwn.shape {w : World} {base : Nat} {l : List UInt8} {v : Value} (h : ByteOwn w base l v) : ∃ a c, v = .slice a l.length c := by
  rcases h.2 with ⟨rfl, h0⟩ | ⟨g, cap, cur, rfl, _⟩
  · exact ⟨none, 0, by rw [h0]⟩
  · exact ⟨some ⟨g, 0, none⟩, cap, rfl⟩
theorem byteOwn_nil (w : World) (base : Nat) (h : base ≤ w.heap.size) : ByteOwn (w.alloc (.cells #[] 5)) base [] (.slice (some ⟨w.heap.size, 0, none⟩) 0 0) :=
  ⟨rfl, .inr ⟨w.heap.size, 0, #[], rfl, h, heap_alloc_new w _, Nat.le_refl _, Nat.zero_le _, rfl, rfl⟩⟩
theorem own_snoc {w : World} {base : Nat} {l : List UInt8} {c : Nat} {v : Value} (h : w.ownsRow base 5 1 v (l.length + 1) (Lib.byteCells l ++ [.int .u8 (c : Int)])) (hc : c < 256 := by first | exact UInt8.toNat_lt _ | omega) : ByteOwn w base (l ++ [UInt8.ofNat c]) v := by
  unfold ByteOwn
  have e : Lib.byteCells (l ++ [UInt8.ofNat c]) = Lib.byteCells l ++ [.int .u8 (c : Int)] := by
    simp [Lib.byteCells]; omega
  rw [e, List.length_append]; exact h
theorem grown_byte {w wr w2 : World} {l : List UInt8} {v : Value} {o : Obj} (hr : Res1 w zero5 wr) (ho : ByteOwn wr (w.heap.size + 1) l v) (hg : (wr.alloc o).grownBy w2 v.ownBlock) : Res1 w zero5 w2 := by
  have hlt := lt_of_block hr.2
  have hne : ∀ g, v.ownBlock = some g → w.heap.size + 1 ≤ g := fun g h => (World.ownsRow.lt (w := wr) ho g h).1
  refine ⟨(hr.1.alloc (by omega) o).grown hg (by simp; omega) (fun g h => by have := hne g h; omega), ?_⟩
  rw [hg.block w.heap.size (by simp; omega) (fun e => by have := hne _ e.symm; omega), Lib.alloc_old _ _ _ hlt]
  exact hr.2

set_option maxRecDepth 100000 in
theorem conv_own {wr : World} {base : Nat} {l : List UInt8} {a : Option Addr} {cp : Nat} (h : ByteOwn wr base l (.slice a l.length cp)) : (convert 35 9 (.slice a l.length cp)).run Tryz.prog wr = .ok (.string ⟨l.toArray⟩) wr := by
  rcases h.2 with ⟨h1, h0⟩ | ⟨g, cap, cur, hv, hb, hc, hn, hm, hsz, ht⟩
  · obtain rfl : l = [] := List.length_eq_zero_iff.1 h0
    injection h1 with e1 e2 e3
    subst e1 e3
    show (convert 35 9 (.slice none 0 0)).run Tryz.prog wr = _
    rw [run_convert_bytes_string wr 35 9 5 none 0 0 Tryz.underlying35 Tryz.underlying5 Tryz.underlying9]
    rfl
  · injection hv with e1 e2 e3
    subst e1 e3
    refine run_convert_bytes_back (P := Tryz.prog) wr 35 9 5 ⟨g, 0, none⟩ cp l Tryz.underlying35 Tryz.underlying5 Tryz.underlying9 fun j hj => ?_
    rw [add_plain, Nat.zero_add, Lib.cell_of_heap hc]
    have e : cur.toList[j]? = (Lib.byteCells l)[j]? := by
      rw [← ht, List.getElem?_take, if_pos (by omega)]
    have e2 : cur[j]? = cur.toList[j]? := by simp
    rw [e2, e]
    simp [Lib.byteCells, hj]

theorem twoV_len {l : List UInt8} {x : Nat} (h : twoV l = some x) : 2 ≤ l.length := by
  match l, h with
  | a :: b :: r, _ => simp
theorem u8_of {c : UInt8} : UInt8.ofNat c.toNat = c := UInt8.ofNat_toNat

set_option maxRecDepth 100000 in
set_option maxHeartbeats 4000000 in
theorem rstr_any (s : ByteArray) (k : Nat) (w : World) (hs : s.size ≤ 4096) (hk : k < s.size) :
    Calls Tryz.prog 85 #[.string s, .int .i64 (k : Int)] w fun e w' => e = .returned (TokV (textV [] 1 (txt (s.data.toList.drop (k + 1))))) ∧ Below w.heap.size w w' := by
  obtain ⟨i0, hi, hz0, hz1, hz2⟩ := info_parts infoByte
  have HL := Lib.hid (len_data s)
  have R0 := Lib.hid ((Res1.first w zero5).next ((Below.refl _ _).alloc (Nat.le_refl _) (.cells #[] 5)))
  have B0 : Hid (ByteOwn ((w.alloc (.cells zero5 33)).alloc (.cells #[] 5)) (w.heap.size + 1) [] (.slice (some ⟨w.heap.size + 1, 0, none⟩) 0 0)) := Lib.hid (by
    have := byteOwn_nil (w.alloc (.cells zero5 33)) (w.heap.size + 1) (by simp)
    simpa using this)
  obtain ⟨T, hT⟩ : ∃ T, T = textV [] 1 (txt (s.data.toList.drop (k + 1))) := ⟨_, rfl⟩
  rw [← hT]
  have HT := Lib.hid hT
  clear hT
  go_enter Tryz.func85, Tryz.ntmps85
  go_wp2
  go_loopw [7, 8] (fun v i wr => ∃ (p : Nat) (acc : List UInt8), k + 1 ≤ p ∧ p ≤ s.size ∧ i = .int .i64 p ∧ acc.length ≤ p ∧ ByteOwn wr (w.heap.size + 1) acc v ∧ Res1 w zero5 wr ∧ T = textV acc (p - k) (txt (s.data.toList.drop p))) (fun _ i _ => s.size - (intOf i).toNat)
  case atStart => exact ⟨k + 1, [], Nat.le_refl _, by omega, by go_num, by simp, B0.out, R0.out, by rw [HT.out, Nat.add_sub_cancel_left]⟩
  case round =>
    obtain ⟨p, acc, hp1, hp, rfl, hacc, hbd, hr1, htx⟩ := hrel
    have HO := Lib.hid hbd
    have HR := Lib.hid hr1
    have HX := Lib.hid htx
    obtain ⟨a, cp, rfl⟩ := hbd.shape
    have hwsz : w.heap.size < wr.heap.size := lt_of_block hr1.2
    obtain ⟨c0, c1, c2, c3, c4⟩ := hr1.cells
    obtain ⟨f0, f1, f2, f3, f4⟩ := hr1.froz
    clear hbd hr1 htx
    by_cases hlt : p < s.size
    · have HD : Hid (s.data.toList.drop p = s[p] :: s.data.toList.drop (p + 1)) := Lib.hid (List.drop_eq_getElem_cons (by rw [HL.out]; exact hlt))
      by_cases hq : ((s[p].toNat : Int) == 34) = true
      · have HF : Hid (T = (⟨8, acc, 0⟩, p - k + 1, 0)) := Lib.hid (by
          rw [HX.out, txt_end (by rw [HD.out, byte_is (m := 34) rfl hq]; rfl)]
          simp [textV])
        have HCV := Lib.hid (conv_own HO.out)
        have hpk : ((p - k + 1 : Nat) : Int) = (p : Int) + 1 - (k : Int) := by omega
        have HPK := Lib.hid hpk
        clear hpk
        have hcv := HCV.out
        go_wp2
        have R3 := HR.out.put (.int .i64 8) (.string ⟨acc.toArray⟩) (.int .i64 0) (.int .i64 0) (.int .i64 0)
        exact bodyPost_ret (results_row_tmp2 (P := Tryz.prog) rfl _ _ w.heap.size 33 _ (0, 0) _ rfl R3.2 Tryz.underlying33 rfl size35) rfl ⟨by rw [HF.out]; unfold TokV; simp only; rw [HPK.out]; rfl, R3.1⟩
      · have hq' : ((s[p].toNat : Int) == 34) = false := by simpa using hq
        have HH : Hid ((s.data.toList.drop p).head? ≠ some 34) := Lib.hid (by
          rw [HD.out]
          intro e
          exact byte_not (m := 34) rfl hq' (by simpa using e))
        have HNE : Hid (s.data.toList.drop p ≠ []) := Lib.hid (by rw [HD.out]; simp)
        have nx : ∀ b n, escV (s.data.toList.drop p) = some (b, n) → T = textV (acc ++ [b]) (p + n - k) (txt (s.data.toList.drop (p + n))) := fun b n he => by
          rw [HX.out, textV_step acc (p - k) HNE.out HH.out he, List.drop_drop, show p - k + n = p + n - k by omega]
        have NX := Lib.hid nx
        have FL : Hid (escV (s.data.toList.drop p) = none → T = (noTk, 0, 32)) := Lib.hid (fun he => by rw [HX.out, txt_fell HH.out he]; rfl)
        clear nx hq
        by_cases hb : ((s[p].toNat : Int) == 92) = true
        · have H92 := Lib.hid (byte_is (m := 92) (c := s[p]) rfl hb)
          have hb2 : ((s[p].toNat : Int) != 92) = false := by simpa using hb
          by_cases h1 : p + 1 < s.size
          · have HD1 : Hid (s.data.toList.drop (p + 1) = s[p + 1] :: s.data.toList.drop (p + 2)) := Lib.hid (List.drop_eq_getElem_cons (by rw [HL.out]; exact h1))
            have H2 : Hid (∀ W, Calls Tryz.prog 106 #[.string s, .int .i64 ((p : Int) + 2)] W fun e w' => e = .returned (.int .i64 (twoI (s.data.toList.drop (p + 2)))) ∧ W = w') := Lib.hid (fun W => two_any s (p + 2) W hs (by omega))
            have h1i : (p : Int) + 1 < (s.size : Int) := by omega
            have ES : Hid (escV (s.data.toList.drop p) = if s[p + 1] = 34 ∨ s[p + 1] = 92 then some (s[p + 1], 2) else if s[p + 1] = 110 then some (10, 2) else if s[p + 1] = 120 then (match twoV (s.data.toList.drop (p + 2)) with | some x => some (UInt8.ofNat x, 4) | none => none) else none) := Lib.hid (by
              rw [HD.out, H92.out, HD1.out, escV, if_neg (by decide)]
              by_cases g1 : s[p + 1] = 34 ∨ s[p + 1] = 92
              · rw [if_pos g1, if_pos g1]
              · rw [if_neg g1, if_neg g1]
                by_cases g2 : s[p + 1] = 110
                · rw [if_pos g2, if_pos g2]
                · rw [if_neg g2, if_neg g2]
                  by_cases g3 : s[p + 1] = 120
                  · rw [if_pos g3, if_pos g3]; cases twoV (s.data.toList.drop (p + 2)) <;> rfl
                  · rw [if_neg g3, if_neg g3])
            obtain ⟨X, hX⟩ : ∃ X, X = twoI (s.data.toList.drop (p + 2)) := ⟨_, rfl⟩
            have HXX := Lib.hid hX
            rw [← hX] at H2
            clear hX
            by_cases d1 : ((s[p + 1].toNat : Int) == 34) = true ∨ ((s[p + 1].toNat : Int) == 34) = false ∧ ((s[p + 1].toNat : Int) == 92) = true
            · have HF : Hid (T = textV (acc ++ [UInt8.ofNat s[p + 1].toNat]) (p + 2 - k) (txt (s.data.toList.drop (p + 2)))) := Lib.hid (NX.out _ 2 (by
                rw [u8_of, ES.out, if_pos]
                rcases d1 with d | d
                · exact .inl (byte_is (m := 34) rfl d)
                · exact .inr (byte_is (m := 92) rfl d.2)))
              rcases d1 with d | ⟨d, d'⟩
              all_goals
                go_wp2_with (first
                  | (at_builtin; refine wpList_append_own _ rfl _ _ 35 rfl (w.heap.size + 1) 5 i0 (.int .u8 0) 1 1 Tryz.underlying35 hi hz0 hz1 hz2 rfl (by decide) _ _ _ rfl (HO.out.alloc _) ⟨wr.heap.size, 0, none⟩ 1 1 [.int .u8 ((s[p + 1].toNat : Nat) : Int)] rfl rfl ?c1 ?c2 ?c3 ?c4 ?c5 ?_)
                  | (go_at_call 106; ((with_reducible refine (H2.out _).mono ?_); rintro e w' ⟨rfl, rfl⟩)))
                case c1 =>
                  intro j u hj
                  match j, hj with
                  | 0, hj => simp at hj; subst hj; simp [Addr.add]
                case c2 => intro u hu; simp at hu; subst hu; rfl
                case c3 => unfold maxLen; omega
                case c4 => omega
                case c5 => simp; omega
                intro v' w2 hown' hgrow _
                have HG := Lib.hid (grown_byte HR.out HO.out hgrow)
                have O2 := Lib.hid (own_snoc hown')
                clear hown' hgrow
                go_wp2
                go_roundw
                case rel => exact ⟨p + 2, acc ++ [UInt8.ofNat s[p + 1].toNat], by omega, by omega, by go_num, by simp; omega, O2.out, HG.out, HF.out⟩
                case measure => simp [intOf]; omega
            · have e34 : ((s[p + 1].toNat : Int) == 34) = false := by
                cases h : ((s[p + 1].toNat : Int) == 34) with
                | false => rfl
                | true => exact absurd (.inl h) d1
              have e92 : ((s[p + 1].toNat : Int) == 92) = false := by
                cases h : ((s[p + 1].toNat : Int) == 92) with
                | false => rfl
                | true => exact absurd (.inr ⟨e34, h⟩) d1
              have N1 : Hid (¬ (s[p + 1] = 34 ∨ s[p + 1] = 92)) := Lib.hid (by
                rintro (h | h)
                · exact byte_not (m := 34) rfl e34 h
                · exact byte_not (m := 92) rfl e92 h)
              clear d1
              by_cases d2 : ((s[p + 1].toNat : Int) == 110) = true
              · have HF : Hid (T = textV (acc ++ [UInt8.ofNat 10]) (p + 2 - k) (txt (s.data.toList.drop (p + 2)))) := Lib.hid (NX.out _ 2 (by
                  rw [ES.out, if_neg N1.out, if_pos (byte_is (m := 110) rfl d2)]; rfl))
                go_wp2_with (first
                  | (at_builtin; refine wpList_append_own _ rfl _ _ 35 rfl (w.heap.size + 1) 5 i0 (.int .u8 0) 1 1 Tryz.underlying35 hi hz0 hz1 hz2 rfl (by decide) _ _ _ rfl (HO.out.alloc _) ⟨wr.heap.size, 0, none⟩ 1 1 [.int .u8 (((10 : Nat) : Int))] rfl rfl ?c1 ?c2 ?c3 ?c4 ?c5 ?_)
                  | (go_at_call 106; ((with_reducible refine (H2.out _).mono ?_); rintro e w' ⟨rfl, rfl⟩)))
                case c1 =>
                  intro j u hj
                  match j, hj with
                  | 0, hj => simp at hj; subst hj; simp [Addr.add]
                case c2 => intro u hu; simp at hu; subst hu; rfl
                case c3 => unfold maxLen; omega
                case c4 => omega
                case c5 => simp; omega
                intro v' w2 hown' hgrow _
                have HG := Lib.hid (grown_byte HR.out HO.out hgrow)
                have O2 := Lib.hid (own_snoc (c := 10) hown')
                clear hown' hgrow
                go_wp2
                go_roundw
                case rel => exact ⟨p + 2, acc ++ [UInt8.ofNat 10], by omega, by omega, by go_num, by simp; omega, O2.out, HG.out, HF.out⟩
                case measure => simp [intOf]; omega
              · have d2' : ((s[p + 1].toNat : Int) == 110) = false := by simpa using d2
                have N2 := Lib.hid (byte_not (m := 110) (c := s[p + 1]) rfl d2')
                clear d2
                by_cases d3 : ((s[p + 1].toNat : Int) == 120) = true
                · have P3 := Lib.hid (byte_is (m := 120) (c := s[p + 1]) rfl d3)
                  cases ht : twoV (s.data.toList.drop (p + 2)) with
                  | none =>
                    have HF : Hid (T = (noTk, 0, 32)) := Lib.hid (FL.out (by rw [ES.out, if_neg N1.out, if_neg N2.out, if_pos P3.out, ht]))
                    have hX : X = -1 := by rw [HXX.out]; unfold twoI; rw [ht]
                    subst hX
                    go_wp2_with (go_at_call 106; ((with_reducible refine (H2.out _).mono ?_); rintro e w' ⟨rfl, rfl⟩))
                    have R3 := HR.out.put (.int .i64 0) (.string ⟨#[]⟩) (.int .i64 0) (.int .i64 0) (.int .i64 0)
                    exact bodyPost_ret (results_row_tmp2 (P := Tryz.prog) rfl _ _ w.heap.size 33 _ (0, 0) _ rfl R3.2 Tryz.underlying33 rfl size35) rfl ⟨by rw [HF.out]; rfl, R3.1⟩
                  | some v =>
                    have hv := twoV_lt ht
                    have hlen : p + 4 ≤ s.size := by
                      have := twoV_len ht
                      rw [List.length_drop, HL.out] at this; omega
                    have HF : Hid (T = textV (acc ++ [UInt8.ofNat v]) (p + 4 - k) (txt (s.data.toList.drop (p + 4)))) := Lib.hid (NX.out _ 4 (by
                      rw [ES.out, if_neg N1.out, if_neg N2.out, if_pos P3.out, ht]))
                    have hX : X = (v : Int) := by rw [HXX.out]; unfold twoI; rw [ht]
                    subst hX
                    have hv0 : 0 ≤ (v : Int) := by omega
                    have hv1 : (v : Int) < 256 := by omega
                    clear ht
                    go_wp2_with (first
                      | (at_builtin; refine wpList_append_own _ rfl _ _ 35 rfl (w.heap.size + 1) 5 i0 (.int .u8 0) 1 1 Tryz.underlying35 hi hz0 hz1 hz2 rfl (by decide) _ _ _ rfl (HO.out.alloc _) ⟨wr.heap.size, 0, none⟩ 1 1 [.int .u8 ((v : Int))] rfl rfl ?c1 ?c2 ?c3 ?c4 ?c5 ?_)
                      | (go_at_call 106; ((with_reducible refine (H2.out _).mono ?_); rintro e w' ⟨rfl, rfl⟩)))
                    case c1 =>
                      intro j u hj
                      match j, hj with
                      | 0, hj => simp at hj; subst hj; simp [Addr.add]
                    case c2 => intro u hu; simp at hu; subst hu; rfl
                    case c3 => unfold maxLen; omega
                    case c4 => omega
                    case c5 => simp; omega
                    intro v' w2 hown' hgrow _
                    have HG := Lib.hid (grown_byte HR.out HO.out hgrow)
                    have O2 := Lib.hid (own_snoc hown')
                    clear hown' hgrow
                    go_wp2
                    go_roundw
                    case rel => exact ⟨p + 4, acc ++ [UInt8.ofNat v], by omega, by omega, by go_num, by simp; omega, O2.out, HG.out, HF.out⟩
                    case measure => simp [intOf]; omega
                · have d3' : ((s[p + 1].toNat : Int) == 120) = false := by simpa using d3
                  have HF : Hid (T = (noTk, 0, 32)) := Lib.hid (FL.out (by rw [ES.out, if_neg N1.out, if_neg N2.out, if_neg (byte_not (m := 120) rfl d3')]))
                  clear d3
                  go_wp2_with (go_at_call 106; ((with_reducible refine (H2.out _).mono ?_); rintro e w' ⟨rfl, rfl⟩))
                  have R3 := HR.out.put (.int .i64 0) (.string ⟨#[]⟩) (.int .i64 0) (.int .i64 0) (.int .i64 0)
                  exact bodyPost_ret (results_row_tmp2 (P := Tryz.prog) rfl _ _ w.heap.size 33 _ (0, 0) _ rfl R3.2 Tryz.underlying33 rfl size35) rfl ⟨by rw [HF.out]; rfl, R3.1⟩
          · have hnil : s.data.toList.drop (p + 1) = [] := List.drop_of_length_le (by rw [HL.out]; omega)
            have HF : Hid (T = (noTk, 0, 32)) := Lib.hid (FL.out (by rw [HD.out, H92.out, hnil, escV, if_neg (by decide)]))
            have h1i : (s.size : Int) ≤ (p : Int) + 1 := by omega
            clear hnil
            go_wp2
            have R3 := HR.out.put (.int .i64 0) (.string ⟨#[]⟩) (.int .i64 0) (.int .i64 0) (.int .i64 0)
            exact bodyPost_ret (results_row_tmp2 (P := Tryz.prog) rfl _ _ w.heap.size 33 _ (0, 0) _ rfl R3.2 Tryz.underlying33 rfl size35) rfl ⟨by rw [HF.out]; rfl, R3.1⟩
        · have hb' : ((s[p].toNat : Int) == 92) = false := by simpa using hb
          have hb2 : ((s[p].toNat : Int) != 92) = true := by simpa using hb
          have HF : Hid (T = textV (acc ++ [UInt8.ofNat s[p].toNat]) (p + 1 - k) (txt (s.data.toList.drop (p + 1)))) := Lib.hid (NX.out _ 1 (by
            rw [u8_of, HD.out, escV.eq_def]
            simp only
            rw [if_pos (byte_not (m := 92) rfl hb')]))
          clear hb
          go_wp2_with (first
            | (at_builtin; refine wpList_append_own _ rfl _ _ 35 rfl (w.heap.size + 1) 5 i0 (.int .u8 0) 1 1 Tryz.underlying35 hi hz0 hz1 hz2 rfl (by decide) _ _ _ rfl (HO.out.alloc _) ⟨wr.heap.size, 0, none⟩ 1 1 [.int .u8 ((s[p].toNat : Nat) : Int)] rfl rfl ?c1 ?c2 ?c3 ?c4 ?c5 ?_))
          case c1 =>
            intro j u hj
            match j, hj with
            | 0, hj => simp at hj; subst hj; simp [Addr.add]
          case c2 => intro u hu; simp at hu; subst hu; rfl
          case c3 => unfold maxLen; omega
          case c4 => omega
          case c5 => simp; omega
          intro v' w2 hown' hgrow _
          have HG := Lib.hid (grown_byte HR.out HO.out hgrow)
          have O2 := Lib.hid (own_snoc hown')
          clear hown' hgrow
          go_wp2
          go_roundw
          case rel => exact ⟨p + 1, acc ++ [UInt8.ofNat s[p].toNat], by omega, by omega, by go_num, by simp; omega, O2.out, HG.out, HF.out⟩
          case measure => simp [intOf]; omega
    · obtain rfl : p = s.size := by omega
      have HF : Hid (T = (noTk, 0, 32)) := Lib.hid (by
        rw [HX.out, List.drop_of_length_le (by rw [HL.out]; exact Nat.le_refl _), txt]; rfl)
      go_wp2
      have R3 := HR.out.put (.int .i64 0) (.string ⟨#[]⟩) (.int .i64 0) (.int .i64 0) (.int .i64 0)
      exact bodyPost_ret (results_row_tmp2 (P := Tryz.prog) rfl _ _ w.heap.size 33 _ (0, 0) _ rfl R3.2 Tryz.underlying33 rfl size35) rfl ⟨by rw [HF.out]; rfl, R3.1⟩
end Go.Proofs.YtiamojpeedllbaaGreatDoor
