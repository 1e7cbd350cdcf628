/-
The walk of the law SourceJoins, for every two strings.
-/
import Derived.Test.YtnmocepkebkkjaaGreatDoorC3
namespace Go.Proofs.YtnmocepkebkkjaaGreatDoor
open Go.ChangeShapes Go.WideShapes Go.ChangeAt Go.RowKit
open Dat (PT makeT RepS NewS samesB RowOwn SrcS)

theorem cat_line (s t : ByteArray) : (s ++ (⟨#[10]⟩ : ByteArray) ++ t).data.toList = s.data.toList ++ 10 :: t.data.toList := by simp [ByteArray.data_append]
theorem size_list (s : ByteArray) : s.data.toList.length = s.size := Array.length_toList

set_option maxRecDepth 100000 in
theorem joins_out (s t : ByteArray) (w : World) (hs : s.size ≤ maxLen) (ht : t.size ≤ maxLen) (hT : LaidOk w) (h2 : 2 ≤ w.heap.size)
    (h0 : ((readT s.data.toList).2.2 != 0) = true ∨ (readT s.data.toList).2.2 = 0 ∧ (500 : Int) < s.size ∨ (readT s.data.toList).2.2 = 0 ∧ ¬ (500 : Int) < s.size ∧ (500 : Int) < t.size) :
    Calls Tryz.prog 6 #[.string s, .string t] w fun e w' => e = .returned (.bool true) ∧ Below w.heap.size w w' := by
  have K1 := read_any s w hs hT.1
  have K2 := Lib.hid (fun W (h : Below w.heap.size w W) => read_any t W ht (hT.1.below h hT.1.two))
  have K3 := Lib.hid (fun W (h : Below w.heap.size w W) => fixed4_any W ⟨hT.1.below h hT.1.two, Dat.tabOk_below hT.2 h h2⟩ (Nat.le_trans h2 h.size))
  unfold GotR at K1
  generalize readT s.data.toList = q1 at K1 h0
  obtain ⟨l1, a1, er1⟩ := q1
  simp only at K1 h0
  have H1 := Lib.hid K1
  unfold maxLen at hs ht
  clear K1 hT h2
  go_enter Tryz.func6, Tryz.ntmps6
  go_wp2_with fail
  refine H1.out.mono ?_
  rintro e w1 ⟨hb1, u1, rfl, hn1⟩
  obtain ⟨b1, c1, rfl, _⟩ := hn1
  have B1 := Lib.hid hb1
  clear hb1
  go_wp2_with fail
  refine (K2.out _ B1.out).mono ?_
  rintro e w2 ⟨hb2, u2, rfl, hn2⟩
  obtain ⟨b2, c2, rfl, _⟩ := hn2
  have B2 := Lib.hid (B1.out.trans (hb2.mono B1.out.size))
  clear hb2
  go_wp2_with fail
  refine (K3.out _ B2.out).mono ?_
  rintro e w3 ⟨rfl, hb3⟩
  have B3 := Lib.hid (B2.out.trans (hb3.mono B2.out.size))
  clear hb3
  rcases h0 with h0 | ⟨rfl, h0⟩ | ⟨rfl, h0, h1⟩
  all_goals
    go_wp2_with fail
    refine (K3.out _ B3.out).mono ?_
    rintro e w4 ⟨rfl, hb4⟩
    have B4 := Lib.hid (B3.out.trans (hb4.mono B3.out.size))
    clear hb4
    go_wp2
    go_ret
    exact ⟨rfl, B4.out⟩

set_option maxRecDepth 100000 in
theorem joins_bad (s t : ByteArray) (w : World) (hs : s.size ≤ 500) (ht : t.size ≤ 500) (hT : LaidOk w) (h2 : 2 ≤ w.heap.size) (l1 : List PT) (hr1 : readT s.data.toList = (l1, 0, 0)) (hne : ((readT t.data.toList).2.2 != 0) = true) :
    Calls Tryz.prog 6 #[.string s, .string t] w fun e w' => e = .returned (.bool true) ∧ Below w.heap.size w w' := by
  have K1 := read_any s w (by unfold maxLen; omega) hT.1
  have K2 := Lib.hid (fun W (h : Below w.heap.size w W) => read_any t W (by unfold maxLen; omega) (hT.1.below h hT.1.two))
  have K3 := Lib.hid (fun W (h : Below w.heap.size w W) => fixed4_any W ⟨hT.1.below h hT.1.two, Dat.tabOk_below hT.2 h h2⟩ (Nat.le_trans h2 h.size))
  have K4 := Lib.hid (fun W (h : Below w.heap.size w W) => read_any (s ++ (⟨#[10]⟩ : ByteArray) ++ t) W (by unfold maxLen; rw [ByteArray.size_append, ByteArray.size_append]; show s.size + 1 + t.size ≤ _; omega) (hT.1.below h hT.1.two))
  have hj := read_join hr1 (by rw [size_list]; exact hs) (by rw [size_list]; exact ht)
  obtain ⟨r1, _, r3⟩ := read_err t.data.toList
  rw [size_list] at r3
  rw [if_neg (by simpa using hne), size_list] at hj
  have r4 := r1 (by simpa using hne)
  unfold GotR at K1 K2 K4
  rw [cat_line, hj] at K4
  rw [hr1] at K1
  rw [r4] at K2
  generalize (readT t.data.toList).2.2 = er at K2 K4 hne
  generalize (readT t.data.toList).2.1 = a at K2 K4 r3
  simp only at K4
  have hP : ((a + (s.size + 1) : Nat) : Int) = (a : Int) + (s.size : Int) + 1 := by omega
  rw [hP] at K4
  have H1 := Lib.hid K1
  have x1 : (s.size : Int) ≤ 500 := by omega
  have x2 : (t.size : Int) ≤ 500 := by omega
  have x3 : (a : Int) ≤ 500 := by omega
  clear K1 hT h2 hj r1 r4 hP hr1
  go_enter Tryz.func6, Tryz.ntmps6
  go_wp2_with fail
  refine H1.out.mono ?_
  rintro e w1 ⟨hb1, u1, rfl, hn1⟩
  obtain ⟨b1, c1, rfl, _⟩ := hn1
  have B1 := Lib.hid hb1
  clear hb1
  go_wp2_with fail
  refine (K2.out _ B1.out).mono ?_
  rintro e w2 ⟨hb2, u2, rfl, hn2⟩
  obtain ⟨b2, c2, rfl, _⟩ := hn2
  have B2 := Lib.hid (B1.out.trans (hb2.mono B1.out.size))
  clear hb2
  go_wp2_with fail
  refine (K3.out _ B2.out).mono ?_
  rintro e w3 ⟨rfl, hb3⟩
  have B3 := Lib.hid (B2.out.trans (hb3.mono B2.out.size))
  clear hb3
  go_wp2_with fail
  refine (K4.out _ B3.out).mono ?_
  rintro e w4 ⟨hb4, u4, rfl, hn4⟩
  obtain ⟨b4, c4, rfl, _⟩ := hn4
  have B4 := Lib.hid (B3.out.trans (hb4.mono B3.out.size))
  clear hb4
  go_wp2
  go_ret
  exact ⟨rfl, B4.out⟩

/-- append of a row of data to one of the call's own, in an operation that is wanted. -/
theorem wpList_append_data {ops : Array Oper} {rest : List Oper} {o : Oper} {a : Act} {w : World} {Q : Exit → Act → World → Prop} (hgd : Region.wanted o (yielded ops a.tmps) = true) (s x : Operand)
    (ho : o.op = .call { callee := .builtin .append, args := #[s, x], argTypes := #[22, 22] }) (base B : Nat) (l m : List PT) (v u : Value) (hs : a.eval s = v) (hx : a.eval x = u)
    (hown : RowOwn w base B l v) (hsrc : SrcS w B m u) (hlen : l.length + m.length ≤ 1000000) (hbase : base ≤ w.heap.size) (hBb : B ≤ base)
    (h : ∀ v' w', RowOwn w' base B (l ++ m) v' → Below base w w' → w.heap.size ≤ w'.heap.size → (∀ k, k < w.heap.size → some k ≠ v.ownBlock → w'.heap[k]? = w.heap[k]?) → wpList Tryz.prog ops Q rest (a.put o.dst v') w') : wpList Tryz.prog ops Q (o :: rest) a w := by
  refine BigFrame.wpList_want hgd fun _ hK => ?_
  exact Dat.wp_append_rows s x ho base B l m v u hs hx hown hsrc hlen hbase hBb fun v' w' h1 h2 h3 h4 => hK _ _ (h v' w' h1 h2 h3 h4)
theorem own_none (w : World) (B : Nat) : RowOwn (w.alloc (.cells #[] 34)) w.heap.size B [] (.slice (some ⟨w.heap.size, 0, none⟩) 0 0) :=
  ⟨[], by simpa using World.ownsRow_made (base := w.heap.size) (e := 34) (size := 4) w #[] 0 (Nat.le_refl _) (Nat.zero_le _) rfl, by rw [Dat.RepX, Dat.RowX]⟩

set_option maxRecDepth 100000 in
theorem joins_good (s t : ByteArray) (w : World) (hs : s.size ≤ 500) (ht : t.size ≤ 500) (hT : LaidOk w) (h2 : 2 ≤ w.heap.size) (l1 l2 : List PT) (hr1 : readT s.data.toList = (l1, 0, 0)) (hr2 : readT t.data.toList = (l2, 0, 0)) :
    Calls Tryz.prog 6 #[.string s, .string t] w fun e w' => e = .returned (.bool true) ∧ Below w.heap.size w w' := by
  have K1 := read_any s w (by unfold maxLen; omega) hT.1
  have K2 := Lib.hid (fun W (h : Below w.heap.size w W) => read_any t W (by unfold maxLen; omega) (hT.1.below h hT.1.two))
  have K3 := Lib.hid (fun W (h : Below w.heap.size w W) => fixed4_any W ⟨hT.1.below h hT.1.two, Dat.tabOk_below hT.2 h h2⟩ (Nat.le_trans h2 h.size))
  have K4 := Lib.hid (fun W (h : Below w.heap.size w W) => read_any (s ++ (⟨#[10]⟩ : ByteArray) ++ t) W (by unfold maxLen; rw [ByteArray.size_append, ByteArray.size_append]; show s.size + 1 + t.size ≤ _; omega) (hT.1.below h hT.1.two))
  have hj := read_join hr1 (by rw [size_list]; exact hs) (by rw [size_list]; exact ht)
  rw [hr2, if_pos rfl] at hj
  have hl1 : l1.length ≤ 4096 := by
    obtain ⟨m, hf, hm, _⟩ := read_fit hr1
    have := hf.num
    omega
  have hl2 : l2.length ≤ 4096 := by
    obtain ⟨m, hf, hm, _⟩ := read_fit hr2
    have := hf.num
    omega
  unfold GotR at K1 K2 K4
  rw [cat_line, hj] at K4
  rw [hr1] at K1
  rw [hr2] at K2
  have H1 := Lib.hid K1
  have x1 : (s.size : Int) ≤ 500 := by omega
  have x2 : (t.size : Int) ≤ 500 := by omega
  clear K1 hT h2 hj hr1 hr2
  go_enter Tryz.func6, Tryz.ntmps6
  go_wp2_with fail
  refine H1.out.mono ?_
  rintro e w1 ⟨hb1, u1, rfl, hn1⟩
  have R1 := Lib.hid hn1.rep
  obtain ⟨b1, c1, rfl, _⟩ := hn1
  have B1 := Lib.hid hb1
  clear hb1
  go_wp2_with fail
  refine (K2.out _ B1.out).mono ?_
  rintro e w2 ⟨hb2, u2, rfl, hn2⟩
  have R2 := Lib.hid hn2.rep
  obtain ⟨b2, c2, rfl, _⟩ := hn2
  have B12 := Lib.hid hb2
  have B2 := Lib.hid (B1.out.trans (hb2.mono B1.out.size))
  clear hb2
  go_wp2_with fail
  refine (K3.out _ B2.out).mono ?_
  rintro e w3 ⟨rfl, hb3⟩
  have B23 := Lib.hid hb3
  have B3 := Lib.hid (B2.out.trans (hb3.mono B2.out.size))
  clear hb3
  go_wp2_with fail
  refine (K4.out _ B3.out).mono ?_
  rintro e w4 ⟨hb4, u4, rfl, hn4⟩
  have R4 := Lib.hid hn4.rep
  obtain ⟨b4, c4, rfl, _⟩ := hn4
  have B34 := Lib.hid hb4
  have B4 := Lib.hid (B3.out.trans (hb4.mono B3.out.size))
  clear hb4
  have BA := Lib.hid ((Below.refl w4.heap.size w4).alloc (Nat.le_refl _) (.cells #[] 34))
  have O0 := Lib.hid (own_none w4 w4.heap.size)
  have S1 : Hid (SrcS (w4.alloc (.cells #[] 34)) w4.heap.size l1 (.slice b1 l1.length c1)) :=
    Lib.hid ((((R1.out.below (B12.out.trans ((B23.out.trans (B34.out.mono B23.out.size)).mono B12.out.size)) (Nat.le_refl _)).move (by have := B12.out.size; have := B23.out.size; have := B34.out.size; omega) fun _ _ _ => rfl).below BA.out (Nat.le_refl _)).src)
  have hn1 : ([] : List PT).length + l1.length ≤ 1000000 := by simp; omega
  have hz1 : w4.heap.size ≤ (w4.alloc (.cells #[] 34)).heap.size := by simp
  go_wp2_with (at_builtin; refine wpList_append_data rfl _ _ rfl w4.heap.size w4.heap.size [] l1 _ _ rfl rfl O0.out S1.out hn1 hz1 (Nat.le_refl _) ?_)
  intro v5 w5 o5 hb5 hs5 _
  have B5 := Lib.hid (BA.out.trans hb5)
  have O5 : Hid (RowOwn w5 w4.heap.size w4.heap.size l1 v5) := Lib.hid o5
  have S2 : Hid (SrcS w5 w4.heap.size l2 (.slice b2 l2.length c2)) :=
    Lib.hid ((((R2.out.below (B23.out.trans (B34.out.mono B23.out.size)) (Nat.le_refl _)).move (by have := B23.out.size; have := B34.out.size; omega) fun _ _ _ => rfl).below B5.out (Nat.le_refl _)).src)
  have hz5 : w4.heap.size ≤ w5.heap.size := B5.out.size
  have hn2 : l1.length + l2.length ≤ 1000000 := by omega
  clear o5 hb5 hs5
  go_wp2_with (at_builtin; refine wpList_append_data rfl _ _ rfl w4.heap.size w4.heap.size l1 l2 _ _ rfl rfl O5.out S2.out hn2 hz5 (Nat.le_refl _) ?_)
  intro v6 w6 o6 hb6 hs6 _
  have B6 := Lib.hid (B5.out.trans hb6)
  have R6 := Lib.hid (o6.rep B6.out.size)
  have R46 := Lib.hid ((R4.out.below B6.out (Nat.le_refl _)).move B6.out.size fun _ _ _ => rfl)
  clear o6 hb6 hs6
  have KS := Dat.sameAll_any (l1 ++ l2) (l1 ++ l2) _ _ w6 w6.heap.size R46.out R6.out (Nat.le_refl _)
  rw [same_self, List.length_append] at KS
  have HS := Lib.hid KS
  clear KS
  go_wp2_with fail
  refine HS.out.mono ?_
  rintro e w7 ⟨rfl, hb7⟩
  have B7 := Lib.hid (B4.out.trans ((B6.out.trans (hb7.mono B6.out.size)).mono B4.out.size))
  clear hb7
  go_wp2
  go_ret
  exact ⟨rfl, B7.out⟩
theorem joins_walk (s t : ByteArray) (w : World) (hs : s.size ≤ maxLen) (ht : t.size ≤ maxLen) (hT : LaidOk w) (h2 : 2 ≤ w.heap.size) :
    Calls Tryz.prog 6 #[.string s, .string t] w fun e w' => e = .returned (.bool true) ∧ Below w.heap.size w w' := by
  by_cases h1 : (readT s.data.toList).2.2 = 0
  · by_cases h3 : s.size ≤ 500
    · by_cases h4 : t.size ≤ 500
      · have e1 : readT s.data.toList = ((readT s.data.toList).1, 0, 0) := Prod.ext rfl (Prod.ext ((read_err _).2.1 h1) h1)
        by_cases h5 : (readT t.data.toList).2.2 = 0
        · exact joins_good s t w h3 h4 hT h2 _ _ e1 (Prod.ext rfl (Prod.ext ((read_err _).2.1 h5) h5) : readT t.data.toList = ((readT t.data.toList).1, 0, 0))
        · exact joins_bad s t w h3 h4 hT h2 _ e1 (by simpa using h5)
      · exact joins_out s t w hs ht hT h2 (.inr (.inr ⟨h1, by omega, by omega⟩))
    · exact joins_out s t w hs ht hT h2 (.inr (.inl ⟨h1, by omega⟩))
  · exact joins_out s t w hs ht hT h2 (.inl (by simpa using h1))
end Go.Proofs.YtnmocepkebkkjaaGreatDoor
