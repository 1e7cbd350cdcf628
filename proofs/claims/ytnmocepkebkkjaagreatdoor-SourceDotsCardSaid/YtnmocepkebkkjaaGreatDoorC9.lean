/-
The walk of the law SourceDots, for every row of items and every tail.
-/
import Derived.Test.YtnmocepkebkkjaaGreatDoorC6
import Derived.Test.YtnmocepkebkkjaaGreatDoorC7
import Derived.Test.YtnmocepkebkkjaaGreatDoorC8
import Derived.Deep.RegionHeldLaw
namespace Go.Proofs.YtnmocepkebkkjaaGreatDoor
open Go.ChangeShapes Go.WideShapes Go.ChangeAt Go.RowKit
open Dat (PT makeT RepS RepV NewS samesB textT textsT FormOk FormsOk checkB toldT RepAt repD_mk RowOwn SrcS)

theorem spaced_bound : ∀ l : List PT, (∀ t ∈ l, checkB t = 0) → (spaced l).length ≤ l.length * 67244033
  | [], _ => by simp [spaced]
  | t :: r, hc => by
    have h := spaced_bound r fun u hu => hc u (List.mem_cons_of_mem _ hu)
    have h2 := Dat.check_ok t (hc t (List.mem_cons_self ..))
    have h3 := Dat.textT_len false t h2.1
    unfold spaced at h ⊢
    simp only [List.flatMap_cons, List.length_append, List.length_cons, List.length_nil]
    omega
theorem forms_of : ∀ {l : List PT}, (∀ t ∈ l, checkB t = 0) → FormsOk l
  | [], _ => by rw [FormsOk]; trivial
  | t :: l, h => by
    rw [FormsOk]
    exact ⟨(check_back (h t (List.mem_cons_self ..))).1, forms_of fun u hu => h u (List.mem_cons_of_mem _ hu)⟩
theorem own_at {W : World} {g base B : Nat} (h : W.heap[g]? = some (.cells #[] 34 (0, 0))) (hb : base ≤ g) : RowOwn W base B [] (.slice (some ⟨g, 0, none⟩) 0 0) :=
  ⟨[], ⟨rfl, .inr ⟨g, 0, #[], rfl, hb, h, Nat.le_refl _, Nat.zero_le _, rfl, rfl⟩⟩, by rw [Dat.RepX, Dat.RowX]⟩
theorem src_one {W : World} {x B : Nat} {k i : Int} {s : ByteArray} {m : List PT} {v : Value} (h : W.heap[x]? = some (.cells #[.int .i64 k, .int .i64 i, .string s, v] 34 (0, 0))) (hv : RepV W B (.mk k i s m) v) : SrcS W B [.mk k i s m] (.slice (some ⟨x, 0, none⟩) 1 1) := by
  refine ⟨_, 1, rfl, Nat.le_refl _, by decide, (fun h => by cases h), .inr ⟨x, 0, rfl, ?_⟩⟩
  rw [RepAt, RepAt, repD_mk]
  refine ⟨⟨hv.1, hv.2.1, hv.2.2.1, ?_, ?_, ?_, _, ?_, hv.2.2.2⟩, trivial⟩
  all_goals (rw [Lib.cell_of_heap h]; rfl)
theorem blk_skip {w : World} {o : Obj} {b : Nat} {x : Obj} (h : w.heap[b]? = some x) : (w.alloc o).heap[b]? = some x := (Below.heap_alloc w o b (lt_of_block h)).trans h
theorem rowOwn_shape {W : World} {base B : Nat} {l : List PT} {v : Value} (h : RowOwn W base B l v) (h0 : l ≠ []) : ∃ g cap, v = .slice (some ⟨g, 0, none⟩) l.length cap := by
  obtain ⟨xs, ho, _⟩ := h
  rcases ho.2 with ⟨_, h1⟩ | ⟨g, cap, cur, rfl, _⟩
  · exact absurd (List.length_eq_zero_iff.1 h1) h0
  · exact ⟨g, cap, rfl⟩
theorem own_alloc {W : World} {base B : Nat} {l : List PT} {v : Value} (h : RowOwn W base B l v) (o : Obj) (hB : B ≤ W.heap.size) : RowOwn (W.alloc o) base B l v := by
  obtain ⟨xs, ho, hx⟩ := h
  exact ⟨xs, ho.alloc o, hx.move (Nat.le_refl _) fun b o' hb => World.cell?_of_block (w := W) (a := ⟨b, o', none⟩) (Lib.alloc_old _ _ _ (by show b < _; omega))⟩
theorem bel_alloc {w W : World} (h : Below w.heap.size w W) (o : Obj) : Below w.heap.size w (W.alloc o) := h.alloc h.size o
theorem new_two (w : World) (o p : Obj) : ((w.alloc o).alloc p).heap[w.heap.size + 1]? = some p := by
  have := heap_alloc_new (w.alloc o) p
  rwa [size_new] at this
theorem nums_le : ∀ {l : List PT}, (∀ t ∈ l, checkB t = 0) → Dat.numsT l ≤ 4096 * l.length
  | [], _ => by simp [Dat.numsT]
  | t :: l, h => by
    rw [Dat.numsT, List.length_cons]
    have h1 := (check_back (h t (List.mem_cons_self ..))).2.1
    have h2 := nums_le fun u hu => h u (List.mem_cons_of_mem _ hu)
    omega
theorem checks_snoc {l : List PT} {j : Nat} (hj : j < l.length) (h : ∀ t ∈ l.take j, checkB t = 0) (hn : checkB l[j] = 0) : ∀ t ∈ l.take (j + 1), checkB t = 0 := by
  intro t ht
  rw [List.take_succ_eq_append_getElem hj] at ht
  rcases List.mem_append.1 ht with ht | ht
  · exact h t ht
  · obtain rfl : t = l[j] := by simpa using ht
    exact hn

set_option maxRecDepth 100000 in
set_option maxHeartbeats 8000000 in
theorem dots_walk (l : List PT) (v : Value) (k i : Int) (s : ByteArray) (m : List PT) (x : Value) (w : World) (hl : RepS w w.heap.size l v) (hv : RepV w w.heap.size (.mk k i s m) x) (hT : LaidOk w) (h2 : 2 ≤ w.heap.size) :
    Calls Tryz.prog 8 #[v, .agg #[.int .i64 k, .int .i64 i, .string s, x]] w fun e w' => e = .returned (.bool true) ∧ Below w.heap.size w w' := by
  have HL := Lib.hid hl
  have HV := Lib.hid hv
  have HE := Lib.hid (fun W (h : Below w.heap.size w W) => hT.1.below h hT.1.two)
  have HTab := Lib.hid (fun W (h : Below w.heap.size w W) => Dat.tabOk_below hT.2 h h2)
  have H2 := Lib.hid (fun W (h : Below w.heap.size w W) => Nat.le_trans h2 h.size)
  have K3 := Lib.hid (fun W (h : Below w.heap.size w W) => fixed4_any W ⟨hT.1.below h hT.1.two, Dat.tabOk_below hT.2 h h2⟩ (Nat.le_trans h2 h.size))
  obtain ⟨a, c, rfl, hlc, hcm, _, hor⟩ := hl
  obtain ⟨ax, cx, rfl, _⟩ := hv.2.2.2
  have HOR := Lib.hid hor
  have KT2 : Hid (∀ W, Below w.heap.size w W → Calls Tryz.prog 15 #[.agg #[.int .i64 k, .int .i64 i, .string s, .slice ax m.length cx]] W fun e w' => e = .returned (.tuple #[.string ⟨(toldT false (.mk k i s m)).toArray⟩, .int .i64 (checkB (.mk k i s m))]) ∧ Below W.heap.size W w') :=
    Lib.hid fun W hb => Dat.text_any (.mk k i s m) (.slice ax m.length cx) W w.heap.size ⟨hv.1, hv.2.1, hv.2.2.1, hv.2.2.2.below hb (Nat.le_refl _)⟩ hb.size (H2.out W hb) (HTab.out W hb)
  have HTL : (toldT false (.mk k i s m)).length ≤ 67244032 := by
    unfold toldT
    split
    · rename_i hc
      have h2 := Dat.check_ok _ hc
      have h3 := Dat.textT_len false _ h2.1
      omega
    · simp
  unfold maxLen at hcm
  have kc := Go.Joins.run_convert_bytes_const_at (P := Tryz.prog) (w.alloc (.cells #[.int .i64 k, .int .i64 i, .string s, .slice ax m.length cx] 34)) 39 5 #[.int .u8 40] 1 1 (w.heap.size + 1) (by rw [size_new]) Tryz.underlying39 Tryz.underlying5
  clear hT h2 hv hor
  go_enter Tryz.func8, Tryz.ntmps8
  go_wp2
  go_loopw [5, 6] (fun bx ix wr => ∃ (j : Nat), j ≤ l.length ∧ j ≤ 20 ∧ ix = .int .i64 j ∧ (∀ t ∈ l.take j, checkB t = 0) ∧ BufB wr (w.heap.size + 1) (40 :: spaced (l.take j)) bx ∧ Below (w.heap.size + 1) (w.alloc (.cells #[.int .i64 k, .int .i64 i, .string s, .slice ax m.length cx] 34)) wr) (fun _ ix _ => l.length - (intOf ix).toNat)
  case atStart =>
    have h1 := buf_const (w.alloc (.cells #[.int .i64 k, .int .i64 i, .string s, .slice ax m.length cx] 34)) (w.heap.size + 1) (by rw [size_new]; omega) 40
    rw [size_new] at h1
    exact ⟨0, Nat.zero_le _, by omega, rfl, (by simp), h1, (Below.refl _ _).alloc (by rw [size_new]; omega) _⟩
  case round =>
    obtain ⟨j, hj, hj20, rfl, hchk, hbuf, hbr⟩ := hrel
    have BR := Lib.hid hbr
    have BW := Lib.hid (((Below.refl w.heap.size w).alloc (Nat.le_refl _) (.cells #[.int .i64 k, .int .i64 i, .string s, .slice ax m.length cx] 34)).trans (hbr.mono (Nat.le_succ _)))
    have hbx := (hbr.block w.heap.size (by omega)).trans (heap_alloc_new w (.cells #[.int .i64 k, .int .i64 i, .string s, .slice ax m.length cx] 34))
    have z0 : wr.cell? ⟨w.heap.size, 0, none⟩ = some (.int .i64 k) := by rw [Lib.cell_of_heap hbx]; rfl
    have z1 : wr.cell? ⟨w.heap.size, 1, none⟩ = some (.int .i64 i) := by rw [Lib.cell_of_heap hbx]; rfl
    have z2 : wr.cell? ⟨w.heap.size, 2, none⟩ = some (.string s) := by rw [Lib.cell_of_heap hbx]; rfl
    have z3 : wr.cell? ⟨w.heap.size, 3, none⟩ = some (.slice ax m.length cx) := by rw [Lib.cell_of_heap hbx]; rfl
    have HBX := Lib.hid hbx
    have HBUF := Lib.hid hbuf
    have HCHK := Lib.hid hchk
    have hblen : (spaced (l.take j)).length ≤ 1344880660 := by
      have := spaced_bound _ hchk
      rw [List.length_take] at this
      omega
    obtain ⟨g, cap, rfl⟩ := hbuf.shape
    have hwr : w.heap.size + 1 ≤ wr.heap.size := by have := hbr.size; rw [size_new] at this; exact this
    clear hbr hbuf hchk hbx
    by_cases hlt : j < l.length
    · by_cases h20 : j < 20
      · obtain ⟨b, o, ea, hb, hr⟩ := HOR.out.resolve_left (by rintro rfl; cases hlt)
        subst ea
        obtain ⟨k', i', s', m', v', hjl, ok1, ok2, ok3, d0, d1, d2, d3, hv'⟩ := Dat.repAt_item (hr.below BW.out (Nat.le_refl _) hb) hlt
        have KT := Dat.text_any (.mk k' i' s' m') v' wr w.heap.size ⟨ok1, ok2, ok3, hv'⟩ BW.out.size (H2.out wr BW.out) (HTab.out wr BW.out)
        have hbb : b < wr.heap.size := by have := BW.out.size; omega
        obtain ⟨a', c', rfl, _⟩ := hv'
        by_cases hz : checkB (.mk k' i' s' m') = 0
        · rw [told_ok hz, hz] at KT
          have hft := (Dat.check_ok _ hz)
          have hftl := Dat.textT_len false _ hft.1
          have HNEW : Hid ((∀ t ∈ l.take (j + 1), checkB t = 0) ∧ spaced (l.take (j + 1)) = spaced (l.take j) ++ (textT false (.mk k' i' s' m') ++ [32])) := Lib.hid ⟨checks_snoc hlt HCHK.out (by rw [hjl]; exact hz), by rw [spaced_take hlt, hjl]⟩
          generalize textT false (.mk k' i' s' m') = tt at KT hftl HNEW
          have htl : tt.length ≤ 67244032 := by omega
          obtain ⟨tx, htx⟩ : ∃ tx : ByteArray, tx = ⟨tt.toArray⟩ := ⟨_, rfl⟩
          have HTX : Hid (tx.data.toList = tt) := Lib.hid (by rw [htx])
          have htxs : tx.size ≤ 67244032 := by rw [htx, size_mk]; exact htl
          rw [← htx] at KT
          have HKT := Lib.hid KT
          clear KT hft hftl htx hjl hr htl hz
          go_wp2_with fail
          refine HKT.out.mono ?_
          rintro e w4 ⟨rfl, hb4⟩
          have B4 := Lib.hid (BR.out.trans (hb4.mono hwr))
          have hw4 : w.heap.size + 1 ≤ w4.heap.size := Nat.le_trans hwr hb4.size
          have HBUF4 := Lib.hid (HBUF.out.moved hb4 (Nat.le_refl _))
          have hls : (40 :: spaced (l.take j)).length + (tx ++ (⟨#[32]⟩ : ByteArray)).size ≤ 140737488355328 := by
            rw [ByteArray.size_append]
            show (spaced (l.take j)).length + 1 + (tx.size + 1) ≤ _
            omega
          clear hb4
          go_wp2_with (at_builtin; refine wpList_append_buf rfl _ _ rfl (w.heap.size + 1) (40 :: spaced (l.take j)) _ rfl HBUF4.out (tx ++ (⟨#[32]⟩ : ByteArray)) rfl hls hw4 ?_)
          intro v5 w5 hbuf5 hb5
          have HBUF5 := Lib.hid hbuf5
          have B5 := Lib.hid (B4.out.trans hb5)
          obtain ⟨g5, cap5, rfl⟩ := hbuf5.shape
          clear hbuf5 hb5
          go_wp2
          go_roundw
          case rel =>
            refine ⟨j + 1, by omega, by omega, by go_num, HNEW.out.1, ?_, B5.out⟩
            have := HBUF5.out
            rw [HNEW.out.2]
            simpa [ByteArray.data_append, HTX.out] using this
          case measure => simp [intOf]; omega
        · have hzb : (checkB (.mk k' i' s' m') != 0) = true := by simpa using hz
          generalize toldT false (.mk k' i' s' m') = tt at KT
          generalize checkB (.mk k' i' s' m') = er at KT hzb
          have HKT := Lib.hid KT
          clear KT hjl hr hz
          go_wp2_with fail
          refine HKT.out.mono ?_
          rintro e w4 ⟨rfl, hb4⟩
          have B4 := Lib.hid (BW.out.trans (hb4.mono BW.out.size))
          clear hb4
          go_wp2_with fail
          refine (K3.out _ B4.out).mono ?_
          rintro e w5 ⟨rfl, hb5⟩
          have B5 := Lib.hid (B4.out.trans (hb5.mono B4.out.size))
          clear hb5
          go_wp2
          go_ret
          exact ⟨rfl, B5.out⟩
      · obtain ⟨tx, htx⟩ : ∃ tx : ByteArray, tx = ⟨(toldT false (.mk k i s m)).toArray⟩ := ⟨_, rfl⟩
        have htxs : tx.size ≤ 67244032 := by rw [htx, size_mk]; exact HTL
        rw [← htx] at KT2
        generalize checkB (.mk k i s m) = er at KT2
        have hlt1 : (j : Int) < (l.length : Int) := by omega
        have hlt2 : ¬ (j : Int) < 20 := by omega
        have hbig : (20 : Int) < (l.length : Int) := by omega
        have hbig1 : ¬ (l.length : Int) < 1 := by omega
        generalize hN : (40 :: spaced (l.take j)).length = N at HBUF
        have hN2 : N ≤ 1344880661 := by rw [← hN, List.length_cons]; omega
        clear HTL htx hN hblen
        go_wp2_with fail
        refine (KT2.out _ BW.out).mono ?_
        rintro e w4 ⟨rfl, hb4⟩
        have B4 := Lib.hid (BW.out.trans (hb4.mono BW.out.size))
        clear hb4
        go_wp2_with fail
        refine (K3.out _ B4.out).mono ?_
        rintro e w5 ⟨rfl, hb5⟩
        have B5 := Lib.hid (B4.out.trans (hb5.mono B4.out.size))
        clear hb5
        by_cases her : er = 0
        · subst her
          go_wp2_with fail
          refine (K3.out _ B5.out).mono ?_
          rintro e w6 ⟨rfl, hb6⟩
          have B6 := Lib.hid (B5.out.trans (hb6.mono B5.out.size))
          clear hb6
          go_wp2
          go_ret
          exact ⟨rfl, B6.out⟩
        · have her' : (er != 0) = true := by simpa using her
          go_wp2_with fail
          refine (K3.out _ B5.out).mono ?_
          rintro e w6 ⟨rfl, hb6⟩
          have B6 := Lib.hid (B5.out.trans (hb6.mono B5.out.size))
          clear hb6
          go_wp2
          go_ret
          exact ⟨rfl, B6.out⟩
    · have hje : j = l.length := by omega
      have HALL : Hid (∀ t ∈ l, checkB t = 0) := Lib.hid (by
        have := HCHK.out
        rwa [hje, List.take_length] at this)
      obtain ⟨tx, htx⟩ : ∃ tx : ByteArray, tx = ⟨(toldT false (.mk k i s m)).toArray⟩ := ⟨_, rfl⟩
      have htxs : tx.size ≤ 67244032 := by rw [htx, size_mk]; exact HTL
      have HTX : Hid (tx.data.toList = toldT false (.mk k i s m)) := Lib.hid (by rw [htx])
      rw [← htx] at KT2
      obtain ⟨er, hER⟩ : ∃ er, er = checkB (.mk k i s m) := ⟨_, rfl⟩
      rw [← hER] at KT2
      have HER := Lib.hid hER
      have hlt1 : ¬ (j : Int) < (l.length : Int) := by omega
      have hbig : ¬ (20 : Int) < (l.length : Int) := by omega
      obtain ⟨N, hN⟩ : ∃ N, N = (40 :: spaced (l.take j)).length := ⟨_, rfl⟩
      rw [← hN] at HBUF ⊢
      have HN := Lib.hid hN
      have hN2 : N ≤ 1344880661 := by rw [hN, List.length_cons]; omega
      clear HTL htx hN hblen hER
      go_wp2_with fail
      refine (KT2.out _ BW.out).mono ?_
      rintro e w4 ⟨rfl, hb4⟩
      have B4 := Lib.hid (BW.out.trans (hb4.mono BW.out.size))
      go_wp2_with fail
      refine (K3.out _ B4.out).mono ?_
      rintro e w5 ⟨rfl, hb5⟩
      have B5 := Lib.hid (B4.out.trans (hb5.mono B4.out.size))
      have B45 := Lib.hid (hb4.trans (hb5.mono hb4.size))
      clear hb4 hb5
      by_cases her : er = 0
      · subst her
        by_cases h1 : (l.length : Int) < 1
        · go_wp2_with fail
          refine (K3.out _ B5.out).mono ?_
          rintro e w6 ⟨rfl, hb6⟩
          have B6 := Lib.hid (B5.out.trans (hb6.mono B5.out.size))
          clear hb6
          go_wp2
          go_ret
          exact ⟨rfl, B6.out⟩
        · by_cases h800 : (800 : Int) < (N : Int) + (tx.size : Int)
          · go_wp2_with fail
            refine (K3.out _ B5.out).mono ?_
            rintro e w6 ⟨rfl, hb6⟩
            have B6 := Lib.hid (B5.out.trans (hb6.mono B5.out.size))
            clear hb6
            go_wp2
            go_ret
            exact ⟨rfl, B6.out⟩
          · have hbuf5 := HBUF.out.moved B45.out (Nat.le_refl _)
            have hcv := conv_buf hbuf5
            obtain ⟨X, hX⟩ : ∃ X : ByteArray, X = ⟨(40 :: spaced (l.take j)).toArray⟩ := ⟨_, rfl⟩
            rw [← hX] at hcv
            have hXs : X.size = N := by rw [hX, size_mk, HN.out]
            have hsrc : (X ++ (⟨#[46, 32]⟩ : ByteArray) ++ tx ++ (⟨#[41]⟩ : ByteArray)).data.toList = dotsT l (.mk k i s m) := by
              rw [hX]
              simp [ByteArray.data_append, HTX.out, dotsT, told_ok HER.out.symm, hje]
            have hsz : (X ++ (⟨#[46, 32]⟩ : ByteArray) ++ tx ++ (⟨#[41]⟩ : ByteArray)).size ≤ 1000 := by
              rw [ByteArray.size_append, ByteArray.size_append, ByteArray.size_append]
              show X.size + 2 + tx.size + 1 ≤ 1000
              omega
            have K4 := Lib.hid (read_any (X ++ (⟨#[46, 32]⟩ : ByteArray) ++ tx ++ (⟨#[41]⟩ : ByteArray)) w5 (by unfold maxLen; omega) (HE.out w5 B5.out))
            obtain ⟨r1, r2, r3⟩ := read_dots (forms_of HALL.out) (check_back HER.out.symm).1 (by rintro rfl; simp at h1) (by rw [← hsrc, size_list]; exact hsz)
            have R1 := Lib.hid r1
            have R2 := Lib.hid r2
            have R3 := Lib.hid r3
            have HSRC := Lib.hid hsrc
            have h1' : ¬ (800 : Int) < (N : Int) + (tx.size : Int) := h800
            have hXs2 : X.size ≤ 900 := by omega
            have htx2 : tx.size ≤ 900 := by omega
            have HB5X := Lib.hid ((B45.out.block w.heap.size (by omega)).trans HBX.out)
            clear hbuf5 hX hXs hsrc hsz r1 r2 r3
            go_wp2_with fail
            refine K4.out.mono ?_
            rintro e w6 ⟨hb6, u6, he, hn6⟩
            rw [HSRC.out] at he hn6
            have B6 := Lib.hid (B5.out.trans (hb6.mono B5.out.size))
            have hbx6 := (hb6.block w.heap.size (lt_of_block HB5X.out)).trans HB5X.out
            have y0 : w6.cell? ⟨w.heap.size, 0, none⟩ = some (.int .i64 k) := by rw [Lib.cell_of_heap hbx6]; rfl
            have y1 : w6.cell? ⟨w.heap.size, 1, none⟩ = some (.int .i64 i) := by rw [Lib.cell_of_heap hbx6]; rfl
            have y2 : w6.cell? ⟨w.heap.size, 2, none⟩ = some (.string s) := by rw [Lib.cell_of_heap hbx6]; rfl
            have y3 : w6.cell? ⟨w.heap.size, 3, none⟩ = some (.slice ax m.length cx) := by rw [Lib.cell_of_heap hbx6]; rfl
            have HBX6 := Lib.hid hbx6
            have HLR := Lib.hid (HL.out.below B6.out (Nat.le_refl _))
            have HVR : Hid (RepV w6 w.heap.size (.mk k i s m) (.slice ax m.length cx)) := Lib.hid ⟨HV.out.1, HV.out.2.1, HV.out.2.2.1, HV.out.2.2.2.below B6.out (Nat.le_refl _)⟩
            clear hb6 hbx6 z0 z1 z2 z3 hcv
            by_cases hd : 1 + max (depthsT l) (depthT (.mk k i s m)) ≤ 32
            · rw [R1.out hd] at he hn6
              subst he
              obtain ⟨rk, ri, rs, rl, hr⟩ : ∃ rk ri rs rl, makeT l (.mk k i s m) = .mk rk ri rs rl := by
                cases h : makeT l (.mk k i s m) with
                | mk a b c d => exact ⟨a, b, c, d, rfl⟩
              rw [hr] at hn6
              obtain ⟨a6, c6, rfl, hc6, hm6, _, hor⟩ := hn6.rep
              obtain ⟨b6, o6, ea, hlt6, hat⟩ := hor.resolve_left (by simp)
              subst ea
              rw [Dat.RepAt, repD_mk] at hat
              obtain ⟨⟨ok1, ok2, ok3, d0, d1, d2, y, d3, hy⟩, _⟩ := hat
              have HY := Lib.hid hy
              obtain ⟨ay, cy, rfl, _⟩ := hy
              have HNUM : Hid (Dat.numsT l + Dat.numT (.mk k i s m) ≤ 200000) := Lib.hid (by
                have := nums_le HALL.out
                have := (check_back HER.out.symm).2.1
                omega)
              have HKM : Hid (∀ W, Below w6.heap.size w6 W → Calls Tryz.prog 17 #[.slice a l.length c, .agg #[.int .i64 k, .int .i64 i, .string s, .slice ax m.length cx]] W fun e w' => (∃ ym cm, e = .returned (.agg #[.int .i64 rk, .int .i64 ri, .string rs, .slice ym rl.length cm]) ∧ RepS w' w'.heap.size rl (.slice ym rl.length cm)) ∧ Below w6.heap.size w6 w') := Lib.hid fun W hb => by
                have := Dat.make_any l k i s m (.slice a l.length c) (.slice ax m.length cx) W w.heap.size (HLR.out.below hb B6.out.size) ⟨HVR.out.1, HVR.out.2.1, HVR.out.2.2.1, HVR.out.2.2.2.below hb B6.out.size⟩ (Nat.le_trans B6.out.size hb.size) HNUM.out (.mk rk ri rs rl) hr.symm
                refine this.mono ?_
                rintro e w' ⟨⟨x', he, hx', _⟩, hb'⟩
                have hx2 := hx'.2.2.2
                obtain ⟨ym, cm, rfl, _⟩ := hx'.2.2.2
                exact ⟨⟨ym, cm, he, hx2⟩, hb.trans (hb'.mono hb.size)⟩
              have HKE : Hid (∀ W ym cm, Below w6.heap.size w6 W → RepS W W.heap.size rl (.slice ym rl.length cm) → Calls Tryz.prog 16 #[.agg #[.int .i64 rk, .int .i64 ri, .string rs, .slice ay rl.length cy], .agg #[.int .i64 rk, .int .i64 ri, .string rs, .slice ym rl.length cm]] W fun e w' => e = .returned (.bool true) ∧ Below w6.heap.size w6 w') := Lib.hid fun W ym cm hb hrep => by
                have := Dat.eq_any (.mk rk ri rs rl) (.mk rk ri rs rl) W W.heap.size (.slice ay rl.length cy) (.slice ym rl.length cm) ⟨ok1, ok2, ok3, (HY.out.below hb (Nat.le_refl _)).move hb.size fun _ _ _ => rfl⟩ ⟨ok1, ok2, ok3, hrep⟩ (Nat.le_refl _)
                rw [show Dat.sameB (.mk rk ri rs rl) (.mk rk ri rs rl) = true by simp [Dat.sameB]] at this
                refine this.mono ?_
                rintro e w' ⟨h1, h2⟩
                exact ⟨h1, hb.trans (h2.mono hb.size)⟩
              have hP6 : w.heap.size < w6.heap.size := lt_of_block HBX6.out
              have CL : Hid (∀ W, Below w6.heap.size w6 W → W.cell? ⟨w.heap.size, 0, none⟩ = some (.int .i64 k) ∧ W.cell? ⟨w.heap.size, 1, none⟩ = some (.int .i64 i) ∧ W.cell? ⟨w.heap.size, 2, none⟩ = some (.string s) ∧ W.cell? ⟨w.heap.size, 3, none⟩ = some (.slice ax m.length cx) ∧ W.cell? ⟨b6, o6, none⟩ = some (.int .i64 rk) ∧ W.cell? ⟨b6, o6 + 1, none⟩ = some (.int .i64 ri) ∧ W.cell? ⟨b6, o6 + 2, none⟩ = some (.string rs) ∧ W.cell? ⟨b6, o6 + 3, none⟩ = some (.slice ay rl.length cy) ∧ Below w6.heap.size w6 W) := Lib.hid fun W hb => by
                have h := fun o => World.cell?_of_block (w := w6) (a := ⟨w.heap.size, o, none⟩) (hb.block w.heap.size hP6)
                have g := fun o => World.cell?_of_block (w := w6) (a := ⟨b6, o, none⟩) (hb.block b6 hlt6)
                exact ⟨(h 0).trans y0, (h 1).trans y1, (h 2).trans y2, (h 3).trans y3, (g _).trans d0, (g _).trans d1, (g _).trans d2, (g _).trans d3, hb⟩
              have OF : Hid (∀ W, (W.cell? ⟨w.heap.size, 0, none⟩ = some (.int .i64 k) ∧ W.cell? ⟨w.heap.size, 1, none⟩ = some (.int .i64 i) ∧ W.cell? ⟨w.heap.size, 2, none⟩ = some (.string s) ∧ W.cell? ⟨w.heap.size, 3, none⟩ = some (.slice ax m.length cx) ∧ W.cell? ⟨b6, o6, none⟩ = some (.int .i64 rk) ∧ W.cell? ⟨b6, o6 + 1, none⟩ = some (.int .i64 ri) ∧ W.cell? ⟨b6, o6 + 2, none⟩ = some (.string rs) ∧ W.cell? ⟨b6, o6 + 3, none⟩ = some (.slice ay rl.length cy) ∧ Below w6.heap.size w6 W) → Below w6.heap.size w6 W) := Lib.hid fun W h => h.2.2.2.2.2.2.2.2
              have BZ : Below w6.heap.size w6 w6 := Below.refl _ _
              clear hn6 hor hd hr
              go_wp2
              go_region_held3 (fun W => W.cell? ⟨w.heap.size, 0, none⟩ = some (.int .i64 k) ∧ W.cell? ⟨w.heap.size, 1, none⟩ = some (.int .i64 i) ∧ W.cell? ⟨w.heap.size, 2, none⟩ = some (.string s) ∧ W.cell? ⟨w.heap.size, 3, none⟩ = some (.slice ax m.length cx) ∧ W.cell? ⟨b6, o6, none⟩ = some (.int .i64 rk) ∧ W.cell? ⟨b6, o6 + 1, none⟩ = some (.int .i64 ri) ∧ W.cell? ⟨b6, o6 + 2, none⟩ = some (.string rs) ∧ W.cell? ⟨b6, o6 + 3, none⟩ = some (.slice ay rl.length cy) ∧ Below w6.heap.size w6 W)
                (first | (exact CL.out _ (by assumption)) | (exact CL.out _ (Below.drew (by assumption))))
                (first
                  | (go_at_call 17; refine (HKM.out _ (OF.out _ (by assumption))).mono ?_; rintro e w7 ⟨⟨ym, cm, rfl, hrep⟩, hb7⟩)
                  | (go_at_call 16; refine (HKE.out _ _ _ (OF.out _ (by assumption)) (by assumption)).mono ?_; rintro e w7 ⟨rfl, hb7⟩))
              all_goals
                go_wp2
                go_ret
                exact ⟨rfl, B6.out.trans ((OF.out _ (by assumption)).mono B6.out.size)⟩
            · obtain ⟨at_, hr⟩ := R2.out (by omega)
              have R3' := R3.out
              rw [if_neg hd] at R3'
              rw [hr] at he hn6
              subst he
              obtain ⟨a6, c6, rfl, _⟩ := hn6
              have SL : Hid (∀ W, Below w6.heap.size w6 W → SrcS W w6.heap.size l (.slice a l.length c)) := Lib.hid fun W hb => (((HLR.out.move B6.out.size fun _ _ _ => rfl).below hb (Nat.le_refl _)).src)
              have SV : Hid (∀ W, Below w6.heap.size w6 W → RepV W w6.heap.size (.mk k i s m) (.slice ax m.length cx)) := Lib.hid fun W hb => ⟨HVR.out.1, HVR.out.2.1, HVR.out.2.2.1, (HVR.out.2.2.2.move B6.out.size fun _ _ _ => rfl).below hb (Nat.le_refl _)⟩
              have R3H := Lib.hid R3'
              have HKC : Hid (∀ W vv, Below w6.heap.size w6 W → RowOwn W w6.heap.size w6.heap.size (l ++ [.mk k i s m]) vv → Calls Tryz.prog 14 #[.agg #[.int .i64 7, .int .i64 0, .string ⟨#[]⟩, vv]] W fun e w' => e = .returned (.int .i64 21) ∧ Below w6.heap.size w6 w') := Lib.hid fun W vv hb ho => by
                have hr := ho.rep hb.size
                have := Dat.check_any (.mk 7 0 ⟨#[]⟩ (l ++ [.mk k i s m])) vv W W.heap.size ⟨Dat.ok_small (by decide), Dat.ok_small (by decide), by decide, hr⟩ (Nat.le_refl _)
                rw [R3H.out] at this
                refine this.mono ?_
                rintro e w' ⟨h1, h2⟩
                exact ⟨h1, hb.trans (h2.mono hb.size)⟩
              have hn1 : ([] : List PT).length + l.length ≤ 1000000 := by simp; omega
              have hn2 : l.length + [PT.mk k i s m].length ≤ 1000000 := by simp; omega
              have BZ := Lib.hid (Below.refl w6.heap.size w6)
              clear hd R3' hr
              go_wp2
              have hP6 : w.heap.size < w6.heap.size := lt_of_block HBX6.out
              have CLT : Hid (∀ W, Below w6.heap.size w6 W → W.cell? ⟨w.heap.size, 0, none⟩ = some (.int .i64 k) ∧ W.cell? ⟨w.heap.size, 1, none⟩ = some (.int .i64 i) ∧ W.cell? ⟨w.heap.size, 2, none⟩ = some (.string s) ∧ W.cell? ⟨w.heap.size, 3, none⟩ = some (.slice ax m.length cx)) := Lib.hid fun W hb => by
                have h := fun o => World.cell?_of_block (w := w6) (a := ⟨w.heap.size, o, none⟩) (hb.block w.heap.size hP6)
                exact ⟨(h 0).trans y0, (h 1).trans y1, (h 2).trans y2, (h 3).trans y3⟩
              have Q0 := Lib.hid (((Below.refl w6.heap.size w6).alloc (Nat.le_refl _) (.cells #[] 34)).drew)
              have Q01 := Lib.hid ((((Below.refl w6.heap.size w6).alloc (Nat.le_refl _) (.cells #[] 34)).alloc (by rw [size_new]; omega) (.cells #[.int .i64 k, .int .i64 i, .string s, .slice ax m.length cx] 34)).drew)
              have Q10 := Lib.hid ((((Below.refl w6.heap.size w6).alloc (Nat.le_refl _) (.cells #[.int .i64 k, .int .i64 i, .string s, .slice ax m.length cx] 34)).alloc (by rw [size_new]; omega) (.cells #[] 34)).drew)
              have N0 := Lib.hid (heap_alloc_new w6 (.cells #[] 34))
              have N00 := Lib.hid (blk_skip (o := (.cells #[.int .i64 k, .int .i64 i, .string s, .slice ax m.length cx] 34)) N0.out)
              have N01 := Lib.hid (new_two w6 (.cells #[] 34) (.cells #[.int .i64 k, .int .i64 i, .string s, .slice ax m.length cx] 34))
              have N10 := Lib.hid (new_two w6 (.cells #[.int .i64 k, .int .i64 i, .string s, .slice ax m.length cx] 34) (.cells #[] 34))
              have N11 := Lib.hid (blk_skip (o := (.cells #[] 34)) (heap_alloc_new w6 (.cells #[.int .i64 k, .int .i64 i, .string s, .slice ax m.length cx] 34)))
              have CLS : Hid (∀ W, Below w6.heap.size w6 W → W.cell? ⟨w.heap.size, 0, none⟩ = some (.int .i64 k) ∧ W.cell? ⟨w.heap.size, 1, none⟩ = some (.int .i64 i) ∧ W.cell? ⟨w.heap.size, 2, none⟩ = some (.string s) ∧ W.cell? ⟨w.heap.size, 3, none⟩ = some (.slice ax m.length cx) ∧ Below w6.heap.size w6 W) := Lib.hid fun W hb => by
                obtain ⟨t0, t1, t2, t3⟩ := CLT.out W hb
                exact ⟨t0, t1, t2, t3, hb⟩
              have OFS : Hid (∀ W, (W.cell? ⟨w.heap.size, 0, none⟩ = some (.int .i64 k) ∧ W.cell? ⟨w.heap.size, 1, none⟩ = some (.int .i64 i) ∧ W.cell? ⟨w.heap.size, 2, none⟩ = some (.string s) ∧ W.cell? ⟨w.heap.size, 3, none⟩ = some (.slice ax m.length cx) ∧ Below w6.heap.size w6 W) → Below w6.heap.size w6 W) := Lib.hid fun W h => h.2.2.2.2
              have BZ0 : Below w6.heap.size w6 w6 := Below.refl _ _
              go_region_held_law (fun W => W.cell? ⟨w.heap.size, 0, none⟩ = some (.int .i64 k) ∧ W.cell? ⟨w.heap.size, 1, none⟩ = some (.int .i64 i) ∧ W.cell? ⟨w.heap.size, 2, none⟩ = some (.string s) ∧ W.cell? ⟨w.heap.size, 3, none⟩ = some (.slice ax m.length cx) ∧ Below w6.heap.size w6 W)
                (first | (exact CLS.out _ (Below.drew (bel_alloc BZ0 _))) | (exact CLS.out _ (Below.drew (bel_alloc (bel_alloc BZ0 _) _))) | (exact CLS.out _ (Below.refl _ _)) | (exact CLS.out _ (Below.drew (Below.refl _ _))) | (exact CLS.out _ (by assumption)) | (exact CLS.out _ (Below.drew (by assumption))) | (exact CLS.out _ (Below.drew (OFS.out _ (by assumption)))) | (exact CLS.out _ (bel_alloc (OFS.out _ (by assumption)) _)) | (exact CLS.out _ (Below.drew (bel_alloc (OFS.out _ (by assumption)) _))))
                (first
                | (refine Dat.step_append_rows (w := ((w6.alloc (.cells #[] 34)).alloc (.cells #[.int .i64 k, .int .i64 i, .string s, .slice ax m.length cx] 34)).drew) rfl _ _ rfl w6.heap.size w6.heap.size [] l (.slice (some ⟨w6.heap.size, 0, none⟩) 0 0) (.slice a l.length c) rfl rfl (own_at N00.out (by omega)) (SL.out _ Q01.out) hn1 (by have := (Q01.out : Below w6.heap.size w6 ((w6.alloc (.cells #[] 34)).alloc (.cells #[.int .i64 k, .int .i64 i, .string s, .slice ax m.length cx] 34)).drew).size; exact this) (Nat.le_refl _) ?_
                   intro v7 w7 o7 hb7 hs7 hk7
                   have B7 : Below w6.heap.size w6 w7 := (Q01.out : Below w6.heap.size w6 ((w6.alloc (.cells #[] 34)).alloc (.cells #[.int .i64 k, .int .i64 i, .string s, .slice ax m.length cx] 34)).drew).trans hb7
                   have hz7 : w6.heap.size ≤ w7.heap.size := B7.size
                   obtain ⟨t0, t1, t2, t3⟩ := CLT.out _ B7
                   have T7 := (hk7 (w6.heap.size + 1) (by show w6.heap.size + 1 < ((w6.alloc (.cells #[] 34)).alloc (.cells #[.int .i64 k, .int .i64 i, .string s, .slice ax m.length cx] 34)).heap.size; rw [size_new, size_new]; omega) (by simp [Value.ownBlock])).trans N01.out)
                | (refine Dat.step_append_rows (w := ((w6.alloc (.cells #[.int .i64 k, .int .i64 i, .string s, .slice ax m.length cx] 34)).alloc (.cells #[] 34)).drew) rfl _ _ rfl w6.heap.size w6.heap.size [] l (.slice (some ⟨w6.heap.size + 1, 0, none⟩) 0 0) (.slice a l.length c) rfl rfl (own_at N10.out (by omega)) (SL.out _ Q10.out) hn1 (by have := (Q10.out : Below w6.heap.size w6 ((w6.alloc (.cells #[.int .i64 k, .int .i64 i, .string s, .slice ax m.length cx] 34)).alloc (.cells #[] 34)).drew).size; exact this) (Nat.le_refl _) ?_
                   intro v7 w7 o7 hb7 hs7 hk7
                   have B7 : Below w6.heap.size w6 w7 := (Q10.out : Below w6.heap.size w6 ((w6.alloc (.cells #[.int .i64 k, .int .i64 i, .string s, .slice ax m.length cx] 34)).alloc (.cells #[] 34)).drew).trans hb7
                   have hz7 : w6.heap.size ≤ w7.heap.size := B7.size
                   obtain ⟨t0, t1, t2, t3⟩ := CLT.out _ B7
                   have T7 := (hk7 w6.heap.size (by show w6.heap.size < ((w6.alloc (.cells #[.int .i64 k, .int .i64 i, .string s, .slice ax m.length cx] 34)).alloc (.cells #[] 34)).heap.size; rw [size_new, size_new]; omega) (by simp [Value.ownBlock])).trans N11.out)
                | (refine Dat.step_append_rows (w := (w6.alloc (.cells #[] 34)).drew) rfl _ _ rfl w6.heap.size w6.heap.size [] l (.slice (some ⟨w6.heap.size, 0, none⟩) 0 0) (.slice a l.length c) rfl rfl (own_at N0.out (by omega)) (SL.out _ Q0.out) hn1 (by have := (Q0.out : Below w6.heap.size w6 (w6.alloc (.cells #[] 34)).drew).size; exact this) (Nat.le_refl _) ?_
                   intro v7 w7 o7 hb7 hs7 hk7
                   have B7 : Below w6.heap.size w6 w7 := (Q0.out : Below w6.heap.size w6 (w6.alloc (.cells #[] 34)).drew).trans hb7
                   have hz7 : w6.heap.size ≤ w7.heap.size := B7.size
                   obtain ⟨t0, t1, t2, t3⟩ := CLT.out _ B7)
                | (refine Dat.step_append_rows (w := w7) rfl _ _ rfl w6.heap.size w6.heap.size l [.mk k i s m] v7 _ rfl rfl o7 (src_one T7 (SV.out _ B7)) hn2 hz7 (Nat.le_refl _) ?_
                   intro v8 w8 o8 hb8 hs8 hk8
                   have B8 : Below w6.heap.size w6 w8 := B7.trans hb8
                   obtain ⟨g8, c8, rfl⟩ := rowOwn_shape o8 (by simp)
                   have KC0 := HKC.out _ _ B8 o8
                   simp only [List.length_append, List.length_cons, List.length_nil, Nat.zero_add] at KC0
                   have KC8 := Lib.hid KC0)
                | (refine Dat.step_append_rows (w := w7.alloc (.cells #[.int .i64 k, .int .i64 i, .string s, .slice ax m.length cx] 34)) rfl _ _ rfl w6.heap.size w6.heap.size l [.mk k i s m] v7 _ rfl rfl (own_alloc o7 _ hz7) (src_one (heap_alloc_new w7 _) (SV.out _ (B7.alloc hz7 _))) hn2 (by rw [size_new]; omega) (Nat.le_refl _) ?_
                   intro v8 w8 o8 hb8 hs8 hk8
                   have B8 : Below w6.heap.size w6 w8 := (B7.alloc hz7 _).trans hb8
                   obtain ⟨g8, c8, rfl⟩ := rowOwn_shape o8 (by simp)
                   have KC0 := HKC.out _ _ B8 o8
                   simp only [List.length_append, List.length_cons, List.length_nil, Nat.zero_add] at KC0
                   have KC8 := Lib.hid KC0)
                | (go_at_call 14; refine KC8.out.mono ?_; rintro e w9 ⟨rfl, hb9⟩))
              all_goals
                go_wp2
                go_ret
                exact ⟨rfl, B6.out.trans ((by assumption : Below w6.heap.size w6 w9).mono B6.out.size)⟩
      · have her' : (er != 0) = true := by simpa using her
        go_wp2_with fail
        refine (K3.out _ B5.out).mono ?_
        rintro e w6 ⟨rfl, hb6⟩
        have B6 := Lib.hid (B5.out.trans (hb6.mono B5.out.size))
        clear hb6
        go_wp2
        go_ret
        exact ⟨rfl, B6.out⟩
end Go.Proofs.YtnmocepkebkkjaaGreatDoor
