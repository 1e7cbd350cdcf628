/-
The document's hash: what it returns at every place. For strings of at most 4096 bytes.
-/
import Derived.Test.YtiamojpeedllbaaGreatDoorU2
namespace Go.Proofs.YtiamojpeedllbaaGreatDoor
open Go.ChangeShapes Go.WideShapes Go.ChangeAt Go.RowKit

theorem tokV_eq (q : Tk) (n : Nat) (e : Int) : TokV (q, n, e) = .tuple #[q.val 0 0, .int .i64 (n : Int), .int .i64 e] := rfl

/-- A character's name of two bytes and more. -/
theorem charV_name {x : ByteArray} {N : Nat} (hx : x.size = N) (hN : 2 ≤ N) : charV x.data.toList = if x.toList = [115, 112, 97, 99, 101] then some 32 else if x.toList = [110, 101, 119, 108, 105, 110, 101] then some 10
    else if N = 3 ∧ x.data.toList.head? = some 120 then twoV (x.data.toList.drop 1) else none := by
  have hl := len_data x
  unfold charV
  rw [if_neg (by omega), ByteArray.toList_eq, hl, hx]

set_option maxRecDepth 100000 in
set_option maxHeartbeats 1000000 in
theorem rhash_one (s x : ByteArray) (k N : Nat) (w : World) (hs : s.size ≤ 4096) (hk : k + 2 < s.size) (h92 : ((s[k + 1].toNat : Int) == 92) = true) (h40 : ((s[k + 1].toNat : Int) == 40) = false) (hN : N ≤ 1)
    (hX : s.extract (k + 2) (k + 2 + 1) = x) (hx : x.size = 1)
    (H : Hid (∀ W, Calls Tryz.prog 86 #[.string s, .int .i64 ((k : Int) + 2)] W fun e w' => e = .returned (.int .i64 (N : Int)) ∧ W = w')) :
    Calls Tryz.prog 84 #[.string s, .int .i64 (k : Int)] w fun e w' => e = .returned (TokV (⟨7, [], ((x[0]'(by omega)).toNat : Nat)⟩, 2 + 1, 0)) ∧ Below w.heap.size w w' := by
  have hk2 : (k : Int) + 2 < (s.size : Int) := by omega
  have hk1 : (k : Int) + 1 < (s.size : Int) := by omega
  have hk3 : (k : Int) + 2 + 1 ≤ (s.size : Int) := by omega
  have hx0 : 0 < x.size := by omega
  have hb : (x[0].toNat : Int) < 256 := by have := x[0].toNat_lt; omega
  have hb0 : 0 ≤ (x[0].toNat : Int) := by omega
  rcases (show N = 0 ∨ N = 1 by omega) with rfl | rfl
  all_goals
    go_enter Tryz.func84, Tryz.ntmps84
    go_wp2_with (go_at_call 86; ((with_reducible refine (H.out _).mono ?_); rintro e w' ⟨rfl, rfl⟩))
    have R2 := Res2.first w #[.int .i64 7, .string ⟨#[]⟩, .int .i64 (x[0].toNat : Nat), .int .i64 0, .int .i64 0] zero5
    exact bodyPost_ret (results_row_tmp2 (P := Tryz.prog) rfl _ _ w.heap.size 33 _ (0, 0) _ rfl R2.2.1 Tryz.underlying33 rfl size35) rfl ⟨rfl, R2.1⟩

set_option maxRecDepth 100000 in
set_option maxHeartbeats 2000000 in
theorem rhash_name (s x : ByteArray) (k N : Nat) (w : World) (hs : s.size ≤ 4096) (hk : k + 2 < s.size) (h92 : ((s[k + 1].toNat : Int) == 92) = true) (h40 : ((s[k + 1].toNat : Int) == 40) = false) (hN : 2 ≤ N) (hN2 : k + 2 + N ≤ s.size)
    (hX : s.extract (k + 2) (k + 2 + N) = x) (hx : x.size = N)
    (H : Hid (∀ W, Calls Tryz.prog 86 #[.string s, .int .i64 ((k : Int) + 2)] W fun e w' => e = .returned (.int .i64 (N : Int)) ∧ W = w')) (T : Tk × Nat × Int)
    (hT : T = (match charV x.data.toList with | some x => ((⟨7, [], x⟩ : Tk), 2 + N, (0 : Int)) | none => (noTk, 0, 31))) :
    Calls Tryz.prog 84 #[.string s, .int .i64 (k : Int)] w fun e w' => e = .returned (TokV T) ∧ Below w.heap.size w w' := by
  have hk2 : (k : Int) + 2 < (s.size : Int) := by omega
  have hk1 : (k : Int) + 1 < (s.size : Int) := by omega
  have hn1 : (2 : Int) ≤ (N : Int) := by omega
  have hn2 : (k : Int) + 2 + (N : Int) ≤ (s.size : Int) := by omega
  have n1 : ((N : Int) == 1) = false := by rw [beq_eq_false_iff_ne]; omega
  rw [charV_name hx hN] at hT
  have hl := len_data x
  by_cases e1 : x.toList = [115, 112, 97, 99, 101]
  · have e2 : (x.toList == [115, 112, 97, 99, 101]) = true := by rw [e1]; rfl
    rw [if_pos e1] at hT
    subst hT
    clear hl
    go_enter Tryz.func84, Tryz.ntmps84
    go_wp2_with (go_at_call 86; ((with_reducible refine (H.out _).mono ?_); rintro e w' ⟨rfl, rfl⟩))
    have R2 := Res2.first w #[.int .i64 7, .string ⟨#[]⟩, .int .i64 32, .int .i64 0, .int .i64 0] zero5
    exact bodyPost_ret (results_row_tmp2 (P := Tryz.prog) rfl _ _ w.heap.size 33 _ (0, 0) _ rfl R2.2.1 Tryz.underlying33 rfl size35) rfl ⟨rfl, R2.1⟩
  · have e2 : (x.toList == [115, 112, 97, 99, 101]) = false := by simpa using e1
    rw [if_neg e1] at hT
    by_cases f1 : x.toList = [110, 101, 119, 108, 105, 110, 101]
    · have f2 : (x.toList == [110, 101, 119, 108, 105, 110, 101]) = true := by rw [f1]; rfl
      rw [if_pos f1] at hT
      subst hT
      clear hl e1
      go_enter Tryz.func84, Tryz.ntmps84
      go_wp2_with (go_at_call 86; ((with_reducible refine (H.out _).mono ?_); rintro e w' ⟨rfl, rfl⟩))
      have R2 := Res2.first w #[.int .i64 7, .string ⟨#[]⟩, .int .i64 10, .int .i64 0, .int .i64 0] zero5
      exact bodyPost_ret (results_row_tmp2 (P := Tryz.prog) rfl _ _ w.heap.size 33 _ (0, 0) _ rfl R2.2.1 Tryz.underlying33 rfl size35) rfl ⟨rfl, R2.1⟩
    · have f2 : (x.toList == [110, 101, 119, 108, 105, 110, 101]) = false := by simpa using f1
      rw [if_neg f1] at hT
      have hx0 : 0 < x.size := by omega
      have hcons : x.data.toList = x[0] :: x.data.toList.drop 1 := data_cons hx0
      have hhd : x.data.toList.head? = some 120 ↔ ((x[0].toNat : Int) == 120) = true := by
        rw [hcons]
        simp only [List.head?_cons, Option.some.injEq, beq_iff_eq]
        exact ⟨fun h => by rw [h]; rfl, fun h => UInt8.toNat_inj.1 (by have e : (120 : UInt8).toNat = 120 := rfl; omega)⟩
      by_cases h3 : N = 3
      · have n3 : ((N : Int) == 3) = true := by rw [h3]; rfl
        by_cases hh : ((x[0].toNat : Int) == 120) = true
        · rw [if_pos ⟨h3, hhd.2 hh⟩] at hT
          have C : Calls Tryz.prog 106 #[.string x, .int .i64 1] ((w.alloc (.cells zero5 33)).alloc (.cells zero5 33)) fun e w' => e = .returned (.int .i64 (twoI (x.data.toList.drop 1))) ∧ ((w.alloc (.cells zero5 33)).alloc (.cells zero5 33)) = w' := two_any x 1 _ (by omega) (by omega)
          unfold twoI at C
          cases ht : twoV (x.data.toList.drop 1) with
          | none =>
            rw [ht] at C hT
            have H2 := Lib.hid C
            subst hT
            clear hl e1 f1 hcons hhd C ht h3
            go_enter Tryz.func84, Tryz.ntmps84
            go_wp2_with (first
              | (go_at_call 86; ((with_reducible refine (H.out _).mono ?_); rintro e w' ⟨rfl, rfl⟩))
              | (go_at_call 106; ((with_reducible refine H2.out.mono ?_); rintro e w' ⟨rfl, rfl⟩)))
            have R2 := Res2.first w zero5 zero5
            exact bodyPost_ret (results_row_tmp2 (P := Tryz.prog) rfl _ _ w.heap.size 33 _ (0, 0) _ rfl R2.2.1 Tryz.underlying33 rfl size35) rfl ⟨rfl, R2.1⟩
          | some v =>
            rw [ht] at C hT
            have H2 := Lib.hid C
            subst hT
            have hv0 : 0 ≤ (v : Int) := by omega
            clear hl e1 f1 hcons hhd C ht h3
            go_enter Tryz.func84, Tryz.ntmps84
            go_wp2_with (first
              | (go_at_call 86; ((with_reducible refine (H.out _).mono ?_); rintro e w' ⟨rfl, rfl⟩))
              | (go_at_call 106; ((with_reducible refine H2.out.mono ?_); rintro e w' ⟨rfl, rfl⟩)))
            have R2 := Res2.first w #[.int .i64 7, .string ⟨#[]⟩, .int .i64 v, .int .i64 0, .int .i64 0] zero5
            exact bodyPost_ret (results_row_tmp2 (P := Tryz.prog) rfl _ _ w.heap.size 33 _ (0, 0) _ rfl R2.2.1 Tryz.underlying33 rfl size35) rfl ⟨rfl, R2.1⟩
        · have hh' : ((x[0].toNat : Int) == 120) = false := by simpa using hh
          rw [if_neg (fun h => hh (hhd.1 h.2))] at hT
          subst hT
          clear hl e1 f1 hcons hhd h3 hh
          go_enter Tryz.func84, Tryz.ntmps84
          go_wp2_with (go_at_call 86; ((with_reducible refine (H.out _).mono ?_); rintro e w' ⟨rfl, rfl⟩))
          have R2 := Res2.first w zero5 zero5
          exact bodyPost_ret (results_row_tmp2 (P := Tryz.prog) rfl _ _ w.heap.size 33 _ (0, 0) _ rfl R2.2.1 Tryz.underlying33 rfl size35) rfl ⟨rfl, R2.1⟩
      · have n3 : ((N : Int) == 3) = false := by rw [beq_eq_false_iff_ne]; omega
        rw [if_neg (fun h => h3 h.1)] at hT
        subst hT
        clear hl e1 f1 hcons hhd h3
        go_enter Tryz.func84, Tryz.ntmps84
        go_wp2_with (go_at_call 86; ((with_reducible refine (H.out _).mono ?_); rintro e w' ⟨rfl, rfl⟩))
        have R2 := Res2.first w zero5 zero5
        exact bodyPost_ret (results_row_tmp2 (P := Tryz.prog) rfl _ _ w.heap.size 33 _ (0, 0) _ rfl R2.2.1 Tryz.underlying33 rfl size35) rfl ⟨rfl, R2.1⟩

theorem rhash_any (s : ByteArray) (k : Nat) (w : World) (hs : s.size ≤ 4096) (hk : k < s.size) :
    Calls Tryz.prog 84 #[.string s, .int .i64 (k : Int)] w fun e w' => e = .returned (TokV (hashT (s.data.toList.drop (k + 1)))) ∧ Below w.heap.size w w' := by
  have hl := len_data s
  by_cases h1 : k + 1 = s.size
  · have e : hashT (s.data.toList.drop (k + 1)) = (noTk, 0, 31) := by
      rw [List.drop_of_length_le (by omega), hashT_else (by simp) (by simp), if_neg (by decide), if_neg (by decide)]
    rw [e]; exact rhash_bare s k w hs h1
  have hk1 : k + 1 < s.size := by omega
  have hr : s.data.toList.drop (k + 1) = s[k + 1] :: s.data.toList.drop (k + 2) := List.drop_eq_getElem_cons (by rw [hl]; exact hk1)
  by_cases h40 : ((s[k + 1].toNat : Int) == 40) = true
  · rw [hr, byte_is (m := 40) rfl h40]
    exact rhash_open s k w hs hk1 h40
  have h40' : ((s[k + 1].toNat : Int) == 40) = false := by simpa using h40
  by_cases hk2 : s.size ≤ k + 2
  · exact rhash_word s k w hs hk1 h40' (.inr hk2)
  by_cases h92 : ((s[k + 1].toNat : Int) == 92) = true
  · have hk2' : k + 2 < s.size := by omega
    have hr2 : s.data.toList.drop (k + 2) = s[k + 2] :: s.data.toList.drop (k + 3) := List.drop_eq_getElem_cons (by rw [hl]; exact hk2')
    have C : ∀ W, Calls Tryz.prog 86 #[.string s, .int .i64 ((k : Int) + 2)] W fun e w' => e = .returned (.int .i64 ((wordL (s.data.toList.drop (k + 2))).length : Int)) ∧ W = w' := fun W => rword_any s (k + 2) W (by unfold maxLen; omega) (by omega)
    have hwl := wordL_le (s.data.toList.drop (k + 2))
    rw [List.length_drop, hl] at hwl
    obtain ⟨N, hN⟩ : ∃ N, N = (wordL (s.data.toList.drop (k + 2))).length := ⟨_, rfl⟩
    rw [← hN] at C hwl
    have hx : ∀ n, (s.extract (k + 2) (k + 2 + n)).data.toList = (s.data.toList.drop (k + 2)).take n := fun n => by rw [extract_list, Nat.add_sub_cancel_left]
    have hT : hashT (s.data.toList.drop (k + 1)) = (match charV ((s.data.toList.drop (k + 2)).take (max 1 N)) with | some x => ((⟨7, [], x⟩ : Tk), 2 + max 1 N, (0 : Int)) | none => (noTk, 0, 31)) := by
      rw [hr, byte_is (m := 92) rfl h92, hN, hr2, hashT_char]
      cases charV ((s[k + 2] :: s.data.toList.drop (k + 3)).take (max 1 (wordL (s[k + 2] :: s.data.toList.drop (k + 3))).length)) <;> rfl
    rw [hT]
    by_cases hN1 : N ≤ 1
    · have hsz : (s.extract (k + 2) (k + 2 + 1)).size = 1 := by simp; omega
      have hm : max 1 N = 1 := by omega
      have h0 : 0 < (s.extract (k + 2) (k + 2 + 1)).size := by omega
      have hc := data_cons h0
      have hd1 : (s.extract (k + 2) (k + 2 + 1)).data.toList.drop 1 = [] := List.drop_of_length_le (by rw [len_data]; omega)
      rw [hm, ← hx 1]
      have hv : charV (s.extract (k + 2) (k + 2 + 1)).data.toList = some (s.extract (k + 2) (k + 2 + 1))[0].toNat := by
        rw [hc, hd1]; rfl
      rw [hv]
      exact rhash_one s _ k N w hs hk2' h92 h40' hN1 rfl hsz (Lib.hid C)
    · have hm : max 1 N = N := by omega
      rw [hm, ← hx N]
      exact rhash_name s _ k N w hs hk2' h92 h40' (by omega) (by omega) rfl (by simp; omega) (Lib.hid C) _ rfl
  · exact rhash_word s k w hs hk1 h40' (.inl (by simpa using h92))
end Go.Proofs.YtiamojpeedllbaaGreatDoor
