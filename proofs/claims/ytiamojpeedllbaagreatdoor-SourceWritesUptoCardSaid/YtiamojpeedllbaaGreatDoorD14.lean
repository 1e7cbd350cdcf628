/-
What a teller of package data writes of a truth, of a byte, of a string: its small methods. A text of at most 2^47 bytes.
-/
import Derived.Test.YtiamojpeedllbaaGreatDoorD13
import Derived.StillTailTactics
import Derived.Deep.QuietTactic
import Derived.BigQuiet
namespace Go.Proofs.YtiamojpeedllbaaGreatDoor.Dat
open Go.ChangeShapes Go.WideShapes Go.ChangeAt Go.RowKit
set_option maxRecDepth 100000

def hexd (n : Nat) : UInt8 := if n < 10 then UInt8.ofNat (48 + n) else UInt8.ofNat (87 + n)
def hexT (c : UInt8) : List UInt8 := [120, hexd (c.toNat / 16), hexd (c.toNat % 16)]

def Wrote (tb : Nat) (bare : Bool) (l : List UInt8) (w : World) (e : Ending) (w' : World) : Prop := e = .returned (.tuple #[]) ∧ IsTeller tb bare l w' ∧ Below tb w w'

theorem putByte (tb : Nat) (bare : Bool) (l : List UInt8) (c : Int) (c8 : UInt8) (hc : c = (c8.toNat : Int)) (w : World) (h : IsTeller tb bare l w) (hlen : l.length + 1 ≤ 140737488355328) :
    Calls Tryz.prog 39 #[.pointer (some ⟨tb, 0, none⟩), .int .u8 c] w fun e w' => e = .returned .nilIface ∧ IsTeller tb bare (l ++ [c8]) w' ∧ Below tb w w' := by
  subst hc
  exact (writeByte_any tb bare l c8 w h hlen).mono fun _ _ ⟨he, h1, hb⟩ => ⟨he, .inr h1, hb⟩
theorem putText (tb : Nat) (bare : Bool) (l : List UInt8) (s : ByteArray) (t : List UInt8) (ht : s.data.toList = t) (w : World) (h : IsTeller tb bare l w) (hlen : l.length + t.length ≤ 140737488355328) :
    Calls Tryz.prog 38 #[.pointer (some ⟨tb, 0, none⟩), .string s] w fun e w' => e = .returned (.tuple #[.int .i64 s.size, .nilIface]) ∧ IsTeller tb bare (l ++ t) w' ∧ Below tb w w' := by
  subst ht
  rw [len_data] at hlen
  exact (writeString_any tb bare l s w h hlen).mono fun _ _ ⟨he, h1, hb⟩ => ⟨he, .inr h1, hb⟩

theorem truth_any (tb : Nat) (bare : Bool) (l : List UInt8) (n : Int) (w : World) (h : IsTeller tb bare l w) (hlen : l.length + 2 ≤ 140737488355328) :
    Calls Tryz.prog 68 #[.pointer (some ⟨tb, 0, none⟩), .int .i64 n] w (Wrote tb bare (l ++ (if n = 0 then [35, 102] else [35, 116])) w) := by
  by_cases hn : n = 0
  · subst hn
    rw [if_pos rfl]
    go_enter Tryz.func68, Tryz.ntmps68
    go_wp2_with fail
    refine (putText tb bare l _ [35, 102] rfl _ h hlen).mono ?_
    rintro e w1 ⟨rfl, h1, hb1⟩
    go_wp2
    go_end0
    exact ⟨rfl, h1, hb1⟩
  · rw [if_neg hn]
    have hn' : (n == 0) = false := by simpa using hn
    go_enter Tryz.func68, Tryz.ntmps68
    go_wp2_with fail
    refine (putText tb bare l _ [35, 116] rfl _ h hlen).mono ?_
    rintro e w1 ⟨rfl, h1, hb1⟩
    go_wp2
    go_end0
    exact ⟨rfl, h1, hb1⟩

theorem hex_index (n : Nat) (h : n < 16) : ((({ data := #[48, 49, 50, 51, 52, 53, 54, 55, 56, 57, 97, 98, 99, 100, 101, 102] } : ByteArray)[n]'h).toNat : Int) = ((hexd n).toNat : Int) := by
  have : ∀ m : Fin 16, (({ data := #[48, 49, 50, 51, 52, 53, 54, 55, 56, 57, 97, 98, 99, 100, 101, 102] } : ByteArray)[m.val]'m.isLt) = hexd m.val := by decide +kernel
  have e := this ⟨n, h⟩
  exact congrArg (fun c : UInt8 => (c.toNat : Int)) e
theorem and15 (c : UInt8) : bits .and .u8 (c.toNat : Int) 15 = (c.toNat : Int) % 16 := by
  have : ∀ m : Fin 256, bits .and .u8 (m.val : Int) 15 = (m.val : Int) % 16 := by decide +kernel
  exact this ⟨c.toNat, c.toNat_lt⟩
theorem IsTeller.drew {tb : Nat} {bare : Bool} {l : List UInt8} {w : World} (h : IsTeller tb bare l w) : IsTeller tb bare l w.drew := h

theorem hex_any (tb : Nat) (bare : Bool) (l : List UInt8) (c : UInt8) (w : World) (h : IsTeller tb bare l w) (hlen : l.length + 3 ≤ 140737488355328) :
    Calls Tryz.prog 95 #[.pointer (some ⟨tb, 0, none⟩), .int .u8 (c.toNat : Int)] w (Wrote tb bare (l ++ hexT c) w) := by
  have hlt := h.cells.2
  go_enter Tryz.func95, Tryz.ntmps95
  go_wp2_with fail
  refine (putByte tb bare l _ 120 rfl _ h (by omega)).mono ?_
  rintro e w1 ⟨rfl, h1, hb1⟩
  go_wp2
  have hc := c.toNat_lt
  have q0 : (0 : Int) ≤ (c.toNat : Int) / 16 := by omega
  have q1 : (c.toNat : Int) / 16 < 16 := by omega
  have H1 := Lib.hid h1.drew
  have HB := Lib.hid hb1.drew
  clear h1 hb1
  go_still_tail 6, (by kernel_rfl)
  change wpList _ _ _ _ _ w1.drew
  generalize w1.drew = w2 at H1 HB
  go_wp2_with fail
  refine (putByte tb bare _ _ (hexd (c.toNat / 16)) (hex_index _ _) _ H1.out (by simp; omega)).mono ?_
  rintro e w3 ⟨rfl, h3, hb3⟩
  have H3 := Lib.hid h3.drew
  have HB3 := Lib.hid (HB.out.trans hb3).drew
  clear h3 hb3
  have a15 := and15 c
  have r0 : (0 : Int) ≤ (c.toNat : Int) % 16 := by omega
  have r1 : (c.toNat : Int) % 16 < 16 := by omega
  go_wp2
  go_still_tail 6, (by kernel_rfl)
  change wpList _ _ _ _ _ w3.drew
  generalize w3.drew = w4 at H3 HB3
  go_wp2_with fail
  refine (putByte tb bare _ _ (hexd (c.toNat % 16)) (hex_index _ _) _ H3.out (by simp; omega)).mono ?_
  rintro e w5 ⟨rfl, h5, hb5⟩
  go_wp2
  go_end0
  refine ⟨rfl, ?_, HB3.out.trans hb5⟩
  rw [List.append_assoc, List.append_assoc] at h5
  exact h5

def spaceT : List UInt8 := [115, 112, 97, 99, 101]
def newlineT : List UInt8 := [110, 101, 119, 108, 105, 110, 101]
/-- A character's text. -/
def charT (c : UInt8) : List UInt8 :=
  [35, 92] ++ if c.toNat = 32 then spaceT else if c.toNat = 10 then newlineT else if 32 < c.toNat ∧ c.toNat ≤ 126 then [c] else hexT c
def charS (bare : Bool) (c : UInt8) : List UInt8 := if bare then [c] else charT c

theorem char_any (tb : Nat) (bare : Bool) (l : List UInt8) (c : UInt8) (w : World) (h : IsTeller tb bare l w) (hlen : l.length + 10 ≤ 140737488355328) :
    Calls Tryz.prog 70 #[.pointer (some ⟨tb, 0, none⟩), .int .u8 (c.toNat : Int)] w (Wrote tb bare (l ++ charS bare c) w) := by
  have hc2 := h.cells.1
  cases bare
  · have H := Lib.hid h
    clear h
    by_cases h32 : c.toNat = 32
    · have e : (c.toNat : Int) = 32 := by omega
      have E := Lib.hid h32
      rw [e]
      clear h32 e
      go_enter Tryz.func70, Tryz.ntmps70
      go_wp2_with fail
      refine (putText tb false l _ [35, 92] rfl _ H.out (by simp; omega)).mono ?_
      rintro e w1 ⟨rfl, h1, hb1⟩
      go_wp2_with fail
      refine (putText tb false _ _ spaceT rfl _ h1 (by simp [spaceT]; omega)).mono ?_
      rintro e w2 ⟨rfl, h2, hb2⟩
      go_wp2
      go_end0
      refine ⟨rfl, ?_, hb1.trans hb2⟩
      rw [List.append_assoc] at h2
      simpa [charS, charT, E.out] using h2
    · by_cases h10 : c.toNat = 10
      · have e : (c.toNat : Int) = 10 := by omega
        have E := Lib.hid h10
        rw [e]
        clear h10 e h32
        go_enter Tryz.func70, Tryz.ntmps70
        go_wp2_with fail
        refine (putText tb false l _ [35, 92] rfl _ H.out (by simp; omega)).mono ?_
        rintro e w1 ⟨rfl, h1, hb1⟩
        go_wp2_with fail
        refine (putText tb false _ _ newlineT rfl _ h1 (by simp [newlineT]; omega)).mono ?_
        rintro e w2 ⟨rfl, h2, hb2⟩
        go_wp2
        go_end0
        refine ⟨rfl, ?_, hb1.trans hb2⟩
        rw [List.append_assoc] at h2
        simpa [charS, charT, E.out] using h2
      · have b32 : ((c.toNat : Int) == 32) = false := by simp; omega
        have b10 : ((c.toNat : Int) == 10) = false := by simp; omega
        by_cases hp : 32 < c.toNat ∧ c.toNat ≤ 126
        · obtain ⟨p1, p2⟩ := hp
          have p1' : (32 : Int) < c.toNat := by omega
          have p2' : (c.toNat : Int) ≤ 126 := by omega
          have ht : charS false c = [35, 92] ++ [c] := by simp [charS, charT, h32, h10, p1, p2]
          have HT := Lib.hid ht
          clear ht h32 h10
          go_enter Tryz.func70, Tryz.ntmps70
          go_wp2_with fail
          refine (putText tb false l _ [35, 92] rfl _ H.out (by simp; omega)).mono ?_
          rintro e w1 ⟨rfl, h1, hb1⟩
          go_wp2_with fail
          refine (putByte tb false _ _ c rfl _ h1 (by simp; omega)).mono ?_
          rintro e w2 ⟨rfl, h2, hb2⟩
          go_wp2
          go_end0
          refine ⟨rfl, ?_, hb1.trans hb2⟩
          rw [List.append_assoc] at h2
          rw [HT.out]; exact h2
        · have ht : charS false c = [35, 92] ++ hexT c := by
            have : ¬ (32 < c.toNat ∧ c.toNat ≤ 126) := hp
            simp [charS, charT, h32, h10]
            omega
          have HT := Lib.hid ht
          clear ht h32 h10
          by_cases p1 : 32 < c.toNat
          · have p1' : (32 : Int) < c.toNat := by omega
            have p2' : ¬ (c.toNat : Int) ≤ 126 := by omega
            clear hp
            go_enter Tryz.func70, Tryz.ntmps70
            go_wp2_with fail
            refine (putText tb false l _ [35, 92] rfl _ H.out (by simp; omega)).mono ?_
            rintro e w1 ⟨rfl, h1, hb1⟩
            go_wp2_with fail
            refine (hex_any tb false _ c _ h1 (by simp; omega)).mono ?_
            rintro e w2 ⟨rfl, h2, hb2⟩
            go_wp2
            go_end0
            refine ⟨rfl, ?_, hb1.trans hb2⟩
            rw [List.append_assoc] at h2
            rw [HT.out]; exact h2
          · have p1' : ¬ (32 : Int) < c.toNat := by omega
            clear hp
            go_enter Tryz.func70, Tryz.ntmps70
            go_wp2_with fail
            refine (putText tb false l _ [35, 92] rfl _ H.out (by simp; omega)).mono ?_
            rintro e w1 ⟨rfl, h1, hb1⟩
            go_wp2_with fail
            refine (hex_any tb false _ c _ h1 (by simp; omega)).mono ?_
            rintro e w2 ⟨rfl, h2, hb2⟩
            go_wp2
            go_end0
            refine ⟨rfl, ?_, hb1.trans hb2⟩
            rw [List.append_assoc] at h2
            rw [HT.out]; exact h2
  · go_enter Tryz.func70, Tryz.ntmps70
    go_wp2_with fail
    refine (putByte tb true _ _ c rfl _ h (by omega)).mono ?_
    rintro e w2 ⟨rfl, h2, hb2⟩
    go_wp2
    refine bodyPost_ret (results_none rfl _ _ _) rfl ?_
    exact ⟨rfl, h2, hb2⟩

/-- A byte of a string's text. -/
def qbyteT (c : UInt8) : List UInt8 :=
  if c.toNat = 34 ∨ c.toNat = 92 then [92, c] else if c.toNat = 10 then [92, 110] else if 32 ≤ c.toNat ∧ c.toNat ≤ 126 then [c] else 92 :: hexT c

theorem qbyte_any (tb : Nat) (bare : Bool) (l : List UInt8) (c : UInt8) (w : World) (h : IsTeller tb bare l w) (hlen : l.length + 4 ≤ 140737488355328) :
    Calls Tryz.prog 96 #[.pointer (some ⟨tb, 0, none⟩), .int .u8 (c.toNat : Int)] w (Wrote tb bare (l ++ qbyteT c) w) := by
  by_cases hq : c.toNat = 34 ∨ c.toNat = 92
  · have ht : qbyteT c = [92] ++ [c] := by rw [qbyteT, if_pos hq]; rfl
    have HT := Lib.hid ht
    clear ht
    rcases hq with hq | hq
    · have b34 : ((c.toNat : Int) == 34) = true := by simp; omega
      clear hq
      go_enter Tryz.func96, Tryz.ntmps96
      go_wp2_with fail
      refine (putByte tb bare l _ 92 rfl _ h (by omega)).mono ?_
      rintro e w1 ⟨rfl, h1, hb1⟩
      go_wp2_with fail
      refine (putByte tb bare _ _ c rfl _ h1 (by simp; omega)).mono ?_
      rintro e w2 ⟨rfl, h2, hb2⟩
      go_wp2
      go_end0
      refine ⟨rfl, ?_, hb1.trans hb2⟩
      rw [List.append_assoc] at h2
      rw [HT.out]; exact h2
    · have b34 : ((c.toNat : Int) == 34) = false := by simp; omega
      have b92 : ((c.toNat : Int) == 92) = true := by simp; omega
      clear hq
      go_enter Tryz.func96, Tryz.ntmps96
      go_wp2_with fail
      refine (putByte tb bare l _ 92 rfl _ h (by omega)).mono ?_
      rintro e w1 ⟨rfl, h1, hb1⟩
      go_wp2_with fail
      refine (putByte tb bare _ _ c rfl _ h1 (by simp; omega)).mono ?_
      rintro e w2 ⟨rfl, h2, hb2⟩
      go_wp2
      go_end0
      refine ⟨rfl, ?_, hb1.trans hb2⟩
      rw [List.append_assoc] at h2
      rw [HT.out]; exact h2
  · have b34 : ((c.toNat : Int) == 34) = false := by simp; omega
    have b92 : ((c.toNat : Int) == 92) = false := by simp; omega
    by_cases h10 : c.toNat = 10
    · have b10 : ((c.toNat : Int) == 10) = true := by simp; omega
      have ht : qbyteT c = [92, 110] := by rw [qbyteT, if_neg hq, if_pos h10]
      have HT := Lib.hid ht
      clear ht h10 hq
      go_enter Tryz.func96, Tryz.ntmps96
      go_wp2_with fail
      refine (putText tb bare l _ [92, 110] rfl _ h (by simp; omega)).mono ?_
      rintro e w1 ⟨rfl, h1, hb1⟩
      go_wp2
      go_end0
      refine ⟨rfl, ?_, hb1⟩
      rw [HT.out]; exact h1
    · have b10 : ((c.toNat : Int) == 10) = false := by simp; omega
      by_cases hp : 32 ≤ c.toNat ∧ c.toNat ≤ 126
      · have ht : qbyteT c = [c] := by rw [qbyteT, if_neg hq, if_neg h10, if_pos hp]
        have HT := Lib.hid ht
        obtain ⟨p1, p2⟩ := hp
        have p1' : (32 : Int) ≤ c.toNat := by omega
        have p2' : (c.toNat : Int) ≤ 126 := by omega
        clear ht h10 hq
        go_enter Tryz.func96, Tryz.ntmps96
        go_wp2_with fail
        refine (putByte tb bare l _ c rfl _ h (by omega)).mono ?_
        rintro e w1 ⟨rfl, h1, hb1⟩
        go_wp2
        go_end0
        refine ⟨rfl, ?_, hb1⟩
        rw [HT.out]; exact h1
      · have ht : qbyteT c = [92] ++ hexT c := by rw [qbyteT, if_neg hq, if_neg h10, if_neg hp]; rfl
        have HT := Lib.hid ht
        clear ht h10 hq
        by_cases p1 : 32 ≤ c.toNat
        · have p1' : (32 : Int) ≤ c.toNat := by omega
          have p2' : ¬ (c.toNat : Int) ≤ 126 := by omega
          clear hp
          go_enter Tryz.func96, Tryz.ntmps96
          go_wp2_with fail
          refine (putByte tb bare l _ 92 rfl _ h (by omega)).mono ?_
          rintro e w1 ⟨rfl, h1, hb1⟩
          go_wp2_with fail
          refine (hex_any tb bare _ c _ h1 (by simp; omega)).mono ?_
          rintro e w2 ⟨rfl, h2, hb2⟩
          go_wp2
          go_end0
          refine ⟨rfl, ?_, hb1.trans hb2⟩
          rw [List.append_assoc] at h2
          rw [HT.out]; exact h2
        · have p1' : ¬ (32 : Int) ≤ c.toNat := by omega
          clear hp
          go_enter Tryz.func96, Tryz.ntmps96
          go_wp2_with fail
          refine (putByte tb bare l _ 92 rfl _ h (by omega)).mono ?_
          rintro e w1 ⟨rfl, h1, hb1⟩
          go_wp2_with fail
          refine (hex_any tb bare _ c _ h1 (by simp; omega)).mono ?_
          rintro e w2 ⟨rfl, h2, hb2⟩
          go_wp2
          go_end0
          refine ⟨rfl, ?_, hb1.trans hb2⟩
          rw [List.append_assoc] at h2
          rw [HT.out]; exact h2
end Go.Proofs.YtiamojpeedllbaaGreatDoor.Dat
