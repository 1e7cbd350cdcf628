/-
The document's Do up to its switch. No condition but that its heap lies in memory.
-/
import Derived.Test.YtpejhilfopjckaaDoorQ64
import Derived.Test.YtpejhilfopjckaaDoorQGd
namespace Go.Proofs.YtpejhilfopjckaaDoor.Hp
open Go.ChangeShapes Go.WideShapes Go.ChangeAt Go.RowKit Go.Deep
open Dat (PT ok64 RepV RepS RowX infoDatum)
set_option maxRecDepth 1000000

/-- The last row of the first n that has this name; -1: there is none. -/
def idxP (prim : ByteArray) : Nat → Int
  | 0 => -1
  | j + 1 => if (match rowsP[j]? with | some r => r.1.toList == prim.toList | none => false) = true then (j : Int) else idxP prim j
/-- Is a value what a row asks for? -/
def isR (T : List (Int × List PV)) (v : PV) (k : Int) : Bool := if 10 ≤ k then kindR T v == k - 10 else if 0 ≤ k then v.k == k else true
def allR (T : List (Int × List PV)) : List Int → List PV → Bool
  | q :: ws, v :: l => isR T v q && allR T ws l
  | _, _ => true
theorem allR_iff {T : List (Int × List PV)} : ∀ {ws : List Int} {l : List PV}, ws.length = l.length → (allR T ws l = true ↔ ∀ (j : Nat) (h : j < l.length) (h' : j < ws.length), isR T l[j] ws[j] = true)
  | [], [], _ => by simp [allR]
  | q :: ws, v :: l, h => by
    have ih := allR_iff (T := T) (ws := ws) (l := l) (by simpa using h)
    rw [allR, Bool.and_eq_true, ih]
    constructor
    · rintro ⟨h1, h2⟩ j hj hj'
      match j with
      | 0 => exact h1
      | j + 1 => exact h2 j (by simpa using hj) (by simpa using hj')
    · intro h
      exact ⟨h 0 (by simp) (by simp), fun j hj hj' => h (j + 1) (by simpa using hj) (by simpa using hj')⟩
  | [], v :: l, h => by simp at h
  | q :: ws, [], h => by simp at h
/-- What the document makes of a primitive that asks for ws and then has r. -/
def doR (T : List (Int × List PV)) (ws : List Int) (l : List PV) (r : PV × Int × List (Int × List PV)) : PV × Int × List (Int × List PV) :=
  if ws.length = l.length then (if l.all (hasB T.length) = true then (if allR T ws l = true then r else (⟨0, 0, ⟨#[]⟩⟩, 80, T)) else (⟨0, 0, ⟨#[]⟩⟩, 1, T)) else (⟨0, 0, ⟨#[]⟩⟩, 1, T)
def sndN : Nat → Code → Code
  | 0, c => c
  | n + 1, .seq _ b => sndN n b
  | _ + 1, c => c
/-- The document's Do from where a, b, c are laid. -/
noncomputable def tailD : Code := sndN 7 ((Tryd.f11.body).getD .skip)
/-- What the rest of Do makes. -/
def TailOk (prim : ByteArray) (l : List PV) (r : PV × Int × List (Int × List PV)) (hb : Nat) (T : List (Int × List PV)) (F : Nat → Prop) : Prop :=
  ∀ (w W : World) (R : Nat) (S : Nat → Prop) (a : Option Addr) (c : Nat) (u3 u4 u5 u7 u8 u9 u10 u11 u12 u13 u14 u15 u16 u17 u18 u19 u20 u21 u22 u23 u24 u25 u26 u27 u28 u29 u30 u31 u32 u33 u34 u35 u36 u37 u38 u39 u40 u41 u42 u43 u44 u45 u46 u47 u48 u49 u50 u51 u52 u53 u54 u55 u56 u57 u58 u59 u60 u61 u62 u63 u64 u65 u66 u67 u68 u69 u70 u71 u72 u73 u74 u75 u76 u77 u78 u79 u80 u81 u82 u83 u84 u85 u86 u87 u88 u89 u90 u91 u92 u93 u94 u95 u96 u97 u98 u99 u100 u101 u102 u103 u104 u105 u106 u107 u108 u109 u110 u111 u112 u113 u114 u115 u116 u117 u118 u119 u120 u121 u122 u123 u124 u125 u126 u127 u128 u129 u130 u131 u132 u133 u134 u135 u136 u137 u138 u139 u140 u141 u142 u143 u144 u145 u146 u147 u148 u149 u150 u151 u152 u153 u154 u155 u156 u157 u158 u159 u160 u161 u162 u163 u164 u165 u166 u167 u168 u169 u170 u171 u172 u173 u174 u175 u176 u177 u178 u179 u180 u181 u182 u183 u184 u185 u186 u187 u188 u189 u190 u191 u192 u193 u194 u195 u196 u197 u198 u199 u200 u201 u202 u203 u204 u205 u206 u207 u208 u209 u210 u211 u212 u213 u214 u215 u216 u217 u218 u219 u220 u221 u222 u223 u224 u225 u226 u227 u228 u229 u230 u231 u232 u233 u234 u235 u236 u237 u238 u239 u240 u241 u242 u243 u244 u245 u246 u247 u248 u249 u250 u251 u252 u253 u254 u255 u256 u257 u258 u259 u260 u261 u262 u263 u264 u265 u266 u267 u268 u269 u270 u271 u272 u273 u274 u275 u276 u277 u278 u279 u280 u281 u282 u283 u284 u285 u286 u287 u288 u289 u290 u291 u292 u293 u294 u295 u296 u297 u298 u299 u300 u301 u302 u303 u304 u305 u306 u307 u308 u309 u310 u311 u312 u313 u314 u315 u316 u317 u318 u319 u320 u321 u322 u323 u324 u325 u326 u327 u328 u329 u330 u331 u332 u333 u334 u335 u336 u337 u338 u339 u340 u341 u342 u343 u344 u345 u346 u347 u348 u349 u350 u351 u352 u353 u354 u355 u356 u357 u358 u359 u360 : Value), HeapR w hb T F → (∀ b, F b → b < w.heap.size) → Below w.heap.size w W → w.heap.size ≤ R →
    W.heap[R]? = some (.cells #[.int .i64 0, .int .i64 0, .string ⟨#[]⟩] 36 (0, 0)) → InP W S l (.slice a l.length c) →
    Code.wp Tryd.prog tailD (bodyPost Tryd.prog Tryd.f11 (fun e w' => DoR w hb F r.1 r.2.1 r.2.2 e w')) { tmps := List.toArray ((.pointer (some ⟨hb, 0, none⟩)) :: (.string prim) :: (.slice a l.length c) :: u3 :: u4 :: u5 :: (.pointer (some ⟨R, 0, none⟩)) :: u7 :: u8 :: u9 :: u10 :: u11 :: u12 :: u13 :: u14 :: u15 :: u16 :: u17 :: u18 :: u19 :: u20 :: u21 :: u22 :: u23 :: u24 :: u25 :: u26 :: u27 :: u28 :: u29 :: u30 :: u31 :: u32 :: u33 :: u34 :: u35 :: u36 :: u37 :: u38 :: u39 :: u40 :: u41 :: u42 :: u43 :: u44 :: u45 :: u46 :: u47 :: u48 :: u49 :: u50 :: u51 :: u52 :: u53 :: u54 :: u55 :: u56 :: u57 :: u58 :: u59 :: u60 :: u61 :: u62 :: u63 :: u64 :: u65 :: u66 :: u67 :: u68 :: u69 :: u70 :: u71 :: u72 :: u73 :: u74 :: u75 :: u76 :: u77 :: u78 :: u79 :: u80 :: u81 :: u82 :: u83 :: u84 :: u85 :: u86 :: u87 :: u88 :: u89 :: u90 :: u91 :: u92 :: u93 :: u94 :: u95 :: u96 :: u97 :: u98 :: u99 :: u100 :: u101 :: u102 :: u103 :: u104 :: u105 :: u106 :: u107 :: u108 :: u109 :: u110 :: u111 :: u112 :: u113 :: u114 :: u115 :: u116 :: u117 :: u118 :: u119 :: u120 :: u121 :: u122 :: u123 :: u124 :: u125 :: u126 :: u127 :: u128 :: u129 :: u130 :: u131 :: u132 :: u133 :: u134 :: u135 :: u136 :: u137 :: u138 :: u139 :: u140 :: u141 :: u142 :: u143 :: u144 :: u145 :: u146 :: u147 :: u148 :: u149 :: u150 :: u151 :: u152 :: u153 :: u154 :: u155 :: u156 :: u157 :: u158 :: u159 :: u160 :: u161 :: u162 :: u163 :: u164 :: u165 :: u166 :: u167 :: u168 :: u169 :: u170 :: u171 :: u172 :: u173 :: u174 :: u175 :: u176 :: u177 :: u178 :: u179 :: u180 :: u181 :: u182 :: u183 :: u184 :: u185 :: u186 :: u187 :: u188 :: u189 :: u190 :: u191 :: u192 :: u193 :: u194 :: u195 :: u196 :: u197 :: u198 :: u199 :: u200 :: u201 :: u202 :: u203 :: u204 :: u205 :: u206 :: u207 :: u208 :: u209 :: u210 :: u211 :: u212 :: u213 :: u214 :: u215 :: u216 :: u217 :: u218 :: u219 :: u220 :: u221 :: u222 :: u223 :: u224 :: u225 :: u226 :: u227 :: u228 :: u229 :: u230 :: u231 :: u232 :: u233 :: u234 :: u235 :: u236 :: u237 :: u238 :: u239 :: u240 :: u241 :: u242 :: u243 :: u244 :: u245 :: u246 :: u247 :: u248 :: u249 :: u250 :: u251 :: u252 :: u253 :: u254 :: u255 :: u256 :: u257 :: u258 :: u259 :: u260 :: u261 :: u262 :: u263 :: u264 :: u265 :: u266 :: u267 :: u268 :: u269 :: u270 :: u271 :: u272 :: u273 :: u274 :: u275 :: u276 :: u277 :: u278 :: u279 :: u280 :: u281 :: u282 :: u283 :: u284 :: u285 :: u286 :: u287 :: u288 :: u289 :: u290 :: u291 :: u292 :: u293 :: u294 :: u295 :: u296 :: u297 :: u298 :: u299 :: u300 :: u301 :: u302 :: u303 :: u304 :: u305 :: u306 :: u307 :: u308 :: u309 :: u310 :: u311 :: u312 :: u313 :: u314 :: u315 :: u316 :: u317 :: u318 :: u319 :: u320 :: u321 :: u322 :: u323 :: u324 :: u325 :: u326 :: u327 :: u328 :: u329 :: u330 :: u331 :: u332 :: u333 :: u334 :: u335 :: u336 :: u337 :: u338 :: u339 :: u340 :: u341 :: u342 :: u343 :: u344 :: u345 :: u346 :: u347 :: u348 :: u349 :: u350 :: u351 :: u352 :: u353 :: u354 :: u355 :: u356 :: u357 :: u358 :: u359 :: u360 :: []), defers := [] } W
set_option maxHeartbeats 8000000 in
theorem rdo_none (prim : ByteArray) (hidx : idxP prim 38 = -1) (l : List PV) (v : Value) (S : Nat → Prop) (hb : Nat) (T : List (Int × List PV)) (F : Nat → Prop) (w : World) (h : HeapR w hb T F) (hp : InP w S l v) :
    Calls Tryd.prog 11 #[.pointer (some ⟨hb, 0, none⟩), .string prim, v] w fun e w' => DoR w hb F ⟨0, 0, ⟨#[]⟩⟩ 1 T e w' := by
  have HI := Lib.hid hidx
  have HH := Lib.hid h
  obtain ⟨a, c, rfl, -⟩ := hp
  have Z := Lib.hid (heap_alloc_new w (.cells #[.int .i64 0, .int .i64 0, .string ⟨#[]⟩] 36))
  have B0 := Lib.hid ((Below.refl w.heap.size w).alloc (Nat.le_refl _) (.cells #[.int .i64 0, .int .i64 0, .string ⟨#[]⟩] 36))
  have hs0 := size_new w (.cells #[.int .i64 0, .int .i64 0, .string ⟨#[]⟩] 36)
  have KR := Lib.hid (fun W => rows_any W)
  clear hidx h
  go_enter Tryd.func11, Tryd.ntmps11
  go_wp2_with fail
  generalize w.alloc (.cells #[.int .i64 0, .int .i64 0, .string ⟨#[]⟩] 36) = w0 at *
  refine (KR.out _).mono ?_
  rintro e w1 ⟨⟨b, rfl, htab⟩, hb1⟩
  have HT := Lib.hid htab
  have B1 := Lib.hid (B0.out.trans (hb1.mono B0.out.size))
  have Z1 := Lib.hid ((hb1.block w.heap.size (by omega)).trans Z.out)
  clear htab hb1 KR
  go_wp2
  go_loop [9, 10] (fun q i => ∃ j : Nat, j ≤ 38 ∧ i = .int .i64 j ∧ q = .int .i64 (idxP prim j)) (fun _ i => 38 - (intOf i).toNat)
  case atStart => exact ⟨0, Nat.zero_le _, rfl, rfl⟩
  case round =>
    obtain ⟨j, hj, rfl, rfl⟩ := hrel
    by_cases hlt : j < 38
    · have hi1 : (j : Int) < 38 := by omega
      obtain ⟨c0, -⟩ := HT.out j hlt
      have HX : Hid (idxP prim (j + 1) = if (rowsP[j].1.toList == prim.toList) = true then (j : Int) else idxP prim j) := Lib.hid (by
        show (if (match rowsP[j]? with | some r => r.1.toList == prim.toList | none => false) = true then (j : Int) else idxP prim j) = _
        rw [List.getElem?_eq_getElem hlt])
      generalize rowsP[j].1 = sj at c0 HX
      generalize idxP prim j = qj at *
      by_cases he : (sj.toList == prim.toList) = true
      · rw [he] at HX
        go_wp2
        exact ⟨⟨j + 1, by omega, by go_num, by rw [HX.out]; rfl⟩, by simp [intOf]; omega⟩
      · have he' : (sj.toList == prim.toList) = false := by simpa using he
        rw [he'] at HX
        clear he
        go_wp2
        exact ⟨⟨j + 1, by omega, by go_num, by rw [HX.out]; rfl⟩, by simp [intOf]; omega⟩
    · obtain rfl : j = 38 := by omega
      rw [HI.out]
      obtain ⟨⟨y0, y1, y2⟩, f0, f1, f2⟩ := look3 Z1.out
      go_wp2
      exact bodyPost_ret (res_ve (t := 7) (p := 6) rfl _ _ w.heap.size _ _ _ rfl (put3 Z1.out _ _ _)) rfl (DoR.of HH.out rfl (put3_below B1.out (Nat.le_refl _) _ _ _))
set_option maxHeartbeats 16000000 in
theorem rdo_any (prim : ByteArray) (ws : List Int) (idx : Nat) (hlt : idx < 38) (hrow : rowsP[idx]? = some (prim, ws)) (hidx : idxP prim 38 = idx) (hws : ∀ q ∈ ws, -1 ≤ q ∧ q ≤ 13) (l : List PV) (v : Value) (S : Nat → Prop) (hb : Nat) (T : List (Int × List PV)) (F : Nat → Prop) (w : World) (r : PV × Int × List (Int × List PV))
    (h : HeapR w hb T F) (hF : ∀ b, F b → b < w.heap.size) (hp : InP w S l v) (hwl : ws.length ≤ 1000)
    (hd : l.all (hasB T.length) = true → ws.length = l.length → allR T ws l = true → TailOk prim l r hb T F) :
    Calls Tryd.prog 11 #[.pointer (some ⟨hb, 0, none⟩), .string prim, v] w fun e w' => DoR w hb F (doR T ws l r).1 (doR T ws l r).2.1 (doR T ws l r).2.2 e w' := by
  have HI := Lib.hid hidx
  have HH := Lib.hid h
  have HF := Lib.hid hF
  have HP := Lib.hid hp
  have HD := Lib.hid hd
  have HROW := Lib.hid hrow
  have HWS := Lib.hid hws
  have HR : Hid (doR T ws l r = if ws.length = l.length then (if l.all (hasB T.length) = true then (if allR T ws l = true then r else (⟨0, 0, ⟨#[]⟩⟩, 80, T)) else (⟨0, 0, ⟨#[]⟩⟩, 1, T)) else (⟨0, 0, ⟨#[]⟩⟩, 1, T)) := Lib.hid rfl
  generalize doR T ws l r = q at HR
  obtain ⟨a, c, rfl, h1, h2, -, -⟩ := hp
  unfold maxLen at h2
  have Z := Lib.hid (heap_alloc_new w (.cells #[.int .i64 0, .int .i64 0, .string ⟨#[]⟩] 36))
  have B0 := Lib.hid ((Below.refl w.heap.size w).alloc (Nat.le_refl _) (.cells #[.int .i64 0, .int .i64 0, .string ⟨#[]⟩] 36))
  have hs0 := size_new w (.cells #[.int .i64 0, .int .i64 0, .string ⟨#[]⟩] 36)
  have KR := Lib.hid (fun W => rows_any W)
  clear hidx h hF hd hrow hws
  go_enter Tryd.func11, Tryd.ntmps11
  go_wp2_with fail
  generalize w.alloc (.cells #[.int .i64 0, .int .i64 0, .string ⟨#[]⟩] 36) = w0 at *
  refine (KR.out _).mono ?_
  rintro e w1 ⟨⟨b, rfl, htab⟩, hb1⟩
  have HT := Lib.hid htab
  have B1 := Lib.hid (B0.out.trans (hb1.mono B0.out.size))
  have Z1 := Lib.hid ((hb1.block w.heap.size (by omega)).trans Z.out)
  have hs1 : w.heap.size + 1 ≤ w1.heap.size := by have := hb1.size; omega
  clear htab hb1 KR
  go_wp2
  go_loop [9, 10] (fun q i => ∃ j : Nat, j ≤ 38 ∧ i = .int .i64 j ∧ q = .int .i64 (idxP prim j)) (fun _ i => 38 - (intOf i).toNat)
  case atStart => exact ⟨0, Nat.zero_le _, rfl, rfl⟩
  case round =>
    obtain ⟨j, hj, rfl, rfl⟩ := hrel
    by_cases hlt : j < 38
    · have hi1 : (j : Int) < 38 := by omega
      obtain ⟨c0, -⟩ := HT.out j hlt
      have HX : Hid (idxP prim (j + 1) = if (rowsP[j].1.toList == prim.toList) = true then (j : Int) else idxP prim j) := Lib.hid (by
        show (if (match rowsP[j]? with | some r => r.1.toList == prim.toList | none => false) = true then (j : Int) else idxP prim j) = _
        rw [List.getElem?_eq_getElem hlt])
      generalize rowsP[j].1 = sj at c0 HX
      generalize idxP prim j = qj at *
      by_cases he : (sj.toList == prim.toList) = true
      · rw [he] at HX
        go_wp2
        exact ⟨⟨j + 1, by omega, by go_num, by rw [HX.out]; rfl⟩, by simp [intOf]; omega⟩
      · have he' : (sj.toList == prim.toList) = false := by simpa using he
        rw [he'] at HX
        clear he
        go_wp2
        exact ⟨⟨j + 1, by omega, by go_num, by rw [HX.out]; rfl⟩, by simp [intOf]; omega⟩
    · obtain rfl : j = 38 := by omega
      rw [HI.out]
      obtain ⟨⟨y0, y1, y2⟩, f0, f1, f2⟩ := look3 Z1.out
      obtain ⟨hlr, hre⟩ := List.getElem?_eq_some_iff.1 HROW.out
      obtain ⟨-, ra, c1, c2⟩ := HT.out idx hlr
      rw [hre] at c1 c2
      dsimp only at c1 c2
      have HC2 := Lib.hid c2
      have hx0 : (0 : Int) ≤ (idx : Int) := by omega
      have hx1 : (idx : Int) < 38 := by omega
      have hx2 : ¬ (idx : Int) < 0 := by omega
      clear HT HROW hre hlr c2 HI
      by_cases hlen : ws.length = l.length
      · have HLEN := Lib.hid hlen
        have hR1 : Hid (q = if l.all (hasB T.length) = true then (if allR T ws l = true then r else (⟨0, 0, ⟨#[]⟩⟩, 80, T)) else (⟨0, 0, ⟨#[]⟩⟩, 1, T)) := Lib.hid (by rw [HR.out, if_pos hlen])
        rw [hlen] at c1
        have HC1 := Lib.hid c1
        clear hlen HR
        go_wp2
        clear y0 y1 y2 f0 f1 f2 c1
        go_loopw [11] (fun x wr => ∃ j : Nat, j ≤ l.length ∧ x = .int .i64 j ∧ (∀ t ∈ l.take j, hasB T.length t = true) ∧ Below w1.heap.size w1 wr) (fun x _ => l.length - (intOf x).toNat)
        case atStart => exact ⟨0, Nat.zero_le _, rfl, (fun t ht => by simp at ht), Below.refl _ _⟩
        case round =>
          obtain ⟨j, hj, rfl, hok, hbr⟩ := hrel
          have HOK := Lib.hid hok
          have HBR := Lib.hid hbr
          have B2 := Lib.hid (B1.out.trans (hbr.mono B1.out.size))
          have Z2 := Lib.hid ((hbr.block w.heap.size (by omega)).trans Z1.out)
          have hs2 : w.heap.size + 1 ≤ wr.heap.size := by have := hbr.size; omega
          clear hok hbr
          by_cases hlt : j < l.length
          · obtain ⟨bb, o, c', ea, hsb, hbl, hv⟩ := HP.out.cells (by rintro rfl; cases hlt)
            cases ea
            obtain ⟨v0, v1, v2, vok⟩ := hv.item j hlt
            replace v0 := (B2.out.cell (p := ⟨bb, o + j * 3, none⟩) hbl).trans v0
            replace v1 := (B2.out.cell (p := ⟨bb, o + j * 3 + 1, none⟩) hbl).trans v1
            replace v2 := (B2.out.cell (p := ⟨bb, o + j * 3 + 2, none⟩) hbl).trans v2
            have HX := Lib.hid (all_take (p := hasB T.length) hlt HOK.out)
            have HN : Hid (hasB T.length l[j] = false → l.all (hasB T.length) = false) := Lib.hid (fun h => by
              cases e : l.all (hasB T.length) with
              | false => rfl
              | true => rw [List.all_eq_true.1 e _ (List.getElem_mem hlt)] at h; cases h)
            have hi1 : (j : Int) < (l.length : Int) := by omega
            generalize l[j] = t at v0 v1 v2 vok HX HN
            obtain ⟨tk, ti, ts⟩ := t
            dsimp only at v0 v1 v2
            have KM := Lib.hid (rmay_any tk ti ts hb T.length wr vok.2.2 (LenM.below HH.out.len B2.out))
            clear hv vok hsb
            by_cases hm : hasB T.length ⟨tk, ti, ts⟩ = true
            · rw [hm] at KM
              have HX1 := Lib.hid (HX.out hm)
              clear hm HX HN
              go_wp2_with fail
              refine KM.out.mono ?_
              rintro e w3 ⟨rfl, hb3⟩
              go_wp2
              exact ⟨⟨j + 1, by omega, by go_num, HX1.out, HBR.out.trans (hb3.mono HBR.out.size)⟩, by simp [intOf]; omega⟩
            · have hm' : hasB T.length ⟨tk, ti, ts⟩ = false := by simpa using hm
              rw [hm'] at KM
              have HQ : Hid (q = (⟨0, 0, ⟨#[]⟩⟩, 1, T)) := Lib.hid (by rw [hR1.out, HN.out hm', if_neg (by decide)])
              clear hm hm' HX HN
              go_wp2_with fail
              refine KM.out.mono ?_
              rintro e w3 ⟨rfl, hb3⟩
              have Z3 := (hb3.block w.heap.size (by omega)).trans Z2.out
              have HZ3 := Lib.hid Z3
              have B3 := Lib.hid (B2.out.trans (hb3.mono B2.out.size))
              obtain ⟨⟨y0, y1, y2⟩, f0, f1, f2⟩ := look3 Z3
              clear Z3 hb3
              go_wp2
              exact bodyPost_ret (res_ve (t := 7) (p := 6) rfl _ _ w.heap.size _ _ _ rfl (put3 HZ3.out _ _ _)) rfl (by rw [HQ.out]; exact DoR.of HH.out rfl (put3_below B3.out (Nat.le_refl _) _ _ _))
          · have hje : j = l.length := by omega
            have HALL : Hid (l.all (hasB T.length) = true) := Lib.hid (List.all_eq_true.2 fun t ht => HOK.out t (by rw [hje, List.take_length]; exact ht))
            have hi1 : ¬ (j : Int) < (l.length : Int) := by omega
            have HR2 : Hid (q = if allR T ws l = true then r else (⟨0, 0, ⟨#[]⟩⟩, 80, T)) := Lib.hid (by rw [hR1.out, if_pos HALL.out])
            have HB2 := Lib.hid B2.out
            clear HOK hje hj
            go_wp2
            rename_i KT hKT
            replace hKT := Lib.hid hKT
            obtain ⟨wm, hwm⟩ : ∃ wm, wm = wr := ⟨_, rfl⟩
            subst hwm
            go_loopw [12] (fun x wr => ∃ j : Nat, j ≤ l.length ∧ x = .int .i64 j ∧ (∀ (k : Nat) (hk : k < l.length) (hk' : k < ws.length), k < j → isR T l[k] ws[k] = true) ∧ Below wm.heap.size wm wr) (fun x _ => l.length - (intOf x).toNat)
            case atStart => exact ⟨0, Nat.zero_le _, rfl, (fun k _ _ h => by omega), Below.refl _ _⟩
            case round =>
              obtain ⟨j, hj, rfl, hok, hbr⟩ := hrel
              have HOK := Lib.hid hok
              have HBM := Lib.hid hbr
              have B3 := Lib.hid (HB2.out.trans (hbr.mono HB2.out.size))
              have B13 := Lib.hid (HBR.out.trans (hbr.mono HBR.out.size))
              have Z3 := Lib.hid ((hbr.block w.heap.size (by omega)).trans Z2.out)
              have hs3 : w.heap.size + 1 ≤ wr.heap.size := by have := hbr.size; omega
              clear hok hbr
              by_cases hlt : j < l.length
              · obtain ⟨bb, o, c', ea, hsb, hbl, hv⟩ := HP.out.cells (by rintro rfl; cases hlt)
                cases ea
                obtain ⟨v0, v1, v2, vok⟩ := hv.item j hlt
                replace v0 := (B3.out.cell (p := ⟨bb, o + j * 3, none⟩) hbl).trans v0
                replace v1 := (B3.out.cell (p := ⟨bb, o + j * 3 + 1, none⟩) hbl).trans v1
                replace v2 := (B3.out.cell (p := ⟨bb, o + j * 3 + 2, none⟩) hbl).trans v2
                have hjw : j < ws.length := by rw [HLEN.out]; exact hlt
                obtain ⟨gw, rfl, hgw⟩ := HC2.out.resolve_left (by rintro rfl; cases hjw)
                have d1 := (B13.out.cell (p := ⟨b, idx * 2 + 1, none⟩) (World.block_lt_of_cell? _ _ HC1.out)).trans HC1.out
                have d2 := (B13.out.cell (p := ⟨gw, j, none⟩) (World.block_lt_of_cell? _ _ (hgw j hjw))).trans (hgw j hjw)
                have hin := inT_of (List.all_eq_true.1 HALL.out l[j] (List.getElem_mem hlt))
                have HX : Hid (isR T l[j] ws[j] = true → ∀ (k : Nat) (hk : k < l.length) (hk' : k < ws.length), k < j + 1 → isR T l[k] ws[k] = true) := Lib.hid fun h k hk hk' hkj => by
                  rcases Nat.lt_or_ge k j with h' | h'
                  · exact HOK.out k hk hk' h'
                  · obtain rfl : k = j := by omega
                    exact h
                have HN : Hid (isR T l[j] ws[j] = false → q = (⟨0, 0, ⟨#[]⟩⟩, 80, T)) := Lib.hid fun h => by
                  rw [HR2.out, if_neg]
                  intro h'
                  rw [(allR_iff HLEN.out).1 h' j hlt hjw] at h
                  cases h
                obtain ⟨kq0, kq1⟩ := HWS.out _ (List.getElem_mem hjw)
                have hi1 : (j : Int) < (l.length : Int) := by omega
                generalize ws[j] = kq at d2 HX HN kq0 kq1
                generalize l[j] = t at v0 v1 v2 vok HX HN hin
                obtain ⟨tk, ti, ts⟩ := t
                dsimp only at v0 v1 v2
                clear hv vok hsb hgw
                by_cases k10 : 10 ≤ kq
                · have e10 : decide (10 ≤ kq) = true := decide_eq_true k10
                  have e9 : decide (kq < 10) = false := decide_eq_false (by omega)
                  have KK := Lib.hid (rkind_any tk ti ts hb T F wr (HH.out.below B3.out) hin)
                  have HE : Hid (isR T ⟨tk, ti, ts⟩ kq = (kindR T ⟨tk, ti, ts⟩ == kq - 10)) := Lib.hid (if_pos k10)
                  generalize kindR T ⟨tk, ti, ts⟩ = kr at KK HE
                  by_cases hm : kr = kq - 10
                  · have hm1 : (kr != kq - 10) = false := by simp [hm]
                    have HX1 := Lib.hid (HX.out (by rw [HE.out]; simp [hm]))
                    clear HX HN HE hm hin
                    go_wp2_with fail
                    refine KK.out.mono ?_
                    rintro e w3 ⟨rfl, hb3⟩
                    go_wp2
                    exact ⟨⟨j + 1, by omega, by go_num, HX1.out, HBM.out.trans (hb3.mono HBM.out.size)⟩, by simp [intOf]; omega⟩
                  · have hm1 : (kr != kq - 10) = true := by simp [hm]
                    have HQ := Lib.hid (HN.out (by rw [HE.out]; simp [hm]))
                    clear HX HN HE hm hin
                    go_wp2_with fail
                    refine KK.out.mono ?_
                    rintro e w3 ⟨rfl, hb3⟩
                    have Z4 := Lib.hid ((hb3.block w.heap.size (by omega)).trans Z3.out)
                    have B4 := Lib.hid (B3.out.trans (hb3.mono B3.out.size))
                    clear hb3
                    obtain ⟨⟨y0, y1, y2⟩, f0, f1, f2⟩ := look3 Z4.out
                    go_wp2
                    exact bodyPost_ret (res_ve (t := 7) (p := 6) rfl _ _ w.heap.size _ _ _ rfl (put3 Z4.out _ _ _)) rfl (by rw [HQ.out]; exact DoR.of HH.out rfl (put3_below B4.out (Nat.le_refl _) _ _ _))
                · have e10 : decide (10 ≤ kq) = false := decide_eq_false k10
                  have e9 : decide (kq < 10) = true := decide_eq_true (by omega)
                  by_cases k0 : 0 ≤ kq
                  · have e0 : decide (0 ≤ kq) = true := decide_eq_true k0
                    have HE : Hid (isR T ⟨tk, ti, ts⟩ kq = (tk == kq)) := Lib.hid ((if_neg k10).trans (if_pos k0))
                    by_cases hm : tk = kq
                    · have hm1 : (tk != kq) = false := by simp [hm]
                      have HX1 := Lib.hid (HX.out (by rw [HE.out]; simp [hm]))
                      clear HX HN HE hm hin
                      go_wp2
                      exact ⟨⟨j + 1, by omega, by go_num, HX1.out, HBM.out⟩, by simp [intOf]; omega⟩
                    · have hm1 : (tk != kq) = true := by simp [hm]
                      have HQ := Lib.hid (HN.out (by rw [HE.out]; simp [hm]))
                      clear HX HN HE hm hin
                      obtain ⟨⟨y0, y1, y2⟩, f0, f1, f2⟩ := look3 Z3.out
                      go_wp2
                      exact bodyPost_ret (res_ve (t := 7) (p := 6) rfl _ _ w.heap.size _ _ _ rfl (put3 Z3.out _ _ _)) rfl (by rw [HQ.out]; exact DoR.of HH.out rfl (put3_below B3.out (Nat.le_refl _) _ _ _))
                  · have e0 : decide (0 ≤ kq) = false := decide_eq_false k0
                    have HX1 := Lib.hid (HX.out ((if_neg k10).trans (if_neg k0)))
                    clear HX HN hin
                    go_wp2
                    exact ⟨⟨j + 1, by omega, by go_num, HX1.out, HBM.out⟩, by simp [intOf]; omega⟩
              · have hje : j = l.length := by omega
                have HOK1 : Hid (allR T ws l = true) := Lib.hid ((allR_iff HLEN.out).2 fun k hk hk' => HOK.out k hk hk' (by omega))
                have HQ : Hid (q = r) := Lib.hid (by rw [HR2.out, if_pos HOK1.out])
                have hi1 : ¬ (j : Int) < (l.length : Int) := by omega
                have TK := HD.out HALL.out HLEN.out HOK1.out
                rw [← HQ.out] at TK
                have HTK := Lib.hid TK
                clear TK
                go_wp2
                refine hKT.out _ _ ?_
                exact HTK.out w wr w.heap.size S a c _ _ _ _ _ _ _ _ _ _ _ _ _ _ _ _ _ _ _ _ _ _ _ _ _ _ _ _ _ _ _ _ _ _ _ _ _ _ _ _ _ _ _ _ _ _ _ _ _ _ _ _ _ _ _ _ _ _ _ _ _ _ _ _ _ _ _ _ _ _ _ _ _ _ _ _ _ _ _ _ _ _ _ _ _ _ _ _ _ _ _ _ _ _ _ _ _ _ _ _ _ _ _ _ _ _ _ _ _ _ _ _ _ _ _ _ _ _ _ _ _ _ _ _ _ _ _ _ _ _ _ _ _ _ _ _ _ _ _ _ _ _ _ _ _ _ _ _ _ _ _ _ _ _ _ _ _ _ _ _ _ _ _ _ _ _ _ _ _ _ _ _ _ _ _ _ _ _ _ _ _ _ _ _ _ _ _ _ _ _ _ _ _ _ _ _ _ _ _ _ _ _ _ _ _ _ _ _ _ _ _ _ _ _ _ _ _ _ _ _ _ _ _ _ _ _ _ _ _ _ _ _ _ _ _ _ _ _ _ _ _ _ _ _ _ _ _ _ _ _ _ _ _ _ _ _ _ _ _ _ _ _ _ _ _ _ _ _ _ _ _ _ _ _ _ _ _ _ _ _ _ _ _ _ _ _ _ _ _ _ _ _ _ _ _ _ _ _ _ _ _ _ _ _ _ _ _ _ _ _ _ _ _ _ _ _ _ _ _ _ _ _ _ _ _ _ _ _ _ _ _ _ _ _ _ _ _ _ _ _ _ _ _ _ _ _ _ _ _ _ _ _ _ _ _ _ _ HH.out HF.out B3.out (Nat.le_refl _) Z3.out (HP.out.belowP B3.out)
      · have hne : ((ws.length : Int) != (l.length : Int)) = true := by simpa using (fun e => hlen (by omega))
        rw [if_neg hlen] at HR
        clear hlen
        go_wp2
        exact bodyPost_ret (res_ve (t := 7) (p := 6) rfl _ _ w.heap.size _ _ _ rfl (put3 Z1.out _ _ _)) rfl (by rw [HR.out]; exact DoR.of HH.out rfl (put3_below B1.out (Nat.le_refl _) _ _ _))
end Go.Proofs.YtpejhilfopjckaaDoor.Hp
