/-
The ends of the document's Do: get and put. No condition but that the thing is there.
-/
import Derived.Test.YtpejhilfopjckaaDoorQ65
import Derived.Test.YtpejhilfopjckaaDoorQGe
import Derived.Test.YtpejhilfopjckaaDoorRG
namespace Go.Proofs.YtpejhilfopjckaaDoor.Hp
open Go.ChangeShapes Go.WideShapes Go.ChangeAt Go.RowKit Go.Deep
open Dat (PT ok64 RepV RepS RowX infoDatum)
set_option maxRecDepth 1000000

theorem DoR.use {w w' : World} {hb R0 : Nat} {F : Nat → Prop} {u : PV} {err : Int} {T : List (Int × List PV)} {e : Ending} (h : DoR w hb F u err T e w') (hR : R0 < w.heap.size) (hn : ¬ F R0) :
    e = VE u err ∧ ∃ F', HeapR w' hb T F' ∧ Stp F w F' w' ∧ ¬ F' R0 ∧ w'.heap[R0]? = w.heap[R0]? := by
  obtain ⟨h1, F', h2, h3⟩ := h
  refine ⟨h1, F', h2, h3, fun hf => ?_, h3.1.2 R0 hR hn⟩
  rcases h3.2 R0 hf with h | h
  · exact hn h
  · omega
theorem isB_kind {T : List (Int × List PV)} {v : PV} {kd : Int} (hi : InT T v) (h : 0 ≤ kd) : thB T v kd = (kindR T v == kd) := by
  unfold thB kindR
  by_cases h8 : v.k = 8
  · obtain ⟨h0, hlt⟩ := hi h8
    have hj : v.i.toNat < T.length := by omega
    rw [if_pos h8, List.getElem?_eq_getElem hj]
    simp only [h8, Option.map_some, Option.some.injEq, true_and]
    rfl
  · rw [if_neg h8, decide_eq_false (fun hh => h8 hh.1)]
    exact (beq_eq_false_iff_ne.2 (by omega)).symm
set_option maxHeartbeats 8000000 in
theorem tail_car (k0 i0 : Int) (s0 : ByteArray) (hb : Nat) (T : List (Int × List PV)) (F : Nat → Prop) (h0 : 0 ≤ i0) (hlt : i0 < T.length) (r : PV × Int × List (Int × List PV)) (hr : Hid (r = ((partT T ⟨k0, i0, s0⟩ 0).1, (partT T ⟨k0, i0, s0⟩ 0).2, T))) : TailOk ⟨#[99, 97, 114]⟩ [⟨k0, i0, s0⟩] r hb T F := by
  intro w W R S a c u3 u4 u5 u7 u8 u9 u10 u11 u12 u13 u14 u15 u16 u17 u18 u19 u20 u21 u22 u23 u24 u25 u26 u27 u28 u29 u30 u31 u32 u33 u34 u35 u36 u37 u38 u39 u40 u41 u42 u43 u44 u45 u46 u47 u48 u49 u50 u51 u52 u53 u54 u55 u56 u57 u58 u59 u60 u61 u62 u63 u64 u65 u66 u67 u68 u69 u70 u71 u72 u73 u74 u75 u76 u77 u78 u79 u80 u81 u82 u83 u84 u85 u86 u87 u88 u89 u90 u91 u92 u93 u94 u95 u96 u97 u98 u99 u100 u101 u102 u103 u104 u105 u106 u107 u108 u109 u110 u111 u112 u113 u114 u115 u116 u117 u118 u119 u120 u121 u122 u123 u124 u125 u126 u127 u128 u129 u130 u131 u132 u133 u134 u135 u136 u137 u138 u139 u140 u141 u142 u143 u144 u145 u146 u147 u148 u149 u150 u151 u152 u153 u154 u155 u156 u157 u158 u159 u160 u161 u162 u163 u164 u165 u166 u167 u168 u169 u170 u171 u172 u173 u174 u175 u176 u177 u178 u179 u180 u181 u182 u183 u184 u185 u186 u187 u188 u189 u190 u191 u192 u193 u194 u195 u196 u197 u198 u199 u200 u201 u202 u203 u204 u205 u206 u207 u208 u209 u210 u211 u212 u213 u214 u215 u216 u217 u218 u219 u220 u221 u222 u223 u224 u225 u226 u227 u228 u229 u230 u231 u232 u233 u234 u235 u236 u237 u238 u239 u240 u241 u242 u243 u244 u245 u246 u247 u248 u249 u250 u251 u252 u253 u254 u255 u256 u257 u258 u259 u260 u261 u262 u263 u264 u265 u266 u267 u268 u269 u270 u271 u272 u273 u274 u275 u276 u277 u278 u279 u280 u281 u282 u283 u284 u285 u286 u287 u288 u289 u290 u291 u292 u293 u294 u295 u296 u297 u298 u299 u300 u301 u302 u303 u304 u305 u306 u307 u308 u309 u310 u311 u312 u313 u314 u315 u316 u317 u318 u319 u320 u321 u322 u323 u324 u325 u326 u327 u328 u329 u330 u331 u332 u333 u334 u335 u336 u337 u338 u339 u340 u341 u342 u343 u344 u345 u346 u347 u348 u349 u350 u351 u352 u353 u354 u355 u356 u357 u358 u359 u360 hH hF hB hR hZ hP
  have hRW : R < W.heap.size := lt_of_block hZ
  have hwW : w.heap.size ≤ W.heap.size := hB.size
  obtain ⟨Z0, Z1, Z2, B3⟩ := three_new W (.cells #[.int .i64 0, .int .i64 0, .string ⟨#[]⟩] 36) (.cells #[.int .i64 0, .int .i64 0, .string ⟨#[]⟩] 36) (.cells #[.int .i64 0, .int .i64 0, .string ⟨#[]⟩] 36)
  obtain ⟨b, o, c', e, _, _, hbl, ⟨c0, c1, c2⟩, ok0⟩ := one_arg (hP.belowP B3)
  cases e
  have HB3 := Lib.hid (hB.trans (B3.mono hB.size))
  have HH := Lib.hid hH
  have HF := Lib.hid hF
  have HZ3 := Lib.hid ((B3.block R hRW).trans hZ)
  simp only [List.length_cons, List.length_nil, Nat.zero_add]
  clear hH hF hP hZ hB B3
  conv => arg 2; whnf
  go_upto_region 24 with fail
  generalize ((W.alloc (.cells #[.int .i64 0, .int .i64 0, .string ⟨#[]⟩] 36)).alloc (.cells #[.int .i64 0, .int .i64 0, .string ⟨#[]⟩] 36)).alloc (.cells #[.int .i64 0, .int .i64 0, .string ⟨#[]⟩] 36) = W3 at *
  have HZ10 := Lib.hid Z0
  obtain ⟨⟨xa0, xa1, xa2⟩, fa0, fa1, fa2⟩ := look3 Z0
  have HZ11 := Lib.hid Z1
  have HZ12 := Lib.hid Z2
  clear Z0 Z1 Z2
  go_upto_region 30 with fail
  have ZB0 : Hid (((((W3).setCell ⟨W.heap.size, 0, none⟩ (.int .i64 k0)).setCell ⟨W.heap.size, 1, none⟩ (.int .i64 i0)).setCell ⟨W.heap.size, 2, none⟩ (.string s0)).heap[W.heap.size]? = some (.cells #[.int .i64 k0, .int .i64 i0, .string s0] 36 (0, 0))) := Lib.hid (put3 HZ10.out (.int .i64 k0) (.int .i64 i0) (.string s0))
  have HR0 : Hid (((((W3).setCell ⟨W.heap.size, 0, none⟩ (.int .i64 k0)).setCell ⟨W.heap.size, 1, none⟩ (.int .i64 i0)).setCell ⟨W.heap.size, 2, none⟩ (.string s0)).heap[R]? = some (.cells #[.int .i64 0, .int .i64 0, .string ⟨#[]⟩] 36 (0, 0))) := Lib.hid ((put3_other _ _ _ (by omega)).trans (HZ3.out))
  have BN : Hid (Below w.heap.size w ((((W3).setCell ⟨W.heap.size, 0, none⟩ (.int .i64 k0)).setCell ⟨W.heap.size, 1, none⟩ (.int .i64 i0)).setCell ⟨W.heap.size, 2, none⟩ (.string s0))) := Lib.hid (put3_below (HB3.out) (by omega) _ _ _)
  have hsN : W.heap.size < ((((W3).setCell ⟨W.heap.size, 0, none⟩ (.int .i64 k0)).setCell ⟨W.heap.size, 1, none⟩ (.int .i64 i0)).setCell ⟨W.heap.size, 2, none⟩ (.string s0)).heap.size := by simp only [size_put]; have := lt_of_block HZ10.out; omega
  clear HZ10 HZ11 HZ12 HZ3 HB3 c0 c1 c2 xa0 xa1 xa2 fa0 fa1 fa2
  generalize (((W3).setCell ⟨W.heap.size, 0, none⟩ (.int .i64 k0)).setCell ⟨W.heap.size, 1, none⟩ (.int .i64 i0)).setCell ⟨W.heap.size, 2, none⟩ (.string s0) = Wn at *
  go_upto_region 31 with fail
  have BA := (Below.refl Wn.heap.size Wn).alloc (Nat.le_refl _) (.cells #[.int .i64 5, .int .i64 0, .string ⟨#[]⟩] 36)
  have BV := Lib.hid (BN.out.trans (BA.mono BN.out.size))
  have HV := Lib.hid (heap_alloc_new Wn (.cells #[.int .i64 5, .int .i64 0, .string ⟨#[]⟩] 36))
  have ZC0 := Lib.hid ((BA.block _ (lt_of_block ZB0.out)).trans ZB0.out)
  have HRV := Lib.hid ((BA.block R (by omega)).trans HR0.out)
  have hsV : R < (Wn.alloc (.cells #[.int .i64 5, .int .i64 0, .string ⟨#[]⟩] 36)).heap.size := lt_of_block HRV.out
  clear BA BN HR0 hsN ZB0
  generalize Wn.alloc (.cells #[.int .i64 5, .int .i64 0, .string ⟨#[]⟩] 36) = Wv at *
  generalize Wn.heap.size = V at *
  obtain ⟨⟨xa0, xa1, xa2⟩, -⟩ := look3 ZC0.out
  have KG := Lib.hid (rget_any k0 i0 s0 0 hb T F Wv (HH.out.below BV.out) h0 hlt)
  obtain ⟨q, HQE⟩ : ∃ q, Hid (q = partT T ⟨k0, i0, s0⟩ 0) := ⟨_, Lib.hid rfl⟩
  rw [← HQE.out] at KG
  obtain ⟨⟨qk, qi, qs⟩, qe⟩ := q
  go_wp2_with fail
  refine KG.out.mono ?_
  rintro e w5 ⟨he, hb5⟩
  unfold VE at he
  subst he
  have B5 := Lib.hid (BV.out.trans (hb5.mono BV.out.size))
  have HR5 := Lib.hid ((hb5.block R hsV).trans HRV.out)
  obtain ⟨⟨y0, y1, y2⟩, f0, f1, f2⟩ := look3 HR5.out
  clear hb5
  go_wp2
  exact bodyPost_ret (res_ve (t := 7) (p := 6) rfl _ _ R _ _ _ rfl (put3 HR5.out _ _ _)) rfl (by rw [hr.out, ← HQE.out]; exact DoR.of HH.out rfl (put3_below B5.out hR _ _ _))
set_option maxHeartbeats 8000000 in
theorem tail_unbox (k0 i0 : Int) (s0 : ByteArray) (hb : Nat) (T : List (Int × List PV)) (F : Nat → Prop) (h0 : 0 ≤ i0) (hlt : i0 < T.length) (r : PV × Int × List (Int × List PV)) (hr : Hid (r = ((partT T ⟨k0, i0, s0⟩ 0).1, (partT T ⟨k0, i0, s0⟩ 0).2, T))) : TailOk ⟨#[37, 117, 110, 98, 111, 120]⟩ [⟨k0, i0, s0⟩] r hb T F := by
  intro w W R S a c u3 u4 u5 u7 u8 u9 u10 u11 u12 u13 u14 u15 u16 u17 u18 u19 u20 u21 u22 u23 u24 u25 u26 u27 u28 u29 u30 u31 u32 u33 u34 u35 u36 u37 u38 u39 u40 u41 u42 u43 u44 u45 u46 u47 u48 u49 u50 u51 u52 u53 u54 u55 u56 u57 u58 u59 u60 u61 u62 u63 u64 u65 u66 u67 u68 u69 u70 u71 u72 u73 u74 u75 u76 u77 u78 u79 u80 u81 u82 u83 u84 u85 u86 u87 u88 u89 u90 u91 u92 u93 u94 u95 u96 u97 u98 u99 u100 u101 u102 u103 u104 u105 u106 u107 u108 u109 u110 u111 u112 u113 u114 u115 u116 u117 u118 u119 u120 u121 u122 u123 u124 u125 u126 u127 u128 u129 u130 u131 u132 u133 u134 u135 u136 u137 u138 u139 u140 u141 u142 u143 u144 u145 u146 u147 u148 u149 u150 u151 u152 u153 u154 u155 u156 u157 u158 u159 u160 u161 u162 u163 u164 u165 u166 u167 u168 u169 u170 u171 u172 u173 u174 u175 u176 u177 u178 u179 u180 u181 u182 u183 u184 u185 u186 u187 u188 u189 u190 u191 u192 u193 u194 u195 u196 u197 u198 u199 u200 u201 u202 u203 u204 u205 u206 u207 u208 u209 u210 u211 u212 u213 u214 u215 u216 u217 u218 u219 u220 u221 u222 u223 u224 u225 u226 u227 u228 u229 u230 u231 u232 u233 u234 u235 u236 u237 u238 u239 u240 u241 u242 u243 u244 u245 u246 u247 u248 u249 u250 u251 u252 u253 u254 u255 u256 u257 u258 u259 u260 u261 u262 u263 u264 u265 u266 u267 u268 u269 u270 u271 u272 u273 u274 u275 u276 u277 u278 u279 u280 u281 u282 u283 u284 u285 u286 u287 u288 u289 u290 u291 u292 u293 u294 u295 u296 u297 u298 u299 u300 u301 u302 u303 u304 u305 u306 u307 u308 u309 u310 u311 u312 u313 u314 u315 u316 u317 u318 u319 u320 u321 u322 u323 u324 u325 u326 u327 u328 u329 u330 u331 u332 u333 u334 u335 u336 u337 u338 u339 u340 u341 u342 u343 u344 u345 u346 u347 u348 u349 u350 u351 u352 u353 u354 u355 u356 u357 u358 u359 u360 hH hF hB hR hZ hP
  have hRW : R < W.heap.size := lt_of_block hZ
  have hwW : w.heap.size ≤ W.heap.size := hB.size
  obtain ⟨Z0, Z1, Z2, B3⟩ := three_new W (.cells #[.int .i64 0, .int .i64 0, .string ⟨#[]⟩] 36) (.cells #[.int .i64 0, .int .i64 0, .string ⟨#[]⟩] 36) (.cells #[.int .i64 0, .int .i64 0, .string ⟨#[]⟩] 36)
  obtain ⟨b, o, c', e, _, _, hbl, ⟨c0, c1, c2⟩, ok0⟩ := one_arg (hP.belowP B3)
  cases e
  have HB3 := Lib.hid (hB.trans (B3.mono hB.size))
  have HH := Lib.hid hH
  have HF := Lib.hid hF
  have HZ3 := Lib.hid ((B3.block R hRW).trans hZ)
  simp only [List.length_cons, List.length_nil, Nat.zero_add]
  clear hH hF hP hZ hB B3
  conv => arg 2; whnf
  go_upto_region 24 with fail
  generalize ((W.alloc (.cells #[.int .i64 0, .int .i64 0, .string ⟨#[]⟩] 36)).alloc (.cells #[.int .i64 0, .int .i64 0, .string ⟨#[]⟩] 36)).alloc (.cells #[.int .i64 0, .int .i64 0, .string ⟨#[]⟩] 36) = W3 at *
  have HZ10 := Lib.hid Z0
  obtain ⟨⟨xa0, xa1, xa2⟩, fa0, fa1, fa2⟩ := look3 Z0
  have HZ11 := Lib.hid Z1
  have HZ12 := Lib.hid Z2
  clear Z0 Z1 Z2
  go_upto_region 30 with fail
  have ZB0 : Hid (((((W3).setCell ⟨W.heap.size, 0, none⟩ (.int .i64 k0)).setCell ⟨W.heap.size, 1, none⟩ (.int .i64 i0)).setCell ⟨W.heap.size, 2, none⟩ (.string s0)).heap[W.heap.size]? = some (.cells #[.int .i64 k0, .int .i64 i0, .string s0] 36 (0, 0))) := Lib.hid (put3 HZ10.out (.int .i64 k0) (.int .i64 i0) (.string s0))
  have HR0 : Hid (((((W3).setCell ⟨W.heap.size, 0, none⟩ (.int .i64 k0)).setCell ⟨W.heap.size, 1, none⟩ (.int .i64 i0)).setCell ⟨W.heap.size, 2, none⟩ (.string s0)).heap[R]? = some (.cells #[.int .i64 0, .int .i64 0, .string ⟨#[]⟩] 36 (0, 0))) := Lib.hid ((put3_other _ _ _ (by omega)).trans (HZ3.out))
  have BN : Hid (Below w.heap.size w ((((W3).setCell ⟨W.heap.size, 0, none⟩ (.int .i64 k0)).setCell ⟨W.heap.size, 1, none⟩ (.int .i64 i0)).setCell ⟨W.heap.size, 2, none⟩ (.string s0))) := Lib.hid (put3_below (HB3.out) (by omega) _ _ _)
  have hsN : W.heap.size < ((((W3).setCell ⟨W.heap.size, 0, none⟩ (.int .i64 k0)).setCell ⟨W.heap.size, 1, none⟩ (.int .i64 i0)).setCell ⟨W.heap.size, 2, none⟩ (.string s0)).heap.size := by simp only [size_put]; have := lt_of_block HZ10.out; omega
  clear HZ10 HZ11 HZ12 HZ3 HB3 c0 c1 c2 xa0 xa1 xa2 fa0 fa1 fa2
  generalize (((W3).setCell ⟨W.heap.size, 0, none⟩ (.int .i64 k0)).setCell ⟨W.heap.size, 1, none⟩ (.int .i64 i0)).setCell ⟨W.heap.size, 2, none⟩ (.string s0) = Wn at *
  go_upto_region 31 with fail
  have BA := (Below.refl Wn.heap.size Wn).alloc (Nat.le_refl _) (.cells #[.int .i64 5, .int .i64 0, .string ⟨#[]⟩] 36)
  have BV := Lib.hid (BN.out.trans (BA.mono BN.out.size))
  have HV := Lib.hid (heap_alloc_new Wn (.cells #[.int .i64 5, .int .i64 0, .string ⟨#[]⟩] 36))
  have ZC0 := Lib.hid ((BA.block _ (lt_of_block ZB0.out)).trans ZB0.out)
  have HRV := Lib.hid ((BA.block R (by omega)).trans HR0.out)
  have hsV : R < (Wn.alloc (.cells #[.int .i64 5, .int .i64 0, .string ⟨#[]⟩] 36)).heap.size := lt_of_block HRV.out
  clear BA BN HR0 hsN ZB0
  generalize Wn.alloc (.cells #[.int .i64 5, .int .i64 0, .string ⟨#[]⟩] 36) = Wv at *
  generalize Wn.heap.size = V at *
  obtain ⟨⟨xa0, xa1, xa2⟩, -⟩ := look3 ZC0.out
  have KG := Lib.hid (rget_any k0 i0 s0 0 hb T F Wv (HH.out.below BV.out) h0 hlt)
  obtain ⟨q, HQE⟩ : ∃ q, Hid (q = partT T ⟨k0, i0, s0⟩ 0) := ⟨_, Lib.hid rfl⟩
  rw [← HQE.out] at KG
  obtain ⟨⟨qk, qi, qs⟩, qe⟩ := q
  go_wp2_with fail
  refine KG.out.mono ?_
  rintro e w5 ⟨he, hb5⟩
  unfold VE at he
  subst he
  have B5 := Lib.hid (BV.out.trans (hb5.mono BV.out.size))
  have HR5 := Lib.hid ((hb5.block R hsV).trans HRV.out)
  obtain ⟨⟨y0, y1, y2⟩, f0, f1, f2⟩ := look3 HR5.out
  clear hb5
  go_wp2
  exact bodyPost_ret (res_ve (t := 7) (p := 6) rfl _ _ R _ _ _ rfl (put3 HR5.out _ _ _)) rfl (by rw [hr.out, ← HQE.out]; exact DoR.of HH.out rfl (put3_below B5.out hR _ _ _))
set_option maxHeartbeats 8000000 in
theorem tail_cdr (k0 i0 : Int) (s0 : ByteArray) (hb : Nat) (T : List (Int × List PV)) (F : Nat → Prop) (h0 : 0 ≤ i0) (hlt : i0 < T.length) (r : PV × Int × List (Int × List PV)) (hr : Hid (r = ((partT T ⟨k0, i0, s0⟩ 1).1, (partT T ⟨k0, i0, s0⟩ 1).2, T))) : TailOk ⟨#[99, 100, 114]⟩ [⟨k0, i0, s0⟩] r hb T F := by
  intro w W R S a c u3 u4 u5 u7 u8 u9 u10 u11 u12 u13 u14 u15 u16 u17 u18 u19 u20 u21 u22 u23 u24 u25 u26 u27 u28 u29 u30 u31 u32 u33 u34 u35 u36 u37 u38 u39 u40 u41 u42 u43 u44 u45 u46 u47 u48 u49 u50 u51 u52 u53 u54 u55 u56 u57 u58 u59 u60 u61 u62 u63 u64 u65 u66 u67 u68 u69 u70 u71 u72 u73 u74 u75 u76 u77 u78 u79 u80 u81 u82 u83 u84 u85 u86 u87 u88 u89 u90 u91 u92 u93 u94 u95 u96 u97 u98 u99 u100 u101 u102 u103 u104 u105 u106 u107 u108 u109 u110 u111 u112 u113 u114 u115 u116 u117 u118 u119 u120 u121 u122 u123 u124 u125 u126 u127 u128 u129 u130 u131 u132 u133 u134 u135 u136 u137 u138 u139 u140 u141 u142 u143 u144 u145 u146 u147 u148 u149 u150 u151 u152 u153 u154 u155 u156 u157 u158 u159 u160 u161 u162 u163 u164 u165 u166 u167 u168 u169 u170 u171 u172 u173 u174 u175 u176 u177 u178 u179 u180 u181 u182 u183 u184 u185 u186 u187 u188 u189 u190 u191 u192 u193 u194 u195 u196 u197 u198 u199 u200 u201 u202 u203 u204 u205 u206 u207 u208 u209 u210 u211 u212 u213 u214 u215 u216 u217 u218 u219 u220 u221 u222 u223 u224 u225 u226 u227 u228 u229 u230 u231 u232 u233 u234 u235 u236 u237 u238 u239 u240 u241 u242 u243 u244 u245 u246 u247 u248 u249 u250 u251 u252 u253 u254 u255 u256 u257 u258 u259 u260 u261 u262 u263 u264 u265 u266 u267 u268 u269 u270 u271 u272 u273 u274 u275 u276 u277 u278 u279 u280 u281 u282 u283 u284 u285 u286 u287 u288 u289 u290 u291 u292 u293 u294 u295 u296 u297 u298 u299 u300 u301 u302 u303 u304 u305 u306 u307 u308 u309 u310 u311 u312 u313 u314 u315 u316 u317 u318 u319 u320 u321 u322 u323 u324 u325 u326 u327 u328 u329 u330 u331 u332 u333 u334 u335 u336 u337 u338 u339 u340 u341 u342 u343 u344 u345 u346 u347 u348 u349 u350 u351 u352 u353 u354 u355 u356 u357 u358 u359 u360 hH hF hB hR hZ hP
  have hRW : R < W.heap.size := lt_of_block hZ
  have hwW : w.heap.size ≤ W.heap.size := hB.size
  obtain ⟨Z0, Z1, Z2, B3⟩ := three_new W (.cells #[.int .i64 0, .int .i64 0, .string ⟨#[]⟩] 36) (.cells #[.int .i64 0, .int .i64 0, .string ⟨#[]⟩] 36) (.cells #[.int .i64 0, .int .i64 0, .string ⟨#[]⟩] 36)
  obtain ⟨b, o, c', e, _, _, hbl, ⟨c0, c1, c2⟩, ok0⟩ := one_arg (hP.belowP B3)
  cases e
  have HB3 := Lib.hid (hB.trans (B3.mono hB.size))
  have HH := Lib.hid hH
  have HF := Lib.hid hF
  have HZ3 := Lib.hid ((B3.block R hRW).trans hZ)
  simp only [List.length_cons, List.length_nil, Nat.zero_add]
  clear hH hF hP hZ hB B3
  conv => arg 2; whnf
  go_upto_region 24 with fail
  generalize ((W.alloc (.cells #[.int .i64 0, .int .i64 0, .string ⟨#[]⟩] 36)).alloc (.cells #[.int .i64 0, .int .i64 0, .string ⟨#[]⟩] 36)).alloc (.cells #[.int .i64 0, .int .i64 0, .string ⟨#[]⟩] 36) = W3 at *
  have HZ10 := Lib.hid Z0
  obtain ⟨⟨xa0, xa1, xa2⟩, fa0, fa1, fa2⟩ := look3 Z0
  have HZ11 := Lib.hid Z1
  have HZ12 := Lib.hid Z2
  clear Z0 Z1 Z2
  go_upto_region 30 with fail
  have ZB0 : Hid (((((W3).setCell ⟨W.heap.size, 0, none⟩ (.int .i64 k0)).setCell ⟨W.heap.size, 1, none⟩ (.int .i64 i0)).setCell ⟨W.heap.size, 2, none⟩ (.string s0)).heap[W.heap.size]? = some (.cells #[.int .i64 k0, .int .i64 i0, .string s0] 36 (0, 0))) := Lib.hid (put3 HZ10.out (.int .i64 k0) (.int .i64 i0) (.string s0))
  have HR0 : Hid (((((W3).setCell ⟨W.heap.size, 0, none⟩ (.int .i64 k0)).setCell ⟨W.heap.size, 1, none⟩ (.int .i64 i0)).setCell ⟨W.heap.size, 2, none⟩ (.string s0)).heap[R]? = some (.cells #[.int .i64 0, .int .i64 0, .string ⟨#[]⟩] 36 (0, 0))) := Lib.hid ((put3_other _ _ _ (by omega)).trans (HZ3.out))
  have BN : Hid (Below w.heap.size w ((((W3).setCell ⟨W.heap.size, 0, none⟩ (.int .i64 k0)).setCell ⟨W.heap.size, 1, none⟩ (.int .i64 i0)).setCell ⟨W.heap.size, 2, none⟩ (.string s0))) := Lib.hid (put3_below (HB3.out) (by omega) _ _ _)
  have hsN : W.heap.size < ((((W3).setCell ⟨W.heap.size, 0, none⟩ (.int .i64 k0)).setCell ⟨W.heap.size, 1, none⟩ (.int .i64 i0)).setCell ⟨W.heap.size, 2, none⟩ (.string s0)).heap.size := by simp only [size_put]; have := lt_of_block HZ10.out; omega
  clear HZ10 HZ11 HZ12 HZ3 HB3 c0 c1 c2 xa0 xa1 xa2 fa0 fa1 fa2
  generalize (((W3).setCell ⟨W.heap.size, 0, none⟩ (.int .i64 k0)).setCell ⟨W.heap.size, 1, none⟩ (.int .i64 i0)).setCell ⟨W.heap.size, 2, none⟩ (.string s0) = Wn at *
  go_upto_region 31 with fail
  have BA := (Below.refl Wn.heap.size Wn).alloc (Nat.le_refl _) (.cells #[.int .i64 5, .int .i64 0, .string ⟨#[]⟩] 36)
  have BV := Lib.hid (BN.out.trans (BA.mono BN.out.size))
  have HV := Lib.hid (heap_alloc_new Wn (.cells #[.int .i64 5, .int .i64 0, .string ⟨#[]⟩] 36))
  have ZC0 := Lib.hid ((BA.block _ (lt_of_block ZB0.out)).trans ZB0.out)
  have HRV := Lib.hid ((BA.block R (by omega)).trans HR0.out)
  have hsV : R < (Wn.alloc (.cells #[.int .i64 5, .int .i64 0, .string ⟨#[]⟩] 36)).heap.size := lt_of_block HRV.out
  clear BA BN HR0 hsN ZB0
  generalize Wn.alloc (.cells #[.int .i64 5, .int .i64 0, .string ⟨#[]⟩] 36) = Wv at *
  generalize Wn.heap.size = V at *
  obtain ⟨⟨xa0, xa1, xa2⟩, -⟩ := look3 ZC0.out
  have KG := Lib.hid (rget_any k0 i0 s0 1 hb T F Wv (HH.out.below BV.out) h0 hlt)
  obtain ⟨q, HQE⟩ : ∃ q, Hid (q = partT T ⟨k0, i0, s0⟩ 1) := ⟨_, Lib.hid rfl⟩
  rw [← HQE.out] at KG
  obtain ⟨⟨qk, qi, qs⟩, qe⟩ := q
  go_wp2_with fail
  refine KG.out.mono ?_
  rintro e w5 ⟨he, hb5⟩
  unfold VE at he
  subst he
  have B5 := Lib.hid (BV.out.trans (hb5.mono BV.out.size))
  have HR5 := Lib.hid ((hb5.block R hsV).trans HRV.out)
  obtain ⟨⟨y0, y1, y2⟩, f0, f1, f2⟩ := look3 HR5.out
  clear hb5
  go_wp2
  exact bodyPost_ret (res_ve (t := 7) (p := 6) rfl _ _ R _ _ _ rfl (put3 HR5.out _ _ _)) rfl (by rw [hr.out, ← HQE.out]; exact DoR.of HH.out rfl (put3_below B5.out hR _ _ _))
set_option maxHeartbeats 8000000 in
theorem tail_vref (k0 i0 : Int) (k1 i1 : Int) (s0 : ByteArray) (s1 : ByteArray) (hb : Nat) (T : List (Int × List PV)) (F : Nat → Prop) (h0 : 0 ≤ i0) (hlt : i0 < T.length) (r : PV × Int × List (Int × List PV)) (hr : Hid (r = ((partT T ⟨k0, i0, s0⟩ i1).1, (partT T ⟨k0, i0, s0⟩ i1).2, T))) : TailOk ⟨#[118, 101, 99, 116, 111, 114, 45, 114, 101, 102]⟩ [⟨k0, i0, s0⟩, ⟨k1, i1, s1⟩] r hb T F := by
  intro w W R S a c u3 u4 u5 u7 u8 u9 u10 u11 u12 u13 u14 u15 u16 u17 u18 u19 u20 u21 u22 u23 u24 u25 u26 u27 u28 u29 u30 u31 u32 u33 u34 u35 u36 u37 u38 u39 u40 u41 u42 u43 u44 u45 u46 u47 u48 u49 u50 u51 u52 u53 u54 u55 u56 u57 u58 u59 u60 u61 u62 u63 u64 u65 u66 u67 u68 u69 u70 u71 u72 u73 u74 u75 u76 u77 u78 u79 u80 u81 u82 u83 u84 u85 u86 u87 u88 u89 u90 u91 u92 u93 u94 u95 u96 u97 u98 u99 u100 u101 u102 u103 u104 u105 u106 u107 u108 u109 u110 u111 u112 u113 u114 u115 u116 u117 u118 u119 u120 u121 u122 u123 u124 u125 u126 u127 u128 u129 u130 u131 u132 u133 u134 u135 u136 u137 u138 u139 u140 u141 u142 u143 u144 u145 u146 u147 u148 u149 u150 u151 u152 u153 u154 u155 u156 u157 u158 u159 u160 u161 u162 u163 u164 u165 u166 u167 u168 u169 u170 u171 u172 u173 u174 u175 u176 u177 u178 u179 u180 u181 u182 u183 u184 u185 u186 u187 u188 u189 u190 u191 u192 u193 u194 u195 u196 u197 u198 u199 u200 u201 u202 u203 u204 u205 u206 u207 u208 u209 u210 u211 u212 u213 u214 u215 u216 u217 u218 u219 u220 u221 u222 u223 u224 u225 u226 u227 u228 u229 u230 u231 u232 u233 u234 u235 u236 u237 u238 u239 u240 u241 u242 u243 u244 u245 u246 u247 u248 u249 u250 u251 u252 u253 u254 u255 u256 u257 u258 u259 u260 u261 u262 u263 u264 u265 u266 u267 u268 u269 u270 u271 u272 u273 u274 u275 u276 u277 u278 u279 u280 u281 u282 u283 u284 u285 u286 u287 u288 u289 u290 u291 u292 u293 u294 u295 u296 u297 u298 u299 u300 u301 u302 u303 u304 u305 u306 u307 u308 u309 u310 u311 u312 u313 u314 u315 u316 u317 u318 u319 u320 u321 u322 u323 u324 u325 u326 u327 u328 u329 u330 u331 u332 u333 u334 u335 u336 u337 u338 u339 u340 u341 u342 u343 u344 u345 u346 u347 u348 u349 u350 u351 u352 u353 u354 u355 u356 u357 u358 u359 u360 hH hF hB hR hZ hP
  have hRW : R < W.heap.size := lt_of_block hZ
  have hwW : w.heap.size ≤ W.heap.size := hB.size
  obtain ⟨Z0, Z1, Z2, B3⟩ := three_new W (.cells #[.int .i64 0, .int .i64 0, .string ⟨#[]⟩] 36) (.cells #[.int .i64 0, .int .i64 0, .string ⟨#[]⟩] 36) (.cells #[.int .i64 0, .int .i64 0, .string ⟨#[]⟩] 36)
  obtain ⟨b, o, c', e, _, _, hbl, ⟨c0, c1, c2⟩, ok0, ⟨c3, c4, c5⟩, ok1⟩ := two_args (hP.belowP B3)
  cases e
  have HB3 := Lib.hid (hB.trans (B3.mono hB.size))
  have HH := Lib.hid hH
  have HF := Lib.hid hF
  have HZ3 := Lib.hid ((B3.block R hRW).trans hZ)
  simp only [List.length_cons, List.length_nil, Nat.zero_add, Nat.reduceAdd]
  clear hH hF hP hZ hB B3
  conv => arg 2; whnf
  go_upto_region 24 with fail
  generalize ((W.alloc (.cells #[.int .i64 0, .int .i64 0, .string ⟨#[]⟩] 36)).alloc (.cells #[.int .i64 0, .int .i64 0, .string ⟨#[]⟩] 36)).alloc (.cells #[.int .i64 0, .int .i64 0, .string ⟨#[]⟩] 36) = W3 at *
  have HZ10 := Lib.hid Z0
  obtain ⟨⟨xa0, xa1, xa2⟩, fa0, fa1, fa2⟩ := look3 Z0
  have HZ11 := Lib.hid Z1
  obtain ⟨⟨xb0, xb1, xb2⟩, fb0, fb1, fb2⟩ := look3 Z1
  have HZ12 := Lib.hid Z2
  clear Z0 Z1 Z2
  go_upto_region 30 with fail
  have ZB0 : Hid ((((((((W3).setCell ⟨W.heap.size, 0, none⟩ (.int .i64 k0)).setCell ⟨W.heap.size, 1, none⟩ (.int .i64 i0)).setCell ⟨W.heap.size, 2, none⟩ (.string s0)).setCell ⟨W.heap.size + 1, 0, none⟩ (.int .i64 k1)).setCell ⟨W.heap.size + 1, 1, none⟩ (.int .i64 i1)).setCell ⟨W.heap.size + 1, 2, none⟩ (.string s1)).heap[W.heap.size]? = some (.cells #[.int .i64 k0, .int .i64 i0, .string s0] 36 (0, 0))) := Lib.hid ((put3_other _ _ _ (by omega)).trans (put3 HZ10.out (.int .i64 k0) (.int .i64 i0) (.string s0)))
  have ZB1 : Hid ((((((((W3).setCell ⟨W.heap.size, 0, none⟩ (.int .i64 k0)).setCell ⟨W.heap.size, 1, none⟩ (.int .i64 i0)).setCell ⟨W.heap.size, 2, none⟩ (.string s0)).setCell ⟨W.heap.size + 1, 0, none⟩ (.int .i64 k1)).setCell ⟨W.heap.size + 1, 1, none⟩ (.int .i64 i1)).setCell ⟨W.heap.size + 1, 2, none⟩ (.string s1)).heap[W.heap.size + 1]? = some (.cells #[.int .i64 k1, .int .i64 i1, .string s1] 36 (0, 0))) := Lib.hid (put3 ((put3_other _ _ _ (by omega)).trans (HZ11.out)) (.int .i64 k1) (.int .i64 i1) (.string s1))
  have HR0 : Hid ((((((((W3).setCell ⟨W.heap.size, 0, none⟩ (.int .i64 k0)).setCell ⟨W.heap.size, 1, none⟩ (.int .i64 i0)).setCell ⟨W.heap.size, 2, none⟩ (.string s0)).setCell ⟨W.heap.size + 1, 0, none⟩ (.int .i64 k1)).setCell ⟨W.heap.size + 1, 1, none⟩ (.int .i64 i1)).setCell ⟨W.heap.size + 1, 2, none⟩ (.string s1)).heap[R]? = some (.cells #[.int .i64 0, .int .i64 0, .string ⟨#[]⟩] 36 (0, 0))) := Lib.hid ((put3_other _ _ _ (by omega)).trans ((put3_other _ _ _ (by omega)).trans (HZ3.out)))
  have BN : Hid (Below w.heap.size w (((((((W3).setCell ⟨W.heap.size, 0, none⟩ (.int .i64 k0)).setCell ⟨W.heap.size, 1, none⟩ (.int .i64 i0)).setCell ⟨W.heap.size, 2, none⟩ (.string s0)).setCell ⟨W.heap.size + 1, 0, none⟩ (.int .i64 k1)).setCell ⟨W.heap.size + 1, 1, none⟩ (.int .i64 i1)).setCell ⟨W.heap.size + 1, 2, none⟩ (.string s1))) := Lib.hid (put3_below (put3_below (HB3.out) (by omega) _ _ _) (by omega) _ _ _)
  have hsN : W.heap.size < (((((((W3).setCell ⟨W.heap.size, 0, none⟩ (.int .i64 k0)).setCell ⟨W.heap.size, 1, none⟩ (.int .i64 i0)).setCell ⟨W.heap.size, 2, none⟩ (.string s0)).setCell ⟨W.heap.size + 1, 0, none⟩ (.int .i64 k1)).setCell ⟨W.heap.size + 1, 1, none⟩ (.int .i64 i1)).setCell ⟨W.heap.size + 1, 2, none⟩ (.string s1)).heap.size := by simp only [size_put]; have := lt_of_block HZ10.out; omega
  clear HZ10 HZ11 HZ12 HZ3 HB3 c0 c1 c2 xa0 xa1 xa2 fa0 fa1 fa2 c3 c4 c5 xb0 xb1 xb2 fb0 fb1 fb2
  generalize ((((((W3).setCell ⟨W.heap.size, 0, none⟩ (.int .i64 k0)).setCell ⟨W.heap.size, 1, none⟩ (.int .i64 i0)).setCell ⟨W.heap.size, 2, none⟩ (.string s0)).setCell ⟨W.heap.size + 1, 0, none⟩ (.int .i64 k1)).setCell ⟨W.heap.size + 1, 1, none⟩ (.int .i64 i1)).setCell ⟨W.heap.size + 1, 2, none⟩ (.string s1) = Wn at *
  go_upto_region 31 with fail
  have BA := (Below.refl Wn.heap.size Wn).alloc (Nat.le_refl _) (.cells #[.int .i64 5, .int .i64 0, .string ⟨#[]⟩] 36)
  have BV := Lib.hid (BN.out.trans (BA.mono BN.out.size))
  have HV := Lib.hid (heap_alloc_new Wn (.cells #[.int .i64 5, .int .i64 0, .string ⟨#[]⟩] 36))
  have ZC0 := Lib.hid ((BA.block _ (lt_of_block ZB0.out)).trans ZB0.out)
  have ZC1 := Lib.hid ((BA.block _ (lt_of_block ZB1.out)).trans ZB1.out)
  have HRV := Lib.hid ((BA.block R (by omega)).trans HR0.out)
  have hsV : R < (Wn.alloc (.cells #[.int .i64 5, .int .i64 0, .string ⟨#[]⟩] 36)).heap.size := lt_of_block HRV.out
  clear BA BN HR0 hsN ZB0 ZB1
  generalize Wn.alloc (.cells #[.int .i64 5, .int .i64 0, .string ⟨#[]⟩] 36) = Wv at *
  generalize Wn.heap.size = V at *
  obtain ⟨⟨xa0, xa1, xa2⟩, -⟩ := look3 ZC0.out
  obtain ⟨⟨xb0, xb1, xb2⟩, -⟩ := look3 ZC1.out
  have KG := Lib.hid (rget_any k0 i0 s0 i1 hb T F Wv (HH.out.below BV.out) h0 hlt)
  obtain ⟨q, HQE⟩ : ∃ q, Hid (q = partT T ⟨k0, i0, s0⟩ i1) := ⟨_, Lib.hid rfl⟩
  rw [← HQE.out] at KG
  obtain ⟨⟨qk, qi, qs⟩, qe⟩ := q
  go_wp2_with fail
  refine KG.out.mono ?_
  rintro e w5 ⟨he, hb5⟩
  unfold VE at he
  subst he
  have B5 := Lib.hid (BV.out.trans (hb5.mono BV.out.size))
  have HR5 := Lib.hid ((hb5.block R hsV).trans HRV.out)
  obtain ⟨⟨y0, y1, y2⟩, f0, f1, f2⟩ := look3 HR5.out
  clear hb5
  go_wp2
  exact bodyPost_ret (res_ve (t := 7) (p := 6) rfl _ _ R _ _ _ rfl (put3 HR5.out _ _ _)) rfl (by rw [hr.out, ← HQE.out]; exact DoR.of HH.out rfl (put3_below B5.out hR _ _ _))
set_option maxHeartbeats 8000000 in
theorem tail_sref (k0 i0 : Int) (k1 i1 : Int) (s0 : ByteArray) (s1 : ByteArray) (hb : Nat) (T : List (Int × List PV)) (F : Nat → Prop) (h0 : 0 ≤ i0) (hlt : i0 < T.length) (r : PV × Int × List (Int × List PV)) (hr : Hid (r = ((partT T ⟨k0, i0, s0⟩ i1).1, (partT T ⟨k0, i0, s0⟩ i1).2, T))) : TailOk ⟨#[115, 116, 114, 105, 110, 103, 45, 114, 101, 102]⟩ [⟨k0, i0, s0⟩, ⟨k1, i1, s1⟩] r hb T F := by
  intro w W R S a c u3 u4 u5 u7 u8 u9 u10 u11 u12 u13 u14 u15 u16 u17 u18 u19 u20 u21 u22 u23 u24 u25 u26 u27 u28 u29 u30 u31 u32 u33 u34 u35 u36 u37 u38 u39 u40 u41 u42 u43 u44 u45 u46 u47 u48 u49 u50 u51 u52 u53 u54 u55 u56 u57 u58 u59 u60 u61 u62 u63 u64 u65 u66 u67 u68 u69 u70 u71 u72 u73 u74 u75 u76 u77 u78 u79 u80 u81 u82 u83 u84 u85 u86 u87 u88 u89 u90 u91 u92 u93 u94 u95 u96 u97 u98 u99 u100 u101 u102 u103 u104 u105 u106 u107 u108 u109 u110 u111 u112 u113 u114 u115 u116 u117 u118 u119 u120 u121 u122 u123 u124 u125 u126 u127 u128 u129 u130 u131 u132 u133 u134 u135 u136 u137 u138 u139 u140 u141 u142 u143 u144 u145 u146 u147 u148 u149 u150 u151 u152 u153 u154 u155 u156 u157 u158 u159 u160 u161 u162 u163 u164 u165 u166 u167 u168 u169 u170 u171 u172 u173 u174 u175 u176 u177 u178 u179 u180 u181 u182 u183 u184 u185 u186 u187 u188 u189 u190 u191 u192 u193 u194 u195 u196 u197 u198 u199 u200 u201 u202 u203 u204 u205 u206 u207 u208 u209 u210 u211 u212 u213 u214 u215 u216 u217 u218 u219 u220 u221 u222 u223 u224 u225 u226 u227 u228 u229 u230 u231 u232 u233 u234 u235 u236 u237 u238 u239 u240 u241 u242 u243 u244 u245 u246 u247 u248 u249 u250 u251 u252 u253 u254 u255 u256 u257 u258 u259 u260 u261 u262 u263 u264 u265 u266 u267 u268 u269 u270 u271 u272 u273 u274 u275 u276 u277 u278 u279 u280 u281 u282 u283 u284 u285 u286 u287 u288 u289 u290 u291 u292 u293 u294 u295 u296 u297 u298 u299 u300 u301 u302 u303 u304 u305 u306 u307 u308 u309 u310 u311 u312 u313 u314 u315 u316 u317 u318 u319 u320 u321 u322 u323 u324 u325 u326 u327 u328 u329 u330 u331 u332 u333 u334 u335 u336 u337 u338 u339 u340 u341 u342 u343 u344 u345 u346 u347 u348 u349 u350 u351 u352 u353 u354 u355 u356 u357 u358 u359 u360 hH hF hB hR hZ hP
  have hRW : R < W.heap.size := lt_of_block hZ
  have hwW : w.heap.size ≤ W.heap.size := hB.size
  obtain ⟨Z0, Z1, Z2, B3⟩ := three_new W (.cells #[.int .i64 0, .int .i64 0, .string ⟨#[]⟩] 36) (.cells #[.int .i64 0, .int .i64 0, .string ⟨#[]⟩] 36) (.cells #[.int .i64 0, .int .i64 0, .string ⟨#[]⟩] 36)
  obtain ⟨b, o, c', e, _, _, hbl, ⟨c0, c1, c2⟩, ok0, ⟨c3, c4, c5⟩, ok1⟩ := two_args (hP.belowP B3)
  cases e
  have HB3 := Lib.hid (hB.trans (B3.mono hB.size))
  have HH := Lib.hid hH
  have HF := Lib.hid hF
  have HZ3 := Lib.hid ((B3.block R hRW).trans hZ)
  simp only [List.length_cons, List.length_nil, Nat.zero_add, Nat.reduceAdd]
  clear hH hF hP hZ hB B3
  conv => arg 2; whnf
  go_upto_region 24 with fail
  generalize ((W.alloc (.cells #[.int .i64 0, .int .i64 0, .string ⟨#[]⟩] 36)).alloc (.cells #[.int .i64 0, .int .i64 0, .string ⟨#[]⟩] 36)).alloc (.cells #[.int .i64 0, .int .i64 0, .string ⟨#[]⟩] 36) = W3 at *
  have HZ10 := Lib.hid Z0
  obtain ⟨⟨xa0, xa1, xa2⟩, fa0, fa1, fa2⟩ := look3 Z0
  have HZ11 := Lib.hid Z1
  obtain ⟨⟨xb0, xb1, xb2⟩, fb0, fb1, fb2⟩ := look3 Z1
  have HZ12 := Lib.hid Z2
  clear Z0 Z1 Z2
  go_upto_region 30 with fail
  have ZB0 : Hid ((((((((W3).setCell ⟨W.heap.size, 0, none⟩ (.int .i64 k0)).setCell ⟨W.heap.size, 1, none⟩ (.int .i64 i0)).setCell ⟨W.heap.size, 2, none⟩ (.string s0)).setCell ⟨W.heap.size + 1, 0, none⟩ (.int .i64 k1)).setCell ⟨W.heap.size + 1, 1, none⟩ (.int .i64 i1)).setCell ⟨W.heap.size + 1, 2, none⟩ (.string s1)).heap[W.heap.size]? = some (.cells #[.int .i64 k0, .int .i64 i0, .string s0] 36 (0, 0))) := Lib.hid ((put3_other _ _ _ (by omega)).trans (put3 HZ10.out (.int .i64 k0) (.int .i64 i0) (.string s0)))
  have ZB1 : Hid ((((((((W3).setCell ⟨W.heap.size, 0, none⟩ (.int .i64 k0)).setCell ⟨W.heap.size, 1, none⟩ (.int .i64 i0)).setCell ⟨W.heap.size, 2, none⟩ (.string s0)).setCell ⟨W.heap.size + 1, 0, none⟩ (.int .i64 k1)).setCell ⟨W.heap.size + 1, 1, none⟩ (.int .i64 i1)).setCell ⟨W.heap.size + 1, 2, none⟩ (.string s1)).heap[W.heap.size + 1]? = some (.cells #[.int .i64 k1, .int .i64 i1, .string s1] 36 (0, 0))) := Lib.hid (put3 ((put3_other _ _ _ (by omega)).trans (HZ11.out)) (.int .i64 k1) (.int .i64 i1) (.string s1))
  have HR0 : Hid ((((((((W3).setCell ⟨W.heap.size, 0, none⟩ (.int .i64 k0)).setCell ⟨W.heap.size, 1, none⟩ (.int .i64 i0)).setCell ⟨W.heap.size, 2, none⟩ (.string s0)).setCell ⟨W.heap.size + 1, 0, none⟩ (.int .i64 k1)).setCell ⟨W.heap.size + 1, 1, none⟩ (.int .i64 i1)).setCell ⟨W.heap.size + 1, 2, none⟩ (.string s1)).heap[R]? = some (.cells #[.int .i64 0, .int .i64 0, .string ⟨#[]⟩] 36 (0, 0))) := Lib.hid ((put3_other _ _ _ (by omega)).trans ((put3_other _ _ _ (by omega)).trans (HZ3.out)))
  have BN : Hid (Below w.heap.size w (((((((W3).setCell ⟨W.heap.size, 0, none⟩ (.int .i64 k0)).setCell ⟨W.heap.size, 1, none⟩ (.int .i64 i0)).setCell ⟨W.heap.size, 2, none⟩ (.string s0)).setCell ⟨W.heap.size + 1, 0, none⟩ (.int .i64 k1)).setCell ⟨W.heap.size + 1, 1, none⟩ (.int .i64 i1)).setCell ⟨W.heap.size + 1, 2, none⟩ (.string s1))) := Lib.hid (put3_below (put3_below (HB3.out) (by omega) _ _ _) (by omega) _ _ _)
  have hsN : W.heap.size < (((((((W3).setCell ⟨W.heap.size, 0, none⟩ (.int .i64 k0)).setCell ⟨W.heap.size, 1, none⟩ (.int .i64 i0)).setCell ⟨W.heap.size, 2, none⟩ (.string s0)).setCell ⟨W.heap.size + 1, 0, none⟩ (.int .i64 k1)).setCell ⟨W.heap.size + 1, 1, none⟩ (.int .i64 i1)).setCell ⟨W.heap.size + 1, 2, none⟩ (.string s1)).heap.size := by simp only [size_put]; have := lt_of_block HZ10.out; omega
  clear HZ10 HZ11 HZ12 HZ3 HB3 c0 c1 c2 xa0 xa1 xa2 fa0 fa1 fa2 c3 c4 c5 xb0 xb1 xb2 fb0 fb1 fb2
  generalize ((((((W3).setCell ⟨W.heap.size, 0, none⟩ (.int .i64 k0)).setCell ⟨W.heap.size, 1, none⟩ (.int .i64 i0)).setCell ⟨W.heap.size, 2, none⟩ (.string s0)).setCell ⟨W.heap.size + 1, 0, none⟩ (.int .i64 k1)).setCell ⟨W.heap.size + 1, 1, none⟩ (.int .i64 i1)).setCell ⟨W.heap.size + 1, 2, none⟩ (.string s1) = Wn at *
  go_upto_region 31 with fail
  have BA := (Below.refl Wn.heap.size Wn).alloc (Nat.le_refl _) (.cells #[.int .i64 5, .int .i64 0, .string ⟨#[]⟩] 36)
  have BV := Lib.hid (BN.out.trans (BA.mono BN.out.size))
  have HV := Lib.hid (heap_alloc_new Wn (.cells #[.int .i64 5, .int .i64 0, .string ⟨#[]⟩] 36))
  have ZC0 := Lib.hid ((BA.block _ (lt_of_block ZB0.out)).trans ZB0.out)
  have ZC1 := Lib.hid ((BA.block _ (lt_of_block ZB1.out)).trans ZB1.out)
  have HRV := Lib.hid ((BA.block R (by omega)).trans HR0.out)
  have hsV : R < (Wn.alloc (.cells #[.int .i64 5, .int .i64 0, .string ⟨#[]⟩] 36)).heap.size := lt_of_block HRV.out
  clear BA BN HR0 hsN ZB0 ZB1
  generalize Wn.alloc (.cells #[.int .i64 5, .int .i64 0, .string ⟨#[]⟩] 36) = Wv at *
  generalize Wn.heap.size = V at *
  obtain ⟨⟨xa0, xa1, xa2⟩, -⟩ := look3 ZC0.out
  obtain ⟨⟨xb0, xb1, xb2⟩, -⟩ := look3 ZC1.out
  have KG := Lib.hid (rget_any k0 i0 s0 i1 hb T F Wv (HH.out.below BV.out) h0 hlt)
  obtain ⟨q, HQE⟩ : ∃ q, Hid (q = partT T ⟨k0, i0, s0⟩ i1) := ⟨_, Lib.hid rfl⟩
  rw [← HQE.out] at KG
  obtain ⟨⟨qk, qi, qs⟩, qe⟩ := q
  go_wp2_with fail
  refine KG.out.mono ?_
  rintro e w5 ⟨he, hb5⟩
  unfold VE at he
  subst he
  have B5 := Lib.hid (BV.out.trans (hb5.mono BV.out.size))
  have HR5 := Lib.hid ((hb5.block R hsV).trans HRV.out)
  obtain ⟨⟨y0, y1, y2⟩, f0, f1, f2⟩ := look3 HR5.out
  clear hb5
  go_wp2
  exact bodyPost_ret (res_ve (t := 7) (p := 6) rfl _ _ R _ _ _ rfl (put3 HR5.out _ _ _)) rfl (by rw [hr.out, ← HQE.out]; exact DoR.of HH.out rfl (put3_below B5.out hR _ _ _))
set_option maxHeartbeats 8000000 in
theorem tail_setcar (k0 i0 : Int) (k1 i1 : Int) (s0 : ByteArray) (s1 : ByteArray) (hb : Nat) (T : List (Int × List PV)) (F : Nat → Prop) (h0 : 0 ≤ i0) (hlt : i0 < T.length) (r : PV × Int × List (Int × List PV)) (hr : Hid (r = (putT T ⟨k0, i0, s0⟩ 0 ⟨k1, i1, s1⟩))) : TailOk ⟨#[115, 101, 116, 45, 99, 97, 114, 33]⟩ [⟨k0, i0, s0⟩, ⟨k1, i1, s1⟩] r hb T F := by
  intro w W R S a c u3 u4 u5 u7 u8 u9 u10 u11 u12 u13 u14 u15 u16 u17 u18 u19 u20 u21 u22 u23 u24 u25 u26 u27 u28 u29 u30 u31 u32 u33 u34 u35 u36 u37 u38 u39 u40 u41 u42 u43 u44 u45 u46 u47 u48 u49 u50 u51 u52 u53 u54 u55 u56 u57 u58 u59 u60 u61 u62 u63 u64 u65 u66 u67 u68 u69 u70 u71 u72 u73 u74 u75 u76 u77 u78 u79 u80 u81 u82 u83 u84 u85 u86 u87 u88 u89 u90 u91 u92 u93 u94 u95 u96 u97 u98 u99 u100 u101 u102 u103 u104 u105 u106 u107 u108 u109 u110 u111 u112 u113 u114 u115 u116 u117 u118 u119 u120 u121 u122 u123 u124 u125 u126 u127 u128 u129 u130 u131 u132 u133 u134 u135 u136 u137 u138 u139 u140 u141 u142 u143 u144 u145 u146 u147 u148 u149 u150 u151 u152 u153 u154 u155 u156 u157 u158 u159 u160 u161 u162 u163 u164 u165 u166 u167 u168 u169 u170 u171 u172 u173 u174 u175 u176 u177 u178 u179 u180 u181 u182 u183 u184 u185 u186 u187 u188 u189 u190 u191 u192 u193 u194 u195 u196 u197 u198 u199 u200 u201 u202 u203 u204 u205 u206 u207 u208 u209 u210 u211 u212 u213 u214 u215 u216 u217 u218 u219 u220 u221 u222 u223 u224 u225 u226 u227 u228 u229 u230 u231 u232 u233 u234 u235 u236 u237 u238 u239 u240 u241 u242 u243 u244 u245 u246 u247 u248 u249 u250 u251 u252 u253 u254 u255 u256 u257 u258 u259 u260 u261 u262 u263 u264 u265 u266 u267 u268 u269 u270 u271 u272 u273 u274 u275 u276 u277 u278 u279 u280 u281 u282 u283 u284 u285 u286 u287 u288 u289 u290 u291 u292 u293 u294 u295 u296 u297 u298 u299 u300 u301 u302 u303 u304 u305 u306 u307 u308 u309 u310 u311 u312 u313 u314 u315 u316 u317 u318 u319 u320 u321 u322 u323 u324 u325 u326 u327 u328 u329 u330 u331 u332 u333 u334 u335 u336 u337 u338 u339 u340 u341 u342 u343 u344 u345 u346 u347 u348 u349 u350 u351 u352 u353 u354 u355 u356 u357 u358 u359 u360 hH hF hB hR hZ hP
  have hRW : R < W.heap.size := lt_of_block hZ
  have hwW : w.heap.size ≤ W.heap.size := hB.size
  obtain ⟨Z0, Z1, Z2, B3⟩ := three_new W (.cells #[.int .i64 0, .int .i64 0, .string ⟨#[]⟩] 36) (.cells #[.int .i64 0, .int .i64 0, .string ⟨#[]⟩] 36) (.cells #[.int .i64 0, .int .i64 0, .string ⟨#[]⟩] 36)
  obtain ⟨b, o, c', e, _, _, hbl, ⟨c0, c1, c2⟩, ok0, ⟨c3, c4, c5⟩, ok1⟩ := two_args (hP.belowP B3)
  cases e
  have HB3 := Lib.hid (hB.trans (B3.mono hB.size))
  have HH := Lib.hid hH
  have HF := Lib.hid hF
  have HZ3 := Lib.hid ((B3.block R hRW).trans hZ)
  simp only [List.length_cons, List.length_nil, Nat.zero_add, Nat.reduceAdd]
  clear hH hF hP hZ hB B3
  conv => arg 2; whnf
  go_upto_region 24 with fail
  generalize ((W.alloc (.cells #[.int .i64 0, .int .i64 0, .string ⟨#[]⟩] 36)).alloc (.cells #[.int .i64 0, .int .i64 0, .string ⟨#[]⟩] 36)).alloc (.cells #[.int .i64 0, .int .i64 0, .string ⟨#[]⟩] 36) = W3 at *
  have HZ10 := Lib.hid Z0
  obtain ⟨⟨xa0, xa1, xa2⟩, fa0, fa1, fa2⟩ := look3 Z0
  have HZ11 := Lib.hid Z1
  obtain ⟨⟨xb0, xb1, xb2⟩, fb0, fb1, fb2⟩ := look3 Z1
  have HZ12 := Lib.hid Z2
  clear Z0 Z1 Z2
  go_upto_region 30 with fail
  have ZB0 : Hid ((((((((W3).setCell ⟨W.heap.size, 0, none⟩ (.int .i64 k0)).setCell ⟨W.heap.size, 1, none⟩ (.int .i64 i0)).setCell ⟨W.heap.size, 2, none⟩ (.string s0)).setCell ⟨W.heap.size + 1, 0, none⟩ (.int .i64 k1)).setCell ⟨W.heap.size + 1, 1, none⟩ (.int .i64 i1)).setCell ⟨W.heap.size + 1, 2, none⟩ (.string s1)).heap[W.heap.size]? = some (.cells #[.int .i64 k0, .int .i64 i0, .string s0] 36 (0, 0))) := Lib.hid ((put3_other _ _ _ (by omega)).trans (put3 HZ10.out (.int .i64 k0) (.int .i64 i0) (.string s0)))
  have ZB1 : Hid ((((((((W3).setCell ⟨W.heap.size, 0, none⟩ (.int .i64 k0)).setCell ⟨W.heap.size, 1, none⟩ (.int .i64 i0)).setCell ⟨W.heap.size, 2, none⟩ (.string s0)).setCell ⟨W.heap.size + 1, 0, none⟩ (.int .i64 k1)).setCell ⟨W.heap.size + 1, 1, none⟩ (.int .i64 i1)).setCell ⟨W.heap.size + 1, 2, none⟩ (.string s1)).heap[W.heap.size + 1]? = some (.cells #[.int .i64 k1, .int .i64 i1, .string s1] 36 (0, 0))) := Lib.hid (put3 ((put3_other _ _ _ (by omega)).trans (HZ11.out)) (.int .i64 k1) (.int .i64 i1) (.string s1))
  have HR0 : Hid ((((((((W3).setCell ⟨W.heap.size, 0, none⟩ (.int .i64 k0)).setCell ⟨W.heap.size, 1, none⟩ (.int .i64 i0)).setCell ⟨W.heap.size, 2, none⟩ (.string s0)).setCell ⟨W.heap.size + 1, 0, none⟩ (.int .i64 k1)).setCell ⟨W.heap.size + 1, 1, none⟩ (.int .i64 i1)).setCell ⟨W.heap.size + 1, 2, none⟩ (.string s1)).heap[R]? = some (.cells #[.int .i64 0, .int .i64 0, .string ⟨#[]⟩] 36 (0, 0))) := Lib.hid ((put3_other _ _ _ (by omega)).trans ((put3_other _ _ _ (by omega)).trans (HZ3.out)))
  have BN : Hid (Below w.heap.size w (((((((W3).setCell ⟨W.heap.size, 0, none⟩ (.int .i64 k0)).setCell ⟨W.heap.size, 1, none⟩ (.int .i64 i0)).setCell ⟨W.heap.size, 2, none⟩ (.string s0)).setCell ⟨W.heap.size + 1, 0, none⟩ (.int .i64 k1)).setCell ⟨W.heap.size + 1, 1, none⟩ (.int .i64 i1)).setCell ⟨W.heap.size + 1, 2, none⟩ (.string s1))) := Lib.hid (put3_below (put3_below (HB3.out) (by omega) _ _ _) (by omega) _ _ _)
  have hsN : W.heap.size < (((((((W3).setCell ⟨W.heap.size, 0, none⟩ (.int .i64 k0)).setCell ⟨W.heap.size, 1, none⟩ (.int .i64 i0)).setCell ⟨W.heap.size, 2, none⟩ (.string s0)).setCell ⟨W.heap.size + 1, 0, none⟩ (.int .i64 k1)).setCell ⟨W.heap.size + 1, 1, none⟩ (.int .i64 i1)).setCell ⟨W.heap.size + 1, 2, none⟩ (.string s1)).heap.size := by simp only [size_put]; have := lt_of_block HZ10.out; omega
  clear HZ10 HZ11 HZ12 HZ3 HB3 c0 c1 c2 xa0 xa1 xa2 fa0 fa1 fa2 c3 c4 c5 xb0 xb1 xb2 fb0 fb1 fb2
  generalize ((((((W3).setCell ⟨W.heap.size, 0, none⟩ (.int .i64 k0)).setCell ⟨W.heap.size, 1, none⟩ (.int .i64 i0)).setCell ⟨W.heap.size, 2, none⟩ (.string s0)).setCell ⟨W.heap.size + 1, 0, none⟩ (.int .i64 k1)).setCell ⟨W.heap.size + 1, 1, none⟩ (.int .i64 i1)).setCell ⟨W.heap.size + 1, 2, none⟩ (.string s1) = Wn at *
  go_upto_region 31 with fail
  have BA := (Below.refl Wn.heap.size Wn).alloc (Nat.le_refl _) (.cells #[.int .i64 5, .int .i64 0, .string ⟨#[]⟩] 36)
  have BV := Lib.hid (BN.out.trans (BA.mono BN.out.size))
  have HV := Lib.hid (heap_alloc_new Wn (.cells #[.int .i64 5, .int .i64 0, .string ⟨#[]⟩] 36))
  have ZC0 := Lib.hid ((BA.block _ (lt_of_block ZB0.out)).trans ZB0.out)
  have ZC1 := Lib.hid ((BA.block _ (lt_of_block ZB1.out)).trans ZB1.out)
  have HRV := Lib.hid ((BA.block R (by omega)).trans HR0.out)
  have hsV : R < (Wn.alloc (.cells #[.int .i64 5, .int .i64 0, .string ⟨#[]⟩] 36)).heap.size := lt_of_block HRV.out
  clear BA BN HR0 hsN ZB0 ZB1
  generalize Wn.alloc (.cells #[.int .i64 5, .int .i64 0, .string ⟨#[]⟩] 36) = Wv at *
  generalize Wn.heap.size = V at *
  obtain ⟨⟨xa0, xa1, xa2⟩, -⟩ := look3 ZC0.out
  obtain ⟨⟨xb0, xb1, xb2⟩, -⟩ := look3 ZC1.out
  have KG := Lib.hid (rput_any k0 i0 s0 0 k1 i1 s1 ok1 hb T F Wv (HH.out.below BV.out) (fun b hf => Nat.lt_of_lt_of_le (HF.out b hf) BV.out.size) h0 hlt)
  obtain ⟨q, HQE⟩ : ∃ q, Hid (q = putT T ⟨k0, i0, s0⟩ 0 ⟨k1, i1, s1⟩) := ⟨_, Lib.hid rfl⟩
  rw [← HQE.out] at KG
  obtain ⟨⟨qk, qi, qs⟩, qe, qT⟩ := q
  go_wp2_with fail
  refine KG.out.mono ?_
  rintro e w5 hA
  obtain ⟨he, F', q1, q2, q3, q4⟩ := hA.use hsV (fun hf => by have := HF.out _ hf; omega)
  unfold VE at he
  subst he
  have HQ := Lib.hid (putR_res q1 ((Stp.of_below BV.out).trans q2) q3 hR (.int .i64 qk) (.int .i64 qi) (.string qs))
  have HR5 := Lib.hid (q4.trans HRV.out)
  obtain ⟨⟨y0, y1, y2⟩, f0, f1, f2⟩ := look3 HR5.out
  clear hA q1 q2 q3 q4
  go_wp2
  exact bodyPost_ret (res_ve (t := 7) (p := 6) rfl _ _ R _ _ _ rfl (put3 HR5.out _ _ _)) rfl (by rw [hr.out, ← HQE.out]; exact ⟨rfl, F', HQ.out.1, HQ.out.2⟩)
set_option maxHeartbeats 8000000 in
theorem tail_setbox (k0 i0 : Int) (k1 i1 : Int) (s0 : ByteArray) (s1 : ByteArray) (hb : Nat) (T : List (Int × List PV)) (F : Nat → Prop) (h0 : 0 ≤ i0) (hlt : i0 < T.length) (r : PV × Int × List (Int × List PV)) (hr : Hid (r = (putT T ⟨k0, i0, s0⟩ 0 ⟨k1, i1, s1⟩))) : TailOk ⟨#[37, 115, 101, 116, 45, 98, 111, 120, 33]⟩ [⟨k0, i0, s0⟩, ⟨k1, i1, s1⟩] r hb T F := by
  intro w W R S a c u3 u4 u5 u7 u8 u9 u10 u11 u12 u13 u14 u15 u16 u17 u18 u19 u20 u21 u22 u23 u24 u25 u26 u27 u28 u29 u30 u31 u32 u33 u34 u35 u36 u37 u38 u39 u40 u41 u42 u43 u44 u45 u46 u47 u48 u49 u50 u51 u52 u53 u54 u55 u56 u57 u58 u59 u60 u61 u62 u63 u64 u65 u66 u67 u68 u69 u70 u71 u72 u73 u74 u75 u76 u77 u78 u79 u80 u81 u82 u83 u84 u85 u86 u87 u88 u89 u90 u91 u92 u93 u94 u95 u96 u97 u98 u99 u100 u101 u102 u103 u104 u105 u106 u107 u108 u109 u110 u111 u112 u113 u114 u115 u116 u117 u118 u119 u120 u121 u122 u123 u124 u125 u126 u127 u128 u129 u130 u131 u132 u133 u134 u135 u136 u137 u138 u139 u140 u141 u142 u143 u144 u145 u146 u147 u148 u149 u150 u151 u152 u153 u154 u155 u156 u157 u158 u159 u160 u161 u162 u163 u164 u165 u166 u167 u168 u169 u170 u171 u172 u173 u174 u175 u176 u177 u178 u179 u180 u181 u182 u183 u184 u185 u186 u187 u188 u189 u190 u191 u192 u193 u194 u195 u196 u197 u198 u199 u200 u201 u202 u203 u204 u205 u206 u207 u208 u209 u210 u211 u212 u213 u214 u215 u216 u217 u218 u219 u220 u221 u222 u223 u224 u225 u226 u227 u228 u229 u230 u231 u232 u233 u234 u235 u236 u237 u238 u239 u240 u241 u242 u243 u244 u245 u246 u247 u248 u249 u250 u251 u252 u253 u254 u255 u256 u257 u258 u259 u260 u261 u262 u263 u264 u265 u266 u267 u268 u269 u270 u271 u272 u273 u274 u275 u276 u277 u278 u279 u280 u281 u282 u283 u284 u285 u286 u287 u288 u289 u290 u291 u292 u293 u294 u295 u296 u297 u298 u299 u300 u301 u302 u303 u304 u305 u306 u307 u308 u309 u310 u311 u312 u313 u314 u315 u316 u317 u318 u319 u320 u321 u322 u323 u324 u325 u326 u327 u328 u329 u330 u331 u332 u333 u334 u335 u336 u337 u338 u339 u340 u341 u342 u343 u344 u345 u346 u347 u348 u349 u350 u351 u352 u353 u354 u355 u356 u357 u358 u359 u360 hH hF hB hR hZ hP
  have hRW : R < W.heap.size := lt_of_block hZ
  have hwW : w.heap.size ≤ W.heap.size := hB.size
  obtain ⟨Z0, Z1, Z2, B3⟩ := three_new W (.cells #[.int .i64 0, .int .i64 0, .string ⟨#[]⟩] 36) (.cells #[.int .i64 0, .int .i64 0, .string ⟨#[]⟩] 36) (.cells #[.int .i64 0, .int .i64 0, .string ⟨#[]⟩] 36)
  obtain ⟨b, o, c', e, _, _, hbl, ⟨c0, c1, c2⟩, ok0, ⟨c3, c4, c5⟩, ok1⟩ := two_args (hP.belowP B3)
  cases e
  have HB3 := Lib.hid (hB.trans (B3.mono hB.size))
  have HH := Lib.hid hH
  have HF := Lib.hid hF
  have HZ3 := Lib.hid ((B3.block R hRW).trans hZ)
  simp only [List.length_cons, List.length_nil, Nat.zero_add, Nat.reduceAdd]
  clear hH hF hP hZ hB B3
  conv => arg 2; whnf
  go_upto_region 24 with fail
  generalize ((W.alloc (.cells #[.int .i64 0, .int .i64 0, .string ⟨#[]⟩] 36)).alloc (.cells #[.int .i64 0, .int .i64 0, .string ⟨#[]⟩] 36)).alloc (.cells #[.int .i64 0, .int .i64 0, .string ⟨#[]⟩] 36) = W3 at *
  have HZ10 := Lib.hid Z0
  obtain ⟨⟨xa0, xa1, xa2⟩, fa0, fa1, fa2⟩ := look3 Z0
  have HZ11 := Lib.hid Z1
  obtain ⟨⟨xb0, xb1, xb2⟩, fb0, fb1, fb2⟩ := look3 Z1
  have HZ12 := Lib.hid Z2
  clear Z0 Z1 Z2
  go_upto_region 30 with fail
  have ZB0 : Hid ((((((((W3).setCell ⟨W.heap.size, 0, none⟩ (.int .i64 k0)).setCell ⟨W.heap.size, 1, none⟩ (.int .i64 i0)).setCell ⟨W.heap.size, 2, none⟩ (.string s0)).setCell ⟨W.heap.size + 1, 0, none⟩ (.int .i64 k1)).setCell ⟨W.heap.size + 1, 1, none⟩ (.int .i64 i1)).setCell ⟨W.heap.size + 1, 2, none⟩ (.string s1)).heap[W.heap.size]? = some (.cells #[.int .i64 k0, .int .i64 i0, .string s0] 36 (0, 0))) := Lib.hid ((put3_other _ _ _ (by omega)).trans (put3 HZ10.out (.int .i64 k0) (.int .i64 i0) (.string s0)))
  have ZB1 : Hid ((((((((W3).setCell ⟨W.heap.size, 0, none⟩ (.int .i64 k0)).setCell ⟨W.heap.size, 1, none⟩ (.int .i64 i0)).setCell ⟨W.heap.size, 2, none⟩ (.string s0)).setCell ⟨W.heap.size + 1, 0, none⟩ (.int .i64 k1)).setCell ⟨W.heap.size + 1, 1, none⟩ (.int .i64 i1)).setCell ⟨W.heap.size + 1, 2, none⟩ (.string s1)).heap[W.heap.size + 1]? = some (.cells #[.int .i64 k1, .int .i64 i1, .string s1] 36 (0, 0))) := Lib.hid (put3 ((put3_other _ _ _ (by omega)).trans (HZ11.out)) (.int .i64 k1) (.int .i64 i1) (.string s1))
  have HR0 : Hid ((((((((W3).setCell ⟨W.heap.size, 0, none⟩ (.int .i64 k0)).setCell ⟨W.heap.size, 1, none⟩ (.int .i64 i0)).setCell ⟨W.heap.size, 2, none⟩ (.string s0)).setCell ⟨W.heap.size + 1, 0, none⟩ (.int .i64 k1)).setCell ⟨W.heap.size + 1, 1, none⟩ (.int .i64 i1)).setCell ⟨W.heap.size + 1, 2, none⟩ (.string s1)).heap[R]? = some (.cells #[.int .i64 0, .int .i64 0, .string ⟨#[]⟩] 36 (0, 0))) := Lib.hid ((put3_other _ _ _ (by omega)).trans ((put3_other _ _ _ (by omega)).trans (HZ3.out)))
  have BN : Hid (Below w.heap.size w (((((((W3).setCell ⟨W.heap.size, 0, none⟩ (.int .i64 k0)).setCell ⟨W.heap.size, 1, none⟩ (.int .i64 i0)).setCell ⟨W.heap.size, 2, none⟩ (.string s0)).setCell ⟨W.heap.size + 1, 0, none⟩ (.int .i64 k1)).setCell ⟨W.heap.size + 1, 1, none⟩ (.int .i64 i1)).setCell ⟨W.heap.size + 1, 2, none⟩ (.string s1))) := Lib.hid (put3_below (put3_below (HB3.out) (by omega) _ _ _) (by omega) _ _ _)
  have hsN : W.heap.size < (((((((W3).setCell ⟨W.heap.size, 0, none⟩ (.int .i64 k0)).setCell ⟨W.heap.size, 1, none⟩ (.int .i64 i0)).setCell ⟨W.heap.size, 2, none⟩ (.string s0)).setCell ⟨W.heap.size + 1, 0, none⟩ (.int .i64 k1)).setCell ⟨W.heap.size + 1, 1, none⟩ (.int .i64 i1)).setCell ⟨W.heap.size + 1, 2, none⟩ (.string s1)).heap.size := by simp only [size_put]; have := lt_of_block HZ10.out; omega
  clear HZ10 HZ11 HZ12 HZ3 HB3 c0 c1 c2 xa0 xa1 xa2 fa0 fa1 fa2 c3 c4 c5 xb0 xb1 xb2 fb0 fb1 fb2
  generalize ((((((W3).setCell ⟨W.heap.size, 0, none⟩ (.int .i64 k0)).setCell ⟨W.heap.size, 1, none⟩ (.int .i64 i0)).setCell ⟨W.heap.size, 2, none⟩ (.string s0)).setCell ⟨W.heap.size + 1, 0, none⟩ (.int .i64 k1)).setCell ⟨W.heap.size + 1, 1, none⟩ (.int .i64 i1)).setCell ⟨W.heap.size + 1, 2, none⟩ (.string s1) = Wn at *
  go_upto_region 31 with fail
  have BA := (Below.refl Wn.heap.size Wn).alloc (Nat.le_refl _) (.cells #[.int .i64 5, .int .i64 0, .string ⟨#[]⟩] 36)
  have BV := Lib.hid (BN.out.trans (BA.mono BN.out.size))
  have HV := Lib.hid (heap_alloc_new Wn (.cells #[.int .i64 5, .int .i64 0, .string ⟨#[]⟩] 36))
  have ZC0 := Lib.hid ((BA.block _ (lt_of_block ZB0.out)).trans ZB0.out)
  have ZC1 := Lib.hid ((BA.block _ (lt_of_block ZB1.out)).trans ZB1.out)
  have HRV := Lib.hid ((BA.block R (by omega)).trans HR0.out)
  have hsV : R < (Wn.alloc (.cells #[.int .i64 5, .int .i64 0, .string ⟨#[]⟩] 36)).heap.size := lt_of_block HRV.out
  clear BA BN HR0 hsN ZB0 ZB1
  generalize Wn.alloc (.cells #[.int .i64 5, .int .i64 0, .string ⟨#[]⟩] 36) = Wv at *
  generalize Wn.heap.size = V at *
  obtain ⟨⟨xa0, xa1, xa2⟩, -⟩ := look3 ZC0.out
  obtain ⟨⟨xb0, xb1, xb2⟩, -⟩ := look3 ZC1.out
  have KG := Lib.hid (rput_any k0 i0 s0 0 k1 i1 s1 ok1 hb T F Wv (HH.out.below BV.out) (fun b hf => Nat.lt_of_lt_of_le (HF.out b hf) BV.out.size) h0 hlt)
  obtain ⟨q, HQE⟩ : ∃ q, Hid (q = putT T ⟨k0, i0, s0⟩ 0 ⟨k1, i1, s1⟩) := ⟨_, Lib.hid rfl⟩
  rw [← HQE.out] at KG
  obtain ⟨⟨qk, qi, qs⟩, qe, qT⟩ := q
  go_wp2_with fail
  refine KG.out.mono ?_
  rintro e w5 hA
  obtain ⟨he, F', q1, q2, q3, q4⟩ := hA.use hsV (fun hf => by have := HF.out _ hf; omega)
  unfold VE at he
  subst he
  have HQ := Lib.hid (putR_res q1 ((Stp.of_below BV.out).trans q2) q3 hR (.int .i64 qk) (.int .i64 qi) (.string qs))
  have HR5 := Lib.hid (q4.trans HRV.out)
  obtain ⟨⟨y0, y1, y2⟩, f0, f1, f2⟩ := look3 HR5.out
  clear hA q1 q2 q3 q4
  go_wp2
  exact bodyPost_ret (res_ve (t := 7) (p := 6) rfl _ _ R _ _ _ rfl (put3 HR5.out _ _ _)) rfl (by rw [hr.out, ← HQE.out]; exact ⟨rfl, F', HQ.out.1, HQ.out.2⟩)
set_option maxHeartbeats 8000000 in
theorem tail_setcdr (k0 i0 : Int) (k1 i1 : Int) (s0 : ByteArray) (s1 : ByteArray) (hb : Nat) (T : List (Int × List PV)) (F : Nat → Prop) (h0 : 0 ≤ i0) (hlt : i0 < T.length) (r : PV × Int × List (Int × List PV)) (hr : Hid (r = (putT T ⟨k0, i0, s0⟩ 1 ⟨k1, i1, s1⟩))) : TailOk ⟨#[115, 101, 116, 45, 99, 100, 114, 33]⟩ [⟨k0, i0, s0⟩, ⟨k1, i1, s1⟩] r hb T F := by
  intro w W R S a c u3 u4 u5 u7 u8 u9 u10 u11 u12 u13 u14 u15 u16 u17 u18 u19 u20 u21 u22 u23 u24 u25 u26 u27 u28 u29 u30 u31 u32 u33 u34 u35 u36 u37 u38 u39 u40 u41 u42 u43 u44 u45 u46 u47 u48 u49 u50 u51 u52 u53 u54 u55 u56 u57 u58 u59 u60 u61 u62 u63 u64 u65 u66 u67 u68 u69 u70 u71 u72 u73 u74 u75 u76 u77 u78 u79 u80 u81 u82 u83 u84 u85 u86 u87 u88 u89 u90 u91 u92 u93 u94 u95 u96 u97 u98 u99 u100 u101 u102 u103 u104 u105 u106 u107 u108 u109 u110 u111 u112 u113 u114 u115 u116 u117 u118 u119 u120 u121 u122 u123 u124 u125 u126 u127 u128 u129 u130 u131 u132 u133 u134 u135 u136 u137 u138 u139 u140 u141 u142 u143 u144 u145 u146 u147 u148 u149 u150 u151 u152 u153 u154 u155 u156 u157 u158 u159 u160 u161 u162 u163 u164 u165 u166 u167 u168 u169 u170 u171 u172 u173 u174 u175 u176 u177 u178 u179 u180 u181 u182 u183 u184 u185 u186 u187 u188 u189 u190 u191 u192 u193 u194 u195 u196 u197 u198 u199 u200 u201 u202 u203 u204 u205 u206 u207 u208 u209 u210 u211 u212 u213 u214 u215 u216 u217 u218 u219 u220 u221 u222 u223 u224 u225 u226 u227 u228 u229 u230 u231 u232 u233 u234 u235 u236 u237 u238 u239 u240 u241 u242 u243 u244 u245 u246 u247 u248 u249 u250 u251 u252 u253 u254 u255 u256 u257 u258 u259 u260 u261 u262 u263 u264 u265 u266 u267 u268 u269 u270 u271 u272 u273 u274 u275 u276 u277 u278 u279 u280 u281 u282 u283 u284 u285 u286 u287 u288 u289 u290 u291 u292 u293 u294 u295 u296 u297 u298 u299 u300 u301 u302 u303 u304 u305 u306 u307 u308 u309 u310 u311 u312 u313 u314 u315 u316 u317 u318 u319 u320 u321 u322 u323 u324 u325 u326 u327 u328 u329 u330 u331 u332 u333 u334 u335 u336 u337 u338 u339 u340 u341 u342 u343 u344 u345 u346 u347 u348 u349 u350 u351 u352 u353 u354 u355 u356 u357 u358 u359 u360 hH hF hB hR hZ hP
  have hRW : R < W.heap.size := lt_of_block hZ
  have hwW : w.heap.size ≤ W.heap.size := hB.size
  obtain ⟨Z0, Z1, Z2, B3⟩ := three_new W (.cells #[.int .i64 0, .int .i64 0, .string ⟨#[]⟩] 36) (.cells #[.int .i64 0, .int .i64 0, .string ⟨#[]⟩] 36) (.cells #[.int .i64 0, .int .i64 0, .string ⟨#[]⟩] 36)
  obtain ⟨b, o, c', e, _, _, hbl, ⟨c0, c1, c2⟩, ok0, ⟨c3, c4, c5⟩, ok1⟩ := two_args (hP.belowP B3)
  cases e
  have HB3 := Lib.hid (hB.trans (B3.mono hB.size))
  have HH := Lib.hid hH
  have HF := Lib.hid hF
  have HZ3 := Lib.hid ((B3.block R hRW).trans hZ)
  simp only [List.length_cons, List.length_nil, Nat.zero_add, Nat.reduceAdd]
  clear hH hF hP hZ hB B3
  conv => arg 2; whnf
  go_upto_region 24 with fail
  generalize ((W.alloc (.cells #[.int .i64 0, .int .i64 0, .string ⟨#[]⟩] 36)).alloc (.cells #[.int .i64 0, .int .i64 0, .string ⟨#[]⟩] 36)).alloc (.cells #[.int .i64 0, .int .i64 0, .string ⟨#[]⟩] 36) = W3 at *
  have HZ10 := Lib.hid Z0
  obtain ⟨⟨xa0, xa1, xa2⟩, fa0, fa1, fa2⟩ := look3 Z0
  have HZ11 := Lib.hid Z1
  obtain ⟨⟨xb0, xb1, xb2⟩, fb0, fb1, fb2⟩ := look3 Z1
  have HZ12 := Lib.hid Z2
  clear Z0 Z1 Z2
  go_upto_region 30 with fail
  have ZB0 : Hid ((((((((W3).setCell ⟨W.heap.size, 0, none⟩ (.int .i64 k0)).setCell ⟨W.heap.size, 1, none⟩ (.int .i64 i0)).setCell ⟨W.heap.size, 2, none⟩ (.string s0)).setCell ⟨W.heap.size + 1, 0, none⟩ (.int .i64 k1)).setCell ⟨W.heap.size + 1, 1, none⟩ (.int .i64 i1)).setCell ⟨W.heap.size + 1, 2, none⟩ (.string s1)).heap[W.heap.size]? = some (.cells #[.int .i64 k0, .int .i64 i0, .string s0] 36 (0, 0))) := Lib.hid ((put3_other _ _ _ (by omega)).trans (put3 HZ10.out (.int .i64 k0) (.int .i64 i0) (.string s0)))
  have ZB1 : Hid ((((((((W3).setCell ⟨W.heap.size, 0, none⟩ (.int .i64 k0)).setCell ⟨W.heap.size, 1, none⟩ (.int .i64 i0)).setCell ⟨W.heap.size, 2, none⟩ (.string s0)).setCell ⟨W.heap.size + 1, 0, none⟩ (.int .i64 k1)).setCell ⟨W.heap.size + 1, 1, none⟩ (.int .i64 i1)).setCell ⟨W.heap.size + 1, 2, none⟩ (.string s1)).heap[W.heap.size + 1]? = some (.cells #[.int .i64 k1, .int .i64 i1, .string s1] 36 (0, 0))) := Lib.hid (put3 ((put3_other _ _ _ (by omega)).trans (HZ11.out)) (.int .i64 k1) (.int .i64 i1) (.string s1))
  have HR0 : Hid ((((((((W3).setCell ⟨W.heap.size, 0, none⟩ (.int .i64 k0)).setCell ⟨W.heap.size, 1, none⟩ (.int .i64 i0)).setCell ⟨W.heap.size, 2, none⟩ (.string s0)).setCell ⟨W.heap.size + 1, 0, none⟩ (.int .i64 k1)).setCell ⟨W.heap.size + 1, 1, none⟩ (.int .i64 i1)).setCell ⟨W.heap.size + 1, 2, none⟩ (.string s1)).heap[R]? = some (.cells #[.int .i64 0, .int .i64 0, .string ⟨#[]⟩] 36 (0, 0))) := Lib.hid ((put3_other _ _ _ (by omega)).trans ((put3_other _ _ _ (by omega)).trans (HZ3.out)))
  have BN : Hid (Below w.heap.size w (((((((W3).setCell ⟨W.heap.size, 0, none⟩ (.int .i64 k0)).setCell ⟨W.heap.size, 1, none⟩ (.int .i64 i0)).setCell ⟨W.heap.size, 2, none⟩ (.string s0)).setCell ⟨W.heap.size + 1, 0, none⟩ (.int .i64 k1)).setCell ⟨W.heap.size + 1, 1, none⟩ (.int .i64 i1)).setCell ⟨W.heap.size + 1, 2, none⟩ (.string s1))) := Lib.hid (put3_below (put3_below (HB3.out) (by omega) _ _ _) (by omega) _ _ _)
  have hsN : W.heap.size < (((((((W3).setCell ⟨W.heap.size, 0, none⟩ (.int .i64 k0)).setCell ⟨W.heap.size, 1, none⟩ (.int .i64 i0)).setCell ⟨W.heap.size, 2, none⟩ (.string s0)).setCell ⟨W.heap.size + 1, 0, none⟩ (.int .i64 k1)).setCell ⟨W.heap.size + 1, 1, none⟩ (.int .i64 i1)).setCell ⟨W.heap.size + 1, 2, none⟩ (.string s1)).heap.size := by simp only [size_put]; have := lt_of_block HZ10.out; omega
  clear HZ10 HZ11 HZ12 HZ3 HB3 c0 c1 c2 xa0 xa1 xa2 fa0 fa1 fa2 c3 c4 c5 xb0 xb1 xb2 fb0 fb1 fb2
  generalize ((((((W3).setCell ⟨W.heap.size, 0, none⟩ (.int .i64 k0)).setCell ⟨W.heap.size, 1, none⟩ (.int .i64 i0)).setCell ⟨W.heap.size, 2, none⟩ (.string s0)).setCell ⟨W.heap.size + 1, 0, none⟩ (.int .i64 k1)).setCell ⟨W.heap.size + 1, 1, none⟩ (.int .i64 i1)).setCell ⟨W.heap.size + 1, 2, none⟩ (.string s1) = Wn at *
  go_upto_region 31 with fail
  have BA := (Below.refl Wn.heap.size Wn).alloc (Nat.le_refl _) (.cells #[.int .i64 5, .int .i64 0, .string ⟨#[]⟩] 36)
  have BV := Lib.hid (BN.out.trans (BA.mono BN.out.size))
  have HV := Lib.hid (heap_alloc_new Wn (.cells #[.int .i64 5, .int .i64 0, .string ⟨#[]⟩] 36))
  have ZC0 := Lib.hid ((BA.block _ (lt_of_block ZB0.out)).trans ZB0.out)
  have ZC1 := Lib.hid ((BA.block _ (lt_of_block ZB1.out)).trans ZB1.out)
  have HRV := Lib.hid ((BA.block R (by omega)).trans HR0.out)
  have hsV : R < (Wn.alloc (.cells #[.int .i64 5, .int .i64 0, .string ⟨#[]⟩] 36)).heap.size := lt_of_block HRV.out
  clear BA BN HR0 hsN ZB0 ZB1
  generalize Wn.alloc (.cells #[.int .i64 5, .int .i64 0, .string ⟨#[]⟩] 36) = Wv at *
  generalize Wn.heap.size = V at *
  obtain ⟨⟨xa0, xa1, xa2⟩, -⟩ := look3 ZC0.out
  obtain ⟨⟨xb0, xb1, xb2⟩, -⟩ := look3 ZC1.out
  have KG := Lib.hid (rput_any k0 i0 s0 1 k1 i1 s1 ok1 hb T F Wv (HH.out.below BV.out) (fun b hf => Nat.lt_of_lt_of_le (HF.out b hf) BV.out.size) h0 hlt)
  obtain ⟨q, HQE⟩ : ∃ q, Hid (q = putT T ⟨k0, i0, s0⟩ 1 ⟨k1, i1, s1⟩) := ⟨_, Lib.hid rfl⟩
  rw [← HQE.out] at KG
  obtain ⟨⟨qk, qi, qs⟩, qe, qT⟩ := q
  go_wp2_with fail
  refine KG.out.mono ?_
  rintro e w5 hA
  obtain ⟨he, F', q1, q2, q3, q4⟩ := hA.use hsV (fun hf => by have := HF.out _ hf; omega)
  unfold VE at he
  subst he
  have HQ := Lib.hid (putR_res q1 ((Stp.of_below BV.out).trans q2) q3 hR (.int .i64 qk) (.int .i64 qi) (.string qs))
  have HR5 := Lib.hid (q4.trans HRV.out)
  obtain ⟨⟨y0, y1, y2⟩, f0, f1, f2⟩ := look3 HR5.out
  clear hA q1 q2 q3 q4
  go_wp2
  exact bodyPost_ret (res_ve (t := 7) (p := 6) rfl _ _ R _ _ _ rfl (put3 HR5.out _ _ _)) rfl (by rw [hr.out, ← HQE.out]; exact ⟨rfl, F', HQ.out.1, HQ.out.2⟩)
end Go.Proofs.YtpejhilfopjckaaDoor.Hp
