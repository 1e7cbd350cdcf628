/-
Package core's seek, for every expression. No condition.
-/
import Derived.Test.YtgajendgephkaaaGreatDoorK34
import Derived.Test.YtgajendgephkaaaGreatDoorK35
namespace Go.Proofs.YtgajendgephkaaaGreatDoor.Core
open Go.ChangeShapes Go.WideShapes Go.ChangeAt Go.RowKit Go.Deep
open Dat (PT ok64)
set_option maxRecDepth 100000

theorem seek_step (k : Int) (nm : ByteArray) (ns : List ByteArray) (ck ci : Int) (cs : ByteArray) (cl : List PT) (l : List PE) (ih : ∀ t ∈ l, SeekOk t) : SeekOk (.mk k nm ns (.mk ck ci cs cl) l) := by
  intro w S bb fb n B F vn vd vk h hS hne hB hF hBn hsz
  have h0 := h
  obtain ⟨⟨_, _, an, cn, rfl, hln, hmn, _⟩, ⟨_, _, _, ad, cd, rfl, _⟩, ak, c, rfl, hl, hm, ha, hr⟩ := h
  have hfr : fromT k l.length ≤ l.length := by unfold fromT; split; omega; split; omega; omega
  rw [sizeE] at hsz ⊢
  rw [seekE]
  show Calls Tryz.prog 31 #[.agg #[.map (some bb), .map (some fb)], .agg #[.int .i64 k, .string nm, .slice an ns.length cn, .int .i64 ck, .int .i64 ci, .string cs, .slice ad cl.length cd, .slice ak l.length c]] w _
  by_cases hv : k = 1 ∨ k = 2
  · by_cases hb : B nm = 0
    · rw [if_pos ⟨hv, hb⟩]
      rcases hr with hl0 | ⟨b0, o0, rfl, _⟩
      · have hll : l.length ≤ 0 := by rw [hl0]; exact Nat.le_refl _
        match ak, ha, h0 with
        | none, ha, h0 => exact seek_v3_vf k nm ns ck ci cs cl l ih w S bb fb n B F an ad cn cd c h0 hS hne hB hF hBn hsz hln hmn hl hm hll (by rw [ha rfl]; exact Nat.le_refl _) ⟨hv, hb⟩
        | some ak0, _, h0 =>
          by_cases hc : c ≤ 0
          · exact seek_v4_vf k nm ns ck ci cs cl l ih w S bb fb n B F an ad cn cd c ak0 h0 hS hne hB hF hBn hsz hln hmn hl hm hll hc ⟨hv, hb⟩
          · exact seek_v5_vf k nm ns ck ci cs cl l ih w S bb fb n B F an ad cn cd c ak0 h0 hS hne hB hF hBn hsz hln hmn hl hm hll (by omega) ⟨hv, hb⟩
      · by_cases hc : fromT k l.length < c
        · exact seek_v1_vf k nm ns ck ci cs cl l ih w S bb fb n B F an ad cn cd c b0 o0 h0 hS hne hB hF hBn hsz hln hmn hl hm hc ⟨hv, hb⟩
        · exact seek_v2_vf k nm ns ck ci cs cl l ih w S bb fb n B F an ad cn cd c b0 o0 h0 hS hne hB hF hBn hsz hln hmn hl hm (by omega) ⟨hv, hb⟩
    · rw [if_neg (fun h => hb h.2)]
      rcases hr with hl0 | ⟨b0, o0, rfl, _⟩
      · have hll : l.length ≤ 0 := by rw [hl0]; exact Nat.le_refl _
        match ak, ha, h0 with
        | none, ha, h0 => exact seek_v3_vb k nm ns ck ci cs cl l ih w S bb fb n B F an ad cn cd c h0 hS hne hB hF hBn hsz hln hmn hl hm hll (by rw [ha rfl]; exact Nat.le_refl _) ⟨hv, hb⟩
        | some ak0, _, h0 =>
          by_cases hc : c ≤ 0
          · exact seek_v4_vb k nm ns ck ci cs cl l ih w S bb fb n B F an ad cn cd c ak0 h0 hS hne hB hF hBn hsz hln hmn hl hm hll hc ⟨hv, hb⟩
          · exact seek_v5_vb k nm ns ck ci cs cl l ih w S bb fb n B F an ad cn cd c ak0 h0 hS hne hB hF hBn hsz hln hmn hl hm hll (by omega) ⟨hv, hb⟩
      · by_cases hc : fromT k l.length < c
        · exact seek_v1_vb k nm ns ck ci cs cl l ih w S bb fb n B F an ad cn cd c b0 o0 h0 hS hne hB hF hBn hsz hln hmn hl hm hc ⟨hv, hb⟩
        · exact seek_v2_vb k nm ns ck ci cs cl l ih w S bb fb n B F an ad cn cd c b0 o0 h0 hS hne hB hF hBn hsz hln hmn hl hm (by omega) ⟨hv, hb⟩
  · rw [if_neg (fun h => hv h.1)]
    rcases hr with hl0 | ⟨b0, o0, rfl, _⟩
    · have hll : l.length ≤ 0 := by rw [hl0]; exact Nat.le_refl _
      match ak, ha, h0 with
      | none, ha, h0 => exact seek_v3_nv k nm ns ck ci cs cl l ih w S bb fb n B F an ad cn cd c h0 hS hne hB hF hBn hsz hln hmn hl hm hll (by rw [ha rfl]; exact Nat.le_refl _) hv
      | some ak0, _, h0 =>
        by_cases hc : c ≤ 0
        · exact seek_v4_nv k nm ns ck ci cs cl l ih w S bb fb n B F an ad cn cd c ak0 h0 hS hne hB hF hBn hsz hln hmn hl hm hll hc hv
        · exact seek_v5_nv k nm ns ck ci cs cl l ih w S bb fb n B F an ad cn cd c ak0 h0 hS hne hB hF hBn hsz hln hmn hl hm hll (by omega) hv
    · by_cases hc : fromT k l.length < c
      · exact seek_v1_nv k nm ns ck ci cs cl l ih w S bb fb n B F an ad cn cd c b0 o0 h0 hS hne hB hF hBn hsz hln hmn hl hm hc hv
      · exact seek_v2_nv k nm ns ck ci cs cl l ih w S bb fb n B F an ad cn cd c b0 o0 h0 hS hne hB hF hBn hsz hln hmn hl hm (by omega) hv
mutual
theorem seek_any : ∀ t : PE, SeekOk t
  | .mk k nm ns (.mk ck ci cs cl) l => seek_step k nm ns ck ci cs cl l (seek_all l)
theorem seek_all : ∀ l : List PE, ∀ t ∈ l, SeekOk t
  | [], t, h => by cases h
  | u :: l, t, h => (List.mem_cons.1 h).elim (fun e => e ▸ seek_any u) (fun h => seek_all l t h)
end
end Go.Proofs.YtgajendgephkaaaGreatDoor.Core
