/-
  The walk of Utf8Scalars: for all numbers it returns true; nothing that was there changes. Condition: the decoder's two tables stand as they were laid.
-/
import Derived.Test.YtiffofchjmfbpaaDoorUtfI
namespace Go.Proofs.YtiffofchjmfbpaaDoor.C
open Go.RowKit

/-- the scalars of numbers -/
def scalL (zs : List Int) : List Int := (zs.map (· % 1114112)).filter rightB
theorem scalL_snoc (zs : List Int) (k : Int) (h : rightB (k % 1114112) = true) : scalL (zs ++ [k]) = scalL zs ++ [k % 1114112] := by simp [scalL, h]
theorem scalL_same (zs : List Int) (k : Int) (h : rightB (k % 1114112) = false) : scalL (zs ++ [k]) = scalL zs := by simp [scalL, h]
theorem scalL_len (zs : List Int) : (scalL zs).length ≤ zs.length := by
  have := List.length_filter_le rightB (zs.map (· % 1114112))
  simpa [scalL] using this
theorem scalL_good (zs : List Int) : ∀ c ∈ scalL zs, rightB c = true ∧ 0 ≤ c := by
  intro c hc
  obtain ⟨h1, h2⟩ := List.mem_filter.1 hc
  obtain ⟨z, _, rfl⟩ := List.mem_map.1 h1
  exact ⟨h2, by omega⟩
theorem row_u32 {w : World} {a : Option Addr} {len cap : Nat} {zs : List Int} (h : L.IsRow .u32 w a len cap zs) : ∀ z ∈ zs.take len, 0 ≤ z ∧ z ≤ 4294967295 := by
  rcases h with ⟨rfl, rfl, rfl, rfl⟩ | ⟨x, rfl, hl, hm, hz, hc, hw⟩
  · intro z hz; simp at hz
  · intro z hz
    exact bounds_u32 (hw z (List.mem_of_mem_take hz))

set_option maxHeartbeats 4000000 in
theorem utf8ScalarsWalk (a0 : Option Addr) (len0 cap0 : Nat) (z0 : List Int) (w : World) (hT : Lib.Utf8Tabs 0 1 w) (w0 : L.IsRow .u32 w a0 len0 cap0 z0) (_q0 : cap0 * 4 ≤ 140737488351232) :
    Calls Tryd.prog 9 #[.slice a0 len0 cap0] w fun e w' => e = .returned (.bool true) ∧ Below w.heap.size w w' := by
  obtain ⟨i0, hi, hz0, hz1, hz2⟩ := info_parts info33
  have hr0 := RI.of_row w0
  have hzz := row_u32 w0
  have hlen : len0 ≤ 9223372036854775807 := by have := row_len w0; unfold maxLen at this; omega
  generalize z0.take len0 = zs at *
  have HT := Lib.hid hT
  have HX := Lib.hid hr0
  have HZ := Lib.hid hzz
  clear hT w0 hr0 hzz
  go_enter Tryd.func9, Tryd.ntmps9
  go_wp2
  go_loopw [3, 4] (fun v iv wr => ∃ i m : Nat, i ≤ len0 ∧ i ≤ 60 ∧ m ≤ i ∧ iv = .int .i64 i ∧ Hid ((scalL (zs.take i)).length = m) ∧ Hid (wr.ownsRow w.heap.size 32 1 v m ((scalL (zs.take i)).map (Value.int .i32))) ∧ Below w.heap.size w wr) (fun _ iv _ => 60 - (intOf iv).toNat)
  case atStart => exact ⟨0, 0, by omega, by omega, by omega, rfl, rfl, World.ownsRow_nil _ _ _ _, Below.refl _ _⟩
  case round =>
    obtain ⟨i, m, hin, hi60, hmi, rfl, HM, HW, hb⟩ := hrel
    have hsz := hb.size
    by_cases hlt : i < len0 ∧ i < 60
    · obtain ⟨h1, h2⟩ := hlt
      obtain ⟨ad, k, rfl, hbl, hk, hcell⟩ := HX.out.at_ h1
      have hcr : wr.cell? (ad.add i) = some (.int .u32 k) := (hb.cell (p := ad.add i) (by rw [block_of_add]; omega)).trans hcell
      obtain ⟨k0, k1⟩ := HZ.out k (List.mem_of_getElem? hk)
      have HK := Lib.hid hk
      clear hk hcell
      cases hru : rightB (k % 1114112) with
      | true =>
        have HRU := Lib.hid hru
        clear hru
        go_wp2_with fail
        refine (refRight_is (k % 1114112) wr true HRU.out).mono ?_
        rintro e w' ⟨rfl, rfl⟩
        go_wp2_with (at_builtin; (refine wpList_append_own _ rfl _ _ 28 rfl w.heap.size 32 i0 (.int .i32 0) 1 4 Tryd.underlying28 hi hz0 hz1 hz2 rfl (by decide) _ _ _ rfl (HW.out.alloc _) _ 1 1 [.int .i32 (k % 1114112)] rfl rfl (cell_one_new _ _ _) (by intro u hu; simp at hu; subst hu; rfl) (by unfold maxLen; omega) (by omega) (by simp; omega) ?_); intro v' w3 hown' hgrow _; have HO3 := Lib.hid hown'; have HG3 := Lib.hid hgrow; clear hown' hgrow)
        have hown2 : Hid (w3.ownsRow w.heap.size 32 1 v' (m + 1) ((scalL (zs.take (i + 1))).map (Value.int .i32))) := by
          rw [take_snoc HK.out, scalL_snoc _ _ HRU.out]
          simpa [Hid] using HO3.out
        have hm2 : Hid ((scalL (zs.take (i + 1))).length = m + 1) := by
          rw [take_snoc HK.out, scalL_snoc _ _ HRU.out]
          have := HM.out
          show _ = _
          simp [this]
        go_roundw
        case rel => exact ⟨i + 1, m + 1, by omega, by omega, by omega, by go_num, hm2, hown2, (hb.alloc (by omega) _).grown HG3.out (by simp; omega) (fun g hg => (HW.out.lt g hg).1)⟩
        case measure => simp [intOf]; omega
      | false =>
        have HRU := Lib.hid hru
        clear hru
        have hown2 : Hid (wr.ownsRow w.heap.size 32 1 u3 m ((scalL (zs.take (i + 1))).map (Value.int .i32))) := by
          rw [take_snoc HK.out, scalL_same _ _ HRU.out]
          exact HW
        have hm2 : Hid ((scalL (zs.take (i + 1))).length = m) := by
          rw [take_snoc HK.out, scalL_same _ _ HRU.out]
          exact HM
        go_wp2_with fail
        refine (refRight_is (k % 1114112) wr false HRU.out).mono ?_
        rintro e w' ⟨rfl, rfl⟩
        go_wp2
        go_roundw
        case rel => exact ⟨i + 1, m, by omega, by omega, by omega, by go_num, hm2, hown2, hb⟩
        case measure => simp [intOf]; omega
    · obtain ⟨A1, c1, rfl, h1c, h1m, hr1⟩ := own_slice2 HW.out
      have hgood := scalL_good (zs.take i)
      have hcan := canon_enc hgood
      have hall : (scalL (zs.take i)).all rightB = true := List.all_eq_true.2 fun c hc => (hgood c hc).1
      have hback := of_enc hgood
      have hbl := encL_len (scalL (zs.take i))
      rw [HM.out] at hbl
      have HG := Lib.hid hgood
      have HC := Lib.hid hcan
      have HAL := Lib.hid hall
      have HBK := Lib.hid hback
      have HR1 := Lib.hid hr1
      clear hgood hcan hall hback hr1 HW HM
      generalize scalL (zs.take i) = l at *
      have hor : ¬ i < len0 ∨ (i < len0 ∧ ¬ i < 60) := by omega
      clear hlt
      rcases hor with ho | ⟨ho1, ho2⟩
      all_goals
        go_wp2_with fail
        with_reducible refine (encode_yes wr wr.heap.size A1 m c1 l HR1.out (Nat.le_refl _) (by omega) HAL.out).mono ?_
        rintro e w2 ⟨v2, rfl, hown2, hb2⟩
        obtain ⟨A2, c2, rfl, h2c, h2m, hr2⟩ := own_slice2 hown2
        have HR2 := Lib.hid hr2
        have hs2 := hb2.size
        have B2 : Below w.heap.size w w2 := hb.trans (hb2.mono hsz)
        clear hown2 hr2
        generalize hln : (encL l).length = ln at *
        have HLN := Lib.hid hln
        clear hln
        have hln1 : ((ln : Int) ≤ 4 * (m : Int)) := by omega
        go_wp2_with fail
        with_reducible refine (known_any w2 (tabs_below HT.out B2)).mono ?_
        rintro e w3 ⟨rfl, hb3⟩
        have hs3 := hb3.size
        have B3 : Below w.heap.size w w3 := B2.trans (hb3.mono (by omega))
        go_wp2_with fail
        with_reducible refine (decode_any w3 w2.heap.size A2 ln c2 (encL l) (HR2.out.below hb3) hs3 (all_bd HAL.out) h2c (by omega) h2m (tabs_below HT.out B3)).mono ?_
        rintro e w4 ⟨v4, rfl, hown4, hb4⟩
        rw [HBK.out] at hown4
        obtain ⟨A4, c4, rfl, h4c, h4m, hr4⟩ := own_slice2 hown4
        have HR4 := Lib.hid hr4
        have hs4 := hb4.size
        have B4 : Below w.heap.size w w4 := B3.trans (hb4.mono (by omega))
        clear hown4 hr4
        have hll : l.length = m := HR1.out.len
        rw [hll] at HR4 h4c
        rw [hll]
        have HLL := Lib.hid hll
        clear hll
        go_wp2_with fail
        with_reducible refine (same_yes w4 w4.heap.size wr.heap.size A4 A1 m c4 m c1 l l rfl HR4.out (((HR1.out.below hb2).on hb3 hs2).on hb4 (by omega)) (by omega) (by omega)).mono ?_
        rintro e w5 ⟨rfl, q, rfl⟩
        have B5 := below_drewN B4 q
        have hs5 : w4.heap.size ≤ (w4.drewN q).heap.size := Nat.le_refl _
        have hx5 : RI .i32 (w4.drewN q) wr.heap.size A1 m l := (((HR1.out.below hb2).on hb3 hs2).on hb4 (by omega)).drewN q
        have HX5 := Lib.hid hx5
        clear hx5
        generalize w4.drewN q = w5 at *
        go_wp2_with fail
        with_reducible refine (canonical_is w5 wr.heap.size A1 m c1 l HX5.out (by omega) (by omega) (tabs_below HT.out B5) true HC.out).mono ?_
        rintro e w6 ⟨rfl, hb6⟩
        go_wp2
        go_ret
        exact ⟨rfl, B5.trans (hb6.mono (by omega))⟩
end Go.Proofs.YtiffofchjmfbpaaDoor.C
