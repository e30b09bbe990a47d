/-
  The walk of Utf16Turns: for all numbers and both orders it returns true; nothing that was there changes.
-/
import Derived.Test.YtbocibecjndooaaUcsJ
namespace Go.Proofs.Ytbocibecjndooaa.C
open Go.RowKit

/-- the scalars of numbers -/
def scalL (zs : List Int) : List Int := (zs.map (· % 1114112)).filter rightB
theorem scalL_snoc (zs : List Int) (k : Int) (h : rightB (k % 1114112) = true) : scalL (zs ++ [k]) = scalL zs ++ [k % 1114112] := by simp [scalL, h]
theorem scalL_same (zs : List Int) (k : Int) (h : rightB (k % 1114112) = false) : scalL (zs ++ [k]) = scalL zs := by simp [scalL, h]
theorem scalL_len (zs : List Int) : (scalL zs).length ≤ zs.length := by
  have := List.length_filter_le rightB (zs.map (· % 1114112))
  simpa [scalL] using this
theorem scalL_good (zs : List Int) : ∀ c ∈ scalL zs, rightB c = true ∧ 0 ≤ c := by
  intro c hc
  obtain ⟨h1, h2⟩ := List.mem_filter.1 hc
  obtain ⟨z, _, rfl⟩ := List.mem_map.1 h1
  exact ⟨h2, by omega⟩
theorem row_u32 {w : World} {a : Option Addr} {len cap : Nat} {zs : List Int} (h : L.IsRow .u32 w a len cap zs) : ∀ z ∈ zs.take len, 0 ≤ z ∧ z ≤ 4294967295 := by
  rcases h with ⟨rfl, rfl, rfl, rfl⟩ | ⟨x, rfl, hl, hm, hz, hc, hw⟩
  · intro z hz; simp at hz
  · intro z hz
    exact bounds_u32 (hw z (List.mem_of_mem_take hz))

/-- what stands in the row when k bytes have been turned -/
def swTo (zs : List Int) (k : Nat) : List Int := swapL (zs.take k) ++ zs.drop k
theorem swap_len : ∀ zs : List Int, (swapL zs).length = zs.length
  | [] => rfl
  | [_] => rfl
  | _ :: _ :: t => by simp [swapL, swap_len t]
theorem swap_two : ∀ (xs : List Int) (a b : Int), xs.length % 2 = 0 → swapL (xs ++ [a, b]) = swapL xs ++ [b, a]
  | [], _, _, _ => rfl
  | [_], _, _, h => by simp at h
  | x :: y :: t, a, b, h => by
    have := swap_two t a b (by simp at h; omega)
    simp [swapL, this]
theorem swTo_zero (zs : List Int) : swTo zs 0 = zs := rfl
theorem swTo_len (zs : List Int) (k : Nat) : (swTo zs k).length = zs.length := by
  unfold swTo
  rw [List.length_append, swap_len, ← List.length_append, List.take_append_drop]
theorem swTo_all {zs : List Int} {k : Nat} (h : zs.length ≤ k) : swTo zs k = swapL zs := by
  unfold swTo
  rw [List.take_of_length_le h, List.drop_of_length_le h, List.append_nil]
theorem swTo_at {zs : List Int} {k j : Nat} (hk : k ≤ zs.length) : (swTo zs k)[k + j]? = zs[k + j]? := by
  unfold swTo
  rw [List.getElem?_append_right (by rw [swap_len, List.length_take]; omega), swap_len, List.length_take, List.getElem?_drop]
  congr 1
  omega
theorem swTo_step {zs : List Int} {k : Nat} {a b : Int} (h0 : zs[k]? = some a) (h1 : zs[k + 1]? = some b) (he : k % 2 = 0) : ((swTo zs k).set k b).set (k + 1) a = swTo zs (k + 2) := by
  have hl : k + 1 < zs.length := (List.getElem?_eq_some_iff.1 h1).1
  have e2 : zs.take (k + 2) = zs.take k ++ [a, b] := by
    rw [show k + 2 = (k + 1) + 1 by omega, take_snoc h1, take_snoc h0]
    simp
  have hln : (swapL (zs.take k)).length = k := by rw [swap_len, List.length_take]; omega
  unfold swTo
  rw [e2, swap_two _ a b (by rw [List.length_take]; omega), drop_two h0 h1]
  rw [List.set_append_right _ _ (by rw [hln]; exact Nat.le_refl _), hln, Nat.sub_self, List.set_append_right _ _ (by rw [hln]; omega), hln]
  simp

set_option maxHeartbeats 4000000 in
theorem utf16TurnsWalk (a0 : Option Addr) (len0 cap0 : Nat) (z0 : List Int) (g : Bool) (w : World) (w0 : L.IsRow .u32 w a0 len0 cap0 z0) (_q0 : cap0 * 4 ≤ 140737488351232) :
    Calls Try.prog 8 #[.slice a0 len0 cap0, .bool g] w fun e w' => e = .returned (.bool true) ∧ Below w.heap.size w w' := by
  obtain ⟨i0, hi, hz0, hz1, hz2⟩ := info_parts info33
  have hr0 := RI.of_row w0
  have hzz := row_u32 w0
  have hlen : len0 ≤ 9223372036854775807 := by have := row_len w0; unfold maxLen at this; omega
  generalize z0.take len0 = zs at *
  have HX := Lib.hid hr0
  have HZ := Lib.hid hzz
  clear w0 hr0 hzz
  go_enter Try.func8, Try.ntmps8
  go_wp2
  go_loopw [5, 6] (fun v iv wr => ∃ i m : Nat, i ≤ len0 ∧ i ≤ 60 ∧ m ≤ i ∧ iv = .int .i64 i ∧ Hid ((scalL (zs.take i)).length = m) ∧ Hid (wr.ownsRow w.heap.size 28 1 v m ((scalL (zs.take i)).map (Value.int .i32))) ∧ Below w.heap.size w wr) (fun _ iv _ => 60 - (intOf iv).toNat)
  case atStart => exact ⟨0, 0, by omega, by omega, by omega, rfl, rfl, World.ownsRow_nil _ _ _ _, Below.refl _ _⟩
  case round =>
    obtain ⟨i, m, hin, hi60, hmi, rfl, HM, HW, hb⟩ := hrel
    have hsz := hb.size
    by_cases hlt : i < len0 ∧ i < 60
    · obtain ⟨h1, h2⟩ := hlt
      obtain ⟨ad, k, rfl, hbl, hk, hcell⟩ := HX.out.at_ h1
      have hcr : wr.cell? (ad.add i) = some (.int .u32 k) := (hb.cell (p := ad.add i) (by rw [block_of_add]; omega)).trans hcell
      obtain ⟨k0, k1⟩ := HZ.out k (List.mem_of_getElem? hk)
      have HK := Lib.hid hk
      clear hk hcell
      cases hru : rightB (k % 1114112) with
      | true =>
        have HRU := Lib.hid hru
        clear hru
        go_wp2_with fail
        refine (refRight_is (k % 1114112) wr true HRU.out).mono ?_
        rintro e w' ⟨rfl, rfl⟩
        go_wp2_with (at_builtin; (refine wpList_append_own _ rfl _ _ 24 rfl w.heap.size 28 i0 (.int .i32 0) 1 4 Try.underlying24 hi hz0 hz1 hz2 rfl (by decide) _ _ _ rfl (HW.out.alloc _) _ 1 1 [.int .i32 (k % 1114112)] rfl rfl (cell_one_new _ _ _) (by intro u hu; simp at hu; subst hu; rfl) (by unfold maxLen; omega) (by omega) (by simp; omega) ?_); intro v' w3 hown' hgrow _; have HO3 := Lib.hid hown'; have HG3 := Lib.hid hgrow; clear hown' hgrow)
        have hown2 : Hid (w3.ownsRow w.heap.size 28 1 v' (m + 1) ((scalL (zs.take (i + 1))).map (Value.int .i32))) := by
          rw [take_snoc HK.out, scalL_snoc _ _ HRU.out]
          simpa [Hid] using HO3.out
        have hm2 : Hid ((scalL (zs.take (i + 1))).length = m + 1) := by
          rw [take_snoc HK.out, scalL_snoc _ _ HRU.out]
          have := HM.out
          show _ = _
          simp [this]
        go_roundw
        case rel => exact ⟨i + 1, m + 1, by omega, by omega, by omega, by go_num, hm2, hown2, (hb.alloc (by omega) _).grown HG3.out (by simp; omega) (fun g hg => (HW.out.lt g hg).1)⟩
        case measure => simp [intOf]; omega
      | false =>
        have HRU := Lib.hid hru
        clear hru
        have hown2 : Hid (wr.ownsRow w.heap.size 28 1 u5 m ((scalL (zs.take (i + 1))).map (Value.int .i32))) := by
          rw [take_snoc HK.out, scalL_same _ _ HRU.out]
          exact HW
        have hm2 : Hid ((scalL (zs.take (i + 1))).length = m) := by
          rw [take_snoc HK.out, scalL_same _ _ HRU.out]
          exact HM
        go_wp2_with fail
        refine (refRight_is (k % 1114112) wr false HRU.out).mono ?_
        rintro e w' ⟨rfl, rfl⟩
        go_wp2
        go_roundw
        case rel => exact ⟨i + 1, m, by omega, by omega, by omega, by go_num, hm2, hown2, hb⟩
        case measure => simp [intOf]; omega
    · obtain ⟨wp, hwp⟩ : ∃ wp, wp = wr := ⟨_, rfl⟩
      subst hwp
      obtain ⟨A1, c1, rfl, h1c, h1m, hr1⟩ := own_slice2 HW.out
      have hgood := scalL_good (zs.take i)
      have hcan := canon_enc hgood
      have hall : (scalL (zs.take i)).all rightB = true := List.all_eq_true.2 fun c hc => (hgood c hc).1
      have hbl := (encL_len g (scalL (zs.take i))).2
      have heven := enc_even g fun c hc => (hgood c hc).2
      have hswap := swap_enc g fun c hc => (hgood c hc).2
      have hback := dec_enc (!g) hgood
      rw [HM.out] at hbl
      have HC := Lib.hid hcan
      have HAL := Lib.hid hall
      have HSWP := Lib.hid hswap
      have HBK := Lib.hid hback
      have HR1 := Lib.hid hr1
      clear hgood hcan hall hswap hback hr1 HW HM
      generalize scalL (zs.take i) = l at *
      have hor : ¬ i < len0 ∨ (i < len0 ∧ ¬ i < 60) := by omega
      clear hlt
      rcases hor with ho | ⟨ho1, ho2⟩
      all_goals
        go_wp2_with fail
        with_reducible refine (encode_yes g wp wp.heap.size A1 m c1 l HR1.out (Nat.le_refl _) (by omega) HAL.out).mono ?_
        rintro e w2 ⟨v2, rfl, hown2, hb2⟩
        obtain ⟨A2, c2, rfl, h2c, h2m, hr2⟩ := own_slice2 hown2
        have HO2 := Lib.hid hown2
        have hs2 := hb2.size
        have HBD := Lib.hid (all_bd (!g) HAL.out)
        clear hown2 hr2
        generalize hln : (encL g l).length = ln at *
        have HLN := Lib.hid hln
        clear hln
        have t1 : (ln : Int) ≤ 4 * (m : Int) := by omega
        have t2 : (ln : Int) % 2 = 0 := by omega
        unfold maxLen at h2m
        go_wp2
        go_loopw [10] (fun iv wr => ∃ k : Nat, k ≤ ln ∧ k % 2 = 0 ∧ iv = .int .i64 k ∧ Hid (wr.ownsRow wp.heap.size 5 1 (.slice A2 ln c2) ln ((swTo (encL g l) k).map (Value.int .u8))) ∧ Below wp.heap.size wp wr) (fun iv _ => ln - (intOf iv).toNat)
        case atStart => exact ⟨0, by omega, by omega, rfl, HO2.out, hb2⟩
        case round =>
          obtain ⟨k, hk, hke, rfl, HQ, hbq⟩ := hrel
          have hsq := hbq.size
          by_cases hgo : k + 1 < ln
          · obtain ⟨a, ha⟩ : ∃ a, (encL g l)[k]? = some a := ⟨_, List.getElem?_eq_getElem (by rw [HLN.out]; omega)⟩
            obtain ⟨b, hb⟩ : ∃ b, (encL g l)[k + 1]? = some b := ⟨_, List.getElem?_eq_getElem (by rw [HLN.out]; omega)⟩
            obtain ⟨g2, c2', hv2, hg2, hg2'⟩ := HQ.out.form (by omega)
            injection hv2 with hA2 _ hc2
            subst hA2 hc2
            have hca : wr.cell? ⟨g2, k, none⟩ = some (.int .u8 a) := by
              have e := swTo_at (zs := encL g l) (k := k) (j := 0) (by rw [HLN.out]; omega)
              rw [Nat.add_zero, ha] at e
              rw [HQ.out.cellAt k (by omega), List.getElem?_map, e]
              rfl
            have hcb : wr.cell? ⟨g2, k + 1, none⟩ = some (.int .u8 b) := by
              rw [HQ.out.cellAt (k + 1) (by omega), List.getElem?_map, swTo_at (by rw [HLN.out]; omega), hb]
              rfl
            have hfa : wr.frozen? ⟨g2, k, none⟩ = false := HQ.out.frozenAt k
            have hfb : wr.frozen? ⟨g2, k + 1, none⟩ = false := HQ.out.frozenAt (k + 1)
            have HA := Lib.hid ha
            have HB := Lib.hid hb
            have hke' : Hid (k % 2 = 0) := hke
            clear ha hb hke
            have hst1 := HQ.out.stored k (.int .u8 b)
            obtain ⟨ho1, hgr1⟩ := hst1
            have hst2 := ho1.stored (k + 1) (.int .u8 a)
            obtain ⟨ho2, hgr2⟩ := hst2
            have hbs : Below wp.heap.size wp ((wr.setCell ⟨g2, k, none⟩ (.int .u8 b)).setCell ⟨g2, k + 1, none⟩ (.int .u8 a)) :=
              (hbq.grown hgr1 hsq (fun q hq => by injection hq with hq; omega)).grown hgr2 (by simp; omega) (fun q hq => by injection hq with hq; omega)
            have hos : ((wr.setCell ⟨g2, k, none⟩ (.int .u8 b)).setCell ⟨g2, k + 1, none⟩ (.int .u8 a)).ownsRow wp.heap.size 5 1 (.slice (some ⟨g2, 0, none⟩) ln c2) ln ((swTo (encL g l) (k + 2)).map (Value.int .u8)) := by
              rw [← swTo_step HA.out HB.out hke'.out, List.map_set, List.map_set]
              exact ho2
            have HBS := Lib.hid hbs
            have HOS := Lib.hid hos
            clear ho1 ho2 hgr1 hgr2 hbs hos
            have q0 : (k : Int) < (ln : Int) := by omega
            have q2 : (k : Int) + 1 < (ln : Int) := by omega
            go_wp2
            go_roundw
            case rel => exact ⟨k + 2, by omega, by have := hke'.out; omega, by go_num, HOS.out, HBS.out⟩
            case measure => simp [intOf]; omega
          · have hkl : k = ln := by omega
            have hsw : swTo (encL g l) k = encL (!g) l := by rw [swTo_all (by rw [HLN.out]; omega)]; exact HSWP.out
            have ho : wr.ownsRow wp.heap.size 5 1 (.slice A2 ln c2) ln ((encL (!g) l).map (Value.int .u8)) := by rw [← hsw]; exact HQ.out
            obtain ⟨A3, c3, hv3, h3c, _, hr3⟩ := own_slice2 ho
            injection hv3 with hA3 _ hc3
            subst hA3 hc3
            have HR3 := Lib.hid hr3
            have BQ : Below w.heap.size w wr := hb.trans (hbq.mono hsz)
            have hx1 : RI .i32 wr wp.heap.size A1 m l := HR1.out.below hbq
            have HX1 := Lib.hid hx1
            have q0 : ¬ (k : Int) + 1 < (ln : Int) := by omega
            have hll : l.length = m := HR1.out.len
            have HLL := Lib.hid hll
            clear hkl hsw ho hr3 hx1 hll HQ HO2 HR1
            go_wp2_with fail
            with_reducible refine (known_any wr).mono ?_
            rintro e w3 ⟨rfl, hb3⟩
            have hs3 := hb3.size
            have B3 : Below w.heap.size w w3 := BQ.trans (hb3.mono (by omega))
            go_wp2_with fail
            with_reducible refine (decode_any (!g) w3 wr.heap.size A2 ln c2 (encL (!g) l) (HR3.out.below hb3) hs3 HBD.out h2c (by omega) (by unfold maxLen; omega)).mono ?_
            rintro e w4 ⟨v4, rfl, hown4, hb4⟩
            rw [HBK.out, HLL.out] at hown4
            obtain ⟨A4, c4, rfl, h4c, h4m, hr4⟩ := own_slice2 hown4
            have HR4 := Lib.hid hr4
            have hs4 := hb4.size
            have B4 : Below w.heap.size w w4 := B3.trans (hb4.mono (by omega))
            have hx4 : RI .i32 w4 wp.heap.size A1 m l := (HX1.out.on hb3 hsq).on hb4 (by omega)
            have HX4 := Lib.hid hx4
            clear hown4 hr4 hx4
            go_wp2_with fail
            with_reducible refine (same_is w4 w4.heap.size wp.heap.size A4 A1 m c4 m c1 l l true (by simp [sameB]) HR4.out HX4.out (by unfold maxLen; omega) (by unfold maxLen; omega)).mono ?_
            rintro e w5 ⟨rfl, hb5⟩
            have hs5 := hb5.size
            have B5 : Below w.heap.size w w5 := B4.trans (hb5.mono (by omega))
            go_wp2_with fail
            with_reducible refine (canonical_is w5 wp.heap.size A1 m c1 l (HX4.out.on hb5 (by omega)) (by omega) (by omega) true HC.out).mono ?_
            rintro e w6 ⟨rfl, hb6⟩
            go_wp2
            go_ret
            exact ⟨rfl, B5.trans (hb6.mono (by omega))⟩
end Go.Proofs.Ytbocibecjndooaa.C
