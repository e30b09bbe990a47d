/-
  The walk of CodecBack: for all bytes and choices it returns true; nothing that was there changes. Condition: the decoder's two tables stand as they were laid.
-/
import Derived.Test.YtijlecfjgcohhaaDoorCdcT
import Derived.Deep.RegionHeld3
namespace Go.Proofs.YtijlecfjgcohhaaDoor.C
open Go.RowKit

set_option maxRecDepth 100000 in
set_option maxHeartbeats 4000000 in
theorem codecBackWalk (a0 : Option Addr) (len0 cap0 : Nat) (z0 : List Int) (a1 : Option Addr) (len1 cap1 : Nat) (z1 : List Int) (k e0 : Int) (w : World) (hT : Lib.Utf8Tabs 0 1 w) (w0 : L.IsRow .u8 w a0 len0 cap0 z0) (w1 : L.IsRow .u8 w a1 len1 cap1 z1) (wk : (Lit.int .u8 k).wf = true) (we : (Lit.int .u8 e0).wf = true) :
    Calls Tryd.prog 7 #[.slice a0 len0 cap0, .slice a1 len1 cap1, .int .u8 k, .int .u8 e0] w fun e w' => e = .returned (.bool true) ∧ Below w.heap.size w w' := by
  obtain ⟨k0, k1⟩ := bounds_u8 wk
  obtain ⟨e00, e01⟩ := bounds_u8 we
  have hr0 := RI.of_row w0
  have hz0 : Bd (z0.take len0) := row_u8 w0
  obtain ⟨hlc, hcm⟩ := row_len w0
  generalize z0.take len0 = zs at *
  have HW1 := Lib.hid w1
  have HR0 := Lib.hid hr0
  have HZ0 := Lib.hid hz0
  have HT := Lib.hid hT
  have HL0 := Lib.hid hr0.len
  clear w0 w1 hr0 hz0 hT
  by_cases hbig : 300 < len0
  · have tb : ((300 : Int) < (len0 : Int)) := by omega
    go_enter Tryd.func7, Tryd.ntmps7
    go_wp2_with fail
    with_reducible refine (known_any w HT.out).mono ?_
    rintro e w1 ⟨rfl, hb1⟩
    go_wp2
    go_ret
    exact ⟨rfl, hb1⟩
  · obtain ⟨q, hq, hq3⟩ : ∃ q : Int, 1 + e0 % 3 = q ∧ (q = 1 ∨ q = 2 ∨ q = 3) := ⟨_, rfl, by omega⟩
    have q0 : 1 ≤ q ∧ q ≤ 3 := by omega
    go_enter Tryd.func7, Tryd.ntmps7
    go_wp2_with fail
    with_reducible refine (known_any w HT.out).mono ?_
    rintro e w1 ⟨rfl, hb1⟩
    have hs1 := hb1.size
    go_wp2_with fail
    with_reducible refine (decodeC_any q hq3 w1 w.heap.size a0 len0 cap0 zs (HR0.out.below hb1) hs1 HZ0.out hlc (by omega) hcm (tabs_below HT.out hb1)).mono ?_
    rintro e w2 ⟨A2, m2, c2, rfl, hm2, h2c, h2m, hr2, hb2⟩
    have hs2 := hb2.size
    have hm2' : m2 ≤ 300 := by have := HL0.out; omega
    obtain ⟨V2, hV2⟩ : ∃ V, V = w2.alloc (.cells #[.int .u8 q, .bool (bigB q zs), .bool (bomB q zs), .slice A2 m2 c2] 26) := ⟨_, rfl⟩
    have hbV2 : Below w2.heap.size w2 V2 := by rw [hV2]; exact (Below.refl _ _).alloc (Nat.le_refl _) _
    have hsV2 := hbV2.size
    have HR2 := Lib.hid (hr2.below hbV2)
    have B2 : Below w.heap.size w V2 := (hb1.trans (hb2.mono hs1)).trans (hbV2.mono (by omega))
    clear hr2
    go_wp2_with fail
    rw [← hV2]
    clear hV2
    with_reducible refine (backC q hq3 V2 w2.heap.size A2 m2 c2 zs HZ0.out HR2.out hsV2 (by omega)).mono ?_
    rintro e w3 ⟨A3, c3, rfl, h3c, h3m, hr3, hb3⟩
    rw [HL0.out] at h3c hr3 ⊢
    have hs3 := hb3.size
    have HR3 := Lib.hid hr3
    have B3 : Below w.heap.size w w3 := B2.trans (hb3.mono (by omega))
    clear hr3
    go_wp2_with fail
    with_reducible refine (mix_row w3 w a1 len1 cap1 k z1 HW1.out B3 k0 k1).mono ?_
    rintro e w4 ⟨A4, n4, c4, rfl, h4c, h4m, h4n, hr4, hb4⟩
    have hx := mixL_bd k (z1.take len1)
    have hs4 := hb4.size
    have HX := Lib.hid hx
    have HLX := Lib.hid hr4.len
    have HR4 := Lib.hid hr4
    have B4 : Below w.heap.size w w4 := B3.trans (hb4.mono (by omega))
    clear hr4 hx
    generalize hxs : mixL k (z1.take len1) = xs at *
    have HXS := Lib.hid hxs
    clear hxs
    go_wp2_with fail
    with_reducible refine (decodeC_any q hq3 w4 w4.heap.size A4 n4 c4 xs HR4.out (Nat.le_refl _) HX.out h4c (by omega) h4m (tabs_below HT.out B4)).mono ?_
    rintro e w5 ⟨A5, m5, c5, rfl, hm5, h5c, h5m, hr5, hb5⟩
    have hs5 := hb5.size
    have hm5' : m5 ≤ 62 := by have := HLX.out; omega
    obtain ⟨V5, hV5⟩ : ∃ V, V = w5.alloc (.cells #[.int .u8 q, .bool (bigB q xs), .bool (bomB q xs), .slice A5 m5 c5] 26) := ⟨_, rfl⟩
    have hbV5 : Below w5.heap.size w5 V5 := by rw [hV5]; exact (Below.refl _ _).alloc (Nat.le_refl _) _
    have hsV5 := hbV5.size
    have HR5 := Lib.hid (hr5.below hbV5)
    have b35 : Below w3.heap.size w3 V5 := hb4.trans ((hb5.mono (by omega)).trans (hbV5.mono (by omega)))
    have B5 : Below w.heap.size w V5 := B4.trans ((hb5.mono (by omega)).trans (hbV5.mono (by omega)))
    clear hr5
    go_wp2_with fail
    rw [← hV5]
    clear hV5
    with_reducible refine (backC q hq3 V5 w5.heap.size A5 m5 c5 xs HX.out HR5.out hsV5 (by omega)).mono ?_
    rintro e w6 ⟨A6, c6, rfl, h6c, h6m, hr6, hb6⟩
    rw [HLX.out] at h6c hr6 ⊢
    have hs6 := hb6.size
    have B6 : Below w.heap.size w w6 := B5.trans (hb6.mono (by omega))
    have ht6 := hr6
    have hp6 : RI .u8 w6 w3.heap.size A3 len0 zs := HR3.out.on (b35.trans (hb6.mono (by omega))) (Nat.le_refl _)
    have hq6 : RI .u8 w6 w.heap.size a0 len0 zs := HR0.out.below B6
    have HT6 := Lib.hid hr6
    have HP6 := Lib.hid hp6
    have HQ6 := Lib.hid hq6
    have cp := conv_ri (w := w6.drew) hp6 c3
    have cq := conv_ri (w := w6.drew) hq6 cap0
    have cr := conv_ri (w := w6.drew) hr6 c6
    clear hr6 ht6 hp6 hq6
    go_wp2_with fail
    refine wp_region_held_drew (S := (fun w' => (convert 22 9 (.slice A3 len0 c3)).run Tryd.prog w' = .ok (.string (sb zs)) w' ∧ (convert 22 9 (.slice a0 len0 cap0)).run Tryd.prog w' = .ok (.string (sb zs)) w' ∧ (convert 22 9 (.slice A6 n4 c6)).run Tryd.prog w' = .ok (.string (sb xs)) w')) (by kernel_rfl) ⟨cp, cq, cr⟩ (fun hHeld => ?_)
    clear cp cq cr
    refine wpAnyH_take (i := 0) (oi := ?oi0) (v := ?v0) ?hi0 (by kernel_rfl) (by kernel_rfl) (by kernel_rfl) ?hq0 (Or.inl ⟨?hw0, ?hy0⟩) (by assumption) ?rest0
    case hi0 => exact rfl
    case hq0 => exact fun _ _ _ h => h
    case hw0 => rfl
    case hy0 => (intro x hx; (try dsimp only at hx); simp only [List.getElem_toArray, List.getElem_cons_zero]; go_simp; try with_reducible rfl)
    try simp only [Act.put, List.setIfInBounds_toArray, List.set_cons_zero, List.set_cons_succ, List.getElem_toArray, List.getElem_cons_zero]
    refine wpAnyH_take (i := 1) (oi := ?oi1) (v := ?v1) ?hi1 (by kernel_rfl) (by kernel_rfl) (by kernel_rfl) ?hq1 (Or.inl ⟨?hw1, ?hy1⟩) (by assumption) ?rest1
    case hi1 => exact rfl
    case hq1 => exact fun _ _ _ h => h
    case hw1 => rfl
    case hy1 => (intro x hx; (try dsimp only at hx); simp only [List.getElem_toArray, List.getElem_cons_succ, List.getElem_cons_zero]; go_simp; try with_reducible rfl)
    try simp only [Act.put, List.setIfInBounds_toArray, List.set_cons_zero, List.set_cons_succ, List.getElem_toArray, List.getElem_cons_succ, List.getElem_cons_zero]
    refine wpAnyH_take (i := 2) (oi := ?oi2) (v := ?v2) ?hi2 (by kernel_rfl) (by kernel_rfl) (by kernel_rfl) ?hq2 (Or.inl ⟨?hw2, ?hy2⟩) (by assumption) ?rest2
    case hi2 => exact rfl
    case hq2 => exact fun _ _ _ h => h
    case hw2 => rfl
    case hy2 => (intro x hx; (try dsimp only at hx); simp only [List.getElem_toArray, List.getElem_cons_succ, List.getElem_cons_zero]; go_simp; try with_reducible rfl)
    try simp only [Act.put, List.setIfInBounds_toArray, List.set_cons_zero, List.set_cons_succ, List.getElem_toArray, List.getElem_cons_succ, List.getElem_cons_zero]
    refine wpAnyH_take (i := 3) (oi := ?oi3) (v := ?v3) ?hi3 (by kernel_rfl) (by kernel_rfl) (by kernel_rfl) ?hq3 (Or.inl ⟨?hw3, ?hy3⟩) (by assumption) ?rest3
    case hi3 => exact rfl
    case hq3 => exact fun _ _ _ h => h
    case hw3 => rfl
    case hy3 => (intro x hx; (try dsimp only at hx); simp only [List.getElem_toArray, List.getElem_cons_succ, List.getElem_cons_zero]; go_simp; try with_reducible rfl)
    try simp only [Act.put, List.setIfInBounds_toArray, List.set_cons_zero, List.set_cons_succ, List.getElem_toArray, List.getElem_cons_succ, List.getElem_cons_zero]
    refine wpAnyH_take (i := 4) (oi := ?oi4) (v := ?v4) ?hi4 (by kernel_rfl) (by kernel_rfl) (by kernel_rfl) ?hq4 (Or.inl ⟨?hw4, ?hy4⟩) (by assumption) ?rest4
    case hi4 => exact rfl
    case hq4 => exact fun _ _ _ h => h
    case hw4 => rfl
    case hy4 => (intro x hx; (try dsimp only at hx); simp only [List.getElem_toArray, List.getElem_cons_succ, List.getElem_cons_zero]; go_simp; try with_reducible rfl)
    try simp only [Act.put, List.setIfInBounds_toArray, List.set_cons_zero, List.set_cons_succ, List.getElem_toArray, List.getElem_cons_succ, List.getElem_cons_zero]
    refine wpAnyH_take (i := 5) (oi := ?oi5) (v := ?v5) ?hi5 (by kernel_rfl) (by kernel_rfl) (by kernel_rfl) ?hq5 (Or.inl ⟨?hw5, ?hy5⟩) (by assumption) ?rest5
    case hi5 => exact rfl
    case hq5 => exact fun _ _ _ h => h
    case hw5 => rfl
    case hy5 => (intro x hx; (try dsimp only at hx); simp only [List.getElem_toArray, List.getElem_cons_succ, List.getElem_cons_zero]; go_simp; try with_reducible rfl)
    try simp only [Act.put, List.setIfInBounds_toArray, List.set_cons_zero, List.set_cons_succ, List.getElem_toArray, List.getElem_cons_succ, List.getElem_cons_zero]
    refine wpAnyH_take (i := 6) (oi := ?oi6) (v := ?v6) ?hi6 (by kernel_rfl) (by kernel_rfl) (by kernel_rfl) ?hq6 (Or.inl ⟨?hw6, ?hy6⟩) (by assumption) ?rest6
    case hi6 => exact rfl
    case hq6 => exact fun _ _ _ h => h
    case hw6 => rfl
    case hy6 => (intro x hx; (try dsimp only at hx); simp only [List.getElem_toArray, List.getElem_cons_succ, List.getElem_cons_zero]; go_simp; try with_reducible rfl)
    try simp only [Act.put, List.setIfInBounds_toArray, List.set_cons_zero, List.set_cons_succ, List.getElem_toArray, List.getElem_cons_succ, List.getElem_cons_zero]
    refine wpAnyH_take (i := 7) (oi := ?oi7) (v := ?v7) ?hi7 (by kernel_rfl) (by kernel_rfl) (by kernel_rfl) ?hq7 (Or.inl ⟨?hw7, ?hy7⟩) (by assumption) ?rest7
    case hi7 => exact rfl
    case hq7 => exact fun _ _ _ h => h
    case hw7 => rfl
    case hy7 => (intro x hx; (try dsimp only at hx); simp only [List.getElem_toArray, List.getElem_cons_succ, List.getElem_cons_zero]; go_simp; try with_reducible rfl)
    try simp only [Act.put, List.setIfInBounds_toArray, List.set_cons_zero, List.set_cons_succ, List.getElem_toArray, List.getElem_cons_succ, List.getElem_cons_zero]
    refine wpAnyH_take (i := 8) (oi := ?oi8) (v := ?v8) ?hi8 (by kernel_rfl) (by kernel_rfl) (by kernel_rfl) ?hq8 (Or.inl ⟨?hw8, ?hy8⟩) (by assumption) ?rest8
    case hi8 => exact rfl
    case hq8 => exact fun _ _ _ h => h
    case hw8 => rfl
    case hy8 => (intro x hx; (try dsimp only at hx); simp only [List.getElem_toArray, List.getElem_cons_succ, List.getElem_cons_zero]; go_simp; try with_reducible rfl)
    try simp only [Act.put, List.setIfInBounds_toArray, List.set_cons_zero, List.set_cons_succ, List.getElem_toArray, List.getElem_cons_succ, List.getElem_cons_zero]
    refine wpAnyH_take (i := 9) (oi := ?oi9) (v := ?v9) ?hi9 (by kernel_rfl) (by kernel_rfl) (by kernel_rfl) ?hq9 (Or.inl ⟨?hw9, ?hy9⟩) (by assumption) ?rest9
    case hi9 => exact rfl
    case hq9 => exact fun _ _ _ h => h
    case hw9 => rfl
    case hy9 => (intro x hx; (try dsimp only at hx); simp only [List.getElem_toArray, List.getElem_cons_succ, List.getElem_cons_zero]; go_simp; try with_reducible rfl)
    try simp only [Act.put, List.setIfInBounds_toArray, List.set_cons_zero, List.set_cons_succ, List.getElem_toArray, List.getElem_cons_succ, List.getElem_cons_zero]
    refine wpAnyH_take (i := 10) (oi := ?oi10) (v := ?v10) ?hi10 (by kernel_rfl) (by kernel_rfl) (by kernel_rfl) ?hq10 (Or.inl ⟨?hw10, ?hy10⟩) (by assumption) ?rest10
    case hi10 => exact rfl
    case hq10 => exact fun _ _ _ h => h
    case hw10 => rfl
    case hy10 => (intro x hx; (try dsimp only at hx); simp only [List.getElem_toArray, List.getElem_cons_succ, List.getElem_cons_zero]; go_simp; try with_reducible rfl)
    try simp only [Act.put, List.setIfInBounds_toArray, List.set_cons_zero, List.set_cons_succ, List.getElem_toArray, List.getElem_cons_succ, List.getElem_cons_zero]
    refine wpAnyH_take (i := 11) (oi := ?oi11) (v := ?v11) ?hi11 (by kernel_rfl) (by kernel_rfl) (by kernel_rfl) ?hq11 (Or.inl ⟨?hw11, ?hy11⟩) (by assumption) ?rest11
    case hi11 => exact rfl
    case hq11 => exact fun _ _ _ h => h
    case hw11 => rfl
    case hy11 => (intro x hx; (try dsimp only at hx); simp only [List.getElem_toArray, List.getElem_cons_succ, List.getElem_cons_zero]; go_simp; try with_reducible rfl)
    try simp only [Act.put, List.setIfInBounds_toArray, List.set_cons_zero, List.set_cons_succ, List.getElem_toArray, List.getElem_cons_succ, List.getElem_cons_zero]
    refine wpAnyH_take (i := 12) (oi := ?oi12) (v := ?v12) ?hi12 (by kernel_rfl) (by kernel_rfl) (by kernel_rfl) ?hq12 (Or.inl ⟨?hw12, ?hy12⟩) (by assumption) ?rest12
    case hi12 => exact rfl
    case hq12 => exact fun _ _ _ h => h
    case hw12 => rfl
    case hy12 => (intro x hx; (try dsimp only at hx); simp only [List.getElem_toArray, List.getElem_cons_succ, List.getElem_cons_zero]; go_simp; try with_reducible rfl)
    try simp only [Act.put, List.setIfInBounds_toArray, List.set_cons_zero, List.set_cons_succ, List.getElem_toArray, List.getElem_cons_succ, List.getElem_cons_zero]
    refine wpAnyH_take (i := 13) (oi := ?oi13) (v := ?v13) ?hi13 (by kernel_rfl) (by kernel_rfl) (by kernel_rfl) ?hq13 (Or.inl ⟨?hw13, ?hy13⟩) (by assumption) ?rest13
    case hi13 => exact rfl
    case hq13 => exact fun _ _ _ h => h
    case hw13 => rfl
    case hy13 => (intro x hx; (try dsimp only at hx); simp only [List.getElem_toArray, List.getElem_cons_succ, List.getElem_cons_zero]; go_simp; try with_reducible rfl)
    try simp only [Act.put, List.setIfInBounds_toArray, List.set_cons_zero, List.set_cons_succ, List.getElem_toArray, List.getElem_cons_succ, List.getElem_cons_zero]
    refine wpAnyH_take (i := 14) (oi := ?oi14) (v := ?v14) ?hi14 (by kernel_rfl) (by kernel_rfl) (by kernel_rfl) ?hq14 (Or.inl ⟨?hw14, ?hy14⟩) (by assumption) ?rest14
    case hi14 => exact rfl
    case hq14 => exact fun _ _ _ h => h
    case hw14 => rfl
    case hy14 => (intro x hx; (try dsimp only at hx); simp only [List.getElem_toArray, List.getElem_cons_succ, List.getElem_cons_zero]; go_simp; try with_reducible rfl)
    try simp only [Act.put, List.setIfInBounds_toArray, List.set_cons_zero, List.set_cons_succ, List.getElem_toArray, List.getElem_cons_succ, List.getElem_cons_zero]
    refine wpAnyH_take (i := 15) (oi := ?oi15) (v := ?v15) ?hi15 (by kernel_rfl) (by kernel_rfl) (by kernel_rfl) ?hq15 (Or.inl ⟨?hw15, ?hy15⟩) (by assumption) ?rest15
    case hi15 => exact rfl
    case hq15 => exact fun _ _ _ h => h
    case hw15 => rfl
    case hy15 => (intro x hx; (try dsimp only at hx); simp only [List.getElem_toArray, List.getElem_cons_succ, List.getElem_cons_zero]; go_simp; try with_reducible rfl)
    try simp only [Act.put, List.setIfInBounds_toArray, List.set_cons_zero, List.set_cons_succ, List.getElem_toArray, List.getElem_cons_succ, List.getElem_cons_zero]
    refine wpAnyH_take (i := 16) (oi := ?oi16) (v := ?v16) ?hi16 (by kernel_rfl) (by kernel_rfl) (by kernel_rfl) ?hq16 (Or.inl ⟨?hw16, ?hy16⟩) (by assumption) ?rest16
    case hi16 => exact rfl
    case hq16 => exact fun _ _ _ h => h
    case hw16 => rfl
    case hy16 => (intro x hx; (try dsimp only at hx); simp only [List.getElem_toArray, List.getElem_cons_succ, List.getElem_cons_zero]; go_simp; try with_reducible rfl)
    try simp only [Act.put, List.setIfInBounds_toArray, List.set_cons_zero, List.set_cons_succ, List.getElem_toArray, List.getElem_cons_succ, List.getElem_cons_zero]
    refine wpAnyH_take (i := 17) (oi := ?oi17) (v := ?v17) ?hi17 (by kernel_rfl) (by kernel_rfl) (by kernel_rfl) ?hq17 (Or.inl ⟨?hw17, ?hy17⟩) (by assumption) ?rest17
    case hi17 => exact rfl
    case hq17 => exact fun _ _ _ h => h
    case hw17 => rfl
    case hy17 => (intro x hx; (try dsimp only at hx); simp only [List.getElem_toArray, List.getElem_cons_succ, List.getElem_cons_zero]; go_simp; try with_reducible rfl)
    try simp only [Act.put, List.setIfInBounds_toArray, List.set_cons_zero, List.set_cons_succ, List.getElem_toArray, List.getElem_cons_succ, List.getElem_cons_zero]
    refine wpAnyH_take (i := 18) (oi := ?oi18) (v := ?v18) ?hi18 (by kernel_rfl) (by kernel_rfl) (by kernel_rfl) ?hq18 (Or.inl ⟨?hw18, ?hy18⟩) (by assumption) ?rest18
    case hi18 => exact rfl
    case hq18 => exact fun _ _ _ h => h
    case hw18 => rfl
    case hy18 => (intro x hx; (try dsimp only at hx); simp only [List.getElem_toArray, List.getElem_cons_succ, List.getElem_cons_zero]; go_simp; try with_reducible rfl)
    try simp only [Act.put, List.setIfInBounds_toArray, List.set_cons_zero, List.set_cons_succ, List.getElem_toArray, List.getElem_cons_succ, List.getElem_cons_zero]
    refine wpAnyH_take (i := 19) (oi := ?oi19) (v := ?v19) ?hi19 (by kernel_rfl) (by kernel_rfl) (by kernel_rfl) ?hq19 (Or.inl ⟨?hw19, ?hy19⟩) (by assumption) ?rest19
    case hi19 => exact rfl
    case hq19 => exact fun _ _ _ h => h
    case hw19 => rfl
    case hy19 => (intro x hx; (try dsimp only at hx); simp only [List.getElem_toArray, List.getElem_cons_succ, List.getElem_cons_zero]; go_simp; try with_reducible rfl)
    try simp only [Act.put, List.setIfInBounds_toArray, List.set_cons_zero, List.set_cons_succ, List.getElem_toArray, List.getElem_cons_succ, List.getElem_cons_zero]
    refine wpAnyH_take (i := 20) (oi := ?oi20) (v := ?v20) ?hi20 (by kernel_rfl) (by kernel_rfl) (by kernel_rfl) ?hq20 (Or.inl ⟨?hw20, ?hy20⟩) (by assumption) ?rest20
    case hi20 => exact rfl
    case hq20 => exact fun _ _ _ h => h
    case hw20 => rfl
    case hy20 => (intro x hx; (try dsimp only at hx); simp only [List.getElem_toArray, List.getElem_cons_succ, List.getElem_cons_zero]; go_simp; try with_reducible rfl)
    try simp only [Act.put, List.setIfInBounds_toArray, List.set_cons_zero, List.set_cons_succ, List.getElem_toArray, List.getElem_cons_succ, List.getElem_cons_zero]
    refine wpAnyH_take (i := 21) (oi := ?oi21) (v := ?v21) ?hi21 (by kernel_rfl) (by kernel_rfl) (by kernel_rfl) ?hq21 (Or.inl ⟨?hw21, ?hy21⟩) (by assumption) ?rest21
    case hi21 => exact rfl
    case hq21 => exact fun _ _ _ h => h
    case hw21 => rfl
    case hy21 => (intro x hx; (try dsimp only at hx); simp only [List.getElem_toArray, List.getElem_cons_succ, List.getElem_cons_zero]; go_simp; try with_reducible rfl)
    try simp only [Act.put, List.setIfInBounds_toArray, List.set_cons_zero, List.set_cons_succ, List.getElem_toArray, List.getElem_cons_succ, List.getElem_cons_zero]
    refine wpAnyH_take (i := 22) (oi := ?oi22) (v := ?v22) ?hi22 (by kernel_rfl) (by kernel_rfl) (by kernel_rfl) ?hq22 (Or.inl ⟨?hw22, ?hy22⟩) (by assumption) ?rest22
    case hi22 => exact rfl
    case hq22 => exact fun _ _ _ h => h
    case hw22 => rfl
    case hy22 => (intro x hx; (try dsimp only at hx); simp only [List.getElem_toArray, List.getElem_cons_succ, List.getElem_cons_zero]; go_simp; try with_reducible rfl)
    try simp only [Act.put, List.setIfInBounds_toArray, List.set_cons_zero, List.set_cons_succ, List.getElem_toArray, List.getElem_cons_succ, List.getElem_cons_zero]
    refine wpAnyH_take (i := 23) (oi := ?oi23) (v := ?v23) ?hi23 (by kernel_rfl) (by kernel_rfl) (by kernel_rfl) ?hq23 (Or.inl ⟨?hw23, ?hy23⟩) (by assumption) ?rest23
    case hi23 => exact rfl
    case hq23 => exact fun _ _ _ h => h
    case hw23 => rfl
    case hy23 => (intro x hx; (try dsimp only at hx); simp only [List.getElem_toArray, List.getElem_cons_succ, List.getElem_cons_zero]; go_simp; try with_reducible rfl)
    try simp only [Act.put, List.setIfInBounds_toArray, List.set_cons_zero, List.set_cons_succ, List.getElem_toArray, List.getElem_cons_succ, List.getElem_cons_zero]
    refine wpAnyH_take (i := 24) (oi := ?oi24) (v := ?v24) ?hi24 (by kernel_rfl) (by kernel_rfl) (by kernel_rfl) ?hq24 (Or.inl ⟨?hw24, ?hy24⟩) (by assumption) ?rest24
    case hi24 => exact rfl
    case hq24 => exact fun _ _ _ h => h
    case hw24 => rfl
    case hy24 => (intro x hx; (try dsimp only at hx); simp only [List.getElem_toArray, List.getElem_cons_succ, List.getElem_cons_zero]; go_simp; try with_reducible rfl)
    try simp only [Act.put, List.setIfInBounds_toArray, List.set_cons_zero, List.set_cons_succ, List.getElem_toArray, List.getElem_cons_succ, List.getElem_cons_zero]
    refine wpAnyH_take (i := 25) (oi := ?oi25) (v := ?v25) ?hi25 (by kernel_rfl) (by kernel_rfl) (by kernel_rfl) ?hq25 (Or.inl ⟨?hw25, ?hy25⟩) (by assumption) ?rest25
    case hi25 => exact rfl
    case hq25 => exact fun _ _ _ h => h
    case hw25 => rfl
    case hy25 => (intro x hx; (try dsimp only at hx); simp only [List.getElem_toArray, List.getElem_cons_succ, List.getElem_cons_zero]; go_simp; try with_reducible rfl)
    try simp only [Act.put, List.setIfInBounds_toArray, List.set_cons_zero, List.set_cons_succ, List.getElem_toArray, List.getElem_cons_succ, List.getElem_cons_zero]
    refine wpAnyH_ready (rs := [26]) (by kernel_rfl) (by simp) ?_
    refine AllReadyH.cons (o := ?oc) ?ho (fun K hK => ?_) AllReadyH.nil
    case ho => exact rfl
    rw [if_pos (by rfl)]
    go_wp2_with fail
    with_reducible refine (mix_row w6.drew w a1 len1 cap1 k z1 HW1.out B6.drew k0 k1).mono ?_
    rintro e w7 ⟨A7, n7, c7, rfl, h7c, h7m, h7n, hr7, hb7⟩
    rw [HXS.out] at hr7
    have hb8 : Below w6.heap.size w6 w7 := below_undrew hb7
    have cp7 := conv_ri (HP6.out.on hb8 (by omega)) c3
    have cq7 := conv_ri (HQ6.out.on hb8 (by omega)) cap0
    have cr7 := conv_ri (HT6.out.on hb8 (Nat.le_refl _)) c6
    have cn7 := conv_ri hr7 c7
    have B7 : Below w.heap.size w w7 := B6.trans (hb8.mono (by omega))
    clear hr7
    go_wp2_with fail
    refine hK.out _ _ ⟨cp7, cq7, cr7⟩ (fun _ => ?_)
    clear hK K hHeld
    refine wpAnyH_weaken (S' := fun x => x = w7) (fun x hx => by subst hx; exact ⟨cp7, cq7, cr7⟩) _ _ _ _ ?_
    refine wpAnyH_take (i := 27) (oi := ?oi27) (v := ?v27) ?hi27 (by kernel_rfl) (by kernel_rfl) (by kernel_rfl) ?hq27 (Or.inl ⟨?hw27, ?hy27⟩) rfl ?rest27
    case hi27 => exact rfl
    case hq27 => exact fun _ _ _ h => h
    case hw27 => rfl
    case hy27 => (intro x hx; (try dsimp only at hx); simp only [List.getElem_toArray, List.getElem_cons_succ, List.getElem_cons_zero]; go_simp; try with_reducible rfl)
    try simp only [Act.put, List.setIfInBounds_toArray, List.set_cons_zero, List.set_cons_succ, List.getElem_toArray, List.getElem_cons_succ, List.getElem_cons_zero]
    refine wpAnyH_take (i := 28) (oi := ?oi28) (v := ?v28) ?hi28 (by kernel_rfl) (by kernel_rfl) (by kernel_rfl) ?hq28 (Or.inl ⟨?hw28, ?hy28⟩) rfl ?rest28
    case hi28 => exact rfl
    case hq28 => exact fun _ _ _ h => h
    case hw28 => rfl
    case hy28 => (intro x hx; (try dsimp only at hx); simp only [List.getElem_toArray, List.getElem_cons_succ, List.getElem_cons_zero]; go_simp; try with_reducible rfl)
    try simp only [Act.put, List.setIfInBounds_toArray, List.set_cons_zero, List.set_cons_succ, List.getElem_toArray, List.getElem_cons_succ, List.getElem_cons_zero]
    refine wpAnyH_take (i := 29) (oi := ?oi29) (v := ?v29) ?hi29 (by kernel_rfl) (by kernel_rfl) (by kernel_rfl) ?hq29 (Or.inl ⟨?hw29, ?hy29⟩) rfl ?rest29
    case hi29 => exact rfl
    case hq29 => exact fun _ _ _ h => h
    case hw29 => rfl
    case hy29 => (intro x hx; (try dsimp only at hx); simp only [List.getElem_toArray, List.getElem_cons_succ, List.getElem_cons_zero]; go_simp; try with_reducible rfl)
    try simp only [Act.put, List.setIfInBounds_toArray, List.set_cons_zero, List.set_cons_succ, List.getElem_toArray, List.getElem_cons_succ, List.getElem_cons_zero]
    refine wpAnyH_take (i := 30) (oi := ?oi30) (v := ?v30) ?hi30 (by kernel_rfl) (by kernel_rfl) (by kernel_rfl) ?hq30 (Or.inl ⟨?hw30, ?hy30⟩) rfl ?rest30
    case hi30 => exact rfl
    case hq30 => exact fun _ _ _ h => h
    case hw30 => rfl
    case hy30 => (intro x hx; (try dsimp only at hx); simp only [List.getElem_toArray, List.getElem_cons_succ, List.getElem_cons_zero]; go_simp; try with_reducible rfl)
    try simp only [Act.put, List.setIfInBounds_toArray, List.set_cons_zero, List.set_cons_succ, List.getElem_toArray, List.getElem_cons_succ, List.getElem_cons_zero]
    refine wpAnyH_done (by kernel_rfl) ?_ _
    go_wp2
    go_ret
    exact ⟨rfl, B7⟩
end Go.Proofs.YtijlecfjgcohhaaDoor.C
