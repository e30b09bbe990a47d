/-
  The walk of CodecBom: for all bytes and either mark it returns true; nothing that was there changes. Condition: the decoder's two tables stand as they were laid.
-/
import Derived.Test.YtijlecfjgcohhaaDoorCdcT
import Derived.Deep.RegionHeld3
namespace Go.Proofs.YtijlecfjgcohhaaDoor.C
open Go.RowKit

theorem bom_pre (g : Bool) (zs : List Int) : preB 255 254 (markL g ++ zs) = !g := by cases g <;> rfl
theorem bom_pre2 (zs : List Int) : preB 254 255 (markL true ++ zs) = true := rfl
theorem bom_big (g : Bool) (zs : List Int) : bigB 2 (markL g ++ zs) = g := by simp [bigB, bom_pre]
theorem bom_bom (g : Bool) (zs : List Int) : bomB 2 (markL g ++ zs) = true := by
  cases g with
  | true => simp [bomB, bom_pre2]
  | false => simp [bomB, bom_pre]
theorem bom_none (g : Bool) : errE 2 g true [] = 0 := by cases g <;> decide +kernel
theorem bom_noneB (g : Bool) : bytesE 2 g true [] = markL g := by cases g <;> decide +kernel
theorem mark_all (g : Bool) : Bd (markL g) := mark_bd g

set_option maxRecDepth 100000 in
set_option maxHeartbeats 4000000 in
theorem codecBom_false (a0 : Option Addr) (len0 cap0 : Nat) (z0 : List Int) (w : World) (hT : Lib.Utf8Tabs 0 1 w) (w0 : L.IsRow .u8 w a0 len0 cap0 z0) :
    Calls Tryd.prog 3 #[.slice a0 len0 cap0, .bool false] w fun e w' => e = .returned (.bool true) ∧ Below w.heap.size w w' := by
  obtain ⟨i0, hi, hz0, hz1, hz2⟩ := info_parts info8
  have hr0 := RI.of_row w0
  have hz0' : Bd (z0.take len0) := row_u8 w0
  obtain ⟨hlc, hcm⟩ := row_len w0
  generalize z0.take len0 = zs at *
  have HR0 := Lib.hid hr0
  have HZ0 := Lib.hid hz0'
  have HT := Lib.hid hT
  have HL0 := Lib.hid hr0.len
  clear w0 hr0 hz0' hT
  by_cases hbig : 200 < len0
  · have tb : ((200 : Int) < (len0 : Int)) := by omega
    go_enter Tryd.func3, Tryd.ntmps3
    go_wp2_with fail
    with_reducible refine (known_any w HT.out).mono ?_
    rintro e w1 ⟨rfl, hb1⟩
    go_wp2
    go_ret
    exact ⟨rfl, hb1⟩
  · go_enter Tryd.func3, Tryd.ntmps3
    go_wp2_with fail
    with_reducible refine (known_any w HT.out).mono ?_
    rintro e w1 ⟨rfl, hb1⟩
    have hs1 := hb1.size
    obtain ⟨W, hW⟩ : ∃ W, W = w1.alloc (.cells #[.int .u8 255, .int .u8 254] 5) := ⟨_, rfl⟩
    have hbW : Below w1.heap.size w1 W := by rw [hW]; exact (Below.refl _ w1).alloc (Nat.le_refl _) _
    have hsW : W.heap.size = w1.heap.size + 1 := by rw [hW]; simp
    have hmk : RI .u8 W (w1.heap.size + 1) (some ⟨w1.heap.size, 0, none⟩) 2 [255, 254] := by
      rw [hW]
      exact RI.new w1 .u8 [255, 254] 5
    have HM := Lib.hid hmk
    have B1 : Below w.heap.size w W := hb1.trans (hbW.mono hs1)
    have HX := Lib.hid (HR0.out.below B1)
    have hms : Bd (markL false ++ zs) := bd_app (mark_bd _) HZ0.out
    have hln : (markL false ++ zs).length = 2 + len0 := by rw [List.length_append, mark_len, HL0.out]
    have HBG := Lib.hid (bom_big false zs)
    have HBM := Lib.hid (bom_bom false zs)
    have htk : (markL false ++ zs).take 2 = markL false := by rw [List.take_append_of_le_length (by rw [mark_len]; exact Nat.le_refl _), List.take_of_length_le (by rw [mark_len]; exact Nat.le_refl _)]
    clear hmk
    go_wp2_with (at_builtin; rw [← hW]; clear hW; (refine wpList_append_full _ rfl _ _ 22 rfl 5 i0 (.int .u8 0) Tryd.underlying22 hi hz0 hz1 hz2 rfl (w1.heap.size + 1) ⟨w1.heap.size, 0, none⟩ 2 (markL false) rfl HM.out (by omega) (by omega) w.heap.size a0 len0 cap0 zs rfl HX.out (by omega) ?_); rintro v' w2 ⟨A2, c2, rfl, h2c, h2m, hr2, hb2⟩; generalize hms2 : markL false ++ zs = ms at *; rw [hln] at hr2 h2c ⊢; have HR2 := Lib.hid hr2; clear hr2; have hs2 := hb2.size; have B2 : Below w.heap.size w w2 := B1.trans (hb2.mono (by omega)))
    go_wp2_with fail
    with_reducible refine (decodeC_any 2 (.inr (.inl rfl)) w2 w2.heap.size A2 (2 + len0) c2 ms HR2.out (Nat.le_refl _) hms h2c (by omega) h2m (tabs_below HT.out B2)).mono ?_
    rintro e w3 ⟨A3, m3, c3, rfl, hm3, h3c, h3m, hr3, hb3⟩
    rw [HBG.out, HBM.out]
    have hs3 := hb3.size
    have hm3' : m3 ≤ 202 := by omega
    obtain ⟨V3, hV3⟩ : ∃ V, V = w3.alloc (.cells #[.int .u8 2, .bool false, .bool true, .slice A3 m3 c3] 26) := ⟨_, rfl⟩
    have hbV3 : Below w3.heap.size w3 V3 := by rw [hV3]; exact (Below.refl _ _).alloc (Nat.le_refl _) _
    have hsV3 := hbV3.size
    have hlV3 : w3.heap.size < V3.heap.size := by rw [hV3]; simp
    have hcV : ∀ j, V3.cell? ⟨w3.heap.size, j, none⟩ = (#[Value.int .u8 2, .bool false, .bool true, .slice A3 m3 c3] : Array Value)[j]? := fun j => by rw [hV3]; exact World.cell?_alloc_new _ _ _ _
    have HR3 := Lib.hid (hr3.below hbV3)
    have b2V : Below w2.heap.size w2 V3 := hb3.trans (hbV3.mono (by omega))
    have HMV := Lib.hid (HR2.out.on b2V (Nat.le_refl _))
    have B3 : Below w.heap.size w V3 := B2.trans (b2V.mono (by omega))
    clear hr3
    go_wp2_with fail
    rw [← hV3]
    clear hV3
    have hback := backC 2 (.inr (.inl rfl)) V3 w3.heap.size A3 m3 c3 ms hms HR3.out hsV3 (by omega)
    rw [HBG.out, HBM.out] at hback
    with_reducible refine hback.mono ?_
    clear hback
    rintro e w4 ⟨A4, c4, rfl, h4c, h4m, hr4, hb4⟩
    rw [hln] at h4c hr4 ⊢
    have hs4 := hb4.size
    have HR4 := Lib.hid hr4
    have hd0 := (hb4.cell (p := ⟨w3.heap.size, 0, none⟩) hlV3).trans (hcV 0)
    have hd1 := (hb4.cell (p := ⟨w3.heap.size, 1, none⟩) hlV3).trans (hcV 1)
    have hd2 := (hb4.cell (p := ⟨w3.heap.size, 2, none⟩) hlV3).trans (hcV 2)
    have hd3 := (hb4.cell (p := ⟨w3.heap.size, 3, none⟩) hlV3).trans (hcV 3)
    clear hr4
    go_wp2_with fail
    with_reducible refine (with_any w4 2 false true (.slice A3 m3 c3) 0 none 0 0 [] ⟨_, _, _, rfl⟩ RI.none_ (Nat.zero_le _) (by omega)).mono ?_
    rintro e w5 ⟨A5, c5, rfl, h5c, h5m, hr5, hb5⟩
    have hs5 := hb5.size
    have HR5 := Lib.hid hr5
    clear hr5
    go_wp2_with fail
    with_reducible refine (encodeC_any w5 2 w5.heap.size A5 0 c5 [] false true HR5.out (Nat.le_refl _) (by omega)).mono ?_
    rintro e w6 ⟨A6, m6, c6, rfl, h6c, h6m, hr6, hb6⟩
    rw [bom_none]
    rw [bom_noneB] at hr6
    obtain rfl : m6 = 2 := by rw [← hr6.len, mark_len]
    have b46 : Below w4.heap.size w4 w6 := hb5.trans (hb6.mono (by omega))
    have l46 : w3.heap.size < w4.heap.size := by omega
    have q1 := (b46.cell (p := ⟨w3.heap.size, 1, none⟩) l46).trans hd1
    have q2 := (b46.cell (p := ⟨w3.heap.size, 2, none⟩) l46).trans hd2
    have p4 : RI .u8 w6 w4.heap.size A4 (2 + len0) ms := HR4.out.on b46 (Nat.le_refl _)
    have p2 : RI .u8 w6 w2.heap.size A2 (2 + len0) ms := (HMV.out.on hb4 (by omega)).on b46 (by omega)
    have p2f := p2.front (m := 2) (by omega)
    rw [htk] at p2f
    obtain ⟨ad, _, rfl, _, _, _⟩ := p2.at_ (k := 0) (by omega)
    have k4 := conv_ri (w := w6.drew) p4 c4
    have k2 := conv_ri (w := w6.drew) p2 c2
    have kf := conv_ri (w := w6.drew) p2f c2
    have k6 := conv_ri (w := w6.drew) hr6 c6
    have t2 : (2 : Int) ≤ (c2 : Int) := by omega
    have B6 : Below w.heap.size w w6 := B3.trans ((hb4.mono (by omega)).trans (b46.mono (by omega)))
    clear hd0 hd1 hd2 hd3 hcV p4 p2 p2f hr6 htk
    go_wp2_with fail
    go_region_held3 (fun w' => w'.cell? ⟨w3.heap.size, 1, none⟩ = some (.bool false) ∧ w'.cell? ⟨w3.heap.size, 2, none⟩ = some (.bool true) ∧ (convert 22 9 (.slice A4 (2 + len0) c4)).run Tryd.prog w' = .ok (.string (sb ms)) w' ∧ (convert 22 9 (.slice (some ad) (2 + len0) c2)).run Tryd.prog w' = .ok (.string (sb ms)) w' ∧ (convert 22 9 (.slice (some ad) 2 c2)).run Tryd.prog w' = .ok (.string (sb (markL false))) w' ∧ (convert 22 9 (.slice A6 2 c6)).run Tryd.prog w' = .ok (.string (sb (markL false))) w')
      (first | (refine ⟨?_, ?_, ?_, ?_, ?_, ?_⟩ <;> assumption) | go_keep) (fail)
    go_wp2
    go_ret
    exact ⟨rfl, B6.drew⟩

set_option maxRecDepth 100000 in
set_option maxHeartbeats 4000000 in
theorem codecBom_true (a0 : Option Addr) (len0 cap0 : Nat) (z0 : List Int) (w : World) (hT : Lib.Utf8Tabs 0 1 w) (w0 : L.IsRow .u8 w a0 len0 cap0 z0) :
    Calls Tryd.prog 3 #[.slice a0 len0 cap0, .bool true] w fun e w' => e = .returned (.bool true) ∧ Below w.heap.size w w' := by
  obtain ⟨i0, hi, hz0, hz1, hz2⟩ := info_parts info8
  have hr0 := RI.of_row w0
  have hz0' : Bd (z0.take len0) := row_u8 w0
  obtain ⟨hlc, hcm⟩ := row_len w0
  generalize z0.take len0 = zs at *
  have HR0 := Lib.hid hr0
  have HZ0 := Lib.hid hz0'
  have HT := Lib.hid hT
  have HL0 := Lib.hid hr0.len
  clear w0 hr0 hz0' hT
  by_cases hbig : 200 < len0
  · have tb : ((200 : Int) < (len0 : Int)) := by omega
    go_enter Tryd.func3, Tryd.ntmps3
    go_wp2_with fail
    with_reducible refine (known_any w HT.out).mono ?_
    rintro e w1 ⟨rfl, hb1⟩
    go_wp2
    go_ret
    exact ⟨rfl, hb1⟩
  · go_enter Tryd.func3, Tryd.ntmps3
    go_wp2_with fail
    with_reducible refine (known_any w HT.out).mono ?_
    rintro e w1 ⟨rfl, hb1⟩
    have hs1 := hb1.size
    obtain ⟨W, hW⟩ : ∃ W, W = (w1.alloc (.cells #[.int .u8 255, .int .u8 254] 5)).alloc (.cells #[.int .u8 254, .int .u8 255] 5) := ⟨_, rfl⟩
    have hbW : Below w1.heap.size w1 W := by rw [hW]; exact ((Below.refl _ w1).alloc (Nat.le_refl _) _).alloc (by simp) _
    have hsW : W.heap.size = w1.heap.size + 2 := by rw [hW]; simp
    have hmk : RI .u8 W (w1.heap.size + 2) (some ⟨w1.heap.size + 1, 0, none⟩) 2 [254, 255] := by
      have := RI.new (w1.alloc (.cells #[.int .u8 255, .int .u8 254] 5)) .u8 [254, 255] 5
      rw [hW]
      simpa using this
    have HM := Lib.hid hmk
    have B1 : Below w.heap.size w W := hb1.trans (hbW.mono hs1)
    have HX := Lib.hid (HR0.out.below B1)
    have hms : Bd (markL true ++ zs) := bd_app (mark_bd _) HZ0.out
    have hln : (markL true ++ zs).length = 2 + len0 := by rw [List.length_append, mark_len, HL0.out]
    have HBG := Lib.hid (bom_big true zs)
    have HBM := Lib.hid (bom_bom true zs)
    have htk : (markL true ++ zs).take 2 = markL true := by rw [List.take_append_of_le_length (by rw [mark_len]; exact Nat.le_refl _), List.take_of_length_le (by rw [mark_len]; exact Nat.le_refl _)]
    clear hmk
    go_wp2_with (at_builtin; rw [← hW]; clear hW; (refine wpList_append_full _ rfl _ _ 22 rfl 5 i0 (.int .u8 0) Tryd.underlying22 hi hz0 hz1 hz2 rfl (w1.heap.size + 2) ⟨w1.heap.size + 1, 0, none⟩ 2 (markL true) rfl HM.out (by omega) (by omega) w.heap.size a0 len0 cap0 zs rfl HX.out (by omega) ?_); rintro v' w2 ⟨A2, c2, rfl, h2c, h2m, hr2, hb2⟩; generalize hms2 : markL true ++ zs = ms at *; rw [hln] at hr2 h2c ⊢; have HR2 := Lib.hid hr2; clear hr2; have hs2 := hb2.size; have B2 : Below w.heap.size w w2 := B1.trans (hb2.mono (by omega)))
    go_wp2_with fail
    with_reducible refine (decodeC_any 2 (.inr (.inl rfl)) w2 w2.heap.size A2 (2 + len0) c2 ms HR2.out (Nat.le_refl _) hms h2c (by omega) h2m (tabs_below HT.out B2)).mono ?_
    rintro e w3 ⟨A3, m3, c3, rfl, hm3, h3c, h3m, hr3, hb3⟩
    rw [HBG.out, HBM.out]
    have hs3 := hb3.size
    have hm3' : m3 ≤ 202 := by omega
    obtain ⟨V3, hV3⟩ : ∃ V, V = w3.alloc (.cells #[.int .u8 2, .bool true, .bool true, .slice A3 m3 c3] 26) := ⟨_, rfl⟩
    have hbV3 : Below w3.heap.size w3 V3 := by rw [hV3]; exact (Below.refl _ _).alloc (Nat.le_refl _) _
    have hsV3 := hbV3.size
    have hlV3 : w3.heap.size < V3.heap.size := by rw [hV3]; simp
    have hcV : ∀ j, V3.cell? ⟨w3.heap.size, j, none⟩ = (#[Value.int .u8 2, .bool true, .bool true, .slice A3 m3 c3] : Array Value)[j]? := fun j => by rw [hV3]; exact World.cell?_alloc_new _ _ _ _
    have HR3 := Lib.hid (hr3.below hbV3)
    have b2V : Below w2.heap.size w2 V3 := hb3.trans (hbV3.mono (by omega))
    have HMV := Lib.hid (HR2.out.on b2V (Nat.le_refl _))
    have B3 : Below w.heap.size w V3 := B2.trans (b2V.mono (by omega))
    clear hr3
    go_wp2_with fail
    rw [← hV3]
    clear hV3
    have hback := backC 2 (.inr (.inl rfl)) V3 w3.heap.size A3 m3 c3 ms hms HR3.out hsV3 (by omega)
    rw [HBG.out, HBM.out] at hback
    with_reducible refine hback.mono ?_
    clear hback
    rintro e w4 ⟨A4, c4, rfl, h4c, h4m, hr4, hb4⟩
    rw [hln] at h4c hr4 ⊢
    have hs4 := hb4.size
    have HR4 := Lib.hid hr4
    have hd0 := (hb4.cell (p := ⟨w3.heap.size, 0, none⟩) hlV3).trans (hcV 0)
    have hd1 := (hb4.cell (p := ⟨w3.heap.size, 1, none⟩) hlV3).trans (hcV 1)
    have hd2 := (hb4.cell (p := ⟨w3.heap.size, 2, none⟩) hlV3).trans (hcV 2)
    have hd3 := (hb4.cell (p := ⟨w3.heap.size, 3, none⟩) hlV3).trans (hcV 3)
    clear hr4
    go_wp2_with fail
    with_reducible refine (with_any w4 2 true true (.slice A3 m3 c3) 0 none 0 0 [] ⟨_, _, _, rfl⟩ RI.none_ (Nat.zero_le _) (by omega)).mono ?_
    rintro e w5 ⟨A5, c5, rfl, h5c, h5m, hr5, hb5⟩
    have hs5 := hb5.size
    have HR5 := Lib.hid hr5
    clear hr5
    go_wp2_with fail
    with_reducible refine (encodeC_any w5 2 w5.heap.size A5 0 c5 [] true true HR5.out (Nat.le_refl _) (by omega)).mono ?_
    rintro e w6 ⟨A6, m6, c6, rfl, h6c, h6m, hr6, hb6⟩
    rw [bom_none]
    rw [bom_noneB] at hr6
    obtain rfl : m6 = 2 := by rw [← hr6.len, mark_len]
    have b46 : Below w4.heap.size w4 w6 := hb5.trans (hb6.mono (by omega))
    have l46 : w3.heap.size < w4.heap.size := by omega
    have q1 := (b46.cell (p := ⟨w3.heap.size, 1, none⟩) l46).trans hd1
    have q2 := (b46.cell (p := ⟨w3.heap.size, 2, none⟩) l46).trans hd2
    have p4 : RI .u8 w6 w4.heap.size A4 (2 + len0) ms := HR4.out.on b46 (Nat.le_refl _)
    have p2 : RI .u8 w6 w2.heap.size A2 (2 + len0) ms := (HMV.out.on hb4 (by omega)).on b46 (by omega)
    have p2f := p2.front (m := 2) (by omega)
    rw [htk] at p2f
    obtain ⟨ad, _, rfl, _, _, _⟩ := p2.at_ (k := 0) (by omega)
    have k4 := conv_ri (w := w6.drew) p4 c4
    have k2 := conv_ri (w := w6.drew) p2 c2
    have kf := conv_ri (w := w6.drew) p2f c2
    have k6 := conv_ri (w := w6.drew) hr6 c6
    have t2 : (2 : Int) ≤ (c2 : Int) := by omega
    have B6 : Below w.heap.size w w6 := B3.trans ((hb4.mono (by omega)).trans (b46.mono (by omega)))
    clear hd0 hd1 hd2 hd3 hcV p4 p2 p2f hr6 htk
    go_wp2_with fail
    go_region_held3 (fun w' => w'.cell? ⟨w3.heap.size, 1, none⟩ = some (.bool true) ∧ w'.cell? ⟨w3.heap.size, 2, none⟩ = some (.bool true) ∧ (convert 22 9 (.slice A4 (2 + len0) c4)).run Tryd.prog w' = .ok (.string (sb ms)) w' ∧ (convert 22 9 (.slice (some ad) (2 + len0) c2)).run Tryd.prog w' = .ok (.string (sb ms)) w' ∧ (convert 22 9 (.slice (some ad) 2 c2)).run Tryd.prog w' = .ok (.string (sb (markL true))) w' ∧ (convert 22 9 (.slice A6 2 c6)).run Tryd.prog w' = .ok (.string (sb (markL true))) w')
      (first | (refine ⟨?_, ?_, ?_, ?_, ?_, ?_⟩ <;> assumption) | go_keep) (fail)
    go_wp2
    go_ret
    exact ⟨rfl, B6.drew⟩

theorem codecBomWalk (a0 : Option Addr) (len0 cap0 : Nat) (z0 : List Int) (g : Bool) (w : World) (hT : Lib.Utf8Tabs 0 1 w) (w0 : L.IsRow .u8 w a0 len0 cap0 z0) :
    Calls Tryd.prog 3 #[.slice a0 len0 cap0, .bool g] w fun e w' => e = .returned (.bool true) ∧ Below w.heap.size w w' := by
  cases g with
  | true => exact codecBom_true a0 len0 cap0 z0 w hT w0
  | false => exact codecBom_false a0 len0 cap0 z0 w hT w0
end Go.Proofs.YtijlecfjgcohhaaDoor.C
