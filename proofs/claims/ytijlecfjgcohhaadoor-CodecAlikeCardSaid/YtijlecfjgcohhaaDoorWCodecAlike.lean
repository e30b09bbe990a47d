/-
  The walk of CodecAlike: for all bytes, orders and marks it returns true; nothing that was there changes. Condition: the decoder's two tables stand as they were laid.
-/
import Derived.Test.YtijlecfjgcohhaaDoorCdcT
namespace Go.Proofs.YtijlecfjgcohhaaDoor.C
open Go.RowKit

theorem al_right {zs : List Int} (h : Bd zs) : ∀ c ∈ zs, rightB c = true ∧ 0 ≤ c := fun c hc => ⟨right_byte (h c hc), (h c hc).1⟩
theorem al_x0 {zs : List Int} (h : Bd zs) : errE 3 false false zs = 0 := err_low rfl (right_bytes h) (low_bytes h)
theorem al_x {zs : List Int} (h : Bd zs) : bytesE 3 false false zs = zs := by rw [bytes_three (al_x0 h), latL_bytes h]
theorem al_y0 {zs : List Int} (h : Bd zs) : errE 1 false false zs = 0 := err_ok (.inl rfl) (.inr rfl) (right_bytes h)
theorem al_y {zs : List Int} (h : Bd zs) : bytesE 1 false false zs = encL zs := bytes_one (al_y0 h)
theorem al_z0 {zs : List Int} (h : Bd zs) (g bom : Bool) : errE 2 g bom zs = 0 := err_ok (.inr rfl) (.inl rfl) (right_bytes h)
theorem al_zm {zs : List Int} (h : Bd zs) (g : Bool) : bytesE 2 g true zs = markL g ++ U.encL g zs := by rw [bytes_two (al_z0 h g true)]; rfl
theorem al_zn {zs : List Int} (h : Bd zs) (g : Bool) : bytesE 2 g false zs = U.encL g zs := by rw [bytes_two (al_z0 h g false)]; rfl
theorem al_q {zs : List Int} (h : Bd zs) : cellsD 1 (encL zs) = zs := by rw [cellsD_one, of_enc (al_right h)]
theorem al_rm {zs : List Int} (h : Bd zs) (g : Bool) : cellsD 2 (markL g ++ U.encL g zs) = zs := by
  cases g with
  | true =>
    rw [cellsD_be rfl rfl]
    exact U.dec_enc true (al_right h)
  | false =>
    rw [cellsD_le rfl]
    exact U.dec_enc false (al_right h)
theorem al_head {z : Int} {t : List Int} (h : Bd (z :: t)) : U.encL true (z :: t) = 0 :: z :: U.encL true t := by
  have h0 := h z (List.mem_cons_self ..)
  rw [U.encL_cons, U.encC_low true h0.1 (by omega)]
  have e : U.un true z = [0, z] := by
    simp only [U.un]
    have a : z / 256 = 0 := by omega
    have b : z % 256 = z := by omega
    simp [a, b]
  rw [e]
  rfl
theorem al_pre {zs : List Int} (h : Bd zs) (p0 p1 : Int) (hp : p0 ≠ 0) : preB p0 p1 (U.encL true zs) = false := by
  cases zs with
  | nil => rfl
  | cons z t =>
    rw [al_head h]
    unfold preB
    simp only [List.take_succ_cons, List.take_zero]
    exact decide_eq_false (fun e => hp (by injection e with e; exact e.symm))
theorem al_rn {zs : List Int} (h : Bd zs) : cellsD 2 (U.encL true zs) = zs := by
  rw [cellsD_no (al_pre h 255 254 (by decide)) (al_pre h 254 255 (by decide))]
  exact U.dec_enc true (al_right h)

set_option maxRecDepth 100000 in
set_option maxHeartbeats 8000000 in
theorem alike_true_true (a0 : Option Addr) (len0 cap0 : Nat) (z0 : List Int) (w : World) (hT : Lib.Utf8Tabs 0 1 w) (w0 : L.IsRow .u8 w a0 len0 cap0 z0) :
    Calls Tryd.prog 8 #[.slice a0 len0 cap0, .bool true, .bool true] w fun e w' => e = .returned (.bool true) ∧ Below w.heap.size w w' := by
  obtain ⟨i0, hi, hz0, hz1, hz2⟩ := info_parts info33
  have hr0 := RI.of_row w0
  have hzs : Bd (z0.take len0) := row_u8 w0
  obtain ⟨hlc, hcm⟩ := row_len w0
  generalize z0.take len0 = zs at *
  have HR0 := Lib.hid hr0
  have HZ0 := Lib.hid hzs
  have HT := Lib.hid hT
  have HL0 := Lib.hid hr0.len
  clear w0 hr0 hzs hT
  by_cases hbig : 200 < len0
  · have tb : ((200 : Int) < (len0 : Int)) := by omega
    go_enter Tryd.func8, Tryd.ntmps8
    go_wp2_with fail
    with_reducible refine (known_any w HT.out).mono ?_
    rintro e w1 ⟨rfl, hb1⟩
    go_wp2
    go_ret
    exact ⟨rfl, hb1⟩
  go_enter Tryd.func8, Tryd.ntmps8
  go_wp2_with fail
  with_reducible refine (known_any w HT.out).mono ?_
  rintro e w1 ⟨rfl, hb1⟩
  have hs1 := hb1.size
  go_wp2
  go_loopw [7, 8] (fun v iv wr => ∃ k : Nat, k ≤ len0 ∧ iv = .int .i64 k ∧ Hid (wr.ownsRow w.heap.size 35 1 v k ((zs.take k).map (Value.int .i32))) ∧ Below w.heap.size w wr) (fun _ iv _ => len0 - (intOf iv).toNat)
  case atStart => exact ⟨0, Nat.zero_le _, rfl, World.ownsRow_nil _ _ _ _, hb1⟩
  case round =>
    obtain ⟨k, hk, rfl, HW, hb⟩ := hrel
    have hsz := hb.size
    by_cases hlt : k < len0
    · obtain ⟨ad, u, rfl, hbl, hu, hcell⟩ := HR0.out.at_ hlt
      have hcr : wr.cell? (ad.add k) = some (.int .u8 u) := (hb.cell (p := ad.add k) (by rw [block_of_add]; omega)).trans hcell
      obtain ⟨u0, u1⟩ := HZ0.out u (List.mem_of_getElem? hu)
      have k0 : (0 : Int) ≤ (k : Int) := by omega
      have k1 : (k : Int) < (len0 : Int) := by omega
      have HU := Lib.hid hu
      clear hu hcell
      go_wp2_with (at_builtin; (refine wpList_append_own _ rfl _ _ 24 rfl w.heap.size 35 i0 (.int .i32 0) 1 4 Tryd.underlying24 hi hz0 hz1 hz2 rfl (by decide) _ _ _ rfl (HW.out.alloc _) _ 1 1 [.int .i32 u] rfl rfl (cell_one_new _ _ _) (by intro u hu; simp at hu; subst hu; rfl) (by unfold maxLen; omega) (by omega) (by simp; omega) ?_); intro v' w3 hown' hgrow _; have HO3 := Lib.hid hown'; have HG3 := Lib.hid hgrow; clear hown' hgrow)
      have hown2 : Hid (w3.ownsRow w.heap.size 35 1 v' (k + 1) ((zs.take (k + 1)).map (Value.int .i32))) := by
        rw [take_snoc HU.out]
        simpa [Hid] using HO3.out
      go_roundw
      case rel => exact ⟨k + 1, by omega, by go_num, hown2, (hb.alloc (by omega) _).grown HG3.out (by simp; omega) (fun g hg => (HW.out.lt g hg).1)⟩
      case measure => simp [intOf]; omega
    · obtain rfl : k = len0 := by omega
      have hown := HW.out
      rw [List.take_of_length_le (by rw [HL0.out]; exact Nat.le_refl _)] at hown
      obtain ⟨wl, hwl⟩ : ∃ x, x = wr := ⟨_, rfl⟩
      subst hwl
      obtain ⟨A1, c1, rfl, h1c, h1m, hr1⟩ := own_slice2 hown
      have HL := Lib.hid hr1
      clear hown hr1 HW hlt
      go_wp2_with fail
      with_reducible refine (encodeC_any wl 3 wl.heap.size A1 k c1 zs false false HL.out (Nat.le_refl _) (by omega)).mono ?_
      rintro e w2 ⟨Ax, mx, cx, rfl, hxc, hxm, hrx, hb2⟩
      rw [al_x0 HZ0.out]
      rw [al_x HZ0.out] at hrx
      obtain rfl : mx = k := hrx.len.symm.trans HL0.out
      have hs2 := hb2.size
      have HX := Lib.hid hrx
      clear hrx
      go_wp2_with fail
      with_reducible refine (encodeC_any w2 1 wl.heap.size A1 mx c1 zs false false (HL.out.on hb2 (Nat.le_refl _)) hs2 (by omega)).mono ?_
      rintro e w3 ⟨Ay, my, cy, rfl, hyc, hym, hry, hb3⟩
      rw [al_y0 HZ0.out]
      rw [al_y HZ0.out] at hry
      have hly := (encL_len zs).2
      rw [hry.len, HL0.out] at hly
      have hs3 := hb3.size
      have HY := Lib.hid hry
      have b13 : Below wl.heap.size wl w3 := hb2.trans (hb3.mono hs2)
      clear hry
      go_wp2_with fail
      with_reducible refine (encodeC_any w3 2 wl.heap.size A1 mx c1 zs true true (HL.out.on b13 (Nat.le_refl _)) (by omega) (by omega)).mono ?_
      rintro e w4 ⟨Az, mz, cz, rfl, hzc, hzm, hrz, hb4⟩
      rw [al_z0 HZ0.out]
      rw [al_zm HZ0.out] at hrz
      have hlz := (U.encL_len true zs).2
      have hmz : mz ≤ 802 := by
        have e := hrz.len
        rw [List.length_append, mark_len] at e
        have := HL0.out
        omega
      have hs4 := hb4.size
      have HZ := Lib.hid hrz
      have b14 : Below wl.heap.size wl w4 := b13.trans (hb4.mono (by omega))
      have B4 : Below w.heap.size w w4 := hb.trans (b14.mono hsz)
      clear hrz
      go_wp2_with fail
      with_reducible refine (decodeC_any 3 (.inr (.inr rfl)) w4 w2.heap.size Ax mx cx zs ((HX.out.on hb3 (Nat.le_refl _)).on hb4 (by omega)) (by omega) HZ0.out hxc (by omega) hxm (tabs_below HT.out B4)).mono ?_
      rintro e w5 ⟨Ap, mp, cp, rfl, _, hpc, hpm, hrp, hb5⟩
      rw [bigB_three, bomB_three]
      rw [cellsD_three] at hrp
      obtain rfl : mp = mx := hrp.len.symm.trans HL0.out
      have hs5 := hb5.size
      obtain ⟨V5, hV5⟩ : ∃ V, V = w5.alloc (.cells #[.int .u8 3, .bool false, .bool false, .slice Ap mp cp] 26) := ⟨_, rfl⟩
      have hbV5 : Below w5.heap.size w5 V5 := by rw [hV5]; exact (Below.refl _ _).alloc (Nat.le_refl _) _
      have hsV5 : V5.heap.size = w5.heap.size + 1 := by rw [hV5]; simp
      have hcV5 : V5.cell? ⟨w5.heap.size, 3, none⟩ = some (.slice Ap mp cp) := by rw [hV5]; exact World.cell?_alloc_new _ _ _ _
      have HP := Lib.hid (hrp.on hbV5 (Nat.le_refl _))
      have b4V : Below w4.heap.size w4 V5 := hb5.trans (hbV5.mono (by omega))
      have B5 : Below w.heap.size w V5 := B4.trans (b4V.mono (by omega))
      clear hrp
      go_wp2_with fail
      rw [← hV5]
      clear hV5
      with_reducible refine (decodeC_any 1 (.inl rfl) V5 w3.heap.size Ay my cy (encL zs) ((HY.out.on hb4 (Nat.le_refl _)).on b4V (by omega)) (by omega) (all_bd (right_bytes HZ0.out)) hyc (by omega) hym (tabs_below HT.out B5)).mono ?_
      rintro e w6 ⟨Aq, mq, cq, rfl, _, hqc, hqm, hrq, hb6⟩
      rw [bigB_one, bomB_one]
      rw [al_q HZ0.out] at hrq
      obtain rfl : mq = mp := hrq.len.symm.trans HL0.out
      have hs6 := hb6.size
      obtain ⟨V6, hV6⟩ : ∃ V, V = w6.alloc (.cells #[.int .u8 1, .bool false, .bool false, .slice Aq mq cq] 26) := ⟨_, rfl⟩
      have hbV6 : Below w6.heap.size w6 V6 := by rw [hV6]; exact (Below.refl _ _).alloc (Nat.le_refl _) _
      have hsV6 : V6.heap.size = w6.heap.size + 1 := by rw [hV6]; simp
      have hcV6 : V6.cell? ⟨w6.heap.size, 3, none⟩ = some (.slice Aq mq cq) := by rw [hV6]; exact World.cell?_alloc_new _ _ _ _
      have HQ := Lib.hid (hrq.on hbV6 (Nat.le_refl _))
      have b5V : Below V5.heap.size V5 V6 := hb6.trans (hbV6.mono (by omega))
      have B6 : Below w.heap.size w V6 := B5.trans (b5V.mono (by omega))
      clear hrq
      go_wp2_with fail
      rw [← hV6]
      clear hV6
      with_reducible refine (decodeC_any 2 (.inr (.inl rfl)) V6 w4.heap.size Az mz cz (markL true ++ U.encL true zs) ((HZ.out.on b4V (Nat.le_refl _)).on b5V (by omega)) (by omega) (bd_app (mark_bd _) (U.all_bd true (right_bytes HZ0.out))) hzc (by omega) hzm (tabs_below HT.out B6)).mono ?_
      rintro e w7 ⟨Ar, mr, cr, rfl, _, hrc, hrm, hrr, hb7⟩
      rw [al_rm HZ0.out] at hrr
      obtain rfl : mr = mq := hrr.len.symm.trans HL0.out
      have hs7 := hb7.size
      generalize bigB 2 (markL true ++ U.encL true zs) = bg
      generalize bomB 2 (markL true ++ U.encL true zs) = bm
      obtain ⟨V7, hV7⟩ : ∃ V, V = w7.alloc (.cells #[.int .u8 2, .bool bg, .bool bm, .slice Ar mr cr] 26) := ⟨_, rfl⟩
      have hbV7 : Below w7.heap.size w7 V7 := by rw [hV7]; exact (Below.refl _ _).alloc (Nat.le_refl _) _
      have hsV7 : V7.heap.size = w7.heap.size + 1 := by rw [hV7]; simp
      have hcV7 : V7.cell? ⟨w7.heap.size, 3, none⟩ = some (.slice Ar mr cr) := by rw [hV7]; exact World.cell?_alloc_new _ _ _ _
      have b6V : Below V6.heap.size V6 V7 := hb7.trans (hbV7.mono (by omega))
      have B7 : Below w.heap.size w V7 := B6.trans (b6V.mono (by omega))
      have g6 : V7.cell? ⟨w6.heap.size, 3, none⟩ = some (.slice Aq mr cq) := (b6V.cell (p := ⟨w6.heap.size, 3, none⟩) (by show w6.heap.size < _; omega)).trans hcV6
      have g5 : V7.cell? ⟨w5.heap.size, 3, none⟩ = some (.slice Ap mr cp) := ((b5V.trans (b6V.mono (by omega))).cell (p := ⟨w5.heap.size, 3, none⟩) (by show w5.heap.size < _; omega)).trans hcV5
      have g6w : w7.cell? ⟨w6.heap.size, 3, none⟩ = some (.slice Aq mr cq) := (hb7.cell (p := ⟨w6.heap.size, 3, none⟩) (by show w6.heap.size < _; omega)).trans hcV6
      have g5w : w7.cell? ⟨w5.heap.size, 3, none⟩ = some (.slice Ap mr cp) := ((b5V.trans (hb7.mono (by omega))).cell (p := ⟨w5.heap.size, 3, none⟩) (by show w5.heap.size < _; omega)).trans hcV5
      have l6 : w6.heap.size < w7.heap.size := by omega
      have l5 : w5.heap.size < w7.heap.size := by omega
      have b47 : Below w4.heap.size w4 V7 := b4V.trans ((b5V.mono (by omega)).trans (b6V.mono (by omega)))
      have HR7 := Lib.hid (hrr.on hbV7 (Nat.le_refl _))
      have HQ7 := Lib.hid (HQ.out.on b6V (by omega))
      have HP7 := Lib.hid ((HP.out.on b5V (by omega)).on b6V (by omega))
      have HL7 := Lib.hid ((HL.out.on b14 (Nat.le_refl _)).on b47 (by omega))
      have HX7 := Lib.hid (((HX.out.on hb3 (Nat.le_refl _)).on hb4 (by omega)).on b47 (by omega))
      have HB7 := Lib.hid (HR0.out.below B7)
      have HZ7 := Lib.hid ((HZ.out.on (b4V.trans ((b5V.mono (by omega)).trans (hb7.mono (by omega)))) (Nat.le_refl _)))
      clear hrr hcV5 hcV6
      go_wp2_with fail
      rw [← hV7]
      clear hV7
      with_reducible refine (same_yes V7 w5.heap.size wl.heap.size Ap A1 mr cp mr c1 zs zs rfl HP7.out HL7.out (by unfold maxLen; omega) (by unfold maxLen; omega)).mono ?_
      rintro e w8 ⟨rfl, q1, rfl⟩
      go_wp2_with fail
      with_reducible refine (same_yes (V7.drewN q1) w6.heap.size wl.heap.size Aq A1 mr cq mr c1 zs zs rfl (HQ7.out.drewN q1) (HL7.out.drewN q1) (by unfold maxLen; omega) (by unfold maxLen; omega)).mono ?_
      rintro e w8 ⟨rfl, q2, rfl⟩
      go_wp2_with fail
      with_reducible refine (same_yes (V7.drewN (q1 + q2)) w7.heap.size wl.heap.size Ar A1 mr cr mr c1 zs zs rfl (HR7.out.drewN (q1 + q2)) (HL7.out.drewN (q1 + q2)) (by unfold maxLen; omega) (by unfold maxLen; omega)).mono ?_
      rintro e w8 ⟨rfl, q3, rfl⟩
      have kx := conv_ri (HX7.out.drewN (q1 + q2 + q3)) cx
      have kb := conv_ri (HB7.out.drewN (q1 + q2 + q3)) cap0
      go_wp2
      go_ret
      exact ⟨rfl, below_drewN B7 (q1 + q2 + q3)⟩

set_option maxRecDepth 100000 in
set_option maxHeartbeats 8000000 in
theorem alike_true_false (a0 : Option Addr) (len0 cap0 : Nat) (z0 : List Int) (w : World) (hT : Lib.Utf8Tabs 0 1 w) (w0 : L.IsRow .u8 w a0 len0 cap0 z0) :
    Calls Tryd.prog 8 #[.slice a0 len0 cap0, .bool true, .bool false] w fun e w' => e = .returned (.bool true) ∧ Below w.heap.size w w' := by
  obtain ⟨i0, hi, hz0, hz1, hz2⟩ := info_parts info33
  have hr0 := RI.of_row w0
  have hzs : Bd (z0.take len0) := row_u8 w0
  obtain ⟨hlc, hcm⟩ := row_len w0
  generalize z0.take len0 = zs at *
  have HR0 := Lib.hid hr0
  have HZ0 := Lib.hid hzs
  have HT := Lib.hid hT
  have HL0 := Lib.hid hr0.len
  clear w0 hr0 hzs hT
  by_cases hbig : 200 < len0
  · have tb : ((200 : Int) < (len0 : Int)) := by omega
    go_enter Tryd.func8, Tryd.ntmps8
    go_wp2_with fail
    with_reducible refine (known_any w HT.out).mono ?_
    rintro e w1 ⟨rfl, hb1⟩
    go_wp2
    go_ret
    exact ⟨rfl, hb1⟩
  go_enter Tryd.func8, Tryd.ntmps8
  go_wp2_with fail
  with_reducible refine (known_any w HT.out).mono ?_
  rintro e w1 ⟨rfl, hb1⟩
  have hs1 := hb1.size
  go_wp2
  go_loopw [7, 8] (fun v iv wr => ∃ k : Nat, k ≤ len0 ∧ iv = .int .i64 k ∧ Hid (wr.ownsRow w.heap.size 35 1 v k ((zs.take k).map (Value.int .i32))) ∧ Below w.heap.size w wr) (fun _ iv _ => len0 - (intOf iv).toNat)
  case atStart => exact ⟨0, Nat.zero_le _, rfl, World.ownsRow_nil _ _ _ _, hb1⟩
  case round =>
    obtain ⟨k, hk, rfl, HW, hb⟩ := hrel
    have hsz := hb.size
    by_cases hlt : k < len0
    · obtain ⟨ad, u, rfl, hbl, hu, hcell⟩ := HR0.out.at_ hlt
      have hcr : wr.cell? (ad.add k) = some (.int .u8 u) := (hb.cell (p := ad.add k) (by rw [block_of_add]; omega)).trans hcell
      obtain ⟨u0, u1⟩ := HZ0.out u (List.mem_of_getElem? hu)
      have k0 : (0 : Int) ≤ (k : Int) := by omega
      have k1 : (k : Int) < (len0 : Int) := by omega
      have HU := Lib.hid hu
      clear hu hcell
      go_wp2_with (at_builtin; (refine wpList_append_own _ rfl _ _ 24 rfl w.heap.size 35 i0 (.int .i32 0) 1 4 Tryd.underlying24 hi hz0 hz1 hz2 rfl (by decide) _ _ _ rfl (HW.out.alloc _) _ 1 1 [.int .i32 u] rfl rfl (cell_one_new _ _ _) (by intro u hu; simp at hu; subst hu; rfl) (by unfold maxLen; omega) (by omega) (by simp; omega) ?_); intro v' w3 hown' hgrow _; have HO3 := Lib.hid hown'; have HG3 := Lib.hid hgrow; clear hown' hgrow)
      have hown2 : Hid (w3.ownsRow w.heap.size 35 1 v' (k + 1) ((zs.take (k + 1)).map (Value.int .i32))) := by
        rw [take_snoc HU.out]
        simpa [Hid] using HO3.out
      go_roundw
      case rel => exact ⟨k + 1, by omega, by go_num, hown2, (hb.alloc (by omega) _).grown HG3.out (by simp; omega) (fun g hg => (HW.out.lt g hg).1)⟩
      case measure => simp [intOf]; omega
    · obtain rfl : k = len0 := by omega
      have hown := HW.out
      rw [List.take_of_length_le (by rw [HL0.out]; exact Nat.le_refl _)] at hown
      obtain ⟨wl, hwl⟩ : ∃ x, x = wr := ⟨_, rfl⟩
      subst hwl
      obtain ⟨A1, c1, rfl, h1c, h1m, hr1⟩ := own_slice2 hown
      have HL := Lib.hid hr1
      clear hown hr1 HW hlt
      go_wp2_with fail
      with_reducible refine (encodeC_any wl 3 wl.heap.size A1 k c1 zs false false HL.out (Nat.le_refl _) (by omega)).mono ?_
      rintro e w2 ⟨Ax, mx, cx, rfl, hxc, hxm, hrx, hb2⟩
      rw [al_x0 HZ0.out]
      rw [al_x HZ0.out] at hrx
      obtain rfl : mx = k := hrx.len.symm.trans HL0.out
      have hs2 := hb2.size
      have HX := Lib.hid hrx
      clear hrx
      go_wp2_with fail
      with_reducible refine (encodeC_any w2 1 wl.heap.size A1 mx c1 zs false false (HL.out.on hb2 (Nat.le_refl _)) hs2 (by omega)).mono ?_
      rintro e w3 ⟨Ay, my, cy, rfl, hyc, hym, hry, hb3⟩
      rw [al_y0 HZ0.out]
      rw [al_y HZ0.out] at hry
      have hly := (encL_len zs).2
      rw [hry.len, HL0.out] at hly
      have hs3 := hb3.size
      have HY := Lib.hid hry
      have b13 : Below wl.heap.size wl w3 := hb2.trans (hb3.mono hs2)
      clear hry
      go_wp2_with fail
      with_reducible refine (encodeC_any w3 2 wl.heap.size A1 mx c1 zs true false (HL.out.on b13 (Nat.le_refl _)) (by omega) (by omega)).mono ?_
      rintro e w4 ⟨Az, mz, cz, rfl, hzc, hzm, hrz, hb4⟩
      rw [al_z0 HZ0.out]
      rw [al_zn HZ0.out] at hrz
      have hlz := (U.encL_len true zs).2
      have hmz : mz ≤ 802 := by
        have e := hrz.len
        skip
        have := HL0.out
        omega
      have hs4 := hb4.size
      have HZ := Lib.hid hrz
      have b14 : Below wl.heap.size wl w4 := b13.trans (hb4.mono (by omega))
      have B4 : Below w.heap.size w w4 := hb.trans (b14.mono hsz)
      clear hrz
      go_wp2_with fail
      with_reducible refine (decodeC_any 3 (.inr (.inr rfl)) w4 w2.heap.size Ax mx cx zs ((HX.out.on hb3 (Nat.le_refl _)).on hb4 (by omega)) (by omega) HZ0.out hxc (by omega) hxm (tabs_below HT.out B4)).mono ?_
      rintro e w5 ⟨Ap, mp, cp, rfl, _, hpc, hpm, hrp, hb5⟩
      rw [bigB_three, bomB_three]
      rw [cellsD_three] at hrp
      obtain rfl : mp = mx := hrp.len.symm.trans HL0.out
      have hs5 := hb5.size
      obtain ⟨V5, hV5⟩ : ∃ V, V = w5.alloc (.cells #[.int .u8 3, .bool false, .bool false, .slice Ap mp cp] 26) := ⟨_, rfl⟩
      have hbV5 : Below w5.heap.size w5 V5 := by rw [hV5]; exact (Below.refl _ _).alloc (Nat.le_refl _) _
      have hsV5 : V5.heap.size = w5.heap.size + 1 := by rw [hV5]; simp
      have hcV5 : V5.cell? ⟨w5.heap.size, 3, none⟩ = some (.slice Ap mp cp) := by rw [hV5]; exact World.cell?_alloc_new _ _ _ _
      have HP := Lib.hid (hrp.on hbV5 (Nat.le_refl _))
      have b4V : Below w4.heap.size w4 V5 := hb5.trans (hbV5.mono (by omega))
      have B5 : Below w.heap.size w V5 := B4.trans (b4V.mono (by omega))
      clear hrp
      go_wp2_with fail
      rw [← hV5]
      clear hV5
      with_reducible refine (decodeC_any 1 (.inl rfl) V5 w3.heap.size Ay my cy (encL zs) ((HY.out.on hb4 (Nat.le_refl _)).on b4V (by omega)) (by omega) (all_bd (right_bytes HZ0.out)) hyc (by omega) hym (tabs_below HT.out B5)).mono ?_
      rintro e w6 ⟨Aq, mq, cq, rfl, _, hqc, hqm, hrq, hb6⟩
      rw [bigB_one, bomB_one]
      rw [al_q HZ0.out] at hrq
      obtain rfl : mq = mp := hrq.len.symm.trans HL0.out
      have hs6 := hb6.size
      obtain ⟨V6, hV6⟩ : ∃ V, V = w6.alloc (.cells #[.int .u8 1, .bool false, .bool false, .slice Aq mq cq] 26) := ⟨_, rfl⟩
      have hbV6 : Below w6.heap.size w6 V6 := by rw [hV6]; exact (Below.refl _ _).alloc (Nat.le_refl _) _
      have hsV6 : V6.heap.size = w6.heap.size + 1 := by rw [hV6]; simp
      have hcV6 : V6.cell? ⟨w6.heap.size, 3, none⟩ = some (.slice Aq mq cq) := by rw [hV6]; exact World.cell?_alloc_new _ _ _ _
      have HQ := Lib.hid (hrq.on hbV6 (Nat.le_refl _))
      have b5V : Below V5.heap.size V5 V6 := hb6.trans (hbV6.mono (by omega))
      have B6 : Below w.heap.size w V6 := B5.trans (b5V.mono (by omega))
      clear hrq
      go_wp2_with fail
      rw [← hV6]
      clear hV6
      with_reducible refine (decodeC_any 2 (.inr (.inl rfl)) V6 w4.heap.size Az mz cz (U.encL true zs) ((HZ.out.on b4V (Nat.le_refl _)).on b5V (by omega)) (by omega) (U.all_bd true (right_bytes HZ0.out)) hzc (by omega) hzm (tabs_below HT.out B6)).mono ?_
      rintro e w7 ⟨Ar, mr, cr, rfl, _, hrc, hrm, hrr, hb7⟩
      rw [al_rn HZ0.out] at hrr
      obtain rfl : mr = mq := hrr.len.symm.trans HL0.out
      have hs7 := hb7.size
      generalize bigB 2 (U.encL true zs) = bg
      generalize bomB 2 (U.encL true zs) = bm
      obtain ⟨V7, hV7⟩ : ∃ V, V = w7.alloc (.cells #[.int .u8 2, .bool bg, .bool bm, .slice Ar mr cr] 26) := ⟨_, rfl⟩
      have hbV7 : Below w7.heap.size w7 V7 := by rw [hV7]; exact (Below.refl _ _).alloc (Nat.le_refl _) _
      have hsV7 : V7.heap.size = w7.heap.size + 1 := by rw [hV7]; simp
      have hcV7 : V7.cell? ⟨w7.heap.size, 3, none⟩ = some (.slice Ar mr cr) := by rw [hV7]; exact World.cell?_alloc_new _ _ _ _
      have b6V : Below V6.heap.size V6 V7 := hb7.trans (hbV7.mono (by omega))
      have B7 : Below w.heap.size w V7 := B6.trans (b6V.mono (by omega))
      have g6 : V7.cell? ⟨w6.heap.size, 3, none⟩ = some (.slice Aq mr cq) := (b6V.cell (p := ⟨w6.heap.size, 3, none⟩) (by show w6.heap.size < _; omega)).trans hcV6
      have g5 : V7.cell? ⟨w5.heap.size, 3, none⟩ = some (.slice Ap mr cp) := ((b5V.trans (b6V.mono (by omega))).cell (p := ⟨w5.heap.size, 3, none⟩) (by show w5.heap.size < _; omega)).trans hcV5
      have g6w : w7.cell? ⟨w6.heap.size, 3, none⟩ = some (.slice Aq mr cq) := (hb7.cell (p := ⟨w6.heap.size, 3, none⟩) (by show w6.heap.size < _; omega)).trans hcV6
      have g5w : w7.cell? ⟨w5.heap.size, 3, none⟩ = some (.slice Ap mr cp) := ((b5V.trans (hb7.mono (by omega))).cell (p := ⟨w5.heap.size, 3, none⟩) (by show w5.heap.size < _; omega)).trans hcV5
      have l6 : w6.heap.size < w7.heap.size := by omega
      have l5 : w5.heap.size < w7.heap.size := by omega
      have b47 : Below w4.heap.size w4 V7 := b4V.trans ((b5V.mono (by omega)).trans (b6V.mono (by omega)))
      have HR7 := Lib.hid (hrr.on hbV7 (Nat.le_refl _))
      have HQ7 := Lib.hid (HQ.out.on b6V (by omega))
      have HP7 := Lib.hid ((HP.out.on b5V (by omega)).on b6V (by omega))
      have HL7 := Lib.hid ((HL.out.on b14 (Nat.le_refl _)).on b47 (by omega))
      have HX7 := Lib.hid (((HX.out.on hb3 (Nat.le_refl _)).on hb4 (by omega)).on b47 (by omega))
      have HB7 := Lib.hid (HR0.out.below B7)
      have HZ7 := Lib.hid ((HZ.out.on (b4V.trans ((b5V.mono (by omega)).trans (hb7.mono (by omega)))) (Nat.le_refl _)))
      clear hrr hcV5 hcV6
      rcases Nat.eq_zero_or_pos mr with hm0 | hm0
      · have hmz0 : mz = 0 := by
          have e := HZ.out.len
          have e2 := HL0.out
          rw [List.eq_nil_of_length_eq_zero (e2.trans hm0)] at e
          exact e.symm
        subst hmz0
        subst hm0
        go_wp2_with fail
        rw [← hV7]
        clear hV7
        with_reducible refine (same_yes V7 w5.heap.size wl.heap.size Ap A1 0 cp 0 c1 zs zs rfl HP7.out HL7.out (by unfold maxLen; omega) (by unfold maxLen; omega)).mono ?_
        rintro e w8 ⟨rfl, q1, rfl⟩
        go_wp2_with fail
        with_reducible refine (same_yes (V7.drewN q1) w6.heap.size wl.heap.size Aq A1 0 cq 0 c1 zs zs rfl (HQ7.out.drewN q1) (HL7.out.drewN q1) (by unfold maxLen; omega) (by unfold maxLen; omega)).mono ?_
        rintro e w8 ⟨rfl, q2, rfl⟩
        go_wp2_with fail
        with_reducible refine (same_yes (V7.drewN (q1 + q2)) w7.heap.size wl.heap.size Ar A1 0 cr 0 c1 zs zs rfl (HR7.out.drewN (q1 + q2)) (HL7.out.drewN (q1 + q2)) (by unfold maxLen; omega) (by unfold maxLen; omega)).mono ?_
        rintro e w8 ⟨rfl, q3, rfl⟩
        have kx := conv_ri (HX7.out.drewN (q1 + q2 + q3)) cx
        have kb := conv_ri (HB7.out.drewN (q1 + q2 + q3)) cap0
        go_wp2
        go_ret
        exact ⟨rfl, below_drewN B7 (q1 + q2 + q3)⟩
      · obtain ⟨zh, zt, hzz⟩ : ∃ a b, zs = a :: b := by
          cases zs with
          | nil => have := HL0.out; simp at this; omega
          | cons a b => exact ⟨a, b, rfl⟩
        have hz2 : 2 ≤ mz := by
          have e := HZ.out.len
          rw [hzz, al_head (hzz ▸ HZ0.out)] at e
          simp at e
          omega
        obtain ⟨zb, zo, hAz, hzbl, hzc'⟩ := HZ7.out.flat (by omega)
        subst hAz
        have gz := hzc' 0 0 (by rw [hzz, al_head (hzz ▸ HZ0.out)]; rfl)
        rw [Nat.add_zero] at gz
        have lz : zb < w7.heap.size := by omega
        have tz : (2 : Int) ≤ (mz : Int) := by omega
        have tz0 : (0 : Int) < (mz : Int) := by omega
        clear hzc' hzz
        go_wp2_with fail
        rw [← hV7]
        clear hV7
        with_reducible refine (same_yes V7 w5.heap.size wl.heap.size Ap A1 mr cp mr c1 zs zs rfl HP7.out HL7.out (by unfold maxLen; omega) (by unfold maxLen; omega)).mono ?_
        rintro e w8 ⟨rfl, q1, rfl⟩
        go_wp2_with fail
        with_reducible refine (same_yes (V7.drewN q1) w6.heap.size wl.heap.size Aq A1 mr cq mr c1 zs zs rfl (HQ7.out.drewN q1) (HL7.out.drewN q1) (by unfold maxLen; omega) (by unfold maxLen; omega)).mono ?_
        rintro e w8 ⟨rfl, q2, rfl⟩
        go_wp2_with fail
        with_reducible refine (same_yes (V7.drewN (q1 + q2)) w7.heap.size wl.heap.size Ar A1 mr cr mr c1 zs zs rfl (HR7.out.drewN (q1 + q2)) (HL7.out.drewN (q1 + q2)) (by unfold maxLen; omega) (by unfold maxLen; omega)).mono ?_
        rintro e w8 ⟨rfl, q3, rfl⟩
        have kx := conv_ri (HX7.out.drewN (q1 + q2 + q3)) cx
        have kb := conv_ri (HB7.out.drewN (q1 + q2 + q3)) cap0
        go_wp2
        go_ret
        exact ⟨rfl, below_drewN B7 (q1 + q2 + q3)⟩

set_option maxRecDepth 100000 in
set_option maxHeartbeats 8000000 in
theorem alike_false_true (a0 : Option Addr) (len0 cap0 : Nat) (z0 : List Int) (w : World) (hT : Lib.Utf8Tabs 0 1 w) (w0 : L.IsRow .u8 w a0 len0 cap0 z0) :
    Calls Tryd.prog 8 #[.slice a0 len0 cap0, .bool false, .bool true] w fun e w' => e = .returned (.bool true) ∧ Below w.heap.size w w' := by
  obtain ⟨i0, hi, hz0, hz1, hz2⟩ := info_parts info33
  have hr0 := RI.of_row w0
  have hzs : Bd (z0.take len0) := row_u8 w0
  obtain ⟨hlc, hcm⟩ := row_len w0
  generalize z0.take len0 = zs at *
  have HR0 := Lib.hid hr0
  have HZ0 := Lib.hid hzs
  have HT := Lib.hid hT
  have HL0 := Lib.hid hr0.len
  clear w0 hr0 hzs hT
  by_cases hbig : 200 < len0
  · have tb : ((200 : Int) < (len0 : Int)) := by omega
    go_enter Tryd.func8, Tryd.ntmps8
    go_wp2_with fail
    with_reducible refine (known_any w HT.out).mono ?_
    rintro e w1 ⟨rfl, hb1⟩
    go_wp2
    go_ret
    exact ⟨rfl, hb1⟩
  go_enter Tryd.func8, Tryd.ntmps8
  go_wp2_with fail
  with_reducible refine (known_any w HT.out).mono ?_
  rintro e w1 ⟨rfl, hb1⟩
  have hs1 := hb1.size
  go_wp2
  go_loopw [7, 8] (fun v iv wr => ∃ k : Nat, k ≤ len0 ∧ iv = .int .i64 k ∧ Hid (wr.ownsRow w.heap.size 35 1 v k ((zs.take k).map (Value.int .i32))) ∧ Below w.heap.size w wr) (fun _ iv _ => len0 - (intOf iv).toNat)
  case atStart => exact ⟨0, Nat.zero_le _, rfl, World.ownsRow_nil _ _ _ _, hb1⟩
  case round =>
    obtain ⟨k, hk, rfl, HW, hb⟩ := hrel
    have hsz := hb.size
    by_cases hlt : k < len0
    · obtain ⟨ad, u, rfl, hbl, hu, hcell⟩ := HR0.out.at_ hlt
      have hcr : wr.cell? (ad.add k) = some (.int .u8 u) := (hb.cell (p := ad.add k) (by rw [block_of_add]; omega)).trans hcell
      obtain ⟨u0, u1⟩ := HZ0.out u (List.mem_of_getElem? hu)
      have k0 : (0 : Int) ≤ (k : Int) := by omega
      have k1 : (k : Int) < (len0 : Int) := by omega
      have HU := Lib.hid hu
      clear hu hcell
      go_wp2_with (at_builtin; (refine wpList_append_own _ rfl _ _ 24 rfl w.heap.size 35 i0 (.int .i32 0) 1 4 Tryd.underlying24 hi hz0 hz1 hz2 rfl (by decide) _ _ _ rfl (HW.out.alloc _) _ 1 1 [.int .i32 u] rfl rfl (cell_one_new _ _ _) (by intro u hu; simp at hu; subst hu; rfl) (by unfold maxLen; omega) (by omega) (by simp; omega) ?_); intro v' w3 hown' hgrow _; have HO3 := Lib.hid hown'; have HG3 := Lib.hid hgrow; clear hown' hgrow)
      have hown2 : Hid (w3.ownsRow w.heap.size 35 1 v' (k + 1) ((zs.take (k + 1)).map (Value.int .i32))) := by
        rw [take_snoc HU.out]
        simpa [Hid] using HO3.out
      go_roundw
      case rel => exact ⟨k + 1, by omega, by go_num, hown2, (hb.alloc (by omega) _).grown HG3.out (by simp; omega) (fun g hg => (HW.out.lt g hg).1)⟩
      case measure => simp [intOf]; omega
    · obtain rfl : k = len0 := by omega
      have hown := HW.out
      rw [List.take_of_length_le (by rw [HL0.out]; exact Nat.le_refl _)] at hown
      obtain ⟨wl, hwl⟩ : ∃ x, x = wr := ⟨_, rfl⟩
      subst hwl
      obtain ⟨A1, c1, rfl, h1c, h1m, hr1⟩ := own_slice2 hown
      have HL := Lib.hid hr1
      clear hown hr1 HW hlt
      go_wp2_with fail
      with_reducible refine (encodeC_any wl 3 wl.heap.size A1 k c1 zs false false HL.out (Nat.le_refl _) (by omega)).mono ?_
      rintro e w2 ⟨Ax, mx, cx, rfl, hxc, hxm, hrx, hb2⟩
      rw [al_x0 HZ0.out]
      rw [al_x HZ0.out] at hrx
      obtain rfl : mx = k := hrx.len.symm.trans HL0.out
      have hs2 := hb2.size
      have HX := Lib.hid hrx
      clear hrx
      go_wp2_with fail
      with_reducible refine (encodeC_any w2 1 wl.heap.size A1 mx c1 zs false false (HL.out.on hb2 (Nat.le_refl _)) hs2 (by omega)).mono ?_
      rintro e w3 ⟨Ay, my, cy, rfl, hyc, hym, hry, hb3⟩
      rw [al_y0 HZ0.out]
      rw [al_y HZ0.out] at hry
      have hly := (encL_len zs).2
      rw [hry.len, HL0.out] at hly
      have hs3 := hb3.size
      have HY := Lib.hid hry
      have b13 : Below wl.heap.size wl w3 := hb2.trans (hb3.mono hs2)
      clear hry
      go_wp2_with fail
      with_reducible refine (encodeC_any w3 2 wl.heap.size A1 mx c1 zs false true (HL.out.on b13 (Nat.le_refl _)) (by omega) (by omega)).mono ?_
      rintro e w4 ⟨Az, mz, cz, rfl, hzc, hzm, hrz, hb4⟩
      rw [al_z0 HZ0.out]
      rw [al_zm HZ0.out] at hrz
      have hlz := (U.encL_len false zs).2
      have hmz : mz ≤ 802 := by
        have e := hrz.len
        rw [List.length_append, mark_len] at e
        have := HL0.out
        omega
      have hs4 := hb4.size
      have HZ := Lib.hid hrz
      have b14 : Below wl.heap.size wl w4 := b13.trans (hb4.mono (by omega))
      have B4 : Below w.heap.size w w4 := hb.trans (b14.mono hsz)
      clear hrz
      go_wp2_with fail
      with_reducible refine (decodeC_any 3 (.inr (.inr rfl)) w4 w2.heap.size Ax mx cx zs ((HX.out.on hb3 (Nat.le_refl _)).on hb4 (by omega)) (by omega) HZ0.out hxc (by omega) hxm (tabs_below HT.out B4)).mono ?_
      rintro e w5 ⟨Ap, mp, cp, rfl, _, hpc, hpm, hrp, hb5⟩
      rw [bigB_three, bomB_three]
      rw [cellsD_three] at hrp
      obtain rfl : mp = mx := hrp.len.symm.trans HL0.out
      have hs5 := hb5.size
      obtain ⟨V5, hV5⟩ : ∃ V, V = w5.alloc (.cells #[.int .u8 3, .bool false, .bool false, .slice Ap mp cp] 26) := ⟨_, rfl⟩
      have hbV5 : Below w5.heap.size w5 V5 := by rw [hV5]; exact (Below.refl _ _).alloc (Nat.le_refl _) _
      have hsV5 : V5.heap.size = w5.heap.size + 1 := by rw [hV5]; simp
      have hcV5 : V5.cell? ⟨w5.heap.size, 3, none⟩ = some (.slice Ap mp cp) := by rw [hV5]; exact World.cell?_alloc_new _ _ _ _
      have HP := Lib.hid (hrp.on hbV5 (Nat.le_refl _))
      have b4V : Below w4.heap.size w4 V5 := hb5.trans (hbV5.mono (by omega))
      have B5 : Below w.heap.size w V5 := B4.trans (b4V.mono (by omega))
      clear hrp
      go_wp2_with fail
      rw [← hV5]
      clear hV5
      with_reducible refine (decodeC_any 1 (.inl rfl) V5 w3.heap.size Ay my cy (encL zs) ((HY.out.on hb4 (Nat.le_refl _)).on b4V (by omega)) (by omega) (all_bd (right_bytes HZ0.out)) hyc (by omega) hym (tabs_below HT.out B5)).mono ?_
      rintro e w6 ⟨Aq, mq, cq, rfl, _, hqc, hqm, hrq, hb6⟩
      rw [bigB_one, bomB_one]
      rw [al_q HZ0.out] at hrq
      obtain rfl : mq = mp := hrq.len.symm.trans HL0.out
      have hs6 := hb6.size
      obtain ⟨V6, hV6⟩ : ∃ V, V = w6.alloc (.cells #[.int .u8 1, .bool false, .bool false, .slice Aq mq cq] 26) := ⟨_, rfl⟩
      have hbV6 : Below w6.heap.size w6 V6 := by rw [hV6]; exact (Below.refl _ _).alloc (Nat.le_refl _) _
      have hsV6 : V6.heap.size = w6.heap.size + 1 := by rw [hV6]; simp
      have hcV6 : V6.cell? ⟨w6.heap.size, 3, none⟩ = some (.slice Aq mq cq) := by rw [hV6]; exact World.cell?_alloc_new _ _ _ _
      have HQ := Lib.hid (hrq.on hbV6 (Nat.le_refl _))
      have b5V : Below V5.heap.size V5 V6 := hb6.trans (hbV6.mono (by omega))
      have B6 : Below w.heap.size w V6 := B5.trans (b5V.mono (by omega))
      clear hrq
      go_wp2_with fail
      rw [← hV6]
      clear hV6
      with_reducible refine (decodeC_any 2 (.inr (.inl rfl)) V6 w4.heap.size Az mz cz (markL false ++ U.encL false zs) ((HZ.out.on b4V (Nat.le_refl _)).on b5V (by omega)) (by omega) (bd_app (mark_bd _) (U.all_bd false (right_bytes HZ0.out))) hzc (by omega) hzm (tabs_below HT.out B6)).mono ?_
      rintro e w7 ⟨Ar, mr, cr, rfl, _, hrc, hrm, hrr, hb7⟩
      rw [al_rm HZ0.out] at hrr
      obtain rfl : mr = mq := hrr.len.symm.trans HL0.out
      have hs7 := hb7.size
      generalize bigB 2 (markL false ++ U.encL false zs) = bg
      generalize bomB 2 (markL false ++ U.encL false zs) = bm
      obtain ⟨V7, hV7⟩ : ∃ V, V = w7.alloc (.cells #[.int .u8 2, .bool bg, .bool bm, .slice Ar mr cr] 26) := ⟨_, rfl⟩
      have hbV7 : Below w7.heap.size w7 V7 := by rw [hV7]; exact (Below.refl _ _).alloc (Nat.le_refl _) _
      have hsV7 : V7.heap.size = w7.heap.size + 1 := by rw [hV7]; simp
      have hcV7 : V7.cell? ⟨w7.heap.size, 3, none⟩ = some (.slice Ar mr cr) := by rw [hV7]; exact World.cell?_alloc_new _ _ _ _
      have b6V : Below V6.heap.size V6 V7 := hb7.trans (hbV7.mono (by omega))
      have B7 : Below w.heap.size w V7 := B6.trans (b6V.mono (by omega))
      have g6 : V7.cell? ⟨w6.heap.size, 3, none⟩ = some (.slice Aq mr cq) := (b6V.cell (p := ⟨w6.heap.size, 3, none⟩) (by show w6.heap.size < _; omega)).trans hcV6
      have g5 : V7.cell? ⟨w5.heap.size, 3, none⟩ = some (.slice Ap mr cp) := ((b5V.trans (b6V.mono (by omega))).cell (p := ⟨w5.heap.size, 3, none⟩) (by show w5.heap.size < _; omega)).trans hcV5
      have g6w : w7.cell? ⟨w6.heap.size, 3, none⟩ = some (.slice Aq mr cq) := (hb7.cell (p := ⟨w6.heap.size, 3, none⟩) (by show w6.heap.size < _; omega)).trans hcV6
      have g5w : w7.cell? ⟨w5.heap.size, 3, none⟩ = some (.slice Ap mr cp) := ((b5V.trans (hb7.mono (by omega))).cell (p := ⟨w5.heap.size, 3, none⟩) (by show w5.heap.size < _; omega)).trans hcV5
      have l6 : w6.heap.size < w7.heap.size := by omega
      have l5 : w5.heap.size < w7.heap.size := by omega
      have b47 : Below w4.heap.size w4 V7 := b4V.trans ((b5V.mono (by omega)).trans (b6V.mono (by omega)))
      have HR7 := Lib.hid (hrr.on hbV7 (Nat.le_refl _))
      have HQ7 := Lib.hid (HQ.out.on b6V (by omega))
      have HP7 := Lib.hid ((HP.out.on b5V (by omega)).on b6V (by omega))
      have HL7 := Lib.hid ((HL.out.on b14 (Nat.le_refl _)).on b47 (by omega))
      have HX7 := Lib.hid (((HX.out.on hb3 (Nat.le_refl _)).on hb4 (by omega)).on b47 (by omega))
      have HB7 := Lib.hid (HR0.out.below B7)
      have HZ7 := Lib.hid ((HZ.out.on (b4V.trans ((b5V.mono (by omega)).trans (hb7.mono (by omega)))) (Nat.le_refl _)))
      clear hrr hcV5 hcV6
      go_wp2_with fail
      rw [← hV7]
      clear hV7
      with_reducible refine (same_yes V7 w5.heap.size wl.heap.size Ap A1 mr cp mr c1 zs zs rfl HP7.out HL7.out (by unfold maxLen; omega) (by unfold maxLen; omega)).mono ?_
      rintro e w8 ⟨rfl, q1, rfl⟩
      go_wp2_with fail
      with_reducible refine (same_yes (V7.drewN q1) w6.heap.size wl.heap.size Aq A1 mr cq mr c1 zs zs rfl (HQ7.out.drewN q1) (HL7.out.drewN q1) (by unfold maxLen; omega) (by unfold maxLen; omega)).mono ?_
      rintro e w8 ⟨rfl, q2, rfl⟩
      go_wp2_with fail
      with_reducible refine (same_yes (V7.drewN (q1 + q2)) w7.heap.size wl.heap.size Ar A1 mr cr mr c1 zs zs rfl (HR7.out.drewN (q1 + q2)) (HL7.out.drewN (q1 + q2)) (by unfold maxLen; omega) (by unfold maxLen; omega)).mono ?_
      rintro e w8 ⟨rfl, q3, rfl⟩
      have kx := conv_ri (HX7.out.drewN (q1 + q2 + q3)) cx
      have kb := conv_ri (HB7.out.drewN (q1 + q2 + q3)) cap0
      go_wp2
      go_ret
      exact ⟨rfl, below_drewN B7 (q1 + q2 + q3)⟩

set_option maxRecDepth 100000 in
set_option maxHeartbeats 8000000 in
theorem alike_false_false (a0 : Option Addr) (len0 cap0 : Nat) (z0 : List Int) (w : World) (hT : Lib.Utf8Tabs 0 1 w) (w0 : L.IsRow .u8 w a0 len0 cap0 z0) :
    Calls Tryd.prog 8 #[.slice a0 len0 cap0, .bool false, .bool false] w fun e w' => e = .returned (.bool true) ∧ Below w.heap.size w w' := by
  obtain ⟨i0, hi, hz0, hz1, hz2⟩ := info_parts info33
  have hr0 := RI.of_row w0
  have hzs : Bd (z0.take len0) := row_u8 w0
  obtain ⟨hlc, hcm⟩ := row_len w0
  generalize z0.take len0 = zs at *
  have HR0 := Lib.hid hr0
  have HZ0 := Lib.hid hzs
  have HT := Lib.hid hT
  have HL0 := Lib.hid hr0.len
  clear w0 hr0 hzs hT
  by_cases hbig : 200 < len0
  · have tb : ((200 : Int) < (len0 : Int)) := by omega
    go_enter Tryd.func8, Tryd.ntmps8
    go_wp2_with fail
    with_reducible refine (known_any w HT.out).mono ?_
    rintro e w1 ⟨rfl, hb1⟩
    go_wp2
    go_ret
    exact ⟨rfl, hb1⟩
  go_enter Tryd.func8, Tryd.ntmps8
  go_wp2_with fail
  with_reducible refine (known_any w HT.out).mono ?_
  rintro e w1 ⟨rfl, hb1⟩
  have hs1 := hb1.size
  go_wp2
  go_loopw [7, 8] (fun v iv wr => ∃ k : Nat, k ≤ len0 ∧ iv = .int .i64 k ∧ Hid (wr.ownsRow w.heap.size 35 1 v k ((zs.take k).map (Value.int .i32))) ∧ Below w.heap.size w wr) (fun _ iv _ => len0 - (intOf iv).toNat)
  case atStart => exact ⟨0, Nat.zero_le _, rfl, World.ownsRow_nil _ _ _ _, hb1⟩
  case round =>
    obtain ⟨k, hk, rfl, HW, hb⟩ := hrel
    have hsz := hb.size
    by_cases hlt : k < len0
    · obtain ⟨ad, u, rfl, hbl, hu, hcell⟩ := HR0.out.at_ hlt
      have hcr : wr.cell? (ad.add k) = some (.int .u8 u) := (hb.cell (p := ad.add k) (by rw [block_of_add]; omega)).trans hcell
      obtain ⟨u0, u1⟩ := HZ0.out u (List.mem_of_getElem? hu)
      have k0 : (0 : Int) ≤ (k : Int) := by omega
      have k1 : (k : Int) < (len0 : Int) := by omega
      have HU := Lib.hid hu
      clear hu hcell
      go_wp2_with (at_builtin; (refine wpList_append_own _ rfl _ _ 24 rfl w.heap.size 35 i0 (.int .i32 0) 1 4 Tryd.underlying24 hi hz0 hz1 hz2 rfl (by decide) _ _ _ rfl (HW.out.alloc _) _ 1 1 [.int .i32 u] rfl rfl (cell_one_new _ _ _) (by intro u hu; simp at hu; subst hu; rfl) (by unfold maxLen; omega) (by omega) (by simp; omega) ?_); intro v' w3 hown' hgrow _; have HO3 := Lib.hid hown'; have HG3 := Lib.hid hgrow; clear hown' hgrow)
      have hown2 : Hid (w3.ownsRow w.heap.size 35 1 v' (k + 1) ((zs.take (k + 1)).map (Value.int .i32))) := by
        rw [take_snoc HU.out]
        simpa [Hid] using HO3.out
      go_roundw
      case rel => exact ⟨k + 1, by omega, by go_num, hown2, (hb.alloc (by omega) _).grown HG3.out (by simp; omega) (fun g hg => (HW.out.lt g hg).1)⟩
      case measure => simp [intOf]; omega
    · obtain rfl : k = len0 := by omega
      have hown := HW.out
      rw [List.take_of_length_le (by rw [HL0.out]; exact Nat.le_refl _)] at hown
      obtain ⟨wl, hwl⟩ : ∃ x, x = wr := ⟨_, rfl⟩
      subst hwl
      obtain ⟨A1, c1, rfl, h1c, h1m, hr1⟩ := own_slice2 hown
      have HL := Lib.hid hr1
      clear hown hr1 HW hlt
      go_wp2_with fail
      with_reducible refine (encodeC_any wl 3 wl.heap.size A1 k c1 zs false false HL.out (Nat.le_refl _) (by omega)).mono ?_
      rintro e w2 ⟨Ax, mx, cx, rfl, hxc, hxm, hrx, hb2⟩
      rw [al_x0 HZ0.out]
      rw [al_x HZ0.out] at hrx
      obtain rfl : mx = k := hrx.len.symm.trans HL0.out
      have hs2 := hb2.size
      have HX := Lib.hid hrx
      clear hrx
      go_wp2_with fail
      with_reducible refine (encodeC_any w2 1 wl.heap.size A1 mx c1 zs false false (HL.out.on hb2 (Nat.le_refl _)) hs2 (by omega)).mono ?_
      rintro e w3 ⟨Ay, my, cy, rfl, hyc, hym, hry, hb3⟩
      rw [al_y0 HZ0.out]
      rw [al_y HZ0.out] at hry
      have hly := (encL_len zs).2
      rw [hry.len, HL0.out] at hly
      have hs3 := hb3.size
      have HY := Lib.hid hry
      have b13 : Below wl.heap.size wl w3 := hb2.trans (hb3.mono hs2)
      clear hry
      go_wp2_with fail
      with_reducible refine (encodeC_any w3 2 wl.heap.size A1 mx c1 zs true false (HL.out.on b13 (Nat.le_refl _)) (by omega) (by omega)).mono ?_
      rintro e w4 ⟨Az, mz, cz, rfl, hzc, hzm, hrz, hb4⟩
      rw [al_z0 HZ0.out]
      rw [al_zn HZ0.out] at hrz
      have hlz := (U.encL_len true zs).2
      have hmz : mz ≤ 802 := by
        have e := hrz.len
        skip
        have := HL0.out
        omega
      have hs4 := hb4.size
      have HZ := Lib.hid hrz
      have b14 : Below wl.heap.size wl w4 := b13.trans (hb4.mono (by omega))
      have B4 : Below w.heap.size w w4 := hb.trans (b14.mono hsz)
      clear hrz
      go_wp2_with fail
      with_reducible refine (decodeC_any 3 (.inr (.inr rfl)) w4 w2.heap.size Ax mx cx zs ((HX.out.on hb3 (Nat.le_refl _)).on hb4 (by omega)) (by omega) HZ0.out hxc (by omega) hxm (tabs_below HT.out B4)).mono ?_
      rintro e w5 ⟨Ap, mp, cp, rfl, _, hpc, hpm, hrp, hb5⟩
      rw [bigB_three, bomB_three]
      rw [cellsD_three] at hrp
      obtain rfl : mp = mx := hrp.len.symm.trans HL0.out
      have hs5 := hb5.size
      obtain ⟨V5, hV5⟩ : ∃ V, V = w5.alloc (.cells #[.int .u8 3, .bool false, .bool false, .slice Ap mp cp] 26) := ⟨_, rfl⟩
      have hbV5 : Below w5.heap.size w5 V5 := by rw [hV5]; exact (Below.refl _ _).alloc (Nat.le_refl _) _
      have hsV5 : V5.heap.size = w5.heap.size + 1 := by rw [hV5]; simp
      have hcV5 : V5.cell? ⟨w5.heap.size, 3, none⟩ = some (.slice Ap mp cp) := by rw [hV5]; exact World.cell?_alloc_new _ _ _ _
      have HP := Lib.hid (hrp.on hbV5 (Nat.le_refl _))
      have b4V : Below w4.heap.size w4 V5 := hb5.trans (hbV5.mono (by omega))
      have B5 : Below w.heap.size w V5 := B4.trans (b4V.mono (by omega))
      clear hrp
      go_wp2_with fail
      rw [← hV5]
      clear hV5
      with_reducible refine (decodeC_any 1 (.inl rfl) V5 w3.heap.size Ay my cy (encL zs) ((HY.out.on hb4 (Nat.le_refl _)).on b4V (by omega)) (by omega) (all_bd (right_bytes HZ0.out)) hyc (by omega) hym (tabs_below HT.out B5)).mono ?_
      rintro e w6 ⟨Aq, mq, cq, rfl, _, hqc, hqm, hrq, hb6⟩
      rw [bigB_one, bomB_one]
      rw [al_q HZ0.out] at hrq
      obtain rfl : mq = mp := hrq.len.symm.trans HL0.out
      have hs6 := hb6.size
      obtain ⟨V6, hV6⟩ : ∃ V, V = w6.alloc (.cells #[.int .u8 1, .bool false, .bool false, .slice Aq mq cq] 26) := ⟨_, rfl⟩
      have hbV6 : Below w6.heap.size w6 V6 := by rw [hV6]; exact (Below.refl _ _).alloc (Nat.le_refl _) _
      have hsV6 : V6.heap.size = w6.heap.size + 1 := by rw [hV6]; simp
      have hcV6 : V6.cell? ⟨w6.heap.size, 3, none⟩ = some (.slice Aq mq cq) := by rw [hV6]; exact World.cell?_alloc_new _ _ _ _
      have HQ := Lib.hid (hrq.on hbV6 (Nat.le_refl _))
      have b5V : Below V5.heap.size V5 V6 := hb6.trans (hbV6.mono (by omega))
      have B6 : Below w.heap.size w V6 := B5.trans (b5V.mono (by omega))
      clear hrq
      go_wp2_with fail
      rw [← hV6]
      clear hV6
      with_reducible refine (decodeC_any 2 (.inr (.inl rfl)) V6 w4.heap.size Az mz cz (U.encL true zs) ((HZ.out.on b4V (Nat.le_refl _)).on b5V (by omega)) (by omega) (U.all_bd true (right_bytes HZ0.out)) hzc (by omega) hzm (tabs_below HT.out B6)).mono ?_
      rintro e w7 ⟨Ar, mr, cr, rfl, _, hrc, hrm, hrr, hb7⟩
      rw [al_rn HZ0.out] at hrr
      obtain rfl : mr = mq := hrr.len.symm.trans HL0.out
      have hs7 := hb7.size
      generalize bigB 2 (U.encL true zs) = bg
      generalize bomB 2 (U.encL true zs) = bm
      obtain ⟨V7, hV7⟩ : ∃ V, V = w7.alloc (.cells #[.int .u8 2, .bool bg, .bool bm, .slice Ar mr cr] 26) := ⟨_, rfl⟩
      have hbV7 : Below w7.heap.size w7 V7 := by rw [hV7]; exact (Below.refl _ _).alloc (Nat.le_refl _) _
      have hsV7 : V7.heap.size = w7.heap.size + 1 := by rw [hV7]; simp
      have hcV7 : V7.cell? ⟨w7.heap.size, 3, none⟩ = some (.slice Ar mr cr) := by rw [hV7]; exact World.cell?_alloc_new _ _ _ _
      have b6V : Below V6.heap.size V6 V7 := hb7.trans (hbV7.mono (by omega))
      have B7 : Below w.heap.size w V7 := B6.trans (b6V.mono (by omega))
      have g6 : V7.cell? ⟨w6.heap.size, 3, none⟩ = some (.slice Aq mr cq) := (b6V.cell (p := ⟨w6.heap.size, 3, none⟩) (by show w6.heap.size < _; omega)).trans hcV6
      have g5 : V7.cell? ⟨w5.heap.size, 3, none⟩ = some (.slice Ap mr cp) := ((b5V.trans (b6V.mono (by omega))).cell (p := ⟨w5.heap.size, 3, none⟩) (by show w5.heap.size < _; omega)).trans hcV5
      have g6w : w7.cell? ⟨w6.heap.size, 3, none⟩ = some (.slice Aq mr cq) := (hb7.cell (p := ⟨w6.heap.size, 3, none⟩) (by show w6.heap.size < _; omega)).trans hcV6
      have g5w : w7.cell? ⟨w5.heap.size, 3, none⟩ = some (.slice Ap mr cp) := ((b5V.trans (hb7.mono (by omega))).cell (p := ⟨w5.heap.size, 3, none⟩) (by show w5.heap.size < _; omega)).trans hcV5
      have l6 : w6.heap.size < w7.heap.size := by omega
      have l5 : w5.heap.size < w7.heap.size := by omega
      have b47 : Below w4.heap.size w4 V7 := b4V.trans ((b5V.mono (by omega)).trans (b6V.mono (by omega)))
      have HR7 := Lib.hid (hrr.on hbV7 (Nat.le_refl _))
      have HQ7 := Lib.hid (HQ.out.on b6V (by omega))
      have HP7 := Lib.hid ((HP.out.on b5V (by omega)).on b6V (by omega))
      have HL7 := Lib.hid ((HL.out.on b14 (Nat.le_refl _)).on b47 (by omega))
      have HX7 := Lib.hid (((HX.out.on hb3 (Nat.le_refl _)).on hb4 (by omega)).on b47 (by omega))
      have HB7 := Lib.hid (HR0.out.below B7)
      have HZ7 := Lib.hid ((HZ.out.on (b4V.trans ((b5V.mono (by omega)).trans (hb7.mono (by omega)))) (Nat.le_refl _)))
      clear hrr hcV5 hcV6
      rcases Nat.eq_zero_or_pos mr with hm0 | hm0
      · have hmz0 : mz = 0 := by
          have e := HZ.out.len
          have e2 := HL0.out
          rw [List.eq_nil_of_length_eq_zero (e2.trans hm0)] at e
          exact e.symm
        subst hmz0
        subst hm0
        go_wp2_with fail
        rw [← hV7]
        clear hV7
        with_reducible refine (same_yes V7 w5.heap.size wl.heap.size Ap A1 0 cp 0 c1 zs zs rfl HP7.out HL7.out (by unfold maxLen; omega) (by unfold maxLen; omega)).mono ?_
        rintro e w8 ⟨rfl, q1, rfl⟩
        go_wp2_with fail
        with_reducible refine (same_yes (V7.drewN q1) w6.heap.size wl.heap.size Aq A1 0 cq 0 c1 zs zs rfl (HQ7.out.drewN q1) (HL7.out.drewN q1) (by unfold maxLen; omega) (by unfold maxLen; omega)).mono ?_
        rintro e w8 ⟨rfl, q2, rfl⟩
        go_wp2_with fail
        with_reducible refine (same_yes (V7.drewN (q1 + q2)) w7.heap.size wl.heap.size Ar A1 0 cr 0 c1 zs zs rfl (HR7.out.drewN (q1 + q2)) (HL7.out.drewN (q1 + q2)) (by unfold maxLen; omega) (by unfold maxLen; omega)).mono ?_
        rintro e w8 ⟨rfl, q3, rfl⟩
        have kx := conv_ri (HX7.out.drewN (q1 + q2 + q3)) cx
        have kb := conv_ri (HB7.out.drewN (q1 + q2 + q3)) cap0
        go_wp2
        go_ret
        exact ⟨rfl, below_drewN B7 (q1 + q2 + q3)⟩
      · obtain ⟨zh, zt, hzz⟩ : ∃ a b, zs = a :: b := by
          cases zs with
          | nil => have := HL0.out; simp at this; omega
          | cons a b => exact ⟨a, b, rfl⟩
        have hz2 : 2 ≤ mz := by
          have e := HZ.out.len
          rw [hzz, al_head (hzz ▸ HZ0.out)] at e
          simp at e
          omega
        obtain ⟨zb, zo, hAz, hzbl, hzc'⟩ := HZ7.out.flat (by omega)
        subst hAz
        have gz := hzc' 0 0 (by rw [hzz, al_head (hzz ▸ HZ0.out)]; rfl)
        rw [Nat.add_zero] at gz
        have lz : zb < w7.heap.size := by omega
        have tz : (2 : Int) ≤ (mz : Int) := by omega
        have tz0 : (0 : Int) < (mz : Int) := by omega
        clear hzc' hzz
        go_wp2_with fail
        rw [← hV7]
        clear hV7
        with_reducible refine (same_yes V7 w5.heap.size wl.heap.size Ap A1 mr cp mr c1 zs zs rfl HP7.out HL7.out (by unfold maxLen; omega) (by unfold maxLen; omega)).mono ?_
        rintro e w8 ⟨rfl, q1, rfl⟩
        go_wp2_with fail
        with_reducible refine (same_yes (V7.drewN q1) w6.heap.size wl.heap.size Aq A1 mr cq mr c1 zs zs rfl (HQ7.out.drewN q1) (HL7.out.drewN q1) (by unfold maxLen; omega) (by unfold maxLen; omega)).mono ?_
        rintro e w8 ⟨rfl, q2, rfl⟩
        go_wp2_with fail
        with_reducible refine (same_yes (V7.drewN (q1 + q2)) w7.heap.size wl.heap.size Ar A1 mr cr mr c1 zs zs rfl (HR7.out.drewN (q1 + q2)) (HL7.out.drewN (q1 + q2)) (by unfold maxLen; omega) (by unfold maxLen; omega)).mono ?_
        rintro e w8 ⟨rfl, q3, rfl⟩
        have kx := conv_ri (HX7.out.drewN (q1 + q2 + q3)) cx
        have kb := conv_ri (HB7.out.drewN (q1 + q2 + q3)) cap0
        go_wp2
        go_ret
        exact ⟨rfl, below_drewN B7 (q1 + q2 + q3)⟩

theorem codecAlikeWalk (a0 : Option Addr) (len0 cap0 : Nat) (z0 : List Int) (big bom : Bool) (w : World) (hT : Lib.Utf8Tabs 0 1 w) (w0 : L.IsRow .u8 w a0 len0 cap0 z0) :
    Calls Tryd.prog 8 #[.slice a0 len0 cap0, .bool big, .bool bom] w fun e w' => e = .returned (.bool true) ∧ Below w.heap.size w w' := by
  cases big <;> cases bom
  · exact alike_false_false a0 len0 cap0 z0 w hT w0
  · exact alike_false_true a0 len0 cap0 z0 w hT w0
  · exact alike_true_false a0 len0 cap0 z0 w hT w0
  · exact alike_true_true a0 len0 cap0 z0 w hT w0
end Go.Proofs.YtijlecfjgcohhaaDoor.C
