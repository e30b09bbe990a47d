/-
  The walk of LinesTwo: for every two choices of cells it returns true; nothing that was there changes. No condition.
-/
import Derived.Test.YtlecioifjdmmmaaLnQ
namespace Go.Proofs.Ytlecioifjdmmmaa.C
open Go.RowKit

set_option maxRecDepth 100000 in
set_option maxHeartbeats 4000000 in
theorem linesTwoWalk (a0 : Option Addr) (len0 cap0 : Nat) (z0 : List Int) (a1 : Option Addr) (len1 cap1 : Nat) (z1 : List Int) (w : World) (w0 : L.IsRow .u8 w a0 len0 cap0 z0) (w1 : L.IsRow .u8 w a1 len1 cap1 z1) :
    Calls Try.prog 4 #[.slice a0 len0 cap0, .slice a1 len1 cap1] w fun e w' => e = .returned (.bool true) ∧ Below w.heap.size w w' := by
  obtain ⟨i0, hi, hz0, hz1, hz2⟩ := info_parts info33
  have HW0 := Lib.hid w0
  have HW1 := Lib.hid w1
  clear w0 w1
  go_enter Try.func4, Try.ntmps4
  go_wp2_with fail
  with_reducible refine (cells_rowv w w a0 len0 cap0 z0 HW0.out (Below.refl _ _)).mono ?_
  rintro e w1 ⟨v1, n, rfl, hnl, hn, hown1, hb1⟩
  generalize cellsL (z0.take len0) = zs at *
  have hs1 := hb1.size
  have HO1 := Lib.hid hown1
  have HL1 := Lib.hid hnl
  clear hown1 hnl
  go_wp2_with (at_builtin; (refine wpList_append_own _ rfl _ _ 23 rfl w.heap.size 25 i0 (.int .i32 0) 1 4 Try.underlying23 hi hz0 hz1 hz2 rfl (by decide) v1 _ _ rfl (HO1.out.alloc _) _ 1 1 [.int .i32 10] rfl rfl (cell_one_new _ _ _) (by intro u hu; simp at hu; subst hu; rfl) (by unfold maxLen; omega) (by omega) (by simp; omega) ?_); intro v2 w2 hown' hgrow _; have HO2 := Lib.hid hown'; have HG2 := Lib.hid hgrow; clear hown' hgrow)
  have hb2 : Below w.heap.size w w2 := (hb1.alloc (by omega) _).grown HG2.out (by simp; omega) (fun g hg => (HO1.out.lt g hg).1)
  have hx2 : w2.ownsRow w.heap.size 25 1 v2 (n + 1) ((zs ++ [10]).map (Value.int .i32)) := by simpa using HO2.out
  obtain ⟨A2, c2, rfl, h2c, h2m, hr2⟩ := own_slice2 hx2
  have hs2 := hb2.size
  have HX2 := Lib.hid hr2
  clear hx2 hr2 HO1 HG2 HO2
  with_reducible refine (cells_rowv w w2 a1 len1 cap1 z1 HW1.out hb2).mono ?_
  rintro e w3 ⟨v3, m, rfl, hml, hm, hown3, hb3⟩
  generalize cellsL (z1.take len1) = ys at *
  obtain ⟨A3, c3, rfl, h3c, h3m, hr3⟩ := own_slice2 hown3
  have hs3 := hb3.size
  have B3 := hb2.trans (hb3.mono hs2)
  have HY3 := Lib.hid hr3
  have HX3 := Lib.hid (HX2.out.below hb3)
  have HL3 := Lib.hid hml
  clear hown3 hr3 hml
  go_wp2_with (first
    | (at_builtin; (refine wpList_append_ri _ rfl _ _ 23 rfl w3.heap.size 25 i0 (.int .i32 0) 4 Try.underlying23 hi hz0 hz1 hz2 rfl (.slice none 0 0) 0 [] rfl (World.ownsRow_nil _ _ _ _) .i32 w2.heap.size A2 (n + 1) c2 (zs ++ [10]) rfl HX3.out (by unfold maxLen; omega) (by omega) (by omega) ?_); intro v4 w4 h4 g4; simp only [Nat.zero_add, List.nil_append] at h4; have H4 := Lib.hid h4; have G4 := Lib.hid g4; have s4 := g4.size; have hb4 : Below w3.heap.size w3 w4 := (Below.refl _ w3).grown g4 (Nat.le_refl _) (fun g hg => by cases hg); clear h4 g4)
    | (at_builtin; (refine wpList_append_ri _ rfl _ _ 23 rfl w3.heap.size 25 i0 (.int .i32 0) 4 Try.underlying23 hi hz0 hz1 hz2 rfl v4 _ _ rfl H4.out .i32 w3.heap.size A3 m c3 ys rfl (HY3.out.below hb4) (by unfold maxLen; omega) (by omega) (by omega) ?_); intro v5 w5 h5 g5; have H5 := Lib.hid h5; have hb5 : Below w3.heap.size w3 w5 := hb4.grown g5 (by omega) (fun g hg => (H4.out.lt g hg).1); clear h5 g5))
  have hx5 : w5.ownsRow w3.heap.size 25 1 v5 (n + 1 + m) ((zs ++ 10 :: ys).map (Value.int .i32)) := by simpa using H5.out
  obtain ⟨A5, c5, rfl, h5c, h5m, hr5⟩ := own_slice2 hx5
  have hs5 := hb5.size
  have B5 := B3.trans (hb5.mono (by omega))
  have HB5 := Lib.hid hr5
  have HX5 := Lib.hid (HX3.out.on hb5 hs3)
  have HY5 := Lib.hid (HY3.out.on hb5 (Nat.le_refl _))
  clear hx5 hr5 H5 H4 G4
  with_reducible refine (split_any w5 w5.heap.size A5 (n + 1 + m) c5 (zs ++ 10 :: ys) HB5.out (Nat.le_refl _) h5c h5m (by omega)).mono ?_
  rintro e w6 ⟨A6, n6, c6, rfl, h6c, h6m, hl6, hb6⟩
  rw [split_two] at hl6
  have hs6 := hb6.size
  have HL6 := Lib.hid hl6
  clear hl6
  go_wp2_with fail
  with_reducible refine (split_any w6 w2.heap.size A2 (n + 1) c2 (zs ++ [10]) (HX5.out.on hb6 (by omega)) (by omega) h2c h2m (by omega)).mono ?_
  rintro e w7 ⟨A7, n7, c7, rfl, h7c, h7m, hl7, hb7⟩
  have hs7 := hb7.size
  have hle7 : n7 ≤ n + 1 := by
    have h1 := split_len (zs ++ [10])
    rw [hl7.len, List.length_append, ← HL1.out] at h1
    simpa using h1
  have HL7 := Lib.hid hl7
  clear hl7
  go_wp2_with fail
  with_reducible refine (split_any w7 w3.heap.size A3 m c3 ys ((HY5.out.on hb6 (by omega)).on hb7 (by omega)) (by omega) h3c h3m (by omega)).mono ?_
  rintro e w8 ⟨A8, n8, c8, rfl, h8c, h8m, hl8, hb8⟩
  have hs8 := hb8.size
  have hle8 : n8 ≤ m := by
    have h1 := split_len ys
    rw [hl8.len, ← HL3.out] at h1
    exact h1
  have HP6 := Lib.hid ((HL6.out.on hb7 (Nat.le_refl _)).on hb8 hs7)
  have HP7 := Lib.hid (HL7.out.on hb8 (Nat.le_refl _))
  have HP8 := Lib.hid hl8
  have B8 : Below w.heap.size w w8 := ((B5.trans (hb6.mono (by omega))).trans (hb7.mono (by omega))).trans (hb8.mono (by omega))
  clear hl8
  generalize splitL (zs ++ [10]) = P at *
  generalize splitL ys = Q at *
  have hPl : P.length = n7 := HP7.out.len
  have hQl : Q.length = n8 := HP8.out.len
  obtain rfl : n6 = n7 + n8 := by
    have := HP6.out.len
    rw [List.length_append] at this
    omega
  have hcmp : (((n7 + n8 : Nat) : Int) != (n7 : Int) + (n8 : Int)) = false := by simp
  go_wp2
  go_loopw [11] (fun iv wr => ∃ i : Nat, i ≤ n7 + n8 ∧ iv = .int .i64 i ∧ Below w8.heap.size w8 wr) (fun iv _ => n7 + n8 - (intOf iv).toNat)
  case atStart => exact ⟨0, Nat.zero_le _, rfl, Below.refl _ _⟩
  case round =>
    obtain ⟨i, hin, rfl, hbr⟩ := hrel
    have hsz := hbr.size
    by_cases hlt : i < n7 + n8
    · obtain ⟨ad, x, Aj, nj, cj, rfl, hbl, hx, hc0, hc1, hjc, hjm, hri⟩ := (HP6.out.on hbr (by omega)).at2 hlt
      have k0 : (0 : Int) ≤ (i : Int) := by omega
      have k1 : (i : Int) < (n7 : Int) + (n8 : Int) := by omega
      by_cases h7 : i < n7
      · obtain ⟨bd, y, Bj, mj, dj, rfl, hbl2, hy, hd0, hd1, hmc, hdm, hrj⟩ := (HP7.out.on hbr (by omega)).at2 h7
        obtain rfl : x = y := by rw [List.getElem?_append_left (by omega), hy] at hx; exact (Option.some.inj hx).symm
        obtain ⟨l, b⟩ := x
        simp only at hc1 hd1 hri hrj
        have k2 : (i : Int) < (n7 : Int) := by omega
        have HRI := Lib.hid hri
        have HRJ := Lib.hid hrj
        have e0 : ∀ o, (wr.alloc o).cell? (bd.add (i * 2)) = some (.slice Bj mj dj) := fun o => (World.cell?_alloc_lt wr o _ (by rw [block_of_add]; omega)).trans hd0
        have e1 : ∀ o, (wr.alloc o).cell? ⟨(bd.add (i * 2)).block, (bd.add (i * 2)).off + 1, none⟩ = some (.bool b) := fun o => (World.cell?_alloc_lt wr o _ (by show (bd.add (i * 2)).block < _; rw [block_of_add]; omega)).trans hd1
        clear hx hy hri hrj
        go_wp2
        have hbb : (b != b) = false := by cases b <;> rfl
        obtain ⟨V, hV⟩ : ∃ V, wr.alloc (.cells #[.slice Bj mj dj, .bool b] 32) = V := ⟨_, rfl⟩
        have hbV : Below wr.heap.size wr V := by rw [← hV]; exact (Below.refl _ _).alloc (Nat.le_refl _) _
        have hP : PairAt V wr.heap.size (.slice Bj mj dj) (.bool b) := by rw [← hV]; exact PairAt.new wr _ _
        have r0 := hP.c0
        have r1 := hP.c1
        have r2 := (hbV.cell (p := ad.add (i * 2)) (by rw [block_of_add]; omega)).trans hc0
        have r3 := (hbV.cell (p := ⟨(ad.add (i * 2)).block, (ad.add (i * 2)).off + 1, none⟩) (by show (ad.add (i * 2)).block < _; rw [block_of_add]; omega)).trans hc1
        have HVI := Lib.hid (HRI.out.on hbV (by omega))
        have HVJ := Lib.hid (HRJ.out.on hbV (by omega))
        have hbrV : Below w8.heap.size w8 V := hbr.trans (hbV.mono hsz)
        rw [hV]
        clear hV hP e0 e1 hc0 hc1 hd0 hd1
        go_quiet ((go_at_call 12; exact same_still HVI.out HVJ.out (by omega) (by omega)))
        go_wp2
        have hq : Below w8.heap.size w8 (V.drewN nq) := below_drewN hbrV nq
        go_roundw
        case rel => exact ⟨i + 1, by omega, by go_num, hq⟩
        case measure => simp [intOf]; omega
      · obtain ⟨t, ht⟩ : ∃ t, i = n7 + t := ⟨i - n7, by omega⟩
        obtain ⟨bd, y, Bj, mj, dj, rfl, hbl2, hy, hd0, hd1, hmc, hdm, hrj⟩ := (HP8.out.on hbr (by omega)).at2 (show t < n8 by omega)
        obtain rfl : x = y := by
          rw [List.getElem?_append_right (by omega), hPl, ht, Nat.add_sub_cancel_left, hy] at hx
          exact (Option.some.inj hx).symm
        obtain ⟨l, b⟩ := x
        simp only at hc1 hd1 hri hrj
        have k2 : ¬ ((i : Int) < (n7 : Int)) := by omega
        have t0 : (0 : Int) ≤ (t : Int) := by omega
        have t1 : (t : Int) < (n8 : Int) := by omega
        have hsub : (i : Int) - (n7 : Int) = (t : Int) := by omega
        have HRI := Lib.hid hri
        have HRJ := Lib.hid hrj
        have e0 : ∀ o, (wr.alloc o).cell? (bd.add (t * 2)) = some (.slice Bj mj dj) := fun o => (World.cell?_alloc_lt wr o _ (by rw [block_of_add]; omega)).trans hd0
        have e1 : ∀ o, (wr.alloc o).cell? ⟨(bd.add (t * 2)).block, (bd.add (t * 2)).off + 1, none⟩ = some (.bool b) := fun o => (World.cell?_alloc_lt wr o _ (by show (bd.add (t * 2)).block < _; rw [block_of_add]; omega)).trans hd1
        clear hx hy hri hrj ht
        have hbb : (b != b) = false := by cases b <;> rfl
        go_wp2
        obtain ⟨V, hV⟩ : ∃ V, wr.alloc (.cells #[.slice Bj mj dj, .bool b] 32) = V := ⟨_, rfl⟩
        have hbV : Below wr.heap.size wr V := by rw [← hV]; exact (Below.refl _ _).alloc (Nat.le_refl _) _
        have hP : PairAt V wr.heap.size (.slice Bj mj dj) (.bool b) := by rw [← hV]; exact PairAt.new wr _ _
        have r0 := hP.c0
        have r1 := hP.c1
        have r2 := (hbV.cell (p := ad.add (i * 2)) (by rw [block_of_add]; omega)).trans hc0
        have r3 := (hbV.cell (p := ⟨(ad.add (i * 2)).block, (ad.add (i * 2)).off + 1, none⟩) (by show (ad.add (i * 2)).block < _; rw [block_of_add]; omega)).trans hc1
        have HVI := Lib.hid (HRI.out.on hbV (by omega))
        have HVJ := Lib.hid (HRJ.out.on hbV (by omega))
        have hbrV : Below w8.heap.size w8 V := hbr.trans (hbV.mono hsz)
        rw [hV]
        clear hV hP e0 e1 hc0 hc1 hd0 hd1
        go_quiet ((go_at_call 12; exact same_still HVI.out HVJ.out (by omega) (by omega)))
        go_wp2
        have hq : Below w8.heap.size w8 (V.drewN nq) := below_drewN hbrV nq
        go_roundw
        case rel => exact ⟨i + 1, by omega, by go_num, hq⟩
        case measure => simp [intOf]; omega
    · obtain rfl : i = n7 + n8 := by omega
      go_wp2_with fail
      with_reducible refine (known_any wr).mono ?_
      rintro e w9 ⟨rfl, hb9⟩
      go_wp2
      go_ret
      exact ⟨rfl, (B8.trans (hbr.mono B8.size)).trans (hb9.mono (by have := B8.size; omega))⟩
end Go.Proofs.Ytlecioifjdmmmaa.C
