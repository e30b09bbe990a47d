/-
  The walk of Utf16Cut: for every choice of bytes and of a place it returns true; nothing that was there changes.
-/
import Derived.Test.YtbocibecjndooaaUcsI
namespace Go.Proofs.Ytbocibecjndooaa.C
open Go.RowKit

set_option maxHeartbeats 2000000 in
theorem utf16CutWalk (a0 : Option Addr) (len0 cap0 : Nat) (z0 : List Int) (a1 : Int) (g : Bool) (w : World) (w0 : L.IsRow .u8 w a0 len0 cap0 z0) (w1 : (Lit.int .u8 a1).wf = true) :
    Calls Try.prog 9 #[.slice a0 len0 cap0, .int .u8 a1, .bool g] w fun e w' => e = .returned (.bool true) ∧ Below w.heap.size w w' := by
  obtain ⟨h0, h1⟩ := bounds_u8 w1
  obtain ⟨k, rfl⟩ : ∃ k : Nat, a1 = (k : Int) := ⟨a1.toNat, by omega⟩
  have HW0 := Lib.hid w0
  clear w0 w1
  go_enter Try.func9, Try.ntmps9
  go_wp2_with fail
  refine (bytes_row w w a0 len0 cap0 z0 HW0.out (Below.refl _ _)).mono ?_
  rintro e w1 ⟨A, n, c, rfl, hnc, hcm, hn, hr, hb1⟩
  have hz := bytesL_bd (z0.take len0)
  generalize bytesL (z0.take len0) = zs at *
  have hs1 := hb1.size
  have hl := hr.len
  obtain ⟨h, hh, hhn⟩ : ∃ h : Nat, (n : Int) / 2 = (h : Int) ∧ h * 2 ≤ n := ⟨n / 2, by omega, by omega⟩
  obtain ⟨j, hj, hjn⟩ : ∃ j : Nat, (k : Int) % ((h : Int) + 1) = (j : Int) ∧ j ≤ h := ⟨k % (h + 1), by push_cast; rfl, by have := Nat.mod_lt k (show 0 < h + 1 by omega); omega⟩
  obtain ⟨m, hm, hmn⟩ : ∃ m : Nat, (j : Int) * 2 = (m : Int) ∧ m ≤ n := ⟨j * 2, by omega, by omega⟩
  have hf := hr.front hmn
  have hbh := hr.behind (k := m) (cap := c) hmn hnc
  have HR := Lib.hid hr
  have HF := Lib.hid hf
  have HB := Lib.hid hbh
  have HZ := Lib.hid hz
  have HL := Lib.hid hl
  unfold maxLen at hcm
  clear hr hf hbh hz hl
  by_cases hcm0 : c = m
  · obtain rfl : n = c := by omega
    obtain rfl : m = n := by omega
    have hb0 : RI .u8 w1 w1.heap.size A 0 (zs.drop m) := by
      have := HB.out
      rwa [if_pos rfl, Nat.sub_self] at this
    clear HB hcm0
    have HB := Lib.hid hb0
    clear hb0
    go_wp2_with fail
    with_reducible refine (there g w1 w1.heap.size A m m (zs.take m) HF.out (Nat.le_refl _) (bd_take HZ.out m) (by omega) (by omega) (by unfold maxLen; omega)).mono ?_
    rintro e w2 ⟨A2, n2, c2, rfl, h2n, h2c, _, hr2, hb2⟩
    have hs2 := hb2.size
    have HR2 := Lib.hid hr2
    clear hr2
    go_wp2_with fail
    with_reducible refine (back g w2 w2.heap.size A2 n2 c2 (zs.take m) (bd_take HZ.out m) HR2.out (Nat.le_refl _) (by omega)).mono ?_
    rintro e w3 ⟨A3, c3, rfl, h3c, _, hr3, hb3⟩
    have hs3 := hb3.size
    have HR3 := Lib.hid hr3
    clear hr3
    have hbh3 : RI .u8 w3 w1.heap.size A 0 (zs.drop m) := (HB.out.below hb2).keep fun p hp => hb3.cell (p := p) (by omega)
    have HB3 := Lib.hid hbh3
    clear hbh3
    have B3 : Below w.heap.size w w3 := (hb1.trans (hb2.mono hs1)).trans (hb3.mono (by omega))
    generalize h3l : (zs.take m).length = l3 at *
    have H3L := Lib.hid h3l
    clear h3l
    go_wp2_with fail
    with_reducible refine (there g w3 w1.heap.size A 0 0 (zs.drop m) HB3.out (by omega) (bd_drop HZ.out m) (by omega) (by omega) (by unfold maxLen; omega)).mono ?_
    rintro e w4 ⟨A4, n4, c4, rfl, h4n, h4c, _, hr4, hb4⟩
    have hs4 := hb4.size
    have HR4 := Lib.hid hr4
    clear hr4
    go_wp2_with fail
    with_reducible refine (back g w4 w4.heap.size A4 n4 c4 (zs.drop m) (bd_drop HZ.out m) HR4.out (Nat.le_refl _) (by omega)).mono ?_
    rintro e w5 ⟨A5, c5, rfl, h5c, _, hr5, hb5⟩
    have hs5 := hb5.size
    have HR5 := Lib.hid hr5
    clear hr5
    generalize h5l : (zs.drop m).length = l5 at *
    have H5L := Lib.hid h5l
    clear h5l
    have B5 : Below w.heap.size w w5 := (B3.trans (hb4.mono (by omega))).trans (hb5.mono (by omega))
    go_wp2_with fail
    refine (known_any w5).mono ?_
    rintro e w6 ⟨rfl, hb6⟩
    have hs6 := hb6.size
    have hx3 : RI .u8 w6 w3.heap.size A3 l3 (zs.take m) := ((HR3.out.below hb4).keep fun p hp => hb5.cell (p := p) (by omega)).keep fun p hp => hb6.cell (p := p) (by omega)
    have hx5 : RI .u8 w6 w5.heap.size A5 l5 (zs.drop m) := HR5.out.below hb6
    have hx1 : RI .u8 w6 w1.heap.size A m zs := ((((HR.out.below hb2).keep fun p hp => hb3.cell (p := p) (by omega)).keep fun p hp => hb4.cell (p := p) (by omega)).keep fun p hp => hb5.cell (p := p) (by omega)).keep fun p hp => hb6.cell (p := p) (by omega)
    have cv3 := conv_ri hx3 c3
    have cv5 := conv_ri hx5 c5
    have cv1 := conv_ri hx1 m
    have hcat : sb (zs.take m) ++ sb (zs.drop m) = sb zs := by rw [sb_app, List.take_append_drop]
    have z3 : (sb (zs.take m)).size ≤ 60 := by rw [sb_size]; simp; omega
    have z5 : (sb (zs.drop m)).size ≤ 60 := by rw [sb_size]; simp; have := HL.out; omega
    clear hx3 hx5 hx1
    generalize sb (zs.take m) = s3 at *
    generalize sb (zs.drop m) = s5 at *
    generalize sb zs = s1 at *
    go_wp2
    go_ret
    exact ⟨rfl, B5.trans (hb6.mono (by omega))⟩
  · have hb0 : RI .u8 w1 w1.heap.size (A.map (·.add m)) (n - m) (zs.drop m) := by
      have := HB.out
      rwa [if_neg hcm0] at this
    clear HB
    have HB := Lib.hid hb0
    clear hb0
    go_wp2_with fail
    with_reducible refine (there g w1 w1.heap.size A m c (zs.take m) HF.out (Nat.le_refl _) (bd_take HZ.out m) (by omega) (by omega) (by unfold maxLen; omega)).mono ?_
    rintro e w2 ⟨A2, n2, c2, rfl, h2n, h2c, _, hr2, hb2⟩
    have hs2 := hb2.size
    have HR2 := Lib.hid hr2
    clear hr2
    go_wp2_with fail
    with_reducible refine (back g w2 w2.heap.size A2 n2 c2 (zs.take m) (bd_take HZ.out m) HR2.out (Nat.le_refl _) (by omega)).mono ?_
    rintro e w3 ⟨A3, c3, rfl, h3c, _, hr3, hb3⟩
    have hs3 := hb3.size
    have HR3 := Lib.hid hr3
    clear hr3
    have hbh3 : RI .u8 w3 w1.heap.size (A.map (·.add m)) (n - m) (zs.drop m) := (HB.out.below hb2).keep fun p hp => hb3.cell (p := p) (by omega)
    have HB3 := Lib.hid hbh3
    clear hbh3
    have B3 : Below w.heap.size w w3 := (hb1.trans (hb2.mono hs1)).trans (hb3.mono (by omega))
    generalize h3l : (zs.take m).length = l3 at *
    have H3L := Lib.hid h3l
    clear h3l
    go_wp2_with fail
    with_reducible refine (there g w3 w1.heap.size (A.map (·.add m)) (n - m) (c - m) (zs.drop m) HB3.out (by omega) (bd_drop HZ.out m) (by omega) (by omega) (by unfold maxLen; omega)).mono ?_
    rintro e w4 ⟨A4, n4, c4, rfl, h4n, h4c, _, hr4, hb4⟩
    have hs4 := hb4.size
    have HR4 := Lib.hid hr4
    clear hr4
    go_wp2_with fail
    with_reducible refine (back g w4 w4.heap.size A4 n4 c4 (zs.drop m) (bd_drop HZ.out m) HR4.out (Nat.le_refl _) (by omega)).mono ?_
    rintro e w5 ⟨A5, c5, rfl, h5c, _, hr5, hb5⟩
    have hs5 := hb5.size
    have HR5 := Lib.hid hr5
    clear hr5
    generalize h5l : (zs.drop m).length = l5 at *
    have H5L := Lib.hid h5l
    clear h5l
    have B5 : Below w.heap.size w w5 := (B3.trans (hb4.mono (by omega))).trans (hb5.mono (by omega))
    go_wp2_with fail
    refine (known_any w5).mono ?_
    rintro e w6 ⟨rfl, hb6⟩
    have hs6 := hb6.size
    have hx3 : RI .u8 w6 w3.heap.size A3 l3 (zs.take m) := ((HR3.out.below hb4).keep fun p hp => hb5.cell (p := p) (by omega)).keep fun p hp => hb6.cell (p := p) (by omega)
    have hx5 : RI .u8 w6 w5.heap.size A5 l5 (zs.drop m) := HR5.out.below hb6
    have hx1 : RI .u8 w6 w1.heap.size A n zs := ((((HR.out.below hb2).keep fun p hp => hb3.cell (p := p) (by omega)).keep fun p hp => hb4.cell (p := p) (by omega)).keep fun p hp => hb5.cell (p := p) (by omega)).keep fun p hp => hb6.cell (p := p) (by omega)
    have cv3 := conv_ri hx3 c3
    have cv5 := conv_ri hx5 c5
    have cv1 := conv_ri hx1 c
    have hcat : sb (zs.take m) ++ sb (zs.drop m) = sb zs := by rw [sb_app, List.take_append_drop]
    have z3 : (sb (zs.take m)).size ≤ 60 := by rw [sb_size]; simp; omega
    have z5 : (sb (zs.drop m)).size ≤ 60 := by rw [sb_size]; simp; have := HL.out; omega
    clear hx3 hx5 hx1
    generalize sb (zs.take m) = s3 at *
    generalize sb (zs.drop m) = s5 at *
    generalize sb zs = s1 at *
    go_wp2
    go_ret
    exact ⟨rfl, B5.trans (hb6.mono (by omega))⟩
end Go.Proofs.Ytbocibecjndooaa.C
