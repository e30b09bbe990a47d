/-
  The walk of Utf16Back: for all bytes it returns true; nothing that was there changes.
-/
import Derived.Test.YtbocibecjndooaaUcsI
namespace Go.Proofs.Ytbocibecjndooaa.C
open Go.RowKit

set_option maxHeartbeats 2000000 in
theorem utf16BackWalk (a0 : Option Addr) (len0 cap0 : Nat) (z0 : List Int) (a1 : Option Addr) (len1 cap1 : Nat) (z1 : List Int) (g : Bool) (w : World) (w0 : L.IsRow .u8 w a0 len0 cap0 z0) (w1 : L.IsRow .u8 w a1 len1 cap1 z1) :
    Calls Try.prog 7 #[.slice a0 len0 cap0, .slice a1 len1 cap1, .bool g] w fun e w' => e = .returned (.bool true) ∧ Below w.heap.size w w' := by
  have hr0 := RI.of_row w0
  have hz0 : Bd (z0.take len0) := row_u8 w0
  obtain ⟨hlc, hcm⟩ := row_len w0
  generalize z0.take len0 = zs at *
  have HW1 := Lib.hid w1
  have HR0 := Lib.hid hr0
  have HZ0 := Lib.hid hz0
  have HL0 := Lib.hid hr0.len
  clear w0 w1 hr0 hz0
  by_cases hbig : 300 < len0
  · have tb : ((300 : Int) < (len0 : Int)) := by omega
    go_enter Try.func7, Try.ntmps7
    go_wp2_with fail
    refine (known_any w).mono ?_
    rintro e w1 ⟨rfl, hb1⟩
    go_wp2
    go_ret
    exact ⟨rfl, hb1⟩
  · go_enter Try.func7, Try.ntmps7
    go_wp2_with fail
    refine (known_any w).mono ?_
    rintro e w1 ⟨rfl, hb1⟩
    have hs1 := hb1.size
    go_wp2_with fail
    with_reducible refine (bytes_row w1 w a1 len1 cap1 z1 HW1.out hb1).mono ?_
    rintro e w2 ⟨A2, n2, c2, rfl, h2c, h2m, h2n, hr2, hb2⟩
    have hx := bytesL_bd (z1.take len1)
    generalize bytesL (z1.take len1) = xs at *
    have hs2 := hb2.size
    have HR2 := Lib.hid hr2
    have HX := Lib.hid hx
    have HLX := Lib.hid hr2.len
    have B2 : Below w.heap.size w w2 := hb1.trans (hb2.mono hs1)
    clear hr2 hx
    go_wp2_with fail
    with_reducible refine (there g w2 w.heap.size a0 len0 cap0 zs (HR0.out.below B2) (by omega) HZ0.out hlc (by omega) hcm).mono ?_
    rintro e w3 ⟨A3, n3, c3, rfl, h3n, h3c, h3m, hr3, hb3⟩
    have hs3 := hb3.size
    have HR3 := Lib.hid hr3
    have B3 : Below w.heap.size w w3 := B2.trans (hb3.mono (by omega))
    clear hr3
    go_wp2_with fail
    with_reducible refine (back g w3 w3.heap.size A3 n3 c3 zs HZ0.out HR3.out (Nat.le_refl _) (by omega)).mono ?_
    rintro e w4 ⟨A4, c4, rfl, h4c, h4m, hr4, hb4⟩
    have hs4 := hb4.size
    have HR4 := Lib.hid hr4
    have B4 : Below w.heap.size w w4 := B3.trans (hb4.mono (by omega))
    clear hr4
    generalize h4l : zs.length = l4 at *
    have H4L := Lib.hid h4l
    clear h4l
    go_wp2_with fail
    with_reducible refine (there g w4 w2.heap.size A2 n2 c2 xs ((HR2.out.below hb3).on hb4 hs3) (by omega) HX.out h2c (by omega) h2m).mono ?_
    rintro e w5 ⟨A5, n5, c5, rfl, h5n, h5c, h5m, hr5, hb5⟩
    have hs5 := hb5.size
    have HR5 := Lib.hid hr5
    have B5 : Below w.heap.size w w5 := B4.trans (hb5.mono (by omega))
    clear hr5
    go_wp2_with fail
    with_reducible refine (back g w5 w5.heap.size A5 n5 c5 xs HX.out HR5.out (Nat.le_refl _) (by omega)).mono ?_
    rintro e w6 ⟨A6, c6, rfl, h6c, h6m, hr6, hb6⟩
    have hs6 := hb6.size
    have HR6 := Lib.hid hr6
    have B6 : Below w.heap.size w w6 := B5.trans (hb6.mono (by omega))
    clear hr6
    generalize h6l : xs.length = l6 at *
    have H6L := Lib.hid h6l
    clear h6l
    have cv4 := conv_ri ((HR4.out.below hb5).on hb6 hs5) c4
    have cv0 := conv_ri (HR0.out.below B6) cap0
    have cv6 := conv_ri HR6.out c6
    have cv2 := conv_ri ((((HR2.out.below hb3).on hb4 hs3).on hb5 (by omega)).on hb6 (by omega)) c2
    generalize sb zs = s0 at cv4 cv0
    generalize sb xs = s1 at cv6 cv2
    go_wp2
    go_ret
    exact ⟨rfl, B6⟩
end Go.Proofs.Ytbocibecjndooaa.C
