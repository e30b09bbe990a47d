/-
  The walk of Utf16Decodes: for all bytes it returns true; nothing that was there changes.
-/
import Derived.Test.YtbocibecjndooaaUcsI
namespace Go.Proofs.Ytbocibecjndooaa.C
open Go.RowKit

set_option maxHeartbeats 2000000 in
theorem utf16DecodesWalk (a0 : Option Addr) (len0 cap0 : Nat) (z0 : List Int) (a1 : Option Addr) (len1 cap1 : Nat) (z1 : List Int) (g : Bool) (w : World) (w0 : L.IsRow .u8 w a0 len0 cap0 z0) (w1 : L.IsRow .u8 w a1 len1 cap1 z1) :
    Calls Try.prog 5 #[.slice a0 len0 cap0, .slice a1 len1 cap1, .bool g] w fun e w' => e = .returned (.bool true) ∧ Below w.heap.size w w' := by
  have hr0 := RI.of_row w0
  have hz0 : Bd (z0.take len0) := row_u8 w0
  obtain ⟨hlc, hcm⟩ := row_len w0
  generalize z0.take len0 = zs at *
  have HW1 := Lib.hid w1
  have HR0 := Lib.hid hr0
  have HZ0 := Lib.hid hz0
  clear w0 w1 hr0 hz0
  by_cases hbig : 300 < len0
  · have tb : ((300 : Int) < (len0 : Int)) := by omega
    go_enter Try.func5, Try.ntmps5
    go_wp2_with fail
    refine (known_any w).mono ?_
    rintro e w1 ⟨rfl, hb1⟩
    go_wp2
    go_ret
    exact ⟨rfl, hb1⟩
  · go_enter Try.func5, Try.ntmps5
    go_wp2_with fail
    refine (known_any w).mono ?_
    rintro e w1 ⟨rfl, hb1⟩
    have hs1 := hb1.size
    go_wp2_with fail
    with_reducible refine (there g w1 w.heap.size a0 len0 cap0 zs (HR0.out.below hb1) hs1 HZ0.out hlc (by omega) hcm).mono ?_
    rintro e w2 ⟨A2, n2, c2, rfl, h2n, h2c, h2m, hr2, hb2⟩
    have hs2 := hb2.size
    have HR2 := Lib.hid hr2
    clear hr2
    go_wp2_with fail
    with_reducible refine (refThere g w2 w.heap.size a0 len0 cap0 zs ((HR0.out.below hb1).on hb2 hs1) (by omega) HZ0.out (by omega)).mono ?_
    rintro e w3 ⟨A3, n3, c3, rfl, h3n, h3c, h3m, hr3, hb3⟩
    have hs3 := hb3.size
    have HR3 := Lib.hid hr3
    clear hr3
    go_wp2_with fail
    with_reducible refine (same_yes w3 w2.heap.size w3.heap.size A2 A3 n2 c2 n3 c3 _ _ rfl (HR2.out.below hb3) HR3.out (by omega) (by omega)).mono ?_
    rintro e w4 ⟨rfl, q, rfl⟩
    have B3 : Below w.heap.size w w3 := (hb1.trans (hb2.mono hs1)).trans (hb3.mono (by omega))
    have hb4 := below_drewN (Below.refl w3.heap.size w3) q
    have hs4 : w3.heap.size ≤ (w3.drewN q).heap.size := hb4.size
    have B4 : Below w.heap.size w (w3.drewN q) := below_drewN B3 q
    clear HR2 HR3
    generalize w3.drewN q = w4 at *
    go_wp2_with fail
    with_reducible refine (bytes_row w4 w a1 len1 cap1 z1 HW1.out B4).mono ?_
    rintro e w5 ⟨A5, n5, c5, rfl, h5c, h5m, h5n, hr5, hb5⟩
    have hs5 := hb5.size
    have HR5 := Lib.hid hr5
    have B5 : Below w.heap.size w w5 := B4.trans (hb5.mono (by omega))
    clear hr5
    go_wp2_with fail
    with_reducible refine (there g w5 w5.heap.size A5 n5 c5 _ HR5.out (Nat.le_refl _) (bytesL_bd _) h5c (by omega) h5m).mono ?_
    rintro e w6 ⟨A6, n6, c6, rfl, h6n, h6c, h6m, hr6, hb6⟩
    have hs6 := hb6.size
    have HR6 := Lib.hid hr6
    have B6 : Below w.heap.size w w6 := B5.trans (hb6.mono (by omega))
    clear hr6
    go_wp2_with fail
    with_reducible refine (bytes_row w6 w a1 len1 cap1 z1 HW1.out B6).mono ?_
    rintro e w7 ⟨A7, n7, c7, rfl, h7c, h7m, h7n, hr7, hb7⟩
    have hs7 := hb7.size
    have HR7 := Lib.hid hr7
    have B7 : Below w.heap.size w w7 := B6.trans (hb7.mono (by omega))
    clear hr7
    go_wp2_with fail
    with_reducible refine (refThere g w7 w7.heap.size A7 n7 c7 _ HR7.out (Nat.le_refl _) (bytesL_bd _) (by omega)).mono ?_
    rintro e w8 ⟨A8, n8, c8, rfl, h8n, h8c, h8m, hr8, hb8⟩
    have hs8 := hb8.size
    have HR8 := Lib.hid hr8
    have B8 : Below w.heap.size w w8 := B7.trans (hb8.mono (by omega))
    clear hr8
    go_wp2_with fail
    with_reducible refine (same_yes w8 w6.heap.size w8.heap.size A6 A8 n6 c6 n8 c8 _ _ rfl ((HR6.out.below hb7).on hb8 hs7) HR8.out (by omega) (by omega)).mono ?_
    rintro e w9 ⟨rfl, q9, rfl⟩
    go_wp2
    go_ret
    exact ⟨rfl, below_drewN B8 q9⟩
end Go.Proofs.Ytbocibecjndooaa.C
