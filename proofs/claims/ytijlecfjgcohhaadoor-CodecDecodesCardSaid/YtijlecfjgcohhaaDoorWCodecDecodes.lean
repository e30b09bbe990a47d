/-
  The walk of CodecDecodes: for all bytes, choices and encodings it returns true; nothing that was there changes. Condition: the decoder's two tables stand as they were laid.
-/
import Derived.Test.YtijlecfjgcohhaaDoorCdcS
namespace Go.Proofs.YtijlecfjgcohhaaDoor.C
open Go.RowKit

set_option maxRecDepth 100000 in
set_option maxHeartbeats 4000000 in
theorem codecDecodesWalk (e0 : Int) (a0 : Option Addr) (len0 cap0 : Nat) (z0 : List Int) (a1 : Option Addr) (len1 cap1 : Nat) (z1 : List Int) (k : Int) (w : World) (hT : Lib.Utf8Tabs 0 1 w) (we : (Lit.int .u8 e0).wf = true) (w0 : L.IsRow .u8 w a0 len0 cap0 z0) (w1 : L.IsRow .u8 w a1 len1 cap1 z1) (wk : (Lit.int .u8 k).wf = true) :
    Calls Tryd.prog 5 #[.int .u8 e0, .slice a0 len0 cap0, .slice a1 len1 cap1, .int .u8 k] w fun e w' => e = .returned (.bool true) ∧ Below w.heap.size w w' := by
  obtain ⟨k0, k1⟩ := bounds_u8 wk
  obtain ⟨e00, e01⟩ := bounds_u8 we
  have hr0 := RI.of_row w0
  have hz0 : Bd (z0.take len0) := row_u8 w0
  obtain ⟨hlc, hcm⟩ := row_len w0
  generalize z0.take len0 = zs at *
  have HW1 := Lib.hid w1
  have HR0 := Lib.hid hr0
  have HZ0 := Lib.hid hz0
  have HT := Lib.hid hT
  clear w0 w1 hr0 hz0 hT
  by_cases hbig : 300 < len0
  · have tb : ((300 : Int) < (len0 : Int)) := by omega
    go_enter Tryd.func5, Tryd.ntmps5
    go_wp2_with fail
    with_reducible refine (known_any w HT.out).mono ?_
    rintro e w1 ⟨rfl, hb1⟩
    go_wp2
    go_ret
    exact ⟨rfl, hb1⟩
  · go_enter Tryd.func5, Tryd.ntmps5
    go_wp2_with fail
    with_reducible refine (known_any w HT.out).mono ?_
    rintro e w1 ⟨rfl, hb1⟩
    have hs1 := hb1.size
    go_wp2_with fail
    with_reducible refine (decodes_any e0 w1 w.heap.size a0 len0 cap0 zs (HR0.out.below hb1) hs1 HZ0.out hlc (by omega) hcm (tabs_below HT.out hb1)).mono ?_
    rintro e w2 ⟨rfl, hb2⟩
    have hs2 := hb2.size
    have B2 : Below w.heap.size w w2 := hb1.trans (hb2.mono hs1)
    go_wp2_with fail
    with_reducible refine (decodes_any (e0 % 4) w2 w.heap.size a0 len0 cap0 zs (HR0.out.below B2) (by omega) HZ0.out hlc (by omega) hcm (tabs_below HT.out B2)).mono ?_
    rintro e w3 ⟨rfl, hb3⟩
    have hs3 := hb3.size
    have B3 : Below w.heap.size w w3 := B2.trans (hb3.mono (by omega))
    go_wp2_with fail
    with_reducible refine (mix_row w3 w a1 len1 cap1 k z1 HW1.out B3 k0 k1).mono ?_
    rintro e w4 ⟨A4, n4, c4, rfl, h4c, h4m, h4n, hr4, hb4⟩
    have hs4 := hb4.size
    have HX := Lib.hid (mixL_bd k (z1.take len1))
    have HR4 := Lib.hid hr4
    have B4 : Below w.heap.size w w4 := B3.trans (hb4.mono (by omega))
    clear hr4
    go_wp2_with fail
    with_reducible refine (decodes_any (e0 % 4) w4 w4.heap.size A4 n4 c4 (mixL k (z1.take len1)) HR4.out (Nat.le_refl _) HX.out h4c (by omega) h4m (tabs_below HT.out B4)).mono ?_
    rintro e w5 ⟨rfl, hb5⟩
    go_wp2
    go_ret
    exact ⟨rfl, B4.trans (hb5.mono (by omega))⟩
end Go.Proofs.YtijlecfjgcohhaaDoor.C
