/-
  The walk of Utf16Encodes: for all cells it returns true; nothing that was there changes.
-/
import Derived.Test.YtbocibecjndooaaUcsI
import Derived.Test.YtbocibecjndooaaUtfL
namespace Go.Proofs.Ytbocibecjndooaa.C
open Go.RowKit

set_option maxHeartbeats 2000000 in
theorem tells_any (g : Bool) (w : World) (B : Nat) (A : Option Addr) (n c : Nat) (xs : List Int) (hx : RI .i32 w B A n xs) (hB : B ≤ w.heap.size) (hn : n ≤ 1024) :
    Calls Try.prog 16 #[.slice A n c, .bool g] w fun e w' => e = .returned (.bool true) ∧ Below w.heap.size w w' := by
  have HX := Lib.hid hx
  clear hx
  obtain ⟨r, hr⟩ : ∃ r, canonB xs = r := ⟨_, rfl⟩
  have HR := Lib.hid hr
  clear hr
  cases ha : xs.all rightB with
  | false =>
    have HA := Lib.hid ha
    clear ha
    go_enter Try.func16, Try.ntmps16
    go_wp2_with fail
    with_reducible refine (encode_no g w B A n c xs HX.out hB (by omega) HA.out).mono ?_
    rintro e w1 ⟨rfl, hb1⟩
    have hs1 := hb1.size
    go_wp2_with fail
    with_reducible refine (refEncode_no g w1 B A n c xs (HX.out.on hb1 hB) (by omega) (by omega) HA.out).mono ?_
    rintro e w2 ⟨rfl, hb2⟩
    have hs2 := hb2.size
    have B2 : Below w.heap.size w w2 := hb1.trans (hb2.mono hs1)
    have cv := conv_ri (RI.none_ (ki := .u8) (w := w2) (B := 0) (A := none)) 0
    generalize sb [] = s0 at cv
    go_wp2_with fail
    clear cv
    with_reducible refine (canonical_is w2 B A n c xs (HX.out.on B2 hB) (by omega) (by omega) r HR.out).mono ?_
    rintro e w3 ⟨rfl, hb3⟩
    have hs3 := hb3.size
    have B3 : Below w.heap.size w w3 := B2.trans (hb3.mono (by omega))
    go_wp2_with fail
    with_reducible refine (refCanonical_is w3 B A n c xs (HX.out.on B3 hB) (by omega) (by omega) r HR.out).mono ?_
    rintro e w4 ⟨rfl, hb4⟩
    go_wp2
    go_ret
    exact ⟨rfl, B3.trans (hb4.mono (by omega))⟩
  | true =>
    have HA := Lib.hid ha
    clear ha
    go_enter Try.func16, Try.ntmps16
    go_wp2_with fail
    with_reducible refine (encode_yes g w B A n c xs HX.out hB (by omega) HA.out).mono ?_
    rintro e w1 ⟨v1, rfl, hown1, hb1⟩
    obtain ⟨A1, c1, rfl, _, _, hr1⟩ := own_slice2 hown1
    have HR1 := Lib.hid hr1
    have hs1 := hb1.size
    clear hown1 hr1
    go_wp2_with fail
    with_reducible refine (refEncode_yes g w1 B A n c xs (HX.out.on hb1 hB) (by omega) (by omega) HA.out).mono ?_
    rintro e w2 ⟨v2, rfl, hown2, hb2⟩
    obtain ⟨A2, c2, rfl, _, _, hr2⟩ := own_slice2 hown2
    have HR2 := Lib.hid hr2
    have hs2 := hb2.size
    clear hown2 hr2
    have B2 : Below w.heap.size w w2 := hb1.trans (hb2.mono hs1)
    have cv1 := conv_ri (HR1.out.below hb2) c1
    have cv2 := conv_ri HR2.out c2
    generalize sb (encL g xs) = s0 at cv1 cv2
    go_wp2_with fail
    clear cv1 cv2
    with_reducible refine (canonical_is w2 B A n c xs (HX.out.on B2 hB) (by omega) (by omega) r HR.out).mono ?_
    rintro e w3 ⟨rfl, hb3⟩
    have hs3 := hb3.size
    have B3 : Below w.heap.size w w3 := B2.trans (hb3.mono (by omega))
    go_wp2_with fail
    with_reducible refine (refCanonical_is w3 B A n c xs (HX.out.on B3 hB) (by omega) (by omega) r HR.out).mono ?_
    rintro e w4 ⟨rfl, hb4⟩
    go_wp2
    go_ret
    exact ⟨rfl, B3.trans (hb4.mono (by omega))⟩

set_option maxHeartbeats 1000000 in
theorem utf16EncodesWalk (a0 : Option Addr) (len0 cap0 : Nat) (z0 : List Int) (a1 : Option Addr) (len1 cap1 : Nat) (z1 : List Int) (g : Bool) (w : World) (w0 : L.IsRow .i32 w a0 len0 cap0 z0) (_q0 : cap0 * 4 ≤ 140737488351232) (w1 : L.IsRow .u8 w a1 len1 cap1 z1) :
    Calls Try.prog 6 #[.slice a0 len0 cap0, .slice a1 len1 cap1, .bool g] w fun e w' => e = .returned (.bool true) ∧ Below w.heap.size w w' := by
  have hr0 := RI.of_row w0
  generalize z0.take len0 = xs at *
  have HW1 := Lib.hid w1
  have HR0 := Lib.hid hr0
  clear w0 w1 hr0
  by_cases hbig : 200 < len0
  · have tb : ((200 : Int) < (len0 : Int)) := by omega
    go_enter Try.func6, Try.ntmps6
    go_wp2_with fail
    refine (known_any w).mono ?_
    rintro e w1 ⟨rfl, hb1⟩
    go_wp2
    go_ret
    exact ⟨rfl, hb1⟩
  · go_enter Try.func6, Try.ntmps6
    go_wp2_with fail
    refine (known_any w).mono ?_
    rintro e w1 ⟨rfl, hb1⟩
    have hs1 := hb1.size
    go_wp2_with fail
    with_reducible refine (tells_any g w1 w.heap.size a0 len0 cap0 xs (HR0.out.below hb1) hs1 (by omega)).mono ?_
    rintro e w2 ⟨rfl, hb2⟩
    have hs2 := hb2.size
    have B2 : Below w.heap.size w w2 := hb1.trans (hb2.mono hs1)
    go_wp2_with fail
    with_reducible refine (cells_row w2 w a1 len1 cap1 z1 HW1.out B2).mono ?_
    rintro e w3 ⟨A3, n3, c3, rfl, h3c, h3n, hr3, hb3⟩
    have hs3 := hb3.size
    have HR3 := Lib.hid hr3
    have B3 : Below w.heap.size w w3 := B2.trans (hb3.mono (by omega))
    clear hr3
    go_wp2_with fail
    with_reducible refine (tells_any g w3 w3.heap.size A3 n3 c3 _ HR3.out (Nat.le_refl _) (by omega)).mono ?_
    rintro e w4 ⟨rfl, hb4⟩
    go_wp2
    go_ret
    exact ⟨rfl, B3.trans (hb4.mono (by omega))⟩
end Go.Proofs.Ytbocibecjndooaa.C
