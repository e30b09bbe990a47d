/-
  The walk of the law CellTexts: it returns true for all cells and choices (slices whose memory is within the row's reach), where the library's table stands as it was laid; nothing that was there changes.
-/
import Derived.Test.YtkijkkhjlfllnaaDoorCellT
namespace Go.Proofs.YtkijkkhjlfllnaaDoor.C
open Go.RowKit

theorem refCompare_is (w : World) (Bx By : Nat) (Ax Ay : Option Addr) (n cx m cy : Nat) (xs ys : List Int) (hx : RI .i32 w Bx Ax n xs) (hy : RI .i32 w By Ay m ys) (hn : n ≤ maxLen) (hm : m ≤ maxLen) (r : Int) (hr : cmpL xs ys = r) :
    Calls Tryd.prog 27 #[.slice Ax n cx, .slice Ay m cy] w fun e w' => e = .returned (.int .i64 r) ∧ ∃ q, w' = w.drewN q := by
  subst hr
  exact refCompare_any w Bx By Ax Ay n cx m cy xs ys hx hy hn hm

set_option maxHeartbeats 8000000 in
theorem cellTextsWalk (a0 : Option Addr) (len0 cap0 : Nat) (z0 : List Int) (a1 : Option Addr) (len1 cap1 : Nat) (z1 : List Int) (a2 : Option Addr) (len2 cap2 : Nat) (z2 : List Int) (a3 : Option Addr) (len3 cap3 : Nat) (z3 : List Int) (w : World)
    (hT : w.cell? ⟨2, 15, none⟩ = some (.int .u8 4)) (w0 : L.IsRow .i32 w a0 len0 cap0 z0) (q0 : cap0 * 4 ≤ 140737488351232) (w1 : L.IsRow .i32 w a1 len1 cap1 z1) (q1 : cap1 * 4 ≤ 140737488351232)
    (w2 : L.IsRow .u8 w a2 len2 cap2 z2) (w3 : L.IsRow .u8 w a3 len3 cap3 z3) :
    Calls Tryd.prog 7 #[.slice a0 len0 cap0, .slice a1 len1 cap1, .slice a2 len2 cap2, .slice a3 len3 cap3] w fun e w' => e = .returned (.bool true) ∧ Below w.heap.size w w' := by
  have hTB := World.block_lt_of_cell? w _ hT
  have HT := Lib.hid hT
  have hl0 := (row_len w0).1
  have hl1 := (row_len w1).1
  have HA := Lib.hid (RI.of_row w0)
  have HB := Lib.hid (RI.of_row w1)
  have W2 := Lib.hid w2
  have W3 := Lib.hid w3
  clear hT w0 w1 w2 w3
  generalize z0.take len0 = P at *
  generalize z1.take len1 = R at *
  by_cases hbig : 200 < len0 + len1
  · have hb' : (200 : Int) < (len0 : Int) + (len1 : Int) := by omega
    go_enter Tryd.func7, Tryd.ntmps7
    go_wp2_with fail
    refine (known_any w HT.out).mono ?_
    rintro e v1 ⟨rfl, hb1⟩
    go_wp2
    go_ret
    exact ⟨rfl, hb1⟩
  have hs' : ¬ (200 : Int) < (len0 : Int) + (len1 : Int) := by omega
  have hs2 : decide ((200 : Int) < (len0 : Int) + (len1 : Int)) = false := by simpa using hs'
  go_enter Tryd.func7, Tryd.ntmps7
  go_wp2_with fail
  refine (known_any w HT.out).mono ?_
  rintro e v1 ⟨rfl, hb1⟩
  have hz1 := hb1.size
  go_wp2_with fail
  refine (cells_row v1 w a2 len2 cap2 z2 W2.out hb1).mono ?_
  rintro e v2 ⟨A, n, c, rfl, hnc, hn60, hx, hb2⟩
  have HX := Lib.hid hx
  have hz2 := hb2.size
  generalize cellsL (z2.take len2) = X at *
  clear hx
  have B2 : Below w.heap.size w v2 := hb1.trans (hb2.mono hz1)
  go_wp2_with fail
  refine (cells_row v2 w a3 len3 cap3 z3 W3.out B2).mono ?_
  rintro e v3 ⟨A', m, c', rfl, hmc, hm60, hy, hb3⟩
  have HY := Lib.hid hy
  have hz3 := hb3.size
  generalize cellsL (z3.take len3) = Y at *
  clear hy
  have B3 : Below w.heap.size w v3 := B2.trans (hb3.mono (by omega))
  go_wp2_with fail
  refine (text_any v3 w.heap.size a0 len0 cap0 P (HA.out.below B3) (by omega) (by omega) ((B3.cell (p := ⟨2, 15, none⟩) hTB).trans HT.out)).mono ?_
  rintro e v4 ⟨rfl, hb4⟩
  have hz4 := hb4.size
  have B4 : Below w.heap.size w v4 := B3.trans (hb4.mono (by omega))
  go_wp2_with fail
  refine (refText_any v4 w.heap.size a0 len0 cap0 P (HA.out.below B4) (by omega) (by omega)).mono ?_
  rintro e v5 ⟨rfl, hb5⟩
  have hz5 := hb5.size
  have B5 : Below w.heap.size w v5 := B4.trans (hb5.mono (by omega))
  have hX5 := Lib.hid (((HX.out.below hb3).below (hb4.mono hz3)).below (hb5.mono (by omega)))
  have hY5 := Lib.hid ((HY.out.below hb4).below (hb5.mono hz4))
  generalize str (textL P) = TP at *
  go_wp2_with fail
  refine (text_any v5 v2.heap.size A n c X hX5.out (by omega) (by omega) ((B5.cell (p := ⟨2, 15, none⟩) hTB).trans HT.out)).mono ?_
  rintro e v6 ⟨rfl, hb6⟩
  have hz6 := hb6.size
  have B6 : Below w.heap.size w v6 := B5.trans (hb6.mono (by omega))
  have hX6 := Lib.hid (hX5.out.below (hb6.mono (by omega)))
  have hY6 := Lib.hid (hY5.out.below (hb6.mono (by omega)))
  go_wp2_with fail
  refine (refText_any v6 v2.heap.size A n c X hX6.out (by omega) (by omega)).mono ?_
  rintro e v7 ⟨rfl, hb7⟩
  have hz7 := hb7.size
  have B7 : Below w.heap.size w v7 := B6.trans (hb7.mono (by omega))
  have hX7 := Lib.hid (hX6.out.below (hb7.mono (by omega)))
  have hY7 := Lib.hid (hY6.out.below (hb7.mono (by omega)))
  have hA7 := Lib.hid (HA.out.below B7)
  have hB7 := Lib.hid (HB.out.below B7)
  generalize str (textL X) = TX at *
  obtain ⟨r1, hr1⟩ : ∃ r1, cmpL P R = r1 := ⟨_, rfl⟩
  obtain ⟨r2, hr2⟩ : ∃ r2, cmpL X Y = r2 := ⟨_, rfl⟩
  have HR1 := Lib.hid hr1
  have HR2 := Lib.hid hr2
  clear hr1 hr2
  go_wp2_with fail
  refine (compare_is v7 w.heap.size w.heap.size a0 a1 len0 cap0 len1 cap1 P R hA7.out hB7.out (by unfold maxLen; omega) (by unfold maxLen; omega) r1 HR1.out).mono ?_
  rintro e w' ⟨rfl, rfl⟩
  go_wp2_with fail
  refine (refCompare_is v7 w.heap.size w.heap.size a0 a1 len0 cap0 len1 cap1 P R hA7.out hB7.out (by unfold maxLen; omega) (by unfold maxLen; omega) r1 HR1.out).mono ?_
  rintro e w' ⟨rfl, d1, rfl⟩
  go_wp2_with fail
  refine (compare_is (v7.drewN d1) v2.heap.size v3.heap.size A A' n c m c' X Y (hX7.out.drewN d1) (hY7.out.drewN d1) (by unfold maxLen; omega) (by unfold maxLen; omega) r2 HR2.out).mono ?_
  rintro e w' ⟨rfl, rfl⟩
  go_wp2_with fail
  refine (refCompare_is (v7.drewN d1) v2.heap.size v3.heap.size A A' n c m c' X Y (hX7.out.drewN d1) (hY7.out.drewN d1) (by unfold maxLen; omega) (by unfold maxLen; omega) r2 HR2.out).mono ?_
  rintro e w' ⟨rfl, d2, rfl⟩
  go_wp2_with fail
  refine (compare_is (v7.drewN (d1 + d2)) v2.heap.size v2.heap.size A A n c n c X X (hX7.out.drewN (d1 + d2)) (hX7.out.drewN (d1 + d2)) (by unfold maxLen; omega) (by unfold maxLen; omega) 0 (cmpL_self X)).mono ?_
  rintro e w' ⟨rfl, rfl⟩
  go_wp2
  go_ret
  exact ⟨by simp, below_drewN B7 _⟩
end Go.Proofs.YtkijkkhjlfllnaaDoor.C
