/-
  The walk of the law CellOrder: it returns true for all choices, where the library's table stands as it was laid; nothing that was there changes.
-/
import Derived.Test.YtkijkkhjlfllnaaDoorCellM
namespace Go.Proofs.YtkijkkhjlfllnaaDoor.C
open Go.RowKit

theorem same_is (w : World) (Bx By : Nat) (Ax Ay : Option Addr) (n cx m cy : Nat) (xs ys : List Int) (hx : RI .i32 w Bx Ax n xs) (hy : RI .i32 w By Ay m ys) (hn : n ≤ maxLen) (hm : m ≤ maxLen) (r : Bool) (hr : sameL xs ys = r) :
    Calls Tryd.prog 15 #[.slice Ax n cx, .slice Ay m cy] w fun e w' => e = .returned (.bool r) ∧ ∃ q, w' = w.drewN q := by
  subst hr
  exact same_any w Bx By Ax Ay n cx m cy xs ys hx hy hn hm
theorem below_drewN {B : Nat} {a w : World} (h : Below B a w) (n : Nat) : Below B a (w.drewN n) := ⟨h.os, h.tape, h.output, h.size, h.block⟩

set_option maxHeartbeats 4000000 in
theorem cellOrderWalk (a0 : Option Addr) (len0 cap0 : Nat) (z0 : List Int) (a1 : Option Addr) (len1 cap1 : Nat) (z1 : List Int) (a2 : Option Addr) (len2 cap2 : Nat) (z2 : List Int) (w : World)
    (hT : w.cell? ⟨2, 15, none⟩ = some (.int .u8 4)) (w0 : L.IsRow .u8 w a0 len0 cap0 z0) (w1 : L.IsRow .u8 w a1 len1 cap1 z1) (w2 : L.IsRow .u8 w a2 len2 cap2 z2) :
    Calls Tryd.prog 3 #[.slice a0 len0 cap0, .slice a1 len1 cap1, .slice a2 len2 cap2] w fun e w' => e = .returned (.bool true) ∧ Below w.heap.size w w' := by
  obtain ⟨i0, hi, hz0, hz1, hz2⟩ := info_parts info33
  have hTB := World.block_lt_of_cell? w _ hT
  have HT := Lib.hid hT
  have W0 := Lib.hid w0
  have W1 := Lib.hid w1
  have W2 := Lib.hid w2
  clear hT w0 w1 w2
  go_enter Tryd.func3, Tryd.ntmps3
  go_wp2_with fail
  refine (cells_row w w a0 len0 cap0 z0 W0.out (Below.refl _ _)).mono ?_
  rintro e v1 ⟨A, n, c, rfl, hnc, hn60, hx, hb1⟩
  have HX := Lib.hid hx
  generalize cellsL (z0.take len0) = X at *
  go_wp2_with fail
  refine (cells_row v1 w a1 len1 cap1 z1 W1.out hb1).mono ?_
  rintro e v2 ⟨A', m, c', rfl, hmc, hm60, hy, hb2⟩
  have HY := Lib.hid hy
  have hs1 := hb1.size
  have hs2 := hb2.size
  generalize cellsL (z1.take len1) = Y at *
  have hb12 : Below w.heap.size w v2 := hb1.trans (hb2.mono hs1)
  go_wp2_with fail
  refine (cells_row v2 w a2 len2 cap2 z2 W2.out hb12).mono ?_
  rintro e v3 ⟨A'', l, c'', rfl, hlc, hl60, hw, hb3⟩
  have HW := Lib.hid hw
  have hs3 := hb3.size
  generalize cellsL (z2.take len2) = Z at *
  have hb13 : Below w.heap.size w v3 := hb12.trans (hb3.mono (by omega))
  have hx3 := (((HX.out.below hb2).more hs2).below hb3).more hs3
  have hy3 := (HY.out.below hb3).more hs3
  have HX3 := Lib.hid hx3
  have HY3 := Lib.hid hy3
  clear hx hy hw hx3 hy3 W0 W1 W2 HX HY
  go_wp2_with (first | (at_builtin; (refine wpList_append_ri _ rfl (.tmp 17) (.tmp 18) 23 rfl v3.heap.size 33 i0 (.int .i32 0) 4 Tryd.underlying23 hi hz0 hz1 hz2 rfl _ 0 [] rfl (World.ownsRow_nil _ _ _ _) .i32 v3.heap.size _ n c X rfl HX3.out (by unfold maxLen; omega) (by omega) (Nat.le_refl _) ?_); intro v' v4 hown' hgrow; have hb4 : Below v3.heap.size v3 v4 := (Below.refl _ _).grown hgrow (Nat.le_refl _) (fun k hk => by cases hk); have HO4 := Lib.hid hown'; clear hown' hgrow) | (at_builtin; (refine wpList_append_ri _ rfl (.tmp 20) (.tmp 21) 23 rfl v3.heap.size 33 i0 (.int .i32 0) 4 Tryd.underlying23 hi hz0 hz1 hz2 rfl _ (0 + n) _ rfl HO4.out .i32 v3.heap.size _ m c' Y rfl (HY3.out.below hb4) (by unfold maxLen; omega) (by omega) hb4.size ?_); intro v'' v5 hown' hgrow; have hb5 : Below v3.heap.size v3 v5 := hb4.grown hgrow hb4.size (fun k hk => (HO4.out.lt k hk).1); have HO5 := Lib.hid hown'; clear hown' hgrow))
  have hO : v5.ownsRow v3.heap.size 33 1 v'' (n + m) ((X ++ Y).map (Value.int .i32)) := by simpa using HO5.out
  obtain ⟨AB, cB, rfl, hBc, hB5⟩ := own_slice hO
  have HB5 := Lib.hid hB5
  have hs5 := hb5.size
  have hb15 : Below w.heap.size w v5 := hb13.trans (hb5.mono (by omega))
  have hx5 := (HX3.out.below hb5).more hs5
  have hy5 := (HY3.out.below hb5).more hs5
  have hz5 := (HW.out.below hb5).more hs5
  have HX5 := Lib.hid hx5
  have HY5 := Lib.hid hy5
  have HZ5 := Lib.hid hz5
  have HT5 := Lib.hid ((hb15.cell (p := ⟨2, 15, none⟩) hTB).trans HT.out)
  clear hx5 hy5 hz5 hB5 hO HO5 HO4 HX3 HY3 HW
  obtain ⟨p, hp⟩ : ∃ p, cmpL X Y = p := ⟨_, rfl⟩
  obtain ⟨q, hq⟩ : ∃ q, cmpL Y Z = q := ⟨_, rfl⟩
  obtain ⟨r, hr⟩ : ∃ r, cmpL X Z = r := ⟨_, rfl⟩
  obtain ⟨t, ht⟩ : ∃ t, cmpL X (X ++ Y) = t := ⟨_, rfl⟩
  have hpn : cmpL Y X = -p := by rw [cmpL_swap Y X, hp]
  have htle : t ≤ 0 := by rw [← ht]; exact cmpL_front X Y
  have hpb : -1 ≤ p ∧ p ≤ 1 := by have := cmpL_bd X Y; rw [hp] at this; omega
  have hqb : -1 ≤ q ∧ q ≤ 1 := by have := cmpL_bd Y Z; rw [hq] at this; omega
  have htr : p ≤ 0 → q ≤ 0 → r ≤ 0 := by
    intro h1 h2
    rw [← hr]
    exact cmpL_trans X Y Z (by rw [hp]; exact h1) (by rw [hq]; exact h2)
  obtain ⟨β, hβ⟩ : ∃ β, (p == 0) = β := ⟨_, rfl⟩
  have hsa : sameL X Y = β := by unfold sameL; rw [hp]; exact hβ
  have HP := Lib.hid hp
  have HQ := Lib.hid hq
  have HR := Lib.hid hr
  have HTT := Lib.hid ht
  have HPN := Lib.hid hpn
  have HSA := Lib.hid hsa
  obtain ⟨hp1, hp2⟩ := hpb
  obtain ⟨hq1, hq2⟩ := hqb
  have HTR := Lib.hid htr
  clear hp hq hr ht hpn hsa htr
  by_cases c1 : 0 < p
  ·
    refine (known_any v5 HT5.out).mono ?_
    rintro e v6 ⟨rfl, hb6⟩
    have hx6 := (HX5.out).below hb6
    have hy6 := (HY5.out).below hb6
    have hz6 := (HZ5.out).below hb6
    have hq6 := (HB5.out).below hb6
    have HX6 := Lib.hid hx6
    have HY6 := Lib.hid hy6
    have HZ6 := Lib.hid hz6
    have HB6 := Lib.hid hq6
    clear hx6 hy6 hz6 hq6
    go_wp2_with fail
    refine (compare_is v6 v5.heap.size v5.heap.size A A' n c m c' X Y HX6.out HY6.out (by unfold maxLen; omega) (by unfold maxLen; omega) p HP.out).mono ?_
    rintro e w' ⟨rfl, rfl⟩
    go_wp2_with fail
    refine (compare_is v6 v5.heap.size v5.heap.size A' A m c' n c Y X HY6.out HX6.out (by unfold maxLen; omega) (by unfold maxLen; omega) (-p) HPN.out).mono ?_
    rintro e w' ⟨rfl, rfl⟩
    go_wp2_with fail
    refine (compare_is v6 v5.heap.size v5.heap.size A A' n c m c' X Y HX6.out HY6.out (by unfold maxLen; omega) (by unfold maxLen; omega) p HP.out).mono ?_
    rintro e w' ⟨rfl, rfl⟩
    go_wp2_with fail
    refine (compare_is v6 v5.heap.size v5.heap.size A AB n c (n + m) cB X (X ++ Y) HX6.out HB6.out (by unfold maxLen; omega) (by unfold maxLen; omega) t HTT.out).mono ?_
    rintro e w' ⟨rfl, rfl⟩
    go_wp2_with fail
    refine (compare_is v6 v5.heap.size v5.heap.size A A' n c m c' X Y HX6.out HY6.out (by unfold maxLen; omega) (by unfold maxLen; omega) p HP.out).mono ?_
    rintro e w' ⟨rfl, rfl⟩
    go_wp2_with fail
    refine (same_is v6 v5.heap.size v5.heap.size A A' n c m c' X Y HX6.out HY6.out (by unfold maxLen; omega) (by unfold maxLen; omega) β HSA.out).mono ?_
    rintro e w' ⟨rfl, dq, rfl⟩
    cases β
    all_goals
      go_wp2
      go_ret
      exact ⟨rfl, below_drewN (hb15.trans (hb6.mono (by omega))) _⟩
  by_cases c2 : 0 < q
  ·
    refine (known_any v5 HT5.out).mono ?_
    rintro e v6 ⟨rfl, hb6⟩
    have hx6 := (HX5.out).below hb6
    have hy6 := (HY5.out).below hb6
    have hz6 := (HZ5.out).below hb6
    have hq6 := (HB5.out).below hb6
    have HX6 := Lib.hid hx6
    have HY6 := Lib.hid hy6
    have HZ6 := Lib.hid hz6
    have HB6 := Lib.hid hq6
    clear hx6 hy6 hz6 hq6
    go_wp2_with fail
    refine (compare_is v6 v5.heap.size v5.heap.size A A' n c m c' X Y HX6.out HY6.out (by unfold maxLen; omega) (by unfold maxLen; omega) p HP.out).mono ?_
    rintro e w' ⟨rfl, rfl⟩
    go_wp2_with fail
    refine (compare_is v6 v5.heap.size v5.heap.size A' A m c' n c Y X HY6.out HX6.out (by unfold maxLen; omega) (by unfold maxLen; omega) (-p) HPN.out).mono ?_
    rintro e w' ⟨rfl, rfl⟩
    go_wp2_with fail
    refine (compare_is v6 v5.heap.size v5.heap.size A A' n c m c' X Y HX6.out HY6.out (by unfold maxLen; omega) (by unfold maxLen; omega) p HP.out).mono ?_
    rintro e w' ⟨rfl, rfl⟩
    go_wp2_with fail
    refine (compare_is v6 v5.heap.size v5.heap.size A' A'' m c' l c'' Y Z HY6.out HZ6.out (by unfold maxLen; omega) (by unfold maxLen; omega) q HQ.out).mono ?_
    rintro e w' ⟨rfl, rfl⟩
    go_wp2_with fail
    refine (compare_is v6 v5.heap.size v5.heap.size A AB n c (n + m) cB X (X ++ Y) HX6.out HB6.out (by unfold maxLen; omega) (by unfold maxLen; omega) t HTT.out).mono ?_
    rintro e w' ⟨rfl, rfl⟩
    go_wp2_with fail
    refine (compare_is v6 v5.heap.size v5.heap.size A A' n c m c' X Y HX6.out HY6.out (by unfold maxLen; omega) (by unfold maxLen; omega) p HP.out).mono ?_
    rintro e w' ⟨rfl, rfl⟩
    go_wp2_with fail
    refine (same_is v6 v5.heap.size v5.heap.size A A' n c m c' X Y HX6.out HY6.out (by unfold maxLen; omega) (by unfold maxLen; omega) β HSA.out).mono ?_
    rintro e w' ⟨rfl, dq, rfl⟩
    cases β
    all_goals
      go_wp2
      go_ret
      exact ⟨rfl, below_drewN (hb15.trans (hb6.mono (by omega))) _⟩
  have hr0 := HTR.out (by omega) (by omega)
  refine (known_any v5 HT5.out).mono ?_
  rintro e v6 ⟨rfl, hb6⟩
  have hx6 := (HX5.out).below hb6
  have hy6 := (HY5.out).below hb6
  have hz6 := (HZ5.out).below hb6
  have hq6 := (HB5.out).below hb6
  have HX6 := Lib.hid hx6
  have HY6 := Lib.hid hy6
  have HZ6 := Lib.hid hz6
  have HB6 := Lib.hid hq6
  clear hx6 hy6 hz6 hq6
  go_wp2_with fail
  refine (compare_is v6 v5.heap.size v5.heap.size A A' n c m c' X Y HX6.out HY6.out (by unfold maxLen; omega) (by unfold maxLen; omega) p HP.out).mono ?_
  rintro e w' ⟨rfl, rfl⟩
  go_wp2_with fail
  refine (compare_is v6 v5.heap.size v5.heap.size A' A m c' n c Y X HY6.out HX6.out (by unfold maxLen; omega) (by unfold maxLen; omega) (-p) HPN.out).mono ?_
  rintro e w' ⟨rfl, rfl⟩
  go_wp2_with fail
  refine (compare_is v6 v5.heap.size v5.heap.size A A' n c m c' X Y HX6.out HY6.out (by unfold maxLen; omega) (by unfold maxLen; omega) p HP.out).mono ?_
  rintro e w' ⟨rfl, rfl⟩
  go_wp2_with fail
  refine (compare_is v6 v5.heap.size v5.heap.size A' A'' m c' l c'' Y Z HY6.out HZ6.out (by unfold maxLen; omega) (by unfold maxLen; omega) q HQ.out).mono ?_
  rintro e w' ⟨rfl, rfl⟩
  go_wp2_with fail
  refine (compare_is v6 v5.heap.size v5.heap.size A A'' n c l c'' X Z HX6.out HZ6.out (by unfold maxLen; omega) (by unfold maxLen; omega) r HR.out).mono ?_
  rintro e w' ⟨rfl, rfl⟩
  go_wp2_with fail
  refine (compare_is v6 v5.heap.size v5.heap.size A AB n c (n + m) cB X (X ++ Y) HX6.out HB6.out (by unfold maxLen; omega) (by unfold maxLen; omega) t HTT.out).mono ?_
  rintro e w' ⟨rfl, rfl⟩
  go_wp2_with fail
  refine (compare_is v6 v5.heap.size v5.heap.size A A' n c m c' X Y HX6.out HY6.out (by unfold maxLen; omega) (by unfold maxLen; omega) p HP.out).mono ?_
  rintro e w' ⟨rfl, rfl⟩
  go_wp2_with fail
  refine (same_is v6 v5.heap.size v5.heap.size A A' n c m c' X Y HX6.out HY6.out (by unfold maxLen; omega) (by unfold maxLen; omega) β HSA.out).mono ?_
  rintro e w' ⟨rfl, dq, rfl⟩
  cases β
  all_goals
    go_wp2
    go_ret
    exact ⟨rfl, below_drewN (hb15.trans (hb6.mono (by omega))) _⟩
end Go.Proofs.YtkijkkhjlfllnaaDoor.C
