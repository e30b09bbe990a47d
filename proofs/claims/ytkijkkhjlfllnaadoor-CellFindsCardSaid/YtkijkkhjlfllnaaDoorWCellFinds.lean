/-
  The walk of the law CellFinds: it returns true for all cells, places and choices (slices whose memory is within the row's reach), where the library's table stands as it was laid; nothing that was there changes.
-/
import Derived.Test.YtkijkkhjlfllnaaDoorCellN
import Derived.OpenShut
namespace Go.Proofs.YtkijkkhjlfllnaaDoor.C
open Go.RowKit

/-- whether a cut is right: 0, or 1 -/
def cutE (n : Nat) (a b : Int) : Int := if 0 ≤ a ∧ a ≤ b ∧ b ≤ (n : Int) then 0 else 1
def cutL (xs : List Int) (a b : Int) : List Int := if 0 ≤ a ∧ a ≤ b ∧ b ≤ (xs.length : Int) then (xs.drop a.toNat).take (b.toNat - a.toNat) else []
theorem cutE_bd (n : Nat) (a b : Int) : 0 ≤ cutE n a b ∧ cutE n a b ≤ 1 := by unfold cutE; split <;> omega

theorem cut_any (w : World) (Bx : Nat) (Ax : Option Addr) (n cx : Nat) (xs : List Int) (a b : Int) (hx : RI .i32 w Bx Ax n xs) (hBx : Bx ≤ w.heap.size) (hn : n ≤ cx) (hcx : n * 4 ≤ 140737488355328) :
    Calls Tryd.prog 16 #[.slice Ax n cx, .int .i64 a, .int .i64 b] w fun e w' => ∃ A' m c', e = .returned (.tuple #[.slice A' m c', .int .u16 (cutE n a b)]) ∧ m ≤ n ∧ m ≤ c' ∧ RI .i32 w' w'.heap.size A' m (cutL xs a b) ∧ Below w.heap.size w w' := by
  by_cases h : 0 ≤ a ∧ a ≤ b ∧ b ≤ (n : Int)
  · obtain ⟨a', rfl⟩ := Int.eq_ofNat_of_zero_le h.1
    obtain ⟨b', rfl⟩ := Int.eq_ofNat_of_zero_le (Int.le_trans h.1 h.2.1)
    have e1 : cutE n a' b' = 0 := if_pos h
    have e2 : cutL xs a' b' = (xs.drop a').take (b' - a') := by
      unfold cutL
      rw [hx.len, if_pos h, Int.toNat_natCast, Int.toNat_natCast]
    rw [e1, e2]
    refine (cut_yes w Bx Ax n cx xs a' b' hx hBx hn hcx (by omega) (by omega)).mono ?_
    rintro e w' ⟨rfl, hown, hb⟩
    exact ⟨_, _, _, rfl, by omega, Nat.le_refl _, RI.of_own hown, hb⟩
  · have e1 : cutE n a b = 1 := if_neg h
    have e2 : cutL xs a b = [] := by
      unfold cutL
      rw [hx.len, if_neg h]
    rw [e1, e2]
    refine (cut_no w Ax n cx a b (by omega)).mono ?_
    rintro e w' ⟨rfl, rfl⟩
    exact ⟨none, 0, 0, rfl, Nat.zero_le _, Nat.le_refl _, RI.none_, Below.refl _ _⟩
theorem refCut_any (w : World) (Bx : Nat) (Ax : Option Addr) (n cx : Nat) (xs : List Int) (a b : Int) (hx : RI .i32 w Bx Ax n xs) (hn : n ≤ cx) (hcx : n * 4 ≤ 140737488355328) :
    Calls Tryd.prog 28 #[.slice Ax n cx, .int .i64 a, .int .i64 b] w fun e w' => ∃ A' m c', e = .returned (.tuple #[.slice A' m c', .int .i64 (cutE n a b)]) ∧ m ≤ n ∧ m ≤ c' ∧ RI .i32 w' w'.heap.size A' m (cutL xs a b) ∧ Below w.heap.size w w' := by
  by_cases h : 0 ≤ a ∧ a ≤ b ∧ b ≤ (n : Int)
  · obtain ⟨a', rfl⟩ := Int.eq_ofNat_of_zero_le h.1
    obtain ⟨b', rfl⟩ := Int.eq_ofNat_of_zero_le (Int.le_trans h.1 h.2.1)
    have e1 : cutE n a' b' = 0 := if_pos h
    have e2 : cutL xs a' b' = (xs.drop a').take (b' - a') := by
      unfold cutL
      rw [hx.len, if_pos h, Int.toNat_natCast, Int.toNat_natCast]
    rw [e1, e2]
    refine (refCut_yes w Bx Ax n cx xs a' b' hx hn hcx (by omega) (by omega)).mono ?_
    rintro e w' ⟨A', c', rfl, hc, hr, hb⟩
    exact ⟨A', _, c', rfl, by omega, hc, hr, hb⟩
  · have e1 : cutE n a b = 1 := if_neg h
    have e2 : cutL xs a b = [] := by
      unfold cutL
      rw [hx.len, if_neg h]
    rw [e1, e2]
    refine (refCut_no w Ax n cx a b (by omega)).mono ?_
    rintro e w' ⟨rfl, rfl⟩
    exact ⟨none, 0, 0, rfl, Nat.zero_le _, Nat.le_refl _, RI.none_, Below.refl _ _⟩
theorem find_is (w : World) (Bx By : Nat) (Ax Ay : Option Addr) (n cx m cy : Nat) (xs ys : List Int) (q : Int) (hq : q ≤ 9223372036854775807) (hx : RI .i32 w Bx Ax n xs) (hy : RI .i32 w By Ay m ys) (hn : n ≤ maxLen) (hm : m ≤ maxLen) (r : Int) (hr : findL xs ys q.toNat = r) :
    Calls Tryd.prog 29 #[.slice Ax n cx, .slice Ay m cy, .int .i64 q] w fun e w' => e = .returned (.int .i64 r) ∧ w = w' := by
  subst hr
  by_cases h : q < 0
  · rw [show q.toNat = 0 by omega]
    exact find_neg w Bx By Ax Ay n cx m cy xs ys q h hx hy hn hm
  · obtain ⟨p, rfl⟩ := Int.eq_ofNat_of_zero_le (show 0 ≤ q by omega)
    rw [Int.toNat_natCast]
    exact find_at w Bx By Ax Ay n cx m cy xs ys p hx hy hn hm (by unfold maxLen; omega)
theorem refFind_is (w : World) (Bx By : Nat) (Ax Ay : Option Addr) (n cx m cy : Nat) (xs ys : List Int) (q : Int) (hq : q ≤ 9223372036854775807) (hx : RI .i32 w Bx Ax n xs) (hy : RI .i32 w By Ay m ys) (hn : n ≤ 4611686018427387904) (hm : m ≤ maxLen) (hc : n ≤ cx) (r : Int) (hr : findL xs ys q.toNat = r) :
    Calls Tryd.prog 30 #[.slice Ax n cx, .slice Ay m cy, .int .i64 q] w fun e w' => e = .returned (.int .i64 r) ∧ ∃ q, w' = w.drewN q := by
  subst hr
  by_cases h : q < 0
  · rw [show q.toNat = 0 by omega]
    exact refFind_neg w Bx By Ax Ay n cx m cy xs ys q h hx hy hn hm hc
  · obtain ⟨p, rfl⟩ := Int.eq_ofNat_of_zero_le (show 0 ≤ q by omega)
    rw [Int.toNat_natCast]
    exact refFind_at w Bx By Ax Ay n cx m cy xs ys p (by unfold maxLen; omega) hx hy hn hm hc

set_option maxHeartbeats 8000000 in
theorem cellFindsWalk (a0 : Option Addr) (len0 cap0 : Nat) (z0 : List Int) (a1 : Option Addr) (len1 cap1 : Nat) (z1 : List Int) (fr to : Int) (a4 : Option Addr) (len4 cap4 : Nat) (z4 : List Int) (i k : Int) (w : World)
    (hT : w.cell? ⟨2, 15, none⟩ = some (.int .u8 4)) (w0 : L.IsRow .i32 w a0 len0 cap0 z0) (q0 : cap0 * 4 ≤ 140737488351232) (w1 : L.IsRow .i32 w a1 len1 cap1 z1) (q1 : cap1 * 4 ≤ 140737488351232)
    (wf : (Lit.int .i64 fr).wf = true) (_wt : (Lit.int .i64 to).wf = true) (w4 : L.IsRow .u8 w a4 len4 cap4 z4) (wi : (Lit.int .u8 i).wf = true) (wk : (Lit.int .u8 k).wf = true) :
    Calls Tryd.prog 8 #[.slice a0 len0 cap0, .slice a1 len1 cap1, .int .i64 fr, .int .i64 to, .slice a4 len4 cap4, .int .u8 i, .int .u8 k] w fun e w' => e = .returned (.bool true) ∧ Below w.heap.size w w' := by
  have hTB := World.block_lt_of_cell? w _ hT
  have HT := Lib.hid hT
  have hl0 := (row_len w0).1
  have hl1 := (row_len w1).1
  have HA := Lib.hid (RI.of_row w0)
  have HB := Lib.hid (RI.of_row w1)
  have W4 := Lib.hid w4
  obtain ⟨hi0, hi1⟩ := bounds_u8 wi
  obtain ⟨hk0, hk1⟩ := bounds_u8 wk
  obtain ⟨hf0, hf1⟩ := bounds_i64 wf
  clear hT w0 w1 w4 wi wk wf _wt
  generalize z0.take len0 = P at *
  generalize z1.take len1 = R at *
  by_cases hbig : 200 < len0 + len1
  · have hb' : (200 : Int) < (len0 : Int) + (len1 : Int) := by omega
    go_enter Tryd.func8, Tryd.ntmps8
    go_wp2_with fail
    refine (known_any w HT.out).mono ?_
    rintro e v1 ⟨rfl, hb1⟩
    go_wp2
    go_ret
    exact ⟨rfl, hb1⟩
  have hs' : ¬ (200 : Int) < (len0 : Int) + (len1 : Int) := by omega
  have hs2 : decide ((200 : Int) < (len0 : Int) + (len1 : Int)) = false := by simpa using hs'
  go_enter Tryd.func8, Tryd.ntmps8
  go_wp2_with fail
  refine (known_any w HT.out).mono ?_
  rintro e v1 ⟨rfl, hb1⟩
  have hz1 := hb1.size
  go_wp2_with fail
  refine (cells_row v1 w a4 len4 cap4 z4 W4.out hb1).mono ?_
  rintro e v2 ⟨A, n, c, rfl, hnc, hn60, hx, hb2⟩
  have HX := Lib.hid hx
  have hz2 := hb2.size
  generalize cellsL (z4.take len4) = X at *
  clear hx
  have B2 : Below w.heap.size w v2 := hb1.trans (hb2.mono hz1)
  obtain ⟨p, hp⟩ : ∃ p : Nat, p = i.toNat % (n + 1) := ⟨_, rfl⟩
  have hpn : p ≤ n := by have := Nat.mod_lt i.toNat (show 0 < n + 1 by omega); omega
  have hpk : i % ((n : Int) + 1) = (p : Int) := by
    rw [hp]
    have : i = ((i.toNat : Nat) : Int) := by omega
    rw [this, Int.toNat_natCast]
    rfl
  obtain ⟨r, hr⟩ : ∃ r : Nat, r = k.toNat % (n - p + 1) := ⟨_, rfl⟩
  have hrn : r ≤ n - p := by have := Nat.mod_lt k.toNat (show 0 < n - p + 1 by omega); omega
  have hrk : k % ((n : Int) - (p : Int) + 1) = (r : Int) := by
    rw [hr]
    have h1 : k = ((k.toNat : Nat) : Int) := by omega
    have h2 : (n : Int) - (p : Int) + 1 = ((n - p + 1 : Nat) : Int) := by omega
    rw [h1, h2, Int.toNat_natCast]
    rfl
  have HP := Lib.hid hp
  have HR := Lib.hid hr
  clear hp hr
  go_wp2_with fail
  refine (cut_any v2 v2.heap.size A n c X (p : Int) ((p : Int) + (r : Int)) HX.out (Nat.le_refl _) hnc (by omega)).mono ?_
  rintro e v3 ⟨A3, m3, c3, rfl, hm3, hc3, hx3, hb3⟩
  have hz3 := hb3.size
  have HX3 := Lib.hid hx3
  obtain ⟨E1, hE1⟩ : ∃ E1, cutE n (p : Int) ((p : Int) + (r : Int)) = E1 := ⟨_, rfl⟩
  have hEb := cutE_bd n (p : Int) ((p : Int) + (r : Int))
  rw [hE1] at hEb
  rw [hE1]
  have HE1 := Lib.hid hE1
  clear hE1 hx3
  go_wp2_with fail
  refine (refCut_any v3 v2.heap.size A n c X (p : Int) ((p : Int) + (r : Int)) (HX.out.below hb3) hnc (by omega)).mono ?_
  rintro e v4 ⟨A4, m4, c4, rfl, hm4, hc4, hx4, hb4⟩
  have hz4 := hb4.size
  rw [HE1.out]
  have HX4 := Lib.hid hx4
  clear hx4
  generalize cutL X (p : Int) ((p : Int) + (r : Int)) = Q at *
  have B4 : Below w.heap.size w v4 := (B2.trans (hb3.mono (by omega))).trans (hb4.mono (by omega))
  go_wp2_with fail
  refine (cut_any v4 w.heap.size a0 len0 cap0 P fr to (HA.out.below B4) (by omega) hl0 (by omega)).mono ?_
  rintro e v5 ⟨A5, m5, c5, rfl, hm5, hc5, hx5, hb5⟩
  have hz5 := hb5.size
  have HX5 := Lib.hid hx5
  obtain ⟨E2, hE2⟩ : ∃ E2, cutE len0 fr to = E2 := ⟨_, rfl⟩
  have hFb := cutE_bd len0 fr to
  rw [hE2] at hFb
  rw [hE2]
  have HE2 := Lib.hid hE2
  clear hE2 hx5
  have B5 : Below w.heap.size w v5 := B4.trans (hb5.mono (by omega))
  go_wp2_with fail
  refine (refCut_any v5 w.heap.size a0 len0 cap0 P fr to (HA.out.below B5) hl0 (by omega)).mono ?_
  rintro e v6 ⟨A6, m6, c6, rfl, hm6, hc6, hx6, hb6⟩
  have hz6 := hb6.size
  rw [HE2.out]
  have HX6 := Lib.hid hx6
  clear hx6
  generalize cutL P fr to = U at *
  have B6 : Below w.heap.size w v6 := B5.trans (hb6.mono (by omega))
  obtain ⟨hEb0, hEb1⟩ := hEb
  obtain ⟨hFb0, hFb1⟩ := hFb
  have hA6 := Lib.hid (HA.out.below B6)
  have hB6 := Lib.hid (HB.out.below B6)
  have hX6 := Lib.hid ((((HX.out.below hb3).below (hb4.mono hz3)).below (hb5.mono (by omega))).below (hb6.mono (by omega)))
  have hP6 := Lib.hid (((HX3.out.below hb4).below (hb5.mono hz4)).below (hb6.mono (by omega)))
  have hQ6 := Lib.hid ((HX4.out.below hb5).below (hb6.mono hz5))
  have hU6 := Lib.hid (HX5.out.below hb6)
  have hV6 := HX6
  clear HX3 HX4 HX5
  obtain ⟨F1, hF1⟩ : ∃ F1, findL P R fr.toNat = F1 := ⟨_, rfl⟩
  obtain ⟨F2, hF2⟩ : ∃ F2, findL X Q (k % 5 - 2).toNat = F2 := ⟨_, rfl⟩
  have HF1 := Lib.hid hF1
  have HF2 := Lib.hid hF2
  clear hF1 hF2
  go_wp2_with fail
  refine (find_is v6 w.heap.size w.heap.size a0 a1 len0 cap0 len1 cap1 P R fr hf1 hA6.out hB6.out (by unfold maxLen; omega) (by unfold maxLen; omega) F1 HF1.out).mono ?_
  rintro e w' ⟨rfl, rfl⟩
  go_wp2_with fail
  refine (refFind_is v6 w.heap.size w.heap.size a0 a1 len0 cap0 len1 cap1 P R fr hf1 hA6.out hB6.out (by omega) (by unfold maxLen; omega) hl0 F1 HF1.out).mono ?_
  rintro e w' ⟨rfl, d1, rfl⟩
  go_wp2_with fail
  refine (find_is (v6.drewN d1) v2.heap.size v4.heap.size A A4 n c m4 c4 X Q (k % 5 - 2) (by omega) (hX6.out.drewN d1) (hQ6.out.drewN d1) (by unfold maxLen; omega) (by unfold maxLen; omega) F2 HF2.out).mono ?_
  rintro e w' ⟨rfl, rfl⟩
  go_wp2_with fail
  refine (refFind_is (v6.drewN d1) v2.heap.size v4.heap.size A A4 n c m4 c4 X Q (k % 5 - 2) (by omega) (hX6.out.drewN d1) (hQ6.out.drewN d1) (by omega) (by unfold maxLen; omega) hnc F2 HF2.out).mono ?_
  rintro e w' ⟨rfl, d2, rfl⟩
  go_wp2_with fail
  refine (same_yes (v6.drewN (d1 + d2)) v3.heap.size v4.heap.size A3 A4 m3 c3 m4 c4 Q Q rfl (hP6.out.drewN (d1 + d2)) (hQ6.out.drewN (d1 + d2)) (by unfold maxLen; omega) (by unfold maxLen; omega)).mono ?_
  rintro e w' ⟨rfl, d3, rfl⟩
  go_wp2_with fail
  refine (same_yes (v6.drewN (d1 + d2 + d3)) v5.heap.size v6.heap.size A5 A6 m5 c5 m6 c6 U U rfl (hU6.out.drewN (d1 + d2 + d3)) (hV6.out.drewN (d1 + d2 + d3)) (by unfold maxLen; omega) (by unfold maxLen; omega)).mono ?_
  rintro e w' ⟨rfl, d4, rfl⟩
  go_wp2
  go_ret
  exact ⟨rfl, by first | exact below_drewN B6 _ | exact below_drewN (below_drewN B6 _) _⟩
end Go.Proofs.YtkijkkhjlfllnaaDoor.C
