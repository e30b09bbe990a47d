/-
  The walk of the law CellCuts: it returns true for all choices, where the library's table stands as it was laid; nothing that was there changes.
-/
import Derived.Test.YtkijkkhjlfllnaaDoorWCellOrder
import Derived.OpenShut
namespace Go.Proofs.YtkijkkhjlfllnaaDoor.C
open Go.RowKit

theorem cut_front (w : World) (Bx : Nat) (Ax : Option Addr) (n cx : Nat) (xs : List Int) (b : Nat) (hx : RI .i32 w Bx Ax n xs) (hBx : Bx ≤ w.heap.size) (hn : n ≤ cx) (hcx : n * 4 ≤ 140737488355328) (hbn : b ≤ n) :
    Calls Tryd.prog 16 #[.slice Ax n cx, .int .i64 0, .int .i64 b] w fun e w' => e = .returned (.tuple #[.slice (some ⟨w.heap.size, 0, none⟩) b b, .int .u16 0]) ∧
      w'.ownsRow w.heap.size 33 1 (.slice (some ⟨w.heap.size, 0, none⟩) b b) b ((xs.take b).map (Value.int .i32)) ∧ Below w.heap.size w w' :=
  cut_yes w Bx Ax n cx xs 0 b hx hBx hn hcx (Nat.zero_le _) hbn

set_option maxHeartbeats 4000000 in
theorem cellCutsWalk (a0 : Option Addr) (len0 cap0 : Nat) (z0 : List Int) (k : Int) (w : World)
    (hT : w.cell? ⟨2, 15, none⟩ = some (.int .u8 4)) (w0 : L.IsRow .u8 w a0 len0 cap0 z0) (wk : (Lit.int .u8 k).wf = true) :
    Calls Tryd.prog 4 #[.slice a0 len0 cap0, .int .u8 k] w fun e w' => e = .returned (.bool true) ∧ Below w.heap.size w w' := by
  obtain ⟨i0, hi, hz0, hz1, hz2⟩ := info_parts info33
  have hTB := World.block_lt_of_cell? w _ hT
  have HT := Lib.hid hT
  have W0 := Lib.hid w0
  obtain ⟨hk0, hk1⟩ := bounds_u8 wk
  clear hT w0 wk
  go_enter Tryd.func4, Tryd.ntmps4
  go_wp2_with fail
  refine (cells_row w w a0 len0 cap0 z0 W0.out (Below.refl _ _)).mono ?_
  rintro e v1 ⟨A, n, c, rfl, hnc, hn60, hx, hb1⟩
  have HX := Lib.hid hx
  have hs1 := hb1.size
  obtain ⟨X, hX⟩ : ∃ X, X = cellsL (z0.take len0) := ⟨_, rfl⟩
  rw [← hX] at HX
  have HXX := Lib.hid hX
  clear hx hX
  obtain ⟨p, hp⟩ : ∃ p : Nat, p = k.toNat % (n + 1) := ⟨_, rfl⟩
  have hpn : p ≤ n := by have := Nat.mod_lt k.toNat (show 0 < n + 1 by omega); omega
  have hpk : k % ((n : Int) + 1) = (p : Int) := by
    rw [hp]
    have : k = ((k.toNat : Nat) : Int) := by omega
    rw [this, Int.toNat_natCast]
    rfl
  have HP := Lib.hid hp
  clear hp
  go_wp2_with fail
  refine (cut_front v1 v1.heap.size A n c X p HX.out (Nat.le_refl _) hnc (by omega) hpn).mono ?_
  rintro e v2 ⟨rfl, hown2, hb2⟩
  have HO2 := Lib.hid hown2
  have hs2 := hb2.size
  clear hown2
  go_wp2_with fail
  refine (cut_yes v2 v1.heap.size A n c X p n (HX.out.below hb2) hs2 hnc (by omega) hpn (Nat.le_refl _)).mono ?_
  rintro e v3 ⟨rfl, hown3, hb3⟩
  have hs3 := hb3.size
  have ha3 := (RI.of_own HO2.out).below hb3
  have hb3r := RI.of_own hown3
  have htd : (X.drop p).take (n - p) = X.drop p := List.take_of_length_le (by rw [List.length_drop, HX.out.len]; exact Nat.le_refl _)
  rw [htd] at hb3r
  have HA3 := Lib.hid (ha3.more hs3)
  have HB3 := Lib.hid hb3r
  have HX3 := Lib.hid ((((HX.out).below hb2).below (hb3.mono hs2)))
  have HO3 := Lib.hid (own_keep HO2.out hb3)
  clear hown3 ha3 hb3r htd HO2
  have t1 : ((p : Int) != (p : Int)) = false := by simp
  have t2 : (((n - p : Nat) : Int) != (n : Int) - (p : Int)) = false := by
    have : ((n - p : Nat) : Int) = (n : Int) - (p : Int) := by omega
    rw [this]; simp
  go_wp2_with (first | (at_builtin; (refine wpList_append_ri _ rfl (.tmp 48) (.tmp 49) 23 rfl v3.heap.size 33 i0 (.int .i32 0) 4 Tryd.underlying23 hi hz0 hz1 hz2 rfl _ 0 [] rfl (World.ownsRow_nil _ _ _ _) .i32 v3.heap.size _ p p (X.take p) rfl HA3.out (by unfold maxLen; omega) (by omega) (by first | exact Nat.le_refl _ | exact hb4.size) ?_); intro u4 v4 hown' hgrow; have hb4 : Below v3.heap.size v3 v4 := (Below.refl _ _).grown hgrow (Nat.le_refl _) (fun k hk => by cases hk); have HO4 := Lib.hid hown'; clear hown' hgrow) | (at_builtin; (refine wpList_append_ri _ rfl (.tmp 51) (.tmp 52) 23 rfl v3.heap.size 33 i0 (.int .i32 0) 4 Tryd.underlying23 hi hz0 hz1 hz2 rfl _ (0 + p) _ rfl HO4.out .i32 v3.heap.size _ (n - p) (n - p) (X.drop p) rfl (HB3.out.below hb4) (by unfold maxLen; omega) (by omega) (by first | exact Nat.le_refl _ | exact hb4.size) ?_); intro u5 v5 hown' hgrow; have hb5 : Below v3.heap.size v3 v5 := hb4.grown hgrow hb4.size (fun k hk => (HO4.out.lt k hk).1); have HO5 := Lib.hid hown'; clear hown' hgrow))
  have hO : v5.ownsRow v3.heap.size 33 1 u5 (p + (n - p)) ((X.take p ++ X.drop p).map (Value.int .i32)) := by simpa using HO5.out
  rw [List.take_append_drop] at hO
  obtain ⟨AB, cB, rfl, hBc, hB5⟩ := own_slice hO
  have HB5 := Lib.hid hB5
  have hs5 := hb5.size
  have hX5 := Lib.hid (HX3.out.below (hb5.mono (by omega)))
  have hb15 : Below w.heap.size w v5 := ((hb1.trans (hb2.mono hs1)).trans (hb3.mono (by omega))).trans (hb5.mono (by omega))
  have HO5a := Lib.hid (own_keep HO3.out hb5)
  have HT5 := Lib.hid ((hb15.cell (p := ⟨2, 15, none⟩) hTB).trans HT.out)
  clear hB5 hO HO5 HO4
  refine (same_yes v5 v5.heap.size v1.heap.size AB A (p + (n - p)) cB n c X X rfl HB5.out hX5.out (by unfold maxLen; omega) (by unfold maxLen; omega)).mono ?_
  rintro e w' ⟨rfl, dq, rfl⟩
  have HBD := Lib.hid (below_drewN hb15 dq)
  by_cases hp0 : 0 < p
  · obtain ⟨y0, hc0⟩ : ∃ y0, (v5.drewN dq).cell? ⟨v1.heap.size, 0, none⟩ = some y0 := by
      have hl : 0 < ((X.take p).map (Value.int .i32)).length := by have := HX.out.len; simp; omega
      exact ⟨_, (HO5a.out.cellAt 0 (by omega)).trans (List.getElem?_eq_getElem hl)⟩
    have hf0 : (v5.drewN dq).frozen? ⟨v1.heap.size, 0, none⟩ = false := HO5a.out.frozenAt 0
    have HBL := Lib.hid (HBD.out.setCell (p := ⟨v1.heap.size, 0, none⟩) hs1 (.int .i32 (-7)))
    have HL6 := Lib.hid ((hX5.out.drewN dq).setCell (p := ⟨v1.heap.size, 0, none⟩) (Nat.le_refl _) (.int .i32 (-7)))
    have HS6 : Hid (v1.heap.size ≤ ((v5.drewN dq).setCell ⟨v1.heap.size, 0, none⟩ (.int .i32 (-7))).heap.size) := by
      show v1.heap.size ≤ _
      simp [World.setCell]
      show v1.heap.size ≤ v5.heap.size
      omega
    have HT6 := Lib.hid ((HBL.out.cell (p := ⟨2, 15, none⟩) hTB).trans HT.out)
    go_wp2_with fail
    refine (known_any _ HT6.out).mono ?_
    rintro e v7 ⟨rfl, hb7⟩
    have hb17 := HBL.out.trans (hb7.mono (by have := HBL.out.size; omega))
    have hl7 := Lib.hid ((HL6.out).below (hb7.mono (by have := HS6.out; omega)))
    go_wp2_with fail
    refine (cells_row v7 w a0 len0 cap0 z0 W0.out hb17).mono ?_
    rintro e v8 ⟨A8, n8, c8, rfl, hnc8, hn608, hx8, hb8⟩
    rw [← HXX.out] at hx8
    have HX8 := Lib.hid hx8
    have HL8 := Lib.hid (hl7.out.below (hb8.mono (by have := HS6.out; have := hb7.size; omega)))
    clear hx8
    go_wp2_with fail
    refine (same_yes v8 v1.heap.size v8.heap.size A A8 n c n8 c8 X X rfl HL8.out HX8.out (by unfold maxLen; omega) (by unfold maxLen; omega)).mono ?_
    rintro e w' ⟨rfl, dq2, rfl⟩
    go_wp2
    go_ret
    exact ⟨rfl, below_drewN (hb17.trans (hb8.mono hb17.size)) _⟩
  · have hp1 : p = 0 := by omega
    subst hp1
    have HBL := HBD
    have HL6 := Lib.hid (hX5.out.drewN dq)
    have HS6 : Hid (v1.heap.size ≤ (v5.drewN dq).heap.size) := by
      show v1.heap.size ≤ v5.heap.size
      omega
    have HT6 := Lib.hid ((HBL.out.cell (p := ⟨2, 15, none⟩) hTB).trans HT.out)
    go_wp2_with fail
    refine (known_any _ HT6.out).mono ?_
    rintro e v7 ⟨rfl, hb7⟩
    have hb17 := HBL.out.trans (hb7.mono (by have := HBL.out.size; omega))
    have hl7 := Lib.hid ((HL6.out).below (hb7.mono (by have := HS6.out; omega)))
    go_wp2_with fail
    refine (cells_row v7 w a0 len0 cap0 z0 W0.out hb17).mono ?_
    rintro e v8 ⟨A8, n8, c8, rfl, hnc8, hn608, hx8, hb8⟩
    rw [← HXX.out] at hx8
    have HX8 := Lib.hid hx8
    have HL8 := Lib.hid (hl7.out.below (hb8.mono (by have := HS6.out; have := hb7.size; omega)))
    clear hx8
    go_wp2_with fail
    refine (same_yes v8 v1.heap.size v8.heap.size A A8 n c n8 c8 X X rfl HL8.out HX8.out (by unfold maxLen; omega) (by unfold maxLen; omega)).mono ?_
    rintro e w' ⟨rfl, dq2, rfl⟩
    go_wp2
    go_ret
    exact ⟨rfl, below_drewN (hb17.trans (hb8.mono hb17.size)) _⟩
end Go.Proofs.YtkijkkhjlfllnaaDoor.C
