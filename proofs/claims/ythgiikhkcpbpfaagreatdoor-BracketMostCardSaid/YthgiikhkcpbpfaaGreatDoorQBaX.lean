/-
  Numbers are sorted, told once, turned round. Condition: no more than twelve of them.
-/
import Derived.Test.YthgiikhkcpbpfaaGreatDoorQBaT
import Derived.Test.YthgiikhkcpbpfaaGreatDoorB17
import Derived.Test.YthgiikhkcpbpfaaGreatDoorB24
import Derived.Test.YthgiikhkcpbpfaaGreatDoorB27
namespace Go.Proofs.YthgiikhkcpbpfaaGreatDoor.C
open Go.RowKit

def celJ (zs : List Int) : List Value := zs.map (Value.int .i64)
theorem lessJ_any (x y : Int) (w : World) : Calls Tryz.prog 118 #[.int .i64 x, .int .i64 y] w fun e w' => e = .returned (.bool (decide (x < y))) ∧ w' = w := by
 go_enter Tryz.func118, Tryz.ntmps118
 go_wp2
 go_ret
 exact ⟨by simp, rfl⟩
theorem getD_atJ {ys : List Int} {k : Nat} (h : k < ys.length) (rest : List Value) : (celJ ys ++ rest)[k]? = some (.int .i64 (ys.getD k 0)) := by
 rw [List.getElem?_append_left (by simp [celJ]; exact h)]
 unfold celJ
 rw [List.getElem?_map, List.getElem?_eq_getElem h, List.getD_eq_getElem?_getD, List.getElem?_eq_getElem h]
 rfl
theorem row_swpJ {w : World} {g : Nat} {t : TypeId} {ys : List Int} {rest : List Value} {k : Nat} (h : Row w g t (celJ ys ++ rest)) (hk : k + 1 < ys.length) : Row ((w.setCell ⟨g, k + 1, none⟩ (.int .i64 (ys.getD k 0))).setCell ⟨g, k, none⟩ (.int .i64 (ys.getD (k + 1) 0))) g t (celJ (swp ys k) ++ rest) := by
 have h2 := (h.set (k + 1) (.int .i64 (ys.getD k 0))).set k (.int .i64 (ys.getD (k + 1) 0))
 have e : ((celJ ys ++ rest).set (k + 1) (.int .i64 (ys.getD k 0))).set k (.int .i64 (ys.getD (k + 1) 0)) = celJ (swp ys k) ++ rest := by
  rw [List.set_append_left _ _ (by simp [celJ]; exact hk), List.set_append_left _ _ (by simp [celJ]; omega)]
  unfold celJ swp
  rw [List.map_set, List.map_set]
 rwa [e] at h2
theorem own_openJ {w : World} {lo n : Nat} {v : Value} {zs : List Int} {e : TypeId} (h : w.ownsRow lo e 1 v n (celJ zs)) (hn : 0 < n) : ∃ (g cap : Nat) (rest : List Value), v = .slice (some ⟨g, 0, none⟩) n cap ∧ lo ≤ g ∧ Row w g e (celJ zs ++ rest) ∧ n ≤ cap ∧ cap ≤ maxLen ∧ n + rest.length = cap := by
 have hl := h.1
 rcases h.2 with ⟨_, h0⟩ | ⟨g, cap, cur, h1, h2, h3, h4, h5, h6, h7⟩
 ·omega
 ·refine ⟨g, cap, cur.toList.drop (n * 1), h1, h2, ?_, h4, h5, ?_⟩
  ·unfold Row
   rw [h3, ← h7, List.take_append_drop]
  ·rw [List.length_drop, Array.length_toList, h6]
   omega
theorem own_shutJ {w : World} {lo g n cap : Nat} {zs : List Int} {rest : List Value} {e : TypeId} (h : Row w g e (celJ zs ++ rest)) (hg : lo ≤ g) (hl : n ≤ zs.length) (hc : zs.length + rest.length = cap) (hm : cap ≤ maxLen) : w.ownsRow lo e 1 (.slice (some ⟨g, 0, none⟩) n cap) n (celJ (zs.take n)) := by
 refine ⟨by simp [celJ]; omega, .inr ⟨g, cap, _, rfl, hg, h, by omega, hm, by simp [celJ]; omega, ?_⟩⟩
 rw [List.toList_toArray, Nat.mul_one, List.take_append_of_le_length (by simp [celJ]; exact hl)]
 unfold celJ
 rw [List.map_take]
set_option maxRecDepth 100000 in
set_option maxHeartbeats 4000000 in
theorem insertJ_any (w : World) (g c n : Nat) (t : TypeId) (zs : List Int) (rest : List Value) (hr : Row w g t (celJ zs ++ rest)) (hlen : zs.length = n) (hn : n ≤ 12) (h0 : 0 < n) :
  Calls Tryz.prog 112 #[.slice (some ⟨g, 0, none⟩) n c, .int .i64 0, .int .i64 (n : Nat)] w fun e w' => e = .returned (.tuple #[]) ∧ ∃ ys, Row w' g t (celJ ys ++ rest) ∧ ys.Perm zs ∧ ys.Pairwise (· ≤ ·) ∧ Fr w w' (· = g) := by
 have HR := Lib.hid hr
 have HL := Lib.hid hlen
 clear hr hlen
 go_enter Tryz.func112, Tryz.ntmps112
 go_wp2
 go_loopw [6] (fun vi wr => ∃ (i : Nat) (ys : List Int), vi = .int .i64 ((i : Int) + 1) ∧ i + 1 ≤ n ∧ Hid (Row wr g t (celJ ys ++ rest) ∧ ys.Perm zs ∧ Fr w wr (· = g) ∧ UpTo ys i)) (fun vi _ => n - (intOf vi).toNat)
 case atStart => exact ⟨0, zs, by go_num, by omega, Lib.hid ⟨HR.out, List.Perm.refl _, Fr.refl _ _, fun p q h1 h2 => by omega⟩⟩
 case round =>
  obtain ⟨i, ys, rfl, hin, HQ⟩ := hrel
  by_cases hlt : i + 1 < n
  ·have hlt' : (i : Int) + 1 < (n : Int) := by omega
   go_wp2
   go_loopw [7] (fun vj wr2 => ∃ (j : Nat) (yj : List Int), vj = .int .i64 (j : Int) ∧ j ≤ i + 1 ∧ Hid (Row wr2 g t (celJ yj ++ rest) ∧ yj.Perm zs ∧ Fr w wr2 (· = g) ∧ UpBut yj (i + 1) j)) (fun vj _ => (intOf vj).toNat)
   case atStart => exact ⟨i + 1, ys, by go_num, Nat.le_refl _, Lib.hid ⟨HQ.out.1, HQ.out.2.1, HQ.out.2.2.1, upto_next HQ.out.2.2.2⟩⟩
   case round =>
    obtain ⟨j, yj, rfl, hji, HJ⟩ := hrel
    rcases j with _ | k
    ·have HE : Hid (∃ (i' : Nat) (ys : List Int), Value.int .i64 ((i : Int) + 1 + 1) = .int .i64 ((i' : Int) + 1) ∧ i' + 1 ≤ n ∧ Hid (∀ q, Row (wr.drewN q) g t (celJ ys ++ rest) ∧ ys.Perm zs ∧ Fr w (wr.drewN q) (· = g) ∧ UpTo ys i')) := Lib.hid ⟨i + 1, yj, by go_num, by omega, Lib.hid fun q => ⟨HJ.out.1, HJ.out.2.1, HJ.out.2.2.1.drewN q, upto_zero HJ.out.2.2.2⟩⟩
     go_wp2
     go_quiet (first | (go_at_call 118; refine Calls.quiet_of_same (lessJ_any _ _ _)))
     go_wp2
     go_roundw
     case rel =>
      obtain ⟨i', ys', e, h1, h2⟩ := HE.out
      exact ⟨i', ys', e, h1, Lib.hid (h2.out nq)⟩
     case measure => simp [intOf]; omega
    ·have hyl : yj.length = n := by rw [HJ.out.2.1.length_eq, HL.out]
     have c1 : wr.cell? ⟨g, k + 1, none⟩ = some (.int .i64 (yj.getD (k + 1) 0)) := HJ.out.1.cell (getD_atJ (by omega) rest)
     have c0 : wr.cell? ⟨g, k, none⟩ = some (.int .i64 (yj.getD k 0)) := HJ.out.1.cell (getD_atJ (by omega) rest)
     have f1 := HJ.out.1.frozen (k + 1)
     have f0 := HJ.out.1.frozen k
     have HSW : Hid (∀ q, Row (((wr.drewN q).setCell ⟨g, k + 1, none⟩ (.int .i64 (yj.getD k 0))).setCell ⟨g, k, none⟩ (.int .i64 (yj.getD (k + 1) 0))) g t (celJ (swp yj k) ++ rest)) := Lib.hid fun q => row_swpJ (w := wr.drewN q) HJ.out.1 (by omega)
     have HFS : Hid (∀ q, Fr w (((wr.drewN q).setCell ⟨g, k + 1, none⟩ (.int .i64 (yj.getD k 0))).setCell ⟨g, k, none⟩ (.int .i64 (yj.getD (k + 1) 0))) (· = g)) := Lib.hid fun q => ((HJ.out.2.2.1.drewN q).setT _ _).setT _ _
     have HPS : Hid ((swp yj k).Perm zs) := Lib.hid ((swp_perm yj k (by omega)).trans HJ.out.2.1)
     have HUS : Hid (yj.getD (k + 1) 0 < yj.getD k 0 → UpBut (swp yj k) (i + 1) k) := Lib.hid fun h => upbut_swp HJ.out.2.2.2 (by omega) hji h
     have HUT : Hid (¬ yj.getD (k + 1) 0 < yj.getD k 0 → UpTo yj (i + 1)) := Lib.hid fun h => upto_stop HJ.out.2.2.2 hji h
     obtain ⟨x, hx⟩ : ∃ x, x = yj.getD (k + 1) 0 := ⟨_, rfl⟩
     obtain ⟨y, hy⟩ : ∃ y, y = yj.getD k 0 := ⟨_, rfl⟩
     rw [← hx] at c1 HSW HFS HUS HUT
     rw [← hy] at c0 HSW HFS HUS HUT
     have i0 : (0 : Int) ≤ (k : Int) + 1 := by omega
     have i1 : (k : Int) + 1 < (n : Int) := by omega
     have i2 : (0 : Int) ≤ (k : Int) := by omega
     have i3 : (k : Int) < (n : Int) := by omega
     have i4 : (0 : Int) < (k : Int) + 1 := by omega
     clear hx hy hyl
     go_wp2
     go_quiet (first | (go_at_call 118; refine Calls.quiet_of_same (lessJ_any _ _ _)))
     by_cases hxy : x < y
     ·go_wp2
      go_region
      all_goals go_wp2
      go_roundw
      case rel =>
       exact ⟨k, swp yj k, rfl, by omega, Lib.hid ⟨HSW.out _, HPS.out, HFS.out _, HUS.out hxy⟩⟩
      case measure => first | (simp [intOf]; done) | (simp [intOf]; omega)
     ·go_wp2
      go_roundw
      case rel =>
       exact ⟨i + 1, yj, by go_num, by omega, Lib.hid ⟨HJ.out.1, HJ.out.2.1, HJ.out.2.2.1.drewN nq, HUT.out (by omega)⟩⟩
      case measure => simp [intOf]; omega
  ·obtain rfl : i + 1 = n := by omega
   have HE : Hid (∃ ys, Row wr g t (celJ ys ++ rest) ∧ ys.Perm zs ∧ ys.Pairwise (· ≤ ·) ∧ Fr w wr (· = g)) := Lib.hid ⟨ys, HQ.out.1, HQ.out.2.1, upto_sorted HQ.out.2.2.2 (by rw [HQ.out.2.1.length_eq, HL.out]; exact Nat.le_refl _), HQ.out.2.2.1⟩
   go_wp2
   go_end0
   exact ⟨rfl, HE.out⟩
set_option maxRecDepth 100000 in
set_option maxHeartbeats 2000000 in
theorem pdqJ_any (w : World) (g c : Nat) (t : TypeId) (zs : List Int) (rest : List Value) (k : Int) (hr : Row w g t (celJ zs ++ rest)) (n : Nat) (hlen : zs.length = n) (hn : n ≤ 12) (h0 : 0 < n) :
  Calls Tryz.prog 73 #[.slice (some ⟨g, 0, none⟩) n c, .int .i64 0, .int .i64 (n : Int), .int .i64 k] w fun e w' => e = .returned (.tuple #[]) ∧ ∃ ys, Row w' g t (celJ ys ++ rest) ∧ ys.Perm zs ∧ ys.Pairwise (· ≤ ·) ∧ Fr w w' (· = g) := by
 have hi := insertJ_any w g c n t zs rest hr hlen hn h0
 clear hr hlen
 go_enter Tryz.func73, Tryz.ntmps73
 go_wp2
 go_loopw [1, 2] (fun a b wr => a = .int .i64 0 ∧ b = .int .i64 (n : Int) ∧ wr = w) (fun _ _ _ => 0)
 case atStart => exact ⟨rfl, rfl, rfl⟩
 case round =>
  obtain ⟨rfl, rfl, rfl⟩ := hrel
  go_wp2_with (go_at_call 112; refine hi.mono ?_; rintro e w' ⟨rfl, hw⟩)
  first | refine bodyPost_ret (results_none rfl _ _ _) rfl ?_ | (simp only [Exit.inBlock, Exit.then]; refine bodyPost_ret (results_none rfl _ _ _) rfl ?_) | (trace_state; fail)
  exact ⟨rfl, hw⟩
set_option maxRecDepth 100000 in
set_option maxHeartbeats 2000000 in
theorem sortJ_any (w : World) (g c : Nat) (t : TypeId) (zs : List Int) (rest : List Value) (hr : Row w g t (celJ zs ++ rest)) (n : Nat) (hlen : zs.length = n) (hn : n ≤ 4) (h0 : 0 < n) :
  Calls Tryz.prog 46 #[.slice (some ⟨g, 0, none⟩) n c] w fun e w' => e = .returned (.tuple #[]) ∧ ∃ ys, Row w' g t (celJ ys ++ rest) ∧ ys.Perm zs ∧ ys.Pairwise (· ≤ ·) ∧ Fr w w' (· = g) := by
 have hi := fun k => pdqJ_any w g c t zs rest k hr n hlen (by omega) h0
 clear hr hlen
 rcases (by omega : n = 1 ∨ n = 2 ∨ n = 3 ∨ n = 4) with rfl | rfl | rfl | rfl
 all_goals
  go_enter Tryz.func46, Tryz.ntmps46
  go_wp2_with (first | (go_at_call 73; refine (hi _).mono ?_; rintro e w' ⟨rfl, hw⟩) | (go_at_call 74; go_in) | (go_at_call 122; go_in))
  go_end0
  exact ⟨rfl, hw⟩
end Go.Proofs.YthgiikhkcpbpfaaGreatDoor.C
