/-
  The statements' own generator Cells: of bytes it makes at most 60 cells, in new memory; nothing that was there changes.
-/
import Derived.Test.YtlecioifjdmmmaaLnM
namespace Go.Proofs.Ytlecioifjdmmmaa.C
open Go.RowKit



theorem cell_one_new2 (w : World) (o : Obj) (x : Value) (t : TypeId) : ∀ j u, [x][j]? = some u → ((w.alloc o).alloc (.cells #[x] t)).cell? ((⟨w.heap.size + 1, 0, none⟩ : Addr).add j) = some u := by
  have h := cell_one_new (w.alloc o) x t
  have e : (w.alloc o).heap.size = w.heap.size + 1 := by simp
  rw [e] at h
  exact h

/-- the cell of a choice -/
def cellOf (k : Int) : Int :=
  if k < 150 then 97 + k % 4
  else if k < 180 then 65 + k % 4
  else if k < 200 then 10
  else if k < 215 then ([32, 48, 55, 59, 45, 92, 47] : List Int).getD (k % 7).toNat 0
  else if k < 235 then ([233, 8364, 128512, 127, 9] : List Int).getD (k % 5).toNat 0
  else -1 - (128 + k % 128)
def cellsL (zs : List Int) : List Int := (zs.take 60).map cellOf
theorem cellsL_len (zs : List Int) : (cellsL zs).length ≤ 60 := by simp [cellsL]; omega

/-- so far these -/
theorem cells_more {w wr w3 : World} {v v' : Value} {zs : List Int} {i : Nat} {k c : Int} {o : Obj} {e : TypeId} (hb : Below w.heap.size w wr) (hown : wr.ownsRow w.heap.size e 1 v i (((zs.take i).map cellOf).map (Value.int .i32))) (hk : zs[i]? = some k) (hc : cellOf k = c)
    (ho : w3.ownsRow w.heap.size e 1 v' (i + 1) (((zs.take i).map cellOf).map (Value.int .i32) ++ [.int .i32 c])) (hg : (wr.alloc o).grownBy w3 v.ownBlock) :
    w3.ownsRow w.heap.size e 1 v' (i + 1) (((zs.take (i + 1)).map cellOf).map (Value.int .i32)) ∧ Below w.heap.size w w3 := by
  refine ⟨?_, ((hb.alloc hb.size o).grown hg (by have := hb.size; simp; omega) (fun j hj => (hown.lt j hj).1))⟩
  rw [take_snoc hk]
  simpa [hc] using ho
/-- so far these, where a row of choices was laid first -/
theorem cells_more2 {w wr w3 : World} {v v' : Value} {zs : List Int} {i : Nat} {k c : Int} {o o2 : Obj} {e : TypeId} (hb : Below w.heap.size w wr) (hown : wr.ownsRow w.heap.size e 1 v i (((zs.take i).map cellOf).map (Value.int .i32))) (hk : zs[i]? = some k) (hc : cellOf k = c)
    (ho : w3.ownsRow w.heap.size e 1 v' (i + 1) (((zs.take i).map cellOf).map (Value.int .i32) ++ [.int .i32 c])) (hg : ((wr.alloc o2).alloc o).grownBy w3 v.ownBlock) :
    w3.ownsRow w.heap.size e 1 v' (i + 1) (((zs.take (i + 1)).map cellOf).map (Value.int .i32)) ∧ Below w.heap.size w w3 := by
  have hb2 : Below w.heap.size w (wr.alloc o2) := hb.alloc hb.size o2
  exact cells_more hb2 (hown.alloc o2) hk hc ho hg

set_option maxRecDepth 100000 in
set_option maxHeartbeats 4000000 in
theorem cells_any (w : World) (Bx : Nat) (Ax : Option Addr) (n cx : Nat) (zs : List Int) (hx : RI .u8 w Bx Ax n zs) (hBx : Bx ≤ w.heap.size) (hn : n ≤ maxLen) (hz : ∀ z ∈ zs, 0 ≤ z ∧ z ≤ 255) :
    Calls Try.prog 8 #[.slice Ax n cx] w fun e w' => ∃ v, e = .returned v ∧ w'.ownsRow w.heap.size 25 1 v (cellsL zs).length ((cellsL zs).map (Value.int .i32)) ∧ Below w.heap.size w w' := by
  unfold maxLen at hn
  obtain ⟨i0, hi, hz0, hz1, hz2⟩ := info_parts info33
  have HX := Lib.hid hx
  have HZ := Lib.hid hz
  clear hx hz
  go_enter Try.func8, Try.ntmps8
  go_wp2
  go_loopw [3, 4] (fun v iv wr => ∃ i : Nat, i ≤ n ∧ i ≤ 60 ∧ iv = .int .i64 i ∧ Hid (wr.ownsRow w.heap.size 25 1 v i (((zs.take i).map cellOf).map (Value.int .i32))) ∧ Below w.heap.size w wr) (fun _ iv _ => 60 - (intOf iv).toNat)
  case atStart => exact ⟨0, by omega, by omega, rfl, World.ownsRow_nil _ _ _ _, Below.refl _ _⟩
  case round =>
    obtain ⟨i, hin, hi60, rfl, HW, hb⟩ := hrel
    have hsz := hb.size
    by_cases hlt : i < n ∧ i < 60
    · obtain ⟨h1, h2⟩ := hlt
      obtain ⟨ad, k, rfl, hbl, hk, hcell⟩ := HX.out.at_ h1
      have hcr : wr.cell? (ad.add i) = some (.int .u8 k) := (hb.cell (p := ad.add i) (by rw [block_of_add]; omega)).trans hcell
      obtain ⟨k0, k1⟩ := HZ.out k (List.mem_of_getElem? hk)
      have HK := Lib.hid hk
      clear hk hcell
      by_cases c1 : k < 150
      · have hcv : cellOf k = 97 + k % 4 := by unfold cellOf; rw [if_pos c1]
        have HCV := Lib.hid hcv
        clear hcv
        go_wp2_with (at_builtin; (refine wpList_append_own _ rfl _ _ 23 rfl w.heap.size 25 i0 (.int .i32 0) 1 4 Try.underlying23 hi hz0 hz1 hz2 rfl (by decide) _ _ _ rfl (HW.out.alloc _) _ 1 1 [.int .i32 (97 + k % 4)] rfl rfl (cell_one_new _ _ _) (by intro u hu; simp at hu; subst hu; rfl) (by unfold maxLen; omega) (by omega) (by simp; omega) ?_); intro v' w3 hown' hgrow _; have HO3 := Lib.hid hown'; have HG3 := Lib.hid hgrow; clear hown' hgrow)
        go_roundw
        case rel => exact ⟨i + 1, by omega, by omega, by go_num, (cells_more hb HW.out HK.out HCV.out HO3.out HG3.out).1, (cells_more hb HW.out HK.out HCV.out HO3.out HG3.out).2⟩
        case measure => simp [intOf]; omega
      by_cases c2 : k < 180
      · have hcv : cellOf k = 65 + k % 4 := by unfold cellOf; rw [if_neg c1, if_pos c2]
        have HCV := Lib.hid hcv
        clear hcv
        go_wp2_with (at_builtin; (refine wpList_append_own _ rfl _ _ 23 rfl w.heap.size 25 i0 (.int .i32 0) 1 4 Try.underlying23 hi hz0 hz1 hz2 rfl (by decide) _ _ _ rfl (HW.out.alloc _) _ 1 1 [.int .i32 (65 + k % 4)] rfl rfl (cell_one_new _ _ _) (by intro u hu; simp at hu; subst hu; rfl) (by unfold maxLen; omega) (by omega) (by simp; omega) ?_); intro v' w3 hown' hgrow _; have HO3 := Lib.hid hown'; have HG3 := Lib.hid hgrow; clear hown' hgrow)
        go_roundw
        case rel => exact ⟨i + 1, by omega, by omega, by go_num, (cells_more hb HW.out HK.out HCV.out HO3.out HG3.out).1, (cells_more hb HW.out HK.out HCV.out HO3.out HG3.out).2⟩
        case measure => simp [intOf]; omega
      by_cases c3 : k < 200
      · have hcv : cellOf k = 10 := by unfold cellOf; rw [if_neg c1, if_neg c2, if_pos c3]
        have HCV := Lib.hid hcv
        clear hcv
        go_wp2_with (at_builtin; (refine wpList_append_own _ rfl _ _ 23 rfl w.heap.size 25 i0 (.int .i32 0) 1 4 Try.underlying23 hi hz0 hz1 hz2 rfl (by decide) _ _ _ rfl (HW.out.alloc _) _ 1 1 [.int .i32 (10)] rfl rfl (cell_one_new _ _ _) (by intro u hu; simp at hu; subst hu; rfl) (by unfold maxLen; omega) (by omega) (by simp; omega) ?_); intro v' w3 hown' hgrow _; have HO3 := Lib.hid hown'; have HG3 := Lib.hid hgrow; clear hown' hgrow)
        go_roundw
        case rel => exact ⟨i + 1, by omega, by omega, by go_num, (cells_more hb HW.out HK.out HCV.out HO3.out HG3.out).1, (cells_more hb HW.out HK.out HCV.out HO3.out HG3.out).2⟩
        case measure => simp [intOf]; omega
      by_cases c4 : k < 215
      · have hm : k % 7 = 0 ∨ k % 7 = 1 ∨ k % 7 = 2 ∨ k % 7 = 3 ∨ k % 7 = 4 ∨ k % 7 = 5 ∨ k % 7 = 6 := by omega
        rcases hm with hm | hm | hm | hm | hm | hm | hm
        · have hcv : cellOf k = 32 := by unfold cellOf; rw [if_neg c1, if_neg c2, if_neg c3, if_pos c4, hm]; rfl
          have HCV := Lib.hid hcv
          clear hcv
          go_wp2_with (at_builtin; (refine wpList_append_own _ rfl _ _ 23 rfl w.heap.size 25 i0 (.int .i32 0) 1 4 Try.underlying23 hi hz0 hz1 hz2 rfl (by decide) _ _ _ rfl ((HW.out.alloc _).alloc _) _ 1 1 [.int .i32 (32)] rfl rfl (cell_one_new2 _ _ _ _) (by intro u hu; simp at hu; subst hu; rfl) (by unfold maxLen; omega) (by omega) (by simp; omega) ?_); intro v' w3 hown' hgrow _; have HO3 := Lib.hid hown'; have HG3 := Lib.hid hgrow; clear hown' hgrow)
          go_roundw
          case rel => exact ⟨i + 1, by omega, by omega, by go_num, (cells_more2 hb HW.out HK.out HCV.out HO3.out HG3.out).1, (cells_more2 hb HW.out HK.out HCV.out HO3.out HG3.out).2⟩
          case measure => simp [intOf]; omega
        · have hcv : cellOf k = 48 := by unfold cellOf; rw [if_neg c1, if_neg c2, if_neg c3, if_pos c4, hm]; rfl
          have HCV := Lib.hid hcv
          clear hcv
          go_wp2_with (at_builtin; (refine wpList_append_own _ rfl _ _ 23 rfl w.heap.size 25 i0 (.int .i32 0) 1 4 Try.underlying23 hi hz0 hz1 hz2 rfl (by decide) _ _ _ rfl ((HW.out.alloc _).alloc _) _ 1 1 [.int .i32 (48)] rfl rfl (cell_one_new2 _ _ _ _) (by intro u hu; simp at hu; subst hu; rfl) (by unfold maxLen; omega) (by omega) (by simp; omega) ?_); intro v' w3 hown' hgrow _; have HO3 := Lib.hid hown'; have HG3 := Lib.hid hgrow; clear hown' hgrow)
          go_roundw
          case rel => exact ⟨i + 1, by omega, by omega, by go_num, (cells_more2 hb HW.out HK.out HCV.out HO3.out HG3.out).1, (cells_more2 hb HW.out HK.out HCV.out HO3.out HG3.out).2⟩
          case measure => simp [intOf]; omega
        · have hcv : cellOf k = 55 := by unfold cellOf; rw [if_neg c1, if_neg c2, if_neg c3, if_pos c4, hm]; rfl
          have HCV := Lib.hid hcv
          clear hcv
          go_wp2_with (at_builtin; (refine wpList_append_own _ rfl _ _ 23 rfl w.heap.size 25 i0 (.int .i32 0) 1 4 Try.underlying23 hi hz0 hz1 hz2 rfl (by decide) _ _ _ rfl ((HW.out.alloc _).alloc _) _ 1 1 [.int .i32 (55)] rfl rfl (cell_one_new2 _ _ _ _) (by intro u hu; simp at hu; subst hu; rfl) (by unfold maxLen; omega) (by omega) (by simp; omega) ?_); intro v' w3 hown' hgrow _; have HO3 := Lib.hid hown'; have HG3 := Lib.hid hgrow; clear hown' hgrow)
          go_roundw
          case rel => exact ⟨i + 1, by omega, by omega, by go_num, (cells_more2 hb HW.out HK.out HCV.out HO3.out HG3.out).1, (cells_more2 hb HW.out HK.out HCV.out HO3.out HG3.out).2⟩
          case measure => simp [intOf]; omega
        · have hcv : cellOf k = 59 := by unfold cellOf; rw [if_neg c1, if_neg c2, if_neg c3, if_pos c4, hm]; rfl
          have HCV := Lib.hid hcv
          clear hcv
          go_wp2_with (at_builtin; (refine wpList_append_own _ rfl _ _ 23 rfl w.heap.size 25 i0 (.int .i32 0) 1 4 Try.underlying23 hi hz0 hz1 hz2 rfl (by decide) _ _ _ rfl ((HW.out.alloc _).alloc _) _ 1 1 [.int .i32 (59)] rfl rfl (cell_one_new2 _ _ _ _) (by intro u hu; simp at hu; subst hu; rfl) (by unfold maxLen; omega) (by omega) (by simp; omega) ?_); intro v' w3 hown' hgrow _; have HO3 := Lib.hid hown'; have HG3 := Lib.hid hgrow; clear hown' hgrow)
          go_roundw
          case rel => exact ⟨i + 1, by omega, by omega, by go_num, (cells_more2 hb HW.out HK.out HCV.out HO3.out HG3.out).1, (cells_more2 hb HW.out HK.out HCV.out HO3.out HG3.out).2⟩
          case measure => simp [intOf]; omega
        · have hcv : cellOf k = 45 := by unfold cellOf; rw [if_neg c1, if_neg c2, if_neg c3, if_pos c4, hm]; rfl
          have HCV := Lib.hid hcv
          clear hcv
          go_wp2_with (at_builtin; (refine wpList_append_own _ rfl _ _ 23 rfl w.heap.size 25 i0 (.int .i32 0) 1 4 Try.underlying23 hi hz0 hz1 hz2 rfl (by decide) _ _ _ rfl ((HW.out.alloc _).alloc _) _ 1 1 [.int .i32 (45)] rfl rfl (cell_one_new2 _ _ _ _) (by intro u hu; simp at hu; subst hu; rfl) (by unfold maxLen; omega) (by omega) (by simp; omega) ?_); intro v' w3 hown' hgrow _; have HO3 := Lib.hid hown'; have HG3 := Lib.hid hgrow; clear hown' hgrow)
          go_roundw
          case rel => exact ⟨i + 1, by omega, by omega, by go_num, (cells_more2 hb HW.out HK.out HCV.out HO3.out HG3.out).1, (cells_more2 hb HW.out HK.out HCV.out HO3.out HG3.out).2⟩
          case measure => simp [intOf]; omega
        · have hcv : cellOf k = 92 := by unfold cellOf; rw [if_neg c1, if_neg c2, if_neg c3, if_pos c4, hm]; rfl
          have HCV := Lib.hid hcv
          clear hcv
          go_wp2_with (at_builtin; (refine wpList_append_own _ rfl _ _ 23 rfl w.heap.size 25 i0 (.int .i32 0) 1 4 Try.underlying23 hi hz0 hz1 hz2 rfl (by decide) _ _ _ rfl ((HW.out.alloc _).alloc _) _ 1 1 [.int .i32 (92)] rfl rfl (cell_one_new2 _ _ _ _) (by intro u hu; simp at hu; subst hu; rfl) (by unfold maxLen; omega) (by omega) (by simp; omega) ?_); intro v' w3 hown' hgrow _; have HO3 := Lib.hid hown'; have HG3 := Lib.hid hgrow; clear hown' hgrow)
          go_roundw
          case rel => exact ⟨i + 1, by omega, by omega, by go_num, (cells_more2 hb HW.out HK.out HCV.out HO3.out HG3.out).1, (cells_more2 hb HW.out HK.out HCV.out HO3.out HG3.out).2⟩
          case measure => simp [intOf]; omega
        · have hcv : cellOf k = 47 := by unfold cellOf; rw [if_neg c1, if_neg c2, if_neg c3, if_pos c4, hm]; rfl
          have HCV := Lib.hid hcv
          clear hcv
          go_wp2_with (at_builtin; (refine wpList_append_own _ rfl _ _ 23 rfl w.heap.size 25 i0 (.int .i32 0) 1 4 Try.underlying23 hi hz0 hz1 hz2 rfl (by decide) _ _ _ rfl ((HW.out.alloc _).alloc _) _ 1 1 [.int .i32 (47)] rfl rfl (cell_one_new2 _ _ _ _) (by intro u hu; simp at hu; subst hu; rfl) (by unfold maxLen; omega) (by omega) (by simp; omega) ?_); intro v' w3 hown' hgrow _; have HO3 := Lib.hid hown'; have HG3 := Lib.hid hgrow; clear hown' hgrow)
          go_roundw
          case rel => exact ⟨i + 1, by omega, by omega, by go_num, (cells_more2 hb HW.out HK.out HCV.out HO3.out HG3.out).1, (cells_more2 hb HW.out HK.out HCV.out HO3.out HG3.out).2⟩
          case measure => simp [intOf]; omega
      by_cases c5 : k < 235
      · have hm : k % 5 = 0 ∨ k % 5 = 1 ∨ k % 5 = 2 ∨ k % 5 = 3 ∨ k % 5 = 4 := by omega
        rcases hm with hm | hm | hm | hm | hm
        · have hcv : cellOf k = 233 := by unfold cellOf; rw [if_neg c1, if_neg c2, if_neg c3, if_neg c4, if_pos c5, hm]; rfl
          have HCV := Lib.hid hcv
          clear hcv
          go_wp2_with (at_builtin; (refine wpList_append_own _ rfl _ _ 23 rfl w.heap.size 25 i0 (.int .i32 0) 1 4 Try.underlying23 hi hz0 hz1 hz2 rfl (by decide) _ _ _ rfl ((HW.out.alloc _).alloc _) _ 1 1 [.int .i32 (233)] rfl rfl (cell_one_new2 _ _ _ _) (by intro u hu; simp at hu; subst hu; rfl) (by unfold maxLen; omega) (by omega) (by simp; omega) ?_); intro v' w3 hown' hgrow _; have HO3 := Lib.hid hown'; have HG3 := Lib.hid hgrow; clear hown' hgrow)
          go_roundw
          case rel => exact ⟨i + 1, by omega, by omega, by go_num, (cells_more2 hb HW.out HK.out HCV.out HO3.out HG3.out).1, (cells_more2 hb HW.out HK.out HCV.out HO3.out HG3.out).2⟩
          case measure => simp [intOf]; omega
        · have hcv : cellOf k = 8364 := by unfold cellOf; rw [if_neg c1, if_neg c2, if_neg c3, if_neg c4, if_pos c5, hm]; rfl
          have HCV := Lib.hid hcv
          clear hcv
          go_wp2_with (at_builtin; (refine wpList_append_own _ rfl _ _ 23 rfl w.heap.size 25 i0 (.int .i32 0) 1 4 Try.underlying23 hi hz0 hz1 hz2 rfl (by decide) _ _ _ rfl ((HW.out.alloc _).alloc _) _ 1 1 [.int .i32 (8364)] rfl rfl (cell_one_new2 _ _ _ _) (by intro u hu; simp at hu; subst hu; rfl) (by unfold maxLen; omega) (by omega) (by simp; omega) ?_); intro v' w3 hown' hgrow _; have HO3 := Lib.hid hown'; have HG3 := Lib.hid hgrow; clear hown' hgrow)
          go_roundw
          case rel => exact ⟨i + 1, by omega, by omega, by go_num, (cells_more2 hb HW.out HK.out HCV.out HO3.out HG3.out).1, (cells_more2 hb HW.out HK.out HCV.out HO3.out HG3.out).2⟩
          case measure => simp [intOf]; omega
        · have hcv : cellOf k = 128512 := by unfold cellOf; rw [if_neg c1, if_neg c2, if_neg c3, if_neg c4, if_pos c5, hm]; rfl
          have HCV := Lib.hid hcv
          clear hcv
          go_wp2_with (at_builtin; (refine wpList_append_own _ rfl _ _ 23 rfl w.heap.size 25 i0 (.int .i32 0) 1 4 Try.underlying23 hi hz0 hz1 hz2 rfl (by decide) _ _ _ rfl ((HW.out.alloc _).alloc _) _ 1 1 [.int .i32 (128512)] rfl rfl (cell_one_new2 _ _ _ _) (by intro u hu; simp at hu; subst hu; rfl) (by unfold maxLen; omega) (by omega) (by simp; omega) ?_); intro v' w3 hown' hgrow _; have HO3 := Lib.hid hown'; have HG3 := Lib.hid hgrow; clear hown' hgrow)
          go_roundw
          case rel => exact ⟨i + 1, by omega, by omega, by go_num, (cells_more2 hb HW.out HK.out HCV.out HO3.out HG3.out).1, (cells_more2 hb HW.out HK.out HCV.out HO3.out HG3.out).2⟩
          case measure => simp [intOf]; omega
        · have hcv : cellOf k = 127 := by unfold cellOf; rw [if_neg c1, if_neg c2, if_neg c3, if_neg c4, if_pos c5, hm]; rfl
          have HCV := Lib.hid hcv
          clear hcv
          go_wp2_with (at_builtin; (refine wpList_append_own _ rfl _ _ 23 rfl w.heap.size 25 i0 (.int .i32 0) 1 4 Try.underlying23 hi hz0 hz1 hz2 rfl (by decide) _ _ _ rfl ((HW.out.alloc _).alloc _) _ 1 1 [.int .i32 (127)] rfl rfl (cell_one_new2 _ _ _ _) (by intro u hu; simp at hu; subst hu; rfl) (by unfold maxLen; omega) (by omega) (by simp; omega) ?_); intro v' w3 hown' hgrow _; have HO3 := Lib.hid hown'; have HG3 := Lib.hid hgrow; clear hown' hgrow)
          go_roundw
          case rel => exact ⟨i + 1, by omega, by omega, by go_num, (cells_more2 hb HW.out HK.out HCV.out HO3.out HG3.out).1, (cells_more2 hb HW.out HK.out HCV.out HO3.out HG3.out).2⟩
          case measure => simp [intOf]; omega
        · have hcv : cellOf k = 9 := by unfold cellOf; rw [if_neg c1, if_neg c2, if_neg c3, if_neg c4, if_pos c5, hm]; rfl
          have HCV := Lib.hid hcv
          clear hcv
          go_wp2_with (at_builtin; (refine wpList_append_own _ rfl _ _ 23 rfl w.heap.size 25 i0 (.int .i32 0) 1 4 Try.underlying23 hi hz0 hz1 hz2 rfl (by decide) _ _ _ rfl ((HW.out.alloc _).alloc _) _ 1 1 [.int .i32 (9)] rfl rfl (cell_one_new2 _ _ _ _) (by intro u hu; simp at hu; subst hu; rfl) (by unfold maxLen; omega) (by omega) (by simp; omega) ?_); intro v' w3 hown' hgrow _; have HO3 := Lib.hid hown'; have HG3 := Lib.hid hgrow; clear hown' hgrow)
          go_roundw
          case rel => exact ⟨i + 1, by omega, by omega, by go_num, (cells_more2 hb HW.out HK.out HCV.out HO3.out HG3.out).1, (cells_more2 hb HW.out HK.out HCV.out HO3.out HG3.out).2⟩
          case measure => simp [intOf]; omega
      · have hcv : cellOf k = -1 - (128 + k % 128) := by unfold cellOf; rw [if_neg c1, if_neg c2, if_neg c3, if_neg c4, if_neg c5]
        have HCV := Lib.hid hcv
        clear hcv
        go_wp2_with (at_builtin; (refine wpList_append_own _ rfl _ _ 23 rfl w.heap.size 25 i0 (.int .i32 0) 1 4 Try.underlying23 hi hz0 hz1 hz2 rfl (by decide) _ _ _ rfl (HW.out.alloc _) _ 1 1 [.int .i32 (-1 - (128 + k % 128))] rfl rfl (cell_one_new _ _ _) (by intro u hu; simp at hu; subst hu; rfl) (by unfold maxLen; omega) (by omega) (by simp; omega) ?_); intro v' w3 hown' hgrow _; have HO3 := Lib.hid hown'; have HG3 := Lib.hid hgrow; clear hown' hgrow)
        go_roundw
        case rel => exact ⟨i + 1, by omega, by omega, by go_num, (cells_more hb HW.out HK.out HCV.out HO3.out HG3.out).1, (cells_more hb HW.out HK.out HCV.out HO3.out HG3.out).2⟩
        case measure => simp [intOf]; omega
    · have hend : cellsL zs = (zs.take i).map cellOf := by
        unfold cellsL
        have hl := HX.out.len
        rcases Nat.lt_or_ge i 60 with h | h
        · rw [List.take_of_length_le (by omega), List.take_of_length_le (by omega)]
        · rw [show i = 60 by omega]
      have hlen : ((zs.take i).map cellOf).length = i := by have := HX.out.len; simp; omega
      have HE := Lib.hid hend
      have HL := Lib.hid hlen
      clear hend hlen
      by_cases h1 : i < n
      · have h2 : ¬ i < 60 := by omega
        have h3 : decide ((i : Int) < 60) = false := by simp; omega
        go_wp2
        go_ret
        refine ⟨_, rfl, ?_, hb⟩
        rw [HE.out, HL.out]
        exact HW.out
      · have h3 : decide (i < n) = false := by simpa using h1
        go_wp2
        go_ret
        refine ⟨_, rfl, ?_, hb⟩
        rw [HE.out, HL.out]
        exact HW.out
/-- Cells of a slice that came in -/
theorem cells_row (w w0 : World) (a : Option Addr) (len cap : Nat) (zs : List Int) (h : L.IsRow .u8 w0 a len cap zs) (hb : Below w0.heap.size w0 w) :
    Calls Try.prog 8 #[.slice a len cap] w fun e w' => ∃ A n c, e = .returned (.slice A n c) ∧ n ≤ c ∧ n ≤ 60 ∧ RI .i32 w' w'.heap.size A n (cellsL (zs.take len)) ∧ Below w.heap.size w w' := by
  refine (cells_any w w0.heap.size a len cap (zs.take len) ((RI.of_row h).below hb) hb.size (Nat.le_trans (row_len h).1 (row_len h).2) (row_u8 h)).mono ?_
  rintro e w' ⟨v, rfl, hown, hb'⟩
  have hl := cellsL_len (zs.take len)
  rcases Nat.eq_zero_or_pos (cellsL (zs.take len)).length with h0 | h0
  · rcases hown.2 with ⟨rfl, _⟩ | ⟨g, c, cur, rfl, _, _, hc, _⟩
    · exact ⟨none, 0, 0, rfl, Nat.le_refl _, by omega, by rw [List.eq_nil_of_length_eq_zero h0]; exact RI.none_, hb'⟩
    · exact ⟨_, _, c, rfl, hc, hl, RI.of_own hown, hb'⟩
  · obtain ⟨g, c, rfl, _, _⟩ := hown.form h0
    exact ⟨_, _, c, rfl, (own_cap hown).1, hl, RI.of_own hown, hb'⟩
end Go.Proofs.Ytlecioifjdmmmaa.C
