/-
  Lengths without a table of a set with texts, where the first cell is in a range. Condition: no more than three texts are begun with, and they differ.
-/
import Derived.Test.YthgiikhkcpbpfaaGreatDoorQBaZ
namespace Go.Proofs.YthgiikhkcpbpfaaGreatDoor.C
open Go.RowKit

set_option maxRecDepth 100000 in
set_option maxHeartbeats 1000000 in
theorem lensOut_any (w : World) (no : Bool) (AR AT Al p : Option Addr) (nR cR nT cT nl cl : Nat) (at_ : Int) (h : at_ < 0 ∨ (nl : Int) ≤ at_) :
  Calls Tryz.prog 10 #[.agg #[.bool no, .slice AR nR cR, .slice AT nT cT], .slice Al nl cl, .int .i64 at_, .pointer p] w fun e w' => e = .returned (.slice none 0 0) ∧ Below w.heap.size w w' := by
 obtain ⟨w1, hw1⟩ : ∃ w1, w1 = w.alloc (.cells #[.bool no, .slice AR nR cR, .slice AT nT cT] 34) := ⟨_, rfl⟩
 have hb1 : Below w.heap.size w w1 := by rw [hw1]; exact below_new _ _
 have HB := Lib.hid hb1
 clear hb1
 go_enter Tryz.func10, Tryz.ntmps10
 by_cases h1 : at_ < 0
 ·go_wp2
  rw [← hw1]
  go_ret
  exact ⟨rfl, HB.out⟩
 ·have h2 : (nl : Int) ≤ at_ := by omega
  go_wp2
  rw [← hw1]
  go_ret
  exact ⟨rfl, HB.out⟩
set_option maxRecDepth 100000 in
set_option maxHeartbeats 1000000 in
theorem lensM_any (w : World) (vR : Value) (rs : List (Int × Int)) (AT Al : Option Addr) (cT nl cl B lo : Nat) (x : Int) (ls ys : List Int) (ts : List (List Int))
  (hr : w.ownsRow lo 46 2 vR rs.length (prsC rs)) (ht : RowsR w B AT ts) (hl : RI .i32 w B Al nl ls) (hB : B ≤ w.heap.size) (hcl : nl ≤ cl) (hnl : 0 < nl) (hnm : nl ≤ 100000) (hx : ls[0]? = some x) (hn : ts.length ≤ 3) (hd : rs.any (inB x) = true) (hp : (txL ts ls ++ [1]).Perm ys) (hup : ys.Pairwise (· < ·)) :
  Calls Tryz.prog 10 #[.agg #[.bool false, vR, .slice AT ts.length cT], .slice Al nl cl, .int .i64 0, .pointer none] w fun e w' => (∃ g c rest, e = .returned (.slice (some ⟨g, 0, none⟩) ys.length c) ∧ w.heap.size ≤ g ∧ Row w' g 3 (celJ ys.reverse ++ rest)) ∧ Below w.heap.size w w' := by
 have hmf : ∀ (fn : Fn) (first cap : Array Value) (w : World), (Instr.makeFunc fn first cap).run Tryz.prog w = .ok (.func fn first cap) w := fun _ _ _ _ => rfl
 obtain ⟨i0, hi, hz0, hz1, hz2⟩ := info_parts infoInt8
 obtain ⟨AR, cR, rfl⟩ := row_form hr
 obtain ⟨ad, rfl, hbl, hcx⟩ := hl.2 hnl
 have d0 : w.cell? ad = some (.int .i32 x) := by have := hcx 0 x hx; rwa [Addr.add_zero'] at this
 obtain ⟨P, hP⟩ : ∃ P, P = w.heap.size := ⟨_, rfl⟩
 obtain ⟨w1, hw1⟩ : ∃ w1, w1 = w.alloc (.cells #[.bool false, .slice AR rs.length cR, .slice AT ts.length cT] 34) := ⟨_, rfl⟩
 have hb1 : Below w.heap.size w w1 := by rw [hw1]; exact below_new _ _
 have hz : BrkZ w1 P (.bool false) (.slice AR rs.length cR) (.slice AT ts.length cT) := by rw [hw1, hP]; exact heap_alloc_new w _
 have HR := Lib.hid (own_next hr hb1)
 have HD := Lib.hid hd
 have HB1 := Lib.hid hb1
 have HZ := Lib.hid hz
 have HP := Lib.hid hP
 have HPE := Lib.hid hp
 have HUP := Lib.hid hup
 have HN : Hid (rs.length ≤ maxLen) := Lib.hid (own_len hr)
 have e0 : w1.cell? ad = some (.int .i32 x) := (hb1.cell (p := ad) (by omega)).trans d0
 obtain ⟨wd, hwd⟩ : ∃ wd, wd = w1.drew := ⟨_, rfl⟩
 have HBD : Hid (Below w.heap.size w wd ∧ Below w1.heap.size w1 wd) := Lib.hid (by rw [hwd]; exact ⟨below_drew hb1, below_drew (Below.refl _ _)⟩)
 have HTX := Lib.hid (textsN_any wd AT cT ts (some ad) nl cl B ls (ht.on HBD.out.1 hB) (hl.below (HBD.out.1.mono hB)) (by have := HBD.out.1.size; omega) (by omega) hnm)
 have HE0 := Lib.hid e0
 have HZX : Hid (BrkZ wd P (.bool false) (.slice AR rs.length cR) (.slice AT ts.length cT) ∧ wd.cell? ad = some (.int .i32 x)) := Lib.hid (by rw [hwd]; exact ⟨hz, e0⟩)
 clear hr hl hd hb1 hz hcx d0 e0 hP ht hx hp hup
 go_enter Tryz.func10, Tryz.ntmps10
 have hnl2 : ¬ (nl : Int) ≤ 0 := by omega
 go_wp2
 rw [← hw1, ← HP.out]
 refine wp_region_held (S := fun W => W.cell? ⟨P, 2, none⟩ = some (.slice AT ts.length cT)) (by kernel_rfl) ?_
 change wpAnyH _ _ _ _ _ _ _ _ w1.drew
 rw [← hwd]
 have hS1 : (fun W : World => W.cell? ⟨P, 2, none⟩ = some (.slice AT ts.length cT)) wd := by rw [hwd]; exact HZ.out.cells.2.2
 have HWD := Lib.hid hwd
 clear hw1 hwd
 iterate 4 (refine wpH rfl rfl ?_; try simp only [Act.put, g1, g2, g3, g4, g5, g6])
 have hc0 : ¬ cl = 0 := by omega
 have hc1 : (nl : Int) ≤ (cl : Int) := by omega
 refine wpHn 5 rfl ?_
 try simp only [Act.put, g1, g2, g3, g4, g5, g6]
 refine wpAnyH_one (i := 4) (by kernel_rfl) rfl (fun K hK => ?_)
 simp only [g4, g5, g6]
 go_simp
 refine hK.out _ _ hS1 (fun hS => ?_)
 clear hK hS
 try simp only [Act.put, g1, g2, g3, g4, g5, g6]
 refine wpAnyH_one (i := 6) (by kernel_rfl) rfl (fun K hK => ?_)
 simp only [g4, g5, g6]
 go_simp
 go_at_call 21
 refine HTX.out.mono ?_
 rintro e w2 ⟨v, rfl, ho2, hb2⟩
 obtain ⟨A2, c2, rfl⟩ := row_form ho2
 have HO2 := Lib.hid ho2
 have HB2 : Hid (Below w.heap.size w w2) := Lib.hid (HBD.out.1.trans (hb2.mono HBD.out.1.size))
 have HZ2 : Hid (BrkZ w2 P (.bool false) (.slice AR rs.length cR) (.slice AT ts.length cT)) := Lib.hid ((hb2.block _ HZX.out.1.lt).trans HZX.out.1)
 have HD2 : Hid (w2.cell? ad = some (.int .i32 x)) := Lib.hid (below_cell hb2 HZX.out.2)
 have HR2 : Hid (w2.ownsRow lo 46 2 (.slice AR rs.length cR) rs.length (prsC rs)) := Lib.hid (own_next (own_next HR.out HBD.out.2) hb2)
 have hS2 : (fun W : World => W.cell? ⟨P, 2, none⟩ = some (.slice AT ts.length cT)) w2 := HZ2.out.cells.2.2
 have HWS : Hid (w.heap.size ≤ wd.heap.size ∧ wd.heap.size ≤ w2.heap.size) := Lib.hid ⟨HBD.out.1.size, hb2.size⟩
 clear ho2 hb2 hS1 HTX HWD HBD HZX HR HZ HE0 HB1
 refine hK.out _ _ hS2 (fun hS => ?_)
 clear hK hS
 try simp only [Act.put, g1, g2, g3, g4, g5, g6]
 iterate 1 (refine wpH rfl rfl ?_; try simp only [Act.put, g1, g2, g3, g4, g5, g6])
 refine wpAnyH_done (by kernel_rfl) ?_ _
 clear hS2
 go_wp2
 refine wp_region_held (S := fun W => W.cell? ad = some (.int .i32 x) ∧ W.cell? ⟨P, 0, none⟩ = some (.bool false)) (by kernel_rfl) ?_
 change wpAnyH _ _ _ _ _ _ _ _ w2.drew
 have hS1 : (fun W : World => W.cell? ad = some (.int .i32 x) ∧ W.cell? ⟨P, 0, none⟩ = some (.bool false)) w2.drew := ⟨HD2.out, HZ2.out.cells.1⟩
 iterate 5 (refine wpH rfl rfl ?_; try simp only [Act.put, g1, g2, g3, g4, g5, g6])
 refine wpHn 6 rfl ?_
 try simp only [Act.put, g1, g2, g3, g4, g5, g6]
 refine wpHn 8 rfl ?_
 try simp only [Act.put, g1, g2, g3, g4, g5, g6]
 refine wpHn 9 rfl ?_
 try simp only [Act.put, g1, g2, g3, g4, g5, g6]
 clear hS1
 have hcw := counted_nil w2.drew x
 have HB2D : Hid (Below w2.heap.size w2 w2.drew) := Lib.hid (below_drew (Below.refl _ _))
 refine wpAnyH_one (i := 5) (by kernel_rfl) rfl (fun K hK => ?_)
 simp only [g4, g5, g6]
 go_simp
 go_at_call 26
 refine hcw.mono ?_
 rintro e w3 ⟨⟨A3, c3, rfl, hri⟩, hb3⟩
 have HB3 : Hid (Below w2.heap.size w2 w3) := Lib.hid (HB2D.out.trans (hb3.mono HB2D.out.size))
 have HZ3 : Hid (BrkZ w3 P (.bool false) (.slice AR rs.length cR) (.slice AT ts.length cT)) := Lib.hid ((HB3.out.block _ HZ2.out.lt).trans HZ2.out)
 have HD3 : Hid (w3.cell? ad = some (.int .i32 x)) := Lib.hid (below_cell HB3.out HD2.out)
 have HR3 : Hid (w3.ownsRow lo 46 2 (.slice AR rs.length cR) rs.length (prsC rs)) := Lib.hid (own_next HR2.out HB3.out)
 have hS3 : (fun W : World => W.cell? ad = some (.int .i32 x) ∧ W.cell? ⟨P, 0, none⟩ = some (.bool false)) w3 := ⟨HD3.out, HZ3.out.cells.1⟩
 have hct := hasC_any w3 w3.heap.size P w3.heap.size _ A3 1 c3 [x] rs hri (Nat.le_refl _) (by simp) (PrsR.of HR3.out) HN.out (Nat.le_refl _) HZ3.out.cells.2.1
 have hone : ([x].any fun c => rs.any (inB c)) = true := by simpa using HD.out
 rw [hone] at hct
 clear hcw hri hb3 hone
 refine hK.out _ _ hS3 (fun hS => ?_)
 clear hK hS hS3
 try simp only [Act.put, g1, g2, g3, g4, g5, g6]
 refine wpAnyH_one (i := 7) (by kernel_rfl) rfl (fun K hK => ?_)
 simp only [g4, g5, g6]
 go_simp
 go_at_call 25
 refine hct.mono ?_
 rintro e w4 ⟨rfl, hb4⟩
 have HB4 : Hid (Below w2.heap.size w2 w4) := Lib.hid (HB3.out.trans (hb4.mono HB3.out.size))
 have hS4 : (fun W : World => W.cell? ad = some (.int .i32 x) ∧ W.cell? ⟨P, 0, none⟩ = some (.bool false)) w4 := ⟨below_cell hb4 HD3.out, below_cell hb4 HZ3.out.cells.1⟩
 clear hct hb4
 refine hK.out _ _ hS4 (fun hS => ?_)
 clear hK hS
 try simp only [Act.put, g1, g2, g3, g4, g5, g6]
 iterate 1 (refine wpH rfl rfl ?_; try simp only [Act.put, g1, g2, g3, g4, g5, g6])
 refine wpAnyH_done (by kernel_rfl) ?_ _
 clear hS4
 have HO4 : Hid (w4.ownsRow wd.heap.size 3 1 (.slice A2 (txL ts ls).length c2) (txL ts ls).length (celJ (txL ts ls))) := Lib.hid (own_next HO2.out HB4.out)
 have HBW : Hid (Below w.heap.size w w4) := Lib.hid (HB2.out.trans (HB4.out.mono HB2.out.size))
 have HLE : Hid ((txL ts ls).length ≤ 3) := Lib.hid (by have := txL_len ts ls; omega)
 have hle := HLE.out
 have hw4 : wd.heap.size ≤ w4.heap.size := by have := HWS.out; have := HB4.out.size; omega
 go_wp2_with (at_builtin; (refine wpList_append_own _ rfl _ _ 40 rfl wd.heap.size 3 i0 (.int .i64 0) 1 8 Tryz.underlying40 hi hz0 hz1 hz2 rfl (by decide) _ _ _ rfl (HO4.out.alloc _) _ 1 1 [.int .i64 1] rfl rfl (cell_one_new _ _ _) (by intro u hu; simp at hu; subst hu; rfl) (by unfold maxLen; omega) (by omega) (by simp; omega) ?_); intro v' w5 hown' hgrow _; have HO5 := Lib.hid hown'; have HG5 := Lib.hid hgrow; clear hown' hgrow)
 have ho5 : w5.ownsRow wd.heap.size 3 1 v' ((txL ts ls).length + 1) (celJ (txL ts ls ++ [1])) := by simpa [celJ] using HO5.out
 have hyl : ys.length = (txL ts ls).length + 1 := by rw [← HPE.out.length_eq]; simp
 have hfa := fallingJ_any w5 wd.heap.size _ v' (txL ts ls ++ [1]) ys ho5 (by simp) (by omega) (by omega) HPE.out HUP.out
 rw [← hyl] at hfa
 have HB5 : Hid (Below w.heap.size w w5) := Lib.hid ((HBW.out.alloc HBW.out.size _).grown HG5.out (by have := HBW.out.size; simp; omega) (fun j hj => by have := (HO4.out.lt j hj).1; have := HWS.out; omega))
 clear ho5 hyl HO5 HG5 hle
 go_wp2_with fail
 refine hfa.mono ?_
 rintro e w6 ⟨g, c, rfl, hg, ⟨rest, hr6⟩, hf6⟩
 have HE : Hid (w.heap.size ≤ g ∧ Row w6 g 3 (celJ ys.reverse ++ rest) ∧ Below w.heap.size w w6) := Lib.hid ⟨by have := HWS.out; omega, hr6, HB5.out.trans (hf6.below (by rintro j _ rfl; have := HWS.out; omega) HB5.out.size)⟩
 clear hfa hg hr6 hf6
 go_wp2
 go_ret
 exact ⟨⟨g, c, rest, rfl, HE.out.1, HE.out.2.1⟩, HE.out.2.2⟩
end Go.Proofs.YthgiikhkcpbpfaaGreatDoor.C
