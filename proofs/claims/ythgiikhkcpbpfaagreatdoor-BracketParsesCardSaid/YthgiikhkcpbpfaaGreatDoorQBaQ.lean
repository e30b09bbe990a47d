/-
  Lengths of a set without texts, at one cell. Condition: what countedAs answers.
-/
import Derived.Test.YthgiikhkcpbpfaaGreatDoorQBaO
namespace Go.Proofs.YthgiikhkcpbpfaaGreatDoor.C
open Go.RowKit

set_option maxRecDepth 100000 in
set_option maxHeartbeats 1000000 in
theorem texts0_any (w : World) (AT Al p : Option Addr) (cT nl cl : Nat) :
  Calls Tryz.prog 21 #[.slice AT 0 cT, .slice Al nl cl, .pointer p] w fun e w' => e = .returned (.slice none 0 0) ∧ w' = w := by
 go_enter Tryz.func21, Tryz.ntmps21
 go_wp2
 go_step3
 go_wp2
 go_step3
 go_wp2
 go_loopw [7, 14] (fun a iv wr => a = .slice none 0 0 ∧ iv = .int .i64 0 ∧ wr = w) (fun _ _ _ => 0)
 case atStart => exact ⟨rfl, rfl, rfl⟩
 case round =>
  obtain ⟨rfl, rfl, rfl⟩ := hrel
  go_wp2
  first | go_ret | (rw [Exit.noGoto_ret]; go_ret)
  exact ⟨rfl, rfl⟩
def lenN (b : Bool) : Nat := if b then 1 else 0
set_option maxRecDepth 100000 in
set_option maxHeartbeats 800000 in
theorem lens1_any (w : World) (no : Bool) (vR : Value) (rs : List (Int × Int)) (AT Al p : Option Addr) (cT cl B lo : Nat) (x : Int) (ks : List Int) (X : Nat → Prop) (Ψ : World → Prop) (d : Bool)
  (hr : w.ownsRow lo 46 2 vR rs.length (prsC rs)) (hrX : ∀ g, vR.ownBlock = some g → ¬ X g) (hX : ∀ g, X g → g < w.heap.size) (hl : RI .i32 w B Al 1 [x]) (hB : B ≤ w.heap.size) (hcl : 1 ≤ cl) (hlX : ∀ ad, Al = some ad → ¬ X ad.block) (hk : ks.length ≤ 1000) (hn : rs.length ≤ maxLen)
  (hΨ : ∀ W W', Ψ W → Below W.heap.size W W' → Ψ W') (hd : ((ks.any fun c => rs.any (inB c)) != no) = d)
  (hC : ∀ W, Below w.heap.size w W → Calls Tryz.prog 26 #[.int .i32 x, .pointer p] W fun e W' => (∃ A c, e = .returned (.slice A ks.length c) ∧ RI .i32 W' W'.heap.size A ks.length ks) ∧ Ψ W' ∧ Fr W W' X) :
  Calls Tryz.prog 10 #[.agg #[.bool no, vR, .slice AT 0 cT], .slice Al 1 cl, .int .i64 0, .pointer p] w fun e w' => (∃ A c, e = .returned (.slice A (lenN d) c) ∧ (d = true → ∃ ad, A = some ad ∧ w.heap.size ≤ ad.block ∧ w'.cell? ad = some (.int .i64 1))) ∧ Ψ w' ∧ Fr w w' X := by
 have hmf : ∀ (fn : Fn) (first cap : Array Value) (w : World), (Instr.makeFunc fn first cap).run Tryz.prog w = .ok (.func fn first cap) w := fun _ _ _ _ => rfl
 obtain ⟨i0, hi, hz0, hz1, hz2⟩ := info_parts infoInt8
 obtain ⟨AR, cR, rfl⟩ := row_form hr
 obtain ⟨ad, rfl, hbl, hcx⟩ := hl.2 (by omega)
 have d0 : w.cell? ad = some (.int .i32 x) := by have := hcx 0 x rfl; rwa [Addr.add_zero'] at this
 obtain ⟨P, hP⟩ : ∃ P, P = w.heap.size := ⟨_, rfl⟩
 obtain ⟨w1, hw1⟩ : ∃ w1, w1 = w.alloc (.cells #[.bool no, .slice AR rs.length cR, .slice AT 0 cT] 34) := ⟨_, rfl⟩
 have hb1 : Below w.heap.size w w1 := by rw [hw1]; exact below_new _ _
 have hz : BrkZ w1 P (.bool no) (.slice AR rs.length cR) (.slice AT 0 cT) := by rw [hw1, hP]; exact heap_alloc_new w _
 have HR := Lib.hid (own_next hr hb1)
 have HRX := Lib.hid hrX
 have HX := Lib.hid hX
 have HLX := Lib.hid (hlX ad rfl)
 have HΨ := Lib.hid hΨ
 have HD := Lib.hid hd
 have HB1 := Lib.hid hb1
 have HZ := Lib.hid hz
 have HP := Lib.hid hP
 have HN := Lib.hid hn
 have e0 : w1.cell? ad = some (.int .i32 x) := (hb1.cell (p := ad) (by omega)).trans d0
 have hadl : ad.block < w.heap.size := by omega
 obtain ⟨wd, hwd⟩ : ∃ wd, wd = w1.drew := ⟨_, rfl⟩
 have HBD : Hid (Below w.heap.size w wd ∧ Below w1.heap.size w1 wd) := Lib.hid (by rw [hwd]; exact ⟨below_drew hb1, below_drew (Below.refl _ _)⟩)
 have HC := Lib.hid hC
 have HTX := Lib.hid (fun A' n' c' => texts0_any wd AT A' p cT n' c')
 have HE0 := Lib.hid e0
 clear hr hrX hX hl hlX hΨ hd hC hn hb1 hz hcx d0 e0 hP
 go_enter Tryz.func10, Tryz.ntmps10
 go_wp2
 rw [← hw1, ← HP.out]
 refine wp_region_held (S := fun W => W.cell? ⟨P, 2, none⟩ = some (.slice AT 0 cT)) (by kernel_rfl) ?_
 change wpAnyH _ _ _ _ _ _ _ _ w1.drew
 rw [← hwd]
 have hS1 : (fun W : World => W.cell? ⟨P, 2, none⟩ = some (.slice AT 0 cT)) wd := by rw [hwd]; exact HZ.out.cells.2.2
 have HWD := Lib.hid hwd
 clear hw1 hwd
 iterate 4 (refine wpH rfl rfl ?_; try simp only [Act.put, g1, g2, g3, g4, g5, g6])
 have hc0 : ¬ cl = 0 := by omega
 have hc1 : (1 : Int) ≤ (cl : Int) := by omega
 refine wpHn 5 rfl ?_
 try simp only [Act.put, g1, g2, g3, g4, g5, g6]
 refine wpAnyH_one (i := 4) (by kernel_rfl) rfl (fun K hK => ?_)
 simp only [g4, g5, g6]
 go_simp
 refine hK.out _ _ hS1 (fun hS => ?_)
 clear hK hS
 try simp only [Act.put, g1, g2, g3, g4, g5, g6]
 refine wpAnyH_one (i := 6) (by kernel_rfl) rfl (fun K hK => ?_)
 simp only [g4, g5, g6]
 go_simp
 go_at_call 21
 refine (HTX.out _ _ _).mono ?_
 rintro e w' ⟨rfl, rfl⟩
 refine hK.out _ _ hS1 (fun hS => ?_)
 clear hK hS
 try simp only [Act.put, g1, g2, g3, g4, g5, g6]
 iterate 1 (refine wpH rfl rfl ?_; try simp only [Act.put, g1, g2, g3, g4, g5, g6])
 refine wpAnyH_done (by kernel_rfl) ?_ _
 clear hS1
 have HZD : Hid (BrkZ w' P (.bool no) (.slice AR rs.length cR) (.slice AT 0 cT)) := Lib.hid (by rw [HWD.out]; exact HZ.out)
 have HRD : Hid (w'.ownsRow lo 46 2 (.slice AR rs.length cR) rs.length (prsC rs)) := Lib.hid (own_next HR.out HBD.out.2)
 have HDD : Hid (w'.cell? ad = some (.int .i32 x)) := Lib.hid (by rw [HWD.out]; exact HE0.out)
 clear HWD
 go_wp2
 refine wp_region_held (S := fun W => W.cell? ad = some (.int .i32 x) ∧ W.cell? ⟨P, 0, none⟩ = some (.bool no)) (by kernel_rfl) ?_
 change wpAnyH _ _ _ _ _ _ _ _ w'.drew
 have hS1 : (fun W : World => W.cell? ad = some (.int .i32 x) ∧ W.cell? ⟨P, 0, none⟩ = some (.bool no)) w'.drew := ⟨HDD.out, HZD.out.cells.1⟩
 iterate 5 (refine wpH rfl rfl ?_; try simp only [Act.put, g1, g2, g3, g4, g5, g6])
 refine wpHn 6 rfl ?_
 try simp only [Act.put, g1, g2, g3, g4, g5, g6]
 refine wpHn 8 rfl ?_
 try simp only [Act.put, g1, g2, g3, g4, g5, g6]
 refine wpHn 9 rfl ?_
 try simp only [Act.put, g1, g2, g3, g4, g5, g6]
 clear hS1
 have hcw := HC.out w'.drew (below_drew HBD.out.1)
 refine wpAnyH_one (i := 5) (by kernel_rfl) rfl (fun K hK => ?_)
 simp only [g4, g5, g6]
 go_simp
 go_at_call 26
 refine hcw.mono ?_
 rintro e w3 ⟨⟨A3, c3, rfl, hri⟩, hψ, hf3⟩
 have hzl := HZD.out.lt
 have hPX : ¬ X P := fun h => by have := HX.out P h; have := HP.out; omega
 have HZ3 : Hid (BrkZ w3 P (.bool no) (.slice AR rs.length cR) (.slice AT 0 cT)) := Lib.hid ((hf3.block P hzl hPX).trans HZD.out)
 have HD3 : Hid (w3.cell? ad = some (.int .i32 x)) := Lib.hid ((World.cell?_of_block (hf3.block ad.block (World.block_lt_of_cell? _ _ HDD.out) HLX.out)).trans HDD.out)
 have HR3 : Hid (w3.ownsRow lo 46 2 (.slice AR rs.length cR) rs.length (prsC rs)) := Lib.hid (ownsRow_fr (w := w'.drew) HRD.out hf3 HRX.out)
 have HRI := Lib.hid hri
 have HY3 := Lib.hid hψ
 have HF3 : Hid (Fr w w3 X) := Lib.hid ((Fr.of_below (below_drew HBD.out.1)).trans hf3)
 have hS3 : (fun W : World => W.cell? ad = some (.int .i32 x) ∧ W.cell? ⟨P, 0, none⟩ = some (.bool no)) w3 := ⟨HD3.out, HZ3.out.cells.1⟩
 have hct := hasC_any w3 w3.heap.size P w3.heap.size _ A3 ks.length c3 ks rs hri (Nat.le_refl _) hk (PrsR.of HR3.out) HN.out (Nat.le_refl _) HZ3.out.cells.2.1
 obtain ⟨b, hb⟩ : ∃ b, b = ks.any (fun c => rs.any (inB c)) := ⟨_, rfl⟩
 rw [← hb] at hct
 have HBB := Lib.hid hb
 clear hcw hri hψ hf3 hzl hPX hb
 refine hK.out _ _ hS3 (fun hS => ?_)
 clear hK hS hS3
 try simp only [Act.put, g1, g2, g3, g4, g5, g6]
 refine wpAnyH_one (i := 7) (by kernel_rfl) rfl (fun K hK => ?_)
 simp only [g4, g5, g6]
 go_simp
 go_at_call 25
 refine hct.mono ?_
 rintro e w4 ⟨rfl, hb4⟩
 have HB4 := Lib.hid hb4
 have hS4 : (fun W : World => W.cell? ad = some (.int .i32 x) ∧ W.cell? ⟨P, 0, none⟩ = some (.bool no)) w4 := ⟨below_cell hb4 HD3.out, below_cell hb4 HZ3.out.cells.1⟩
 have HDB : Hid ((b != no) = d) := Lib.hid (by rw [HBB.out]; exact HD.out)
 have hF4 : Fr w w4 X := HF3.out.trans (.of_below hb4)
 have hY4 : Ψ w4 := HΨ.out _ _ HY3.out hb4
 have HE4 := Lib.hid (And.intro hY4 hF4)
 clear hct hb4 hF4 hY4
 refine hK.out _ _ hS4 (fun hS => ?_)
 clear hK hS
 try simp only [Act.put, g1, g2, g3, g4, g5, g6]
 iterate 1 (refine wpH rfl rfl ?_; try simp only [Act.put, g1, g2, g3, g4, g5, g6])
 refine wpAnyH_done (by kernel_rfl) ?_ _
 cases b <;> cases no
 ·obtain rfl : d = false := by rw [← HDB.out]; rfl
  have hfa := falling_small w4 none 0 0 (by omega)
  go_wp2_with fail
  refine hfa.mono ?_
  rintro e w' ⟨rfl, rfl⟩
  clear hfa
  go_wp2
  go_ret
  exact ⟨⟨_, _, rfl, fun h => absurd h (by decide)⟩, HE4.out⟩
 ·obtain rfl : d = true := by rw [← HDB.out]; rfl
  obtain ⟨w5, hw5⟩ : ∃ w5, w5 = w4.alloc (.cells #[.int .i64 1] 3) := ⟨_, rfl⟩
  have hb5 : Below w4.heap.size w4 w5 := by rw [hw5]; exact below_new _ _
  have hs5 : w5.heap.size = w4.heap.size + 1 := by rw [hw5]; simp
  have hnew := one_newK w4 (.int .i64 1) 3
  rw [← hw5] at hnew
  have HNEW := Lib.hid hnew
  have HB5 := Lib.hid hb5
  have HS5 := Lib.hid hs5
  clear hnew hb5 hs5
  go_wp2_with (at_builtin; rw [← hw5]; clear hw5; refine wpList_append_lies _ rfl _ _ 40 rfl w5.heap.size 3 i0 (.int .i64 0) 1 8 Tryz.underlying40 hi hz0 hz1 hz2 rfl (by decide) (.slice none 0 0) 0 [] rfl (World.ownsRow_nil _ _ _ _) ⟨w4.heap.size, 0, none⟩ 1 1 [.int .i64 1] rfl rfl HNEW.out (by intro u hu; simp at hu; subst hu; rfl) (by omega) (by unfold maxLen; omega) (by omega) (Nat.le_refl _) w5.heap.size rfl ?_; intro g cap w6 hown6 hgr6 hat6 hlt6; have HO6 := Lib.hid hown6; have HG6 := Lib.hid hgr6; clear hown6 hgr6 hat6; have hfa := falling_small w6 (some ⟨g, 0, none⟩) cap 1 (by omega))
  refine hfa.mono ?_
  rintro e w' ⟨rfl, rfl⟩
  clear hfa
  have hb6 : Below w5.heap.size w5 w' := ⟨HG6.out.os, HG6.out.tape, HG6.out.output, HG6.out.size, fun j hj => HG6.out.block j hj (by simp [Value.ownBlock])⟩
  have hc6 : w'.cell? ⟨g, 0, none⟩ = some (.int .i64 1) := by
   have := HO6.out.cells (g := g) rfl 0 _ (by rfl)
   rwa [Addr.add_zero'] at this
  have hge6 : w.heap.size ≤ g := by have := own_ge HO6.out (g := g) rfl; have := HE4.out.2.size; have := HS5.out; omega
  have HE6 : Hid (Ψ w' ∧ Fr w w' X ∧ w.heap.size ≤ g ∧ w'.cell? ⟨g, 0, none⟩ = some (.int .i64 1)) := Lib.hid ⟨HΨ.out _ _ (HΨ.out _ _ HE4.out.1 HB5.out) hb6, (HE4.out.2.trans (.of_below HB5.out)).trans (.of_below hb6), hge6, hc6⟩
  clear hb6 hc6 hge6
  go_wp2
  go_ret
  exact ⟨⟨_, ⟨_, rfl⟩, _, rfl, HE6.out.2.2.1, HE6.out.2.2.2⟩, HE6.out.1, HE6.out.2.1⟩
 ·obtain rfl : d = true := by rw [← HDB.out]; rfl
  obtain ⟨w5, hw5⟩ : ∃ w5, w5 = w4.alloc (.cells #[.int .i64 1] 3) := ⟨_, rfl⟩
  have hb5 : Below w4.heap.size w4 w5 := by rw [hw5]; exact below_new _ _
  have hs5 : w5.heap.size = w4.heap.size + 1 := by rw [hw5]; simp
  have hnew := one_newK w4 (.int .i64 1) 3
  rw [← hw5] at hnew
  have HNEW := Lib.hid hnew
  have HB5 := Lib.hid hb5
  have HS5 := Lib.hid hs5
  clear hnew hb5 hs5
  go_wp2_with (at_builtin; rw [← hw5]; clear hw5; refine wpList_append_lies _ rfl _ _ 40 rfl w5.heap.size 3 i0 (.int .i64 0) 1 8 Tryz.underlying40 hi hz0 hz1 hz2 rfl (by decide) (.slice none 0 0) 0 [] rfl (World.ownsRow_nil _ _ _ _) ⟨w4.heap.size, 0, none⟩ 1 1 [.int .i64 1] rfl rfl HNEW.out (by intro u hu; simp at hu; subst hu; rfl) (by omega) (by unfold maxLen; omega) (by omega) (Nat.le_refl _) w5.heap.size rfl ?_; intro g cap w6 hown6 hgr6 hat6 hlt6; have HO6 := Lib.hid hown6; have HG6 := Lib.hid hgr6; clear hown6 hgr6 hat6; have hfa := falling_small w6 (some ⟨g, 0, none⟩) cap 1 (by omega))
  refine hfa.mono ?_
  rintro e w' ⟨rfl, rfl⟩
  clear hfa
  have hb6 : Below w5.heap.size w5 w' := ⟨HG6.out.os, HG6.out.tape, HG6.out.output, HG6.out.size, fun j hj => HG6.out.block j hj (by simp [Value.ownBlock])⟩
  have hc6 : w'.cell? ⟨g, 0, none⟩ = some (.int .i64 1) := by
   have := HO6.out.cells (g := g) rfl 0 _ (by rfl)
   rwa [Addr.add_zero'] at this
  have hge6 : w.heap.size ≤ g := by have := own_ge HO6.out (g := g) rfl; have := HE4.out.2.size; have := HS5.out; omega
  have HE6 : Hid (Ψ w' ∧ Fr w w' X ∧ w.heap.size ≤ g ∧ w'.cell? ⟨g, 0, none⟩ = some (.int .i64 1)) := Lib.hid ⟨HΨ.out _ _ (HΨ.out _ _ HE4.out.1 HB5.out) hb6, (HE4.out.2.trans (.of_below HB5.out)).trans (.of_below hb6), hge6, hc6⟩
  clear hb6 hc6 hge6
  go_wp2
  go_ret
  exact ⟨⟨_, ⟨_, rfl⟩, _, rfl, HE6.out.2.2.1, HE6.out.2.2.2⟩, HE6.out.1, HE6.out.2.1⟩
 ·obtain rfl : d = false := by rw [← HDB.out]; rfl
  have hfa := falling_small w4 none 0 0 (by omega)
  go_wp2_with fail
  refine hfa.mono ?_
  rintro e w' ⟨rfl, rfl⟩
  clear hfa
  go_wp2
  go_ret
  exact ⟨⟨_, _, rfl, fun h => absurd h (by decide)⟩, HE4.out⟩
end Go.Proofs.YthgiikhkcpbpfaaGreatDoor.C
