/-
  Joined: LfG, LfH, LiG. Each with what its own head says.
-/
import Derived.Test.YthaibekbefndlaaGreatDoorZ23

namespace Go.Proofs.YthaibekbefndlaaGreatDoor.C
open Go.RowKit

set_option maxRecDepth 100000 in
set_option maxHeartbeats 4000000 in
theorem pairItem_any (w : World) (B P T Q a b : Nat) (S : List UInt8) (h : PW w B P S T) (hQ : One w Q 96 (.pointer (some ⟨P, 0, none⟩))) (hQP : Q ≠ P) (hS : S.length ≤ 4000) (hT : T ≤ 1000) (hG : ∀ w', Below B w w' → Gl w') (hB : B ≤ w.heap.size) (ha : a ≤ 1114111) (hb : b ≤ 1114111) :
  Calls Tryz.prog 89 #[.agg #[.int .i32 a, .int .i32 b], .pointer (some ⟨Q, 0, none⟩)] w (PutTold w B P (S ++ prtL (pairT ((a : Int), (b : Int)))) (T + (pairT ((a : Int), (b : Int))).length)) := by
 obtain ⟨W, hW⟩ : ∃ W, W = w.alloc (.cells #[.int .i32 a, .int .i32 b] 49) := ⟨_, rfl⟩
 have hbW : Below w.heap.size w W := by rw [hW]; exact (Below.refl _ _).alloc (Nat.le_refl _) _
 have hR : Rw W w.heap.size 49 #[.int .i32 a, .int .i32 b] := by rw [hW]; exact heap_alloc_new w _
 have hQW : One W Q 96 (.pointer (some ⟨P, 0, none⟩)) := (hbW.block _ hQ.lt).trans hQ
 have hP := h.old hbW
 have HP := Lib.hid hP
 have HQ := Lib.hid hQW
 have HR := Lib.hid hR
 have HG := Lib.hid hG
 have HKW := Lib.hid (Kp.of_below (P := P) hbW hB)
 have HBs : Hid (B ≤ W.heap.size) := Lib.hid (Nat.le_trans hB hbW.size)
 have hRP : w.heap.size ≠ P := by have := h.lt; omega
 have q0 := hQW.cell
 have q1 : W.cell? ⟨w.heap.size, 0, none⟩ = some (.int .i32 a) := hR.cell rfl
 have q2 : W.cell? ⟨w.heap.size, 1, none⟩ = some (.int .i32 b) := hR.cell rfl
 have hX : pairT ((a : Int), (b : Int)) = [⟨2, [40], 0, 0⟩, ⟨3, [], a, 0⟩, ⟨2, [44], 0, 0⟩, ⟨3, [], b, 0⟩, ⟨2, [41], 0, 0⟩] := by unfold pairT; rw [tC_nat, tC_nat]; rfl
 obtain ⟨X, hXe⟩ : ∃ X, X = pairT ((a : Int), (b : Int)) := ⟨_, rfl⟩
 rw [← hXe] at hX ⊢
 have HX := Lib.hid hX
 clear h hP hR hQ hQW hG hbW hX hXe
 go_enter Tryz.func89, Tryz.ntmps89
 go_wp2
 rw [← hW]
 refine wp_region_held (S := fun W' : World => W'.cell? ⟨Q, 0, none⟩ = some (.pointer (some ⟨P, 0, none⟩)) ∧ W'.cell? ⟨w.heap.size, 0, none⟩ = some (.int .i32 a) ∧ W'.cell? ⟨w.heap.size, 1, none⟩ = some (.int .i32 b)) (by kernel_rfl) ?_
 change wpAnyH _ _ _ _ _ _ _ _ W.drew
 have hS5 : (fun W' : World => W'.cell? ⟨Q, 0, none⟩ = some (.pointer (some ⟨P, 0, none⟩)) ∧ W'.cell? ⟨w.heap.size, 0, none⟩ = some (.int .i32 a) ∧ W'.cell? ⟨w.heap.size, 1, none⟩ = some (.int .i32 b)) W.drew := ⟨q0, q1, q2⟩
 have HWE := Lib.hid hW
 have hSl := hS
 clear hW q0 q1 q2 hS
 refine wpHn 0 rfl ?_
 try simp only [Act.put, g1, g2, g3, g4, g6]
 refine wpHn 2 rfl ?_
 try simp only [Act.put, g1, g2, g3, g4, g5, g6]
 refine wpHn 3 rfl ?_
 try simp only [Act.put, g1, g2, g3, g4, g5, g6]
 refine wpHn 6 rfl ?_
 try simp only [Act.put, g1, g2, g3, g4, g5, g6]
 refine wpHn 7 rfl ?_
 try simp only [Act.put, g1, g2, g3, g4, g5, g6]
 have hcc := sign_any7 W.drew ⟨#[40]⟩
 refine wpAnyH_one (i := 1) (by kernel_rfl) rfl (fun K hK => ?_)
 simp only [g4, g5, g6]
 go_simp
 go_at_call 86
 with_reducible refine hcc.mono ?_
 rintro e w1 ⟨rfl, hbn⟩
 have hbm : Below W.heap.size W w1 := ⟨hbn.os, hbn.tape, hbn.output, hbn.size, hbn.block⟩
 have hk1 : Kp B P W w1 := Kp.of_below hbm HBs.out
 have hP1 : PW w1 B P S T := HP.out.old hbm
 refine hK.out _ _ ⟨One.cell (hk1.heap HQ.out hQP (by decide)), Rw.cell (hk1.heap HR.out hRP (by decide)) rfl, Rw.cell (hk1.heap HR.out hRP (by decide)) rfl⟩ (fun hSn => ?_)
 clear hcc hbn hbm hS5
 have hS := hSn
 clear hSn
 have hcc := scalar_any7 w1 (a : Int) (by omega) (by omega)
 refine wpAnyH_one (i := 4) (by kernel_rfl) rfl (fun K hK => ?_)
 simp only [g4, g5, g6]
 go_simp
 go_at_call 85
 with_reducible refine hcc.mono ?_
 rintro e w2 ⟨rfl, hbn⟩
 have hbm : Below w1.heap.size w1 w2 := ⟨hbn.os, hbn.tape, hbn.output, hbn.size, hbn.block⟩
 have hk2 : Kp B P W w2 := hk1.trans (Kp.of_below hbm (Nat.le_trans HBs.out hk1.size))
 have hP2 : PW w2 B P S T := hP1.old hbm
 refine hK.out _ _ ⟨One.cell (hk2.heap HQ.out hQP (by decide)), Rw.cell (hk2.heap HR.out hRP (by decide)) rfl, Rw.cell (hk2.heap HR.out hRP (by decide)) rfl⟩ (fun hSn => ?_)
 clear hcc hbn hbm hS hk1 hP1
 have hS := hSn
 clear hSn
 have hcc := sign_any7 w2 ⟨#[44]⟩
 refine wpAnyH_one (i := 5) (by kernel_rfl) rfl (fun K hK => ?_)
 simp only [g4, g5, g6]
 go_simp
 go_at_call 86
 with_reducible refine hcc.mono ?_
 rintro e w3 ⟨rfl, hbn⟩
 have hbm : Below w2.heap.size w2 w3 := ⟨hbn.os, hbn.tape, hbn.output, hbn.size, hbn.block⟩
 have hk3 : Kp B P W w3 := hk2.trans (Kp.of_below hbm (Nat.le_trans HBs.out hk2.size))
 have hP3 : PW w3 B P S T := hP2.old hbm
 refine hK.out _ _ ⟨One.cell (hk3.heap HQ.out hQP (by decide)), Rw.cell (hk3.heap HR.out hRP (by decide)) rfl, Rw.cell (hk3.heap HR.out hRP (by decide)) rfl⟩ (fun hSn => ?_)
 clear hcc hbn hbm hS hk2 hP2
 have hS := hSn
 clear hSn
 have hcc := scalar_any7 w3 (b : Int) (by omega) (by omega)
 refine wpAnyH_one (i := 8) (by kernel_rfl) rfl (fun K hK => ?_)
 simp only [g4, g5, g6]
 go_simp
 go_at_call 85
 with_reducible refine hcc.mono ?_
 rintro e w4 ⟨rfl, hbn⟩
 have hbm : Below w3.heap.size w3 w4 := ⟨hbn.os, hbn.tape, hbn.output, hbn.size, hbn.block⟩
 have hk4 : Kp B P W w4 := hk3.trans (Kp.of_below hbm (Nat.le_trans HBs.out hk3.size))
 have hP4 : PW w4 B P S T := hP3.old hbm
 refine hK.out _ _ ⟨One.cell (hk4.heap HQ.out hQP (by decide)), Rw.cell (hk4.heap HR.out hRP (by decide)) rfl, Rw.cell (hk4.heap HR.out hRP (by decide)) rfl⟩ (fun hSn => ?_)
 clear hcc hbn hbm hS hk3 hP3
 have hS := hSn
 clear hSn
 have hcc := sign_any7 w4 ⟨#[41]⟩
 refine wpAnyH_one (i := 9) (by kernel_rfl) rfl (fun K hK => ?_)
 simp only [g4, g5, g6]
 go_simp
 go_at_call 86
 with_reducible refine hcc.mono ?_
 rintro e w5 ⟨rfl, hbn⟩
 have hbm : Below w4.heap.size w4 w5 := ⟨hbn.os, hbn.tape, hbn.output, hbn.size, hbn.block⟩
 have hk5 : Kp B P W w5 := hk4.trans (Kp.of_below hbm (Nat.le_trans HBs.out hk4.size))
 have hP5 : PW w5 B P S T := hP4.old hbm
 refine hK.out _ _ ⟨One.cell (hk5.heap HQ.out hQP (by decide)), Rw.cell (hk5.heap HR.out hRP (by decide)) rfl, Rw.cell (hk5.heap HR.out hRP (by decide)) rfl⟩ (fun hSn => ?_)
 clear hcc hbn hbm hS hk4 hP4
 have hS := hSn
 clear hSn
 refine wpAnyH_one (i := 10) (by kernel_rfl) rfl (fun K hK => ?_)
 simp only [g4, g5, g6]
 go_simp
 obtain ⟨W6, hW6⟩ : ∃ W6, W6 = w5.alloc (.cells #[.int .u8 2, .string ⟨#[40]⟩, .int .i64 0, .int .i64 0, .int .u8 3, .string ⟨#[]⟩, .int .i64 a, .int .i64 0, .int .u8 2, .string ⟨#[44]⟩, .int .i64 0, .int .i64 0, .int .u8 3, .string ⟨#[]⟩, .int .i64 b, .int .i64 0, .int .u8 2, .string ⟨#[41]⟩, .int .i64 0, .int .i64 0] 92) := ⟨_, rfl⟩
 rw [← hW6]
 have hBw5 : B ≤ w5.heap.size := Nat.le_trans HBs.out hk5.size
 have hb6 : Below w5.heap.size w5 W6 := by rw [hW6]; exact (Below.refl _ _).alloc (Nat.le_refl _) _
 have hti : TI W6 (w5.heap.size + 1) (some ⟨w5.heap.size, 0, none⟩) 5 X := by rw [hW6, HX.out]; exact TI.many w5 [⟨2, [40], 0, 0⟩, ⟨3, [], a, 0⟩, ⟨2, [44], 0, 0⟩, ⟨3, [], b, 0⟩, ⟨2, [41], 0, 0⟩] _ rfl
 have hk6 : Kp B P W W6 := hk5.trans (Kp.of_below hb6 hBw5)
 have hput := put_any W6 B P T 5 5 _ S X _ (hP5.old hb6) hti (by rw [hW6]; simp) hSl hT (by omega) (HG.out _ (HKW.out.trans hk6).1) (by rw [HX.out]; intro x hx; simp at hx; rcases hx with rfl | rfl | rfl | rfl | rfl <;> simp <;> omega) (Nat.le_trans hBw5 hb6.size)
 have HK6 := Lib.hid hk6
 refine hK.out _ _ ⟨One.cell (hk6.heap HQ.out hQP (by decide)), Rw.cell (hk6.heap HR.out hRP (by decide)) rfl, Rw.cell (hk6.heap HR.out hRP (by decide)) rfl⟩ (fun hS8 => ?_)
 clear hb6 hti hk6 hk5 hP5 hS hW6
 refine wpAnyH_one (i := 11) (by kernel_rfl) rfl (fun K hK => ?_)
 simp only [g4, g5, g6]
 go_simp
 go_at_call 81
 with_reducible refine hput.mono ?_
 rintro e w7 (⟨a1, a2, rfl, a3, a4⟩ | ⟨a1, rfl, a2⟩)
 rotate_left
 ·exact ⟨rfl, .inr ⟨a1, rfl, (HKW.out.1.trans HK6.out.1).trans a2⟩⟩
 have hk7 : Kp B P W w7 := HK6.out.trans a4
 refine hK.out _ _ ⟨One.cell (hk7.heap HQ.out hQP (by decide)), Rw.cell (hk7.heap HR.out hRP (by decide)) rfl, Rw.cell (hk7.heap HR.out hRP (by decide)) rfl⟩ (fun hS9 => ?_)
 refine ⟨by kernel_rfl, ?_⟩
 have HZ := Lib.hid (And.intro a1 (And.intro a2 (And.intro a3 (HKW.out.trans hk7))))
 clear a1 a2 a3 a4 hk7 hS8 hS9 hput
 go_wp2
 go_end0
 exact .inl ⟨HZ.out.1, HZ.out.2.1, rfl, HZ.out.2.2.1, HZ.out.2.2.2⟩
end Go.Proofs.YthaibekbefndlaaGreatDoor.C

namespace Go.Proofs.YthaibekbefndlaaGreatDoor.C
open Go.RowKit

set_option maxRecDepth 100000 in
set_option maxHeartbeats 4000000 in
theorem putPairs_any (w : World) (B P T Q : Nat) (v : Value) (rs : List (Int × Int)) (S : List UInt8) (h : PW w B P S T) (hQ : One w Q 96 (.pointer (some ⟨P, 0, none⟩))) (hQP : Q ≠ P) (hS : S.length ≤ 4000) (hT : T ≤ 1000) (hG : ∀ w', Below B w w' → Gl w') (hB : B ≤ w.heap.size) (hr : PrsR w B v rs) (hsc : Scal rs) (hn : rs.length ≤ maxLen) :
  Calls Tryz.prog 88 #[.pointer (some ⟨P, 0, none⟩), v, .func (.func 89) #[] #[.pointer (some ⟨Q, 0, none⟩)]] w (PutTold w B P (S ++ prtL (sepT pairT rs)) (T + (sepT pairT rs).length)) := by
 obtain ⟨A, c, rfl, hsi⟩ := hr
 unfold maxLen at hn
 have HSI := Lib.hid hsi
 have HQ := Lib.hid hQ
 have HG := Lib.hid hG
 have HB := Lib.hid hB
 have HSC := Lib.hid hsc
 have hst0 : PutSt w B P S T (sepT pairT (rs.take 0)) w := ⟨by simpa [sepT, prtL] using h, by simpa [sepT, prtL] using hS, by simpa [sepT] using hT, Kp.refl _ _ _⟩
 have HST0 := Lib.hid hst0
 clear h hQ hG hB hsi hsc hS hT hst0
 go_enter Tryz.func88, Tryz.ntmps88
 go_wp2
 go_loopw [10] (fun iv wr => ∃ i : Nat, i ≤ rs.length ∧ iv = .int .i64 i ∧ Hid (PutSt w B P S T (sepT pairT (rs.take i)) wr)) (fun iv _ => rs.length - (intOf iv).toNat)
 case atStart => exact ⟨0, Nat.zero_le _, rfl, HST0⟩
 case round =>
  obtain ⟨i, hin, rfl, HST⟩ := hrel
  by_cases hlt : i < rs.length
  rotate_left
  ·obtain rfl : i = rs.length := by omega
   go_wp2
   go_end0
   have := HST.out
   rw [List.take_length] at this
   exact .inl ⟨this.2.1, this.2.2.1, rfl, this.1, this.2.2.2⟩
  obtain ⟨r, hri⟩ : ∃ r, rs[i]? = some r := ⟨_, List.getElem?_eq_getElem hlt⟩
  have hr4 := HSC.out r (List.mem_of_getElem? hri)
  obtain ⟨a, b, rfl⟩ : ∃ a b : Nat, r = ((a : Int), (b : Int)) := ⟨r.1.toNat, r.2.toNat, by ext <;> simp <;> omega⟩
  obtain ⟨hp, hs1, ht1, hk⟩ := HST.out
  obtain ⟨ad, rfl, hbl, c0, c1⟩ := prsR_at (HSI.out.on hk.1 (Nat.le_refl _)) hri
  have htk : rs.take (i + 1) = rs.take i ++ [((a : Int), (b : Int))] := by rw [List.take_add_one, hri]; rfl
  have hle := sepT_len pairT rs (i + 1)
  have HLE := Lib.hid hle
  have HTK := Lib.hid htk
  obtain ⟨W1, hW1⟩ : ∃ W1, W1 = wr.alloc (.cells #[.int .i32 a, .int .i32 b] 49) := ⟨_, rfl⟩
  have hb1 : Below wr.heap.size wr W1 := by rw [hW1]; exact (Below.refl _ _).alloc (Nat.le_refl _) _
  have hBr : B ≤ wr.heap.size := Nat.le_trans HB.out hk.size
  have hk1 : Kp B P w W1 := hk.trans (Kp.of_below hb1 hBr)
  have hR1 : Rw W1 wr.heap.size 49 #[.int .i32 a, .int .i32 b] := by rw [hW1]; exact heap_alloc_new wr _
  have hp1 := hp.old hb1
  have hRP : wr.heap.size ≠ P := by have := hp.lt; omega
  have i0 : (0 : Int) ≤ (i : Int) := by omega
  have i1 : (i : Int) < (rs.length : Int) := by omega
  have HP1 := Lib.hid hp1
  have HK1 := Lib.hid hk1
  have HR1 := Lib.hid hR1
  have HBR : Hid (B ≤ W1.heap.size) := Lib.hid (Nat.le_trans hBr hb1.size)
  clear hp hk hb1 hk1 hR1 hp1 hBr hle htk hri
  have q0 : W1.cell? ⟨wr.heap.size, 0, none⟩ = some (.int .i32 a) := HR1.out.cell rfl
  have q1 : W1.cell? ⟨wr.heap.size, 1, none⟩ = some (.int .i32 b) := HR1.out.cell rfl
  by_cases hi0 : i = 0
  ·subst hi0
   rw [show 0 * 2 = 0 from rfl, Addr.add_zero'] at c0 c1
   have hQ1 : One W1 Q 96 (.pointer (some ⟨P, 0, none⟩)) := HK1.out.heap HQ.out hQP (by decide)
   have hcl := pairItem_any W1 B P _ Q a b _ HP1.out hQ1 hQP hs1 ht1 (fun w' h' => HG.out w' (HK1.out.1.trans h')) HBR.out (by omega) (by omega)
   have hX0 : sepT pairT (rs.take 0) = [] := rfl
   have hX1 : sepT pairT (rs.take (0 + 1)) = pairT ((a : Int), (b : Int)) := by rw [HTK.out]; rfl
   rw [hX0, ← hX1] at hcl
   rw [show S ++ prtL [] = S by simp [prtL]] at hcl
   have HX := Lib.hid (And.intro (show (S ++ prtL (sepT pairT (rs.take (0 + 1)))).length ≤ (S ++ prtL (sepT pairT rs)).length by simp only [List.length_append]; have := HLE.out.1; omega) (show T + (sepT pairT (rs.take (0 + 1))).length ≤ T + (sepT pairT rs).length by have := HLE.out.2; omega))
   rw [hW1] at q0 q1
   clear hQ1 hX0 hX1 HTK HLE hs1 ht1
   go_wp2_with fail
   rw [← hW1]
   refine hcl.mono ?_
   rintro e w2 (⟨a1, a2, rfl, a3, a4⟩ | ⟨a1, rfl, a2⟩)
   rotate_left
   ·exact ⟨rfl, .inr ⟨long_more a1 HX.out.1 HX.out.2, rfl, HK1.out.1.trans a2⟩⟩
   have HZ : Hid (PutSt w B P S T (sepT pairT (rs.take (0 + 1))) w2) := Lib.hid ⟨a3, a1, a2, HK1.out.trans a4⟩
   clear a1 a2 a3 a4 hcl
   go_wp2
   go_roundw
   case rel => exact ⟨0 + 1, by omega, by go_num, HZ⟩
   case measure => simp [intOf]; omega
  ·have i2 : (0 : Int) < (i : Int) := by omega
   have hne : rs.take i ≠ [] := by
    intro h
    have hl : (rs.take i).length = 0 := by rw [h]; rfl
    rw [List.length_take] at hl
    omega
   have hXi : sepT pairT (rs.take (i + 1)) = sepT pairT (rs.take i) ++ ([⟨2, [59], 0, 0⟩] ++ pairT ((a : Int), (b : Int))) := by rw [HTK.out, sepT_snoc _ _ _ hne]; rfl
   have hsg := sign_any7 W1 ⟨#[59]⟩
   have HXI := Lib.hid hXi
   rw [hW1] at q0 q1
   clear hne hXi HTK
   go_wp2_with fail
   rw [← hW1]
   refine hsg.mono ?_
   rintro e w2 ⟨rfl, hb2⟩
   have hBs2 : B ≤ w2.heap.size := Nat.le_trans HBR.out hb2.size
   have hk2 : Kp B P w w2 := HK1.out.trans (Kp.of_below hb2 HBR.out)
   have hR2 : Rw w2 wr.heap.size 49 #[.int .i32 a, .int .i32 b] := HR1.out.on hb2 HR1.out.lt
   obtain ⟨W3, hW3⟩ : ∃ W3, W3 = w2.alloc (.cells #[.int .u8 2, .string ⟨#[59]⟩, .int .i64 0, .int .i64 0] 92) := ⟨_, rfl⟩
   have hb3 : Below w2.heap.size w2 W3 := by rw [hW3]; exact (Below.refl _ _).alloc (Nat.le_refl _) _
   have hk3 : Kp B P w W3 := hk2.trans (Kp.of_below hb3 hBs2)
   have hR3 : Rw W3 wr.heap.size 49 #[.int .i32 a, .int .i32 b] := hR2.on hb3 hR2.lt
   have hti : TI W3 (w2.heap.size + 1) (some ⟨w2.heap.size, 0, none⟩) 1 [⟨2, [59], 0, 0⟩] := by rw [hW3]; exact TI.many w2 [⟨2, [59], 0, 0⟩] _ rfl
   have hput := put_any W3 B P _ 1 1 _ _ [⟨2, [59], 0, 0⟩] _ ((HP1.out.old hb2).old hb3) hti (by rw [hW3]; simp) hs1 ht1 (by omega) (HG.out _ hk3.1) (by intro x hx; simp at hx; subst hx; simp) (Nat.le_trans hBs2 hb3.size)
   have HK3 := Lib.hid hk3
   have HR3 := Lib.hid hR3
   have HBS3 : Hid (B ≤ W3.heap.size) := Lib.hid (Nat.le_trans hBs2 hb3.size)
   clear hb2 hBs2 hk2 hR2 hb3 hk3 hR3 hti hsg q0 q1 hs1 ht1
   go_wp2_with fail
   rw [← hW3]
   refine hput.mono ?_
   rintro e w4 (⟨a1, a2, rfl, a3, a4⟩ | ⟨a1, rfl, a2⟩)
   rotate_left
   ·refine ⟨rfl, .inr ⟨long_more a1 ?_ ?_, rfl, HK3.out.1.trans a2⟩⟩
    ·have := HLE.out.1
     rw [HXI.out, prtL_app, prtL_app] at this
     simp only [List.length_append] at this ⊢
     omega
    ·have := HLE.out.2
     rw [HXI.out] at this
     simp only [List.length_append] at this ⊢
     omega
   have hk4 : Kp B P w w4 := HK3.out.trans a4
   have hQ4 : One w4 Q 96 (.pointer (some ⟨P, 0, none⟩)) := hk4.heap HQ.out hQP (by decide)
   have hR4 : Rw w4 wr.heap.size 49 #[.int .i32 a, .int .i32 b] := a4.heap HR3.out hRP (by decide)
   have hcl := pairItem_any w4 B P _ Q a b _ a3 hQ4 hQP a1 a2 (fun w' h' => HG.out w' (hk4.1.trans h')) (Nat.le_trans HBS3.out a4.size) (by omega) (by omega)
   have hfs : ((S ++ prtL (sepT pairT (rs.take i))) ++ prtL [(⟨2, [59], 0, 0⟩ : Tok)]) ++ prtL (pairT ((a : Int), (b : Int))) = S ++ prtL (sepT pairT (rs.take (i + 1))) := by rw [HXI.out, prtL_app, prtL_app]; simp
   have hft : ((T + (sepT pairT (rs.take i)).length) + [(⟨2, [59], 0, 0⟩ : Tok)].length) + (pairT ((a : Int), (b : Int))).length = T + (sepT pairT (rs.take (i + 1))).length := by rw [HXI.out]; simp only [List.length_append]; omega
   rw [hfs, hft] at hcl
   have q0 : w4.cell? ⟨wr.heap.size, 0, none⟩ = some (.int .i32 a) := hR4.cell rfl
   have q1 : w4.cell? ⟨wr.heap.size, 1, none⟩ = some (.int .i32 b) := hR4.cell rfl
   have HX := Lib.hid (And.intro (show (S ++ prtL (sepT pairT (rs.take (i + 1)))).length ≤ (S ++ prtL (sepT pairT rs)).length by simp only [List.length_append]; have := HLE.out.1; omega) (show T + (sepT pairT (rs.take (i + 1))).length ≤ T + (sepT pairT rs).length by have := HLE.out.2; omega))
   have HK4 := Lib.hid hk4
   clear a1 a2 a3 a4 hk4 hQ4 hR4 hfs hft hput HXI HLE
   go_wp2_with fail
   refine hcl.mono ?_
   rintro e w5 (⟨a1, a2, rfl, a3, a4⟩ | ⟨a1, rfl, a2⟩)
   rotate_left
   ·exact ⟨rfl, .inr ⟨long_more a1 HX.out.1 HX.out.2, rfl, HK4.out.1.trans a2⟩⟩
   have HZ : Hid (PutSt w B P S T (sepT pairT (rs.take (i + 1))) w5) := Lib.hid ⟨a3, a1, a2, HK4.out.trans a4⟩
   clear a1 a2 a3 a4 hcl
   go_wp2
   go_roundw
   case rel => exact ⟨i + 1, by omega, by go_num, HZ⟩
   case measure => simp [intOf]; omega
theorem pairT_kind (r : Int × Int) : ∀ x ∈ pairT r, x.k ≠ 6 := by
 intro x hx
 unfold pairT at hx
 simp only [List.mem_cons, List.not_mem_nil, or_false] at hx
 rcases hx with rfl | rfl | rfl | rfl | rfl <;> simp [tC, tS]
theorem linesT_map (m : List UInt8) (l : List (Int × Int)) (h : l ≠ []) : linesT (mapT m l) = lineT (tW m :: sepT pairT l) ∧ (toksT (mapT m l)).length = (tW m :: sepT pairT l).length + 1 := by
 unfold mapT
 rw [if_neg h]
 simp [linesT, toksT]
set_option maxRecDepth 100000 in
set_option maxHeartbeats 4000000 in
theorem pairsPut_any (w : World) (B P T : Nat) (m : List UInt8) (v : Value) (rs : List (Int × Int)) (S : List UInt8) (h : PW w B P S T) (hS : S.length ≤ 4000) (hT : T ≤ 1000) (hG : ∀ w', Below B w w' → Gl w') (hB : B ≤ w.heap.size) (hr : PrsR w B v rs) (hsc : Scal rs) (hn : rs.length ≤ maxLen) (hm : m.length ≤ 5000) (hm0 : m ≠ []) :
  Calls Tryz.prog 40 #[.pointer (some ⟨P, 0, none⟩), .string (str m), v] w (PutTold w B P (S ++ linesT (mapT m rs)) (T + (toksT (mapT m rs)).length)) := by
 obtain ⟨A, c, rfl, hsi⟩ := hr
 obtain ⟨W, hW⟩ : ∃ W, W = w.alloc (.cells #[.pointer (some ⟨P, 0, none⟩)] 96) := ⟨_, rfl⟩
 have hbW : Below w.heap.size w W := by rw [hW]; exact (Below.refl _ _).alloc (Nat.le_refl _) _
 have hkW := Kp.of_below (P := P) hbW hB
 have hP := h.old hbW
 by_cases h0 : rs = []
 ·subst h0
  have hx : S ++ linesT (mapT m []) = S ∧ T + (toksT (mapT m [])).length = T := by simp [mapT, linesT, toksT]
  rw [hx.1, hx.2]
  have HP := Lib.hid (And.intro hP hkW)
  clear h hP hkW hbW hx hG hsi hsc
  go_enter Tryz.func40, Tryz.ntmps40
  go_wp2
  rw [← hW]
  go_end0
  exact .inl ⟨hS, hT, rfl, HP.out.1, HP.out.2⟩
 have hQ : One W w.heap.size 96 (.pointer (some ⟨P, 0, none⟩)) := by rw [hW]; exact heap_alloc_new w _
 have hmf : ∀ (fn : Fn) (first cap : Array Value) (w : World), (Instr.makeFunc fn first cap).run Tryz.prog w = .ok (.func fn first cap) w := fun _ _ _ _ => rfl
 have hlP := h.lt
 have hQP : w.heap.size ≠ P := by omega
 have hl0 : ((rs.length : Int) == 0) = false := beq_eq_false_iff_ne.2 (by have := List.length_pos_iff.2 h0; omega)
 obtain ⟨X, hX⟩ : ∃ X, X = sepT pairT rs := ⟨_, rfl⟩
 obtain ⟨Y, hY⟩ : ∃ Y, Y = tW m :: sepT pairT rs := ⟨_, rfl⟩
 have hcl : Y = [⟨1, m, 0, 0⟩] ++ X := by rw [hY, hX]; rfl
 have hkd : ∀ x ∈ Y, x.k ≠ 6 := by
  rw [hY]
  intro x hx
  rcases List.mem_cons.1 hx with rfl | hx
  ·simp [tW]
  ·exact sepT_kind _ pairT_kind _ _ hx
 have hlm := linesT_map m rs h0
 rw [← hY] at hlm
 rw [hlm.1, hlm.2]
 have HLL := Lib.hid (line_put S (ts := Y) (by rw [hcl]; simp) hkd)
 have HY := Lib.hid hcl
 have HX := Lib.hid hX
 have HP := Lib.hid hP
 have HQ := Lib.hid hQ
 have HG := Lib.hid hG
 have HKW := Lib.hid hkW
 have HBs : Hid (B ≤ W.heap.size) := Lib.hid (Nat.le_trans hB hbW.size)
 have HSI := Lib.hid (hsi.on (hbW.mono hB) (Nat.le_refl _))
 have HSC := Lib.hid hsc
 have HM0 := Lib.hid hm0
 have q0 := hQ.cell
 have hwd := word_any W.drew (str m)
 clear h hP hQ hG hbW hkW hX hY hcl hsi hsc hkd hlm h0 hm0
 go_enter Tryz.func40, Tryz.ntmps40
 go_wp2
 rw [← hW]
 refine wp_region_held (S := fun W' : World => W'.cell? ⟨w.heap.size, 0, none⟩ = some (.pointer (some ⟨P, 0, none⟩))) (by kernel_rfl) ?_
 change wpAnyH _ _ _ _ _ _ _ _ W.drew
 have hS5 : (fun W' : World => W'.cell? ⟨w.heap.size, 0, none⟩ = some (.pointer (some ⟨P, 0, none⟩))) W.drew := q0
 have HWE := Lib.hid hW
 clear hW q0
 iterate 2 (refine wpH rfl rfl ?_; try simp only [Act.put, g1, g2, g3, g4, g5, g6])
 refine wpAnyH_one (i := 2) (by kernel_rfl) rfl (fun K hK => ?_)
 simp only [g4, g5, g6]
 go_simp
 go_at_call 82
 with_reducible refine hwd.mono ?_
 rintro e w5 ⟨rfl, hb4⟩
 have hbm : Below W.heap.size W w5 := ⟨hb4.os, hb4.tape, hb4.output, hb4.size, hb4.block⟩
 have hk5 : Kp B P W w5 := Kp.of_below hbm HBs.out
 have hP5 : PW w5 B P S T := HP.out.old hbm
 have hBw5 : B ≤ w5.heap.size := Nat.le_trans HBs.out hk5.size
 refine hK.out _ _ (One.cell (hk5.heap HQ.out hQP (by decide))) (fun hS7 => ?_)
 clear hb4 hbm hwd hS5
 refine wpAnyH_one (i := 3) (by kernel_rfl) rfl (fun K hK => ?_)
 simp only [g4, g5, g6]
 go_simp
 obtain ⟨W6, hW6⟩ : ∃ W6, W6 = w5.alloc (.cells #[.int .u8 1, .string (str m), .int .i64 0, .int .i64 0] 92) := ⟨_, rfl⟩
 rw [← hW6]
 have hb6 : Below w5.heap.size w5 W6 := by rw [hW6]; exact (Below.refl _ _).alloc (Nat.le_refl _) _
 have hti : TI W6 (w5.heap.size + 1) (some ⟨w5.heap.size, 0, none⟩) 1 [⟨1, m, 0, 0⟩] := by rw [hW6]; exact TI.many w5 [⟨1, m, 0, 0⟩] _ rfl
 have hk6 : Kp B P W W6 := hk5.trans (Kp.of_below hb6 hBw5)
 have hput := put_any W6 B P T 1 1 _ S [⟨1, m, 0, 0⟩] _ (hP5.old hb6) hti (by rw [hW6]; simp) hS hT (by omega) (HG.out _ (HKW.out.trans hk6).1) (by intro x hx; simp at hx; subst hx; simp; exact hm) (Nat.le_trans hBw5 hb6.size)
 have HK6 := Lib.hid hk6
 refine hK.out _ _ (One.cell (hk6.heap HQ.out hQP (by decide))) (fun hS8 => ?_)
 clear hb6 hti hk6 hk5 hP5 hS7 hW6
 refine wpAnyH_one (i := 4) (by kernel_rfl) rfl (fun K hK => ?_)
 simp only [g4, g5, g6]
 go_simp
 go_at_call 81
 with_reducible refine hput.mono ?_
 rintro e w7 (⟨a1, a2, rfl, a3, a4⟩ | ⟨a1, rfl, a2⟩)
 rotate_left
 ·refine ⟨rfl, .inr ⟨long_more a1 ?_ ?_, rfl, (HKW.out.1.trans HK6.out.1).trans a2⟩⟩
  ·rw [HLL.out.2, HY.out, prtL_app]; simp only [List.length_append]; omega
  ·rw [HY.out]; simp only [List.length_append]; omega
 have hk7 : Kp B P W w7 := HK6.out.trans a4
 have hQ7 : One w7 w.heap.size 96 (.pointer (some ⟨P, 0, none⟩)) := hk7.heap HQ.out hQP (by decide)
 refine hK.out _ _ hQ7.cell (fun hS9 => ?_)
 refine ⟨by kernel_rfl, ?_⟩
 have hKw7 : Kp B P w w7 := HKW.out.trans hk7
 have hpi := putPairs_any w7 B P _ w.heap.size _ rs _ a3 hQ7 hQP a1 a2 (fun w' h' => HG.out w' (hKw7.1.trans h')) (Nat.le_trans HBs.out hk7.size) ⟨A, c, rfl, HSI.out.on (hk7.1) (Nat.le_refl _)⟩ HSC.out hn
 rw [← HX.out] at hpi
 have q0 := hQ7.cell
 have HK7 := Lib.hid hk7
 have hfs : (S ++ prtL [⟨1, m, 0, 0⟩]) ++ prtL X = S ++ prtL Y := by rw [HY.out, prtL_app, List.append_assoc]
 have hft : (T + [(⟨1, m, 0, 0⟩ : Tok)].length) + X.length = T + Y.length := by rw [HY.out]; simp only [List.length_append]; omega
 rw [hfs, hft] at hpi
 clear a1 a2 a3 a4 hk7 hQ7 hS8 hS9 hput hKw7 hfs hft
 go_wp2_with fail
 refine hpi.mono ?_
 rintro e w8 (⟨a1, a2, rfl, a3, a4⟩ | ⟨a1, rfl, a2⟩)
 rotate_left
 ·exact ⟨rfl, .inr ⟨long_more a1 (by rw [HLL.out.2]; exact Nat.le_refl _) (by omega), rfl, (HKW.out.1.trans HK7.out.1).trans a2⟩⟩
 have hk8 : Kp B P w w8 := (HKW.out.trans HK7.out).trans a4
 have hQ8 : One w8 w.heap.size 96 (.pointer (some ⟨P, 0, none⟩)) := (HK7.out.trans a4).heap HQ.out hQP (by decide)
 have hen := putEnd_any w8 B P _ _ a3 (by have := List.length_pos_iff.2 HM0.out; rw [HY.out]; simp [prtL, prt]; omega) a1 a2 (fun w' h' => HG.out w' (hk8.1.trans h')) (Nat.le_trans hB hk8.size)
 rw [HLL.out.1] at hen
 have q9 := hQ8.cell
 have HK8 := Lib.hid hk8
 clear a1 a2 a3 a4 hk8 hQ8 hpi q0
 go_wp2_with fail
 refine hen.mono ?_
 rintro e w9 (⟨a1, a2, rfl, a3, a4⟩ | ⟨a1, rfl, a2⟩)
 rotate_left
 ·exact ⟨rfl, .inr ⟨a1, rfl, HK8.out.1.trans a2⟩⟩
 have HZ := Lib.hid (And.intro a1 (And.intro a2 (And.intro a3 (HK8.out.trans a4))))
 clear a1 a2 a3 a4 hen q9
 go_wp2
 go_end0
 exact .inl ⟨HZ.out.1, HZ.out.2.1, rfl, HZ.out.2.2.1, HZ.out.2.2.2⟩
end Go.Proofs.YthaibekbefndlaaGreatDoor.C

namespace Go.Proofs.YthaibekbefndlaaGreatDoor.C
open Go.RowKit

set_option maxRecDepth 100000 in
set_option maxHeartbeats 2000000 in
theorem print06_one (w : World) (B : Nat) (A : Option Addr) (c n : Nat) (h : TI w B A 1 [⟨3, [], n, 0⟩]) (hn : n < 16777216) :
  Calls Tryz.prog 92 #[.slice A 1 c] w fun e w' => e = .returned (.string (str (prt ⟨3, [], n, 0⟩))) ∧ Below w.heap.size w w' := by
 obtain ⟨ad, x, rfl, hbl, hx, q0, q1, q2, q3⟩ := h.at4 (k := 0) (by omega)
 have hx' : x = ⟨3, [], n, 0⟩ := (Option.some.inj hx).symm
 subst hx'
 dsimp only at q0 q1 q2 q3
 rw [Nat.zero_mul, Addr.add_zero'] at q0 q1 q2 q3
 obtain ⟨W, hW⟩ : ∃ W, W = w.alloc (.cells #[.int .u8 3, .string (str []), .int .i64 n, .int .i64 0] 92) := ⟨_, rfl⟩
 have hbW : Below w.heap.size w W := by rw [hW]; exact (Below.refl _ _).alloc (Nat.le_refl _) _
 have hR : Rw W w.heap.size 92 #[.int .u8 3, .string (str []), .int .i64 n, .int .i64 0] := by rw [hW]; exact heap_alloc_new w _
 have p0 : W.cell? ⟨w.heap.size, 0, none⟩ = some (.int .u8 3) := hR.cell rfl
 have p2 : W.cell? ⟨w.heap.size, 2, none⟩ = some (.int .i64 n) := hR.cell rfl
 have hg := great06_any n hn W
 have HB := Lib.hid hbW
 obtain ⟨G, hG⟩ : ∃ G, G = str (greatL n) := ⟨_, rfl⟩
 have hGs : G.size ≤ 14 := by rw [hG, str_size]; exact greatL_len (by omega)
 obtain ⟨T0, h0⟩ : ∃ T, T = str [] := ⟨_, rfl⟩
 obtain ⟨T1, h1⟩ : ∃ T, T = T0 ++ (⟨#[60, 85]⟩ : ByteArray) := ⟨_, rfl⟩
 obtain ⟨T2, h2⟩ : ∃ T, T = T1 ++ G := ⟨_, rfl⟩
 obtain ⟨T3, h3⟩ : ∃ T, T = T2 ++ (⟨#[62]⟩ : ByteArray) := ⟨_, rfl⟩
 obtain ⟨T4, h4⟩ : ∃ T, T = T3 ++ (⟨#[32]⟩ : ByteArray) := ⟨_, rfl⟩
 have s0 : T0.size = 0 := by rw [h0]; rfl
 have s1 : T1.size = 2 := by rw [h1, ByteArray.size_append, s0]; rfl
 have s2 : T2.size ≤ 16 := by rw [h2, ByteArray.size_append]; omega
 have s3 : T3.size ≤ 17 := by rw [h3, ByteArray.size_append]; show T2.size + 1 ≤ 17; omega
 have HF : Hid (T4 = str (prt ⟨3, [], n, 0⟩)) := Lib.hid (by
  rw [h4, h3, h2, h1, h0, hG]
  show str [] ++ str [60, 85] ++ str (greatL n) ++ str [62] ++ str [32] = _
  rw [str_append, str_append, str_append, str_append]
  unfold prt
  rw [if_pos rfl]
  simp)
 have H0 := Lib.hid h0
 rw [← hG] at hg
 rw [hW] at p0 p2
 have e1 := h1.symm
 have e2 := h2.symm
 have e3 := h3.symm
 have e4 := h4.symm
 clear h hx hbl hbW hR hG h0 h1 h2 h3 h4
 go_enter Tryz.func92, Tryz.ntmps92
 go_wp2
 go_loopw [3, 4] (fun sv iv wr => (sv = .string T0 ∧ iv = .int .i64 0 ∧ w = wr) ∨ (sv = .string T4 ∧ iv = .int .i64 1 ∧ Hid (Below w.heap.size w wr))) (fun _ iv _ => 1 - (intOf iv).toNat)
 case atStart => exact .inl ⟨by rw [H0.out]; rfl, rfl, rfl⟩
 case round =>
  rcases hrel with ⟨rfl, rfl, rfl⟩ | ⟨rfl, rfl, HB2⟩
  ·go_wp2_with fail
   rw [← hW]
   with_reducible refine hg.mono ?_
   rintro e w1 ⟨rfl, rfl⟩
   go_wp2
   go_roundw
   case rel => exact .inr ⟨rfl, rfl, by rw [← hW]; exact HB⟩
   case measure => simp [intOf]
  ·go_wp2
   go_ret
   exact ⟨by rw [HF.out]; rfl, HB2.out⟩
set_option maxRecDepth 100000 in
set_option maxHeartbeats 1000000 in
theorem u07_any (c : Int) (w : World) (h0 : 0 ≤ c) (h1 : c < 16777216) : Calls Tryz.prog 43 #[.int .i32 c] w fun e w' => e = .returned (.string (str (prt (tC c)))) ∧ Below w.heap.size w w' := by
 obtain ⟨n, rfl⟩ : ∃ n : Nat, c = (n : Int) := ⟨c.toNat, by omega⟩
 obtain ⟨W, hW⟩ : ∃ W, W = w.alloc (.cells #[.int .u8 3, .string ⟨#[]⟩, .int .i64 n, .int .i64 0] 92) := ⟨_, rfl⟩
 have hbW : Below w.heap.size w W := by rw [hW]; exact (Below.refl _ _).alloc (Nat.le_refl _) _
 have HB := Lib.hid hbW
 have hti : TI W (w.heap.size + 1) (some ⟨w.heap.size, 0, none⟩) 1 [⟨3, [], n, 0⟩] := by rw [hW]; exact TI.many w [⟨3, [], n, 0⟩] _ rfl
 have hpr := print06_one W _ _ 1 n hti (by omega)
 have HT : Hid (prt (tC (n : Int)) = prt ⟨3, [], n, 0⟩) := Lib.hid (by unfold tC; rw [Int.toNat_natCast])
 have wr : IntKind.i64.wrap (n : Int) = (n : Int) := by rw [IntKind.wrap_i64]; omega
 clear hti hbW
 go_enter Tryz.func43, Tryz.ntmps43
 go_wp2_with fail
 rw [← hW]
 with_reducible refine hpr.mono ?_
 rintro e w1 ⟨rfl, hb1⟩
 have HB1 := Lib.hid (HB.out.trans (hb1.mono HB.out.size))
 clear hb1 hpr
 go_wp2
 go_ret
 exact ⟨by rw [HT.out]; rfl, HB1.out⟩
set_option maxRecDepth 100000 in
set_option maxHeartbeats 2000000 in
theorem elem07_name (w : World) (nm : List UInt8) (A : Option Addr) (n c : Nat) (s : Int) (h : nm ≠ []) (hn : nm.length ≤ 140737488355328) :
  Calls Tryz.prog 47 #[.agg #[.string (str nm), .slice A n c, .int .i64 s]] w fun e w' => e = .returned (.string (str (prt (tN nm)))) ∧ Below w.heap.size w w' := by
 have hem : (str nm).toList.isEmpty = false := by
  rw [str_empty]
  cases hq : nm with
  | nil => exact absurd hq h
  | cons => rfl
 have hsz := str_size nm
 obtain ⟨S, hS⟩ : ∃ S, S = str nm := ⟨_, rfl⟩
 obtain ⟨T1, h1⟩ : ∃ T, T = (⟨#[60]⟩ : ByteArray) ++ S := ⟨_, rfl⟩
 obtain ⟨T2, h2⟩ : ∃ T, T = T1 ++ (⟨#[62, 32]⟩ : ByteArray) := ⟨_, rfl⟩
 have s0 : S.size ≤ 140737488355328 := by rw [hS, hsz]; exact hn
 have s1 : T1.size ≤ 140737488355329 := by rw [h1, ByteArray.size_append]; show 1 + S.size ≤ _; omega
 have HF : Hid (T2 = str (prt (tN nm))) := Lib.hid (by
  rw [h2, h1, hS]
  show str [60] ++ str nm ++ str [62, 32] = _
  rw [str_append, str_append]
  rfl)
 have HB : Hid (Below w.heap.size w (w.alloc (.cells #[.string S, .slice A n c, .int .i64 s] 34))) := Lib.hid ((Below.refl _ _).alloc (Nat.le_refl _) _)
 rw [← hS] at hem ⊢
 have e1 := h1.symm
 have e2 := h2.symm
 clear h hsz hS h1 h2
 go_enter Tryz.func47, Tryz.ntmps47
 go_wp2
 go_ret
 exact ⟨by rw [HF.out]; rfl, HB.out⟩
set_option maxRecDepth 100000 in
set_option maxHeartbeats 2000000 in
theorem elem07_one (w : World) (B : Nat) (A : Option Addr) (c : Nat) (s : Int) (a : Int) (h : RI .i32 w B A 1 [a]) (hB : B ≤ w.heap.size) (h0 : 0 ≤ a) (h1 : a < 16777216) :
  Calls Tryz.prog 47 #[.agg #[.string (str []), .slice A 1 c, .int .i64 s]] w fun e w' => e = .returned (.string (str (prt (tC a)))) ∧ Below w.heap.size w w' := by
 obtain ⟨ad, u, rfl, hbl, hu, hc⟩ := h.at_ (k := 0) (by omega)
 have hu' : u = a := (Option.some.inj hu).symm
 subst hu'
 rw [Addr.add_zero'] at hc
 have hem : (str []).toList.isEmpty = true := by rw [str_empty]; rfl
 obtain ⟨W, hW⟩ : ∃ W, W = w.alloc (.cells #[.string (str []), .slice (some ad) 1 c, .int .i64 s] 34) := ⟨_, rfl⟩
 have hbW : Below w.heap.size w W := by rw [hW]; exact (Below.refl _ _).alloc (Nat.le_refl _) _
 have hq : W.cell? ad = some (.int .i32 u) := (hbW.cell (p := ad) (by omega)).trans hc
 have hpu := u07_any u W h0 h1
 have HB := Lib.hid hbW
 rw [hW] at hq
 clear h hu hbl hbW
 go_enter Tryz.func47, Tryz.ntmps47
 go_wp2_with fail
 rw [← hW]
 with_reducible refine hpu.mono ?_
 rintro e w2 ⟨rfl, hb2⟩
 have HB2 := Lib.hid (HB.out.trans (hb2.mono HB.out.size))
 clear hpu hb2
 go_wp2
 go_ret
 exact ⟨rfl, HB2.out⟩
theorem elem07_any (w : World) (B : Nat) (A : Option Addr) (c : Nat) (e : Elm) (h : RI .i32 w B A e.cells.length e.cells) (hB : B ≤ w.heap.size) (hok : ItemOk e) (hn : e.name.length ≤ 140737488355328) :
  Calls Tryz.prog 47 #[.agg #[.string (str e.name), .slice A e.cells.length c, .int .i64 e.same]] w fun r w' => r = .returned (.string (str (prt (itemT e)))) ∧ Below w.heap.size w w' := by
 obtain ⟨nm, cs, s⟩ := e
 by_cases h0 : nm = []
 ·subst h0
  obtain ⟨a, ha, hb⟩ := hok rfl
  have ha' : cs = [(a : Int)] := ha
  subst ha'
  have hi : itemT ⟨[], [(a : Int)], s⟩ = tC (a : Int) := by unfold itemT; rw [if_pos rfl]; rfl
  rw [hi]
  exact elem07_one w B A c s a h hB (by omega) (by omega)
 ·have hi : itemT ⟨nm, cs, s⟩ = tN nm := by unfold itemT; rw [if_neg h0]
  rw [hi]
  exact elem07_name w nm A cs.length c s h0 hn
end Go.Proofs.YthaibekbefndlaaGreatDoor.C
