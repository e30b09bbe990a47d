/-
  Joined: LcX, LdE. Each with what its own head says.
-/
import Derived.Test.YthaibekbefndlaaGreatDoorH15

namespace Go.Proofs.YthaibekbefndlaaGreatDoor.C
open Go.RowKit

section
variable (w0 : World) (u0 : Value) (lo R : Nat) (T : TV) (v1 v2 v4 v5 : Value) (A M Rb Ab Tb : Nat)
set_option maxRecDepth 100000 in
set_option maxHeartbeats 8000000 in
theorem pairItemL_any (l : List (Int × Int)) (k : Nat) (u : Value) (w : World) (hP : PrL w0 u0 lo R T v1 v2 v4 v5 A M Rb Ab Tb u (numsV l) l k w) (hl : l.length ≤ k) (hN : NumOk T) (hE : Ended (T.ts.drop k)) (hlo : R < lo) (hlw : lo ≤ w0.heap.size) (hM : R < M) :
  Calls Tryz.prog 127 #[.pointer (some ⟨Rb, 0, none⟩), .pointer (some ⟨Ab, 0, none⟩), .pointer (some ⟨Tb, 0, none⟩)] w
   (ItTold T (fun l' k' W => (∃ u', PrL w0 u0 lo R T v1 v2 v4 v5 A M Rb Ab Tb u' (numsV l') l' k' W) ∧ l'.length ≤ k') (fun W => Fr w0 W (fun j => j = R ∨ j = M ∨ u0.ownBlock = some j)) (pairL l (T.ts.drop k))) := by
 have HP := Lib.hid hP
 have hsz := hP.fr.size
 have hkT := hP.cu.2.2
 have q0 := hP.rb.cell
 obtain ⟨i0, hi, hz0, hz1, hz2⟩ := info_parts infoPair
 obtain ⟨x0, r0, hx0⟩ := hE.some_
 obtain ⟨X, hX⟩ : ∃ X, X = pairL l (T.ts.drop k) := ⟨_, rfl⟩
 rw [← hX]
 rw [hx0] at hX
 by_cases c0 : x0.k = 2 ∧ x0.t = sOpen
 rotate_left
 ·have hta := takeText_no w R T k v1 v2 u v4 v5 x0 r0 2 sOpen hP.cu hx0 c0
  rw [hX, pairL_no c0]
  clear hP hN hE hX c0 hx0
  go_enter Tryz.func127, Tryz.ntmps127
  go_wp2_with fail
  refine hta.mono ?_
  rintro e w1 ⟨rfl, hm1⟩
  exact ⟨rfl, rfl, HP.out.fr.next (Fr.of_moved hm1) (fun j _ e => .inl e)⟩
 have hta := takeText_yes w R T k v1 v2 u v4 v5 x0 r0 2 sOpen hP.cu hx0 c0.1 c0.2
 have HX := Lib.hid (hX.trans (pairL_yes c0))
 rw [hx0] at hE
 have hE1 := hE.cons (by omega)
 obtain ⟨x1, r1, hx1⟩ := hE1.some_
 have hd1 : T.ts.drop (k + 1) = x1 :: r1 := (drop_next hx0).trans hx1
 have HD1 := Lib.hid hd1
 have HE1 := Lib.hid (hx1 ▸ hE1)
 rw [hx1] at HX
 have hn1 := hN.at_ hd1
 have HN := Lib.hid hN
 clear hP hN hE hX c0 hx0 hE1 hx1 hd1
 go_enter Tryz.func127, Tryz.ntmps127
 go_wp2_with fail
 refine hta.mono ?_
 rintro e w1 ⟨rfl, hc1, hm1⟩
 have HP1 := Lib.hid (HP.out.go hc1 hm1)
 have q1 := HP1.out.rb.cell
 clear hc1 hm1 hta q0
 by_cases c1 : x1.k = 3
 rotate_left
 ·have hta := take1_no w1 R T (k + 1) v1 v2 u v4 v5 x1 r1 _ rfl 3 HP1.out.cu HD1.out c1
  have HX2 := Lib.hid (HX.out.trans (pairA_no c1))
  clear c1
  go_wp2_with fail
  refine hta.mono ?_
  rintro e w2 ⟨rfl, hm2⟩
  have eX := HX2.out
  subst eX
  exact ⟨rfl, rfl, HP1.out.fr.next (Fr.of_moved hm2) (fun j _ e => .inl e)⟩
 have hta := take1_yes w1 R T (k + 1) v1 v2 u v4 v5 x1 r1 _ rfl 3 HP1.out.cu HD1.out c1
 have n10 : (0 : Int) ≤ (x1.n : Int) := by omega
 have n11 : (x1.n : Int) ≤ 1114111 := by omega
 have C1 := Lib.hid c1
 clear c1
 go_wp2_with fail
 refine hta.mono ?_
 rintro e w2 ⟨rfl, hc2, hm2⟩
 have HP2 := Lib.hid (HP1.out.go hc2 hm2)
 obtain ⟨W2, hW2⟩ : ∃ W2, W2 = w2.alloc (.cells #[.int .u8 x1.k, .string (str x1.t), .int .i64 x1.n, .int .i64 x1.at_] 92) := ⟨_, rfl⟩
 have HPW : Hid (PrL w0 u0 lo R T v1 v2 v4 v5 A M Rb Ab Tb u (numsV l) l (k + 1 + 1) W2) := Lib.hid (by rw [hW2]; exact HP2.out.alloc _)
 have HT1 : Hid (LTk W2 w2.heap.size x1) := Lib.hid (by rw [hW2]; exact LTk.new w2 x1)
 obtain ⟨-, -, p1, -⟩ := HT1.out.cells
 have p2 := HPW.out.ab.cell
 have p3 := HP2.out.ab.cell
 have p4 := HP2.out.ab.lt
 have hbR : w2.heap.size ≠ R := by have := HP2.out.cu.lt; omega
 have hb1M : w2.heap.size ≠ M := by have := HP2.out.ft.2.lt; omega
 unfold FnI at p2 p3
 rw [hW2] at p1 p2
 clear hc2 hm2 hta q1
 unfold tkV
 have hyn : Calls Tryz.prog 170 #[.int .i64 x1.n, .pointer (some ⟨A, 0, none⟩)] W2 fun e w' => (((x1.n : Int) ∈ l.map Prod.fst ∧ e = .returned (.bool false)) ∨ ((x1.n : Int) ∉ l.map Prod.fst ∧ e = .returned (.bool true) ∧ FT w' 200 (.int .i64) A M (numsV l ++ [.int .i64 x1.n]))) ∧ W2.grownBy w' (some M) := by
  by_cases c2 : (x1.n : Int) ∈ l.map Prod.fst
  ·exact (isNewI_no W2 A M (numsV l) x1.n HPW.out.ft (nums_in.2 c2)).mono fun e w' h => ⟨.inl ⟨c2, h.1⟩, h.2⟩
  ·exact (isNewI_yes W2 A M (numsV l) x1.n HPW.out.ft (fun h => c2 (nums_in.1 h))).mono fun e w' h => ⟨.inr ⟨c2, h.1, h.2.1⟩, h.2.2⟩
 go_wp2_with fail
 rw [← hW2]
 clear hW2 p1 p2 p3 p4
 refine hyn.mono ?_
 rintro e w3 ⟨hcase, hg3⟩
 have HT3 : Hid (LTk w3 w2.heap.size x1) := Lib.hid ((hg3.block _ HT1.out.lt (by intro e; injection e; omega)).trans HT1.out)
 obtain ⟨a0, a1, a2, a3⟩ := HT3.out.cells
 rcases hcase with ⟨c2, rfl⟩ | ⟨c2, rfl, hft3⟩
 ·have HX2 := Lib.hid (HX.out.trans (pairA_twice C1.out c2))
  have hrf := fun W => refuse_any 32 x1 W
  unfold tkV at hrf
  have HF3 := Lib.hid ((HPW.out.fr.next (Fr.of_grown hg3) (fun j _ e => .inr (.inl (by injection e with e; exact e.symm)))))
  clear hg3 hyn c2
  go_wp2_with fail
  refine (hrf _).mono ?_
  rintro e w4 ⟨rfl, hb4⟩
  have eX := HX2.out
  subst eX
  exact ⟨rfl, rfl, HF3.out.trans (.of_below hb4)⟩
 have HP3 := Lib.hid (HPW.out.asked hft3 hg3 hM)
 have q3 := HP3.out.rb.cell
 have HX2 := Lib.hid (HX.out.trans (pairA_yes C1.out c2))
 have hE2 := HE1.out.cons (by rw [C1.out]; omega)
 obtain ⟨x2, r2, hx2⟩ := hE2.some_
 have hd2 : T.ts.drop (k + 1 + 1) = x2 :: r2 := (drop_next HD1.out).trans hx2
 have HD2 := Lib.hid hd2
 have HE2 := Lib.hid (hx2 ▸ hE2)
 rw [hx2] at HX2
 clear hg3 hyn hft3 c2 hE2 hx2 hd2 hn1
 by_cases c2 : x2.k = 2 ∧ x2.t = sComma
 rotate_left
 ·have hta := takeText_no w3 R T (k + 1 + 1) v1 v2 u v4 v5 x2 r2 2 sComma HP3.out.cu HD2.out c2
  have HX3 := Lib.hid (HX2.out.trans (pairB_no c2))
  clear c2
  go_wp2_with fail
  refine hta.mono ?_
  rintro e w4 ⟨rfl, hm4⟩
  have eX := HX3.out
  subst eX
  exact ⟨rfl, rfl, HP3.out.fr.next (Fr.of_moved hm4) (fun j _ e => .inl e)⟩
 have hta := takeText_yes w3 R T (k + 1 + 1) v1 v2 u v4 v5 x2 r2 2 sComma HP3.out.cu HD2.out c2.1 c2.2
 have HX3 := Lib.hid (HX2.out.trans (pairB_yes c2))
 have hE3 := HE2.out.cons (by omega)
 clear c2
 go_wp2_with fail
 refine hta.mono ?_
 rintro e w4 ⟨rfl, hc4, hm4⟩
 have HP4 := Lib.hid (HP3.out.go hc4 hm4)
 have HT4 := Lib.hid (HT3.out.moved hm4 hbR)
 have q4 := HP4.out.rb.cell
 obtain ⟨x4, r4, hx4⟩ := hE3.some_
 have hd4 : T.ts.drop (k + 1 + 1 + 1) = x4 :: r4 := (drop_next HD2.out).trans hx4
 have HD4 := Lib.hid hd4
 have HE4 := Lib.hid (hx4 ▸ hE3)
 rw [hx4] at HX3
 have hn4 := HN.out.at_ hd4
 clear hc4 hm4 hta q3 a0 a1 a2 a3 hE3 hx4 hd4
 by_cases c4 : x4.k = 3
 rotate_left
 ·have hta := take1_no w4 R T (k + 1 + 1 + 1) v1 v2 u v4 v5 x4 r4 _ rfl 3 HP4.out.cu HD4.out c4
  have HX4 := Lib.hid (HX3.out.trans (pairC_no c4))
  clear c4
  go_wp2_with fail
  refine hta.mono ?_
  rintro e w5 ⟨rfl, hm5⟩
  have eX := HX4.out
  subst eX
  exact ⟨rfl, rfl, HP4.out.fr.next (Fr.of_moved hm5) (fun j _ e => .inl e)⟩
 have hta := take1_yes w4 R T (k + 1 + 1 + 1) v1 v2 u v4 v5 x4 r4 _ rfl 3 HP4.out.cu HD4.out c4
 have HX4 := Lib.hid (HX3.out.trans (pairC_yes c4))
 have hE5 := HE4.out.cons (by omega)
 have n40 : (0 : Int) ≤ (x4.n : Int) := by omega
 have n41 : (x4.n : Int) ≤ 1114111 := by omega
 clear c4
 go_wp2_with fail
 refine hta.mono ?_
 rintro e w5 ⟨rfl, hc5, hm5⟩
 obtain ⟨W5, hW5⟩ : ∃ W5, W5 = w5.alloc (.cells #[.int .u8 x4.k, .string (str x4.t), .int .i64 x4.n, .int .i64 x4.at_] 92) := ⟨_, rfl⟩
 have HPW5 : Hid (PrL w0 u0 lo R T v1 v2 v4 v5 A M Rb Ab Tb u (numsV l ++ [.int .i64 x1.n]) l (k + 1 + 1 + 1 + 1) W5) := Lib.hid (by rw [hW5]; exact (HP4.out.go hc5 hm5).alloc _)
 have HT51 : Hid (LTk W5 w2.heap.size x1) := Lib.hid (by rw [hW5]; exact (HT4.out.moved hm5 hbR).alloc _)
 have HT54 : Hid (LTk W5 w5.heap.size x4) := Lib.hid (by rw [hW5]; exact LTk.new w5 x4)
 have p2 := HPW5.out.rb.cell
 have p3 := (HP4.out.go hc5 hm5).rb.cell
 have p4 := (HP4.out.go hc5 hm5).rb.lt
 have hb5R : w5.heap.size ≠ R := by have := hc5.lt; omega
 rw [hW5] at p2
 obtain ⟨x5, r5, hx5⟩ := hE5.some_
 have hd5 : T.ts.drop (k + 1 + 1 + 1 + 1) = x5 :: r5 := (drop_next HD4.out).trans hx5
 have HD5 := Lib.hid hd5
 rw [hx5] at HX4
 clear hc5 hm5 hta q4 hE5 hx5 hd5 hn4
 unfold tkV
 by_cases c5 : x5.k = 2 ∧ x5.t = sShut
 rotate_left
 ·have hta := takeText_no W5 R T (k + 1 + 1 + 1 + 1) v1 v2 u v4 v5 x5 r5 2 sShut HPW5.out.cu HD5.out c5
  have HX5 := Lib.hid (HX4.out.trans (pairD_no c5))
  clear c5
  go_wp2_with fail
  rw [← hW5]
  refine hta.mono ?_
  rintro e w6 ⟨rfl, hm6⟩
  have eX := HX5.out
  subst eX
  exact ⟨rfl, rfl, HPW5.out.fr.next (Fr.of_moved hm6) (fun j _ e => .inl e)⟩
 have hta := takeText_yes W5 R T (k + 1 + 1 + 1 + 1) v1 v2 u v4 v5 x5 r5 2 sShut HPW5.out.cu HD5.out c5.1 c5.2
 have HX5 := Lib.hid (HX4.out.trans (pairD_yes c5))
 have HD6 := Lib.hid (drop_next HD5.out)
 clear c5
 go_wp2_with fail
 rw [← hW5]
 clear hW5 p2 p3 p4
 refine hta.mono ?_
 rintro e w6 ⟨rfl, hc6, hm6⟩
 have HP6 := Lib.hid (HPW5.out.go hc6 hm6)
 have HT61 := Lib.hid (HT51.out.moved hm6 hbR)
 have HT64 := Lib.hid (HT54.out.moved hm6 hb5R)
 have hs6 := HP6.out.fr.size
 have hR6 := hc6.lt
 clear hc6 hm6 hta
 go_wp2_with fail
 have e1 : IntKind.i32.wrap (x1.n : Int) = (x1.n : Int) := wrap32 n10 n11
 have e4 : IntKind.i32.wrap (x4.n : Int) = (x4.n : Int) := wrap32 n40 n41
 refine wp_region_E (S := fun W => W.cell? ⟨Tb, 0, none⟩ = some (.pointer (some ⟨R, 4, none⟩)) ∧ W.cell? ⟨R, 4, none⟩ = some u ∧ W.cell? ⟨w2.heap.size, 2, none⟩ = some (.int .i64 x1.n) ∧ W.cell? ⟨w5.heap.size, 2, none⟩ = some (.int .i64 x4.n)) (L := 14) (by kernel_rfl) ?_
 have hS6 : (fun W : World => W.cell? ⟨Tb, 0, none⟩ = some (.pointer (some ⟨R, 4, none⟩)) ∧ W.cell? ⟨R, 4, none⟩ = some u ∧ W.cell? ⟨w2.heap.size, 2, none⟩ = some (.int .i64 x1.n) ∧ W.cell? ⟨w5.heap.size, 2, none⟩ = some (.int .i64 x4.n)) w6.drew := ⟨HP6.out.tb.cell, HP6.out.cu.more.2.2.1, HT61.out.cells.2.2.1, HT64.out.cells.2.2.1⟩
 refine wpAnyE_take (i := 0) (oi := ?oi0) (v := ?v0) ?hi0 (by kernel_rfl) (by kernel_rfl) (by kernel_rfl) (by kernel_rfl) ?hq0 (Or.inl ⟨?hw0, ?hy0⟩) (by assumption) ?rest0
 case hi0 => exact rfl
 case hq0 => exact fun _ _ _ h => h
 case hw0 => rfl
 case hy0 => (intro x hx; (try dsimp only at hx); simp only [List.getElem_toArray, List.getElem_cons_zero]; go_split_ands; go_simp; try with_reducible rfl)
 try simp only [Act.put, List.setIfInBounds_toArray, List.set_cons_zero, List.set_cons_succ, List.getElem_toArray, List.getElem_cons_zero]
 refine wpAnyE_take (i := 1) (oi := ?oi1) (v := ?v1) ?hi1 (by kernel_rfl) (by kernel_rfl) (by kernel_rfl) (by kernel_rfl) ?hq1 (Or.inl ⟨?hw1, ?hy1⟩) (by assumption) ?rest1
 case hi1 => exact rfl
 case hq1 => exact fun _ _ _ h => h
 case hw1 => rfl
 case hy1 => (intro x hx; (try dsimp only at hx); simp only [List.getElem_toArray, List.getElem_cons_succ, List.getElem_cons_zero]; go_split_ands; go_simp; try with_reducible rfl)
 try simp only [Act.put, List.setIfInBounds_toArray, List.set_cons_zero, List.set_cons_succ, List.getElem_toArray, List.getElem_cons_succ, List.getElem_cons_zero]
 refine wpAnyE_take (i := 2) (oi := ?oi2) (v := ?v2) ?hi2 (by kernel_rfl) (by kernel_rfl) (by kernel_rfl) (by kernel_rfl) ?hq2 (Or.inl ⟨?hw2, ?hy2⟩) (by assumption) ?rest2
 case hi2 => exact rfl
 case hq2 => exact fun _ _ _ h => h
 case hw2 => rfl
 case hy2 => (intro x hx; (try dsimp only at hx); simp only [List.getElem_toArray, List.getElem_cons_succ, List.getElem_cons_zero]; go_split_ands; go_simp; try with_reducible rfl)
 try simp only [Act.put, List.setIfInBounds_toArray, List.set_cons_zero, List.set_cons_succ, List.getElem_toArray, List.getElem_cons_succ, List.getElem_cons_zero]
 refine wpAnyE_take (i := 3) (oi := ?oi3) (v := ?v3) ?hi3 (by kernel_rfl) (by kernel_rfl) (by kernel_rfl) (by kernel_rfl) ?hq3 (Or.inl ⟨?hw3, ?hy3⟩) (by assumption) ?rest3
 case hi3 => exact rfl
 case hq3 => exact fun _ _ _ h => h
 case hw3 => rfl
 case hy3 => (intro x hx; (try dsimp only at hx); simp only [List.getElem_toArray, List.getElem_cons_succ, List.getElem_cons_zero]; go_split_ands; go_simp; try with_reducible rfl)
 try simp only [Act.put, List.setIfInBounds_toArray, List.set_cons_zero, List.set_cons_succ, List.getElem_toArray, List.getElem_cons_succ, List.getElem_cons_zero]
 refine wpAnyE_take (i := 4) (oi := ?oi4) (v := ?v4) ?hi4 (by kernel_rfl) (by kernel_rfl) (by kernel_rfl) (by kernel_rfl) ?hq4 (Or.inl ⟨?hw4, ?hy4⟩) (by assumption) ?rest4
 case hi4 => exact rfl
 case hq4 => exact fun _ _ _ h => h
 case hw4 => rfl
 case hy4 => (intro x hx; (try dsimp only at hx); simp only [List.getElem_toArray, List.getElem_cons_succ, List.getElem_cons_zero]; go_split_ands; go_simp; try with_reducible rfl)
 try simp only [Act.put, List.setIfInBounds_toArray, List.set_cons_zero, List.set_cons_succ, List.getElem_toArray, List.getElem_cons_succ, List.getElem_cons_zero]
 refine wpAnyE_take (i := 5) (oi := ?oi5) (v := ?v5) ?hi5 (by kernel_rfl) (by kernel_rfl) (by kernel_rfl) (by kernel_rfl) ?hq5 (Or.inl ⟨?hw5, ?hy5⟩) (by assumption) ?rest5
 case hi5 => exact rfl
 case hq5 => exact fun _ _ _ h => h
 case hw5 => rfl
 case hy5 => (intro x hx; (try dsimp only at hx); simp only [List.getElem_toArray, List.getElem_cons_succ, List.getElem_cons_zero]; go_split_ands; go_simp; try with_reducible rfl)
 try simp only [Act.put, List.setIfInBounds_toArray, List.set_cons_zero, List.set_cons_succ, List.getElem_toArray, List.getElem_cons_succ, List.getElem_cons_zero]
 refine wpAnyE_take (i := 6) (oi := ?oi6) (v := ?v6) ?hi6 (by kernel_rfl) (by kernel_rfl) (by kernel_rfl) (by kernel_rfl) ?hq6 (Or.inl ⟨?hw6, ?hy6⟩) (by assumption) ?rest6
 case hi6 => exact rfl
 case hq6 => exact fun _ _ _ h => h
 case hw6 => rfl
 case hy6 => (intro x hx; (try dsimp only at hx); simp only [List.getElem_toArray, List.getElem_cons_succ, List.getElem_cons_zero]; go_split_ands; go_simp; try with_reducible rfl)
 try simp only [Act.put, List.setIfInBounds_toArray, List.set_cons_zero, List.set_cons_succ, List.getElem_toArray, List.getElem_cons_succ, List.getElem_cons_zero]
 refine wpAnyE_take (i := 7) (oi := ?oi7) (v := ?v7) ?hi7 (by kernel_rfl) (by kernel_rfl) (by kernel_rfl) (by kernel_rfl) ?hq7 (Or.inl ⟨?hw7, ?hy7⟩) (by assumption) ?rest7
 case hi7 => exact rfl
 case hq7 => exact fun _ _ _ h => h
 case hw7 => rfl
 case hy7 => (intro x hx; (try dsimp only at hx); simp only [List.getElem_toArray, List.getElem_cons_succ, List.getElem_cons_zero]; go_split_ands; go_simp; try with_reducible rfl)
 try simp only [Act.put, List.setIfInBounds_toArray, List.set_cons_zero, List.set_cons_succ, List.getElem_toArray, List.getElem_cons_succ, List.getElem_cons_zero]
 refine wpAnyE_take (i := 8) (oi := ?oi8) (v := ?v8) ?hi8 (by kernel_rfl) (by kernel_rfl) (by kernel_rfl) (by kernel_rfl) ?hq8 (Or.inl ⟨?hw8, ?hy8⟩) (by assumption) ?rest8
 case hi8 => exact rfl
 case hq8 => exact fun _ _ _ h => h
 case hw8 => rfl
 case hy8 => (intro x hx; (try dsimp only at hx); simp only [List.getElem_toArray, List.getElem_cons_succ, List.getElem_cons_zero]; go_split_ands; go_simp; try with_reducible rfl)
 try simp only [Act.put, List.setIfInBounds_toArray, List.set_cons_zero, List.set_cons_succ, List.getElem_toArray, List.getElem_cons_succ, List.getElem_cons_zero]
 refine wpAnyE_take (i := 9) (oi := ?oi9) (v := ?v9) ?hi9 (by kernel_rfl) (by kernel_rfl) (by kernel_rfl) (by kernel_rfl) ?hq9 (Or.inl ⟨?hw9, ?hy9⟩) (by assumption) ?rest9
 case hi9 => exact rfl
 case hq9 => exact fun _ _ _ h => h
 case hw9 => rfl
 case hy9 => (intro x hx; (try dsimp only at hx); simp only [List.getElem_toArray, List.getElem_cons_succ, List.getElem_cons_zero]; go_split_ands; go_simp; try with_reducible rfl)
 try simp only [Act.put, List.setIfInBounds_toArray, List.set_cons_zero, List.set_cons_succ, List.getElem_toArray, List.getElem_cons_succ, List.getElem_cons_zero]
 refine wpAnyE_take (i := 10) (oi := ?oi10) (v := ?v10) ?hi10 (by kernel_rfl) (by kernel_rfl) (by kernel_rfl) (by kernel_rfl) ?hq10 (Or.inl ⟨?hw10, ?hy10⟩) (by assumption) ?rest10
 case hi10 => exact rfl
 case hq10 => exact fun _ _ _ h => h
 case hw10 => rfl
 case hy10 => (intro x hx; (try dsimp only at hx); simp only [List.getElem_toArray, List.getElem_cons_succ, List.getElem_cons_zero]; go_split_ands; go_simp; try with_reducible rfl)
 try simp only [Act.put, List.setIfInBounds_toArray, List.set_cons_zero, List.set_cons_succ, List.getElem_toArray, List.getElem_cons_succ, List.getElem_cons_zero]
 refine wpAnyE_one (i := 11) (by kernel_rfl) rfl (fun K hK => ?_)
 simp only [List.getElem_toArray, List.getElem_cons_succ, List.getElem_cons_zero]
 go_simp
 refine hK.out _ _ (fun _ => ⟨(HP6.out.drew.alloc (.cells #[.int .i32 x1.n, .int .i32 x4.n] 49)).tb.cell, (HP6.out.drew.alloc (.cells #[.int .i32 x1.n, .int .i32 x4.n] 49)).cu.more.2.2.1, (HT61.out.drew.alloc (.cells #[.int .i32 x1.n, .int .i32 x4.n] 49)).cells.2.2.1, (HT64.out.drew.alloc (.cells #[.int .i32 x1.n, .int .i32 x4.n] 49)).cells.2.2.1⟩) (fun hS => ?_)
 replace hS := hS (by decide)
 refine wpAnyE_one (i := 12) (by kernel_rfl) rfl (fun K hK => ?_)
 refine step_append_lies _ (by rfl) _ _ _ (by rfl) lo 49 i0 (.agg #[.int .i32 0, .int .i32 0]) 2 8 Tryz.underlying23 hi hz0 hz1 hz2 rfl (by decide) u l.length (prsC l) (by rfl) (HP6.out.drew.alloc _).row ⟨w6.heap.size, 0, none⟩ 1 1 [.int .i32 x1.n, .int .i32 x4.n] (by rfl) (by rfl) (pair_new _ _ _ _ _ (by simp)) (by intro u hu; simp at hu; rcases hu with rfl | rfl <;> rfl) (by omega) (by unfold maxLen; omega) (by omega) (by simp; omega) (w6.heap.size + 1) (by simp) ?_
 intro g cap w7 hown7 hgr7 hat7 hlt7
 have HE7 := Lib.hid ((HP6.out.drew.alloc (.cells #[.int .i32 x1.n, .int .i32 x4.n] 49)).more ((x1.n : Int), (x4.n : Int)) hgr7 hown7 (hat7.imp_right (by rintro rfl; omega)) hlo)
 have p7 := HE7.out.1.one 4
 have hS7 : w7.cell? ⟨Tb, 0, none⟩ = some (.pointer (some ⟨R, 4, none⟩)) ∧ w7.cell? ⟨R, 4, none⟩ = some u ∧ w7.cell? ⟨w2.heap.size, 2, none⟩ = some (.int .i64 x1.n) ∧ w7.cell? ⟨w5.heap.size, 2, none⟩ = some (.int .i64 x4.n) := by
  refine ⟨HE7.out.2.1.cell, HE7.out.1.more.2.2.1, ?_, ?_⟩
  ·exact (LTk.cells ((hgr7.block w2.heap.size (by simp; have := HT61.out.lt; omega) (row_ne (HP6.out.drew.alloc (.cells #[.int .i32 x1.n, .int .i32 x4.n] 49)).row (HT61.out.drew.alloc (.cells #[.int .i32 x1.n, .int .i32 x4.n] 49)) (by decide)).symm).trans (HT61.out.drew.alloc (.cells #[.int .i32 x1.n, .int .i32 x4.n] 49)))).2.2.1
  ·exact (LTk.cells ((hgr7.block w5.heap.size (by simp; have := HT64.out.lt; omega) (row_ne (HP6.out.drew.alloc (.cells #[.int .i32 x1.n, .int .i32 x4.n] 49)).row (HT64.out.drew.alloc (.cells #[.int .i32 x1.n, .int .i32 x4.n] 49)) (by decide)).symm).trans (HT64.out.drew.alloc (.cells #[.int .i32 x1.n, .int .i32 x4.n] 49)))).2.2.1
 clear hown7 hgr7 hat7
 refine hK.out _ _ (fun _ => hS7) (fun hS => ?_)
 replace hS := hS (by decide)
 refine wpAnyE_take (i := 13) (oi := ?oi13) (v := ?v13) ?hi13 (by kernel_rfl) (by kernel_rfl) (by kernel_rfl) (by kernel_rfl) ?hq13 (Or.inl ⟨?hw13, ?hy13⟩) (by assumption) ?rest13
 case hi13 => exact rfl
 case hq13 => exact fun _ _ _ h => h
 case hw13 => rfl
 case hy13 => (intro x hx; (try dsimp only at hx); simp only [List.getElem_toArray, List.getElem_cons_succ, List.getElem_cons_zero]; go_split_ands; go_simp; try with_reducible rfl)
 try simp only [Act.put, List.setIfInBounds_toArray, List.set_cons_zero, List.set_cons_succ, List.getElem_toArray, List.getElem_cons_succ, List.getElem_cons_zero]
 refine wpAnyE_one (i := 14) (by kernel_rfl) rfl (fun K hK => ?_)
 simp only [List.getElem_toArray, List.getElem_cons_succ, List.getElem_cons_zero]
 go_simp
 refine hK.out _ _ (fun h => absurd rfl h) (fun _ => ?_)
 refine wpAnyE_done (by kernel_rfl) ?_ _
 have eX := HX5.out
 subst eX
 have hk : numsV (l ++ [((x1.n : Int), (x4.n : Int))]) = numsV l ++ [.int .i64 x1.n] := by simp [numsV]
 go_end0
 have h2 := HE7.out.2.2
 rw [← hk] at h2
 exact ⟨k + 1 + 1 + 1 + 1 + 1, rfl, ⟨⟨.slice (some ⟨g, 0, none⟩) (l.length + 1) cap, h2⟩, by rw [List.length_append]; show l.length + 1 ≤ _; omega⟩, HD6.out⟩
end
end Go.Proofs.YthaibekbefndlaaGreatDoor.C

namespace Go.Proofs.YthaibekbefndlaaGreatDoor.C
open Go.RowKit

theorem trip_new (w : World) (k : Nat) (a b c : Value) (t : TypeId) (hk : w.heap.size = k) : ∀ j u, [a, b, c][j]? = some u → (w.alloc (.cells #[a, b, c] t)).cell? ((⟨k, 0, none⟩ : Addr).add j) = some u := by
 subst hk
 intro j u hu
 rw [add_plain, Nat.zero_add, World.cell?_alloc_new]
 simpa using hu
theorem infoElem : (Tryz.prog.info? 34).map (fun i => (i.zero, i.size, i.bytes)) = some (some (.agg #[.string (str []), .slice none 0 0, .int .i64 0]), 3, 48) := by kernel_rfl
theorem OrdAt.snoc {w w' : World} {lo g cap : Nat} {v x : Value} {o : List Elm} {vs : List Value} (c : Elm) (h1 : vs.length = o.length) (h2 : w.ownsRow lo 34 3 v o.length (ordR o vs).flatten) (h3 : ∀ (i : Nat) (e : Elm) (x : Value), o[i]? = some e → vs[i]? = some x → w.ownsRow lo 35 1 x e.cells.length (celC e.cells))
  (hx : w.ownsRow lo 35 1 x c.cells.length (celC c.cells))
  (hg : w.grownBy w' v.ownBlock) (ho : w'.ownsRow lo 34 3 (.slice (some ⟨g, 0, none⟩) (o.length + 1) cap) (o.length + 1) ((ordR o vs).flatten ++ [.string (str c.name), x, .int .i64 c.same])) :
  OrdAt w' lo (.slice (some ⟨g, 0, none⟩) (o.length + 1) cap) (o ++ [c]) := by
 have key : ∀ {n : Nat} {u : Value} {xs : List Value}, w.ownsRow lo 35 1 u n xs → w'.ownsRow lo 35 1 u n xs := fun hu => hu.kept hg (by
  rcases hb : (Value.ownBlock _) with _ | g1
  ·exact .inl rfl
  ·refine .inr fun e => ?_
   obtain ⟨c1, hc1⟩ := ownsRow_ty hu hb
   obtain ⟨c2, hc2⟩ := ownsRow_ty h2 e.symm
   rw [hc1] at hc2
   injection hc2 with hc2
   injection hc2 with _ hc2
   cases hc2)
 refine ⟨vs ++ [x], by simp [h1], by rw [ordR_snoc h1, List.length_append, List.flatten_append]; simpa using ho, ?_⟩
 intro i d y hd hy
 rcases Nat.lt_or_ge i o.length with hi | hi
 ·rw [List.getElem?_append_left hi] at hd
  rw [List.getElem?_append_left (by omega)] at hy
  exact key (h3 i d y hd hy)
 ·rw [List.getElem?_append_right hi] at hd
  rw [List.getElem?_append_right (by omega), h1] at hy
  have e0 : i - o.length = 0 := by
   rcases hq : i - o.length with _ | q
   ·rfl
   ·rw [hq] at hd
    simp at hd
  rw [e0] at hd hy
  simp at hd hy
  subst hd hy
  exact key hx
def AdTold (w : World) (lo R : Nat) (T : TV) (k : Nat) (v1 v2 v3 v4 v5 : Value) (x : Tok) (o : List Elm) (c : List Int) (e : Ending) (w' : World) : Prop :=
 (o.length = 500 ∧ e = .panicked (faultV 3 x.at_) ∧ Below w.heap.size w w') ∨
 (o.length ≠ 500 ∧ e = .returned (.tuple #[]) ∧ (∃ u4, CU w' R T k v1 v2 v3 u4 v5 ∧ OrdAt w' lo u4 (o ++ [⟨x.t, c, o.length⟩]) ∧ ∀ g, u4.ownBlock = some g → v4.ownBlock = some g ∨ w.heap.size ≤ g) ∧ Fr w w' (fun j => j = R ∨ v4.ownBlock = some j))
set_option maxRecDepth 100000 in
set_option maxHeartbeats 8000000 in
theorem addElem_any (w : World) (lo R : Nat) (T : TV) (k : Nat) (v1 v2 v3 v4 v5 v : Value) (x : Tok) (o : List Elm) (c : List Int) (h : CU w R T k v1 v2 v3 v4 v5) (ho : OrdAt w lo v4 o) (hv : w.ownsRow lo 35 1 v c.length (celC c)) (hn : o.length ≤ 2000) (hlo : R < lo) (hlw : lo ≤ w.heap.size) :
  Calls Tryz.prog 135 #[.pointer (some ⟨R, 0, none⟩), tkV x, v] w (AdTold w lo R T k v1 v2 v3 v4 v5 x o c) := by
 obtain ⟨A, cap, rfl⟩ := ho.form
 obtain ⟨Av, cv, rfl⟩ := cells_form hv
 obtain ⟨W1, hW1⟩ : ∃ W1, W1 = w.alloc (.cells #[.int .u8 x.k, .string (str x.t), .int .i64 x.n, .int .i64 x.at_] 92) := ⟨_, rfl⟩
 have hb1 : Below w.heap.size w W1 := by rw [hW1]; exact (Below.refl _ _).alloc (Nat.le_refl _) _
 have hs1 : W1.heap.size = w.heap.size + 1 := by rw [hW1]; simp
 have HT1 : Hid (LTk W1 w.heap.size x) := Lib.hid (by rw [hW1]; exact LTk.new w x)
 have HC1 := Lib.hid (h.next hb1)
 have HB1 := Lib.hid hb1
 have hR := h.lt
 have n0 : (0 : Int) ≤ (o.length : Int) := by omega
 by_cases hfull : o.length = 500
 ·have i5 : (o.length : Int) = 500 := by omega
  have hrf := fun W => refuse_any 3 x W
  unfold tkV at hrf
  have q0 := (h.next hb1).more.2.2.2.1
  obtain ⟨t0, t1, t2, t3⟩ := HT1.out.cells
  rw [hW1] at q0 t0 t1 t2 t3
  clear h ho hv hb1 hs1
  unfold tkV
  go_enter Tryz.func135, Tryz.ntmps135
  go_wp2_with fail
  rw [← hW1]
  refine (hrf _).mono ?_
  rintro e w2 ⟨rfl, hb2⟩
  exact ⟨rfl, .inl ⟨hfull, rfl, HB1.out.trans ⟨hb2.os, hb2.tape, hb2.output, hb2.size, fun i hi => hb2.block i (by have := HB1.out.size; omega)⟩⟩⟩
 have i5 : ¬ (o.length : Int) = 500 := by omega
 have HNF := Lib.hid hfull
 obtain ⟨i0, hi, hz0, hz1, hz2⟩ := info_parts infoElem
 obtain ⟨vs, hv1, hv2, hv3⟩ := ho.next hb1
 have HVS := Lib.hid hv1
 have HO1 := Lib.hid hv2
 have HV3 := Lib.hid hv3
 have hvk : W1.ownsRow lo 35 1 (.slice Av c.length cv) c.length (celC c) := by rw [hW1]; exact hv.alloc _
 have HVK := Lib.hid hvk
 have HRW : Hid (∀ g, (Value.slice A o.length cap).ownBlock = some g → R < g) := Lib.hid fun g hg => by have := (hv2.lt g hg).1; omega
 have HNT : Hid (some w.heap.size ≠ (Value.slice A o.length cap).ownBlock) := Lib.hid (row_ne hv2 HT1.out (by decide)).symm
 have q0 := (h.next hb1).more.2.2.2.1
 rw [hW1] at q0
 have q2 := h.more.2.2.2.1
 clear h ho hv hb1 hv1 hv2 hv3 hvk hfull
 unfold tkV
 go_enter Tryz.func135, Tryz.ntmps135
 go_wp2_with fail
 rw [← hW1]
 clear hW1 q0 q2
 refine wp_region_E (S := fun W => W.cell? ⟨R, 5, none⟩ = some (.slice A o.length cap) ∧ W.cell? ⟨w.heap.size, 1, none⟩ = some (.string (str x.t))) (L := 21) (by kernel_rfl) ?_
 have hS1 : (fun W : World => W.cell? ⟨R, 5, none⟩ = some (.slice A o.length cap) ∧ W.cell? ⟨w.heap.size, 1, none⟩ = some (.string (str x.t))) W1.drew := ⟨HC1.out.more.2.2.2.1, HT1.out.cells.2.1⟩
 refine wpAnyE_take (i := 0) (oi := ?oi0) (v := ?v0) ?hi0 (by kernel_rfl) (by kernel_rfl) (by kernel_rfl) (by kernel_rfl) ?hq0 (Or.inl ⟨?hw0, ?hy0⟩) (by assumption) ?rest0
 case hi0 => exact rfl
 case hq0 => exact fun _ _ _ h => h
 case hw0 => rfl
 case hy0 => (intro x hx; (try dsimp only at hx); simp only [List.getElem_toArray, List.getElem_cons_zero]; go_split_ands; go_simp; try with_reducible rfl)
 try simp only [Act.put, List.setIfInBounds_toArray, List.set_cons_zero, List.set_cons_succ, List.getElem_toArray, List.getElem_cons_zero]
 refine wpAnyE_take (i := 1) (oi := ?oi1) (v := ?v1) ?hi1 (by kernel_rfl) (by kernel_rfl) (by kernel_rfl) (by kernel_rfl) ?hq1 (Or.inl ⟨?hw1, ?hy1⟩) (by assumption) ?rest1
 case hi1 => exact rfl
 case hq1 => exact fun _ _ _ h => h
 case hw1 => rfl
 case hy1 => (intro x hx; (try dsimp only at hx); simp only [List.getElem_toArray, List.getElem_cons_succ, List.getElem_cons_zero]; go_split_ands; go_simp; try with_reducible rfl)
 try simp only [Act.put, List.setIfInBounds_toArray, List.set_cons_zero, List.set_cons_succ, List.getElem_toArray, List.getElem_cons_succ, List.getElem_cons_zero]
 refine wpAnyE_take (i := 2) (oi := ?oi2) (v := ?v2) ?hi2 (by kernel_rfl) (by kernel_rfl) (by kernel_rfl) (by kernel_rfl) ?hq2 (Or.inl ⟨?hw2, ?hy2⟩) (by assumption) ?rest2
 case hi2 => exact rfl
 case hq2 => exact fun _ _ _ h => h
 case hw2 => rfl
 case hy2 => (intro x hx; (try dsimp only at hx); simp only [List.getElem_toArray, List.getElem_cons_succ, List.getElem_cons_zero]; go_split_ands; go_simp; try with_reducible rfl)
 try simp only [Act.put, List.setIfInBounds_toArray, List.set_cons_zero, List.set_cons_succ, List.getElem_toArray, List.getElem_cons_succ, List.getElem_cons_zero]
 refine wpAnyE_take (i := 3) (oi := ?oi3) (v := ?v3) ?hi3 (by kernel_rfl) (by kernel_rfl) (by kernel_rfl) (by kernel_rfl) ?hq3 (Or.inl ⟨?hw3, ?hy3⟩) (by assumption) ?rest3
 case hi3 => exact rfl
 case hq3 => exact fun _ _ _ h => h
 case hw3 => rfl
 case hy3 => (intro x hx; (try dsimp only at hx); simp only [List.getElem_toArray, List.getElem_cons_succ, List.getElem_cons_zero]; go_split_ands; go_simp; try with_reducible rfl)
 try simp only [Act.put, List.setIfInBounds_toArray, List.set_cons_zero, List.set_cons_succ, List.getElem_toArray, List.getElem_cons_succ, List.getElem_cons_zero]
 refine wpAnyE_take (i := 4) (oi := ?oi4) (v := ?v4) ?hi4 (by kernel_rfl) (by kernel_rfl) (by kernel_rfl) (by kernel_rfl) ?hq4 (Or.inl ⟨?hw4, ?hy4⟩) (by assumption) ?rest4
 case hi4 => exact rfl
 case hq4 => exact fun _ _ _ h => h
 case hw4 => rfl
 case hy4 => (intro x hx; (try dsimp only at hx); simp only [List.getElem_toArray, List.getElem_cons_succ, List.getElem_cons_zero]; go_split_ands; go_simp; try with_reducible rfl)
 try simp only [Act.put, List.setIfInBounds_toArray, List.set_cons_zero, List.set_cons_succ, List.getElem_toArray, List.getElem_cons_succ, List.getElem_cons_zero]
 refine wpAnyE_take (i := 5) (oi := ?oi5) (v := ?v5) ?hi5 (by kernel_rfl) (by kernel_rfl) (by kernel_rfl) (by kernel_rfl) ?hq5 (Or.inl ⟨?hw5, ?hy5⟩) (by assumption) ?rest5
 case hi5 => exact rfl
 case hq5 => exact fun _ _ _ h => h
 case hw5 => rfl
 case hy5 => (intro x hx; (try dsimp only at hx); simp only [List.getElem_toArray, List.getElem_cons_succ, List.getElem_cons_zero]; go_split_ands; go_simp; try with_reducible rfl)
 try simp only [Act.put, List.setIfInBounds_toArray, List.set_cons_zero, List.set_cons_succ, List.getElem_toArray, List.getElem_cons_succ, List.getElem_cons_zero]
 refine wpAnyE_take (i := 6) (oi := ?oi6) (v := ?v6) ?hi6 (by kernel_rfl) (by kernel_rfl) (by kernel_rfl) (by kernel_rfl) ?hq6 (Or.inl ⟨?hw6, ?hy6⟩) (by assumption) ?rest6
 case hi6 => exact rfl
 case hq6 => exact fun _ _ _ h => h
 case hw6 => rfl
 case hy6 => (intro x hx; (try dsimp only at hx); simp only [List.getElem_toArray, List.getElem_cons_succ, List.getElem_cons_zero]; go_split_ands; go_simp; try with_reducible rfl)
 try simp only [Act.put, List.setIfInBounds_toArray, List.set_cons_zero, List.set_cons_succ, List.getElem_toArray, List.getElem_cons_succ, List.getElem_cons_zero]
 refine wpAnyE_take (i := 7) (oi := ?oi7) (v := ?v7) ?hi7 (by kernel_rfl) (by kernel_rfl) (by kernel_rfl) (by kernel_rfl) ?hq7 (Or.inl ⟨?hw7, ?hy7⟩) (by assumption) ?rest7
 case hi7 => exact rfl
 case hq7 => exact fun _ _ _ h => h
 case hw7 => rfl
 case hy7 => (intro x hx; (try dsimp only at hx); simp only [List.getElem_toArray, List.getElem_cons_succ, List.getElem_cons_zero]; go_split_ands; go_simp; try with_reducible rfl)
 try simp only [Act.put, List.setIfInBounds_toArray, List.set_cons_zero, List.set_cons_succ, List.getElem_toArray, List.getElem_cons_succ, List.getElem_cons_zero]
 refine wpAnyE_take (i := 8) (oi := ?oi8) (v := ?v8) ?hi8 (by kernel_rfl) (by kernel_rfl) (by kernel_rfl) (by kernel_rfl) ?hq8 (Or.inl ⟨?hw8, ?hy8⟩) (by assumption) ?rest8
 case hi8 => exact rfl
 case hq8 => exact fun _ _ _ h => h
 case hw8 => rfl
 case hy8 => (intro x hx; (try dsimp only at hx); simp only [List.getElem_toArray, List.getElem_cons_succ, List.getElem_cons_zero]; go_split_ands; go_simp; try with_reducible rfl)
 try simp only [Act.put, List.setIfInBounds_toArray, List.set_cons_zero, List.set_cons_succ, List.getElem_toArray, List.getElem_cons_succ, List.getElem_cons_zero]
 refine wpAnyE_take (i := 9) (oi := ?oi9) (v := ?v9) ?hi9 (by kernel_rfl) (by kernel_rfl) (by kernel_rfl) (by kernel_rfl) ?hq9 (Or.inl ⟨?hw9, ?hy9⟩) (by assumption) ?rest9
 case hi9 => exact rfl
 case hq9 => exact fun _ _ _ h => h
 case hw9 => rfl
 case hy9 => (intro x hx; (try dsimp only at hx); simp only [List.getElem_toArray, List.getElem_cons_succ, List.getElem_cons_zero]; go_split_ands; go_simp; try with_reducible rfl)
 try simp only [Act.put, List.setIfInBounds_toArray, List.set_cons_zero, List.set_cons_succ, List.getElem_toArray, List.getElem_cons_succ, List.getElem_cons_zero]
 refine wpAnyE_take (i := 10) (oi := ?oi10) (v := ?v10) ?hi10 (by kernel_rfl) (by kernel_rfl) (by kernel_rfl) (by kernel_rfl) ?hq10 (Or.inl ⟨?hw10, ?hy10⟩) (by assumption) ?rest10
 case hi10 => exact rfl
 case hq10 => exact fun _ _ _ h => h
 case hw10 => rfl
 case hy10 => (intro x hx; (try dsimp only at hx); simp only [List.getElem_toArray, List.getElem_cons_succ, List.getElem_cons_zero]; go_split_ands; go_simp; try with_reducible rfl)
 try simp only [Act.put, List.setIfInBounds_toArray, List.set_cons_zero, List.set_cons_succ, List.getElem_toArray, List.getElem_cons_succ, List.getElem_cons_zero]
 refine wpAnyE_take (i := 11) (oi := ?oi11) (v := ?v11) ?hi11 (by kernel_rfl) (by kernel_rfl) (by kernel_rfl) (by kernel_rfl) ?hq11 (Or.inl ⟨?hw11, ?hy11⟩) (by assumption) ?rest11
 case hi11 => exact rfl
 case hq11 => exact fun _ _ _ h => h
 case hw11 => rfl
 case hy11 => (intro x hx; (try dsimp only at hx); simp only [List.getElem_toArray, List.getElem_cons_succ, List.getElem_cons_zero]; go_split_ands; go_simp; try with_reducible rfl)
 try simp only [Act.put, List.setIfInBounds_toArray, List.set_cons_zero, List.set_cons_succ, List.getElem_toArray, List.getElem_cons_succ, List.getElem_cons_zero]
 refine wpAnyE_take (i := 12) (oi := ?oi12) (v := ?v12) ?hi12 (by kernel_rfl) (by kernel_rfl) (by kernel_rfl) (by kernel_rfl) ?hq12 (Or.inl ⟨?hw12, ?hy12⟩) (by assumption) ?rest12
 case hi12 => exact rfl
 case hq12 => exact fun _ _ _ h => h
 case hw12 => rfl
 case hy12 => (intro x hx; (try dsimp only at hx); simp only [List.getElem_toArray, List.getElem_cons_succ, List.getElem_cons_zero]; go_split_ands; go_simp; try with_reducible rfl)
 try simp only [Act.put, List.setIfInBounds_toArray, List.set_cons_zero, List.set_cons_succ, List.getElem_toArray, List.getElem_cons_succ, List.getElem_cons_zero]
 refine wpAnyE_take (i := 13) (oi := ?oi13) (v := ?v13) ?hi13 (by kernel_rfl) (by kernel_rfl) (by kernel_rfl) (by kernel_rfl) ?hq13 (Or.inl ⟨?hw13, ?hy13⟩) (by assumption) ?rest13
 case hi13 => exact rfl
 case hq13 => exact fun _ _ _ h => h
 case hw13 => rfl
 case hy13 => (intro x hx; (try dsimp only at hx); simp only [List.getElem_toArray, List.getElem_cons_succ, List.getElem_cons_zero]; go_split_ands; go_simp; try with_reducible rfl)
 try simp only [Act.put, List.setIfInBounds_toArray, List.set_cons_zero, List.set_cons_succ, List.getElem_toArray, List.getElem_cons_succ, List.getElem_cons_zero]
 refine wpAnyE_one (i := 14) (by kernel_rfl) rfl (fun K hK => ?_)
 go_simp
 refine hK.out _ _ (fun _ => hS1) (fun hS => ?_)
 replace hS := hS (by decide)
 refine wpAnyE_take (i := 15) (oi := ?oi15) (v := ?v15) ?hi15 (by kernel_rfl) (by kernel_rfl) (by kernel_rfl) (by kernel_rfl) ?hq15 (Or.inl ⟨?hw15, ?hy15⟩) (by assumption) ?rest15
 case hi15 => exact rfl
 case hq15 => exact fun _ _ _ h => h
 case hw15 => rfl
 case hy15 => (intro x hx; (try dsimp only at hx); simp only [List.getElem_toArray, List.getElem_cons_succ, List.getElem_cons_zero]; go_split_ands; go_simp; try with_reducible rfl)
 try simp only [Act.put, List.setIfInBounds_toArray, List.set_cons_zero, List.set_cons_succ, List.getElem_toArray, List.getElem_cons_succ, List.getElem_cons_zero]
 refine wpAnyE_one (i := 16) (by kernel_rfl) rfl (fun K hK => ?_)
 simp only [List.getElem_toArray, List.getElem_cons_succ, List.getElem_cons_zero]
 go_simp
 refine hK.out _ _ (fun _ => ⟨(HC1.out.drew.alloc (.cells #[.string (str x.t), .slice Av c.length cv, .int .i64 o.length] 34)).more.2.2.2.1, (HT1.out.drew.alloc (.cells #[.string (str x.t), .slice Av c.length cv, .int .i64 o.length] 34)).cells.2.1⟩) (fun hS => ?_)
 replace hS := hS (by decide)
 refine wpAnyE_one (i := 17) (by kernel_rfl) rfl (fun K hK => ?_)
 refine step_append_lies _ (by rfl) _ _ _ (by rfl) lo 34 i0 (.agg #[.string (str []), .slice none 0 0, .int .i64 0]) 3 48 Tryz.underlying24 hi hz0 hz1 hz2 rfl (by decide) (.slice A o.length cap) o.length (ordR o vs).flatten (by rfl) (HO1.out.drew.alloc _) ⟨w.heap.size + 1, 0, none⟩ 1 1 [.string (str x.t), .slice Av c.length cv, .int .i64 o.length] (by rfl) (by rfl) (trip_new _ _ _ _ _ _ hs1) (by intro u hu; simp at hu; rcases hu with rfl | rfl | rfl <;> rfl) (by omega) (by unfold maxLen; omega) (by omega) (by simp; omega) (w.heap.size + 1 + 1) (by simp [hs1]) ?_
 intro g cap2 w5 hown5 hgr5 hat5 hlt5
 have HG5 := Lib.hid hgr5
 have HO5 := Lib.hid hown5
 have HAT5 := Lib.hid hat5
 have HC5 := Lib.hid ((HC1.out.drew.alloc (.cells #[.string (str x.t), .slice Av c.length cv, .int .i64 o.length] 34)).kept hgr5 HRW.out)
 have p5 := HC5.out.one 5
 have hS5 : w5.cell? ⟨R, 5, none⟩ = some (.slice A o.length cap) ∧ w5.cell? ⟨w.heap.size, 1, none⟩ = some (.string (str x.t)) := by
  refine ⟨HC5.out.more.2.2.2.1, ?_⟩
  exact (LTk.cells ((hgr5.block w.heap.size (by simp; have := HT1.out.lt; omega) HNT.out).trans (HT1.out.drew.alloc (.cells #[.string (str x.t), .slice Av c.length cv, .int .i64 o.length] 34)))).2.1
 clear hown5 hgr5 hat5
 refine hK.out _ _ (fun _ => hS5) (fun hS => ?_)
 replace hS := hS (by decide)
 refine wpAnyE_one (i := 18) (by kernel_rfl) rfl (fun K hK => ?_)
 simp only [List.getElem_toArray, List.getElem_cons_succ, List.getElem_cons_zero]
 go_simp
 refine hK.out _ _ (fun _ => hS5) (fun hS => ?_)
 replace hS := hS (by decide)
 refine wpAnyE_one (i := 19) (by kernel_rfl) rfl (fun K hK => ?_)
 simp only [List.getElem_toArray, List.getElem_cons_succ, List.getElem_cons_zero]
 go_simp
 refine hK.out _ _ (fun _ => hS5) (fun hS => ?_)
 replace hS := hS (by decide)
 refine wpAnyE_take (i := 20) (oi := ?oi20) (v := ?v20) ?hi20 (by kernel_rfl) (by kernel_rfl) (by kernel_rfl) (by kernel_rfl) ?hq20 (Or.inl ⟨?hw20, ?hy20⟩) (by assumption) ?rest20
 case hi20 => exact rfl
 case hq20 => exact fun _ _ _ h => h
 case hw20 => rfl
 case hy20 => (intro x hx; (try dsimp only at hx); simp only [List.getElem_toArray, List.getElem_cons_succ, List.getElem_cons_zero]; go_split_ands; go_simp; try with_reducible rfl)
 try simp only [Act.put, List.setIfInBounds_toArray, List.set_cons_zero, List.set_cons_succ, List.getElem_toArray, List.getElem_cons_succ, List.getElem_cons_zero]
 refine wpAnyE_one (i := 21) (by kernel_rfl) rfl (fun K hK => ?_)
 simp only [List.getElem_toArray, List.getElem_cons_succ, List.getElem_cons_zero]
 go_simp
 refine hK.out _ _ (fun h => absurd rfl h) (fun _ => ?_)
 refine wpAnyE_done (by kernel_rfl) ?_ _
 have hf5 : Fr w w5 (fun j => (Value.slice A o.length cap).ownBlock = some j) := ((Fr.of_below HB1.out).drew.alloc (.cells #[.string (str x.t), .slice Av c.length cv, .int .i64 o.length] 34)).next (Fr.of_grown HG5.out) (fun _ _ e => e)
 have hcl5 := OrdAt.snoc (cap := cap2) (g := g) ⟨x.t, c, o.length⟩ HVS.out (HO1.out.drew.alloc (.cells #[.string (str x.t), .slice Av c.length cv, .int .i64 o.length] 34)) (fun i c x hc hx => (HV3.out i c x hc hx).drew.alloc _) (HVK.out.drew.alloc _) HG5.out HO5.out
 have hset : Fr w5 (w5.setCell ⟨R, 5, none⟩ (.slice (some ⟨g, 0, none⟩) (o.length + 1) cap2)) (· = R) := (Fr.of_below (Below.refl _ w5)).set _ _ (fun _ => rfl)
 go_end0
 refine .inr ⟨HNF.out, rfl, ⟨_, HC5.out.set4 _, hcl5.frR HC5.out hset, ?_⟩, (hf5.mono fun j _ e => .inr e).next hset (fun j _ e => .inl e)⟩
 intro j e
 have e2 : g = j := by injection e
 subst e2
 rcases HAT5.out with e | e
 ·exact .inl e
 ·exact .inr (by omega)
end Go.Proofs.YthaibekbefndlaaGreatDoor.C
