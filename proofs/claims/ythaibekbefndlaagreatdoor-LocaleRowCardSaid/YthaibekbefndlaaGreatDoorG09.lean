/-
  Joined: LcX, LcY, MLxM, MUtfE, MUtfCan, MCellE, MCellF, MUtfQ. Each with what its own head says.
-/
import Derived.Test.YthaibekbefndlaaGreatDoorG08
import Derived.Test.YthaibekbefndlaaGreatDoorG05
import Derived.Test.YthaibekbefndlaaGreatDoorG00
import Derived.Lib.RuneBytes
import Derived.Laws.BytesArg
import Derived.Lib.Walk
import Derived.Lib.RuneCount
import Derived.Lib.Strings
import Derived.Lib.Slices
import Derived.Laws.Strings3
import Derived.Laws.RangeString
import Derived.Laws.RangeAny
import Derived.Lib.OthersKept
import Derived.WalkSpells
import Derived.WalkSmall
import Derived.Maps.AppendAt

namespace Go.Proofs.YthaibekbefndlaaGreatDoor.C
open Go.RowKit

section
variable (w0 : World) (u0 : Value) (lo R : Nat) (T : TV) (v1 v2 v4 v5 : Value) (A M Rb Ab Tb : Nat)
set_option maxRecDepth 100000 in
set_option maxHeartbeats 8000000 in
theorem pairItemL_any (l : List (Int × Int)) (k : Nat) (u : Value) (w : World) (hP : PrL w0 u0 lo R T v1 v2 v4 v5 A M Rb Ab Tb u (numsV l) l k w) (hl : l.length ≤ k) (hN : NumOk T) (hE : Ended (T.ts.drop k)) (hlo : R < lo) (hlw : lo ≤ w0.heap.size) (hM : R < M) :
    Calls Tryz.prog 127 #[.pointer (some ⟨Rb, 0, none⟩), .pointer (some ⟨Ab, 0, none⟩), .pointer (some ⟨Tb, 0, none⟩)] w
      (ItTold T (fun l' k' W => (∃ u', PrL w0 u0 lo R T v1 v2 v4 v5 A M Rb Ab Tb u' (numsV l') l' k' W) ∧ l'.length ≤ k') (fun W => Fr w0 W (fun j => j = R ∨ j = M ∨ u0.ownBlock = some j)) (pairL l (T.ts.drop k))) := by
  have HP := Lib.hid hP
  have hsz := hP.fr.size
  have hkT := hP.cu.2.2
  have q0 := hP.rb.cell
  obtain ⟨i0, hi, hz0, hz1, hz2⟩ := info_parts infoPair
  obtain ⟨x0, r0, hx0⟩ := hE.some_
  obtain ⟨X, hX⟩ : ∃ X, X = pairL l (T.ts.drop k) := ⟨_, rfl⟩
  rw [← hX]
  rw [hx0] at hX
  by_cases c0 : x0.k = 2 ∧ x0.t = sOpen
  rotate_left
  · have hta := takeText_no w R T k v1 v2 u v4 v5 x0 r0 2 sOpen hP.cu hx0 c0
    rw [hX, pairL_no c0]
    clear hP hN hE hX c0 hx0
    go_enter Tryz.func127, Tryz.ntmps127
    go_wp2_with fail
    refine hta.mono ?_
    rintro e w1 ⟨rfl, hm1⟩
    exact ⟨rfl, rfl, HP.out.fr.next (Fr.of_moved hm1) (fun j _ e => .inl e)⟩
  have hta := takeText_yes w R T k v1 v2 u v4 v5 x0 r0 2 sOpen hP.cu hx0 c0.1 c0.2
  have HX := Lib.hid (hX.trans (pairL_yes c0))
  rw [hx0] at hE
  have hE1 := hE.cons (by omega)
  obtain ⟨x1, r1, hx1⟩ := hE1.some_
  have hd1 : T.ts.drop (k + 1) = x1 :: r1 := (drop_next hx0).trans hx1
  have HD1 := Lib.hid hd1
  have HE1 := Lib.hid (hx1 ▸ hE1)
  rw [hx1] at HX
  have hn1 := hN.at_ hd1
  have HN := Lib.hid hN
  clear hP hN hE hX c0 hx0 hE1 hx1 hd1
  go_enter Tryz.func127, Tryz.ntmps127
  go_wp2_with fail
  refine hta.mono ?_
  rintro e w1 ⟨rfl, hc1, hm1⟩
  have HP1 := Lib.hid (HP.out.go hc1 hm1)
  have q1 := HP1.out.rb.cell
  clear hc1 hm1 hta q0
  by_cases c1 : x1.k = 3
  rotate_left
  · have hta := take1_no w1 R T (k + 1) v1 v2 u v4 v5 x1 r1 _ rfl 3 HP1.out.cu HD1.out c1
    have HX2 := Lib.hid (HX.out.trans (pairA_no c1))
    clear c1
    go_wp2_with fail
    refine hta.mono ?_
    rintro e w2 ⟨rfl, hm2⟩
    have eX := HX2.out
    subst eX
    exact ⟨rfl, rfl, HP1.out.fr.next (Fr.of_moved hm2) (fun j _ e => .inl e)⟩
  have hta := take1_yes w1 R T (k + 1) v1 v2 u v4 v5 x1 r1 _ rfl 3 HP1.out.cu HD1.out c1
  have n10 : (0 : Int) ≤ (x1.n : Int) := by omega
  have n11 : (x1.n : Int) ≤ 1114111 := by omega
  have C1 := Lib.hid c1
  clear c1
  go_wp2_with fail
  refine hta.mono ?_
  rintro e w2 ⟨rfl, hc2, hm2⟩
  have HP2 := Lib.hid (HP1.out.go hc2 hm2)
  obtain ⟨W2, hW2⟩ : ∃ W2, W2 = w2.alloc (.cells #[.int .u8 x1.k, .string (str x1.t), .int .i64 x1.n, .int .i64 x1.at_] 92) := ⟨_, rfl⟩
  have HPW : Hid (PrL w0 u0 lo R T v1 v2 v4 v5 A M Rb Ab Tb u (numsV l) l (k + 1 + 1) W2) := Lib.hid (by rw [hW2]; exact HP2.out.alloc _)
  have HT1 : Hid (LTk W2 w2.heap.size x1) := Lib.hid (by rw [hW2]; exact LTk.new w2 x1)
  obtain ⟨-, -, p1, -⟩ := HT1.out.cells
  have p2 := HPW.out.ab.cell
  have p3 := HP2.out.ab.cell
  have p4 := HP2.out.ab.lt
  have hbR : w2.heap.size ≠ R := by have := HP2.out.cu.lt; omega
  have hb1M : w2.heap.size ≠ M := by have := HP2.out.ft.2.lt; omega
  unfold FnI at p2 p3
  rw [hW2] at p1 p2
  clear hc2 hm2 hta q1
  unfold tkV
  have hyn : Calls Tryz.prog 170 #[.int .i64 x1.n, .pointer (some ⟨A, 0, none⟩)] W2 fun e w' => (((x1.n : Int) ∈ l.map Prod.fst ∧ e = .returned (.bool false)) ∨ ((x1.n : Int) ∉ l.map Prod.fst ∧ e = .returned (.bool true) ∧ FT w' 200 (.int .i64) A M (numsV l ++ [.int .i64 x1.n]))) ∧ W2.grownBy w' (some M) := by
    by_cases c2 : (x1.n : Int) ∈ l.map Prod.fst
    · exact (isNewI_no W2 A M (numsV l) x1.n HPW.out.ft (nums_in.2 c2)).mono fun e w' h => ⟨.inl ⟨c2, h.1⟩, h.2⟩
    · exact (isNewI_yes W2 A M (numsV l) x1.n HPW.out.ft (fun h => c2 (nums_in.1 h))).mono fun e w' h => ⟨.inr ⟨c2, h.1, h.2.1⟩, h.2.2⟩
  go_wp2_with fail
  rw [← hW2]
  clear hW2 p1 p2 p3 p4
  refine hyn.mono ?_
  rintro e w3 ⟨hcase, hg3⟩
  have HT3 : Hid (LTk w3 w2.heap.size x1) := Lib.hid ((hg3.block _ HT1.out.lt (by intro e; injection e; omega)).trans HT1.out)
  obtain ⟨a0, a1, a2, a3⟩ := HT3.out.cells
  rcases hcase with ⟨c2, rfl⟩ | ⟨c2, rfl, hft3⟩
  · have HX2 := Lib.hid (HX.out.trans (pairA_twice C1.out c2))
    have hrf := fun W => refuse_any 32 x1 W
    unfold tkV at hrf
    have HF3 := Lib.hid ((HPW.out.fr.next (Fr.of_grown hg3) (fun j _ e => .inr (.inl (by injection e with e; exact e.symm)))))
    clear hg3 hyn c2
    go_wp2_with fail
    refine (hrf _).mono ?_
    rintro e w4 ⟨rfl, hb4⟩
    have eX := HX2.out
    subst eX
    exact ⟨rfl, rfl, HF3.out.trans (.of_below hb4)⟩
  have HP3 := Lib.hid (HPW.out.asked hft3 hg3 hM)
  have q3 := HP3.out.rb.cell
  have HX2 := Lib.hid (HX.out.trans (pairA_yes C1.out c2))
  have hE2 := HE1.out.cons (by rw [C1.out]; omega)
  obtain ⟨x2, r2, hx2⟩ := hE2.some_
  have hd2 : T.ts.drop (k + 1 + 1) = x2 :: r2 := (drop_next HD1.out).trans hx2
  have HD2 := Lib.hid hd2
  have HE2 := Lib.hid (hx2 ▸ hE2)
  rw [hx2] at HX2
  clear hg3 hyn hft3 c2 hE2 hx2 hd2 hn1
  by_cases c2 : x2.k = 2 ∧ x2.t = sComma
  rotate_left
  · have hta := takeText_no w3 R T (k + 1 + 1) v1 v2 u v4 v5 x2 r2 2 sComma HP3.out.cu HD2.out c2
    have HX3 := Lib.hid (HX2.out.trans (pairB_no c2))
    clear c2
    go_wp2_with fail
    refine hta.mono ?_
    rintro e w4 ⟨rfl, hm4⟩
    have eX := HX3.out
    subst eX
    exact ⟨rfl, rfl, HP3.out.fr.next (Fr.of_moved hm4) (fun j _ e => .inl e)⟩
  have hta := takeText_yes w3 R T (k + 1 + 1) v1 v2 u v4 v5 x2 r2 2 sComma HP3.out.cu HD2.out c2.1 c2.2
  have HX3 := Lib.hid (HX2.out.trans (pairB_yes c2))
  have hE3 := HE2.out.cons (by omega)
  clear c2
  go_wp2_with fail
  refine hta.mono ?_
  rintro e w4 ⟨rfl, hc4, hm4⟩
  have HP4 := Lib.hid (HP3.out.go hc4 hm4)
  have HT4 := Lib.hid (HT3.out.moved hm4 hbR)
  have q4 := HP4.out.rb.cell
  obtain ⟨x4, r4, hx4⟩ := hE3.some_
  have hd4 : T.ts.drop (k + 1 + 1 + 1) = x4 :: r4 := (drop_next HD2.out).trans hx4
  have HD4 := Lib.hid hd4
  have HE4 := Lib.hid (hx4 ▸ hE3)
  rw [hx4] at HX3
  have hn4 := HN.out.at_ hd4
  clear hc4 hm4 hta q3 a0 a1 a2 a3 hE3 hx4 hd4
  by_cases c4 : x4.k = 3
  rotate_left
  · have hta := take1_no w4 R T (k + 1 + 1 + 1) v1 v2 u v4 v5 x4 r4 _ rfl 3 HP4.out.cu HD4.out c4
    have HX4 := Lib.hid (HX3.out.trans (pairC_no c4))
    clear c4
    go_wp2_with fail
    refine hta.mono ?_
    rintro e w5 ⟨rfl, hm5⟩
    have eX := HX4.out
    subst eX
    exact ⟨rfl, rfl, HP4.out.fr.next (Fr.of_moved hm5) (fun j _ e => .inl e)⟩
  have hta := take1_yes w4 R T (k + 1 + 1 + 1) v1 v2 u v4 v5 x4 r4 _ rfl 3 HP4.out.cu HD4.out c4
  have HX4 := Lib.hid (HX3.out.trans (pairC_yes c4))
  have hE5 := HE4.out.cons (by omega)
  have n40 : (0 : Int) ≤ (x4.n : Int) := by omega
  have n41 : (x4.n : Int) ≤ 1114111 := by omega
  clear c4
  go_wp2_with fail
  refine hta.mono ?_
  rintro e w5 ⟨rfl, hc5, hm5⟩
  obtain ⟨W5, hW5⟩ : ∃ W5, W5 = w5.alloc (.cells #[.int .u8 x4.k, .string (str x4.t), .int .i64 x4.n, .int .i64 x4.at_] 92) := ⟨_, rfl⟩
  have HPW5 : Hid (PrL w0 u0 lo R T v1 v2 v4 v5 A M Rb Ab Tb u (numsV l ++ [.int .i64 x1.n]) l (k + 1 + 1 + 1 + 1) W5) := Lib.hid (by rw [hW5]; exact (HP4.out.go hc5 hm5).alloc _)
  have HT51 : Hid (LTk W5 w2.heap.size x1) := Lib.hid (by rw [hW5]; exact (HT4.out.moved hm5 hbR).alloc _)
  have HT54 : Hid (LTk W5 w5.heap.size x4) := Lib.hid (by rw [hW5]; exact LTk.new w5 x4)
  have p2 := HPW5.out.rb.cell
  have p3 := (HP4.out.go hc5 hm5).rb.cell
  have p4 := (HP4.out.go hc5 hm5).rb.lt
  have hb5R : w5.heap.size ≠ R := by have := hc5.lt; omega
  rw [hW5] at p2
  obtain ⟨x5, r5, hx5⟩ := hE5.some_
  have hd5 : T.ts.drop (k + 1 + 1 + 1 + 1) = x5 :: r5 := (drop_next HD4.out).trans hx5
  have HD5 := Lib.hid hd5
  rw [hx5] at HX4
  clear hc5 hm5 hta q4 hE5 hx5 hd5 hn4
  unfold tkV
  by_cases c5 : x5.k = 2 ∧ x5.t = sShut
  rotate_left
  · have hta := takeText_no W5 R T (k + 1 + 1 + 1 + 1) v1 v2 u v4 v5 x5 r5 2 sShut HPW5.out.cu HD5.out c5
    have HX5 := Lib.hid (HX4.out.trans (pairD_no c5))
    clear c5
    go_wp2_with fail
    rw [← hW5]
    refine hta.mono ?_
    rintro e w6 ⟨rfl, hm6⟩
    have eX := HX5.out
    subst eX
    exact ⟨rfl, rfl, HPW5.out.fr.next (Fr.of_moved hm6) (fun j _ e => .inl e)⟩
  have hta := takeText_yes W5 R T (k + 1 + 1 + 1 + 1) v1 v2 u v4 v5 x5 r5 2 sShut HPW5.out.cu HD5.out c5.1 c5.2
  have HX5 := Lib.hid (HX4.out.trans (pairD_yes c5))
  have HD6 := Lib.hid (drop_next HD5.out)
  clear c5
  go_wp2_with fail
  rw [← hW5]
  clear hW5 p2 p3 p4
  refine hta.mono ?_
  rintro e w6 ⟨rfl, hc6, hm6⟩
  have HP6 := Lib.hid (HPW5.out.go hc6 hm6)
  have HT61 := Lib.hid (HT51.out.moved hm6 hbR)
  have HT64 := Lib.hid (HT54.out.moved hm6 hb5R)
  have hs6 := HP6.out.fr.size
  have hR6 := hc6.lt
  clear hc6 hm6 hta
  go_wp2_with fail
  have e1 : IntKind.i32.wrap (x1.n : Int) = (x1.n : Int) := wrap32 n10 n11
  have e4 : IntKind.i32.wrap (x4.n : Int) = (x4.n : Int) := wrap32 n40 n41
  refine wp_region_E (S := fun W => W.cell? ⟨Tb, 0, none⟩ = some (.pointer (some ⟨R, 4, none⟩)) ∧ W.cell? ⟨R, 4, none⟩ = some u ∧ W.cell? ⟨w2.heap.size, 2, none⟩ = some (.int .i64 x1.n) ∧ W.cell? ⟨w5.heap.size, 2, none⟩ = some (.int .i64 x4.n)) (L := 14) (by kernel_rfl) ?_
  have hS6 : (fun W : World => W.cell? ⟨Tb, 0, none⟩ = some (.pointer (some ⟨R, 4, none⟩)) ∧ W.cell? ⟨R, 4, none⟩ = some u ∧ W.cell? ⟨w2.heap.size, 2, none⟩ = some (.int .i64 x1.n) ∧ W.cell? ⟨w5.heap.size, 2, none⟩ = some (.int .i64 x4.n)) w6.drew := ⟨HP6.out.tb.cell, HP6.out.cu.more.2.2.1, HT61.out.cells.2.2.1, HT64.out.cells.2.2.1⟩
  refine wpAnyE_take (i := 0) (oi := ?oi0) (v := ?v0) ?hi0 (by kernel_rfl) (by kernel_rfl) (by kernel_rfl) (by kernel_rfl) ?hq0 (Or.inl ⟨?hw0, ?hy0⟩) (by assumption) ?rest0
  case hi0 => exact rfl
  case hq0 => exact fun _ _ _ h => h
  case hw0 => rfl
  case hy0 => (intro x hx; (try dsimp only at hx); simp only [List.getElem_toArray, List.getElem_cons_zero]; go_split_ands; go_simp; try with_reducible rfl)
  try simp only [Act.put, List.setIfInBounds_toArray, List.set_cons_zero, List.set_cons_succ, List.getElem_toArray, List.getElem_cons_zero]
  refine wpAnyE_take (i := 1) (oi := ?oi1) (v := ?v1) ?hi1 (by kernel_rfl) (by kernel_rfl) (by kernel_rfl) (by kernel_rfl) ?hq1 (Or.inl ⟨?hw1, ?hy1⟩) (by assumption) ?rest1
  case hi1 => exact rfl
  case hq1 => exact fun _ _ _ h => h
  case hw1 => rfl
  case hy1 => (intro x hx; (try dsimp only at hx); simp only [List.getElem_toArray, List.getElem_cons_succ, List.getElem_cons_zero]; go_split_ands; go_simp; try with_reducible rfl)
  try simp only [Act.put, List.setIfInBounds_toArray, List.set_cons_zero, List.set_cons_succ, List.getElem_toArray, List.getElem_cons_succ, List.getElem_cons_zero]
  refine wpAnyE_take (i := 2) (oi := ?oi2) (v := ?v2) ?hi2 (by kernel_rfl) (by kernel_rfl) (by kernel_rfl) (by kernel_rfl) ?hq2 (Or.inl ⟨?hw2, ?hy2⟩) (by assumption) ?rest2
  case hi2 => exact rfl
  case hq2 => exact fun _ _ _ h => h
  case hw2 => rfl
  case hy2 => (intro x hx; (try dsimp only at hx); simp only [List.getElem_toArray, List.getElem_cons_succ, List.getElem_cons_zero]; go_split_ands; go_simp; try with_reducible rfl)
  try simp only [Act.put, List.setIfInBounds_toArray, List.set_cons_zero, List.set_cons_succ, List.getElem_toArray, List.getElem_cons_succ, List.getElem_cons_zero]
  refine wpAnyE_take (i := 3) (oi := ?oi3) (v := ?v3) ?hi3 (by kernel_rfl) (by kernel_rfl) (by kernel_rfl) (by kernel_rfl) ?hq3 (Or.inl ⟨?hw3, ?hy3⟩) (by assumption) ?rest3
  case hi3 => exact rfl
  case hq3 => exact fun _ _ _ h => h
  case hw3 => rfl
  case hy3 => (intro x hx; (try dsimp only at hx); simp only [List.getElem_toArray, List.getElem_cons_succ, List.getElem_cons_zero]; go_split_ands; go_simp; try with_reducible rfl)
  try simp only [Act.put, List.setIfInBounds_toArray, List.set_cons_zero, List.set_cons_succ, List.getElem_toArray, List.getElem_cons_succ, List.getElem_cons_zero]
  refine wpAnyE_take (i := 4) (oi := ?oi4) (v := ?v4) ?hi4 (by kernel_rfl) (by kernel_rfl) (by kernel_rfl) (by kernel_rfl) ?hq4 (Or.inl ⟨?hw4, ?hy4⟩) (by assumption) ?rest4
  case hi4 => exact rfl
  case hq4 => exact fun _ _ _ h => h
  case hw4 => rfl
  case hy4 => (intro x hx; (try dsimp only at hx); simp only [List.getElem_toArray, List.getElem_cons_succ, List.getElem_cons_zero]; go_split_ands; go_simp; try with_reducible rfl)
  try simp only [Act.put, List.setIfInBounds_toArray, List.set_cons_zero, List.set_cons_succ, List.getElem_toArray, List.getElem_cons_succ, List.getElem_cons_zero]
  refine wpAnyE_take (i := 5) (oi := ?oi5) (v := ?v5) ?hi5 (by kernel_rfl) (by kernel_rfl) (by kernel_rfl) (by kernel_rfl) ?hq5 (Or.inl ⟨?hw5, ?hy5⟩) (by assumption) ?rest5
  case hi5 => exact rfl
  case hq5 => exact fun _ _ _ h => h
  case hw5 => rfl
  case hy5 => (intro x hx; (try dsimp only at hx); simp only [List.getElem_toArray, List.getElem_cons_succ, List.getElem_cons_zero]; go_split_ands; go_simp; try with_reducible rfl)
  try simp only [Act.put, List.setIfInBounds_toArray, List.set_cons_zero, List.set_cons_succ, List.getElem_toArray, List.getElem_cons_succ, List.getElem_cons_zero]
  refine wpAnyE_take (i := 6) (oi := ?oi6) (v := ?v6) ?hi6 (by kernel_rfl) (by kernel_rfl) (by kernel_rfl) (by kernel_rfl) ?hq6 (Or.inl ⟨?hw6, ?hy6⟩) (by assumption) ?rest6
  case hi6 => exact rfl
  case hq6 => exact fun _ _ _ h => h
  case hw6 => rfl
  case hy6 => (intro x hx; (try dsimp only at hx); simp only [List.getElem_toArray, List.getElem_cons_succ, List.getElem_cons_zero]; go_split_ands; go_simp; try with_reducible rfl)
  try simp only [Act.put, List.setIfInBounds_toArray, List.set_cons_zero, List.set_cons_succ, List.getElem_toArray, List.getElem_cons_succ, List.getElem_cons_zero]
  refine wpAnyE_take (i := 7) (oi := ?oi7) (v := ?v7) ?hi7 (by kernel_rfl) (by kernel_rfl) (by kernel_rfl) (by kernel_rfl) ?hq7 (Or.inl ⟨?hw7, ?hy7⟩) (by assumption) ?rest7
  case hi7 => exact rfl
  case hq7 => exact fun _ _ _ h => h
  case hw7 => rfl
  case hy7 => (intro x hx; (try dsimp only at hx); simp only [List.getElem_toArray, List.getElem_cons_succ, List.getElem_cons_zero]; go_split_ands; go_simp; try with_reducible rfl)
  try simp only [Act.put, List.setIfInBounds_toArray, List.set_cons_zero, List.set_cons_succ, List.getElem_toArray, List.getElem_cons_succ, List.getElem_cons_zero]
  refine wpAnyE_take (i := 8) (oi := ?oi8) (v := ?v8) ?hi8 (by kernel_rfl) (by kernel_rfl) (by kernel_rfl) (by kernel_rfl) ?hq8 (Or.inl ⟨?hw8, ?hy8⟩) (by assumption) ?rest8
  case hi8 => exact rfl
  case hq8 => exact fun _ _ _ h => h
  case hw8 => rfl
  case hy8 => (intro x hx; (try dsimp only at hx); simp only [List.getElem_toArray, List.getElem_cons_succ, List.getElem_cons_zero]; go_split_ands; go_simp; try with_reducible rfl)
  try simp only [Act.put, List.setIfInBounds_toArray, List.set_cons_zero, List.set_cons_succ, List.getElem_toArray, List.getElem_cons_succ, List.getElem_cons_zero]
  refine wpAnyE_take (i := 9) (oi := ?oi9) (v := ?v9) ?hi9 (by kernel_rfl) (by kernel_rfl) (by kernel_rfl) (by kernel_rfl) ?hq9 (Or.inl ⟨?hw9, ?hy9⟩) (by assumption) ?rest9
  case hi9 => exact rfl
  case hq9 => exact fun _ _ _ h => h
  case hw9 => rfl
  case hy9 => (intro x hx; (try dsimp only at hx); simp only [List.getElem_toArray, List.getElem_cons_succ, List.getElem_cons_zero]; go_split_ands; go_simp; try with_reducible rfl)
  try simp only [Act.put, List.setIfInBounds_toArray, List.set_cons_zero, List.set_cons_succ, List.getElem_toArray, List.getElem_cons_succ, List.getElem_cons_zero]
  refine wpAnyE_take (i := 10) (oi := ?oi10) (v := ?v10) ?hi10 (by kernel_rfl) (by kernel_rfl) (by kernel_rfl) (by kernel_rfl) ?hq10 (Or.inl ⟨?hw10, ?hy10⟩) (by assumption) ?rest10
  case hi10 => exact rfl
  case hq10 => exact fun _ _ _ h => h
  case hw10 => rfl
  case hy10 => (intro x hx; (try dsimp only at hx); simp only [List.getElem_toArray, List.getElem_cons_succ, List.getElem_cons_zero]; go_split_ands; go_simp; try with_reducible rfl)
  try simp only [Act.put, List.setIfInBounds_toArray, List.set_cons_zero, List.set_cons_succ, List.getElem_toArray, List.getElem_cons_succ, List.getElem_cons_zero]
  refine wpAnyE_one (i := 11) (by kernel_rfl) rfl (fun K hK => ?_)
  -- 11 buildSlice
  simp only [List.getElem_toArray, List.getElem_cons_succ, List.getElem_cons_zero]
  go_simp
  refine hK.out _ _ (fun _ => ⟨(HP6.out.drew.alloc (.cells #[.int .i32 x1.n, .int .i32 x4.n] 49)).tb.cell, (HP6.out.drew.alloc (.cells #[.int .i32 x1.n, .int .i32 x4.n] 49)).cu.more.2.2.1, (HT61.out.drew.alloc (.cells #[.int .i32 x1.n, .int .i32 x4.n] 49)).cells.2.2.1, (HT64.out.drew.alloc (.cells #[.int .i32 x1.n, .int .i32 x4.n] 49)).cells.2.2.1⟩) (fun hS => ?_)
  replace hS := hS (by decide)
  refine wpAnyE_one (i := 12) (by kernel_rfl) rfl (fun K hK => ?_)
  -- 12 call
  refine step_append_lies _ (by rfl) _ _ _ (by rfl) lo 49 i0 (.agg #[.int .i32 0, .int .i32 0]) 2 8 Tryz.underlying23 hi hz0 hz1 hz2 rfl (by decide) u l.length (prsC l) (by rfl) (HP6.out.drew.alloc _).row ⟨w6.heap.size, 0, none⟩ 1 1 [.int .i32 x1.n, .int .i32 x4.n] (by rfl) (by rfl) (pair_new _ _ _ _ _ (by simp)) (by intro u hu; simp at hu; rcases hu with rfl | rfl <;> rfl) (by omega) (by unfold maxLen; omega) (by omega) (by simp; omega) (w6.heap.size + 1) (by simp) ?_
  intro g cap w7 hown7 hgr7 hat7 hlt7
  have HE7 := Lib.hid ((HP6.out.drew.alloc (.cells #[.int .i32 x1.n, .int .i32 x4.n] 49)).more ((x1.n : Int), (x4.n : Int)) hgr7 hown7 (hat7.imp_right (by rintro rfl; omega)) hlo)
  have p7 := HE7.out.1.one 4
  have hS7 : w7.cell? ⟨Tb, 0, none⟩ = some (.pointer (some ⟨R, 4, none⟩)) ∧ w7.cell? ⟨R, 4, none⟩ = some u ∧ w7.cell? ⟨w2.heap.size, 2, none⟩ = some (.int .i64 x1.n) ∧ w7.cell? ⟨w5.heap.size, 2, none⟩ = some (.int .i64 x4.n) := by
    refine ⟨HE7.out.2.1.cell, HE7.out.1.more.2.2.1, ?_, ?_⟩
    · exact (LTk.cells ((hgr7.block w2.heap.size (by simp; have := HT61.out.lt; omega) (row_ne (HP6.out.drew.alloc (.cells #[.int .i32 x1.n, .int .i32 x4.n] 49)).row (HT61.out.drew.alloc (.cells #[.int .i32 x1.n, .int .i32 x4.n] 49)) (by decide)).symm).trans (HT61.out.drew.alloc (.cells #[.int .i32 x1.n, .int .i32 x4.n] 49)))).2.2.1
    · exact (LTk.cells ((hgr7.block w5.heap.size (by simp; have := HT64.out.lt; omega) (row_ne (HP6.out.drew.alloc (.cells #[.int .i32 x1.n, .int .i32 x4.n] 49)).row (HT64.out.drew.alloc (.cells #[.int .i32 x1.n, .int .i32 x4.n] 49)) (by decide)).symm).trans (HT64.out.drew.alloc (.cells #[.int .i32 x1.n, .int .i32 x4.n] 49)))).2.2.1
  clear hown7 hgr7 hat7
  refine hK.out _ _ (fun _ => hS7) (fun hS => ?_)
  replace hS := hS (by decide)
  refine wpAnyE_take (i := 13) (oi := ?oi13) (v := ?v13) ?hi13 (by kernel_rfl) (by kernel_rfl) (by kernel_rfl) (by kernel_rfl) ?hq13 (Or.inl ⟨?hw13, ?hy13⟩) (by assumption) ?rest13
  case hi13 => exact rfl
  case hq13 => exact fun _ _ _ h => h
  case hw13 => rfl
  case hy13 => (intro x hx; (try dsimp only at hx); simp only [List.getElem_toArray, List.getElem_cons_succ, List.getElem_cons_zero]; go_split_ands; go_simp; try with_reducible rfl)
  try simp only [Act.put, List.setIfInBounds_toArray, List.set_cons_zero, List.set_cons_succ, List.getElem_toArray, List.getElem_cons_succ, List.getElem_cons_zero]
  refine wpAnyE_one (i := 14) (by kernel_rfl) rfl (fun K hK => ?_)
  -- 14 store
  simp only [List.getElem_toArray, List.getElem_cons_succ, List.getElem_cons_zero]
  go_simp
  refine hK.out _ _ (fun h => absurd rfl h) (fun _ => ?_)
  refine wpAnyE_done (by kernel_rfl) ?_ _
  have eX := HX5.out
  subst eX
  have hk : numsV (l ++ [((x1.n : Int), (x4.n : Int))]) = numsV l ++ [.int .i64 x1.n] := by simp [numsV]
  go_end0
  have h2 := HE7.out.2.2
  rw [← hk] at h2
  exact ⟨k + 1 + 1 + 1 + 1 + 1, rfl, ⟨⟨.slice (some ⟨g, 0, none⟩) (l.length + 1) cap, h2⟩, by rw [List.length_append]; show l.length + 1 ≤ _; omega⟩, HD6.out⟩
end
end Go.Proofs.YthaibekbefndlaaGreatDoor.C

namespace Go.Proofs.YthaibekbefndlaaGreatDoor.C
open Go.RowKit

section
variable (lo R : Nat) (T : TV) (v1 v3 v4 v5 : Value) (A M Rb Ab Tb : Nat)
set_option maxRecDepth 100000 in
set_option maxHeartbeats 2000000 in
theorem pairs1U_any (w : World) (l : List (Int × Int)) (k : Nat) (u : Value) (hP : PrU w u lo R T v1 v3 v4 v5 A M Rb Ab Tb u (numsV l) l k w) (hl : l.length ≤ k) (hN : NumOk T) (hE : Ended (T.ts.drop k)) (hlo : R < lo) (hlw : lo ≤ w.heap.size) (hM : R < M) :
    Calls Tryz.prog 126 #[.pointer (some ⟨Rb, 0, none⟩), .pointer (some ⟨Ab, 0, none⟩), .pointer (some ⟨Tb, 0, none⟩)] w
      (ItTold T (fun l' k' W => (∃ u', PrU w u lo R T v1 v3 v4 v5 A M Rb Ab Tb u' (numsV l') l' k' W) ∧ l'.length ≤ k') (fun W => Fr w W (fun j => j = R ∨ j = M ∨ u.ownBlock = some j)) (itemsL pairL ((T.ts.drop k).length + 1) l (T.ts.drop k))) := by
  have q0 := hP.rb.cell
  have hmf : ∀ (fn : Fn) (first cap : Array Value) (w : World), (Instr.makeFunc fn first cap).run Tryz.prog w = .ok (.func fn first cap) w := fun _ _ _ _ => rfl
  have hit : Calls Tryz.prog 122 #[.pointer (some ⟨R, 0, none⟩), .func (.func 127) #[] #[.pointer (some ⟨Rb, 0, none⟩), .pointer (some ⟨Ab, 0, none⟩), .pointer (some ⟨Tb, 0, none⟩)]] w
      (ItTold T (fun l' k' W => (∃ u', PrU w u lo R T v1 v3 v4 v5 A M Rb Ab Tb u' (numsV l') l' k' W) ∧ l'.length ≤ k') (fun W => Fr w W (fun j => j = R ∨ j = M ∨ u.ownBlock = some j)) (itemsL pairL ((T.ts.drop k).length + 1) l (T.ts.drop k))) := by
    refine itemsPair_any pairL _ R T k Rb Ab Tb l (T.ts.drop k).length _ _ (fun s s' ts r hE h => pairL_left hE h) ?_ ?_ ?_ ?_ ?_ hE (Nat.le_refl _)
    · rintro s k W ⟨⟨u', h⟩, _⟩
      exact ⟨_, _, _, _, _, h.cu⟩
    · rintro s k W W' ⟨⟨u', h⟩, h2⟩ hn hm
      exact ⟨⟨u', h.go (hn _ _ _ _ _ h.cu) hm⟩, by omega⟩
    · rintro s k W W' ⟨⟨u', h⟩, h2⟩ hb
      exact ⟨⟨u', h.below hb⟩, h2⟩
    · rintro s k W ⟨⟨u', h⟩, h2⟩ hE'
      exact pairItemU_any w u lo R T v1 v3 v4 v5 A M Rb Ab Tb s k u' W h h2 hN hE' hlo hlw hM
    · exact ⟨⟨u, hP⟩, hl⟩
  clear hP hN hE
  obtain ⟨X, hX⟩ : ∃ X, X = itemsL pairL ((T.ts.drop k).length + 1) l (T.ts.drop k) := ⟨_, rfl⟩
  rw [← hX] at hit ⊢
  clear hX
  cases X with
  | error er =>
    go_enter Tryz.func126, Tryz.ntmps126
    go_wp2_with fail
    refine hit.mono ?_
    rintro e w1 ⟨rfl, h2⟩
    exact ⟨rfl, rfl, h2⟩
  | ok y =>
    obtain ⟨l', r'⟩ := y
    go_enter Tryz.func126, Tryz.ntmps126
    go_wp2_with (go_at_call 122; refine hit.mono ?_; rintro e w1 ⟨k', rfl, h2, h3⟩)
    go_end0
    exact ⟨k', rfl, h2, h3⟩
end
section
variable (lo R : Nat) (T : TV) (v1 v2 v4 v5 : Value) (A M Rb Ab Tb : Nat)
set_option maxRecDepth 100000 in
set_option maxHeartbeats 2000000 in
theorem pairs1L_any (w : World) (l : List (Int × Int)) (k : Nat) (u : Value) (hP : PrL w u lo R T v1 v2 v4 v5 A M Rb Ab Tb u (numsV l) l k w) (hl : l.length ≤ k) (hN : NumOk T) (hE : Ended (T.ts.drop k)) (hlo : R < lo) (hlw : lo ≤ w.heap.size) (hM : R < M) :
    Calls Tryz.prog 126 #[.pointer (some ⟨Rb, 0, none⟩), .pointer (some ⟨Ab, 0, none⟩), .pointer (some ⟨Tb, 0, none⟩)] w
      (ItTold T (fun l' k' W => (∃ u', PrL w u lo R T v1 v2 v4 v5 A M Rb Ab Tb u' (numsV l') l' k' W) ∧ l'.length ≤ k') (fun W => Fr w W (fun j => j = R ∨ j = M ∨ u.ownBlock = some j)) (itemsL pairL ((T.ts.drop k).length + 1) l (T.ts.drop k))) := by
  have q0 := hP.rb.cell
  have hmf : ∀ (fn : Fn) (first cap : Array Value) (w : World), (Instr.makeFunc fn first cap).run Tryz.prog w = .ok (.func fn first cap) w := fun _ _ _ _ => rfl
  have hit : Calls Tryz.prog 122 #[.pointer (some ⟨R, 0, none⟩), .func (.func 127) #[] #[.pointer (some ⟨Rb, 0, none⟩), .pointer (some ⟨Ab, 0, none⟩), .pointer (some ⟨Tb, 0, none⟩)]] w
      (ItTold T (fun l' k' W => (∃ u', PrL w u lo R T v1 v2 v4 v5 A M Rb Ab Tb u' (numsV l') l' k' W) ∧ l'.length ≤ k') (fun W => Fr w W (fun j => j = R ∨ j = M ∨ u.ownBlock = some j)) (itemsL pairL ((T.ts.drop k).length + 1) l (T.ts.drop k))) := by
    refine itemsPair_any pairL _ R T k Rb Ab Tb l (T.ts.drop k).length _ _ (fun s s' ts r hE h => pairL_left hE h) ?_ ?_ ?_ ?_ ?_ hE (Nat.le_refl _)
    · rintro s k W ⟨⟨u', h⟩, _⟩
      exact ⟨_, _, _, _, _, h.cu⟩
    · rintro s k W W' ⟨⟨u', h⟩, h2⟩ hn hm
      exact ⟨⟨u', h.go (hn _ _ _ _ _ h.cu) hm⟩, by omega⟩
    · rintro s k W W' ⟨⟨u', h⟩, h2⟩ hb
      exact ⟨⟨u', h.below hb⟩, h2⟩
    · rintro s k W ⟨⟨u', h⟩, h2⟩ hE'
      exact pairItemL_any w u lo R T v1 v2 v4 v5 A M Rb Ab Tb s k u' W h h2 hN hE' hlo hlw hM
    · exact ⟨⟨u, hP⟩, hl⟩
  clear hP hN hE
  obtain ⟨X, hX⟩ : ∃ X, X = itemsL pairL ((T.ts.drop k).length + 1) l (T.ts.drop k) := ⟨_, rfl⟩
  rw [← hX] at hit ⊢
  clear hX
  cases X with
  | error er =>
    go_enter Tryz.func126, Tryz.ntmps126
    go_wp2_with fail
    refine hit.mono ?_
    rintro e w1 ⟨rfl, h2⟩
    exact ⟨rfl, rfl, h2⟩
  | ok y =>
    obtain ⟨l', r'⟩ := y
    go_enter Tryz.func126, Tryz.ntmps126
    go_wp2_with (go_at_call 122; refine hit.mono ?_; rintro e w1 ⟨k', rfl, h2, h3⟩)
    go_end0
    exact ⟨k', rfl, h2, h3⟩
end
end Go.Proofs.YthaibekbefndlaaGreatDoor.C

namespace Go.Proofs.YthaibekbefndlaaGreatDoor.C
open Go.RowKit

theorem run_step {l l' : List UInt8} {at_ m : Nat} {acc acc' : List Tok} {r : List Tok ⊕ Nat} (h0 : l ≠ []) (h : stepL l at_ acc = some (acc', m)) (hm : 1 ≤ m) (hl : l.drop m = l') (hr : runL l' (at_ + m) acc' = r) : runL l at_ acc = r := by
  rw [runL_some h0 h hm, hl, hr]
def knownT : List Tok := [⟨1, [99, 108, 97, 115, 115], 0, 0⟩, ⟨3, [], 65, 6⟩, ⟨2, [59], 0, 13⟩, ⟨6, [], 0, 16⟩]
theorem lex_known1 : lexL [99, 108, 97, 115, 115, 32, 60, 85, 48, 48, 52, 49, 62, 59, 37, 120] = (knownT, 0, 0) := by
  have h : runL [99, 108, 97, 115, 115, 32, 60, 85, 48, 48, 52, 49, 62, 59, 37, 120] 0 [] = .inl knownT :=
    run_step (m := 5) (acc' := [⟨1, [99, 108, 97, 115, 115], 0, 0⟩]) (by simp) (by kernel_rfl) (by omega) rfl
    (run_step (m := 1) (acc' := [⟨1, [99, 108, 97, 115, 115], 0, 0⟩]) (by simp) (by kernel_rfl) (by omega) rfl
    (run_step (m := 7) (acc' := [⟨1, [99, 108, 97, 115, 115], 0, 0⟩, ⟨3, [], 65, 6⟩]) (by simp) (by kernel_rfl) (by omega) rfl
    (run_step (m := 1) (acc' := [⟨1, [99, 108, 97, 115, 115], 0, 0⟩, ⟨3, [], 65, 6⟩, ⟨2, [59], 0, 13⟩]) (by simp) (by kernel_rfl) (by omega) rfl
    (run_step (m := 2) (acc' := [⟨1, [99, 108, 97, 115, 115], 0, 0⟩, ⟨3, [], 65, 6⟩, ⟨2, [59], 0, 13⟩]) (by simp) (by kernel_rfl) (by omega) rfl
    (by show runL [] 16 _ = _; rw [runL_nil]; rfl)))))
  unfold lexL
  rw [if_neg (by decide), h]
  rfl
theorem lex_known2 : lexL [97, 32, 33] = ([], 20, 2) := by
  have h : runL [97, 32, 33] 0 [] = .inr 2 :=
    run_step (m := 1) (acc' := [⟨1, [97], 0, 0⟩]) (by simp) (by kernel_rfl) (by omega) rfl
    (run_step (m := 1) (acc' := [⟨1, [97], 0, 0⟩]) (by simp) (by kernel_rfl) (by omega) rfl
    (runL_none (by simp) (by kernel_rfl)))
  unfold lexL
  rw [if_neg (by decide), h]
theorem hexL_65 : hexL 65 = [52, 49] := by
  rw [hexL_big (by omega), hexL_small (by omega)]
  kernel_rfl
theorem prt_known : prtL knownT = [99, 108, 97, 115, 115, 32, 60, 85, 48, 48, 52, 49, 62, 32, 59, 32, 10] := by
  have h : greatL 65 = [48, 48, 52, 49] := by
    unfold greatL
    rw [hexL_65]
    kernel_rfl
  unfold prtL knownT
  simp only [List.flatMap_cons, List.flatMap_nil]
  unfold prt
  simp [h]

theorem TI.cell {w : World} {B n : Nat} {A : Option Addr} {ts : List Tok} (h : TI w B A n ts) {ad : Addr} (hA : A = some ad) {k : Nat} {x : Tok} (hx : ts[k]? = some x) (i : Nat) (u : Value) (hu : (tkC x)[i]? = some u) : w.cell? (ad.add (k * 4 + i)) = some u := by
  have hk : k < n := by rw [← h.len]; exact (List.getElem?_eq_some_iff.1 hx).1
  obtain ⟨ad', x', h1, h2, h3, h4⟩ := h.at_ hk
  rw [hA] at h1
  injection h1 with h1
  subst h1
  rw [hx] at h3
  injection h3 with h3
  subst h3
  exact h4 i u hu
theorem TI.some_ {w : World} {B n : Nat} {A : Option Addr} {ts : List Tok} (h : TI w B A n ts) (hn : 0 < n) : ∃ ad, A = some ad ∧ ad.block < B := by
  obtain ⟨ad, e, hb, _⟩ := h.2 hn
  exact ⟨ad, e, hb⟩
theorem add_pos (a : Addr) (j : Nat) (h : 0 < j) : a.add j = ⟨a.block, a.off + j, none⟩ := by
  unfold Addr.add
  rw [if_neg (by omega)]

end Go.Proofs.YthaibekbefndlaaGreatDoor.C

namespace Go.Proofs.YthaibekbefndlaaGreatDoor.C
open Go.RowKit
open Go.Lib (decodeN)

/-- numbers that are bytes -/
def Bd (zs : List Int) : Prop := ∀ z ∈ zs, 0 ≤ z ∧ z ≤ 255
theorem bd_nil : Bd [] := by intro z hz; simp at hz
theorem bd_cons {z : Int} {zs : List Int} (h0 : 0 ≤ z ∧ z ≤ 255) (h : Bd zs) : Bd (z :: zs) := by
  intro x hx
  rcases List.mem_cons.1 hx with rfl | hx
  · exact h0
  · exact h x hx
theorem bd_app {a b : List Int} (ha : Bd a) (hb : Bd b) : Bd (a ++ b) := by
  intro x hx
  rcases List.mem_append.1 hx with hx | hx
  · exact ha x hx
  · exact hb x hx
theorem bd_left {a b : List Int} (h : Bd (a ++ b)) : Bd a := fun x hx => h x (List.mem_append_left _ hx)
theorem bd_drop {zs : List Int} (h : Bd zs) (k : Nat) : Bd (zs.drop k) := fun x hx => h x (List.mem_of_mem_drop hx)
theorem bd_take {zs : List Int} (h : Bd zs) (k : Nat) : Bd (zs.take k) := fun x hx => h x (List.mem_of_mem_take hx)
/-- their text -/
def sb (zs : List Int) : ByteArray := strOfNums zs
theorem sb_size (zs : List Int) : (sb zs).size = zs.length := strOfNums_size zs
theorem sb_app (a b : List Int) : sb a ++ sb b = sb (a ++ b) := by
  have := str_app (a.map fun n => UInt8.ofNat n.toNat) (b.map fun n => UInt8.ofNat n.toNat)
  unfold sb strOfNums
  unfold str at this
  rw [this, List.map_append]
def nb (zs : List Int) (i : Nat) : Nat := (zs.getD i 0).toNat
theorem nb_drop (zs : List Int) (k i : Nat) : nb (zs.drop k) i = nb zs (k + i) := by
  unfold nb
  simp [List.getD_eq_getElem?_getD]
theorem gb_sb {zs : List Int} (h : Bd zs) (i : Nat) : gb (sb zs) i = nb zs i := by
  rw [gb_list]
  unfold sb nb
  rw [strOfNums_data]
  simp only [List.getD_eq_getElem?_getD, List.getElem?_map]
  rcases Nat.lt_or_ge i zs.length with hi | hi
  · have := h zs[i] (List.getElem_mem hi)
    simp [List.getElem?_eq_getElem hi, UInt8.toNat_ofNat']
    omega
  · simp [List.getElem?_eq_none hi]
theorem sb_inj {a b : List Int} (ha : Bd a) (hb : Bd b) (h : sb a = sb b) : a = b := by
  have hl : a.length = b.length := by rw [← sb_size, ← sb_size, h]
  refine List.ext_getElem hl fun i h1 h2 => ?_
  have e : nb a i = nb b i := by rw [← gb_sb ha, ← gb_sb hb, h]
  have x := ha a[i] (List.getElem_mem h1)
  have y := hb b[i] (List.getElem_mem h2)
  unfold nb at e
  simp [List.getD_eq_getElem?_getD, List.getElem?_eq_getElem h1, List.getElem?_eq_getElem h2] at e
  omega
theorem nb_lt {zs : List Int} (h : Bd zs) (i : Nat) : nb zs i < 256 := by
  rw [← gb_sb h]
  exact gb_lt _ _

/-- the bytes of a cell, and of cells -/
def encC (c : Int) : List Int := if c < 0 then [-1 - c] else Lib.encodeRuneZ c
def encL (l : List Int) : List Int := l.flatMap encC
theorem encL_nil : encL [] = [] := rfl
theorem encL_cons (c : Int) (l : List Int) : encL (c :: l) = encC c ++ encL l := by simp [encL]
theorem encL_snoc (l : List Int) (c : Int) : encL (l ++ [c]) = encL l ++ encC c := by simp [encL]
theorem encC_len (c : Int) : 1 ≤ (encC c).length ∧ (encC c).length ≤ 4 := by
  unfold encC
  split
  · simp
  · exact Lib.encodeRuneZ_length c
theorem encL_len (l : List Int) : l.length ≤ (encL l).length ∧ (encL l).length ≤ 4 * l.length := by
  induction l with
  | nil => simp [encL_nil]
  | cons c l ih =>
    have := encC_len c
    rw [encL_cons]
    simp only [List.length_append, List.length_cons]
    omega
theorem encC_bd {c : Int} (h : rightB c = true) : Bd (encC c) := by
  unfold rightB at h
  simp at h
  unfold encC
  split
  · exact bd_cons (by omega) bd_nil
  · intro x hx
    have := Lib.encodeRuneZ_byte c x hx
    omega
theorem encL_bd {l : List Int} (h : ∀ c ∈ l, rightB c = true) : Bd (encL l) := by
  induction l with
  | nil => exact bd_nil
  | cons c l ih =>
    rw [encL_cons]
    exact bd_app (encC_bd (h c List.mem_cons_self)) (ih fun x hx => h x (List.mem_cons_of_mem _ hx))

/-- the cell at a place, told back -/
theorem enc_cell (m b0 b1 b2 b3 : Nat) (_hm : 1 ≤ m) (h0 : b0 < 256) (h1 : b1 < 256) (_h2 : b2 < 256) (h3 : b3 < 256) :
    encC (cellN m b0 b1 b2 b3) = ([(b0 : Int), (b1 : Int), (b2 : Int), (b3 : Int)]).take (decodeN m b0 b1 b2 b3).2 := by
  unfold cellN
  by_cases hbad : decodeN m b0 b1 b2 b3 = (65533, 1)
  · rw [if_pos hbad, hbad]
    unfold encC
    rw [if_pos (by omega)]
    simp
    omega
  · rw [if_neg hbad]
    unfold encC
    rw [if_neg (by omega)]
    revert hbad
    unfold decodeN
    split
    · intro _
      rw [Lib.encodeRuneZ_one (by simp) (by simp; omega)]
      simp
    · split
      · split
        · intro _
          rw [Lib.encodeRuneZ_two (by simp; omega) (by simp; omega)]
          simp
          omega
        · intro h; exact absurd rfl h
      · split
        · split
          · intro _
            rw [Lib.encodeRuneZ_three (by simp; omega)]
            simp
            omega
          · intro h; exact absurd rfl h
        · split
          · split
            · intro _
              rw [Lib.encodeRuneZ_four (by simp; omega) (by simp; omega)]
              simp
              omega
            · intro h; exact absurd rfl h
          · intro h; exact absurd rfl h
theorem width4 (m b0 b1 b2 b3 : Nat) : (decodeN m b0 b1 b2 b3).2 ≤ 4 := by
  unfold decodeN
  repeat' split
  all_goals simp
theorem take_four {d : List Int} (hd : Bd d) : ∀ w, w ≤ 4 → w ≤ d.length → ([(nb d 0 : Int), (nb d 1 : Int), (nb d 2 : Int), (nb d 3 : Int)]).take w = d.take w := by
  intro w h4 hl
  refine List.ext_getElem (by simp; omega) fun i h1 h2 => ?_
  simp only [List.getElem_take]
  have hi : i < d.length := by simp at h2; omega
  have hb := hd d[i] (List.getElem_mem hi)
  have e : (nb d i : Int) = d[i] := by
    unfold nb
    simp [List.getD_eq_getElem?_getD, List.getElem?_eq_getElem hi]
    omega
  have hi4 : i < 4 := by simp at h1; omega
  match i, hi4 with
  | 0, _ => exact e
  | 1, _ => exact e
  | 2, _ => exact e
  | 3, _ => exact e
theorem cellAt_sb {zs : List Int} (h : Bd zs) (pos : Nat) (hp : pos < zs.length) : cellAt (sb zs) pos = cellN (zs.length - pos) (nb zs pos) (nb zs (pos + 1)) (nb zs (pos + 2)) (nb zs (pos + 3)) := by
  rw [cellAt_eq _ _ (by rw [sb_size]; exact hp), sb_size, gb_sb h, gb_sb h, gb_sb h, gb_sb h]
theorem decode_sb {zs : List Int} (h : Bd zs) (pos : Nat) : Utf8.decode (sb zs) pos = decodeN (zs.length - pos) (nb zs pos) (nb zs (pos + 1)) (nb zs (pos + 2)) (nb zs (pos + 3)) := by
  rw [decode_gb, sb_size, gb_sb h, gb_sb h, gb_sb h, gb_sb h]
theorem enc_ofFrom {zs : List Int} (h : Bd zs) : ∀ f pos, zs.length ≤ pos + f → encL (ofFrom (sb zs) f pos) = zs.drop pos
  | 0, pos, hf => by rw [List.drop_of_length_le (by omega)]; rfl
  | f + 1, pos, hf => by
    rw [ofFrom, sb_size]
    split
    · rename_i hp
      have hw := Lib.decode_width_pos (sb zs) pos (by rw [sb_size]; exact hp)
      rw [encL_cons, enc_ofFrom h f _ (by omega), cellAt_sb h pos hp, enc_cell _ _ _ _ _ (by omega) (nb_lt h _) (nb_lt h _) (nb_lt h _) (nb_lt h _), ← decode_sb h]
      have e := take_four (bd_drop h pos) (Utf8.decode (sb zs) pos).2 (by rw [decode_sb h]; exact width4 _ _ _ _ _) (by
        rw [decode_sb h, List.length_drop]
        exact decodeN_le _ _ _ _ _ (by omega))
      simp only [nb_drop, Nat.add_zero] at e
      rw [e, ← List.drop_drop, List.take_append_drop]
    · rename_i hp
      rw [List.drop_of_length_le (by omega)]
      rfl
theorem enc_of {zs : List Int} (h : Bd zs) : encL (ofL (sb zs)) = zs := by
  unfold ofL
  rw [enc_ofFrom h _ 0 (by rw [sb_size]; omega)]
  rfl

theorem nb_app_left (a b : List Int) (i : Nat) (h : i < a.length) : nb (a ++ b) i = nb a i := by
  unfold nb
  simp [List.getD_eq_getElem?_getD, List.getElem?_append_left h]
/-- a scalar's bytes are decoded to it -/
theorem dec_enc {c : Int} (h : rightB c = true) (h0 : 0 ≤ c) (t : List Int) :
    decodeN (encC c ++ t).length (nb (encC c ++ t) 0) (nb (encC c ++ t) 1) (nb (encC c ++ t) 2) (nb (encC c ++ t) 3) = (c.toNat, (encC c).length) ∧ ¬ (c.toNat, (encC c).length) = (65533, 1) := by
  unfold rightB at h
  simp at h
  have e : encC c = Lib.encodeRuneZ c := by unfold encC; rw [if_neg (by omega)]
  rw [e]
  by_cases c1 : c ≤ 127
  · rw [Lib.encodeRuneZ_one h0 c1]
    refine ⟨?_, by simp; omega⟩
    unfold decodeN nb
    simp
    omega
  by_cases c2 : c ≤ 2047
  · rw [Lib.encodeRuneZ_two (by omega) c2]
    refine ⟨?_, by simp⟩
    unfold decodeN nb
    simp
    rw [if_neg (by omega), if_pos (by omega), if_pos (by omega)]
    simp
    omega
  by_cases c3 : c ≤ 65535
  · rw [Lib.encodeRuneZ_three (by omega)]
    refine ⟨?_, by simp⟩
    unfold decodeN nb
    simp
    rw [if_neg (by omega), if_neg (by omega), if_pos (by omega), if_pos (by omega)]
    simp
    omega
  · rw [Lib.encodeRuneZ_four (by omega) (by omega)]
    refine ⟨?_, by simp⟩
    unfold decodeN nb
    simp
    rw [if_neg (by omega), if_neg (by omega), if_neg (by omega), if_pos (by omega), if_pos (by omega)]
    simp
    omega
theorem of_enc_cons {c : Int} (h : rightB c = true) (h0 : 0 ≤ c) {t : List Int} (ht : Bd t) : ofL (sb (encC c ++ t)) = c :: ofL (sb t) := by
  have hb : Bd (encC c ++ t) := bd_app (encC_bd h) ht
  have hl := encC_len c
  obtain ⟨hd, hne⟩ := dec_enc h h0 t
  unfold ofL
  obtain ⟨f, hf⟩ : ∃ f, (sb (encC c ++ t)).size = f + 1 := ⟨(sb (encC c ++ t)).size - 1, by rw [sb_size]; simp; omega⟩
  rw [hf, ofFrom, if_pos (by omega), cellAt_sb hb 0 (by simp; omega), decode_sb hb 0]
  simp only [Nat.sub_zero, Nat.zero_add]
  rw [hd]
  unfold cellN
  rw [hd, if_neg hne]
  have hs : (encC c).length = (sb (encC c)).size := (sb_size _).symm
  have e := ofFrom_behind (sb (encC c)) (sb t) f 0
  rw [sb_app] at e
  simp only [Nat.add_zero] at e
  rw [hs, e, ofFrom_fuel (sb t) f (sb t).size 0 (by rw [sb_size] at hf ⊢; simp at hf; omega) (by omega)]
  simp
  omega
theorem of_enc {l : List Int} (h : ∀ c ∈ l, rightB c = true ∧ 0 ≤ c) : ofL (sb (encL l)) = l := by
  induction l with
  | nil => rfl
  | cons c l ih =>
    rw [encL_cons, of_enc_cons (h c List.mem_cons_self).1 (h c List.mem_cons_self).2 (encL_bd fun x hx => (h x (List.mem_cons_of_mem _ hx)).1), ih fun x hx => h x (List.mem_cons_of_mem _ hx)]

/-- bytes none of which begins a sequence -/
theorem ofFrom_bad {zs : List Int} (h : Bd zs) (hb : ∀ pos, pos < zs.length → decodeN (zs.length - pos) (nb zs pos) (nb zs (pos + 1)) (nb zs (pos + 2)) (nb zs (pos + 3)) = (65533, 1)) :
    ∀ f pos, zs.length ≤ pos + f → ofFrom (sb zs) f pos = (zs.drop pos).map fun z => -1 - z
  | 0, pos, hf => by rw [List.drop_of_length_le (by omega)]; rfl
  | f + 1, pos, hf => by
    rw [ofFrom, sb_size]
    split
    · rename_i hp
      have hz := h zs[pos] (List.getElem_mem hp)
      rw [cellAt_sb h pos hp, decode_sb h, hb pos hp, ofFrom_bad h hb f _ (by omega), List.drop_eq_getElem_cons hp]
      unfold cellN
      rw [if_pos (hb pos hp)]
      have e : (nb zs pos : Int) = zs[pos] := by
        unfold nb
        simp [List.getD_eq_getElem?_getD, List.getElem?_eq_getElem hp]
        omega
      rw [e]
      rfl
    · rename_i hp
      rw [List.drop_of_length_le (by omega)]
      rfl
theorem of_bad {zs : List Int} (h : Bd zs) (hb : ∀ pos, pos < zs.length → decodeN (zs.length - pos) (nb zs pos) (nb zs (pos + 1)) (nb zs (pos + 2)) (nb zs (pos + 3)) = (65533, 1)) : ofL (sb zs) = zs.map fun z => -1 - z := by
  unfold ofL
  rw [ofFrom_bad h hb _ 0 (by rw [sb_size]; omega)]
  rfl
end Go.Proofs.YthaibekbefndlaaGreatDoor.C

namespace Go.Proofs.YthaibekbefndlaaGreatDoor.C
open Go.RowKit

/-- are two rows alike? -/
def sameB (xs ys : List Int) : Bool := decide (xs = ys)
/-- are cells those that their bytes are decoded to? -/
def canonB (xs : List Int) : Bool := xs.all rightB && sameB (ofL (sb (encL xs))) xs
theorem all_bd {xs : List Int} (h : xs.all rightB = true) : Bd (encL xs) := encL_bd fun c hc => (List.all_eq_true.1 h) c hc
end Go.Proofs.YthaibekbefndlaaGreatDoor.C

namespace Go.Proofs.YthaibekbefndlaaGreatDoor.C
open Go.RowKit

set_option maxHeartbeats 1000000 in
theorem runeCount_any (s : ByteArray) (w : World) (hs : s.size < 9223372036854775807) :
    Calls Tryz.prog 171 #[.string s] w fun e w' => e = .returned (.int .i64 (Lib.runeCount s)) ∧ ∃ pos, w' = w.iter s pos := by
  go_enter Tryz.func171, Tryz.ntmps171
  go_wp2
  go_loopw [2] (fun n w' => ∃ (pos b acc : Nat), w' = w.iter s pos ∧ n = .int .i64 acc ∧ acc + Lib.runeCountFrom s b pos = Lib.runeCount s ∧ s.size ≤ pos + b ∧ acc ≤ pos) (fun _ w' => s.size - w'.iterPos w.heap.size)
  case atStart => exact ⟨0, s.size, 0, rfl, rfl, by simp [Lib.runeCount], by omega, Nat.le_refl _⟩
  case round =>
    obtain ⟨pos, b, acc, rfl, rfl, hc, hb, ha⟩ := hrel
    by_cases hp : pos < s.size
    · have hnx : ∀ ty, (Instr.next (.pointer (some ⟨w.heap.size, 0, none⟩)) true ty).run Tryz.prog (w.iter s pos) = _ := fun ty => run_next_any w s pos ty hp
      have hwd := Lib.decode_width_pos s pos hp
      go_wp2
      go_roundw
      case rel =>
        cases b with
        | zero => omega
        | succ b =>
          refine ⟨pos + (Utf8.decode s pos).2, b, acc + 1, rfl, by go_num, ?_, by omega, by omega⟩
          rw [← hc]
          simp [Lib.runeCountFrom, hp]
          omega
      case measure =>
        simp
        omega
    · have hnx : ∀ ty, (Instr.next (.pointer (some ⟨w.heap.size, 0, none⟩)) true ty).run Tryz.prog (w.iter s pos) = _ := fun ty => run_next_end w s pos ty hp
      go_wp2
      go_ret
      rw [Lib.runeCountFrom_end s b pos hp, Nat.add_zero] at hc
      subst hc
      exact ⟨rfl, _, rfl⟩

set_option maxHeartbeats 1000000 in
theorem sliteHasPrefix_any (s p : ByteArray) (w : World) :
    Calls Tryz.prog 164 #[.string s, .string p] w fun e w' => e = .returned (.bool (Lib.hasPrefix s.data.toList p.data.toList)) ∧ w = w' := by
  rw [← Lib.hasPrefix_of_take, ← Lib.size_eq, ← Lib.size_eq]
  go_enter Tryz.func164, Tryz.ntmps164
  go_wp2
  · rename_i h
    go_ret
    refine ⟨?_, rfl⟩
    show Ending.returned (Value.bool ((s.extract 0 p.size).toList == p.toList)) = _
    rw [Lib.extract_toList, Lib.toList_data]
    simp [h]
  · rename_i h
    go_ret
    refine ⟨?_, rfl⟩
    simp
    omega

set_option maxHeartbeats 1000000 in
theorem hasPrefix_any (s p : ByteArray) (w : World) :
    Calls Tryz.prog 114 #[.string s, .string p] w fun e w' => e = .returned (.bool (Lib.hasPrefix s.data.toList p.data.toList)) ∧ w = w' := by
  go_enter Tryz.func114, Tryz.ntmps114
  go_wp2_with fail
  refine (sliteHasPrefix_any _ _ _).mono ?_
  rintro e w' ⟨rfl, rfl⟩
  go_wp2
  go_ret
  exact ⟨rfl, rfl⟩
end Go.Proofs.YthaibekbefndlaaGreatDoor.C

namespace Go.Proofs.YthaibekbefndlaaGreatDoor.C
open Go.RowKit

theorem own_iter {w : World} {base : Nat} {e : TypeId} {size : Nat} {v : Value} {n : Nat} {xs : List Value} (h : w.ownsRow base e size v n xs) {k : Nat} {s : ByteArray} {pos : Nat} (hk : w.heap[k]? = some (.stringIter s pos)) (pos' : Nat) :
    (w.iterAt k s pos').ownsRow base e size v n xs := by
  refine ⟨h.1, ?_⟩
  rcases h.2 with h1 | ⟨g, cap, cur, h1, h2, h3, h4⟩
  · exact .inl h1
  · refine .inr ⟨g, cap, cur, h1, h2, ?_, h4⟩
    rw [Lib.iterAt_other _ _ _ _ _ (fun e => by subst e; rw [h3] at hk; cases hk)]
    exact h3
theorem own_ne_iter {w : World} {base : Nat} {e : TypeId} {size : Nat} {v : Value} {n : Nat} {xs : List Value} (h : w.ownsRow base e size v n xs) {k : Nat} {s : ByteArray} {pos : Nat} (hk : w.heap[k]? = some (.stringIter s pos)) : some k ≠ v.ownBlock := by
  rcases h.2 with ⟨rfl, _⟩ | ⟨g, cap, cur, rfl, _, h3, _⟩
  · simp [Value.ownBlock]
  · intro he
    simp [Value.ownBlock] at he
    subst he
    rw [h3] at hk
    cases hk
/-- one cell more, behind a step of the iterator -/
theorem of_more {w wr w2 : World} {B K : Nat} {e : TypeId} {v : Value} {n : Nat} {xs : List Value} {s : ByteArray} {pos p' : Nat} {o : Obj} (hown : wr.ownsRow B e 1 v n xs) (hit : wr.heap[K]? = some (.stringIter s pos)) (hb : Below B w wr) (hBK : B ≤ K) (hBw : B ≤ w.heap.size)
    (hg : ((wr.iterAt K s p').alloc o).grownBy w2 v.ownBlock) : w2.heap[K]? = some (.stringIter s p') ∧ Below B w w2 := by
  have hK : K < wr.heap.size := (Array.getElem?_eq_some_iff.1 hit).1
  have hne := own_ne_iter hown hit
  have hsz : (wr.iterAt K s p').heap.size = wr.heap.size := Lib.iterAt_size _ _ _ _
  have hBr : B ≤ wr.heap.size := Nat.le_trans hBw hb.size
  constructor
  · rw [hg.block K (by simp; omega) hne, Below.heap_alloc _ _ _ (by omega)]
    exact Lib.iterAt_heap wr K s pos p' hit
  · refine Below.grown ((Lib.below_iterAt hb hBK s p').alloc (by omega) o) hg (by simp; omega) ?_
    intro k hk
    exact (hown.lt k hk).1

theorem hasPrefix_at (s : ByteArray) (pos : Nat) (b : Bool) (h : hasP s pos = b) (w : World) :
    Calls Tryz.prog 114 #[.string (s.extract pos s.size), .string ⟨#[239, 191, 189]⟩] w fun e w' => e = .returned (.bool b) ∧ w = w' := by
  have := hasPrefix_any (s.extract pos s.size) ⟨#[239, 191, 189]⟩ w
  rw [show Lib.hasPrefix (s.extract pos s.size).data.toList (ByteArray.mk #[239, 191, 189]).data.toList = b from h] at this
  exact this

set_option maxHeartbeats 2000000 in
theorem of_any (s : ByteArray) (w : World) (hs : s.size ≤ 1099511627776) :
    Calls Tryz.prog 129 #[.string s] w fun e w' => ∃ v, e = .returned v ∧ w'.ownsRow w.heap.size 35 1 v (ofL s).length ((ofL s).map (Value.int .i32)) ∧ Below w.heap.size w w' := by
  obtain ⟨i0, hi, hz0, hz1, hz2⟩ := info_parts info33
  have hrc := Lib.runeCount_le s
  go_enter Tryz.func129, Tryz.ntmps129
  go_wp2_with fail
  refine (runeCount_any s w (by omega)).mono ?_
  rintro e w1 ⟨rfl, pos, rfl⟩
  have hb1 : Below w.heap.size w (w.iter s pos) := (Below.refl _ _).alloc (Nat.le_refl _) _
  have hs1 : (w.iter s pos).heap.size = w.heap.size + 1 := by simp [World.iter]
  generalize w.iter s pos = w1 at *
  have HS1 := Lib.hid hs1
  clear hs1
  generalize Lib.runeCount s = rc at *
  go_wp2_with (at_make; (refine wpList_make_own _ rfl _ _ 32 rfl w.heap.size 35 i0 (.int .i32 0) 1 Tryz.underlying32 hi hz0 hz1 .i64 .i64 _ rc rfl rfl (by omega) (by rw [hz2]; omega) (by unfold maxLen; omega) (by rw [HS1.out]; omega) ?_); intro w2 hown hgrow; have hb2 : Below w.heap.size w w2 := hb1.grown hgrow (by rw [HS1.out]; omega) (fun _ h => by cases h); clear hgrow; have HO := Lib.hid hown; clear hown)
  go_loopw [3] (fun v wr => ∃ (pos b : Nat) (acc : List Int), OfSt s acc b pos ∧ Hid (wr.ownsRow w.heap.size 35 1 v acc.length (acc.map (Value.int .i32))) ∧ Hid (wr.heap[w2.heap.size]? = some (.stringIter s pos)) ∧ Below w.heap.size w wr) (fun _ wr => s.size - wr.iterPos w2.heap.size)
  case atStart => exact ⟨0, s.size, [], ofSt_zero s, HO.out.alloc _, heap_alloc_new _ _, hb2.alloc hb2.size _⟩
  case round =>
    obtain ⟨pos, b, acc, hst, HW, HI, hbr⟩ := hrel
    have HST := Lib.hid hst
    clear hst
    have hsz := hbr.size
    have hsz2 := hb2.size
    have hmes : s.size - wr.iterPos w2.heap.size = s.size - pos := by rw [iterPos_of HI.out]
    have HM := Lib.hid hmes
    clear hmes
    by_cases hp : pos < s.size
    · obtain ⟨b', hst'⟩ := ofSt_step HST.out hp
      have hnx : ∀ ty, (Instr.next (.pointer (some ⟨w2.heap.size, 0, none⟩)) true ty).run Tryz.prog wr = _ := fun ty => Lib.run_next_any_at wr w2.heap.size s pos ty HI.out hp
      have hwd := Lib.decode_width_pos s pos hp
      have hszi : w.heap.size ≤ (wr.iterAt w2.heap.size s (pos + (Utf8.decode s pos).2)).heap.size := by rw [Lib.iterAt_size]; exact hsz
      by_cases hr : (((Utf8.decode s pos).1 : Int) == 65533) = true
      · cases hh : hasP s pos with
        | false =>
          have hcell : cellAt s pos = -1 - ((s.get! pos).toNat : Int) := if_pos ⟨hr, hh⟩
          have hget : s.get! pos = s[pos] := get_at s pos hp
          rw [hcell, hget] at hst'
          have HS' := Lib.hid hst'
          have hbd : (s[pos].toNat : Int) ≤ 255 := by have := s[pos].toNat_lt; omega
          clear hst' hcell hget
          go_wp2_with fail
          refine (hasPrefix_at s pos false hh _).mono ?_
          rintro e w' ⟨rfl, rfl⟩
          clear hh
          go_wp2_with fail
          refine (escape_any _ _ (by omega) hbd).mono ?_
          rintro e w' ⟨rfl, rfl⟩
          go_wp2_with (at_builtin; (refine wpList_append_own _ rfl _ _ 32 rfl w.heap.size 35 i0 (.int .i32 0) 1 4 Tryz.underlying32 hi hz0 hz1 hz2 rfl (by decide) _ _ _ rfl ((own_iter HW.out HI.out _).alloc _) _ 1 1 [.int .i32 (-1 - (s[pos].toNat : Int))] rfl rfl (cell_one_new _ _ _) (by intro u hu; simp at hu; subst hu; rfl) (by unfold maxLen; have := HST.out.2.2.2; omega) (by have := HST.out.2.2.2; omega) (by simp; omega) ?_); intro v' w3 hown' hgrow _; have R := Lib.hid (of_more HW.out HI.out hbr hsz2 (Nat.le_refl _) hgrow); have HO3 := Lib.hid hown'; clear hown' hgrow)
          go_roundw
          case rel => exact ⟨_, b', acc ++ [(-1 - (s[pos].toNat : Int))], HS'.out, by simpa [Hid] using HO3.out, R.out.1, R.out.2⟩
          case measure => rw [HM.out, iterPos_of R.out.1]; omega
        | true =>
          have hcell : cellAt s pos = ((Utf8.decode s pos).1 : Int) := if_neg (by rw [hh]; simp)
          rw [hcell] at hst'
          have HS' := Lib.hid hst'
          clear hst' hcell
          go_wp2_with fail
          refine (hasPrefix_at s pos true hh _).mono ?_
          rintro e w' ⟨rfl, rfl⟩
          clear hh
          go_wp2_with (at_builtin; (refine wpList_append_own _ rfl _ _ 32 rfl w.heap.size 35 i0 (.int .i32 0) 1 4 Tryz.underlying32 hi hz0 hz1 hz2 rfl (by decide) _ _ _ rfl ((own_iter HW.out HI.out _).alloc _) _ 1 1 [.int .i32 ((Utf8.decode s pos).1 : Int)] rfl rfl (cell_one_new _ _ _) (by intro u hu; simp at hu; subst hu; rfl) (by unfold maxLen; have := HST.out.2.2.2; omega) (by have := HST.out.2.2.2; omega) (by simp; omega) ?_); intro v' w3 hown' hgrow _; have R := Lib.hid (of_more HW.out HI.out hbr hsz2 (Nat.le_refl _) hgrow); have HO3 := Lib.hid hown'; clear hown' hgrow)
          go_roundw
          case rel => exact ⟨_, b', acc ++ [((Utf8.decode s pos).1 : Int)], HS'.out, by simpa [Hid] using HO3.out, R.out.1, R.out.2⟩
          case measure => rw [HM.out, iterPos_of R.out.1]; omega
      · have hr' : (((Utf8.decode s pos).1 : Int) == 65533) = false := by simpa using hr
        have hcell : cellAt s pos = ((Utf8.decode s pos).1 : Int) := if_neg (by rw [hr']; simp)
        rw [hcell] at hst'
        have HS' := Lib.hid hst'
        clear hst' hcell hr
        go_wp2_with (at_builtin; (refine wpList_append_own _ rfl _ _ 32 rfl w.heap.size 35 i0 (.int .i32 0) 1 4 Tryz.underlying32 hi hz0 hz1 hz2 rfl (by decide) _ _ _ rfl ((own_iter HW.out HI.out _).alloc _) _ 1 1 [.int .i32 ((Utf8.decode s pos).1 : Int)] rfl rfl (cell_one_new _ _ _) (by intro u hu; simp at hu; subst hu; rfl) (by unfold maxLen; have := HST.out.2.2.2; omega) (by have := HST.out.2.2.2; omega) (by simp; omega) ?_); intro v' w3 hown' hgrow _; have R := Lib.hid (of_more HW.out HI.out hbr hsz2 (Nat.le_refl _) hgrow); have HO3 := Lib.hid hown'; clear hown' hgrow)
        go_roundw
        case rel => exact ⟨_, b', acc ++ [((Utf8.decode s pos).1 : Int)], HS'.out, by simpa [Hid] using HO3.out, R.out.1, R.out.2⟩
        case measure => rw [HM.out, iterPos_of R.out.1]; omega
    · have hnx : ∀ ty, (Instr.next (.pointer (some ⟨w2.heap.size, 0, none⟩)) true ty).run Tryz.prog wr = _ := fun ty => Lib.run_next_end_at wr w2.heap.size s pos ty HI.out hp
      go_wp2
      go_ret
      refine ⟨_, rfl, ?_, hbr⟩
      rw [ofSt_end HST.out hp]
      exact HW.out
end Go.Proofs.YthaibekbefndlaaGreatDoor.C

namespace Go.Proofs.YthaibekbefndlaaGreatDoor.C
open Go.RowKit

theorem prefix_step {xs ys : List Int} {k : Nat} {a : Int} (h : xs.take k = ys.take k) (hx : xs[k]? = some a) (hy : ys[k]? = some a) : xs.take (k + 1) = ys.take (k + 1) := by
  rw [take_snoc hx, take_snoc hy, h]
def EqTold (xs ys : List Int) (w : World) (e : Ending) (w' : World) : Prop := e = .returned (.bool (sameB xs ys)) ∧ ∃ q, w' = w.drewN q
theorem eq_no {xs ys : List Int} (h : xs ≠ ys) (w : World) (q : Nat) : EqTold xs ys w (.returned (.bool false)) (w.drewN q) := ⟨by simp [sameB, h], q, rfl⟩
theorem eq_yes {xs ys : List Int} (h : xs = ys) (w : World) (q : Nat) : EqTold xs ys w (.returned (.bool true)) (w.drewN q) := ⟨by simp [sameB, h], q, rfl⟩

set_option maxHeartbeats 1000000 in
theorem equal_any (w : World) (Bx By : Nat) (Ax Ay : Option Addr) (n cx m cy : Nat) (xs ys : List Int) (hx : RI .i32 w Bx Ax n xs) (hy : RI .i32 w By Ay m ys) (hn : n ≤ 9223372036854775807) :
    Calls Tryz.prog 177 #[.slice Ax n cx, .slice Ay m cy] w (EqTold xs ys w) := by
  have HX := Lib.hid hx
  have HY := Lib.hid hy
  clear hx hy
  by_cases hnm : n = m
  · subst hnm
    go_enter Tryz.func177, Tryz.ntmps177
    go_wp2
    go_loopw [13] (fun i wr => ∃ k q : Nat, k ≤ n ∧ i = .int .i64 k ∧ Hid (xs.take k = ys.take k) ∧ wr = w.drewN q) (fun i _ => n - (intOf i).toNat)
    case atStart => exact ⟨0, 0, Nat.zero_le _, rfl, rfl, drewN_zero w⟩
    case round =>
      obtain ⟨k, q, hk, rfl, HS, rfl⟩ := hrel
      by_cases hlt : k < n
      · obtain ⟨ad, a, rfl, _, ha, hca⟩ := HX.out.at_ hlt
        obtain ⟨ad2, b, rfl, _, hb, hcb⟩ := HY.out.at_ hlt
        have HA := Lib.hid ha
        have HB := Lib.hid hb
        clear ha hb
        have k0 : (0 : Int) ≤ (k : Int) := by omega
        have k1 : (k : Int) < (n : Int) := by omega
        by_cases hab : a = b
        · subst hab
          have t1 : (a != a) = false := by simp
          go_wp2
          go_quiet (fail)
          go_wp2
          go_roundw
          case rel => exact ⟨k + 1, _, by omega, by go_num, prefix_step HS.out HA.out HB.out, rfl⟩
          case measure => simp [intOf]; omega
        · have t1 : (a != b) = true := by simp [hab]
          have hne : xs ≠ ys := fun e => hab (by
            have h1 := HA.out
            have h2 := HB.out
            rw [e, h2] at h1
            injection h1 with h1
            exact h1.symm)
          have HN := Lib.hid hne
          clear hne hab
          go_wp2
          go_quiet (fail)
          go_wp2
          go_ret
          rw [World.drewN_drewN]
          exact eq_no HN.out w _
      · have he : xs = ys := by
          have := HS.out
          rwa [List.take_of_length_le (by rw [HX.out.len]; omega), List.take_of_length_le (by rw [HY.out.len]; omega)] at this
        have HE := Lib.hid he
        clear he
        go_wp2
        go_ret
        exact eq_yes HE.out w q
  · have hne : xs ≠ ys := fun e => hnm (by rw [← HX.out.len, ← HY.out.len, e])
    have HN := Lib.hid hne
    have t1 : ((n : Int) != (m : Int)) = true := by simp; omega
    clear hne
    go_enter Tryz.func177, Tryz.ntmps177
    go_wp2
    go_ret
    exact eq_no HN.out w 0
end Go.Proofs.YthaibekbefndlaaGreatDoor.C
