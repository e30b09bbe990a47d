/-
  Joined: LcL, LcW, LcY. Each with what its own head says.
-/
import Derived.Test.YthaibekbefndlaaGreatDoorH18

namespace Go.Proofs.YthaibekbefndlaaGreatDoor.C
open Go.RowKit

section
variable (w : World) (lo R : Nat) (T : TV) (k : Nat) (v1 v2 v3 v4 v5 : Value) (Rb Ab A M : Nat) (cs : List Cls)
def FnS (A : Nat) : Value := .func (.func 99) #[] #[.pointer (some ⟨A, 0, none⟩)]

set_option maxRecDepth 100000 in
set_option maxHeartbeats 4000000 in
theorem classes1_any (h : CU w R T k v1 v2 v3 v4 v5) (hN : NumOk T) (hE : Ended (T.ts.drop k)) (hcl : ClsAt w lo v1 cs) (hft : FT w 151 .string A M (namesV cs)) (hrb : One w Rb 88 (.pointer (some ⟨R, 0, none⟩)))
  (hab : One w Ab 110 (FnS A)) (hcs : cs.length ≤ 2000) (hlo : R < lo) (hlw : lo ≤ w.heap.size) (hM : R < M) :
  Calls Tryz.prog 121 #[.pointer (some ⟨Rb, 0, none⟩), .pointer (some ⟨Ab, 0, none⟩)] w (ClTold w lo R T v1 v2 v3 v4 v5 A M (clsL cs (T.ts.drop k))) := by
 obtain ⟨x, r, hr⟩ := hE.some_
 have hR := h.lt
 have hRb := hrb.lt
 have hAb := hab.lt
 have hRR : Rb ≠ R := by
  rintro rfl
  have e := hrb.symm.trans h.1
  simp at e
 have hAR : Ab ≠ R := by
  rintro rfl
  have e := hab.symm.trans h.1
  simp at e
 have hRM : Rb ≠ M := by
  rintro rfl
  obtain ⟨es, c, h1, _⟩ := hft.2
  have e := hrb.symm.trans h1
  simp at e
 have hAM : A ≠ M := hft.ne
 have hAR' : A ≠ R := by
  rintro rfl
  have e := hft.1.symm.trans h.1
  simp at e
 have q0 := hrb.cell
 have q1 := hab.cell
 unfold FnS at q1
 by_cases hk : x.k = 1
 rotate_left
 ·have hta := take1_no w R T k v1 v2 v3 v4 v5 x r _ rfl 1 h hr hk
  rw [hr]
  unfold clsL
  simp only [takeK, List.mem_singleton]
  rw [if_neg hk]
  clear h hN hE hcl hft hrb hab hr
  go_enter Tryz.func121, Tryz.ntmps121
  go_wp2_with fail
  refine hta.mono ?_
  rintro e w1 ⟨rfl, hm1⟩
  exact ⟨rfl, rfl, (Fr.of_moved hm1).mono fun _ _ e => .inl e⟩
 have hta := take1_yes w R T k v1 v2 v3 v4 v5 x r _ rfl 1 h hr hk
 have hr1 := drop_next hr
 have hE1 : Ended (T.ts.drop (k + 1)) := by
  rw [hr1]
  rw [hr] at hE
  exact hE.cons (by omega)
 obtain ⟨X, hX⟩ : ∃ X, X = clsL cs (T.ts.drop k) := ⟨_, rfl⟩
 rw [← hX]
 have hXt : x.t ∈ cs.map Cls.name → X = .error (32, x.at_) := by
  intro hin
  rw [hX, hr]
  unfold clsL
  simp only [takeK, List.mem_singleton]
  rw [if_pos hk]
  simp only
  rw [if_pos hin]
 have hXe : ∀ er, x.t ∉ cs.map Cls.name → itemsL rangeL (r.length + 1) [] r = .error er → X = .error er := by
  intro er hin hi
  rw [hX, hr]
  unfold clsL
  simp only [takeK, List.mem_singleton]
  rw [if_pos hk]
  simp only
  rw [if_neg hin, hi]
 have hXo : ∀ rs r', x.t ∉ cs.map Cls.name → itemsL rangeL (r.length + 1) [] r = .ok (rs, r') → X = .ok (cs ++ [⟨x.t, rs⟩], r') := by
  intro rs r' hin hi
  rw [hX, hr]
  unfold clsL
  simp only [takeK, List.mem_singleton]
  rw [if_pos hk]
  simp only
  rw [if_neg hin, hi]
 clear hX
 by_cases hin : x.t ∈ cs.map Cls.name
 ·rw [hXt hin]
  clear hXt hXe hXo
  have hno := fun W hf => isNewS_no W A M (namesV cs) (str x.t) hf (names_in.2 hin)
  have HNO := Lib.hid hno
  have HFT := Lib.hid hft
  have HAB := Lib.hid hab
  clear h hN hE hE1 hcl hft hrb hab hr hr1 hin hno hk
  go_enter Tryz.func121, Tryz.ntmps121
  go_wp2_with fail
  refine hta.mono ?_
  rintro e w1 ⟨rfl, hc1, hm1⟩
  obtain ⟨W1, hW1⟩ : ∃ W1, W1 = w1.alloc (.cells #[.int .u8 x.k, .string (str x.t), .int .i64 x.n, .int .i64 x.at_] 92) := ⟨_, rfl⟩
  have l1 : LTk W1 w1.heap.size x := by rw [hW1]; exact LTk.new w1 x
  obtain ⟨-, p1, -, -⟩ := l1.cells
  have hab1 : One W1 Ab 110 (FnS A) := by rw [hW1]; exact (HAB.out.kept hm1 (by simpa using hAR)).alloc _
  have p2 := hab1.cell
  have p3 := (HAB.out.kept hm1 (by simpa using hAR)).cell
  have hAb1 := (HAB.out.kept hm1 (by simpa using hAR)).lt
  unfold FnS at p2 p3
  have hF1 : Fr w W1 (· = R) := by rw [hW1]; exact (Fr.of_moved hm1).alloc _
  have HF1 := Lib.hid hF1
  have hft1 := HFT.out.fr hF1 (by simpa using hAR') (by have := hM; show ¬ M = R; omega)
  have hno1 := HNO.out W1 hft1
  have hl1 : w1.heap.size < W1.heap.size := l1.lt
  have hMb := hft1.2.lt
  have hMw := HFT.out.2.lt
  have hs1 := hm1.size
  have HL1 := Lib.hid l1
  clear hc1 hm1 hta hab1 hF1 l1 hft1
  rw [hW1] at p1 p2
  unfold tkV
  go_wp2_with fail
  rw [← hW1]
  clear hW1
  refine hno1.mono ?_
  rintro e w2 ⟨rfl, hg2⟩
  have hl2 : LTk w2 w1.heap.size x := (hg2.block _ hl1 (by intro e; injection e; omega)).trans HL1.out
  obtain ⟨p4, p5, p6, p7⟩ := hl2.cells
  have HG2 := Lib.hid hg2
  have hrf := fun W => refuse_any 32 x W
  unfold tkV at hrf
  clear hg2 hl2 hno1
  go_wp2_with fail
  refine (hrf _).mono ?_
  rintro e w3 ⟨rfl, hb3⟩
  refine ⟨rfl, rfl, ?_⟩
  have f1 : Fr w w2 (fun j => j = R ∨ j = M ∨ v1.ownBlock = some j) := (HF1.out.mono fun _ _ e => .inl e).next (Fr.of_grown HG2.out) (fun j _ e => .inr (.inl (by injection e with e; exact e.symm)))
  exact f1.trans (.of_below hb3)
 have HXE := Lib.hid fun er hi => hXe er hin hi
 have HXO := Lib.hid fun rs r' hi => hXo rs r' hin hi
 clear hXt hXe hXo
 have hyes := fun W hf => isNewS_yes W A M (namesV cs) (str x.t) hf (fun e => hin (names_in.1 e))
 have hkeys : namesV cs ++ [.string (str x.t)] = namesV (cs ++ [⟨x.t, []⟩]) := by simp [namesV]
 have hit := fun W hc ho => clsItems W R T (k + 1) v1 v2 v3 v4 v5 Rb (.string (str x.t)) hc ho hN hE1 hRR
 rw [hr1] at hit
 have HIT := Lib.hid hit
 have HYES := Lib.hid hyes
 have HFT := Lib.hid hft
 have HAB := Lib.hid hab
 have HRB := Lib.hid hrb
 have HCL := Lib.hid hcl
 have HKEY := Lib.hid hkeys
 have HCU := Lib.hid h
 obtain ⟨i0, hi, hz0, hz1, hz2⟩ := info_parts infoClass
 clear h hN hE hE1 hcl hft hrb hab hr hr1 hin hyes hk hkeys hit
 go_enter Tryz.func121, Tryz.ntmps121
 go_wp2_with fail
 refine hta.mono ?_
 rintro e w1 ⟨rfl, hc1, hm1⟩
 obtain ⟨W1, hW1⟩ : ∃ W1, W1 = w1.alloc (.cells #[.int .u8 x.k, .string (str x.t), .int .i64 x.n, .int .i64 x.at_] 92) := ⟨_, rfl⟩
 have l1 : LTk W1 w1.heap.size x := by rw [hW1]; exact LTk.new w1 x
 obtain ⟨-, p1, -, -⟩ := l1.cells
 have hab1 : One W1 Ab 110 (FnS A) := by rw [hW1]; exact (HAB.out.kept hm1 (by simpa using hAR)).alloc _
 have hrb1 : One W1 Rb 88 (.pointer (some ⟨R, 0, none⟩)) := by rw [hW1]; exact (HRB.out.kept hm1 (by simpa using hRR)).alloc _
 have p2 := hab1.cell
 have p3 := (HAB.out.kept hm1 (by simpa using hAR)).cell
 have hAb1 := (HAB.out.kept hm1 (by simpa using hAR)).lt
 unfold FnS at p2 p3
 have hF1 : Fr w W1 (· = R) := by rw [hW1]; exact (Fr.of_moved hm1).alloc _
 have HF1 := Lib.hid hF1
 have hft1 := HFT.out.fr hF1 (by simpa using hAR') (by have := hM; show ¬ M = R; omega)
 have hno1 := HYES.out W1 hft1
 have hl1 : w1.heap.size < W1.heap.size := l1.lt
 have hMb := hft1.2.lt
 have hMw := HFT.out.2.lt
 have hs1 := hm1.size
 have HL1 := Lib.hid l1
 have HB1 := Lib.hid hrb1
 have HFM1 := Lib.hid hft1.2
 have HC1 : Hid (CU W1 R T (k + 1) v1 v2 v3 v4 v5) := Lib.hid (by rw [hW1]; exact hc1.alloc _)
 clear hc1 hm1 hta hab1 hF1 l1 hft1 hrb1
 rw [hW1] at p1 p2
 unfold tkV
 go_wp2_with fail
 rw [← hW1]
 clear hW1
 refine hno1.mono ?_
 rintro e w2 ⟨rfl, hft2, hg2⟩
 have hl2 : LTk w2 w1.heap.size x := (hg2.block _ hl1 (by intro e; injection e; omega)).trans HL1.out
 obtain ⟨p4, p5, p6, p7⟩ := hl2.cells
 have hf2 : Fr W1 w2 (· = M) := (Fr.of_grown hg2).mono (fun j _ e => by injection e with e; exact e.symm)
 have hc2 := HC1.out.fr hf2 (fun j e => by rw [show j = M from e]; exact hM)
 have hb2 := HB1.out.fr hf2 hRM
 have q2 := hb2.cell
 have hit2 := HIT.out w2 hc2 hb2
 have hF2 : Fr w w2 (fun j => j = R ∨ j = M ∨ v1.ownBlock = some j) := (HF1.out.mono fun _ _ e => .inl e).next hf2 (fun j _ e => .inr (.inl e))
 have hB2 := hb2.lt
 have hR2 := hc2.lt
 have hsz2 := hF2.size
 have HF2 := Lib.hid hF2
 have HFT2 := Lib.hid hft2
 have q3 : (w2.alloc (.cells #[.string (str x.t), .slice none 0 0] 47)).cell? ⟨Rb, 0, none⟩ = some (.pointer (some ⟨R, 0, none⟩)) := (hb2.alloc _).cell
 have HCL2 : Hid (ClsAt w2 lo v1 cs) := Lib.hid ((HCL.out.frR HCU.out HF1.out).frM HFM1.out hf2)
 cases hI : itemsL rangeL (r.length + 1) [] r with
 | error er =>
  have HXE2 := Lib.hid (HXE.out er hI)
  rw [hI] at hit2
  clear hg2 hl2 hno1 hf2 hc2 hb2 hI hF2 hft2
  go_wp2_with fail
  refine hit2.mono ?_
  rintro e w4 ⟨rfl, hm4⟩
  rw [HXE2.out]
  exact ⟨rfl, rfl, HF2.out.next (Fr.of_moved hm4) (fun j _ e => .inl e)⟩
 | ok y =>
  obtain ⟨rs, r'⟩ := y
  have HXO2 := Lib.hid (HXO.out rs r' hI)
  have HFM2 := Lib.hid hf2
  have HCU2 := Lib.hid hc2
  rw [hI] at hit2
  clear hg2 hl2 hno1 hf2 hc2 hb2 hI hF2 hft2
  go_wp2_with fail
  refine hit2.mono ?_
  rintro e w4 ⟨k4, rfl, ⟨⟨hc4, ⟨v, ht4, ho4⟩, hb4, hm4⟩, -⟩, hr4⟩
  have hs4 := hm4.size
  obtain ⟨vs, hv1, hv2, hv3⟩ := (HCL2.out.frR HCU2.out (Fr.of_moved hm4))
  have HVS := Lib.hid hv1
  have HV3 := Lib.hid hv3
  have HFT4 := Lib.hid (HFT2.out.fr (Fr.of_moved hm4) (by simpa using hAR') (by show ¬ M = R; omega))
  have HNA := Lib.hid (row_ne hv2 (HFT2.out.fr (Fr.of_moved hm4) (by simpa using hAR') (by show ¬ M = R; omega)).1 (by decide))
  have HO4 := Lib.hid hv2
  have HC4 := Lib.hid hc4
  have HT4 := Lib.hid ht4
  have HB4 := Lib.hid hb4
  have HV4 := Lib.hid ho4
  have HM4 := Lib.hid hm4
  have HR4 := Lib.hid hr4
  have HCL4 := Lib.hid (HCL2.out.frR HCU2.out (Fr.of_moved hm4))
  have HRW : Hid (∀ g, v1.ownBlock = some g → R < g) := Lib.hid fun g hg => by have := (hv2.lt g hg).1; omega
  have HNB : Hid (some Rb ≠ v1.ownBlock) := Lib.hid (row_ne hv2 hb4 (by decide)).symm
  have HNC : Hid (some w2.heap.size ≠ v1.ownBlock) := Lib.hid fun e => by
   have h1 := HCL2.out
   obtain ⟨vs', -, h2, -⟩ := h1
   have := (h2.lt _ e.symm).2
   omega
  have HOV : Hid (v.oneCell' = true) := Lib.hid (by
   rcases Joins.ownsRow_forms ho4 with ⟨rfl, _⟩ | ⟨g, c, rfl⟩ <;> rfl)
  have l4 : w2.heap.size + 1 ≤ w4.heap.size := ht4.lt
  clear hit2 hc4 ht4 ho4 hb4 hm4 hr4 hv1 hv2 hv3
  go_wp2_with fail
  refine wp_region_E (S := fun W => W.cell? ⟨Rb, 0, none⟩ = some (.pointer (some ⟨R, 0, none⟩)) ∧ W.cell? ⟨R, 2, none⟩ = some v1 ∧ W.cell? ⟨w2.heap.size, 0, none⟩ = some (.string (str x.t)) ∧ W.cell? ⟨w2.heap.size, 1, none⟩ = some v) (L := 12) (by kernel_rfl) ?_
  have hS4 : (fun W : World => W.cell? ⟨Rb, 0, none⟩ = some (.pointer (some ⟨R, 0, none⟩)) ∧ W.cell? ⟨R, 2, none⟩ = some v1 ∧ W.cell? ⟨w2.heap.size, 0, none⟩ = some (.string (str x.t)) ∧ W.cell? ⟨w2.heap.size, 1, none⟩ = some v) w4.drew := ⟨HB4.out.cell, HC4.out.more.1, HT4.out.cells.1, HT4.out.cells.2⟩
  refine wpAnyE_take (i := 0) (oi := ?oi0) (v := ?v0) ?hi0 (by kernel_rfl) (by kernel_rfl) (by kernel_rfl) (by kernel_rfl) ?hq0 (Or.inl ⟨?hw0, ?hy0⟩) (by assumption) ?rest0
  case hi0 => exact rfl
  case hq0 => exact fun _ _ _ h => h
  case hw0 => rfl
  case hy0 => (intro x hx; (try dsimp only at hx); simp only [List.getElem_toArray, List.getElem_cons_zero]; go_split_ands; go_simp; try with_reducible rfl)
  try simp only [Act.put, List.setIfInBounds_toArray, List.set_cons_zero, List.set_cons_succ, List.getElem_toArray, List.getElem_cons_zero]
  refine wpAnyE_take (i := 1) (oi := ?oi1) (v := ?v1) ?hi1 (by kernel_rfl) (by kernel_rfl) (by kernel_rfl) (by kernel_rfl) ?hq1 (Or.inl ⟨?hw1, ?hy1⟩) (by assumption) ?rest1
  case hi1 => exact rfl
  case hq1 => exact fun _ _ _ h => h
  case hw1 => rfl
  case hy1 => (intro x hx; (try dsimp only at hx); simp only [List.getElem_toArray, List.getElem_cons_succ, List.getElem_cons_zero]; go_split_ands; go_simp; try with_reducible rfl)
  try simp only [Act.put, List.setIfInBounds_toArray, List.set_cons_zero, List.set_cons_succ, List.getElem_toArray, List.getElem_cons_succ, List.getElem_cons_zero]
  refine wpAnyE_take (i := 2) (oi := ?oi2) (v := ?v2) ?hi2 (by kernel_rfl) (by kernel_rfl) (by kernel_rfl) (by kernel_rfl) ?hq2 (Or.inl ⟨?hw2, ?hy2⟩) (by assumption) ?rest2
  case hi2 => exact rfl
  case hq2 => exact fun _ _ _ h => h
  case hw2 => rfl
  case hy2 => (intro x hx; (try dsimp only at hx); simp only [List.getElem_toArray, List.getElem_cons_succ, List.getElem_cons_zero]; go_split_ands; go_simp; try with_reducible rfl)
  try simp only [Act.put, List.setIfInBounds_toArray, List.set_cons_zero, List.set_cons_succ, List.getElem_toArray, List.getElem_cons_succ, List.getElem_cons_zero]
  refine wpAnyE_take (i := 3) (oi := ?oi3) (v := ?v3) ?hi3 (by kernel_rfl) (by kernel_rfl) (by kernel_rfl) (by kernel_rfl) ?hq3 (Or.inl ⟨?hw3, ?hy3⟩) (by assumption) ?rest3
  case hi3 => exact rfl
  case hq3 => exact fun _ _ _ h => h
  case hw3 => rfl
  case hy3 => (intro x hx; (try dsimp only at hx); simp only [List.getElem_toArray, List.getElem_cons_succ, List.getElem_cons_zero]; go_split_ands; go_simp; try with_reducible rfl)
  try simp only [Act.put, List.setIfInBounds_toArray, List.set_cons_zero, List.set_cons_succ, List.getElem_toArray, List.getElem_cons_succ, List.getElem_cons_zero]
  refine wpAnyE_take (i := 4) (oi := ?oi4) (v := ?v4) ?hi4 (by kernel_rfl) (by kernel_rfl) (by kernel_rfl) (by kernel_rfl) ?hq4 (Or.inl ⟨?hw4, ?hy4⟩) (by assumption) ?rest4
  case hi4 => exact rfl
  case hq4 => exact fun _ _ _ h => h
  case hw4 => rfl
  case hy4 => (intro x hx; (try dsimp only at hx); simp only [List.getElem_toArray, List.getElem_cons_succ, List.getElem_cons_zero]; go_split_ands; go_simp; try with_reducible rfl)
  try simp only [Act.put, List.setIfInBounds_toArray, List.set_cons_zero, List.set_cons_succ, List.getElem_toArray, List.getElem_cons_succ, List.getElem_cons_zero]
  refine wpAnyE_take (i := 5) (oi := ?oi5) (v := ?v5) ?hi5 (by kernel_rfl) (by kernel_rfl) (by kernel_rfl) (by kernel_rfl) ?hq5 (Or.inl ⟨?hw5, ?hy5⟩) (by assumption) ?rest5
  case hi5 => exact rfl
  case hq5 => exact fun _ _ _ h => h
  case hw5 => rfl
  case hy5 => (intro x hx; (try dsimp only at hx); simp only [List.getElem_toArray, List.getElem_cons_succ, List.getElem_cons_zero]; go_split_ands; go_simp; try with_reducible rfl)
  try simp only [Act.put, List.setIfInBounds_toArray, List.set_cons_zero, List.set_cons_succ, List.getElem_toArray, List.getElem_cons_succ, List.getElem_cons_zero]
  refine wpAnyE_take (i := 6) (oi := ?oi6) (v := ?v6) ?hi6 (by kernel_rfl) (by kernel_rfl) (by kernel_rfl) (by kernel_rfl) ?hq6 (Or.inl ⟨?hw6, ?hy6⟩) (by assumption) ?rest6
  case hi6 => exact rfl
  case hq6 => exact fun _ _ _ h => h
  case hw6 => rfl
  case hy6 => (intro x hx; (try dsimp only at hx); simp only [List.getElem_toArray, List.getElem_cons_succ, List.getElem_cons_zero]; go_split_ands; go_simp; try with_reducible rfl)
  try simp only [Act.put, List.setIfInBounds_toArray, List.set_cons_zero, List.set_cons_succ, List.getElem_toArray, List.getElem_cons_succ, List.getElem_cons_zero]
  refine wpAnyE_one (i := 7) (by kernel_rfl) rfl (fun K hK => ?_)
  simp only [List.getElem_toArray, List.getElem_cons_succ, List.getElem_cons_zero]
  go_simp
  refine hK.out _ _ (fun _ => ⟨(HB4.out.alloc _).cell, (HC4.out.drew.alloc _).more.1, (HT4.out.alloc _).cells.1, (HT4.out.alloc _).cells.2⟩) (fun hS => ?_)
  replace hS := hS (by decide)
  refine wpAnyE_one (i := 8) (by kernel_rfl) rfl (fun K hK => ?_)
  refine step_append_lies _ (by rfl) _ _ _ (by rfl) lo 47 i0 (.agg #[.string (str []), .slice none 0 0]) 2 40 Tryz.underlying22 hi hz0 hz1 hz2 rfl (by decide) v1 cs.length (clsC cs vs) (by rfl) (HO4.out.drew.alloc _) ⟨w4.heap.size, 0, none⟩ 1 1 [.string (str x.t), v] (by rfl) (by rfl) (pair_new _ _ _ _ _ (by simp)) (by intro u hu; simp at hu; rcases hu with rfl | rfl; rfl; exact HOV.out) (by omega) (by unfold maxLen; omega) (by omega) (by simp; omega) (w4.heap.size + 1) (by simp) ?_
  intro g cap w5 hown5 hgr5 hat5 hlt5
  have HG5 := Lib.hid hgr5
  have HO5 := Lib.hid hown5
  have HC5 := Lib.hid ((HC4.out.drew.alloc (.cells #[.string (str x.t), v] 47)).kept hgr5 HRW.out)
  have p5 := HC5.out.one 2
  have hS5 : w5.cell? ⟨Rb, 0, none⟩ = some (.pointer (some ⟨R, 0, none⟩)) ∧ w5.cell? ⟨R, 2, none⟩ = some v1 ∧ w5.cell? ⟨w2.heap.size, 0, none⟩ = some (.string (str x.t)) ∧ w5.cell? ⟨w2.heap.size, 1, none⟩ = some v := by
   refine ⟨((HB4.out.alloc (.cells #[.string (str x.t), v] 47)).drew.kept hgr5 HNB.out).cell, HC5.out.more.1, ?_, ?_⟩
   ·exact ((HT4.out.alloc (.cells #[.string (str x.t), v] 47)).drew.kept hgr5 HNC.out).cells.1
   ·exact ((HT4.out.alloc (.cells #[.string (str x.t), v] 47)).drew.kept hgr5 HNC.out).cells.2
  clear hown5 hgr5 hat5
  refine hK.out _ _ (fun _ => hS5) (fun _ => ?_)
  refine wpAnyE_one (i := 9) (by kernel_rfl) rfl (fun K hK => ?_)
  simp only [List.getElem_toArray, List.getElem_cons_succ, List.getElem_cons_zero]
  go_simp
  refine hK.out _ _ (fun _ => hS5) (fun _ => ?_)
  refine wpAnyE_one (i := 10) (by kernel_rfl) rfl (fun K hK => ?_)
  simp only [List.getElem_toArray, List.getElem_cons_succ, List.getElem_cons_zero]
  go_simp
  refine hK.out _ _ (fun _ => hS5) (fun _ => ?_)
  refine wpAnyE_take (i := 11) (oi := ?oi11) (v := ?v11) ?hi11 (by kernel_rfl) (by kernel_rfl) (by kernel_rfl) (by kernel_rfl) ?hq11 (Or.inl ⟨?hw11, ?hy11⟩) (by assumption) ?rest11
  case hi11 => exact rfl
  case hq11 => exact fun _ _ _ h => h
  case hw11 => rfl
  case hy11 => (intro x hx; (try dsimp only at hx); simp only [List.getElem_toArray, List.getElem_cons_succ, List.getElem_cons_zero]; go_split_ands; go_simp; try with_reducible rfl)
  try simp only [Act.put, List.setIfInBounds_toArray, List.set_cons_zero, List.set_cons_succ, List.getElem_toArray, List.getElem_cons_succ, List.getElem_cons_zero]
  refine wpAnyE_one (i := 12) (by kernel_rfl) rfl (fun K hK => ?_)
  simp only [List.getElem_toArray, List.getElem_cons_succ, List.getElem_cons_zero]
  go_simp
  refine hK.out _ _ (fun h => absurd rfl h) (fun _ => ?_)
  refine wpAnyE_done (by kernel_rfl) ?_ _
  rw [HXO2.out]
  have hf5 : Fr w4 w5 (fun j => v1.ownBlock = some j) := (((Fr.of_below (Below.refl _ w4)).drew.alloc (.cells #[.string (str x.t), v] 47)).next (Fr.of_grown HG5.out) (fun _ _ e => e))
  have hMo : ¬ v1.ownBlock = some M := by
   intro e
   obtain ⟨c, hc⟩ := ownsRow_ty HO4.out e
   obtain ⟨es, q, h1, _⟩ := HFT4.out.2
   rw [h1] at hc
   cases hc
  have hft5 := HFT4.out.fr hf5 HNA.out hMo
  have hcl5 := ClsAt.snoc (cap := cap) (g := g) ⟨x.t, rs⟩ HVS.out (HO4.out.drew.alloc (.cells #[.string (str x.t), v] 47)) (fun i c x hc hx => (HV3.out i c x hc hx).drew.alloc _) ((Joins.ownsRow_le HV4.out (by omega)).drew.alloc _) HG5.out HO5.out
  have hset : Fr w5 (w5.setCell ⟨R, 2, none⟩ (.slice (some ⟨g, 0, none⟩) (cs.length + 1) cap)) (· = R) := (Fr.of_below (Below.refl _ w5)).set _ _ (fun _ => rfl)
  go_end0
  refine ⟨k4, _, rfl, HC5.out.set1 _, HR4.out, hcl5.frR HC5.out hset, ?_, ?_⟩
  ·have := hft5.fr hset hAR' (by show ¬ M = R; omega)
   rw [HKEY.out] at this
   have e : namesV (cs ++ [⟨x.t, rs⟩]) = namesV (cs ++ [⟨x.t, []⟩]) := by simp [namesV]
   rw [e]
   exact this
  ·exact ((HF2.out.next (Fr.of_moved HM4.out) (fun j _ e => .inl e)).next hf5 (fun j _ e => .inr (.inr e))).next hset (fun j _ e => .inl e)
end
end Go.Proofs.YthaibekbefndlaaGreatDoor.C

namespace Go.Proofs.YthaibekbefndlaaGreatDoor.C
open Go.RowKit

section
variable (w0 : World) (u0 : Value) (lo R : Nat) (T : TV) (v1 v3 v4 v5 : Value) (A M Rb Ab Tb : Nat)
set_option maxRecDepth 100000 in
set_option maxHeartbeats 8000000 in
theorem pairItemU_any (l : List (Int × Int)) (k : Nat) (u : Value) (w : World) (hP : PrU w0 u0 lo R T v1 v3 v4 v5 A M Rb Ab Tb u (numsV l) l k w) (hl : l.length ≤ k) (hN : NumOk T) (hE : Ended (T.ts.drop k)) (hlo : R < lo) (hlw : lo ≤ w0.heap.size) (hM : R < M) :
  Calls Tryz.prog 127 #[.pointer (some ⟨Rb, 0, none⟩), .pointer (some ⟨Ab, 0, none⟩), .pointer (some ⟨Tb, 0, none⟩)] w
   (ItTold T (fun l' k' W => (∃ u', PrU w0 u0 lo R T v1 v3 v4 v5 A M Rb Ab Tb u' (numsV l') l' k' W) ∧ l'.length ≤ k') (fun W => Fr w0 W (fun j => j = R ∨ j = M ∨ u0.ownBlock = some j)) (pairL l (T.ts.drop k))) := by
 have HP := Lib.hid hP
 have hsz := hP.fr.size
 have hkT := hP.cu.2.2
 have q0 := hP.rb.cell
 obtain ⟨i0, hi, hz0, hz1, hz2⟩ := info_parts infoPair
 obtain ⟨x0, r0, hx0⟩ := hE.some_
 obtain ⟨X, hX⟩ : ∃ X, X = pairL l (T.ts.drop k) := ⟨_, rfl⟩
 rw [← hX]
 rw [hx0] at hX
 by_cases c0 : x0.k = 2 ∧ x0.t = sOpen
 rotate_left
 ·have hta := takeText_no w R T k v1 u v3 v4 v5 x0 r0 2 sOpen hP.cu hx0 c0
  rw [hX, pairL_no c0]
  clear hP hN hE hX c0 hx0
  go_enter Tryz.func127, Tryz.ntmps127
  go_wp2_with fail
  refine hta.mono ?_
  rintro e w1 ⟨rfl, hm1⟩
  exact ⟨rfl, rfl, HP.out.fr.next (Fr.of_moved hm1) (fun j _ e => .inl e)⟩
 have hta := takeText_yes w R T k v1 u v3 v4 v5 x0 r0 2 sOpen hP.cu hx0 c0.1 c0.2
 have HX := Lib.hid (hX.trans (pairL_yes c0))
 rw [hx0] at hE
 have hE1 := hE.cons (by omega)
 obtain ⟨x1, r1, hx1⟩ := hE1.some_
 have hd1 : T.ts.drop (k + 1) = x1 :: r1 := (drop_next hx0).trans hx1
 have HD1 := Lib.hid hd1
 have HE1 := Lib.hid (hx1 ▸ hE1)
 rw [hx1] at HX
 have hn1 := hN.at_ hd1
 have HN := Lib.hid hN
 clear hP hN hE hX c0 hx0 hE1 hx1 hd1
 go_enter Tryz.func127, Tryz.ntmps127
 go_wp2_with fail
 refine hta.mono ?_
 rintro e w1 ⟨rfl, hc1, hm1⟩
 have HP1 := Lib.hid (HP.out.go hc1 hm1)
 have q1 := HP1.out.rb.cell
 clear hc1 hm1 hta q0
 by_cases c1 : x1.k = 3
 rotate_left
 ·have hta := take1_no w1 R T (k + 1) v1 u v3 v4 v5 x1 r1 _ rfl 3 HP1.out.cu HD1.out c1
  have HX2 := Lib.hid (HX.out.trans (pairA_no c1))
  clear c1
  go_wp2_with fail
  refine hta.mono ?_
  rintro e w2 ⟨rfl, hm2⟩
  have eX := HX2.out
  subst eX
  exact ⟨rfl, rfl, HP1.out.fr.next (Fr.of_moved hm2) (fun j _ e => .inl e)⟩
 have hta := take1_yes w1 R T (k + 1) v1 u v3 v4 v5 x1 r1 _ rfl 3 HP1.out.cu HD1.out c1
 have n10 : (0 : Int) ≤ (x1.n : Int) := by omega
 have n11 : (x1.n : Int) ≤ 1114111 := by omega
 have C1 := Lib.hid c1
 clear c1
 go_wp2_with fail
 refine hta.mono ?_
 rintro e w2 ⟨rfl, hc2, hm2⟩
 have HP2 := Lib.hid (HP1.out.go hc2 hm2)
 obtain ⟨W2, hW2⟩ : ∃ W2, W2 = w2.alloc (.cells #[.int .u8 x1.k, .string (str x1.t), .int .i64 x1.n, .int .i64 x1.at_] 92) := ⟨_, rfl⟩
 have HPW : Hid (PrU w0 u0 lo R T v1 v3 v4 v5 A M Rb Ab Tb u (numsV l) l (k + 1 + 1) W2) := Lib.hid (by rw [hW2]; exact HP2.out.alloc _)
 have HT1 : Hid (LTk W2 w2.heap.size x1) := Lib.hid (by rw [hW2]; exact LTk.new w2 x1)
 obtain ⟨-, -, p1, -⟩ := HT1.out.cells
 have p2 := HPW.out.ab.cell
 have p3 := HP2.out.ab.cell
 have p4 := HP2.out.ab.lt
 have hbR : w2.heap.size ≠ R := by have := HP2.out.cu.lt; omega
 have hb1M : w2.heap.size ≠ M := by have := HP2.out.ft.2.lt; omega
 unfold FnI at p2 p3
 rw [hW2] at p1 p2
 clear hc2 hm2 hta q1
 unfold tkV
 have hyn : Calls Tryz.prog 170 #[.int .i64 x1.n, .pointer (some ⟨A, 0, none⟩)] W2 fun e w' => (((x1.n : Int) ∈ l.map Prod.fst ∧ e = .returned (.bool false)) ∨ ((x1.n : Int) ∉ l.map Prod.fst ∧ e = .returned (.bool true) ∧ FT w' 200 (.int .i64) A M (numsV l ++ [.int .i64 x1.n]))) ∧ W2.grownBy w' (some M) := by
  by_cases c2 : (x1.n : Int) ∈ l.map Prod.fst
  ·exact (isNewI_no W2 A M (numsV l) x1.n HPW.out.ft (nums_in.2 c2)).mono fun e w' h => ⟨.inl ⟨c2, h.1⟩, h.2⟩
  ·exact (isNewI_yes W2 A M (numsV l) x1.n HPW.out.ft (fun h => c2 (nums_in.1 h))).mono fun e w' h => ⟨.inr ⟨c2, h.1, h.2.1⟩, h.2.2⟩
 go_wp2_with fail
 rw [← hW2]
 clear hW2 p1 p2 p3 p4
 refine hyn.mono ?_
 rintro e w3 ⟨hcase, hg3⟩
 have HT3 : Hid (LTk w3 w2.heap.size x1) := Lib.hid ((hg3.block _ HT1.out.lt (by intro e; injection e; omega)).trans HT1.out)
 obtain ⟨a0, a1, a2, a3⟩ := HT3.out.cells
 rcases hcase with ⟨c2, rfl⟩ | ⟨c2, rfl, hft3⟩
 ·have HX2 := Lib.hid (HX.out.trans (pairA_twice C1.out c2))
  have hrf := fun W => refuse_any 32 x1 W
  unfold tkV at hrf
  have HF3 := Lib.hid ((HPW.out.fr.next (Fr.of_grown hg3) (fun j _ e => .inr (.inl (by injection e with e; exact e.symm)))))
  clear hg3 hyn c2
  go_wp2_with fail
  refine (hrf _).mono ?_
  rintro e w4 ⟨rfl, hb4⟩
  have eX := HX2.out
  subst eX
  exact ⟨rfl, rfl, HF3.out.trans (.of_below hb4)⟩
 have HP3 := Lib.hid (HPW.out.asked hft3 hg3 hM)
 have q3 := HP3.out.rb.cell
 have HX2 := Lib.hid (HX.out.trans (pairA_yes C1.out c2))
 have hE2 := HE1.out.cons (by rw [C1.out]; omega)
 obtain ⟨x2, r2, hx2⟩ := hE2.some_
 have hd2 : T.ts.drop (k + 1 + 1) = x2 :: r2 := (drop_next HD1.out).trans hx2
 have HD2 := Lib.hid hd2
 have HE2 := Lib.hid (hx2 ▸ hE2)
 rw [hx2] at HX2
 clear hg3 hyn hft3 c2 hE2 hx2 hd2 hn1
 by_cases c2 : x2.k = 2 ∧ x2.t = sComma
 rotate_left
 ·have hta := takeText_no w3 R T (k + 1 + 1) v1 u v3 v4 v5 x2 r2 2 sComma HP3.out.cu HD2.out c2
  have HX3 := Lib.hid (HX2.out.trans (pairB_no c2))
  clear c2
  go_wp2_with fail
  refine hta.mono ?_
  rintro e w4 ⟨rfl, hm4⟩
  have eX := HX3.out
  subst eX
  exact ⟨rfl, rfl, HP3.out.fr.next (Fr.of_moved hm4) (fun j _ e => .inl e)⟩
 have hta := takeText_yes w3 R T (k + 1 + 1) v1 u v3 v4 v5 x2 r2 2 sComma HP3.out.cu HD2.out c2.1 c2.2
 have HX3 := Lib.hid (HX2.out.trans (pairB_yes c2))
 have hE3 := HE2.out.cons (by omega)
 clear c2
 go_wp2_with fail
 refine hta.mono ?_
 rintro e w4 ⟨rfl, hc4, hm4⟩
 have HP4 := Lib.hid (HP3.out.go hc4 hm4)
 have HT4 := Lib.hid (HT3.out.moved hm4 hbR)
 have q4 := HP4.out.rb.cell
 obtain ⟨x4, r4, hx4⟩ := hE3.some_
 have hd4 : T.ts.drop (k + 1 + 1 + 1) = x4 :: r4 := (drop_next HD2.out).trans hx4
 have HD4 := Lib.hid hd4
 have HE4 := Lib.hid (hx4 ▸ hE3)
 rw [hx4] at HX3
 have hn4 := HN.out.at_ hd4
 clear hc4 hm4 hta q3 a0 a1 a2 a3 hE3 hx4 hd4
 by_cases c4 : x4.k = 3
 rotate_left
 ·have hta := take1_no w4 R T (k + 1 + 1 + 1) v1 u v3 v4 v5 x4 r4 _ rfl 3 HP4.out.cu HD4.out c4
  have HX4 := Lib.hid (HX3.out.trans (pairC_no c4))
  clear c4
  go_wp2_with fail
  refine hta.mono ?_
  rintro e w5 ⟨rfl, hm5⟩
  have eX := HX4.out
  subst eX
  exact ⟨rfl, rfl, HP4.out.fr.next (Fr.of_moved hm5) (fun j _ e => .inl e)⟩
 have hta := take1_yes w4 R T (k + 1 + 1 + 1) v1 u v3 v4 v5 x4 r4 _ rfl 3 HP4.out.cu HD4.out c4
 have HX4 := Lib.hid (HX3.out.trans (pairC_yes c4))
 have hE5 := HE4.out.cons (by omega)
 have n40 : (0 : Int) ≤ (x4.n : Int) := by omega
 have n41 : (x4.n : Int) ≤ 1114111 := by omega
 clear c4
 go_wp2_with fail
 refine hta.mono ?_
 rintro e w5 ⟨rfl, hc5, hm5⟩
 obtain ⟨W5, hW5⟩ : ∃ W5, W5 = w5.alloc (.cells #[.int .u8 x4.k, .string (str x4.t), .int .i64 x4.n, .int .i64 x4.at_] 92) := ⟨_, rfl⟩
 have HPW5 : Hid (PrU w0 u0 lo R T v1 v3 v4 v5 A M Rb Ab Tb u (numsV l ++ [.int .i64 x1.n]) l (k + 1 + 1 + 1 + 1) W5) := Lib.hid (by rw [hW5]; exact (HP4.out.go hc5 hm5).alloc _)
 have HT51 : Hid (LTk W5 w2.heap.size x1) := Lib.hid (by rw [hW5]; exact (HT4.out.moved hm5 hbR).alloc _)
 have HT54 : Hid (LTk W5 w5.heap.size x4) := Lib.hid (by rw [hW5]; exact LTk.new w5 x4)
 have p2 := HPW5.out.rb.cell
 have p3 := (HP4.out.go hc5 hm5).rb.cell
 have p4 := (HP4.out.go hc5 hm5).rb.lt
 have hb5R : w5.heap.size ≠ R := by have := hc5.lt; omega
 rw [hW5] at p2
 obtain ⟨x5, r5, hx5⟩ := hE5.some_
 have hd5 : T.ts.drop (k + 1 + 1 + 1 + 1) = x5 :: r5 := (drop_next HD4.out).trans hx5
 have HD5 := Lib.hid hd5
 rw [hx5] at HX4
 clear hc5 hm5 hta q4 hE5 hx5 hd5 hn4
 unfold tkV
 by_cases c5 : x5.k = 2 ∧ x5.t = sShut
 rotate_left
 ·have hta := takeText_no W5 R T (k + 1 + 1 + 1 + 1) v1 u v3 v4 v5 x5 r5 2 sShut HPW5.out.cu HD5.out c5
  have HX5 := Lib.hid (HX4.out.trans (pairD_no c5))
  clear c5
  go_wp2_with fail
  rw [← hW5]
  refine hta.mono ?_
  rintro e w6 ⟨rfl, hm6⟩
  have eX := HX5.out
  subst eX
  exact ⟨rfl, rfl, HPW5.out.fr.next (Fr.of_moved hm6) (fun j _ e => .inl e)⟩
 have hta := takeText_yes W5 R T (k + 1 + 1 + 1 + 1) v1 u v3 v4 v5 x5 r5 2 sShut HPW5.out.cu HD5.out c5.1 c5.2
 have HX5 := Lib.hid (HX4.out.trans (pairD_yes c5))
 have HD6 := Lib.hid (drop_next HD5.out)
 clear c5
 go_wp2_with fail
 rw [← hW5]
 clear hW5 p2 p3 p4
 refine hta.mono ?_
 rintro e w6 ⟨rfl, hc6, hm6⟩
 have HP6 := Lib.hid (HPW5.out.go hc6 hm6)
 have HT61 := Lib.hid (HT51.out.moved hm6 hbR)
 have HT64 := Lib.hid (HT54.out.moved hm6 hb5R)
 have hs6 := HP6.out.fr.size
 have hR6 := hc6.lt
 clear hc6 hm6 hta
 go_wp2_with fail
 have e1 : IntKind.i32.wrap (x1.n : Int) = (x1.n : Int) := wrap32 n10 n11
 have e4 : IntKind.i32.wrap (x4.n : Int) = (x4.n : Int) := wrap32 n40 n41
 refine wp_region_E (S := fun W => W.cell? ⟨Tb, 0, none⟩ = some (.pointer (some ⟨R, 3, none⟩)) ∧ W.cell? ⟨R, 3, none⟩ = some u ∧ W.cell? ⟨w2.heap.size, 2, none⟩ = some (.int .i64 x1.n) ∧ W.cell? ⟨w5.heap.size, 2, none⟩ = some (.int .i64 x4.n)) (L := 14) (by kernel_rfl) ?_
 have hS6 : (fun W : World => W.cell? ⟨Tb, 0, none⟩ = some (.pointer (some ⟨R, 3, none⟩)) ∧ W.cell? ⟨R, 3, none⟩ = some u ∧ W.cell? ⟨w2.heap.size, 2, none⟩ = some (.int .i64 x1.n) ∧ W.cell? ⟨w5.heap.size, 2, none⟩ = some (.int .i64 x4.n)) w6.drew := ⟨HP6.out.tb.cell, HP6.out.cu.more.2.1, HT61.out.cells.2.2.1, HT64.out.cells.2.2.1⟩
 refine wpAnyE_take (i := 0) (oi := ?oi0) (v := ?v0) ?hi0 (by kernel_rfl) (by kernel_rfl) (by kernel_rfl) (by kernel_rfl) ?hq0 (Or.inl ⟨?hw0, ?hy0⟩) (by assumption) ?rest0
 case hi0 => exact rfl
 case hq0 => exact fun _ _ _ h => h
 case hw0 => rfl
 case hy0 => (intro x hx; (try dsimp only at hx); simp only [List.getElem_toArray, List.getElem_cons_zero]; go_split_ands; go_simp; try with_reducible rfl)
 try simp only [Act.put, List.setIfInBounds_toArray, List.set_cons_zero, List.set_cons_succ, List.getElem_toArray, List.getElem_cons_zero]
 refine wpAnyE_take (i := 1) (oi := ?oi1) (v := ?v1) ?hi1 (by kernel_rfl) (by kernel_rfl) (by kernel_rfl) (by kernel_rfl) ?hq1 (Or.inl ⟨?hw1, ?hy1⟩) (by assumption) ?rest1
 case hi1 => exact rfl
 case hq1 => exact fun _ _ _ h => h
 case hw1 => rfl
 case hy1 => (intro x hx; (try dsimp only at hx); simp only [List.getElem_toArray, List.getElem_cons_succ, List.getElem_cons_zero]; go_split_ands; go_simp; try with_reducible rfl)
 try simp only [Act.put, List.setIfInBounds_toArray, List.set_cons_zero, List.set_cons_succ, List.getElem_toArray, List.getElem_cons_succ, List.getElem_cons_zero]
 refine wpAnyE_take (i := 2) (oi := ?oi2) (v := ?v2) ?hi2 (by kernel_rfl) (by kernel_rfl) (by kernel_rfl) (by kernel_rfl) ?hq2 (Or.inl ⟨?hw2, ?hy2⟩) (by assumption) ?rest2
 case hi2 => exact rfl
 case hq2 => exact fun _ _ _ h => h
 case hw2 => rfl
 case hy2 => (intro x hx; (try dsimp only at hx); simp only [List.getElem_toArray, List.getElem_cons_succ, List.getElem_cons_zero]; go_split_ands; go_simp; try with_reducible rfl)
 try simp only [Act.put, List.setIfInBounds_toArray, List.set_cons_zero, List.set_cons_succ, List.getElem_toArray, List.getElem_cons_succ, List.getElem_cons_zero]
 refine wpAnyE_take (i := 3) (oi := ?oi3) (v := ?v3) ?hi3 (by kernel_rfl) (by kernel_rfl) (by kernel_rfl) (by kernel_rfl) ?hq3 (Or.inl ⟨?hw3, ?hy3⟩) (by assumption) ?rest3
 case hi3 => exact rfl
 case hq3 => exact fun _ _ _ h => h
 case hw3 => rfl
 case hy3 => (intro x hx; (try dsimp only at hx); simp only [List.getElem_toArray, List.getElem_cons_succ, List.getElem_cons_zero]; go_split_ands; go_simp; try with_reducible rfl)
 try simp only [Act.put, List.setIfInBounds_toArray, List.set_cons_zero, List.set_cons_succ, List.getElem_toArray, List.getElem_cons_succ, List.getElem_cons_zero]
 refine wpAnyE_take (i := 4) (oi := ?oi4) (v := ?v4) ?hi4 (by kernel_rfl) (by kernel_rfl) (by kernel_rfl) (by kernel_rfl) ?hq4 (Or.inl ⟨?hw4, ?hy4⟩) (by assumption) ?rest4
 case hi4 => exact rfl
 case hq4 => exact fun _ _ _ h => h
 case hw4 => rfl
 case hy4 => (intro x hx; (try dsimp only at hx); simp only [List.getElem_toArray, List.getElem_cons_succ, List.getElem_cons_zero]; go_split_ands; go_simp; try with_reducible rfl)
 try simp only [Act.put, List.setIfInBounds_toArray, List.set_cons_zero, List.set_cons_succ, List.getElem_toArray, List.getElem_cons_succ, List.getElem_cons_zero]
 refine wpAnyE_take (i := 5) (oi := ?oi5) (v := ?v5) ?hi5 (by kernel_rfl) (by kernel_rfl) (by kernel_rfl) (by kernel_rfl) ?hq5 (Or.inl ⟨?hw5, ?hy5⟩) (by assumption) ?rest5
 case hi5 => exact rfl
 case hq5 => exact fun _ _ _ h => h
 case hw5 => rfl
 case hy5 => (intro x hx; (try dsimp only at hx); simp only [List.getElem_toArray, List.getElem_cons_succ, List.getElem_cons_zero]; go_split_ands; go_simp; try with_reducible rfl)
 try simp only [Act.put, List.setIfInBounds_toArray, List.set_cons_zero, List.set_cons_succ, List.getElem_toArray, List.getElem_cons_succ, List.getElem_cons_zero]
 refine wpAnyE_take (i := 6) (oi := ?oi6) (v := ?v6) ?hi6 (by kernel_rfl) (by kernel_rfl) (by kernel_rfl) (by kernel_rfl) ?hq6 (Or.inl ⟨?hw6, ?hy6⟩) (by assumption) ?rest6
 case hi6 => exact rfl
 case hq6 => exact fun _ _ _ h => h
 case hw6 => rfl
 case hy6 => (intro x hx; (try dsimp only at hx); simp only [List.getElem_toArray, List.getElem_cons_succ, List.getElem_cons_zero]; go_split_ands; go_simp; try with_reducible rfl)
 try simp only [Act.put, List.setIfInBounds_toArray, List.set_cons_zero, List.set_cons_succ, List.getElem_toArray, List.getElem_cons_succ, List.getElem_cons_zero]
 refine wpAnyE_take (i := 7) (oi := ?oi7) (v := ?v7) ?hi7 (by kernel_rfl) (by kernel_rfl) (by kernel_rfl) (by kernel_rfl) ?hq7 (Or.inl ⟨?hw7, ?hy7⟩) (by assumption) ?rest7
 case hi7 => exact rfl
 case hq7 => exact fun _ _ _ h => h
 case hw7 => rfl
 case hy7 => (intro x hx; (try dsimp only at hx); simp only [List.getElem_toArray, List.getElem_cons_succ, List.getElem_cons_zero]; go_split_ands; go_simp; try with_reducible rfl)
 try simp only [Act.put, List.setIfInBounds_toArray, List.set_cons_zero, List.set_cons_succ, List.getElem_toArray, List.getElem_cons_succ, List.getElem_cons_zero]
 refine wpAnyE_take (i := 8) (oi := ?oi8) (v := ?v8) ?hi8 (by kernel_rfl) (by kernel_rfl) (by kernel_rfl) (by kernel_rfl) ?hq8 (Or.inl ⟨?hw8, ?hy8⟩) (by assumption) ?rest8
 case hi8 => exact rfl
 case hq8 => exact fun _ _ _ h => h
 case hw8 => rfl
 case hy8 => (intro x hx; (try dsimp only at hx); simp only [List.getElem_toArray, List.getElem_cons_succ, List.getElem_cons_zero]; go_split_ands; go_simp; try with_reducible rfl)
 try simp only [Act.put, List.setIfInBounds_toArray, List.set_cons_zero, List.set_cons_succ, List.getElem_toArray, List.getElem_cons_succ, List.getElem_cons_zero]
 refine wpAnyE_take (i := 9) (oi := ?oi9) (v := ?v9) ?hi9 (by kernel_rfl) (by kernel_rfl) (by kernel_rfl) (by kernel_rfl) ?hq9 (Or.inl ⟨?hw9, ?hy9⟩) (by assumption) ?rest9
 case hi9 => exact rfl
 case hq9 => exact fun _ _ _ h => h
 case hw9 => rfl
 case hy9 => (intro x hx; (try dsimp only at hx); simp only [List.getElem_toArray, List.getElem_cons_succ, List.getElem_cons_zero]; go_split_ands; go_simp; try with_reducible rfl)
 try simp only [Act.put, List.setIfInBounds_toArray, List.set_cons_zero, List.set_cons_succ, List.getElem_toArray, List.getElem_cons_succ, List.getElem_cons_zero]
 refine wpAnyE_take (i := 10) (oi := ?oi10) (v := ?v10) ?hi10 (by kernel_rfl) (by kernel_rfl) (by kernel_rfl) (by kernel_rfl) ?hq10 (Or.inl ⟨?hw10, ?hy10⟩) (by assumption) ?rest10
 case hi10 => exact rfl
 case hq10 => exact fun _ _ _ h => h
 case hw10 => rfl
 case hy10 => (intro x hx; (try dsimp only at hx); simp only [List.getElem_toArray, List.getElem_cons_succ, List.getElem_cons_zero]; go_split_ands; go_simp; try with_reducible rfl)
 try simp only [Act.put, List.setIfInBounds_toArray, List.set_cons_zero, List.set_cons_succ, List.getElem_toArray, List.getElem_cons_succ, List.getElem_cons_zero]
 refine wpAnyE_one (i := 11) (by kernel_rfl) rfl (fun K hK => ?_)
 simp only [List.getElem_toArray, List.getElem_cons_succ, List.getElem_cons_zero]
 go_simp
 refine hK.out _ _ (fun _ => ⟨(HP6.out.drew.alloc (.cells #[.int .i32 x1.n, .int .i32 x4.n] 49)).tb.cell, (HP6.out.drew.alloc (.cells #[.int .i32 x1.n, .int .i32 x4.n] 49)).cu.more.2.1, (HT61.out.drew.alloc (.cells #[.int .i32 x1.n, .int .i32 x4.n] 49)).cells.2.2.1, (HT64.out.drew.alloc (.cells #[.int .i32 x1.n, .int .i32 x4.n] 49)).cells.2.2.1⟩) (fun hS => ?_)
 replace hS := hS (by decide)
 refine wpAnyE_one (i := 12) (by kernel_rfl) rfl (fun K hK => ?_)
 refine step_append_lies _ (by rfl) _ _ _ (by rfl) lo 49 i0 (.agg #[.int .i32 0, .int .i32 0]) 2 8 Tryz.underlying23 hi hz0 hz1 hz2 rfl (by decide) u l.length (prsC l) (by rfl) (HP6.out.drew.alloc _).row ⟨w6.heap.size, 0, none⟩ 1 1 [.int .i32 x1.n, .int .i32 x4.n] (by rfl) (by rfl) (pair_new _ _ _ _ _ (by simp)) (by intro u hu; simp at hu; rcases hu with rfl | rfl <;> rfl) (by omega) (by unfold maxLen; omega) (by omega) (by simp; omega) (w6.heap.size + 1) (by simp) ?_
 intro g cap w7 hown7 hgr7 hat7 hlt7
 have HE7 := Lib.hid ((HP6.out.drew.alloc (.cells #[.int .i32 x1.n, .int .i32 x4.n] 49)).more ((x1.n : Int), (x4.n : Int)) hgr7 hown7 (hat7.imp_right (by rintro rfl; omega)) hlo)
 have p7 := HE7.out.1.one 3
 have hS7 : w7.cell? ⟨Tb, 0, none⟩ = some (.pointer (some ⟨R, 3, none⟩)) ∧ w7.cell? ⟨R, 3, none⟩ = some u ∧ w7.cell? ⟨w2.heap.size, 2, none⟩ = some (.int .i64 x1.n) ∧ w7.cell? ⟨w5.heap.size, 2, none⟩ = some (.int .i64 x4.n) := by
  refine ⟨HE7.out.2.1.cell, HE7.out.1.more.2.1, ?_, ?_⟩
  ·exact (LTk.cells ((hgr7.block w2.heap.size (by simp; have := HT61.out.lt; omega) (row_ne (HP6.out.drew.alloc (.cells #[.int .i32 x1.n, .int .i32 x4.n] 49)).row (HT61.out.drew.alloc (.cells #[.int .i32 x1.n, .int .i32 x4.n] 49)) (by decide)).symm).trans (HT61.out.drew.alloc (.cells #[.int .i32 x1.n, .int .i32 x4.n] 49)))).2.2.1
  ·exact (LTk.cells ((hgr7.block w5.heap.size (by simp; have := HT64.out.lt; omega) (row_ne (HP6.out.drew.alloc (.cells #[.int .i32 x1.n, .int .i32 x4.n] 49)).row (HT64.out.drew.alloc (.cells #[.int .i32 x1.n, .int .i32 x4.n] 49)) (by decide)).symm).trans (HT64.out.drew.alloc (.cells #[.int .i32 x1.n, .int .i32 x4.n] 49)))).2.2.1
 clear hown7 hgr7 hat7
 refine hK.out _ _ (fun _ => hS7) (fun hS => ?_)
 replace hS := hS (by decide)
 refine wpAnyE_take (i := 13) (oi := ?oi13) (v := ?v13) ?hi13 (by kernel_rfl) (by kernel_rfl) (by kernel_rfl) (by kernel_rfl) ?hq13 (Or.inl ⟨?hw13, ?hy13⟩) (by assumption) ?rest13
 case hi13 => exact rfl
 case hq13 => exact fun _ _ _ h => h
 case hw13 => rfl
 case hy13 => (intro x hx; (try dsimp only at hx); simp only [List.getElem_toArray, List.getElem_cons_succ, List.getElem_cons_zero]; go_split_ands; go_simp; try with_reducible rfl)
 try simp only [Act.put, List.setIfInBounds_toArray, List.set_cons_zero, List.set_cons_succ, List.getElem_toArray, List.getElem_cons_succ, List.getElem_cons_zero]
 refine wpAnyE_one (i := 14) (by kernel_rfl) rfl (fun K hK => ?_)
 simp only [List.getElem_toArray, List.getElem_cons_succ, List.getElem_cons_zero]
 go_simp
 refine hK.out _ _ (fun h => absurd rfl h) (fun _ => ?_)
 refine wpAnyE_done (by kernel_rfl) ?_ _
 have eX := HX5.out
 subst eX
 have hk : numsV (l ++ [((x1.n : Int), (x4.n : Int))]) = numsV l ++ [.int .i64 x1.n] := by simp [numsV]
 go_end0
 have h2 := HE7.out.2.2
 rw [← hk] at h2
 exact ⟨k + 1 + 1 + 1 + 1 + 1, rfl, ⟨⟨.slice (some ⟨g, 0, none⟩) (l.length + 1) cap, h2⟩, by rw [List.length_append]; show l.length + 1 ≤ _; omega⟩, HD6.out⟩
end
end Go.Proofs.YthaibekbefndlaaGreatDoor.C

namespace Go.Proofs.YthaibekbefndlaaGreatDoor.C
open Go.RowKit

section
variable (lo R : Nat) (T : TV) (v1 v3 v4 v5 : Value) (A M Rb Ab Tb : Nat)
set_option maxRecDepth 100000 in
set_option maxHeartbeats 2000000 in
theorem pairs1U_any (w : World) (l : List (Int × Int)) (k : Nat) (u : Value) (hP : PrU w u lo R T v1 v3 v4 v5 A M Rb Ab Tb u (numsV l) l k w) (hl : l.length ≤ k) (hN : NumOk T) (hE : Ended (T.ts.drop k)) (hlo : R < lo) (hlw : lo ≤ w.heap.size) (hM : R < M) :
  Calls Tryz.prog 126 #[.pointer (some ⟨Rb, 0, none⟩), .pointer (some ⟨Ab, 0, none⟩), .pointer (some ⟨Tb, 0, none⟩)] w
   (ItTold T (fun l' k' W => (∃ u', PrU w u lo R T v1 v3 v4 v5 A M Rb Ab Tb u' (numsV l') l' k' W) ∧ l'.length ≤ k') (fun W => Fr w W (fun j => j = R ∨ j = M ∨ u.ownBlock = some j)) (itemsL pairL ((T.ts.drop k).length + 1) l (T.ts.drop k))) := by
 have q0 := hP.rb.cell
 have hmf : ∀ (fn : Fn) (first cap : Array Value) (w : World), (Instr.makeFunc fn first cap).run Tryz.prog w = .ok (.func fn first cap) w := fun _ _ _ _ => rfl
 have hit : Calls Tryz.prog 122 #[.pointer (some ⟨R, 0, none⟩), .func (.func 127) #[] #[.pointer (some ⟨Rb, 0, none⟩), .pointer (some ⟨Ab, 0, none⟩), .pointer (some ⟨Tb, 0, none⟩)]] w
   (ItTold T (fun l' k' W => (∃ u', PrU w u lo R T v1 v3 v4 v5 A M Rb Ab Tb u' (numsV l') l' k' W) ∧ l'.length ≤ k') (fun W => Fr w W (fun j => j = R ∨ j = M ∨ u.ownBlock = some j)) (itemsL pairL ((T.ts.drop k).length + 1) l (T.ts.drop k))) := by
  refine itemsPair_any pairL _ R T k Rb Ab Tb l (T.ts.drop k).length _ _ (fun s s' ts r hE h => pairL_left hE h) ?_ ?_ ?_ ?_ ?_ hE (Nat.le_refl _)
  ·rintro s k W ⟨⟨u', h⟩, _⟩
   exact ⟨_, _, _, _, _, h.cu⟩
  ·rintro s k W W' ⟨⟨u', h⟩, h2⟩ hn hm
   exact ⟨⟨u', h.go (hn _ _ _ _ _ h.cu) hm⟩, by omega⟩
  ·rintro s k W W' ⟨⟨u', h⟩, h2⟩ hb
   exact ⟨⟨u', h.below hb⟩, h2⟩
  ·rintro s k W ⟨⟨u', h⟩, h2⟩ hE'
   exact pairItemU_any w u lo R T v1 v3 v4 v5 A M Rb Ab Tb s k u' W h h2 hN hE' hlo hlw hM
  ·exact ⟨⟨u, hP⟩, hl⟩
 clear hP hN hE
 obtain ⟨X, hX⟩ : ∃ X, X = itemsL pairL ((T.ts.drop k).length + 1) l (T.ts.drop k) := ⟨_, rfl⟩
 rw [← hX] at hit ⊢
 clear hX
 cases X with
 | error er =>
  go_enter Tryz.func126, Tryz.ntmps126
  go_wp2_with fail
  refine hit.mono ?_
  rintro e w1 ⟨rfl, h2⟩
  exact ⟨rfl, rfl, h2⟩
 | ok y =>
  obtain ⟨l', r'⟩ := y
  go_enter Tryz.func126, Tryz.ntmps126
  go_wp2_with (go_at_call 122; refine hit.mono ?_; rintro e w1 ⟨k', rfl, h2, h3⟩)
  go_end0
  exact ⟨k', rfl, h2, h3⟩
end
section
variable (lo R : Nat) (T : TV) (v1 v2 v4 v5 : Value) (A M Rb Ab Tb : Nat)
set_option maxRecDepth 100000 in
set_option maxHeartbeats 2000000 in
theorem pairs1L_any (w : World) (l : List (Int × Int)) (k : Nat) (u : Value) (hP : PrL w u lo R T v1 v2 v4 v5 A M Rb Ab Tb u (numsV l) l k w) (hl : l.length ≤ k) (hN : NumOk T) (hE : Ended (T.ts.drop k)) (hlo : R < lo) (hlw : lo ≤ w.heap.size) (hM : R < M) :
  Calls Tryz.prog 126 #[.pointer (some ⟨Rb, 0, none⟩), .pointer (some ⟨Ab, 0, none⟩), .pointer (some ⟨Tb, 0, none⟩)] w
   (ItTold T (fun l' k' W => (∃ u', PrL w u lo R T v1 v2 v4 v5 A M Rb Ab Tb u' (numsV l') l' k' W) ∧ l'.length ≤ k') (fun W => Fr w W (fun j => j = R ∨ j = M ∨ u.ownBlock = some j)) (itemsL pairL ((T.ts.drop k).length + 1) l (T.ts.drop k))) := by
 have q0 := hP.rb.cell
 have hmf : ∀ (fn : Fn) (first cap : Array Value) (w : World), (Instr.makeFunc fn first cap).run Tryz.prog w = .ok (.func fn first cap) w := fun _ _ _ _ => rfl
 have hit : Calls Tryz.prog 122 #[.pointer (some ⟨R, 0, none⟩), .func (.func 127) #[] #[.pointer (some ⟨Rb, 0, none⟩), .pointer (some ⟨Ab, 0, none⟩), .pointer (some ⟨Tb, 0, none⟩)]] w
   (ItTold T (fun l' k' W => (∃ u', PrL w u lo R T v1 v2 v4 v5 A M Rb Ab Tb u' (numsV l') l' k' W) ∧ l'.length ≤ k') (fun W => Fr w W (fun j => j = R ∨ j = M ∨ u.ownBlock = some j)) (itemsL pairL ((T.ts.drop k).length + 1) l (T.ts.drop k))) := by
  refine itemsPair_any pairL _ R T k Rb Ab Tb l (T.ts.drop k).length _ _ (fun s s' ts r hE h => pairL_left hE h) ?_ ?_ ?_ ?_ ?_ hE (Nat.le_refl _)
  ·rintro s k W ⟨⟨u', h⟩, _⟩
   exact ⟨_, _, _, _, _, h.cu⟩
  ·rintro s k W W' ⟨⟨u', h⟩, h2⟩ hn hm
   exact ⟨⟨u', h.go (hn _ _ _ _ _ h.cu) hm⟩, by omega⟩
  ·rintro s k W W' ⟨⟨u', h⟩, h2⟩ hb
   exact ⟨⟨u', h.below hb⟩, h2⟩
  ·rintro s k W ⟨⟨u', h⟩, h2⟩ hE'
   exact pairItemL_any w u lo R T v1 v2 v4 v5 A M Rb Ab Tb s k u' W h h2 hN hE' hlo hlw hM
  ·exact ⟨⟨u, hP⟩, hl⟩
 clear hP hN hE
 obtain ⟨X, hX⟩ : ∃ X, X = itemsL pairL ((T.ts.drop k).length + 1) l (T.ts.drop k) := ⟨_, rfl⟩
 rw [← hX] at hit ⊢
 clear hX
 cases X with
 | error er =>
  go_enter Tryz.func126, Tryz.ntmps126
  go_wp2_with fail
  refine hit.mono ?_
  rintro e w1 ⟨rfl, h2⟩
  exact ⟨rfl, rfl, h2⟩
 | ok y =>
  obtain ⟨l', r'⟩ := y
  go_enter Tryz.func126, Tryz.ntmps126
  go_wp2_with (go_at_call 122; refine hit.mono ?_; rintro e w1 ⟨k', rfl, h2, h3⟩)
  go_end0
  exact ⟨k', rfl, h2, h3⟩
end
end Go.Proofs.YthaibekbefndlaaGreatDoor.C
