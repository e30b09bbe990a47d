/-
  Joined: LcL, MLyT, MLyU, MLyV. Each with what its own head says.
-/
import Derived.Test.YthaibekbefndlaaGreatDoorZ14
import Derived.Test.YthaibekbefndlaaGreatDoorZ15
import Derived.Test.YthaibekbefndlaaGreatDoorZ13

namespace Go.Proofs.YthaibekbefndlaaGreatDoor.C
open Go.RowKit

section
variable (w : World) (lo R : Nat) (T : TV) (k : Nat) (v1 v2 v3 v4 v5 : Value) (Rb Ab A M : Nat) (cs : List Cls)
def FnS (A : Nat) : Value := .func (.func 99) #[] #[.pointer (some ⟨A, 0, none⟩)]

set_option maxRecDepth 100000 in
set_option maxHeartbeats 4000000 in
theorem classes1_any (h : CU w R T k v1 v2 v3 v4 v5) (hN : NumOk T) (hE : Ended (T.ts.drop k)) (hcl : ClsAt w lo v1 cs) (hft : FT w 151 .string A M (namesV cs)) (hrb : One w Rb 88 (.pointer (some ⟨R, 0, none⟩)))
  (hab : One w Ab 110 (FnS A)) (hcs : cs.length ≤ 2000) (hlo : R < lo) (hlw : lo ≤ w.heap.size) (hM : R < M) :
  Calls Tryz.prog 121 #[.pointer (some ⟨Rb, 0, none⟩), .pointer (some ⟨Ab, 0, none⟩)] w (ClTold w lo R T v1 v2 v3 v4 v5 A M (clsL cs (T.ts.drop k))) := by
 obtain ⟨x, r, hr⟩ := hE.some_
 have hR := h.lt
 have hRb := hrb.lt
 have hAb := hab.lt
 have hRR : Rb ≠ R := by
  rintro rfl
  have e := hrb.symm.trans h.1
  simp at e
 have hAR : Ab ≠ R := by
  rintro rfl
  have e := hab.symm.trans h.1
  simp at e
 have hRM : Rb ≠ M := by
  rintro rfl
  obtain ⟨es, c, h1, _⟩ := hft.2
  have e := hrb.symm.trans h1
  simp at e
 have hAM : A ≠ M := hft.ne
 have hAR' : A ≠ R := by
  rintro rfl
  have e := hft.1.symm.trans h.1
  simp at e
 have q0 := hrb.cell
 have q1 := hab.cell
 unfold FnS at q1
 by_cases hk : x.k = 1
 rotate_left
 ·have hta := take1_no w R T k v1 v2 v3 v4 v5 x r _ rfl 1 h hr hk
  rw [hr]
  unfold clsL
  simp only [takeK, List.mem_singleton]
  rw [if_neg hk]
  clear h hN hE hcl hft hrb hab hr
  go_enter Tryz.func121, Tryz.ntmps121
  go_wp2_with fail
  refine hta.mono ?_
  rintro e w1 ⟨rfl, hm1⟩
  exact ⟨rfl, rfl, (Fr.of_moved hm1).mono fun _ _ e => .inl e⟩
 have hta := take1_yes w R T k v1 v2 v3 v4 v5 x r _ rfl 1 h hr hk
 have hr1 := drop_next hr
 have hE1 : Ended (T.ts.drop (k + 1)) := by
  rw [hr1]
  rw [hr] at hE
  exact hE.cons (by omega)
 obtain ⟨X, hX⟩ : ∃ X, X = clsL cs (T.ts.drop k) := ⟨_, rfl⟩
 rw [← hX]
 have hXt : x.t ∈ cs.map Cls.name → X = .error (32, x.at_) := by
  intro hin
  rw [hX, hr]
  unfold clsL
  simp only [takeK, List.mem_singleton]
  rw [if_pos hk]
  simp only
  rw [if_pos hin]
 have hXe : ∀ er, x.t ∉ cs.map Cls.name → itemsL rangeL (r.length + 1) [] r = .error er → X = .error er := by
  intro er hin hi
  rw [hX, hr]
  unfold clsL
  simp only [takeK, List.mem_singleton]
  rw [if_pos hk]
  simp only
  rw [if_neg hin, hi]
 have hXo : ∀ rs r', x.t ∉ cs.map Cls.name → itemsL rangeL (r.length + 1) [] r = .ok (rs, r') → X = .ok (cs ++ [⟨x.t, rs⟩], r') := by
  intro rs r' hin hi
  rw [hX, hr]
  unfold clsL
  simp only [takeK, List.mem_singleton]
  rw [if_pos hk]
  simp only
  rw [if_neg hin, hi]
 clear hX
 by_cases hin : x.t ∈ cs.map Cls.name
 ·rw [hXt hin]
  clear hXt hXe hXo
  have hno := fun W hf => isNewS_no W A M (namesV cs) (str x.t) hf (names_in.2 hin)
  have HNO := Lib.hid hno
  have HFT := Lib.hid hft
  have HAB := Lib.hid hab
  clear h hN hE hE1 hcl hft hrb hab hr hr1 hin hno hk
  go_enter Tryz.func121, Tryz.ntmps121
  go_wp2_with fail
  refine hta.mono ?_
  rintro e w1 ⟨rfl, hc1, hm1⟩
  obtain ⟨W1, hW1⟩ : ∃ W1, W1 = w1.alloc (.cells #[.int .u8 x.k, .string (str x.t), .int .i64 x.n, .int .i64 x.at_] 92) := ⟨_, rfl⟩
  have l1 : LTk W1 w1.heap.size x := by rw [hW1]; exact LTk.new w1 x
  obtain ⟨-, p1, -, -⟩ := l1.cells
  have hab1 : One W1 Ab 110 (FnS A) := by rw [hW1]; exact (HAB.out.kept hm1 (by simpa using hAR)).alloc _
  have p2 := hab1.cell
  have p3 := (HAB.out.kept hm1 (by simpa using hAR)).cell
  have hAb1 := (HAB.out.kept hm1 (by simpa using hAR)).lt
  unfold FnS at p2 p3
  have hF1 : Fr w W1 (· = R) := by rw [hW1]; exact (Fr.of_moved hm1).alloc _
  have HF1 := Lib.hid hF1
  have hft1 := HFT.out.fr hF1 (by simpa using hAR') (by have := hM; show ¬ M = R; omega)
  have hno1 := HNO.out W1 hft1
  have hl1 : w1.heap.size < W1.heap.size := l1.lt
  have hMb := hft1.2.lt
  have hMw := HFT.out.2.lt
  have hs1 := hm1.size
  have HL1 := Lib.hid l1
  clear hc1 hm1 hta hab1 hF1 l1 hft1
  rw [hW1] at p1 p2
  unfold tkV
  go_wp2_with fail
  rw [← hW1]
  clear hW1
  refine hno1.mono ?_
  rintro e w2 ⟨rfl, hg2⟩
  have hl2 : LTk w2 w1.heap.size x := (hg2.block _ hl1 (by intro e; injection e; omega)).trans HL1.out
  obtain ⟨p4, p5, p6, p7⟩ := hl2.cells
  have HG2 := Lib.hid hg2
  have hrf := fun W => refuse_any 32 x W
  unfold tkV at hrf
  clear hg2 hl2 hno1
  go_wp2_with fail
  refine (hrf _).mono ?_
  rintro e w3 ⟨rfl, hb3⟩
  refine ⟨rfl, rfl, ?_⟩
  have f1 : Fr w w2 (fun j => j = R ∨ j = M ∨ v1.ownBlock = some j) := (HF1.out.mono fun _ _ e => .inl e).next (Fr.of_grown HG2.out) (fun j _ e => .inr (.inl (by injection e with e; exact e.symm)))
  exact f1.trans (.of_below hb3)
 have HXE := Lib.hid fun er hi => hXe er hin hi
 have HXO := Lib.hid fun rs r' hi => hXo rs r' hin hi
 clear hXt hXe hXo
 have hyes := fun W hf => isNewS_yes W A M (namesV cs) (str x.t) hf (fun e => hin (names_in.1 e))
 have hkeys : namesV cs ++ [.string (str x.t)] = namesV (cs ++ [⟨x.t, []⟩]) := by simp [namesV]
 have hit := fun W hc ho => clsItems W R T (k + 1) v1 v2 v3 v4 v5 Rb (.string (str x.t)) hc ho hN hE1 hRR
 rw [hr1] at hit
 have HIT := Lib.hid hit
 have HYES := Lib.hid hyes
 have HFT := Lib.hid hft
 have HAB := Lib.hid hab
 have HRB := Lib.hid hrb
 have HCL := Lib.hid hcl
 have HKEY := Lib.hid hkeys
 have HCU := Lib.hid h
 obtain ⟨i0, hi, hz0, hz1, hz2⟩ := info_parts infoClass
 clear h hN hE hE1 hcl hft hrb hab hr hr1 hin hyes hk hkeys hit
 go_enter Tryz.func121, Tryz.ntmps121
 go_wp2_with fail
 refine hta.mono ?_
 rintro e w1 ⟨rfl, hc1, hm1⟩
 obtain ⟨W1, hW1⟩ : ∃ W1, W1 = w1.alloc (.cells #[.int .u8 x.k, .string (str x.t), .int .i64 x.n, .int .i64 x.at_] 92) := ⟨_, rfl⟩
 have l1 : LTk W1 w1.heap.size x := by rw [hW1]; exact LTk.new w1 x
 obtain ⟨-, p1, -, -⟩ := l1.cells
 have hab1 : One W1 Ab 110 (FnS A) := by rw [hW1]; exact (HAB.out.kept hm1 (by simpa using hAR)).alloc _
 have hrb1 : One W1 Rb 88 (.pointer (some ⟨R, 0, none⟩)) := by rw [hW1]; exact (HRB.out.kept hm1 (by simpa using hRR)).alloc _
 have p2 := hab1.cell
 have p3 := (HAB.out.kept hm1 (by simpa using hAR)).cell
 have hAb1 := (HAB.out.kept hm1 (by simpa using hAR)).lt
 unfold FnS at p2 p3
 have hF1 : Fr w W1 (· = R) := by rw [hW1]; exact (Fr.of_moved hm1).alloc _
 have HF1 := Lib.hid hF1
 have hft1 := HFT.out.fr hF1 (by simpa using hAR') (by have := hM; show ¬ M = R; omega)
 have hno1 := HYES.out W1 hft1
 have hl1 : w1.heap.size < W1.heap.size := l1.lt
 have hMb := hft1.2.lt
 have hMw := HFT.out.2.lt
 have hs1 := hm1.size
 have HL1 := Lib.hid l1
 have HB1 := Lib.hid hrb1
 have HFM1 := Lib.hid hft1.2
 have HC1 : Hid (CU W1 R T (k + 1) v1 v2 v3 v4 v5) := Lib.hid (by rw [hW1]; exact hc1.alloc _)
 clear hc1 hm1 hta hab1 hF1 l1 hft1 hrb1
 rw [hW1] at p1 p2
 unfold tkV
 go_wp2_with fail
 rw [← hW1]
 clear hW1
 refine hno1.mono ?_
 rintro e w2 ⟨rfl, hft2, hg2⟩
 have hl2 : LTk w2 w1.heap.size x := (hg2.block _ hl1 (by intro e; injection e; omega)).trans HL1.out
 obtain ⟨p4, p5, p6, p7⟩ := hl2.cells
 have hf2 : Fr W1 w2 (· = M) := (Fr.of_grown hg2).mono (fun j _ e => by injection e with e; exact e.symm)
 have hc2 := HC1.out.fr hf2 (fun j e => by rw [show j = M from e]; exact hM)
 have hb2 := HB1.out.fr hf2 hRM
 have q2 := hb2.cell
 have hit2 := HIT.out w2 hc2 hb2
 have hF2 : Fr w w2 (fun j => j = R ∨ j = M ∨ v1.ownBlock = some j) := (HF1.out.mono fun _ _ e => .inl e).next hf2 (fun j _ e => .inr (.inl e))
 have hB2 := hb2.lt
 have hR2 := hc2.lt
 have hsz2 := hF2.size
 have HF2 := Lib.hid hF2
 have HFT2 := Lib.hid hft2
 have q3 : (w2.alloc (.cells #[.string (str x.t), .slice none 0 0] 47)).cell? ⟨Rb, 0, none⟩ = some (.pointer (some ⟨R, 0, none⟩)) := (hb2.alloc _).cell
 have HCL2 : Hid (ClsAt w2 lo v1 cs) := Lib.hid ((HCL.out.frR HCU.out HF1.out).frM HFM1.out hf2)
 cases hI : itemsL rangeL (r.length + 1) [] r with
 | error er =>
  have HXE2 := Lib.hid (HXE.out er hI)
  rw [hI] at hit2
  clear hg2 hl2 hno1 hf2 hc2 hb2 hI hF2 hft2
  go_wp2_with fail
  refine hit2.mono ?_
  rintro e w4 ⟨rfl, hm4⟩
  rw [HXE2.out]
  exact ⟨rfl, rfl, HF2.out.next (Fr.of_moved hm4) (fun j _ e => .inl e)⟩
 | ok y =>
  obtain ⟨rs, r'⟩ := y
  have HXO2 := Lib.hid (HXO.out rs r' hI)
  have HFM2 := Lib.hid hf2
  have HCU2 := Lib.hid hc2
  rw [hI] at hit2
  clear hg2 hl2 hno1 hf2 hc2 hb2 hI hF2 hft2
  go_wp2_with fail
  refine hit2.mono ?_
  rintro e w4 ⟨k4, rfl, ⟨⟨hc4, ⟨v, ht4, ho4⟩, hb4, hm4⟩, -⟩, hr4⟩
  have hs4 := hm4.size
  obtain ⟨vs, hv1, hv2, hv3⟩ := (HCL2.out.frR HCU2.out (Fr.of_moved hm4))
  have HVS := Lib.hid hv1
  have HV3 := Lib.hid hv3
  have HFT4 := Lib.hid (HFT2.out.fr (Fr.of_moved hm4) (by simpa using hAR') (by show ¬ M = R; omega))
  have HNA := Lib.hid (row_ne hv2 (HFT2.out.fr (Fr.of_moved hm4) (by simpa using hAR') (by show ¬ M = R; omega)).1 (by decide))
  have HO4 := Lib.hid hv2
  have HC4 := Lib.hid hc4
  have HT4 := Lib.hid ht4
  have HB4 := Lib.hid hb4
  have HV4 := Lib.hid ho4
  have HM4 := Lib.hid hm4
  have HR4 := Lib.hid hr4
  have HCL4 := Lib.hid (HCL2.out.frR HCU2.out (Fr.of_moved hm4))
  have HRW : Hid (∀ g, v1.ownBlock = some g → R < g) := Lib.hid fun g hg => by have := (hv2.lt g hg).1; omega
  have HNB : Hid (some Rb ≠ v1.ownBlock) := Lib.hid (row_ne hv2 hb4 (by decide)).symm
  have HNC : Hid (some w2.heap.size ≠ v1.ownBlock) := Lib.hid fun e => by
   have h1 := HCL2.out
   obtain ⟨vs', -, h2, -⟩ := h1
   have := (h2.lt _ e.symm).2
   omega
  have HOV : Hid (v.oneCell' = true) := Lib.hid (by
   rcases Joins.ownsRow_forms ho4 with ⟨rfl, _⟩ | ⟨g, c, rfl⟩ <;> rfl)
  have l4 : w2.heap.size + 1 ≤ w4.heap.size := ht4.lt
  clear hit2 hc4 ht4 ho4 hb4 hm4 hr4 hv1 hv2 hv3
  go_wp2_with fail
  refine wp_region_E (S := fun W => W.cell? ⟨Rb, 0, none⟩ = some (.pointer (some ⟨R, 0, none⟩)) ∧ W.cell? ⟨R, 2, none⟩ = some v1 ∧ W.cell? ⟨w2.heap.size, 0, none⟩ = some (.string (str x.t)) ∧ W.cell? ⟨w2.heap.size, 1, none⟩ = some v) (L := 12) (by kernel_rfl) ?_
  have hS4 : (fun W : World => W.cell? ⟨Rb, 0, none⟩ = some (.pointer (some ⟨R, 0, none⟩)) ∧ W.cell? ⟨R, 2, none⟩ = some v1 ∧ W.cell? ⟨w2.heap.size, 0, none⟩ = some (.string (str x.t)) ∧ W.cell? ⟨w2.heap.size, 1, none⟩ = some v) w4.drew := ⟨HB4.out.cell, HC4.out.more.1, HT4.out.cells.1, HT4.out.cells.2⟩
  iterate 7 (refine wpE rfl rfl ?_; try simp only [Act.put, g1, g2, g3, g4, g5, g6])
  refine wpAnyE_one (i := 7) (by kernel_rfl) rfl (fun K hK => ?_)
  simp only [g4, g5, g6]
  go_simp
  refine hK.out _ _ (fun _ => ⟨(HB4.out.alloc _).cell, (HC4.out.drew.alloc _).more.1, (HT4.out.alloc _).cells.1, (HT4.out.alloc _).cells.2⟩) (fun hS => ?_)
  replace hS := hS (by decide)
  refine wpAnyE_one (i := 8) (by kernel_rfl) rfl (fun K hK => ?_)
  refine step_append_lies _ (by rfl) _ _ _ (by rfl) lo 47 i0 (.agg #[.string (str []), .slice none 0 0]) 2 40 Tryz.underlying22 hi hz0 hz1 hz2 rfl (by decide) v1 cs.length (clsC cs vs) (by rfl) (HO4.out.drew.alloc _) ⟨w4.heap.size, 0, none⟩ 1 1 [.string (str x.t), v] (by rfl) (by rfl) (pair_new _ _ _ _ _ (by simp)) (by intro u hu; simp at hu; rcases hu with rfl | rfl; rfl; exact HOV.out) (by omega) (by unfold maxLen; omega) (by omega) (by simp; omega) (w4.heap.size + 1) (by simp) ?_
  intro g cap w5 hown5 hgr5 hat5 hlt5
  have HG5 := Lib.hid hgr5
  have HO5 := Lib.hid hown5
  have HC5 := Lib.hid ((HC4.out.drew.alloc (.cells #[.string (str x.t), v] 47)).kept hgr5 HRW.out)
  have p5 := HC5.out.one 2
  have hS5 : w5.cell? ⟨Rb, 0, none⟩ = some (.pointer (some ⟨R, 0, none⟩)) ∧ w5.cell? ⟨R, 2, none⟩ = some v1 ∧ w5.cell? ⟨w2.heap.size, 0, none⟩ = some (.string (str x.t)) ∧ w5.cell? ⟨w2.heap.size, 1, none⟩ = some v := by
   refine ⟨((HB4.out.alloc (.cells #[.string (str x.t), v] 47)).drew.kept hgr5 HNB.out).cell, HC5.out.more.1, ?_, ?_⟩
   ·exact ((HT4.out.alloc (.cells #[.string (str x.t), v] 47)).drew.kept hgr5 HNC.out).cells.1
   ·exact ((HT4.out.alloc (.cells #[.string (str x.t), v] 47)).drew.kept hgr5 HNC.out).cells.2
  clear hown5 hgr5 hat5
  refine hK.out _ _ (fun _ => hS5) (fun _ => ?_)
  refine wpAnyE_one (i := 9) (by kernel_rfl) rfl (fun K hK => ?_)
  simp only [g4, g5, g6]
  go_simp
  refine hK.out _ _ (fun _ => hS5) (fun _ => ?_)
  refine wpAnyE_one (i := 10) (by kernel_rfl) rfl (fun K hK => ?_)
  simp only [g4, g5, g6]
  go_simp
  refine hK.out _ _ (fun _ => hS5) (fun _ => ?_)
  refine wpEn 11 rfl ?_
  try simp only [Act.put, g1, g2, g3, g4, g5, g6]
  refine wpAnyE_one (i := 12) (by kernel_rfl) rfl (fun K hK => ?_)
  simp only [g4, g5, g6]
  go_simp
  refine hK.out _ _ (fun h => absurd rfl h) (fun _ => ?_)
  refine wpAnyE_done (by kernel_rfl) ?_ _
  rw [HXO2.out]
  have hf5 : Fr w4 w5 (fun j => v1.ownBlock = some j) := (((Fr.of_below (Below.refl _ w4)).drew.alloc (.cells #[.string (str x.t), v] 47)).next (Fr.of_grown HG5.out) (fun _ _ e => e))
  have hMo : ¬ v1.ownBlock = some M := by
   intro e
   obtain ⟨c, hc⟩ := ownsRow_ty HO4.out e
   obtain ⟨es, q, h1, _⟩ := HFT4.out.2
   rw [h1] at hc
   cases hc
  have hft5 := HFT4.out.fr hf5 HNA.out hMo
  have hcl5 := ClsAt.snoc (cap := cap) (g := g) ⟨x.t, rs⟩ HVS.out (HO4.out.drew.alloc (.cells #[.string (str x.t), v] 47)) (fun i c x hc hx => (HV3.out i c x hc hx).drew.alloc _) ((Joins.ownsRow_le HV4.out (by omega)).drew.alloc _) HG5.out HO5.out
  have hset : Fr w5 (w5.setCell ⟨R, 2, none⟩ (.slice (some ⟨g, 0, none⟩) (cs.length + 1) cap)) (· = R) := (Fr.of_below (Below.refl _ w5)).set _ _ (fun _ => rfl)
  go_end0
  refine ⟨k4, _, rfl, HC5.out.set1 _, HR4.out, hcl5.frR HC5.out hset, ?_, ?_⟩
  ·have := hft5.fr hset hAR' (by show ¬ M = R; omega)
   rw [HKEY.out] at this
   have e : namesV (cs ++ [⟨x.t, rs⟩]) = namesV (cs ++ [⟨x.t, []⟩]) := by simp [namesV]
   rw [e]
   exact this
  ·exact ((HF2.out.next (Fr.of_moved HM4.out) (fun j _ e => .inl e)).next hf5 (fun j _ e => .inr (.inr e))).next hset (fun j _ e => .inl e)
end
end Go.Proofs.YthaibekbefndlaaGreatDoor.C

namespace Go.Proofs.YthaibekbefndlaaGreatDoor.C
open Go.RowKit

theorem byte_no6 {c : UInt8} {n : Nat} (h : c ≠ UInt8.ofNat n) : ((c.toNat : Int) == (n : Int)) = false := by
 simp
 intro e
 exact h (ba_eq (by omega))

set_option maxRecDepth 100000 in
set_option maxHeartbeats 4000000 in
theorem one_word (s : ByteArray) (w : World) (c : UInt8) (r : List UInt8) (hl : s.data.toList = c :: r) (hs : s.size ≤ 4000) (hn : NoSign s) (hsg : signL s.data.toList = none)
  (c1 : c ≠ 59) (c2 : c ≠ 44) (c3 : c ≠ 40) (c4 : c ≠ 41) (c5 : c ≠ 34) (c6 : c ≠ 60) :
  Calls Tryz.prog 97 #[.string s] w (OneTold w s.data.toList) := by
 have hwd := fun W => word_ref s W hs
 have hsi := fun W => index_run s 0 0 c rfl (by rw [hl]; rfl) W
 have h0 : 0 < s.size := by rw [← size_list, hl]; simp
 have hnm : nameL s.data.toList = [] := by rw [hl, nameL_cons, if_neg (fun h => c6 h.1)]
 have hql : quoL s.data.toList = none := by rw [hl, quoL_cons, if_neg (fun h => c5 h.1)]
 have e1 : ((c.toNat : Int) == 59) = false := byte_no6 (n := 59) c1
 have e2 : ((c.toNat : Int) == 44) = false := byte_no6 (n := 44) c2
 have e3 : ((c.toNat : Int) == 40) = false := byte_no6 (n := 40) c3
 have e4 : ((c.toNat : Int) == 41) = false := byte_no6 (n := 41) c4
 have e5 : ((c.toNat : Int) == 34) = false := byte_no6 (n := 34) c5
 have e6 : ((c.toNat : Int) == 60) = false := byte_no6 (n := 60) c6
 have hlen : (wordL s.data.toList).length ≤ s.size := by
  have := wordL_len s.data.toList
  rwa [size_list] at this
 have hex : s.extract 0 (wordL s.data.toList).length = str (wordL s.data.toList) := by
  have hp := List.takeWhile_prefix (l := s.data.toList) isW
  rw [extract_str, List.drop_zero]
  unfold wordL
  rw [← List.prefix_iff_eq_take.1 hp]
 have htok : tokL s.data.toList = if wordL s.data.toList ≠ [] then some (1, wordL s.data.toList, 0, (wordL s.data.toList).length) else none := by
  unfold tokL
  rw [hsg, hnm, hql]
  simp [numL]
 obtain ⟨a, ha⟩ : ∃ a, wordL s.data.toList = a := ⟨_, rfl⟩
 rw [ha] at hwd hlen hex htok
 obtain ⟨n, hnn⟩ : ∃ n, a.length = n := ⟨_, rfl⟩
 rw [hnn] at hwd hlen hex htok
 have HT : Hid ((n = 0 → tokL s.data.toList = none) ∧ (n ≠ 0 → tokL s.data.toList = some (1, a, 0, n))) := Lib.hid (by
  refine ⟨fun h => ?_, fun h => ?_⟩
  ·rw [htok, if_neg]
   simp
   exact List.eq_nil_of_length_eq_zero (hnn.trans h)
  ·rw [htok, if_pos]
   intro h2
   rw [h2] at hnn
   exact h hnn.symm)
 have HE := Lib.hid hex
 have n0 : (0 : Int) ≤ (n : Int) := by omega
 have n1 : (n : Int) ≤ (s.size : Int) := by omega
 clear hl hsg hnm hql hex htok hnn ha c1 c2 c3 c4 c5 c6
 rcases hn with h3 | ⟨h3, hcmp⟩
 all_goals
  go_enter Tryz.func97, Tryz.ntmps97
  go_wp2_with (go_at_call 145; refine (hwd _).mono ?_; rintro e w' ⟨rfl, rfl⟩)
  refine bodyPost_ret (v := .tuple #[.agg #[.int .u8 1, .string (s.extract 0 n), .int .i64 0, .int .i64 0], .int .i64 n]) (by rw [results_cell_tmp rfl]; go_simp) rfl ?_
  by_cases hz : n = 0
  ·subst hz
   exact OneTold.none_ 1 0 _ (HT.out.1 rfl) rfl (below_new _ _)
  ·exact OneTold.some_ (HT.out.2 hz) (by rw [HE.out]; rfl) (below_new _ _)

theorem lt_facts {s : ByteArray} {r : List UInt8} (hl : s.data.toList = 60 :: r) : signL s.data.toList = none ∧ quoL s.data.toList = none ∧ wordL s.data.toList = [] ∧ (s.extract 1 s.size).data.toList = r ∧ (s.extract 1 s.size).size = r.length ∧ s.size = r.length + 1 := by
 have hz : s.size = r.length + 1 := by rw [← size_list, hl]; rfl
 have he : (s.extract 1 s.size).data.toList = r := by rw [extract_list, ← size_list, List.take_length, hl]; rfl
 refine ⟨?_, ?_, ?_, he, ?_, hz⟩
 ·rw [hl, signL_cons, if_neg (by decide), if_neg (fun h => by simp at h)]
 ·rw [hl, quoL_cons, if_neg (fun h => by simp at h)]
 ·rw [hl]; rfl
 ·rw [← size_list, he]
theorem lt_none {s : ByteArray} {r : List UInt8} (hl : s.data.toList = 60 :: r) (h : wordL r = [] ∨ (r.drop (wordL r).length).head? ≠ some 62) : tokL s.data.toList = none := by
 obtain ⟨h1, h2, h3, _⟩ := lt_facts hl
 have hnm : nameL s.data.toList = [] := by
  rw [hl, nameL_cons]
  rcases h with h | h
  ·rw [h]
   split <;> rfl
  ·rw [if_neg (fun hh => h hh.2)]
 unfold tokL
 rw [h1, hnm, h2, h3]
 simp [numL]
theorem lt_some {s : ByteArray} {r : List UInt8} (hl : s.data.toList = 60 :: r) (h0 : wordL r ≠ []) (h : (r.drop (wordL r).length).head? = some 62) :
  tokL s.data.toList = match numL (wordL r) with
   | some n => if rightN n then some (3, [], n, 2 + (wordL r).length) else none
   | none => some (5, wordL r, 0, 2 + (wordL r).length) := by
 obtain ⟨h1, h2, h3, _⟩ := lt_facts hl
 have hnm : nameL s.data.toList = wordL r := by rw [hl, nameL_cons, if_pos ⟨rfl, h⟩]
 unfold tokL
 rw [h1, hnm]
 cases numL (wordL r) with
 | some n => rfl
 | none => simp [h0]

set_option maxRecDepth 100000 in
set_option maxHeartbeats 4000000 in
theorem one_lt_no (s : ByteArray) (w : World) (r : List UInt8) (hl : s.data.toList = 60 :: r) (hs : s.size ≤ 4000) (hn : NoSign s) (h : wordL r = [] ∨ (r.drop (wordL r).length).head? ≠ some 62) :
  Calls Tryz.prog 97 #[.string s] w (OneTold w s.data.toList) := by
 have HT := Lib.hid (lt_none hl h)
 obtain ⟨_, _, _, h4, h5, h6⟩ := lt_facts hl
 have hwd := fun W => word_ref (s.extract 1 s.size) W (by omega)
 rw [h4] at hwd
 have hsi := fun W => index_run s 0 0 60 rfl (by rw [hl]; rfl) W
 have hwl := wordL_len r
 have g1 : (1 : Int) ≤ (s.size : Int) := by omega
 obtain ⟨n, hnn⟩ : ∃ n, (wordL r).length = n := ⟨_, rfl⟩
 have hcase : n = 0 ∨ n ≠ 0 ∧ s.size ≤ n + 1 ∨ n ≠ 0 ∧ n + 1 < s.size ∧ ∃ c, c ≠ 62 ∧ s.data.toList[n + 1]? = some c := by
  by_cases hz : n = 0
  ·exact .inl hz
  ·rcases Nat.lt_or_ge (n + 1) s.size with hlt | hlt
   ·refine .inr (.inr ⟨hz, hlt, ?_⟩)
    have hrn : n < r.length := by omega
    refine ⟨r[n]'hrn, ?_, by rw [hl]; simp [hrn]⟩
    rcases h with h | h
    ·rw [h] at hnn
     exact absurd hnn.symm hz
    ·rw [hnn, List.drop_eq_getElem_cons hrn] at h
     intro e
     exact h (by rw [List.head?_cons, e])
   ·exact .inr (.inl ⟨hz, hlt⟩)
 rw [hnn] at hwd hwl
 have nb : n ≤ 4000 := by omega
 clear hl h h4 h5 hwl hnn
 rcases hcase with hz | ⟨hz, hlt⟩ | ⟨hz, hlt, c, hc, hci⟩
 ·subst hz
  clear h6
  rcases hn with h3 | ⟨h3, hcmp⟩
  all_goals
   go_enter Tryz.func97, Tryz.ntmps97
   go_wp2_with (go_at_call 145; refine (hwd _).mono ?_; rintro e w' ⟨rfl, rfl⟩)
   refine bodyPost_ret (v := .tuple #[.agg #[.int .u8 0, .string ⟨#[]⟩, .int .i64 0, .int .i64 0], .int .i64 0]) ?_ rfl (OneTold.none_ 0 0 _ HT.out rfl (below_new _ _))
   rw [results_cell_tmp rfl]
   go_simp
 ·have n0 : ((n : Int) == 0) = false := by simp; omega
  have n1 : (s.size : Int) ≤ (n : Int) + 1 := by omega
  clear h6
  rcases hn with h3 | ⟨h3, hcmp⟩
  all_goals
   go_enter Tryz.func97, Tryz.ntmps97
   go_wp2_with (go_at_call 145; refine (hwd _).mono ?_; rintro e w' ⟨rfl, rfl⟩)
   refine bodyPost_ret (v := .tuple #[.agg #[.int .u8 0, .string ⟨#[]⟩, .int .i64 0, .int .i64 0], .int .i64 0]) ?_ rfl (OneTold.none_ 0 0 _ HT.out rfl (below_new _ _))
   rw [results_cell_tmp rfl]
   go_simp
 ·have n0 : ((n : Int) == 0) = false := by simp; omega
  have n1 : ¬ (s.size : Int) ≤ (n : Int) + 1 := by omega
  have hc2 := fun W => index_run s ((n : Int) + 1) (n + 1) c (by omega) hci W
  have e1 : ((c.toNat : Int) != 62) = true := by
   have := byte_no6 (n := 62) hc
   simpa using this
  clear h6 hci hc
  rcases hn with h3 | ⟨h3, hcmp⟩
  ·omega
  ·
   go_enter Tryz.func97, Tryz.ntmps97
   go_wp2_with (go_at_call 145; refine (hwd _).mono ?_; rintro e w' ⟨rfl, rfl⟩)
   refine bodyPost_ret (v := .tuple #[.agg #[.int .u8 0, .string ⟨#[]⟩, .int .i64 0, .int .i64 0], .int .i64 0]) ?_ rfl (OneTold.none_ 0 0 _ HT.out rfl (below_new _ _))
   rw [results_cell_tmp rfl]
   go_simp
end Go.Proofs.YthaibekbefndlaaGreatDoor.C

namespace Go.Proofs.YthaibekbefndlaaGreatDoor.C
open Go.RowKit

theorem name_facts {s : ByteArray} {r : List UInt8} {c : UInt8} {d : List UInt8} (hl : s.data.toList = 60 :: r) (hw : wordL r = c :: d) :
  s.data.toList[1]? = some c ∧ (s.extract 2 (d.length + 2)).data.toList = d ∧ (s.extract 2 (d.length + 2)).size = d.length ∧ s.extract 1 (d.length + 2) = str (c :: d) ∧ d.length + 2 ≤ s.size := by
 have hp := List.takeWhile_prefix (l := r) isW
 rw [show r.takeWhile isW = c :: d from hw] at hp
 have hle := hp.length_le
 have htk : r.take (d.length + 1) = c :: d := by
  have := List.prefix_iff_eq_take.1 hp
  rw [List.length_cons] at this
  exact this.symm
 have hsz : s.size = r.length + 1 := by rw [← size_list, hl]; rfl
 rw [List.length_cons] at hle
 have h2 : (s.extract 2 (d.length + 2)).data.toList = d := by
  rw [extract_list, hl, List.take_succ_cons, htk]
  rfl
 refine ⟨?_, h2, by rw [← size_list, h2], ?_, by omega⟩
 ·rw [hl]
  show r[0]? = some c
  have := congrArg (·[0]?) htk
  simp only [List.getElem?_cons_zero] at this
  rw [List.getElem?_take_of_lt (by omega)] at this
  exact this
 ·rw [extract_str, hl, List.take_succ_cons, htk]
  rfl
theorem set_block {w : World} {b i : Nat} {cs : Array Value} {t : TypeId} {f : Nat × Nat} (h : w.heap[b]? = some (.cells cs t f)) (v : Value) : (w.setCell ⟨b, i, none⟩ v).heap[b]? = some (.cells (cs.setIfInBounds i v) t f) := by
 obtain ⟨hlt, hk⟩ := Array.getElem?_eq_some_iff.1 h
 show (w.heap.modify b _)[b]? = _
 rw [Array.getElem?_eq_getElem (by rw [Array.size_modify]; exact hlt), Array.getElem_modify_self, hk]
 rfl
def put4 (W : World) (b : Nat) (v0 v1 v2 v3 : Value) : World := (((W.setCell ⟨b, 0, none⟩ v0).setCell ⟨b, 1, none⟩ v1).setCell ⟨b, 2, none⟩ v2).setCell ⟨b, 3, none⟩ v3
theorem put4_block {W : World} {b : Nat} {a0 a1 a2 a3 : Value} {t : TypeId} {f : Nat × Nat} (h : W.heap[b]? = some (.cells #[a0, a1, a2, a3] t f)) (v0 v1 v2 v3 : Value) : (put4 W b v0 v1 v2 v3).heap[b]? = some (.cells #[v0, v1, v2, v3] t f) := by
 have h1 := set_block h (i := 0) v0
 have h2 := set_block h1 (i := 1) v1
 have h3 := set_block h2 (i := 2) v2
 exact set_block h3 (i := 3) v3
theorem put4_cells {W : World} {b : Nat} {a0 a1 a2 a3 : Value} {t : TypeId} {f : Nat × Nat} (h : W.heap[b]? = some (.cells #[a0, a1, a2, a3] t f)) (v0 v1 v2 v3 : Value) :
  (put4 W b v0 v1 v2 v3).cell? ⟨b, 0, none⟩ = some v0 ∧ (put4 W b v0 v1 v2 v3).cell? ⟨b, 1, none⟩ = some v1 ∧ (put4 W b v0 v1 v2 v3).cell? ⟨b, 2, none⟩ = some v2 ∧ (put4 W b v0 v1 v2 v3).cell? ⟨b, 3, none⟩ = some v3 := by
 have h1 := put4_block h v0 v1 v2 v3
 simp [World.cell?, h1]
theorem put4_below {w W : World} {n b : Nat} (hb : Below n w W) (h : n ≤ b) (v0 v1 v2 v3 : Value) : Below n w (put4 W b v0 v1 v2 v3) := by
 unfold put4
 refine Below.setCell ?_ (by show n ≤ b; exact h) _
 refine Below.setCell ?_ (by show n ≤ b; exact h) _
 refine Below.setCell ?_ (by show n ≤ b; exact h) _
 exact Below.setCell hb (by show n ≤ b; exact h) _

theorem res_one {W : World} {b : Nat} {v0 v1 v2 v3 : Value} {tmps : Array Value} (h : W.cell? ⟨b, 0, none⟩ = some v0 ∧ W.cell? ⟨b, 1, none⟩ = some v1 ∧ W.cell? ⟨b, 2, none⟩ = some v2 ∧ W.cell? ⟨b, 3, none⟩ = some v3) (h2 : tmps.getD 2 undef = .pointer (some ⟨b, 0, none⟩)) :
  (results Tryz.f97 tmps).run Tryz.prog W = .ok (.tuple #[.agg #[v0, v1, v2, v3], tmps.getD 3 undef]) W := by
 obtain ⟨p0, p1, p2, p3⟩ := h
 rw [results_cell_tmp rfl, h2]
 go_simp

set_option maxRecDepth 100000 in
set_option maxHeartbeats 8000000 in
theorem one_lt_name (s : ByteArray) (w : World) (r : List UInt8) (c : UInt8) (d : List UInt8) (hl : s.data.toList = 60 :: r) (hs : s.size ≤ 4000) (hn : NoSign s) (hw : wordL r = c :: d) (h : (r.drop (wordL r).length).head? = some 62) (hnum : numL (wordL r) = none) :
  Calls Tryz.prog 97 #[.string s] w (OneTold w s.data.toList) := by
 have htok := lt_some hl (by rw [hw]; simp) h
 rw [hnum] at htok
 simp only at htok
 obtain ⟨_, _, _, h4, h5, h6⟩ := lt_facts hl
 obtain ⟨f1, f2, f3, f4, f5⟩ := name_facts hl hw
 have hwd := fun W => word_ref (s.extract 1 s.size) W (by omega)
 rw [h4, hw] at hwd
 rw [hw] at htok h hnum
 obtain ⟨m, hm⟩ : ∃ m, d.length = m := ⟨_, rfl⟩
 rw [List.length_cons, hm] at hwd htok h
 rw [hm] at f2 f3 f4 f5
 have hi62 : s.data.toList[m + 2]? = some 62 := by
  rw [hl]
  show r[m + 1]? = some 62
  rw [List.head?_drop] at h
  exact h
 have h7 : m + 2 < s.size := by rw [← size_list]; exact (List.getElem?_eq_some_iff.1 hi62).1
 have hsi := fun W => index_run s 0 0 60 rfl (by rw [hl]; rfl) W
 have hs1 := fun W => index_run s 1 1 c rfl f1 W
 have hs2 := fun W => index_run s ((m + 1 : Nat) + 1 : Int) (m + 2) 62 (by omega) hi62 W
 have hsl1 := fun W => slice_ij s 1 ((m + 1 : Nat) + 1 : Int) (by omega) (by omega) (by omega) 1 (m + 2) rfl (by omega) W
 have hsl2 := fun W (_ : 5 ≤ m + 1) => slice_ij s 2 ((m + 1 : Nat) + 1 : Int) (by omega) (by omega) (by omega) 2 (m + 2) rfl (by omega) W
 have hhx := fun W (h : m ≤ 6) => hex_ref (s.extract 2 (m + 2)) W (by omega)
 rw [f2] at hhx
 have HT := Lib.hid htok
 have HE := Lib.hid f4
 have g1 : (1 : Int) ≤ (s.size : Int) := by omega
 obtain ⟨n, hnn⟩ : ∃ n, m + 1 = n := ⟨_, rfl⟩
 rw [hnn] at hs2 hsl1 hsl2 hwd
 have hcase : c ≠ 85 ∨ c = 85 ∧ n < 5 ∨ c = 85 ∧ 7 < n ∨ c = 85 ∧ 5 ≤ n ∧ n ≤ 7 ∧ hexI d = -1 := by
  by_cases hc : c = 85
  ·rcases Nat.lt_or_ge n 5 with h1 | h1
   ·exact .inr (.inl ⟨hc, h1⟩)
   ·rcases Nat.lt_or_ge 7 n with h2 | h2
    ·exact .inr (.inr (.inl ⟨hc, h2⟩))
    ·refine .inr (.inr (.inr ⟨hc, h1, h2, ?_⟩))
     rw [numL_cons, if_pos ⟨hc, by omega, by omega⟩] at hnum
     unfold hexI
     rw [hnum]
  ·exact .inl hc
 have n0 : ((n : Int) == 0) = false := by simp; omega
 have n1 : ¬ (s.size : Int) ≤ (n : Int) + 1 := by omega
 have nb : n ≤ 4000 := by omega
 clear hl hw h hnum htok h4 h5 h6 f1 f2 f3 f4 f5 hi62
 have fin : ∀ W, Below w.heap.size w W → ∀ e, e = .returned (.tuple #[.agg #[.int .u8 5, .string (s.extract 1 (m + 2)), .int .i64 0, .int .i64 0], .int .i64 ((n : Int) + 2)]) → OneTold w s.data.toList e W := fun W hB e he => by
  refine OneTold.some_ HT.out ?_ hB
  rw [he, HE.out, show ((2 + (m + 1) : Nat) : Int) = (n : Int) + 2 by omega]
  rfl
 have FIN := Lib.hid fin
 clear fin
 rcases hcase with hc | ⟨rfl, h1⟩ | ⟨rfl, h1⟩ | ⟨rfl, h1, h2, h3x⟩
 ·have e1 : ((c.toNat : Int) == 85) = false := byte_no6 (n := 85) hc
  clear hhx hsl2 hc
  rcases hn with h3 | ⟨h3, hcmp⟩
  ·omega
  ·
   go_enter Tryz.func97, Tryz.ntmps97
   go_wp2_with (go_at_call 145; refine (hwd _).mono ?_; rintro e w' ⟨rfl, rfl⟩)
   refine bodyPost_ret (v := .tuple #[.agg #[.int .u8 5, .string (s.extract 1 (m + 2)), .int .i64 0, .int .i64 0], .int .i64 ((n : Int) + 2)]) ?_ rfl (FIN.out _ (below_new _ _) _ rfl)
   rw [results_cell_tmp rfl]
   go_simp
 ·clear hhx hsl2
  have n5 : ¬ (5 : Int) ≤ (n : Int) := by omega
  rcases hn with h3 | ⟨h3, hcmp⟩
  ·omega
  ·
   go_enter Tryz.func97, Tryz.ntmps97
   go_wp2_with (go_at_call 145; refine (hwd _).mono ?_; rintro e w' ⟨rfl, rfl⟩)
   refine bodyPost_ret (v := .tuple #[.agg #[.int .u8 5, .string (s.extract 1 (m + 2)), .int .i64 0, .int .i64 0], .int .i64 ((n : Int) + 2)]) ?_ rfl (FIN.out _ (below_new _ _) _ rfl)
   rw [results_cell_tmp rfl]
   go_simp
 ·clear hhx hsl2
  have n5 : (5 : Int) ≤ (n : Int) := by omega
  have n7 : ¬ (n : Int) ≤ 7 := by omega
  rcases hn with h3 | ⟨h3, hcmp⟩
  ·omega
  ·
   go_enter Tryz.func97, Tryz.ntmps97
   go_wp2_with (go_at_call 145; refine (hwd _).mono ?_; rintro e w' ⟨rfl, rfl⟩)
   refine bodyPost_ret (v := .tuple #[.agg #[.int .u8 5, .string (s.extract 1 (m + 2)), .int .i64 0, .int .i64 0], .int .i64 ((n : Int) + 2)]) ?_ rfl (FIN.out _ (below_new _ _) _ rfl)
   rw [results_cell_tmp rfl]
   go_simp
 ·have hhx2 := fun W => hhx W (by omega)
  have hsl3 := fun W => hsl2 W (by omega)
  rw [h3x] at hhx2
  have n5 : (5 : Int) ≤ (n : Int) := by omega
  have n7 : (n : Int) ≤ 7 := by omega
  clear hhx hsl2
  rcases hn with h3 | ⟨h3, hcmp⟩
  ·omega
  ·
   go_enter Tryz.func97, Tryz.ntmps97
   go_wp2_with (first | (go_at_call 145; refine (hwd _).mono ?_; rintro e w' ⟨rfl, rfl⟩) | (go_at_call 146; refine (hhx2 _).mono ?_; rintro e w' ⟨rfl, q, rfl⟩))
   change bodyPost _ _ _ _ _ (put4 ((w.alloc _).drewN q) w.heap.size _ _ _ _)
   have hbl : ((w.alloc (.cells #[.int .u8 0, .string ⟨#[]⟩, .int .i64 0, .int .i64 0] 92)).drewN q).heap[w.heap.size]? = some (.cells #[.int .u8 0, .string ⟨#[]⟩, .int .i64 0, .int .i64 0] 92 (0, 0)) := heap_new w _
   obtain ⟨p0, p1, p2, p3⟩ := put4_cells hbl (.int .u8 5) (.string (s.extract 1 (m + 2))) (.int .i64 0) (.int .i64 0)
   have hB := put4_below (b := w.heap.size) (below_drewN0 (below_new w (.cells #[.int .u8 0, .string ⟨#[]⟩, .int .i64 0, .int .i64 0] 92)) q) (Nat.le_refl _) (.int .u8 5) (.string (s.extract 1 (m + 2))) (.int .i64 0) (.int .i64 0)
   generalize put4 ((w.alloc (.cells #[.int .u8 0, .string ⟨#[]⟩, .int .i64 0, .int .i64 0] 92)).drewN q) w.heap.size (.int .u8 5) (.string (s.extract 1 (m + 2))) (.int .i64 0) (.int .i64 0) = W at *
   refine bodyPost_ret (v := .tuple #[.agg #[.int .u8 5, .string (s.extract 1 (m + 2)), .int .i64 0, .int .i64 0], .int .i64 ((n : Int) + 2)]) ?_ rfl (FIN.out _ hB _ rfl)
   rw [results_cell_tmp rfl]
   go_simp

theorem right_ref0 (c : Int) (b : Bool) (h0 : 0 ≤ c) (h : b = decide (c < 55296 ∨ 57343 < c ∧ c ≤ 1114111)) (w : World) : Calls Tryz.prog 93 #[.int .i32 c] w fun e w' => e = .returned (.bool b) ∧ w' = w := by
 have a0 : -256 ≤ c := by omega
 by_cases h3 : c < 55296
 ·obtain rfl : b = true := by rw [h]; exact decide_eq_true (by omega)
  clear h
  go_enter Tryz.func93, Tryz.ntmps93
  go_wp2
  all_goals go_ret
  all_goals exact ⟨rfl, rfl⟩
 by_cases h4 : 57343 < c
 ·by_cases h2 : c ≤ 1114111
  ·obtain rfl : b = true := by rw [h]; exact decide_eq_true (by omega)
   clear h
   go_enter Tryz.func93, Tryz.ntmps93
   go_wp2
   all_goals go_ret
   all_goals exact ⟨rfl, rfl⟩
  ·obtain rfl : b = false := by rw [h]; exact decide_eq_false (by omega)
   clear h
   go_enter Tryz.func93, Tryz.ntmps93
   go_wp2
   all_goals go_ret
   all_goals exact ⟨rfl, rfl⟩
 ·obtain rfl : b = false := by rw [h]; exact decide_eq_false (by omega)
  clear h
  go_enter Tryz.func93, Tryz.ntmps93
  go_wp2
  all_goals go_ret
  all_goals exact ⟨rfl, rfl⟩
theorem right_ref (n : Nat) (w : World) (b : Bool) (h : rightN n = b) : Calls Tryz.prog 93 #[.int .i32 n] w fun e w' => e = .returned (.bool b) ∧ w' = w :=
 right_ref0 n b (by omega) (by rw [← h]; unfold rightN; rw [decide_eq_decide]; omega) w

set_option maxRecDepth 100000 in
set_option maxHeartbeats 8000000 in
theorem one_lt_num (s : ByteArray) (w : World) (r : List UInt8) (c : UInt8) (d : List UInt8) (v : Nat) (hl : s.data.toList = 60 :: r) (hs : s.size ≤ 4000) (hn : NoSign s) (hw : wordL r = c :: d) (h : (r.drop (wordL r).length).head? = some 62) (hnum : numL (wordL r) = some v) :
  Calls Tryz.prog 97 #[.string s] w (OneTold w s.data.toList) := by
 have htok := lt_some hl (by rw [hw]; simp) h
 rw [hnum] at htok
 simp only at htok
 obtain ⟨_, _, _, h4, h5, h6⟩ := lt_facts hl
 obtain ⟨f1, f2, f3, f4, f5⟩ := name_facts hl hw
 have hwd := fun W => word_ref (s.extract 1 s.size) W (by omega)
 rw [h4, hw] at hwd
 have hv := numL_lt hnum
 rw [hw] at htok h hnum
 obtain ⟨m, hm⟩ : ∃ m, d.length = m := ⟨_, rfl⟩
 rw [List.length_cons, hm] at hwd htok h
 rw [hm] at f2 f3 f4 f5
 have hi62 : s.data.toList[m + 2]? = some 62 := by
  rw [hl]
  show r[m + 1]? = some 62
  rw [List.head?_drop] at h
  exact h
 have h7 : m + 2 < s.size := by rw [← size_list]; exact (List.getElem?_eq_some_iff.1 hi62).1
 rw [numL_cons] at hnum
 have hcnd : c = 85 ∧ 4 ≤ m ∧ m ≤ 6 := by
  by_cases hc : c = 85 ∧ 4 ≤ d.length ∧ d.length ≤ 6
  ·rw [hm] at hc; exact hc
  ·rw [if_neg hc] at hnum
   cases hnum
 rw [if_pos (by rw [hm]; exact hcnd)] at hnum
 have hxi : hexI d = v := by unfold hexI; rw [hnum]
 obtain ⟨rfl, m4, m6⟩ := hcnd
 have hsi := fun W => index_run s 0 0 60 rfl (by rw [hl]; rfl) W
 have hs1 := fun W => index_run s 1 1 85 rfl f1 W
 have hs2 := fun W => index_run s ((m + 1 : Nat) + 1 : Int) (m + 2) 62 (by omega) hi62 W
 have hsl2 := fun W => slice_ij s 2 ((m + 1 : Nat) + 1 : Int) (by omega) (by omega) (by omega) 2 (m + 2) rfl (by omega) W
 have hhx := fun W => hex_ref (s.extract 2 (m + 2)) W (by omega)
 rw [f2, hxi] at hhx
 have g1 : (1 : Int) ≤ (s.size : Int) := by omega
 obtain ⟨n, hnn⟩ : ∃ n, m + 1 = n := ⟨_, rfl⟩
 rw [hnn] at hs2 hsl2 hwd htok
 have n0 : ((n : Int) == 0) = false := by simp; omega
 have n1 : ¬ (s.size : Int) ≤ (n : Int) + 1 := by omega
 have n5 : (5 : Int) ≤ (n : Int) := by omega
 have n7 : (n : Int) ≤ 7 := by omega
 obtain ⟨b, hb⟩ : ∃ b, rightN v = b := ⟨_, rfl⟩
 have hrt := fun W => right_ref v W b hb
 rw [hb] at htok
 obtain ⟨x, hx⟩ : ∃ x : Int, (v : Int) = x := ⟨_, rfl⟩
 rw [hx] at hhx hrt
 have HX := Lib.hid hx
 have x0 : 0 ≤ x := by omega
 have x1 : x < 16777216 := by omega
 clear hl hw h hnum h4 h5 h6 f1 f2 f3 f4 f5 hi62 hxi hb hv hx
 have h3 : ¬ s.size < 3 := by omega
 cases b with
 | true =>
  rw [if_pos rfl] at htok
  have HT := Lib.hid htok
  clear htok
  rcases hn with h3x | ⟨h3, hcmp⟩
  ·exact absurd h3x h3
  ·go_enter Tryz.func97, Tryz.ntmps97
   go_wp2_with (first | (go_at_call 145; refine (hwd _).mono ?_; rintro e w' ⟨rfl, rfl⟩) | (go_at_call 146; refine (hhx _).mono ?_; rintro e w' ⟨rfl, q, rfl⟩) | (go_at_call 93; refine (hrt _).mono ?_; rintro e w' ⟨rfl, rfl⟩))
   change bodyPost _ _ _ _ _ (put4 ((w.alloc _).drewN _) w.heap.size _ _ _ _)
   have hbl : ∀ q, ((w.alloc (.cells #[.int .u8 0, .string ⟨#[]⟩, .int .i64 0, .int .i64 0] 92)).drewN q).heap[w.heap.size]? = some (.cells #[.int .u8 0, .string ⟨#[]⟩, .int .i64 0, .int .i64 0] 92 (0, 0)) := fun _ => heap_new w _
   have hp := fun q => put4_cells (hbl q) (.int .u8 3) (.string ⟨#[]⟩) (.int .i64 x) (.int .i64 0)
   have hB := fun q => put4_below (b := w.heap.size) (below_drewN0 (below_new w (.cells #[.int .u8 0, .string ⟨#[]⟩, .int .i64 0, .int .i64 0] 92)) q) (Nat.le_refl _) (.int .u8 3) (.string ⟨#[]⟩) (.int .i64 x) (.int .i64 0)
   exact bodyPost_ret (v := .tuple #[.agg #[.int .u8 3, .string ⟨#[]⟩, .int .i64 x, .int .i64 0], .int .i64 ((n : Int) + 2)]) (res_one (hp _) rfl) rfl (OneTold.some_ HT.out (by rw [HX.out, show ((2 + n : Nat) : Int) = (n : Int) + 2 by omega]; rfl) (hB _))
 | false =>
  rw [if_neg (by decide)] at htok
  have HT := Lib.hid htok
  clear htok
  rcases hn with h3x | ⟨h3, hcmp⟩
  ·exact absurd h3x h3
  ·go_enter Tryz.func97, Tryz.ntmps97
   go_wp2_with (first | (go_at_call 145; refine (hwd _).mono ?_; rintro e w' ⟨rfl, rfl⟩) | (go_at_call 146; refine (hhx _).mono ?_; rintro e w' ⟨rfl, q, rfl⟩) | (go_at_call 93; refine (hrt _).mono ?_; rintro e w' ⟨rfl, rfl⟩))
   change bodyPost _ _ _ _ _ (put4 ((w.alloc _).drewN _) w.heap.size _ _ _ _)
   have hbl : ∀ q, ((w.alloc (.cells #[.int .u8 0, .string ⟨#[]⟩, .int .i64 0, .int .i64 0] 92)).drewN q).heap[w.heap.size]? = some (.cells #[.int .u8 0, .string ⟨#[]⟩, .int .i64 0, .int .i64 0] 92 (0, 0)) := fun _ => heap_new w _
   have hp := fun q => put4_cells (hbl q) (.int .u8 0) (.string ⟨#[]⟩) (.int .i64 0) (.int .i64 0)
   have hB := fun q => put4_below (b := w.heap.size) (below_drewN0 (below_new w (.cells #[.int .u8 0, .string ⟨#[]⟩, .int .i64 0, .int .i64 0] 92)) q) (Nat.le_refl _) (.int .u8 0) (.string ⟨#[]⟩) (.int .i64 0) (.int .i64 0)
   exact bodyPost_ret (v := .tuple #[.agg #[.int .u8 0, .string ⟨#[]⟩, .int .i64 0, .int .i64 0], .int .i64 0]) (res_one (hp _) rfl) rfl (OneTold.none_ 0 0 _ HT.out rfl (hB _))
end Go.Proofs.YthaibekbefndlaaGreatDoor.C

namespace Go.Proofs.YthaibekbefndlaaGreatDoor.C
open Go.RowKit

theorem one_ref (s : ByteArray) (w : World) (h0 : 0 < s.size) (hs : s.size ≤ 4000) : Calls Tryz.prog 97 #[.string s] w (OneTold w s.data.toList) := by
 have hl := list_cons h0
 by_cases hsg : s[0]'h0 = 59 ∨ s[0]'h0 = 44 ∨ s[0]'h0 = 40 ∨ s[0]'h0 = 41
 ·exact one_sign s w h0 hs hsg
 by_cases hd : s.data.toList.take 3 = [46, 46, 46]
 ·refine one_dots s w h0 ?_ hs hd
  have := congrArg List.length hd
  rw [List.length_take, size_list] at this
  simp at this
  omega
 have hn := noSign_of hd
 have hsn : signL s.data.toList = none := by
  rw [hl, signL_cons, if_neg hsg, if_neg]
  rintro ⟨h1, h2⟩
  refine hd ?_
  rw [hl, h1, List.take_succ_cons, h2]
 by_cases h34 : s[0]'h0 = 34
 ·exact one_quote s w _ (by rw [← h34]; exact hl) hs hn
 by_cases h60 : s[0]'h0 = 60
 ·rw [h60] at hl
  generalize s.data.toList.drop 1 = r at hl
  by_cases hb : wordL r = [] ∨ (r.drop (wordL r).length).head? ≠ some 62
  ·exact one_lt_no s w r hl hs hn hb
  ·have h1 : wordL r ≠ [] := fun e => hb (.inl e)
   have h2 : (r.drop (wordL r).length).head? = some 62 := Decidable.byContradiction fun e => hb (.inr e)
   cases hw : wordL r with
   | nil => exact absurd hw h1
   | cons c d =>
    cases hnum : numL (wordL r) with
    | none => exact one_lt_name s w r c d hl hs hn hw h2 hnum
    | some v => exact one_lt_num s w r c d v hl hs hn hw h2 hnum
 ·exact one_word s w _ _ hl hs hn hsn (fun e => hsg (.inl e)) (fun e => hsg (.inr (.inl e))) (fun e => hsg (.inr (.inr (.inl e)))) (fun e => hsg (.inr (.inr (.inr e)))) h34 h60
theorem one_ref_none (s : ByteArray) (w : World) (h0 : 0 < s.size) (hs : s.size ≤ 4000) (h : tokL s.data.toList = none) :
  Calls Tryz.prog 97 #[.string s] w fun e w' => ∃ (kd : Nat) (tx : ByteArray) (n : Nat), e = .returned (.tuple #[.agg #[.int .u8 kd, .string tx, .int .i64 n, .int .i64 0], .int .i64 0]) ∧ Below w.heap.size w w' :=
 (one_ref s w h0 hs).mono fun e w' ⟨kd, tx, n, m, he, hb, hm⟩ => by
  rw [h] at hm
  simp only at hm
  subst hm
  exact ⟨kd, tx, n, he, hb⟩
theorem one_ref_some (s : ByteArray) (w : World) (h0 : 0 < s.size) (hs : s.size ≤ 4000) {k n m : Nat} {t : List UInt8} (h : tokL s.data.toList = some (k, t, n, m)) :
  Calls Tryz.prog 97 #[.string s] w fun e w' => e = .returned (.tuple #[.agg #[.int .u8 k, .string (str t), .int .i64 n, .int .i64 0], .int .i64 m]) ∧ Below w.heap.size w w' :=
 (one_ref s w h0 hs).mono fun e w' ⟨kd, tx, n, m, he, hb, hm⟩ => by
  rw [h] at hm
  simp only at hm
  obtain ⟨rfl, rfl, rfl, rfl⟩ := hm
  exact ⟨he, hb⟩

def RefTold (w : World) (r : List Tok × Nat × Nat) (e : Ending) (w' : World) : Prop :=
 ∃ A n c, e = .returned (.tuple #[.slice A n c, .int .i64 r.2.1, .int .i64 r.2.2]) ∧ n ≤ 5000 ∧ TI w' w'.heap.size A n r.1 ∧ Below w.heap.size w w'

set_option maxHeartbeats 1000000 in
theorem tokens_ref_long (s : ByteArray) (w : World) (h : 4000 < s.size) : Calls Tryz.prog 48 #[.string s] w (RefTold w (lexL s.data.toList)) := by
 have hl : lexL s.data.toList = ([], 3, 0) := by
  unfold lexL
  rw [if_pos (by rw [size_list]; exact h)]
 rw [hl]
 have h1 : (4000 : Int) < (s.size : Int) := by omega
 clear hl
 go_enter Tryz.func48, Tryz.ntmps48
 go_wp2
 (try simp only [Exit.inBlock, Exit.then])
 exact bodyPost_ret (results_tmp3 rfl _ _ _) rfl ⟨none, 0, 0, rfl, by omega, TI.nil _ _ _, Below.refl _ _⟩

theorem step_blank {l : List UInt8} {k : Nat} {ts : List Tok} (h : blankL l ≠ 0) : stepL l k ts = some (ts, blankL l) := by
 unfold stepL
 rw [if_pos h]
theorem step_line {l : List UInt8} {k : Nat} {ts : List Tok} (h : blankL l = 0) (h1 : l.head? = some 10) : stepL l k ts = some (endL ts k, 1) := by
 unfold stepL
 rw [if_neg (by omega), if_pos h1]
theorem step_none {l : List UInt8} {k : Nat} {ts : List Tok} (h : blankL l = 0) (h1 : l.head? ≠ some 10) (h2 : tokL l = none) : stepL l k ts = none := by
 unfold stepL
 rw [if_neg (by omega), if_neg h1, h2]
theorem step_some {l : List UInt8} {k : Nat} {ts : List Tok} {kd n m : Nat} {t : List UInt8} (h : blankL l = 0) (h1 : l.head? ≠ some 10) (h2 : tokL l = some (kd, t, n, m)) : stepL l k ts = some (ts ++ [⟨kd, t, n, k⟩], m) := by
 unfold stepL
 rw [if_neg (by omega), if_neg h1, h2]
theorem own_last {w : World} {base : Nat} {A : Option Addr} {c j : Nat} {r : List Tok} {x : Tok} (h : w.ownsRow base 92 4 (.slice A (j + 1) c) (j + 1) (tksC (r ++ [x]))) (hj : r.length = j) :
  ∃ g, A = some ⟨g, 0, none⟩ ∧ w.cell? ((⟨g, 0, none⟩ : Addr).add (j * 4)) = some (.int .u8 x.k) ∧ w.cell? ⟨g, j * 4, none⟩ = some (.int .u8 x.k) := by
 obtain ⟨g, cap, hv, hbg, hlt⟩ := h.form (by omega)
 injection hv with hA _ hcc
 subst hA
 subst hj
 have hcell := h.cells (g := g) rfl (r.length * 4) (.int .u8 x.k) (by rw [show r.length * 4 = r.length * 4 + 0 from rfl, tks_at (x := x) (by simp) 0 (by omega)]; rfl)
 have hcell' := hcell
 rw [add_off0] at hcell'
 exact ⟨g, rfl, hcell, hcell'⟩
end Go.Proofs.YthaibekbefndlaaGreatDoor.C
