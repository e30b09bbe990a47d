/-
  A bracket's reader: all from one element to another one; one element, or these. Condition: what is asked of sizes (BOk, SzB).
-/
import Derived.Test.YthgiikhkcpbpfaaGreatDoorQBaG
namespace Go.Proofs.YthgiikhkcpbpfaaGreatDoor.C
open Go.RowKit

def SzB (s : BSet) (k : Nat) : Prop := s.rs.length ≤ 1000 * k ∧ s.ts.length ≤ 1000 * k
theorem SzB.up {s : BSet} {k k' : Nat} (h : SzB s k) (hk : k ≤ k') : SzB s k' := ⟨by have := h.1; omega, by have := h.2; omega⟩
theorem num_form {L : Loc} {a b : List Int} (h : numB L a b = true) : ∃ x y, a = [x] ∧ b = [y] := by
 unfold numB at h
 have h' := of_decide_eq_true h
 obtain ⟨h1, h2, _⟩ := h'
 match a, b, h1, h2 with
 | [x], [y], _, _ => exact ⟨x, y, rfl, rfl⟩
theorem betw_num {L : Loc} {s : BSet} {x y : Int} {p : Nat} (h : numB L [x] [y] = true) : betwB L s [x] [y] p = if y < x then .error (40, p) else .ok ⟨s.no, s.rs ++ [(x, y)], s.ts⟩ := by
 unfold numB at h
 have h' := of_decide_eq_true h
 unfold betwB
 rw [if_pos h']
 rfl
theorem betw_ord {L : Loc} {s : BSet} {a b : List Int} {p : Nat} (h : numB L a b = false) : betwB L s a b p = if placeV L.ord a < 0 ∨ placeV L.ord b < placeV L.ord a then .error (40, p) else .ok (putL s ((runN (placeV L.ord a).toNat ((placeV L.ord b).toNat - (placeV L.ord a).toNat + 1)).map (cellsJ L.ord))) := by
 unfold numB at h
 have h' := of_decide_eq_false h
 unfold betwB
 rw [if_neg h']
theorem row_cell0 {w : World} {lo : Nat} {A : Option Addr} {c : Nat} {x : Int} (h : w.ownsRow lo 30 1 (.slice A 1 c) 1 (celC [x])) : ∃ g, A = some ⟨g, 0, none⟩ ∧ w.cell? ⟨g, 0, none⟩ = some (.int .i32 x) := by
 obtain ⟨g, cap, hv, _, _⟩ := h.form (by omega)
 injection hv with hA _ hc
 subst hA hc
 refine ⟨g, rfl, ?_⟩
 have := h.cells (g := g) rfl 0 _ (by rfl)
 rwa [Addr.add_zero'] at this
set_option maxRecDepth 100000 in
set_option maxHeartbeats 2000000 in
theorem addBetweenB_any (w : World) (q : BSit) (m : Nat) (hi : Value → Value → Prop) (k : Nat) (s : BSet) (Aa Ab : Option Addr) (ca cb : Nat) (a b : List Int) (p : Nat) (h : RdB w q m hi k s) (hq : BOk q (m + 3)) (ha : w.ownsRow (q.R + 1) 30 1 (.slice Aa a.length ca) a.length (celC a)) (hb : w.ownsRow (q.R + 1) 30 1 (.slice Ab b.length cb) b.length (celC b)) (hs : SzB s 1000000) :
  Calls Tryz.prog 106 #[.pointer (some ⟨q.R, 0, none⟩), .slice Aa a.length ca, .slice Ab b.length cb, .int .i64 (p : Int)] w (BOut w q (m + 3) (betwB q.L s a b p) fun s' e w' => e = .returned (.tuple #[]) ∧ RdB w' q (m + 3) (fun _ _ => True) k s' ∧ Fr w w' (BY q)) := by
 have hin := isByB_any w q m hi k s Aa Ab ca cb a b h ⟨hq.l, hq.r, hq.c, by have := hq.m; omega⟩ ha hb
 have HQ := Lib.hid hq
 have HA := Lib.hid ha
 have HB := Lib.hid hb
 have HS := Lib.hid hs
 have hRl := h.rlt
 have htr := h.tr
 clear h hq ha hb hs
 cases hn : numB q.L a b with
 | true =>
  rw [hn] at hin
  obtain ⟨x, y, rfl, rfl⟩ := num_form hn
  have HV := Lib.hid (betw_num (s := s) (p := p) hn)
  obtain ⟨iR, hiR, hr0, hr1, hr2⟩ := info_parts infoRange
  obtain ⟨ga, rfl, d0⟩ := row_cell0 HA.out
  obtain ⟨gb, rfl, d1⟩ := row_cell0 HB.out
  have hga := own_ge HA.out (g := ga) rfl
  have hgb := own_ge HB.out (g := gb) rfl
  have hgal := (HA.out.lt ga rfl).2
  have hgbl := (HB.out.lt gb rfl).2
  clear hn
  simp only [List.length_singleton] at hin HA HB ⊢
  go_enter Tryz.func106, Tryz.ntmps106
  go_wp2_with fail
  refine hin.mono ?_
  rintro e w1 ⟨rfl, h1, hf1⟩
  have e0 : w1.cell? ⟨ga, 0, none⟩ = some (.int .i32 x) := (World.cell?_of_block (hf1.block ga hgal (by omega))).trans d0
  have e1 : w1.cell? ⟨gb, 0, none⟩ = some (.int .i32 y) := (World.cell?_of_block (hf1.block gb hgbl (by omega))).trans d1
  have H1 := Lib.hid h1
  have HF1 : Hid (Fr w w1 (BX q)) := Lib.hid (hf1.mono fun j _ e => .inl e)
  have HA1 := Lib.hid (ownsRow_fr HA.out hf1 (fun g hg e => by have := own_ge HA.out hg; omega))
  have HB1 := Lib.hid (ownsRow_fr HB.out hf1 (fun g hg e => by have := own_ge HB.out hg; omega))
  clear hin h1 hf1 d0 d1
  by_cases hyx : y < x
  ·have HV1 : Hid (betwB q.L s [x] [y] p = .error (40, p)) := Lib.hid (by rw [HV.out, if_pos hyx])
   go_wp2
   go_region
   all_goals
    go_wp2
    exact ⟨rfl, BOut.bad HV1.out ⟨by rw [pan40], ((H1.out.drew.bad (BX.all q HF1.out.drew)).up (by omega))⟩⟩
  ·have HV1 : Hid (betwB q.L s [x] [y] p = .ok ⟨s.no, s.rs ++ [(x, y)], s.ts⟩) := Lib.hid (by rw [HV.out, if_neg hyx])
   go_wp2
   go_region
   obtain ⟨vR, vT, hx, -⟩ := H1.out.drew.open_
   obtain ⟨AR, cR, hvR⟩ := row_form hx.r
   subst hvR
   have HX := Lib.hid hx
   have HAD : Hid (w1.drew.cell? ⟨ga, 0, none⟩ = some (.int .i32 x) ∧ w1.drew.cell? ⟨gb, 0, none⟩ = some (.int .i32 y)) := Lib.hid ⟨e0, e1⟩
   clear hx
   go_wp2
   refine wp_region_E (S := fun W => W.cell? ⟨q.R, 3, none⟩ = some (.slice AR s.rs.length cR) ∧ W.cell? ⟨ga, 0, none⟩ = some (.int .i32 x) ∧ W.cell? ⟨gb, 0, none⟩ = some (.int .i32 y)) (L := 18) (by kernel_rfl) ?_
   obtain ⟨wr, hwr⟩ : ∃ wr, wr = w1.drew.drew := ⟨_, rfl⟩
   have HXd : Hid (RdX wr q (m + 2) k s (.slice AR s.rs.length cR) vT) := Lib.hid (by rw [hwr]; exact HX.out.below (below_drew (Below.refl _ _)))
   have HFd : Hid (Fr w wr (BY q)) := Lib.hid (by rw [hwr]; exact BX.all q HF1.out.drew.drew)
   have hS1 : (fun W : World => W.cell? ⟨q.R, 3, none⟩ = some (.slice AR s.rs.length cR) ∧ W.cell? ⟨ga, 0, none⟩ = some (.int .i32 x) ∧ W.cell? ⟨gb, 0, none⟩ = some (.int .i32 y)) wr := ⟨HXd.out.cell3, by rw [hwr]; exact e0, by rw [hwr]; exact e1⟩
   have HSS := Lib.hid hS1
   have HRA : Hid (wr.ownsRow (q.R + 1) 30 1 (.slice (some ⟨ga, 0, none⟩) 1 ca) 1 (celC [x]) ∧ wr.ownsRow (q.R + 1) 30 1 (.slice (some ⟨gb, 0, none⟩) 1 cb) 1 (celC [y])) := Lib.hid (by rw [hwr]; exact ⟨own_next HA1.out (below_drew (below_drew (Below.refl _ _))), own_next HB1.out (below_drew (below_drew (Below.refl _ _)))⟩)
   rw [← hwr]
   clear e0 e1 hwr
   iterate 13 (refine wpE rfl rfl ?_; try simp only [Act.put, g1, g2, g3, g4, g5, g6])
   obtain ⟨W1, hW1⟩ : ∃ W1, W1 = wr.alloc (.cells #[.int .i32 x, .int .i32 y] 46) := ⟨_, rfl⟩
   have hbW : Below wr.heap.size wr W1 := by rw [hW1]; exact below_new _ _
   have HX1 := Lib.hid (HXd.out.below hbW)
   have hnew := pair_new wr wr.heap.size (.int .i32 x) (.int .i32 y) 46 rfl
   rw [← hW1] at hnew
   have HNEW := Lib.hid hnew
   have HS2 : Hid ((fun W : World => W.cell? ⟨q.R, 3, none⟩ = some (.slice AR s.rs.length cR) ∧ W.cell? ⟨ga, 0, none⟩ = some (.int .i32 x) ∧ W.cell? ⟨gb, 0, none⟩ = some (.int .i32 y)) W1) := Lib.hid ⟨HX1.out.cell3, below_cell hbW HSS.out.2.1, below_cell hbW HSS.out.2.2⟩
   have HBW := Lib.hid hbW
   have HSZ : Hid (W1.heap.size = wr.heap.size + 1) := Lib.hid (by rw [hW1]; simp)
   clear hbW hnew
   refine wpAnyE_one (i := 13) (by kernel_rfl) rfl (fun K hK => ?_)
   simp only [g4, g5, g6]
   go_simp
   rw [← hW1]
   refine hK.out _ _ (fun _ => HS2.out) (fun hS => ?_)
   clear hK hS hS1 hW1
   try simp only [Act.put, g1, g2, g3, g4, g5, g6]
   refine wpAnyE_one (i := 14) (by kernel_rfl) rfl (fun K hK => ?_)
   have hsl := HS.out.1
   refine step_append_lies _ (by rfl) _ _ _ (by rfl) (q.R + 1) 46 iR (.agg #[.int .i32 0, .int .i32 0]) 2 8 Tryz.underlying31 hiR hr0 hr1 hr2 rfl (by decide) (.slice AR s.rs.length cR) s.rs.length (prsC s.rs) (by rfl) HX1.out.r ⟨wr.heap.size, 0, none⟩ 1 1 [.int .i32 x, .int .i32 y] (by rfl) (by rfl) HNEW.out (by intro u hu; simp at hu; rcases hu with rfl | rfl <;> rfl) (by omega) (by unfold maxLen; omega) (by omega) (by have := HSZ.out; have := HXd.out.h.rlt; omega) (wr.heap.size + 1) HSZ.out ?_
   intro g cap w5 hown5 hgr5 hat5 hlt5
   obtain ⟨hX6, hf6⟩ := HX1.out.addR [(x, y)] rfl hgr5 (by rw [prsC_one]; exact hown5)
   have hf61 : Fr w (w5.setCell ⟨q.R, 3, none⟩ (.slice (some ⟨g, 0, none⟩) (s.rs.length + 1) cap)) (BY q) := (HFd.out.trans (.of_below HBW.out)).trans (hf6.mono fun b _ e => grown_ge (fun g hg => own_ge HX1.out.r hg) b e)
   have HE : Hid (RdB (w5.setCell ⟨q.R, 3, none⟩ (.slice (some ⟨g, 0, none⟩) (s.rs.length + 1) cap)) q (m + 2) (fun _ _ => True) k ⟨s.no, s.rs ++ [(x, y)], s.ts⟩ ∧ Fr w (w5.setCell ⟨q.R, 3, none⟩ (.slice (some ⟨g, 0, none⟩) (s.rs.length + 1) cap)) (BY q)) := Lib.hid ⟨hX6.h, hf61⟩
   have hrow5 := (HX1.out.row.fr (Fr.of_grown hgr5) (fun e => by have := own_ge HX1.out.r e; omega))
   have z3 : w5.cell? ⟨q.R, 3, none⟩ = some (.slice AR s.rs.length cR) := hrow5.cell rfl
   have z4 := hrow5.frozen 3
   have hkeep : ∀ {g0 : Nat} {c0 : Nat} {z : Int}, wr.ownsRow (q.R + 1) 30 1 (.slice (some ⟨g0, 0, none⟩) 1 c0) 1 (celC [z]) → W1.cell? ⟨g0, 0, none⟩ = some (.int .i32 z) → w5.cell? ⟨g0, 0, none⟩ = some (.int .i32 z) := fun {g0 c0 z} hu hc => by
    have hu1 := own_next hu HBW.out
    refine (World.cell?_of_block ((Fr.of_grown hgr5).block g0 (hu1.lt g0 rfl).2 fun e => ?_)).trans hc
    obtain ⟨c2, hc2⟩ := ownsRow_ty HX1.out.r e
    obtain ⟨c3, hc3⟩ := ownsRow_ty hu1 (g := g0) rfl
    rw [hc2] at hc3
    injection hc3 with hc3
    injection hc3 with _ hc3
    exact absurd hc3 (by decide)
   have HS5 : Hid ((fun W : World => W.cell? ⟨q.R, 3, none⟩ = some (.slice AR s.rs.length cR) ∧ W.cell? ⟨ga, 0, none⟩ = some (.int .i32 x) ∧ W.cell? ⟨gb, 0, none⟩ = some (.int .i32 y)) w5) := Lib.hid ⟨z3, hkeep HRA.out.1 HS2.out.2.1, hkeep HRA.out.2 HS2.out.2.2⟩
   clear hown5 hgr5 hat5 hX6 hf6 hf61 hrow5 hkeep
   refine hK.out _ _ (fun _ => HS5.out) (fun hS => ?_)
   clear hK hS
   try simp only [Act.put, g1, g2, g3, g4, g5, g6]
   refine wpAnyE_one (i := 15) (by kernel_rfl) rfl (fun K hK => ?_)
   simp only [g4, g5, g6]
   go_simp
   refine hK.out _ _ (fun _ => HS5.out) (fun hS => ?_)
   clear hK hS
   try simp only [Act.put, g1, g2, g3, g4, g5, g6]
   refine wpAnyE_one (i := 16) (by kernel_rfl) rfl (fun K hK => ?_)
   simp only [g4, g5, g6]
   go_simp
   refine hK.out _ _ (fun _ => HS5.out) (fun hS => ?_)
   clear hK
   try simp only [Act.put, g1, g2, g3, g4, g5, g6]
   replace hS := hS (by decide)
   refine wpEn 17 rfl ?_
   try simp only [Act.put, g1, g2, g3, g4, g5, g6]
   refine wpAnyE_one (i := 18) (by kernel_rfl) rfl (fun K hK => ?_)
   simp only [g4, g5, g6]
   go_simp
   refine hK.out _ _ (fun h => absurd rfl h) (fun _ => ?_)
   refine wpAnyE_done (by kernel_rfl) ?_ _
   clear hK hS z3 z4
   go_wp2
   go_end0
   exact BOut.ok HV1.out ⟨rfl, HE.out.1.up (by omega), HE.out.2⟩
 | false =>
  rw [hn] at hin
  have HV := Lib.hid (betw_ord (s := s) (p := p) hn)
  clear hn
  obtain ⟨pa, hpa⟩ : ∃ pa, pa = placeV q.L.ord a := ⟨_, rfl⟩
  obtain ⟨pb, hpb⟩ : ∃ pb, pb = placeV q.L.ord b := ⟨_, rfl⟩
  rw [← hpa, ← hpb] at HV
  have HPA := Lib.hid hpa
  have HPB := Lib.hid hpb
  clear hpa hpb
  go_enter Tryz.func106, Tryz.ntmps106
  go_wp2_with fail
  refine hin.mono ?_
  rintro e w1 ⟨rfl, h1, hf1⟩
  have H1 := Lib.hid h1
  have HF1 : Hid (Fr w w1 (BX q)) := Lib.hid (hf1.mono fun j _ e => .inl e)
  have HA1 := Lib.hid (ownsRow_fr HA.out hf1 (fun g hg e => by have := own_ge HA.out hg; omega))
  have HB1 := Lib.hid (ownsRow_fr HB.out hf1 (fun g hg e => by have := own_ge HB.out hg; omega))
  have p5 := h1.cell5
  obtain ⟨ra, rb⟩ := own_cells HA1.out htr
  obtain ⟨rc, rd⟩ := own_cells HB1.out htr
  obtain ⟨n, n0, n1, ht⟩ := h1.tab
  have hbt := between_any w1 q.T q.L n w1.heap.size w1.heap.size Aa Ab a.length ca b.length cb a b ht n0 (by have := HQ.out.m; omega) HQ.out.r ra (Nat.le_refl _) rb rc (Nat.le_refl _) rd h1.gl h1.gt
  rw [← HPA.out, ← HPB.out] at hbt
  have HN := Lib.hid (And.intro n0 n1)
  clear hin h1 hf1 ra rb rc rd ht n0 n1
  go_wp2_with fail
  refine hbt.mono ?_
  rintro e w2 ⟨ht, hf, hno, hyes⟩
  have H2 := Lib.hid ((H1.out.asked hf ⟨n + 1, by have := HN.out; omega, by have := HN.out; push_cast at this ⊢; omega, ht⟩ : RdB w2 q (m + 3) hi k s))
  have HF2 : Hid (Fr w w2 (BX q)) := Lib.hid (HF1.out.trans (hf.mono fun j _ e => .inl e))
  have HH2 : Hid (RdB w2 q (m + 3) (fun _ b => ∀ g, b.ownBlock = some g → g < w1.heap.size) k s) := Lib.hid (H1.out.top.asked hf ⟨n + 1, by have := HN.out; omega, by have := HN.out; push_cast at this ⊢; omega, ht⟩)
  clear hbt ht hf p5
  by_cases hbad : pa < 0 ∨ pb < pa
  ·obtain rfl := hno hbad
   have HV1 : Hid (betwB q.L s a b p = .error (40, p)) := Lib.hid (by rw [HV.out, if_pos hbad])
   clear hno hyes hbad
   go_wp2
   exact ⟨rfl, BOut.bad HV1.out ⟨by rw [pan40], H2.out.bad (BX.all q HF2.out)⟩⟩
  ·obtain ⟨i, hi'⟩ : ∃ i : Nat, pa = (i : Int) := ⟨pa.toNat, by omega⟩
   obtain ⟨j, hj⟩ : ∃ j : Nat, pb = (j : Int) := ⟨pb.toNat, by omega⟩
   obtain ⟨v, rfl, hrows⟩ := hyes i j hi' hj (by omega)
   have HV1 : Hid (betwB q.L s a b p = .ok (putL s ((runN i (j - i + 1)).map (cellsJ q.L.ord)))) := Lib.hid (by rw [HV.out, if_neg hbad, hi', hj, Int.toNat_natCast, Int.toNat_natCast])
   have hjl : j < q.L.ord.length := placeV_lt (HPB.out.symm.trans hj)
   have hord := right_ord HQ.out.r
   have h500 : q.L.ord.length ≤ 500 := by unfold ordB at hord; simp only [Bool.and_eq_true, decide_eq_true_eq] at hord; exact hord.1
   obtain ⟨rows, hrw⟩ : ∃ rows, rows = (runN i (j - i + 1)).map (cellsJ q.L.ord) := ⟨_, rfl⟩
   have hlen : rows.length ≤ 1000 := by rw [hrw, List.length_map, runN_len]; omega
   rw [← hrw] at hrows HV1
   have hs1 := HF1.out.size
   have hadd := addB_any w2 q (m + 3) (fun _ b => ∀ g, b.ownBlock = some g → g < w1.heap.size) k s v rows HH2.out (hrows.low (by omega)) (fun _ b hb g hg e => by
    obtain ⟨_, _, a, _⟩ := hrows
    have := own_ge a e
    have := hb g hg
    omega) (by have := HS.out.1; omega) (by have := HS.out.2; omega)
   obtain ⟨Av, cv, rfl⟩ : ∃ Av cv, v = .slice Av rows.length cv := by obtain ⟨_, _, a, _⟩ := hrows; exact row_form a
   clear hno hyes hbad hrows hord hrw hi' hj
   go_wp2_with fail
   refine hadd.mono ?_
   rintro e w3 ⟨rfl, h3, hf3⟩
   have HE : Hid (RdB w3 q (m + 3) (fun _ _ => True) k (putL s rows) ∧ Fr w w3 (BY q)) := Lib.hid ⟨h3, (BX.all q HF2.out).trans hf3⟩
   clear hadd h3 hf3
   go_wp2
   go_end0
   exact BOut.ok HV1.out ⟨rfl, HE.out⟩
end Go.Proofs.YthgiikhkcpbpfaaGreatDoor.C
