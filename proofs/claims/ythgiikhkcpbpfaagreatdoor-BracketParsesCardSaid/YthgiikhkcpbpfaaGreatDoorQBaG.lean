/-
  A bracket's reader: add, addBetween. Condition: what is asked of sizes (BOk).
-/
import Derived.Test.YthgiikhkcpbpfaaGreatDoorQBaF
namespace Go.Proofs.YthgiikhkcpbpfaaGreatDoor.C
open Go.RowKit

def AdI (w0 : World) (q : BSit) (m k : Nat) (s : BSet) (vE : Value) (rows : List (List Int)) (j : Nat) (w : World) : Prop :=
 RdB w q m (fun _ b => ∀ g, b.ownBlock = some g → vE.ownBlock ≠ some g) k (putL s (rows.take j)) ∧ RowsAt w (q.R + 1) vE rows ∧ Fr w0 w (BY q)
theorem one_cellB (w : World) (x : Value) (t : TypeId) : (w.alloc (.cells #[x] t)).cell? ⟨w.heap.size, 0, none⟩ = some x := by simp
set_option maxRecDepth 100000 in
set_option maxHeartbeats 2000000 in
theorem addB_any (w : World) (q : BSit) (m : Nat) (hi : Value → Value → Prop) (k : Nat) (s : BSet) (vE : Value) (rows : List (List Int)) (h : RdB w q m hi k s) (hrows : RowsAt w (q.R + 1) vE rows) (hap : ∀ a b, hi a b → ∀ g, b.ownBlock = some g → vE.ownBlock ≠ some g) (hs1 : s.rs.length + rows.length ≤ 2000000000) (hs2 : s.ts.length + rows.length ≤ 2000000000) :
  Calls Tryz.prog 66 #[.pointer (some ⟨q.R, 0, none⟩), vE] w fun e w' => e = .returned (.tuple #[]) ∧ RdB w' q m (fun _ _ => True) k (putL s rows) ∧ Fr w w' (BY q) := by
 have HI0 : Hid (AdI w q m k s vE rows 0 w) := Lib.hid ⟨by rw [List.take_zero]; exact h.imp hap, hrows, Fr.refl _ _⟩
 obtain ⟨AE, cE, rfl⟩ : ∃ AE cE, vE = .slice AE rows.length cE := by obtain ⟨_, _, a, _⟩ := id hrows; exact row_form a
 obtain ⟨iR, hiR, hr0, hr1, hr2⟩ := info_parts infoRange
 obtain ⟨iC, hiC, hc0, hc1, hc2⟩ := info_parts infoRowC
 have htr := h.tr
 have hml : rows.length ≤ 2000000000 := by omega
 clear h hrows hap
 go_enter Tryz.func66, Tryz.ntmps66
 go_wp2
 go_loopw [8] (fun iv wr => ∃ j : Nat, j ≤ rows.length ∧ iv = .int .i64 (j : Int) ∧ Hid (AdI w q m k s (.slice AE rows.length cE) rows j wr)) (fun iv _ => rows.length - (intOf iv).toNat)
 case atStart => exact ⟨0, Nat.zero_le _, rfl, HI0⟩
 case round =>
  clear HI0
  obtain ⟨j, hj, rfl, HI⟩ := hrel
  by_cases hlt : j < rows.length
  ·obtain ⟨r, hr⟩ : ∃ r, rows[j]? = some r := ⟨_, List.getElem?_eq_getElem hlt⟩
   have hI := HI.out
   obtain ⟨hrd, hro, hfr⟩ := hI
   obtain ⟨vs, e1, e2, e3⟩ := id hro
   obtain ⟨u, hu⟩ : ∃ u, vs[j]? = some u := ⟨_, List.getElem?_eq_getElem (by omega)⟩
   obtain ⟨gE, capX, hvE, hgE, hltE⟩ := e2.form (by omega)
   injection hvE with hAE _ hcE
   subst hAE hcE
   have hur := e3 j r u hr hu
   obtain ⟨Ar, cr, rfl⟩ := row_form hur
   have d0 : wr.cell? ⟨gE, j, none⟩ = some (.slice Ar r.length cr) := by
    have := e2.cells (g := gE) rfl j _ hu
    rwa [add_plain, Nat.zero_add] at this
   obtain ⟨vR, vT, hx, hh⟩ := hrd.open_
   have hput : putL s (rows.take (j + 1)) = put1 (putL s (rows.take j)) r := by rw [List.take_add_one, hr]; exact putL_snoc _ _ _
   have hpl := putL_len (rows.take j) s
   rw [List.length_take] at hpl
   have hsR : (putL s (rows.take j)).rs.length ≤ 2000000000 := by omega
   have hsT : (putL s (rows.take j)).ts.length ≤ 2000000000 := by omega
   have hRl := hrd.rlt
   obtain ⟨sj, hsj⟩ : ∃ sj, sj = putL s (rows.take j) := ⟨_, rfl⟩
   rw [← hsj] at hx hput hsR hsT
   have HX := Lib.hid hx
   have HH := Lib.hid hh
   have HRO := Lib.hid hro
   have HFR := Lib.hid hfr
   have HPUT := Lib.hid hput
   have HUR := Lib.hid hur
   have HGE := Lib.hid (And.intro hgE hltE)
   have i0 : (0 : Int) ≤ (j : Int) := by omega
   have i1 : (j : Int) < (rows.length : Int) := by omega
   clear hrd hro hfr hx hh e1 e2 e3 hur hput hpl hsj HI hgE hltE hu
   by_cases hl1 : r.length = 1
   ·obtain ⟨c, rfl⟩ : ∃ c, r = [c] := by
     match r, hl1 with
     | [c], _ => exact ⟨c, rfl⟩
    obtain ⟨ga, capa, hva, hga, hlta⟩ := HUR.out.form (by simp)
    injection hva with hAa _ hca
    subst hAa hca
    have d1 : wr.cell? ⟨ga, 0, none⟩ = some (.int .i32 c) := by
     have := HUR.out.cells (g := ga) rfl 0 _ (by rfl)
     rwa [Addr.add_zero'] at this
    obtain ⟨AR, cR, hvR⟩ := row_form HX.out.r
    subst hvR
    have p3 := HX.out.cell3
    obtain ⟨wd, hwd⟩ : ∃ wd, wd = wr.drew := ⟨_, rfl⟩
    have HAD : Hid (wd.cell? ⟨ga, 0, none⟩ = some (.int .i32 c)) := Lib.hid (by rw [hwd]; exact d1)
    have HBD : Hid (Below wr.heap.size wr wd) := Lib.hid (by rw [hwd]; exact below_drew (Below.refl _ _))
    have HXd := Lib.hid (HX.out.below HBD.out)
    have HSD : Hid (wd.heap.size = wr.heap.size) := Lib.hid (by rw [hwd]; rfl)
    have HS0 : Hid ((fun W : World => W.cell? ⟨q.R, 3, none⟩ = some (.slice AR sj.rs.length cR) ∧ W.cell? ⟨ga, 0, none⟩ = some (.int .i32 c)) wd) := Lib.hid ⟨HXd.out.cell3, HAD.out⟩
    have HWD := Lib.hid hwd
    have hn1 : (([c] : List Int).length : Int) = 1 := by simp
    clear hwd
    go_wp2
    refine wp_region_E (S := fun W => W.cell? ⟨q.R, 3, none⟩ = some (.slice AR sj.rs.length cR) ∧ W.cell? ⟨ga, 0, none⟩ = some (.int .i32 c)) (L := 18) (by kernel_rfl) ?_
    rw [← HWD.out]
    have hS1 := HS0.out
    clear HWD
    clear p3 d0 d1
    iterate 13 (refine wpE rfl rfl ?_; try simp only [Act.put, g1, g2, g3, g4, g5, g6])
    obtain ⟨W1, hW1⟩ : ∃ W1, W1 = wd.alloc (.cells #[.int .i32 c, .int .i32 c] 46) := ⟨_, rfl⟩
    have hbW : Below wd.heap.size wd W1 := by rw [hW1]; exact below_new _ _
    have HX1 := Lib.hid (HXd.out.below hbW)
    have hnew := pair_new wd wd.heap.size (.int .i32 c) (.int .i32 c) 46 rfl
    rw [← hW1] at hnew
    have HNEW := Lib.hid hnew
    have HS2 : Hid ((fun W : World => W.cell? ⟨q.R, 3, none⟩ = some (.slice AR sj.rs.length cR) ∧ W.cell? ⟨ga, 0, none⟩ = some (.int .i32 c)) W1) := Lib.hid ⟨HX1.out.cell3, (below_cell hbW HAD.out)⟩
    have HBW := Lib.hid hbW
    have HSZ : Hid (W1.heap.size = wd.heap.size + 1) := Lib.hid (by rw [hW1]; simp)
    clear hbW hnew
    refine wpAnyE_one (i := 13) (by kernel_rfl) rfl (fun K hK => ?_)
    simp only [g4, g5, g6]
    go_simp
    rw [← hW1]
    refine hK.out _ _ (fun _ => HS2.out) (fun hS => ?_)
    clear hK hS hS1 hW1
    try simp only [Act.put, g1, g2, g3, g4, g5, g6]
    refine wpAnyE_one (i := 14) (by kernel_rfl) rfl (fun K hK => ?_)
    refine step_append_lies _ (by rfl) _ _ _ (by rfl) (q.R + 1) 46 iR (.agg #[.int .i32 0, .int .i32 0]) 2 8 Tryz.underlying31 hiR hr0 hr1 hr2 rfl (by decide) (.slice AR sj.rs.length cR) sj.rs.length (prsC sj.rs) (by rfl) HX1.out.r ⟨wd.heap.size, 0, none⟩ 1 1 [.int .i32 c, .int .i32 c] (by rfl) (by rfl) HNEW.out (by intro u hu; simp at hu; rcases hu with rfl | rfl <;> rfl) (by omega) (by unfold maxLen; omega) (by omega) (by have := HSZ.out; have := HSD.out; omega) (wd.heap.size + 1) HSZ.out ?_
    intro g cap w5 hown5 hgr5 hat5 hlt5
    obtain ⟨hX6, hf6⟩ := HX1.out.addR [(c, c)] rfl hgr5 (by rw [prsC_one]; exact hown5)
    have hXr := hX6.close (hi := fun _ b => ∀ g, b.ownBlock = some g → (Value.slice (some ⟨gE, 0, none⟩) rows.length cE).ownBlock ≠ some g) HH.out
    have hf61 : Fr wr (w5.setCell ⟨q.R, 3, none⟩ (.slice (some ⟨g, 0, none⟩) (sj.rs.length + 1) cap)) (BY q) := ((Fr.of_below HBD.out).trans (.of_below HBW.out)).trans (hf6.mono fun b _ e => grown_ge (fun g hg => own_ge HX1.out.r hg) b e)
    have hro6 : RowsAt (w5.setCell ⟨q.R, 3, none⟩ (.slice (some ⟨g, 0, none⟩) (sj.rs.length + 1) cap)) (q.R + 1) (.slice (some ⟨gE, 0, none⟩) rows.length cE) rows := ((HRO.out.next HBD.out).next HBW.out).frT hf6 (by
     rintro b cc z t (rfl | e) hc
     ·have := HX1.out.row.symm.trans hc
      injection this with this
      injection this with _ this
      subst this
      exact ⟨by decide, by decide⟩
     ·obtain ⟨c2, hc2⟩ := ownsRow_ty HX1.out.r e
      have := hc2.symm.trans hc
      injection this with this
      injection this with _ this
      subst this
      exact ⟨by decide, by decide⟩)
    have HE : Hid (AdI w q m k s (.slice (some ⟨gE, 0, none⟩) rows.length cE) rows (j + 1) (w5.setCell ⟨q.R, 3, none⟩ (.slice (some ⟨g, 0, none⟩) (sj.rs.length + 1) cap))) := Lib.hid ⟨by rw [HPUT.out, put1_one]; exact hXr, hro6, HFR.out.trans hf61⟩
    have hrow5 := (HX1.out.row.fr (Fr.of_grown hgr5) (fun e => by have := own_ge HX1.out.r e; omega))
    have z3 : w5.cell? ⟨q.R, 3, none⟩ = some (.slice AR sj.rs.length cR) := hrow5.cell rfl
    have z4 := hrow5.frozen 3
    have HS5 : Hid ((fun W : World => W.cell? ⟨q.R, 3, none⟩ = some (.slice AR sj.rs.length cR) ∧ W.cell? ⟨ga, 0, none⟩ = some (.int .i32 c)) w5) := Lib.hid ⟨z3, by
     refine (World.cell?_of_block ((Fr.of_grown hgr5).block ga (by have := HSZ.out; have := HSD.out; omega) fun e => ?_)).trans HS2.out.2
     obtain ⟨c2, hc2⟩ := ownsRow_ty HX1.out.r e
     obtain ⟨c3, hc3⟩ := ownsRow_ty (own_next (own_next HUR.out HBD.out) HBW.out) (g := ga) rfl
     rw [hc2] at hc3
     injection hc3 with hc3
     injection hc3 with _ hc3
     exact absurd hc3 (by decide)⟩
    clear hown5 hgr5 hat5 hX6 hf6 hXr hf61 hro6 hrow5
    refine hK.out _ _ (fun _ => HS5.out) (fun hS => ?_)
    clear hK hS
    try simp only [Act.put, g1, g2, g3, g4, g5, g6]
    refine wpAnyE_one (i := 15) (by kernel_rfl) rfl (fun K hK => ?_)
    simp only [g4, g5, g6]
    go_simp
    refine hK.out _ _ (fun _ => HS5.out) (fun hS => ?_)
    clear hK hS
    try simp only [Act.put, g1, g2, g3, g4, g5, g6]
    refine wpAnyE_one (i := 16) (by kernel_rfl) rfl (fun K hK => ?_)
    simp only [g4, g5, g6]
    go_simp
    refine hK.out _ _ (fun _ => HS5.out) (fun hS => ?_)
    clear hK
    try simp only [Act.put, g1, g2, g3, g4, g5, g6]
    replace hS := hS (by decide)
    refine wpEn 17 rfl ?_
    try simp only [Act.put, g1, g2, g3, g4, g5, g6]
    refine wpAnyE_one (i := 18) (by kernel_rfl) rfl (fun K hK => ?_)
    simp only [g4, g5, g6]
    go_simp
    refine hK.out _ _ (fun h => absurd rfl h) (fun _ => ?_)
    refine wpAnyE_done (by kernel_rfl) ?_ _
    clear hK hS z3 z4
    go_wp2
    go_roundw
    case rel => exact ⟨j + 1, by omega, by go_num, HE⟩
    case measure => simp [intOf]; omega
   ·have hn1 : ¬ (r.length : Int) = 1 := by omega
    obtain ⟨vs, t1, t2, t3⟩ := id HX.out.t
    obtain ⟨AT, cT, hvT⟩ := row_form t2
    subst hvT
    have p4 := HX.out.cell4
    obtain ⟨W1, hW1⟩ : ∃ W1, W1 = wr.alloc (.cells #[.slice Ar r.length cr] 39) := ⟨_, rfl⟩
    have hbW : Below wr.heap.size wr W1 := by rw [hW1]; exact below_new _ _
    have hSZ : W1.heap.size = wr.heap.size + 1 := by rw [hW1]; simp
    have hnew := one_newK wr (.slice Ar r.length cr) 39
    rw [← hW1] at hnew
    have HX1 := Lib.hid (HX.out.below hbW)
    have HT1 := Lib.hid (own_next t2 hbW)
    have HT3 : Hid (∀ (i : Nat) (r : List Int) (u : Value), sj.ts[i]? = some r → vs[i]? = some u → W1.ownsRow (q.R + 1) 30 1 u r.length (celC r)) := Lib.hid fun i r u a b => own_next (t3 i r u a b) hbW
    have HU1 := Lib.hid (own_next HUR.out hbW)
    have HL := Lib.hid t1
    have HNEW := Lib.hid hnew
    have HSZ := Lib.hid hSZ
    have HBW := Lib.hid hbW
    have HWW := Lib.hid hW1
    clear t1 t2 t3 hnew hSZ hbW
    go_wp2_with (at_builtin; rw [← hW1]; clear hW1; refine wpList_append_lies _ rfl _ _ 32 rfl (q.R + 1) 39 iC (.slice none 0 0) 1 24 Tryz.underlying32 hiC hc0 hc1 hc2 rfl (by decide) (.slice AT sj.ts.length cT) sj.ts.length vs rfl HT1.out ⟨wr.heap.size, 0, none⟩ 1 1 [.slice Ar r.length cr] rfl rfl HNEW.out (by intro u hu; simp at hu; subst hu; rfl) (by omega) (by unfold maxLen; omega) (by omega) (by have := HSZ.out; omega) (wr.heap.size + 1) HSZ.out ?_; intro g cap w5 hown5 hgr5 hat5 hlt5; have hrow5 := (HX1.out.row.fr (Fr.of_grown hgr5) (fun e => by have := own_ge HT1.out e; omega)); have z3 : w5.cell? ⟨q.R, 4, none⟩ = some (.slice AT sj.ts.length cT) := hrow5.cell rfl; have z4 := hrow5.frozen 4; have HG5 := Lib.hid hgr5; have HO5 := Lib.hid hown5; have HAT5 := Lib.hid hat5; clear hown5 hgr5 hat5 hrow5)
    have hff := (Fr.of_grown HG5.out)
    obtain ⟨hX6, hf6⟩ := HX1.out.addT r HL.out HT1.out HT3.out HU1.out rfl HG5.out HO5.out
    have hXr := hX6.close (hi := fun _ b => ∀ g, b.ownBlock = some g → (Value.slice (some ⟨gE, 0, none⟩) rows.length cE).ownBlock ≠ some g) (by
     intro g' hg' he
     have e1 : g = g' := by injection hg'
     have e2 : gE = g' := by injection he
     subst e1 e2
     rcases HAT5.out with e | e
     ·exact HH.out _ e rfl
     ·have := HGE.out
      omega)
    have hf61 : Fr wr (w5.setCell ⟨q.R, 4, none⟩ (.slice (some ⟨g, 0, none⟩) (sj.ts.length + 1) cap)) (BY q) := (Fr.of_below HBW.out).trans (hf6.mono fun b _ e => grown_ge (fun g hg => own_ge HT1.out hg) b e)
    have hro6 : RowsAt (w5.setCell ⟨q.R, 4, none⟩ (.slice (some ⟨g, 0, none⟩) (sj.ts.length + 1) cap)) (q.R + 1) (.slice (some ⟨gE, 0, none⟩) rows.length cE) rows := (HRO.out.next HBW.out).frB hf6 (by
     rintro b hb (e | e)
     ·have e2 : gE = b := by injection hb
      have := HGE.out
      omega
     ·exact HH.out _ e hb) (by
     rintro b cc z t (rfl | e) hc
     ·have := HX1.out.row.symm.trans hc
      injection this with this
      injection this with _ this
      subst this
      decide
     ·obtain ⟨c2, hc2⟩ := ownsRow_ty HT1.out e
      have := hc2.symm.trans hc
      injection this with this
      injection this with _ this
      subst this
      decide)
    have HE : Hid (AdI w q m k s (.slice (some ⟨gE, 0, none⟩) rows.length cE) rows (j + 1) (w5.setCell ⟨q.R, 4, none⟩ (.slice (some ⟨g, 0, none⟩) (sj.ts.length + 1) cap))) := Lib.hid ⟨by rw [HPUT.out, put1_text _ hl1]; exact hXr, hro6, HFR.out.trans hf61⟩
    clear hX6 hf6 hXr hf61 hro6 hff
    go_roundw
    case rel => exact ⟨j + 1, by omega, by go_num, HE⟩
    case measure => simp [intOf]; omega
  ·obtain rfl : j = rows.length := by omega
   have HE : Hid (RdB wr q m (fun _ _ => True) k (putL s rows) ∧ Fr w wr (BY q)) := Lib.hid ⟨by have := HI.out.1; rw [List.take_length] at this; exact this.imp fun _ _ _ => trivial, HI.out.2.2⟩
   go_wp2
   go_end0
   exact ⟨rfl, HE.out⟩
end Go.Proofs.YthgiikhkcpbpfaaGreatDoor.C
