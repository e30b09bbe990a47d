/-
  Joined: LiJ. Each with what its own head says.
-/
import Derived.Test.YthaibekbefndlaaGreatDoorZ32

namespace Go.Proofs.YthaibekbefndlaaGreatDoor.C
open Go.RowKit

theorem printL_err (l : Loc) : (printL l).2 ≤ 3 := by
 unfold printL
 split
 ·split <;> simp
 ·simp
set_option maxRecDepth 100000 in
set_option maxHeartbeats 8000000 in
theorem prints_any (w : World) (B : Nat) (v1 v2 v3 v4 : Value) (l : Loc) (h : LocR w B v1 v2 v3 v4 l) (hB : B ≤ w.heap.size) (hG : Gm w) (hcl : l.cls.length ≤ 500) (hup : l.up.length ≤ 500) (hlo : l.lo.length ≤ 500) (hol : l.ord.length ≤ 500)
  (hn1 : ∀ c ∈ l.cls, c.name.length ≤ 140737488351232 ∧ c.rs.length ≤ 17592186044416) (hn2 : ∀ e ∈ l.ord, e.name.length ≤ 140737488351232) :
  Calls Tryz.prog 14 #[.agg #[v1, v2, v3, v4]] w fun e w' => e = .returned (.bool true) ∧ Below w.heap.size w w' := by
 obtain ⟨⟨A1, c1, x1, rfl, -⟩, ⟨A2, c2, rfl, -⟩, ⟨A3, c3, rfl, -⟩, ⟨A4, c4, x4, rfl, -⟩, -⟩ := id h
 obtain ⟨W, hW⟩ : ∃ W, W = w.alloc (.cells #[.slice A1 l.cls.length c1, .slice A2 l.up.length c2, .slice A3 l.lo.length c3, .slice A4 l.ord.length c4] 26) := ⟨_, rfl⟩
 have hbW : Below w.heap.size w W := by rw [hW]; exact (Below.refl _ _).alloc (Nat.le_refl _) _
 have hL : LocZ W w.heap.size (.slice A1 l.cls.length c1) (.slice A2 l.up.length c2) (.slice A3 l.lo.length c3) (.slice A4 l.ord.length c4) := by
  unfold LocZ
  rw [hW]
  exact heap_alloc_new w _
 have hpt := locPrint_any W B _ _ _ _ l (h.on hbW hB) (Nat.le_trans hB hbW.size) (hG.next hbW) (fun c hc => (hn1 c hc).1) hn2
 have HBw : Hid (B ≤ W.heap.size) := Lib.hid (Nat.le_trans hB hbW.size)
 have hR := h.on hbW hB
 have HGW := Lib.hid (hG.next hbW)
 obtain ⟨q0, q1, q2, q3⟩ := hL.cells
 rw [hW] at q0 q1 q2 q3
 obtain ⟨S, hS⟩ : ∃ S, w.heap.size = S := ⟨_, rfl⟩
 have HC : Hid (∀ u, Below W.heap.size W u → LocZ u S (.slice A1 l.cls.length c1) (.slice A2 l.up.length c2) (.slice A3 l.lo.length c3) (.slice A4 l.ord.length c4) ∧ LocR u B (.slice A1 l.cls.length c1) (.slice A2 l.up.length c2) (.slice A3 l.lo.length c3) (.slice A4 l.ord.length c4) l) := Lib.hid (fun u hu => ⟨by rw [← hS]; exact (hu.block _ hL.lt).trans hL, hR.on hu HBw.out⟩)
 have HBW : Hid (Below S w W) := Lib.hid (by rw [← hS]; exact hbW)
 have HSW : Hid (S ≤ W.heap.size) := Lib.hid (by rw [← hS]; exact hbW.size)
 have HP7 : Hid (∀ u, Below W.heap.size W u → Calls Tryz.prog 26 #[.agg #[.slice A1 l.cls.length c1, .slice A2 l.up.length c2, .slice A3 l.lo.length c3, .slice A4 l.ord.length c4]] u fun e w' => e = .returned (.tuple #[.string (str (printL l).1), .int .i64 ((printL l).2 : Nat)]) ∧ Below u.heap.size u w') := Lib.hid (fun u hu => print07_any u B _ _ _ _ l (HC.out u hu).2 (Nat.le_trans HBw.out hu.size) hcl hup hlo hol hn1 hn2)
 have HR1 : Hid (∀ u, Below W.heap.size W u → Calls Tryz.prog 16 #[.agg #[.slice A1 l.cls.length c1, .slice A2 l.up.length c2, .slice A3 l.lo.length c3, .slice A4 l.ord.length c4]] u fun e w' => e = .returned (.bool (rightL l)) ∧ Below u.heap.size u w') := Lib.hid (fun u hu => locRight_any u B _ _ _ _ l (HC.out u hu).2 (Nat.le_trans HBw.out hu.size) (HGW.out.next hu))
 have HR7 : Hid (∀ u, Below W.heap.size W u → Calls Tryz.prog 27 #[.agg #[.slice A1 l.cls.length c1, .slice A2 l.up.length c2, .slice A3 l.lo.length c3, .slice A4 l.ord.length c4]] u fun e w' => e = .returned (.bool (rightL l)) ∧ Below u.heap.size u w') := Lib.hid (fun u hu => right07_any u B _ _ _ _ l (HC.out u hu).2 (Nat.le_trans HBw.out hu.size) hol)
 unfold PrintTold at hpt
 have her := printL_err l
 obtain ⟨er, hEr⟩ : ∃ n, n = (printL l).2 := ⟨_, rfl⟩
 obtain ⟨TX, hTX⟩ : ∃ t, t = str (printL l).1 := ⟨_, rfl⟩
 rw [← hEr] at hpt HP7 her
 rw [← hTX] at hpt HP7
 obtain ⟨rb, hrb⟩ : ∃ b, b = rightL l := ⟨_, rfl⟩
 rw [← hrb] at HR1 HR7
 have wz : IntKind.i64.wrap (er : Int) = (er : Int) := by rw [IntKind.wrap_i64]; omega
 rw [hS]
 rw [hS] at q0 q1 q2 q3
 clear h hbW hL hn1 hn2 hR hG hEr hTX hrb
 go_enter Tryz.func14, Tryz.ntmps14
 go_wp2_with fail
 rw [← hW]
 with_reducible refine hpt.mono ?_
 rintro e w2 ⟨rfl, hb2⟩
 clear hpt hW hS q0 q1 q2 q3
 obtain ⟨q0, q1, q2, q3⟩ := (HC.out w2 hb2).1.cells
 have hcu := HP7.out w2 hb2
 have HB2 := Lib.hid hb2
 clear hb2
 go_wp2_with fail
 with_reducible refine hcu.mono ?_
 rintro e w3 ⟨rfl, hb3⟩
 have hb23 : Below W.heap.size W w3 := HB2.out.trans (hb3.mono HB2.out.size)
 clear hcu hb3 q0 q1 q2 q3
 have HS : Hid (∀ u, Below W.heap.size W u → u.cell? ⟨S, 0, none⟩ = some (.slice A1 l.cls.length c1) ∧ u.cell? ⟨S, 1, none⟩ = some (.slice A2 l.up.length c2) ∧ u.cell? ⟨S, 2, none⟩ = some (.slice A3 l.lo.length c3) ∧ u.cell? ⟨S, 3, none⟩ = some (.slice A4 l.ord.length c4)) := Lib.hid (fun u hu => (HC.out u hu).1.cells)
 go_upto_region 3 with fail
 refine wp_region_held (S := fun W' : World => W'.cell? ⟨S, 0, none⟩ = some (.slice A1 l.cls.length c1) ∧ W'.cell? ⟨S, 1, none⟩ = some (.slice A2 l.up.length c2) ∧ W'.cell? ⟨S, 2, none⟩ = some (.slice A3 l.lo.length c3) ∧ W'.cell? ⟨S, 3, none⟩ = some (.slice A4 l.ord.length c4)) (by kernel_rfl) ?_
 change wpAnyH _ _ _ _ _ _ _ _ w3.drew
 have hbd : Below W.heap.size W w3.drew := below_drew hb23
 have hS1 : (fun W' : World => W'.cell? ⟨S, 0, none⟩ = some (.slice A1 l.cls.length c1) ∧ W'.cell? ⟨S, 1, none⟩ = some (.slice A2 l.up.length c2) ∧ W'.cell? ⟨S, 2, none⟩ = some (.slice A3 l.lo.length c3) ∧ W'.cell? ⟨S, 3, none⟩ = some (.slice A4 l.ord.length c4)) w3.drew := HS.out _ hbd
 iterate 11 (refine wpH rfl rfl ?_; try simp only [Act.put, g1, g2, g3, g4, g5, g6])
 refine wpHn 12 rfl ?_
 try simp only [Act.put, g1, g2, g3, g4, g5, g6]
 have hcu := HR1.out _ hbd
 refine wpAnyH_one (i := 11) (by kernel_rfl) rfl (fun K hK => ?_)
 simp only [g4, g5, g6]
 go_simp
 go_at_call 16
 with_reducible refine hcu.mono ?_
 rintro e u1 ⟨rfl, hbn⟩
 have hb1 : Below W.heap.size W u1 := hbd.trans (hbn.mono hbd.size)
 refine hK.out _ _ (HS.out u1 hb1) (fun hS2 => ?_)
 clear hcu hbn hS1
 have hcu := HR7.out _ hb1
 refine wpAnyH_one (i := 13) (by kernel_rfl) rfl (fun K hK => ?_)
 simp only [g4, g5, g6]
 go_simp
 go_at_call 27
 with_reducible refine hcu.mono ?_
 rintro e u2 ⟨rfl, hbn⟩
 have hb2 : Below W.heap.size W u2 := hb1.trans (hbn.mono hb1.size)
 refine hK.out _ _ (HS.out u2 hb2) (fun hS3 => ?_)
 clear hcu hbn hS2
 iterate 3 (refine wpH rfl rfl ?_; try simp only [Act.put, g1, g2, g3, g4, g5, g6])
 refine wpAnyH_done (by kernel_rfl) ?_ _
 have HBE := Lib.hid (HBW.out.trans (hb2.mono HSW.out))
 clear hS3 hb1 hb2 hbd hb23
 go_wp2
 go_ret
 exact ⟨rfl, HBE.out⟩
end Go.Proofs.YthaibekbefndlaaGreatDoor.C
