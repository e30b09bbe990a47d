/-
  The statements' known examples are the chapter's. Condition: what is asked of the listed variables (Gm).
-/
import Derived.Test.YthgiikhkcpbpfaaGreatDoorQBaS
namespace Go.Proofs.YthgiikhkcpbpfaaGreatDoor.C
open Go.RowKit

theorem below_T {w0 w1 w2 : World} {T : Nat} (hb : Below w0.heap.size w0 w1) (hf : Fr w1 w2 (· = T)) (hT : w0.heap.size ≤ T) : Below w0.heap.size w0 w2 := hb.trans (hf.below (by rintro j _ rfl; exact hT) hb.size)
theorem parseOf_any (w w0 : World) (T m lo : Nat) (L : Loc) (A : Option Addr) (c : Nat) (l : List Int) (at_ : Int) (hl : w.ownsRow lo 30 1 (.slice A l.length c) l.length (celC l)) (hlo : T < lo) (hT : TabU T w T L m) (hG : Gm w0) (hb : Below w0.heap.size w0 w) (hw : w0.heap.size ≤ T) (hgt : (5 : Nat) < w0.heap.size)
  (hn : l.length ≤ 100000) (hR : rightL L = true) (hcl : ∀ k ∈ L.cls, k.rs.length ≤ 1000) (hm : m ≤ 100000000) :
  Calls Tryz.prog 9 #[.slice A l.length c, .int .i64 at_, .pointer (some ⟨T, 0, none⟩)] w (BrkTold w T L (m + 8 * (l.length + 1)) (brkL L l at_)) := by
 have hcap : l.length ≤ c := by
  rcases hl.2 with ⟨e, h0⟩ | ⟨g, cap, cur, e, _, _, h1, _⟩
  ·rw [h0]; exact Nat.zero_le _
  ·injection e with _ _ e3
   omega
 exact parseB_any w T m w.heap.size L A c l at_ hcap (RI.of_own hl) (Nat.le_refl _) (fun h0 ad ha => by
  obtain ⟨g, cap, hv, hg, _⟩ := hl.form h0
  injection hv with hA
  rw [ha] at hA
  injection hA with hA
  subst hA
  simp only
  omega) hT (hG.next hb).1 (by omega) hn hR hcl hm
set_option maxRecDepth 100000 in
set_option maxHeartbeats 2000000 in
theorem known10_any (w : World) (hG : Gm w) : Calls Tryz.prog 11 #[] w fun e w' => e = .returned (.bool true) ∧ Below w.heap.size w w' := by
 have htb := tableP_any w hG
 have HG := Lib.hid hG
 have HGT : Hid ((5 : Nat) < w.heap.size) := Lib.hid (World.block_lt_of_cell? w _ hG.1)
 have q : ∀ (a : Option Addr) (w : World), (binOp .eql 22 (.pointer a) (.pointer none)).run Tryz.prog w = .ok (.bool a.isNone) w := fun a w => ptr_nilB a w
 clear hG
 go_enter Tryz.func11, Tryz.ntmps11
 go_wp2_with fail
 refine htb.mono ?_
 rintro e w1 ⟨T, v, rfl, ⟨A1, n1, c1, A2, n2, c2, A3, n3, c3, A4, n4, c4, rfl⟩, hT, ht, hb1⟩
 have HT : Hid (w.heap.size ≤ T) := Lib.hid hT
 obtain ⟨w2, hw2⟩ : ∃ w2, w2 = w1.alloc (.cells #[.slice A1 n1 c1, .slice A2 n2 c2, .slice A3 n3 c3, .slice A4 n4 c4] 27) := ⟨_, rfl⟩
 have hb2 : Below w1.heap.size w1 w2 := by rw [hw2]; exact below_new _ _
 have HB2 : Hid (Below w.heap.size w w2) := Lib.hid (hb1.trans (hb2.mono hb1.size))
 have HT2 := Lib.hid (ht.keep hb2)
 have hof := refOf_any ⟨#[97, 45, 99, 91, 58, 100, 105, 103, 105, 116, 58, 93, 93]⟩ w2 (by decide)
 rw [of_ex1] at hof
 clear htb hT ht hb1 hb2
 go_wp2_with fail
 rw [← hw2]
 clear hw2
 refine hof.mono ?_
 rintro e w3 ⟨v, rfl, ho, hb3⟩
 obtain ⟨Ao, co, rfl⟩ := row_form ho
 have HB3 : Hid (Below w.heap.size w w3) := Lib.hid (HB2.out.trans (hb3.mono HB2.out.size))
 have hp := parseOf_any w3 w T 0 w2.heap.size plainLoc Ao co ex1 0 ho HT2.out.lt (HT2.out.keep hb3) HG.out HB3.out HT.out HGT.out (by decide) plain_right plain_rs (by omega)
 rw [brk_ex1] at hp
 unfold BrkTold at hp
 simp only [show ex1.length = 13 from rfl] at hp
 have HLO2 : Hid (w2.heap.size ≤ w3.heap.size) := Lib.hid hb3.size
 clear hof ho hb3
 go_wp2_with fail
 refine hp.mono ?_
 rintro e w4 ⟨v, rfl, hs1, ht4, hf4⟩
 obtain ⟨AR, cR, AT, cT, rfl, hrow⟩ := hs1.row
 simp only [List.length_cons, List.length_nil, Nat.reduceAdd] at hrow ⊢
 obtain ⟨w5, hw5⟩ : ∃ w5, w5 = w4.alloc (.cells #[.bool false, .slice AR 4 cR, .slice AT 0 cT] 34) := ⟨_, rfl⟩
 obtain ⟨P, hP⟩ : ∃ P, P = w4.heap.size := ⟨_, rfl⟩
 have hb5 : Below w4.heap.size w4 w5 := by rw [hw5]; exact below_new _ _
 have hz5 : BrkZ w5 P (.bool false) (.slice AR 4 cR) (.slice AT 0 cT) := by rw [hw5, hP]; exact heap_alloc_new w4 _
 have HB4 : Hid (Below w.heap.size w w4) := Lib.hid (below_T HB3.out hf4 HT.out)
 have HB5 : Hid (Below w.heap.size w w5) := Lib.hid (HB4.out.trans (hb5.mono HB4.out.size))
 have HT5 := Lib.hid (ht4.keep hb5)
 have HZ5 := Lib.hid hz5
 have HR5 := Lib.hid (own_next hrow hb5)
 have HLO3 : Hid (w2.heap.size ≤ w3.heap.size) := HLO2
 have HTP : Hid (T < P) := Lib.hid (by rw [hP]; exact ht4.lt)
 have hof := refOf_any ⟨#[93, 94, 93]⟩ w5 (by decide)
 rw [of_ex2] at hof
 clear hp hs1 ht4 hf4 hrow hb5 hz5
 go_wp2_with fail
 rw [← hw5, ← hP]
 clear hw5 hP
 refine hof.mono ?_
 rintro e w6 ⟨v, rfl, ho, hb6⟩
 obtain ⟨Ao, co, rfl⟩ := row_form ho
 have HB6 : Hid (Below w.heap.size w w6) := Lib.hid (HB5.out.trans (hb6.mono HB5.out.size))
 have hz6 : BrkZ w6 P _ _ _ := (hb6.block _ HZ5.out.lt).trans HZ5.out
 have hr6 := own_next HR5.out hb6
 have hp := parseOf_any w6 w T _ w5.heap.size plainLoc Ao co [93, 94, 93] 0 ho HT5.out.lt (HT5.out.keep hb6) HG.out HB6.out HT.out HGT.out (by decide) plain_right plain_rs (by decide)
 rw [brk_ex2] at hp
 unfold BrkTold at hp
 simp only [List.length_cons, List.length_nil, Nat.reduceAdd, Nat.reduceMul] at hp
 have HZ6 := Lib.hid hz6
 have HR6 := Lib.hid hr6
 clear hof ho hb6 hz6 hr6
 go_wp2_with fail
 refine hp.mono ?_
 rintro e w7 ⟨v, rfl, hs2, ht7, hf7⟩
 obtain ⟨BR, dR, BT, dT, rfl, hrow⟩ := hs2.row
 simp only [List.length_cons, List.length_nil, Nat.reduceAdd] at hrow ⊢
 have HB7 : Hid (Below w.heap.size w w7) := Lib.hid (below_T HB6.out hf7 HT.out)
 have hz7 : BrkZ w7 P _ _ _ := (hf7.block P HZ6.out.lt (by have := HTP.out; omega)).trans HZ6.out
 have hr7 := ownsRow_fr HR6.out hf7 (fun g hg e => by have := own_ge HR6.out hg; have := HT2.out.lt; have := HLO3.out; omega)
 obtain ⟨w8, hw8⟩ : ∃ w8, w8 = w7.alloc (.cells #[.bool false, .slice BR 2 dR, .slice BT 0 dT] 34) := ⟨_, rfl⟩
 obtain ⟨Q, hQ⟩ : ∃ Q, Q = w7.heap.size := ⟨_, rfl⟩
 have hb8 : Below w7.heap.size w7 w8 := by rw [hw8]; exact below_new _ _
 have hs8 : w8.heap.size = w7.heap.size + 1 := by rw [hw8]; simp
 have hq8 : BrkZ w8 Q (.bool false) (.slice BR 2 dR) (.slice BT 0 dT) := by rw [hw8, hQ]; exact heap_alloc_new w7 _
 have hz8 : BrkZ w8 P _ _ _ := (hb8.block _ hz7.lt).trans hz7
 obtain ⟨w9, hw9⟩ : ∃ w9, w9 = w8.alloc (.cells #[.int .i32 98] 30) := ⟨_, rfl⟩
 have hb9 : Below w8.heap.size w8 w9 := by rw [hw9]; exact below_new _ _
 have hri9 : RI .i32 w9 (w8.heap.size + 1) (some ⟨w8.heap.size, 0, none⟩) 1 [98] := by rw [hw9]; exact ri_new1 w8 98
 have hs9 : w9.heap.size = w8.heap.size + 1 := by rw [hw9]; simp
 have hlen := lensN_any w9 false (.slice AR 4 cR) [(97, 97), (98, 98), (99, 99), (48, 57)] AT (some ⟨w8.heap.size, 0, none⟩) cT 1 _ _ 98 true (own_next (own_next hr7 hb8) hb9) hri9 (by omega) (by omega) (by decide)
 have HB9 : Hid (Below w.heap.size w w9) := Lib.hid ((HB7.out.trans (hb8.mono HB7.out.size)).trans (hb9.mono (by have := HB7.out.size; omega)))
 have HTU9 := Lib.hid ((ht7.keep hb8).keep hb9)
 have HZ9 : Hid (BrkZ w9 P (.bool false) (.slice AR 4 cR) (.slice AT 0 cT) ∧ BrkZ w9 Q (.bool false) (.slice BR 2 dR) (.slice BT 0 dT)) := Lib.hid ⟨(hb9.block _ hz8.lt).trans hz8, (hb9.block _ hq8.lt).trans hq8⟩
 have HTQ : Hid (T < Q) := Lib.hid (by rw [hQ]; exact ht7.lt)
 obtain ⟨x0, x1, x2⟩ := hz8.cells
 rw [hw8] at x0 x1 x2
 have hsz8 : (w7.alloc (.cells #[.bool false, .slice BR 2 dR, .slice BT 0 dT] 34)).heap.size = w8.heap.size := by rw [hw8]
 have HQ7 : Hid (w7.heap.size = Q) := Lib.hid hQ.symm
 have HW9 : Hid (w9 = (w7.alloc (.cells #[.bool false, .slice BR 2 dR, .slice BT 0 dT] 34)).alloc (.cells #[.int .i32 98] 30)) := Lib.hid (by rw [hw9, hw8])
 have HS8 : Hid (w8.heap.size = w7.heap.size + 1) := Lib.hid hs8
 clear hp hs2 ht7 hf7 hrow hb8 hs8 hq8 hz8 hz7 hr7 hb9 hri9 hs9 hw8 hw9 hQ hsz8
 go_wp2_with fail
 rw [← HW9.out]
 clear HW9
 rw [show w7.heap.size + 1 = w8.heap.size from HS8.out.symm]
 refine hlen.mono ?_
 rintro e w10 ⟨⟨An, cn, rfl, hnc⟩, hb10⟩
 obtain ⟨an, rfl, hge, hc10⟩ := hnc (by trivial)
 have HANX : Hid (an.block ≠ T) := Lib.hid (by have := HTU9.out.lt; omega)
 simp only [show lenN true = 1 from rfl]
 have HB10 : Hid (Below w.heap.size w w10) := Lib.hid (HB9.out.trans (hb10.mono HB9.out.size))
 have HT10 := Lib.hid (HTU9.out.keep hb10)
 have HZ10 : Hid (BrkZ w10 P (.bool false) (.slice AR 4 cR) (.slice AT 0 cT) ∧ BrkZ w10 Q (.bool false) (.slice BR 2 dR) (.slice BT 0 dT)) := Lib.hid ⟨(hb10.block _ HZ9.out.1.lt).trans HZ9.out.1, (hb10.block _ HZ9.out.2.lt).trans HZ9.out.2⟩
 have HC10 := Lib.hid hc10
 have hof := refOf_any ⟨#[97]⟩ w10 (by decide)
 rw [of_ex3] at hof
 clear hlen hnc hb10 hc10 hge x0 x1 x2
 go_wp2_with fail
 refine hof.mono ?_
 rintro e w11 ⟨v, rfl, ho, hb11⟩
 obtain ⟨Ao, co, rfl⟩ := row_form ho
 have HB11 : Hid (Below w.heap.size w w11) := Lib.hid (HB10.out.trans (hb11.mono HB10.out.size))
 have hp := parseOf_any w11 w T _ w10.heap.size plainLoc Ao co [97] 0 ho HT10.out.lt (HT10.out.keep hb11) HG.out HB11.out HT.out HGT.out (by decide) plain_right plain_rs (by decide)
 rw [brk_ex3] at hp
 unfold BrkTold at hp
 simp only [List.length_cons, List.length_nil, Nat.reduceAdd, Nat.reduceMul] at hp
 have HZ11 : Hid (BrkZ w11 P (.bool false) (.slice AR 4 cR) (.slice AT 0 cT) ∧ BrkZ w11 Q (.bool false) (.slice BR 2 dR) (.slice BT 0 dT)) := Lib.hid ⟨(hb11.block _ HZ10.out.1.lt).trans HZ10.out.1, (hb11.block _ HZ10.out.2.lt).trans HZ10.out.2⟩
 have hanl := World.block_lt_of_cell? _ _ HC10.out
 have HC11 : Hid (w11.cell? an = some (.int .i64 1)) := Lib.hid (below_cell hb11 HC10.out)
 clear hof ho hb11 hanl
 go_wp2_with fail
 refine hp.mono ?_
 rintro e w12 ⟨v, rfl, hs3, ht12, hf12⟩
 obtain ⟨CR, eR, CT, eT, rfl, -⟩ := hs3.row
 simp only [List.length_nil] at ht12 ⊢
 have HANT : Hid (an.block ≠ T) := HANX
 have HB12 : Hid (Below w.heap.size w w12) := Lib.hid (below_T HB11.out hf12 HT.out)
 have hz12 : BrkZ w12 P _ _ _ := (hf12.block P HZ11.out.1.lt (by have := HTP.out; omega)).trans HZ11.out.1
 have hq12 : BrkZ w12 Q _ _ _ := (hf12.block Q HZ11.out.2.lt (by have := HTQ.out; omega)).trans HZ11.out.2
 have hc12 : w12.cell? an = some (.int .i64 1) := (World.cell?_of_block (hf12.block an.block (World.block_lt_of_cell? _ _ HC11.out) HANT.out)).trans HC11.out
 obtain ⟨w13, hw13⟩ : ∃ w13, w13 = w12.alloc (.cells #[.bool false, .slice CR 0 eR, .slice CT 0 eT] 34) := ⟨_, rfl⟩
 have hb13 : Below w12.heap.size w12 w13 := by rw [hw13]; exact below_new _ _
 have HB13 : Hid (Below w.heap.size w w13) := Lib.hid (HB12.out.trans (hb13.mono HB12.out.size))
 have p1 : w13.cell? ⟨P, 1, none⟩ = some (.slice AR 4 cR) := below_cell hb13 hz12.cells.2.1
 have q1 : w13.cell? ⟨w7.heap.size, 1, none⟩ = some (.slice BR 2 dR) := by rw [HQ7.out]; exact below_cell hb13 hq12.cells.2.1
 have n1 : w13.cell? an = some (.int .i64 1) := below_cell hb13 hc12
 rw [hw13] at p1 q1 n1
 have hal := alikeT_any w13 T _ 97 65 plainLoc (by decide) (ht12.keep hb13) (by decide) plain_right (by rw [fold_65]; decide) (by rw [fold_65]; decide)
 clear hp hs3 ht12 hf12 hz12 hq12 hc12 hb13
 go_wp2_with fail
 rw [← hw13]
 clear hw13 p1 q1 n1
 refine hal.mono ?_
 rintro e w14 ⟨rfl, -, hf14⟩
 have HE : Hid (Below w.heap.size w w14) := Lib.hid (below_T HB13.out hf14 HT.out)
 have hal2 := alikeN_any w14 97 65 (by decide)
 clear hal hf14
 go_wp2_with fail
 refine hal2.mono ?_
 rintro e w15 ⟨rfl, rfl⟩
 clear hal2
 go_wp2
 go_ret
 exact ⟨rfl, HE.out⟩
end Go.Proofs.YthgiikhkcpbpfaaGreatDoor.C
