/-
  The law BracketNot answers true: a cell is taken by a set, or by what is not it. Condition: two rows of bytes, a cell, a byte; what is asked of the listed variables.
-/
import Derived.Test.YthgiikhkcpbpfaaGreatDoorQBaW
namespace Go.Proofs.YthgiikhkcpbpfaaGreatDoor.C
open Go.RowKit

set_option maxRecDepth 100000 in
set_option maxHeartbeats 400000 in
theorem bracketNotWalk (a0 : Option Addr) (len0 cap0 : Nat) (z0 : List Int) (a1 : Option Addr) (len1 cap1 : Nat) (z1 : List Int) (a2 a3 : Int) (p f : Bool) (w : World) (hG : Gm w) (w0 : L.IsRow .u8 w a0 len0 cap0 z0) (w1 : L.IsRow .u8 w a1 len1 cap1 z1) (_w2 : (Lit.int .i32 a2).wf = true) (w3 : (Lit.int .u8 a3).wf = true) :
  Calls Tryz.prog 6 #[.slice a0 len0 cap0, .slice a1 len1 cap1, .int .i32 a2, .int .u8 a3, .bool p, .bool f] w fun e w' => e = .returned (.bool true) ∧ Below w.heap.size w w' := by
 have ha3 := byte_in w3
 have hby := row_u8 w0
 have hby1 := row_u8 w1
 have hln := row_len w0
 have hln1 := row_len w1
 have hri := RI.of_row w0
 obtain ⟨zs, hzs⟩ : ∃ zs, zs = z0.take len0 := ⟨_, rfl⟩
 rw [← hzs] at hri hby
 obtain ⟨ds, hds⟩ : ∃ ds, ds = z1.take len1 := ⟨_, rfl⟩
 have htb := table_any w hG w.heap.size a1 len1 cap1 ds p (by rw [hds]; exact RI.of_row w1) (Nat.le_refl _) (by rw [hds]; exact hby1) (by omega)
 have HG := Lib.hid hG
 have HY : Hid (Byt zs) := Lib.hid hby
 have HYD : Hid (Byt ds) := Lib.hid (by rw [hds]; exact hby1)
 have HRI := Lib.hid hri
 have HGT : Hid ((5 : Nat) < w.heap.size) := Lib.hid (World.block_lt_of_cell? w _ hG.1)
 have q : ∀ (a : Option Addr) (w : World), (binOp .eql 22 (.pointer a) (.pointer none)).run Tryz.prog w = .ok (.bool a.isNone) w := fun a w => ptr_nilB a w
 clear hG w0 w1 hzs hds hby hby1 hri w3
 go_enter Tryz.func6, Tryz.ntmps6
 go_wp2_with fail
 refine htb.mono ?_
 rintro e w1 ⟨T, u1, u2, u3, u4, rfl, hLR, hT, ht, hb1⟩
 obtain ⟨l, hl⟩ : ∃ l, l = locG p ds := ⟨_, rfl⟩
 have HR : Hid (rightL l = true) := Lib.hid (by rw [hl]; exact locG_right HYD.out)
 have HM : Hid (∀ k ∈ l.cls, k.rs.length ≤ 1000) := Lib.hid (by rw [hl]; exact locG_rs)
 rw [← hl] at ht hLR
 obtain ⟨⟨A1, c1, x1, rfl, -⟩, ⟨A2, c2, rfl, -⟩, ⟨A3, c3, rfl, -⟩, ⟨A4, c4, x4, rfl, -⟩, -⟩ := hLR
 have HT : Hid (w.heap.size ≤ T) := Lib.hid hT
 obtain ⟨w2, hw2⟩ : ∃ w2, w2 = w1.alloc (.cells #[.slice A1 l.cls.length c1, .slice A2 l.up.length c2, .slice A3 l.lo.length c3, .slice A4 l.ord.length c4] 27) := ⟨_, rfl⟩
 have hb2 : Below w1.heap.size w1 w2 := by rw [hw2]; exact below_new _ _
 have HB2 : Hid (Below w.heap.size w w2) := Lib.hid (hb1.trans (hb2.mono hb1.size))
 have HT2 := Lib.hid (ht.keep hb2)
 have htx := textB_any w2 w.heap.size a0 len0 cap0 zs (HRI.out.below HB2.out) HB2.out.size HY.out
 clear htb hT ht hb1 hb2 hl HYD HRI
 go_wp2_with fail
 rw [← hw2]
 clear hw2
 refine htx.mono ?_
 rintro e w3 ⟨v, rfl, ho, hb3⟩
 obtain ⟨Ao, co, rfl⟩ := row_form ho
 have HB3 : Hid (Below w.heap.size w w3) := Lib.hid (HB2.out.trans (hb3.mono HB2.out.size))
 have hp := parseOf_any w3 w T 0 w2.heap.size l Ao co (textB zs) 0 ho HT2.out.lt (HT2.out.keep hb3) HG.out HB3.out HT.out HGT.out (by have := textB_len HY.out; omega) HR.out HM.out (by omega)
 have htl : 0 + 8 * ((textB zs).length + 1) ≤ 2000 := by have := textB_len HY.out; omega
 obtain ⟨⟨no, rs, ts⟩, tw, ef, ep, hs⟩ : ∃ s tw ef ep, brkL l (textB zs) 0 = (s, tw, ef, ep) := ⟨_, _, _, _, rfl⟩
 rw [hs] at hp
 unfold BrkTold at hp
 simp only at hp
 have HTL := Lib.hid htl
 have HS23 : Hid (w2.heap.size ≤ w3.heap.size ∧ T < w2.heap.size) := Lib.hid ⟨hb3.size, HT2.out.lt⟩
 clear htx ho hb3 htl hs HT2
 go_wp2_with fail
 refine hp.mono ?_
 rintro e w4 ⟨v, rfl, hs1, ht4, hf4⟩
 obtain ⟨AR, cR, AT, cT, rfl, hrow⟩ := hs1.row
 simp only at hrow ⊢
 have HB4 : Hid (Below w.heap.size w w4) := Lib.hid (below_T HB3.out hf4 HT.out)
 by_cases he : ef = 0
 ·subst he
  obtain ⟨P, hP⟩ : ∃ P, P = w4.heap.size := ⟨_, rfl⟩
  obtain ⟨w5, hw5⟩ : ∃ w5, w5 = w4.alloc (.cells #[.bool no, .slice AR rs.length cR, .slice none 0 0] 34) := ⟨_, rfl⟩
  have hb5 : Below w4.heap.size w4 w5 := by rw [hw5]; exact below_new _ _
  have hz5 : BrkZ w5 P (.bool no) (.slice AR rs.length cR) (.slice none 0 0) := by rw [hw5, hP]; exact heap_alloc_new w4 _
  have hs5 : w5.heap.size = P + 1 := by rw [hw5, hP]; simp
  obtain ⟨w6, hw6⟩ : ∃ w6, w6 = w5.alloc (.cells #[.bool (!no), .slice AR rs.length cR, .slice none 0 0] 34) := ⟨_, rfl⟩
  have hb6 : Below w5.heap.size w5 w6 := by rw [hw6]; exact below_new _ _
  have hz6 : BrkZ w6 (P + 1) (.bool (!no)) (.slice AR rs.length cR) (.slice none 0 0) := by rw [hw6, ← hs5]; exact heap_alloc_new w5 _
  have HB6 : Hid (Below w.heap.size w w6) := Lib.hid ((HB4.out.trans (hb5.mono HB4.out.size)).trans (hb6.mono (by have := HB4.out.size; have := hb5.size; omega)))
  have HTW : Hid (TwoS w6 l T 2000 P (P + 1) w3.heap.size no (.slice AR rs.length cR) none 0 rs) := Lib.hid ⟨(hb6.block _ hz5.lt).trans hz5, hz6, own_next (own_next hrow hb5) hb6, ((ht4.more HTL.out).keep hb5).keep hb6, by have := HS23.out; omega, by have := ht4.lt; omega, by have := ht4.lt; omega⟩
  have hw : w6 = (w4.alloc (.cells #[.bool no, .slice AR rs.length cR, .slice none 0 0] 34)).alloc (.cells #[.bool (!no), .slice AR rs.length cR, .slice none 0 0] 34) := by rw [hw6, hw5]
  clear hp hs1 ht4 hf4 hrow hb5 hz5 hs5 hb6 hz6 hw5 hw6 HS23 HTL
  go_upto_if 52 with fail
  rw [← hw, ← hP]
  clear hw hP
  go_cut [20] (fun v wx => v = .pointer (byB f T) ∧ wx = w6)
  case first =>
   cases f
   ·go_wp2
    go_meet
    exact ⟨rfl, rfl⟩
   ·go_wp2
    go_meet
    exact ⟨rfl, rfl⟩
  case rest =>
   obtain ⟨rfl, rfl⟩ := hcut
   obtain ⟨A, hA⟩ : ∃ A, A = byB f T := ⟨_, rfl⟩
   rw [← hA]
   have HA := Lib.hid hA
   obtain ⟨⟨p0, p1, p2⟩, q0, q1, q2⟩ := HTW.out.cells
   obtain ⟨w7, hw7⟩ : ∃ w7, w7 = wc.alloc (.cells #[.int .i32 a2] 30) := ⟨_, rfl⟩
   have hb7 : Below wc.heap.size wc w7 := by rw [hw7]; exact below_new _ _
   have hri7 : RI .i32 w7 (wc.heap.size + 1) (some ⟨wc.heap.size, 0, none⟩) 1 [a2] := by rw [hw7]; exact ri_new1 wc _
   have hs7 : w7.heap.size = wc.heap.size + 1 := by rw [hw7]; simp
   have hln1 := (HTW.out.below hb7).lens f no a2 (some ⟨wc.heap.size, 0, none⟩) 1 _ hri7 (by omega) (by omega) (by rintro ad e; injection e with e; subst e; have := HTW.out.t.lt; simp only; omega) (by omega) HR.out
   rw [← hA] at hln1
   have HB7 : Hid (Below w.heap.size w w7) := Lib.hid (HB6.out.trans (hb7.mono HB6.out.size))
   clear hb7 hri7 hs7 hA
   go_wp2_with fail
   rw [← hw7]
   clear hw7 p0 p1 p2 q0 q1 q2
   refine hln1.mono ?_
   rintro e w8 ⟨⟨A8, c8, rfl⟩, htw8, hf8⟩
   have HT8 := Lib.hid htw8
   have HB8 : Hid (Below w.heap.size w w8) := Lib.hid (below_T HB7.out hf8 HT.out)
   obtain ⟨n1, hn1⟩ : ∃ n1, n1 = lenN (takeB l f rs a2 != no) := ⟨_, rfl⟩
   rw [← hn1]
   have HN1 := Lib.hid hn1
   obtain ⟨⟨p0, p1, p2⟩, q0, q1, q2⟩ := HT8.out.cells
   obtain ⟨w9, hw9⟩ : ∃ w9, w9 = w8.alloc (.cells #[.int .i32 a2] 30) := ⟨_, rfl⟩
   have hb9 : Below w8.heap.size w8 w9 := by rw [hw9]; exact below_new _ _
   have hri9 : RI .i32 w9 (w8.heap.size + 1) (some ⟨w8.heap.size, 0, none⟩) 1 [a2] := by rw [hw9]; exact ri_new1 w8 _
   have hs9 : w9.heap.size = w8.heap.size + 1 := by rw [hw9]; simp
   have hln2 := (HT8.out.below hb9).lens f (!no) a2 (some ⟨w8.heap.size, 0, none⟩) 1 _ hri9 (by omega) (by omega) (by rintro ad e; injection e with e; subst e; have := HT8.out.t.lt; simp only; omega) (by omega) HR.out
   rw [← HA.out] at hln2
   have HB9 : Hid (Below w.heap.size w w9) := Lib.hid (HB8.out.trans (hb9.mono HB8.out.size))
   clear hln1 htw8 hf8 hn1 hb9 hri9 hs9 HTW HB6
   go_wp2_with fail
   rw [← hw9]
   clear hw9 p0 p1 p2 q0 q1 q2
   refine hln2.mono ?_
   rintro e w10 ⟨⟨A10, c10, rfl⟩, htw10, hf10⟩
   have HT10 := Lib.hid htw10
   have HB10 : Hid (Below w.heap.size w w10) := Lib.hid (below_T HB9.out hf10 HT.out)
   obtain ⟨n2, hn2⟩ : ∃ n2, n2 = lenN (takeB l f rs a2 != !no) := ⟨_, rfl⟩
   rw [← hn2]
   have hsum : IntKind.i64.wrap ((n1 : Int) + (n2 : Int)) = 1 := by rw [HN1.out, hn2]; exact lenN_two _ _
   have HSUM := Lib.hid hsum
   clear hln2 htw10 hf10 hn2 hsum HN1 HB9 HT8 HB8 HB7
   go_wp2
   have HTD : Hid (TwoS w10.drew l T 2002 P (P + 1) w3.heap.size no (.slice AR rs.length cR) none 0 rs) := Lib.hid (HT10.out.below (below_drew (Below.refl _ _)))
   have HBD : Hid (Below w.heap.size w w10.drew) := Lib.hid (below_drew HB10.out)
   obtain ⟨wd, hwd⟩ : ∃ wd, wd = w10.drew := ⟨_, rfl⟩
   rw [← hwd] at HTD HBD
   obtain ⟨y, hy⟩ : ∃ y, y = 97 + a3 % 8 := ⟨_, rfl⟩
   have hkn := known10_any wd (HG.out.next HBD.out)
   have hsum := HSUM.out
   refine wp_region_held (S := fun W : World => W.cell? ⟨P, 0, none⟩ = some (.bool no) ∧ W.cell? ⟨P, 1, none⟩ = some (.slice AR rs.length cR) ∧ W.cell? ⟨P, 2, none⟩ = some (.slice none 0 0) ∧ W.cell? ⟨P + 1, 0, none⟩ = some (.bool (!no)) ∧ W.cell? ⟨P + 1, 1, none⟩ = some (.slice AR rs.length cR) ∧ W.cell? ⟨P + 1, 2, none⟩ = some (.slice none 0 0)) (by kernel_rfl) ?_
   change wpAnyH _ _ _ _ _ _ _ _ w10.drew
   rw [← hwd, ← hy]
   clear hwd hy HT10 HB10
   have hS1 : (fun W : World => W.cell? ⟨P, 0, none⟩ = some (.bool no) ∧ W.cell? ⟨P, 1, none⟩ = some (.slice AR rs.length cR) ∧ W.cell? ⟨P, 2, none⟩ = some (.slice none 0 0) ∧ W.cell? ⟨P + 1, 0, none⟩ = some (.bool (!no)) ∧ W.cell? ⟨P + 1, 1, none⟩ = some (.slice AR rs.length cR) ∧ W.cell? ⟨P + 1, 2, none⟩ = some (.slice none 0 0)) wd := HTD.out.cells6
   refine wpAnyH_one (i := 0) (by kernel_rfl) rfl (fun K hK => ?_)
   simp only [g4, g6]
   go_simp
   go_at_call 11
   refine hkn.mono ?_
   rintro e w11 ⟨rfl, hb11⟩
   have HT11 := Lib.hid (HTD.out.below hb11)
   have HB11 : Hid (Below w.heap.size w w11) := Lib.hid (HBD.out.trans (hb11.mono HBD.out.size))
   have HTY : Hid (T < w11.heap.size) := Lib.hid HT11.out.t.lt
   have hS2 : (fun W : World => W.cell? ⟨P, 0, none⟩ = some (.bool no) ∧ W.cell? ⟨P, 1, none⟩ = some (.slice AR rs.length cR) ∧ W.cell? ⟨P, 2, none⟩ = some (.slice none 0 0) ∧ W.cell? ⟨P + 1, 0, none⟩ = some (.bool (!no)) ∧ W.cell? ⟨P + 1, 1, none⟩ = some (.slice AR rs.length cR) ∧ W.cell? ⟨P + 1, 2, none⟩ = some (.slice none 0 0)) w11 := HT11.out.cells6
   clear hkn hb11 hS1 HTD HBD
   refine hK.out _ _ hS2 (fun _ => ?_)
   clear hK
   try simp only [Act.put, g1, g2, g3, g4, g5, g6]
   iterate 9 (refine wpH rfl rfl ?_; try simp only [Act.put, g1, g2, g3, g4, g5, g6])
   refine wpHn 11 rfl ?_
   try simp only [Act.put, g1, g2, g3, g4, g5, g6]
   refine wpHn 14 rfl ?_
   try simp only [Act.put, g1, g2, g3, g4, g5, g6]
   refine wpHn 15 rfl ?_
   try simp only [Act.put, g1, g2, g3, g4, g5, g6]
   refine wpHn 17 rfl ?_
   try simp only [Act.put, g1, g2, g3, g4, g5, g6]
   have HY11 := HTY
   refine wpAnyH_two (i := 10) (j := 16) (by kernel_rfl) rfl rfl (fun K hK => ?_) (fun K hK => ?_)
   ·simp only [g4, g5, g6]
    go_simp
    obtain ⟨w12, hw12⟩ : ∃ w12, w12 = w11.alloc (.cells #[.int .i32 y] 30) := ⟨_, rfl⟩
    have hb12 : Below w11.heap.size w11 w12 := by rw [hw12]; exact below_new _ _
    have HRI12 : Hid (RI .i32 w12 w12.heap.size (some ⟨w11.heap.size, 0, none⟩) 1 [y]) := Lib.hid (by rw [hw12]; have := ri_new1 w11 y; simpa using this)
    have HT12 := Lib.hid (HT11.out.below hb12)
    have HB12 : Hid (Below w.heap.size w w12) := Lib.hid (HB11.out.trans (hb12.mono HB11.out.size))
    have HY12 : Hid (T < w12.heap.size) := Lib.hid HT12.out.t.lt
    have hS12 : (fun W : World => W.cell? ⟨P, 0, none⟩ = some (.bool no) ∧ W.cell? ⟨P, 1, none⟩ = some (.slice AR rs.length cR) ∧ W.cell? ⟨P, 2, none⟩ = some (.slice none 0 0) ∧ W.cell? ⟨P + 1, 0, none⟩ = some (.bool (!no)) ∧ W.cell? ⟨P + 1, 1, none⟩ = some (.slice AR rs.length cR) ∧ W.cell? ⟨P + 1, 2, none⟩ = some (.slice none 0 0)) w12 := HT12.out.cells6
    rw [← hw12]
    clear hw12 hb12
    refine hK.out _ _ hS12 (fun _ => ?_)
    clear hK
    try simp only [Act.put, g1, g2, g3, g4, g5, g6]
    refine wpAnyH_two (i := 12) (j := 16) (by kernel_rfl) rfl rfl (fun K hK => ?_) (fun K hK => ?_)
    ·simp only [g4, g5, g6]
     go_simp
     go_at_call 10
     have hl := HT12.out.lens f no y (some ⟨w11.heap.size, 0, none⟩) 1 w12.heap.size HRI12.out (Nat.le_refl _) (by omega) (by rintro ad e; injection e with e; subst e; have := HY11.out; simp only; omega) (by omega) HR.out
     rw [← HA.out] at hl
     refine hl.mono ?_
     rintro e w13 ⟨⟨A13, c13, rfl⟩, ht, hf⟩
     obtain ⟨n3, hn3⟩ : ∃ n3, n3 = lenN (takeB l f rs y != no) := ⟨_, rfl⟩
     rw [← hn3]
     have Hn3 := Lib.hid hn3
     have HT13 := Lib.hid ht
     have HB13 : Hid (Below w.heap.size w w13) := Lib.hid (below_T HB12.out hf HT.out)
     have HY13 : Hid (T < w13.heap.size) := Lib.hid HT13.out.t.lt
     have hS13 : (fun W : World => W.cell? ⟨P, 0, none⟩ = some (.bool no) ∧ W.cell? ⟨P, 1, none⟩ = some (.slice AR rs.length cR) ∧ W.cell? ⟨P, 2, none⟩ = some (.slice none 0 0) ∧ W.cell? ⟨P + 1, 0, none⟩ = some (.bool (!no)) ∧ W.cell? ⟨P + 1, 1, none⟩ = some (.slice AR rs.length cR) ∧ W.cell? ⟨P + 1, 2, none⟩ = some (.slice none 0 0)) w13 := HT13.out.cells6
     clear hl ht hf hn3
     refine hK.out _ _ hS13 (fun _ => ?_)
     clear hK
     try simp only [Act.put, g1, g2, g3, g4, g5, g6]
     refine wpHn 13 rfl ?_
     try simp only [Act.put, g1, g2, g3, g4, g5, g6]
     refine wpAnyH_one (i := 16) (by kernel_rfl) rfl (fun K hK => ?_)
     simp only [g4, g5, g6]
     go_simp
     obtain ⟨w14, hw14⟩ : ∃ w14, w14 = w13.alloc (.cells #[.int .i32 y] 30) := ⟨_, rfl⟩
     have hb14 : Below w13.heap.size w13 w14 := by rw [hw14]; exact below_new _ _
     have HRI14 : Hid (RI .i32 w14 w14.heap.size (some ⟨w13.heap.size, 0, none⟩) 1 [y]) := Lib.hid (by rw [hw14]; have := ri_new1 w13 y; simpa using this)
     have HT14 := Lib.hid (HT13.out.below hb14)
     have HB14 : Hid (Below w.heap.size w w14) := Lib.hid (HB13.out.trans (hb14.mono HB13.out.size))
     have HY14 : Hid (T < w14.heap.size) := Lib.hid HT14.out.t.lt
     have hS14 : (fun W : World => W.cell? ⟨P, 0, none⟩ = some (.bool no) ∧ W.cell? ⟨P, 1, none⟩ = some (.slice AR rs.length cR) ∧ W.cell? ⟨P, 2, none⟩ = some (.slice none 0 0) ∧ W.cell? ⟨P + 1, 0, none⟩ = some (.bool (!no)) ∧ W.cell? ⟨P + 1, 1, none⟩ = some (.slice AR rs.length cR) ∧ W.cell? ⟨P + 1, 2, none⟩ = some (.slice none 0 0)) w14 := HT14.out.cells6
     rw [← hw14]
     clear hw14 hb14
     refine hK.out _ _ hS14 (fun _ => ?_)
     clear hK
     try simp only [Act.put, g1, g2, g3, g4, g5, g6]
     refine wpAnyH_one (i := 18) (by kernel_rfl) rfl (fun K hK => ?_)
     simp only [g4, g5, g6]
     go_simp
     go_at_call 10
     have hl := HT14.out.lens f (!no) y (some ⟨w13.heap.size, 0, none⟩) 1 w14.heap.size HRI14.out (Nat.le_refl _) (by omega) (by rintro ad e; injection e with e; subst e; have := HY13.out; simp only; omega) (by omega) HR.out
     rw [← HA.out] at hl
     refine hl.mono ?_
     rintro e w15 ⟨⟨A15, c15, rfl⟩, ht, hf⟩
     obtain ⟨n4, hn4⟩ : ∃ n4, n4 = lenN (takeB l f rs y != (!no)) := ⟨_, rfl⟩
     rw [← hn4]
     have Hn4 := Lib.hid hn4
     have HT15 := Lib.hid ht
     have HB15 : Hid (Below w.heap.size w w15) := Lib.hid (below_T HB14.out hf HT.out)
     have HY15 : Hid (T < w15.heap.size) := Lib.hid HT15.out.t.lt
     have hS15 : (fun W : World => W.cell? ⟨P, 0, none⟩ = some (.bool no) ∧ W.cell? ⟨P, 1, none⟩ = some (.slice AR rs.length cR) ∧ W.cell? ⟨P, 2, none⟩ = some (.slice none 0 0) ∧ W.cell? ⟨P + 1, 0, none⟩ = some (.bool (!no)) ∧ W.cell? ⟨P + 1, 1, none⟩ = some (.slice AR rs.length cR) ∧ W.cell? ⟨P + 1, 2, none⟩ = some (.slice none 0 0)) w15 := HT15.out.cells6
     clear hl ht hf hn4
     refine hK.out _ _ hS15 (fun _ => ?_)
     clear hK
     try simp only [Act.put, g1, g2, g3, g4, g5, g6]
     have hsm : IntKind.i64.wrap ((n3 : Int) + (n4 : Int)) = 1 := by rw [Hn3.out, Hn4.out]; exact lenN_two _ _
     iterate 5 (refine wpH rfl rfl ?_; try simp only [Act.put, g1, g2, g3, g4, g5, g6])
     refine wpAnyH_done (by kernel_rfl) ?_ _
     clear hsm
     go_wp2
     go_ret
     exact ⟨rfl, HB15.out⟩
    ·simp only [g4, g5, g6]
     go_simp
     obtain ⟨w13, hw13⟩ : ∃ w13, w13 = w12.alloc (.cells #[.int .i32 y] 30) := ⟨_, rfl⟩
     have hb13 : Below w12.heap.size w12 w13 := by rw [hw13]; exact below_new _ _
     have HRI13 : Hid (RI .i32 w13 w13.heap.size (some ⟨w12.heap.size, 0, none⟩) 1 [y]) := Lib.hid (by rw [hw13]; have := ri_new1 w12 y; simpa using this)
     have HRI1312 := Lib.hid ((HRI12.out.below hb13).more hb13.size)
     have HT13 := Lib.hid (HT12.out.below hb13)
     have HB13 : Hid (Below w.heap.size w w13) := Lib.hid (HB12.out.trans (hb13.mono HB12.out.size))
     have HY13 : Hid (T < w13.heap.size) := Lib.hid HT13.out.t.lt
     have hS13 : (fun W : World => W.cell? ⟨P, 0, none⟩ = some (.bool no) ∧ W.cell? ⟨P, 1, none⟩ = some (.slice AR rs.length cR) ∧ W.cell? ⟨P, 2, none⟩ = some (.slice none 0 0) ∧ W.cell? ⟨P + 1, 0, none⟩ = some (.bool (!no)) ∧ W.cell? ⟨P + 1, 1, none⟩ = some (.slice AR rs.length cR) ∧ W.cell? ⟨P + 1, 2, none⟩ = some (.slice none 0 0)) w13 := HT13.out.cells6
     rw [← hw13]
     clear hw13 hb13
     refine hK.out _ _ hS13 (fun _ => ?_)
     clear hK
     try simp only [Act.put, g1, g2, g3, g4, g5, g6]
     refine wpAnyH_one (i := 12) (by kernel_rfl) rfl (fun K hK => ?_)
     simp only [g4, g5, g6]
     go_simp
     go_at_call 10
     have hl := HT13.out.lens f no y (some ⟨w11.heap.size, 0, none⟩) 1 w13.heap.size HRI1312.out (Nat.le_refl _) (by omega) (by rintro ad e; injection e with e; subst e; have := HY11.out; simp only; omega) (by omega) HR.out
     rw [← HA.out] at hl
     refine hl.mono ?_
     rintro e w14 ⟨⟨A14, c14, rfl⟩, ht, hf⟩
     obtain ⟨n3, hn3⟩ : ∃ n3, n3 = lenN (takeB l f rs y != no) := ⟨_, rfl⟩
     rw [← hn3]
     have Hn3 := Lib.hid hn3
     have HT14 := Lib.hid ht
     have HRI14HRI13 : Hid (RI .i32 w14 w14.heap.size (some ⟨w12.heap.size, 0, none⟩) 1 [y]) := Lib.hid ((HRI13.out.fr hf (Nat.le_refl _) (fun _ ad ha hx => by injection ha with ha; subst ha; have := HY12.out; simp only at hx; omega)).more hf.size)
     have HB14 : Hid (Below w.heap.size w w14) := Lib.hid (below_T HB13.out hf HT.out)
     have HY14 : Hid (T < w14.heap.size) := Lib.hid HT14.out.t.lt
     have hS14 : (fun W : World => W.cell? ⟨P, 0, none⟩ = some (.bool no) ∧ W.cell? ⟨P, 1, none⟩ = some (.slice AR rs.length cR) ∧ W.cell? ⟨P, 2, none⟩ = some (.slice none 0 0) ∧ W.cell? ⟨P + 1, 0, none⟩ = some (.bool (!no)) ∧ W.cell? ⟨P + 1, 1, none⟩ = some (.slice AR rs.length cR) ∧ W.cell? ⟨P + 1, 2, none⟩ = some (.slice none 0 0)) w14 := HT14.out.cells6
     clear hl ht hf hn3
     refine hK.out _ _ hS14 (fun _ => ?_)
     clear hK
     try simp only [Act.put, g1, g2, g3, g4, g5, g6]
     refine wpHn 13 rfl ?_
     try simp only [Act.put, g1, g2, g3, g4, g5, g6]
     refine wpAnyH_one (i := 18) (by kernel_rfl) rfl (fun K hK => ?_)
     simp only [g4, g5, g6]
     go_simp
     go_at_call 10
     have hl := HT14.out.lens f (!no) y (some ⟨w12.heap.size, 0, none⟩) 1 w14.heap.size HRI14HRI13.out (Nat.le_refl _) (by omega) (by rintro ad e; injection e with e; subst e; have := HY12.out; simp only; omega) (by omega) HR.out
     rw [← HA.out] at hl
     refine hl.mono ?_
     rintro e w15 ⟨⟨A15, c15, rfl⟩, ht, hf⟩
     obtain ⟨n4, hn4⟩ : ∃ n4, n4 = lenN (takeB l f rs y != (!no)) := ⟨_, rfl⟩
     rw [← hn4]
     have Hn4 := Lib.hid hn4
     have HT15 := Lib.hid ht
     have HB15 : Hid (Below w.heap.size w w15) := Lib.hid (below_T HB14.out hf HT.out)
     have HY15 : Hid (T < w15.heap.size) := Lib.hid HT15.out.t.lt
     have hS15 : (fun W : World => W.cell? ⟨P, 0, none⟩ = some (.bool no) ∧ W.cell? ⟨P, 1, none⟩ = some (.slice AR rs.length cR) ∧ W.cell? ⟨P, 2, none⟩ = some (.slice none 0 0) ∧ W.cell? ⟨P + 1, 0, none⟩ = some (.bool (!no)) ∧ W.cell? ⟨P + 1, 1, none⟩ = some (.slice AR rs.length cR) ∧ W.cell? ⟨P + 1, 2, none⟩ = some (.slice none 0 0)) w15 := HT15.out.cells6
     clear hl ht hf hn4
     refine hK.out _ _ hS15 (fun _ => ?_)
     clear hK
     try simp only [Act.put, g1, g2, g3, g4, g5, g6]
     have hsm : IntKind.i64.wrap ((n3 : Int) + (n4 : Int)) = 1 := by rw [Hn3.out, Hn4.out]; exact lenN_two _ _
     iterate 5 (refine wpH rfl rfl ?_; try simp only [Act.put, g1, g2, g3, g4, g5, g6])
     refine wpAnyH_done (by kernel_rfl) ?_ _
     clear hsm
     go_wp2
     go_ret
     exact ⟨rfl, HB15.out⟩
   ·simp only [g4, g5, g6]
    go_simp
    obtain ⟨w12, hw12⟩ : ∃ w12, w12 = w11.alloc (.cells #[.int .i32 y] 30) := ⟨_, rfl⟩
    have hb12 : Below w11.heap.size w11 w12 := by rw [hw12]; exact below_new _ _
    have HRI12 : Hid (RI .i32 w12 w12.heap.size (some ⟨w11.heap.size, 0, none⟩) 1 [y]) := Lib.hid (by rw [hw12]; have := ri_new1 w11 y; simpa using this)
    have HT12 := Lib.hid (HT11.out.below hb12)
    have HB12 : Hid (Below w.heap.size w w12) := Lib.hid (HB11.out.trans (hb12.mono HB11.out.size))
    have HY12 : Hid (T < w12.heap.size) := Lib.hid HT12.out.t.lt
    have hS12 : (fun W : World => W.cell? ⟨P, 0, none⟩ = some (.bool no) ∧ W.cell? ⟨P, 1, none⟩ = some (.slice AR rs.length cR) ∧ W.cell? ⟨P, 2, none⟩ = some (.slice none 0 0) ∧ W.cell? ⟨P + 1, 0, none⟩ = some (.bool (!no)) ∧ W.cell? ⟨P + 1, 1, none⟩ = some (.slice AR rs.length cR) ∧ W.cell? ⟨P + 1, 2, none⟩ = some (.slice none 0 0)) w12 := HT12.out.cells6
    rw [← hw12]
    clear hw12 hb12
    refine hK.out _ _ hS12 (fun _ => ?_)
    clear hK
    try simp only [Act.put, g1, g2, g3, g4, g5, g6]
    refine wpAnyH_one (i := 10) (by kernel_rfl) rfl (fun K hK => ?_)
    simp only [g4, g5, g6]
    go_simp
    obtain ⟨w13, hw13⟩ : ∃ w13, w13 = w12.alloc (.cells #[.int .i32 y] 30) := ⟨_, rfl⟩
    have hb13 : Below w12.heap.size w12 w13 := by rw [hw13]; exact below_new _ _
    have HRI13 : Hid (RI .i32 w13 w13.heap.size (some ⟨w12.heap.size, 0, none⟩) 1 [y]) := Lib.hid (by rw [hw13]; have := ri_new1 w12 y; simpa using this)
    have HRI1312 := Lib.hid ((HRI12.out.below hb13).more hb13.size)
    have HT13 := Lib.hid (HT12.out.below hb13)
    have HB13 : Hid (Below w.heap.size w w13) := Lib.hid (HB12.out.trans (hb13.mono HB12.out.size))
    have HY13 : Hid (T < w13.heap.size) := Lib.hid HT13.out.t.lt
    have hS13 : (fun W : World => W.cell? ⟨P, 0, none⟩ = some (.bool no) ∧ W.cell? ⟨P, 1, none⟩ = some (.slice AR rs.length cR) ∧ W.cell? ⟨P, 2, none⟩ = some (.slice none 0 0) ∧ W.cell? ⟨P + 1, 0, none⟩ = some (.bool (!no)) ∧ W.cell? ⟨P + 1, 1, none⟩ = some (.slice AR rs.length cR) ∧ W.cell? ⟨P + 1, 2, none⟩ = some (.slice none 0 0)) w13 := HT13.out.cells6
    rw [← hw13]
    clear hw13 hb13
    refine hK.out _ _ hS13 (fun _ => ?_)
    clear hK
    try simp only [Act.put, g1, g2, g3, g4, g5, g6]
    refine wpAnyH_one (i := 12) (by kernel_rfl) rfl (fun K hK => ?_)
    simp only [g4, g5, g6]
    go_simp
    go_at_call 10
    have hl := HT13.out.lens f no y (some ⟨w12.heap.size, 0, none⟩) 1 w13.heap.size HRI13.out (Nat.le_refl _) (by omega) (by rintro ad e; injection e with e; subst e; have := HY12.out; simp only; omega) (by omega) HR.out
    rw [← HA.out] at hl
    refine hl.mono ?_
    rintro e w14 ⟨⟨A14, c14, rfl⟩, ht, hf⟩
    obtain ⟨n3, hn3⟩ : ∃ n3, n3 = lenN (takeB l f rs y != no) := ⟨_, rfl⟩
    rw [← hn3]
    have Hn3 := Lib.hid hn3
    have HT14 := Lib.hid ht
    have HRI14HRI1312 : Hid (RI .i32 w14 w14.heap.size (some ⟨w11.heap.size, 0, none⟩) 1 [y]) := Lib.hid ((HRI1312.out.fr hf (Nat.le_refl _) (fun _ ad ha hx => by injection ha with ha; subst ha; have := HY11.out; simp only at hx; omega)).more hf.size)
    have HB14 : Hid (Below w.heap.size w w14) := Lib.hid (below_T HB13.out hf HT.out)
    have HY14 : Hid (T < w14.heap.size) := Lib.hid HT14.out.t.lt
    have hS14 : (fun W : World => W.cell? ⟨P, 0, none⟩ = some (.bool no) ∧ W.cell? ⟨P, 1, none⟩ = some (.slice AR rs.length cR) ∧ W.cell? ⟨P, 2, none⟩ = some (.slice none 0 0) ∧ W.cell? ⟨P + 1, 0, none⟩ = some (.bool (!no)) ∧ W.cell? ⟨P + 1, 1, none⟩ = some (.slice AR rs.length cR) ∧ W.cell? ⟨P + 1, 2, none⟩ = some (.slice none 0 0)) w14 := HT14.out.cells6
    clear hl ht hf hn3
    refine hK.out _ _ hS14 (fun _ => ?_)
    clear hK
    try simp only [Act.put, g1, g2, g3, g4, g5, g6]
    refine wpHn 13 rfl ?_
    try simp only [Act.put, g1, g2, g3, g4, g5, g6]
    refine wpAnyH_one (i := 18) (by kernel_rfl) rfl (fun K hK => ?_)
    simp only [g4, g5, g6]
    go_simp
    go_at_call 10
    have hl := HT14.out.lens f (!no) y (some ⟨w11.heap.size, 0, none⟩) 1 w14.heap.size HRI14HRI1312.out (Nat.le_refl _) (by omega) (by rintro ad e; injection e with e; subst e; have := HY11.out; simp only; omega) (by omega) HR.out
    rw [← HA.out] at hl
    refine hl.mono ?_
    rintro e w15 ⟨⟨A15, c15, rfl⟩, ht, hf⟩
    obtain ⟨n4, hn4⟩ : ∃ n4, n4 = lenN (takeB l f rs y != (!no)) := ⟨_, rfl⟩
    rw [← hn4]
    have Hn4 := Lib.hid hn4
    have HT15 := Lib.hid ht
    have HB15 : Hid (Below w.heap.size w w15) := Lib.hid (below_T HB14.out hf HT.out)
    have HY15 : Hid (T < w15.heap.size) := Lib.hid HT15.out.t.lt
    have hS15 : (fun W : World => W.cell? ⟨P, 0, none⟩ = some (.bool no) ∧ W.cell? ⟨P, 1, none⟩ = some (.slice AR rs.length cR) ∧ W.cell? ⟨P, 2, none⟩ = some (.slice none 0 0) ∧ W.cell? ⟨P + 1, 0, none⟩ = some (.bool (!no)) ∧ W.cell? ⟨P + 1, 1, none⟩ = some (.slice AR rs.length cR) ∧ W.cell? ⟨P + 1, 2, none⟩ = some (.slice none 0 0)) w15 := HT15.out.cells6
    clear hl ht hf hn4
    refine hK.out _ _ hS15 (fun _ => ?_)
    clear hK
    try simp only [Act.put, g1, g2, g3, g4, g5, g6]
    have hsm : IntKind.i64.wrap ((n3 : Int) + (n4 : Int)) = 1 := by rw [Hn3.out, Hn4.out]; exact lenN_two _ _
    iterate 5 (refine wpH rfl rfl ?_; try simp only [Act.put, g1, g2, g3, g4, g5, g6])
    refine wpAnyH_done (by kernel_rfl) ?_ _
    clear hsm
    go_wp2
    go_ret
    exact ⟨rfl, HB15.out⟩
 ·obtain ⟨w5, hw5⟩ : ∃ w5, w5 = w4.alloc (.cells #[.bool no, .slice AR rs.length cR, .slice AT ts.length cT] 34) := ⟨_, rfl⟩
  have hb5 : Below w4.heap.size w4 w5 := by rw [hw5]; exact below_new _ _
  have HB5 : Hid (Below w.heap.size w w5) := Lib.hid (HB4.out.trans (hb5.mono HB4.out.size))
  have hkn := known10_any w5 (HG.out.next HB5.out)
  have he2 : ((ef : Int) == 0) = false := by simpa using he
  clear hp hs1 ht4 hf4 hrow hb5
  go_wp2_with fail
  rw [← hw5]
  clear hw5
  refine hkn.mono ?_
  rintro e w6 ⟨rfl, hb6⟩
  have HE : Hid (Below w.heap.size w w6) := Lib.hid (HB5.out.trans (hb6.mono HB5.out.size))
  clear hkn hb6
  go_wp2
  go_ret
  exact ⟨rfl, HE.out⟩
end Go.Proofs.YthgiikhkcpbpfaaGreatDoor.C
