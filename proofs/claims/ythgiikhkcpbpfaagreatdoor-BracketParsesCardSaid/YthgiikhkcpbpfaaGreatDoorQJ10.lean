/-
  Joined: QBbL, QBbM, QBbN, QBbO, QWBracketParses. The document's own item. Condition: no more than 1000 cells, 1000 ranges of a class, 1000000000 of each in the set; a right locale. | The document's own Parse of a bracket. Condition: no more than 1000 cells, 1000 ranges of a class; a right locale. | The document's own SameSet: sets that read alike are. Condition: no more than 2000000000 of each. | The statements' tells: the program's Parse and the document's are alike. Condition: no more than 1000 cells, 1000 ranges of a class; a right locale; a table that was not asked too often; what is asked of the listed variables. | The law BracketParses answers true: Parse of any cells, from any place, and of what choices say, is the document's. Condition: a row of cells, a place, two rows of bytes, a bool, a byte; what is asked of the listed variables.
-/
import Derived.Test.YthgiikhkcpbpfaaGreatDoorQJ9
import Derived.Test.YthgiikhkcpbpfaaGreatDoorQBaK
import Derived.Test.YthgiikhkcpbpfaaGreatDoorB17
import Derived.Test.YthgiikhkcpbpfaaGreatDoorB24
import Derived.Test.YthgiikhkcpbpfaaGreatDoorB27
import Derived.Test.YthgiikhkcpbpfaaGreatDoorQBaV
namespace Go.Proofs.YthgiikhkcpbpfaaGreatDoor.C
open Go.RowKit

theorem elemB10_len {L : Loc} {l : List Int} {k : Nat} {cs : List Int} {k' : Nat} (h : elemB10 L l k = .ok (cs, k')) (hR : rightL L = true) (hl : l.length ≤ 1000) : cs.length ≤ 1000 := by
 unfold elemB10 at h
 split at h
 ·cases hu : upToL l (k + 2) 46 with
  | error e => unfold namedB at h; rw [hu] at h; cases h
  | ok p =>
   obtain ⟨c0, k0⟩ := p
   obtain ⟨h1, h2, _, h4⟩ := upToL_ok hu
   by_cases h0 : c0 = []
   ·unfold namedB at h
    rw [hu] at h
    simp only [if_pos h0] at h
    cases h
   ·rw [namedB_C hu h0] at h
    cases hn : namedC L c0 k with
    | error e => rw [hn] at h; cases h
    | ok c2 =>
     rw [hn] at h
     injection h with h
     injection h with h _
     subst h
     exact namedC_len hn hR (by omega)
 ·split at h
  ·cases h
  ·injection h with h
   injection h with h _
   subst h
   simp
theorem atS_sign {l : List Int} {k : Nat} {c : Int} : atS l k [c] = (l[k]? == some c) := by
 cases hu : l[k]? with
 | none =>
  have : atS l k [c] = false := by
   rw [Bool.eq_false_iff]
   intro h
   have h1 := atS_len h (by simp)
   simp at h1
   rw [List.getElem?_eq_none_iff] at hu
   omega
  rw [this]
  rfl
 | some u =>
  by_cases h : u = c
  ·subst h; rw [atS_yes hu]; simp
  ·rw [atS_one hu [] (fun e => h e.symm)]; simp [h]
set_option maxRecDepth 100000 in
set_option maxHeartbeats 16000000 in
theorem item10_any (w : World) (B : Nat) (v1 v2 v3 v4 : Value) (L : Loc) (Al : Option Addr) (n cl k : Nat) (l : List Int) (s : BSet) (AR : Option Addr) (cR : Nat) (AT : Option Addr) (cT : Nat)
  (hL : LocR w B v1 v2 v3 v4 L) (hB : B ≤ w.heap.size) (hR : rightL L = true) (hc5 : ∀ c ∈ L.cls, c.rs.length ≤ 1000) (hs : SetW w AR AT s) (hl : RI .i32 w B Al n l) (hk : k < n) (hn : n ≤ 1000) (hcl : n ≤ cl) (h1 : s.rs.length ≤ 1000000000) (h2 : s.ts.length ≤ 1000000000) :
  Calls Tryz.prog 54 #[rvV Al n cl k s.no AR s.rs.length cR AT s.ts.length cT 0 0, .agg #[v1, v2, v3, v4]] w fun e w' => ∃ v, e = .returned v ∧ RTold w w' Al n cl AT (itemB L l s k) v := by
 unfold rvV
 obtain ⟨S, hS⟩ : ∃ S, w.heap.size = S := ⟨_, rfl⟩
 obtain ⟨W, hW⟩ : ∃ W, W = ((w.alloc (.cells (rvC Al n cl k s AR cR AT cT) 144)).alloc (.cells #[v1, v2, v3, v4] 27)).alloc (.cells #[.slice none 0 0, .int .i64 0, .bool false, .slice none 0 0, .slice none 0 0, .int .i64 0, .int .i64 0] 144) := ⟨_, rfl⟩
 have H := Lib.hid (RSt.start (cl := cl) (k := k) (cR := cR) (cT := cT) hS hW (by omega) hs hl hL)
 have HSS := Lib.hid hS
 have HLEN := Lib.hid hl.len
 have HC5 := Lib.hid hc5
 clear hL hs hl hc5
 obtain ⟨b1, hb1⟩ : ∃ b1, b1 = atS l k [91] := ⟨_, rfl⟩
 obtain ⟨b2, hb2⟩ : ∃ b2, b2 = atS l (k + 1) [58] := ⟨_, rfl⟩
 obtain ⟨b3, hb3⟩ : ∃ b3, b3 = atS l (k + 1) [61] := ⟨_, rfl⟩
 have hst1 := stands10_any W B Al n cl l k k 91 H.out.l rfl
 have hst2 := stands10_any W B Al n cl l (k + 1) ((k : Int) + 1) 58 H.out.l (by omega)
 have hst3 := stands10_any W B Al n cl l (k + 1) ((k : Int) + 1) 61 H.out.l (by omega)
 rw [← hb1] at hst1
 rw [← hb2] at hst2
 rw [← hb3] at hst3
 have HBB : Hid (atS l k [91, 58] = (b1 && b2) ∧ atS l k [91, 61] = (b1 && b3)) := Lib.hid (by rw [atS_two, atS_two, hb1, hb2, hb3]; exact ⟨rfl, rfl⟩)
 clear hb1 hb2 hb3
 go_enter Tryz.func54, Tryz.ntmps54
 unfold rvC at hW
 go_upto_region 1 with fail
 rw [← hW]
 clear hW hS
 obtain ⟨p0, p1, p2, p3, p4, p5, p6⟩ := H.out.r1.seven
 by_cases hA : b1 = true ∧ b2 = true
 ·obtain ⟨rfl, rfl⟩ := hA
  have hcl1 := class10_any W B v1 v2 v3 v4 L Al n cl k l s AR cR AT cT H.out.loc (by have := H.out.sz; have := H.out.hB; omega) HC5.out H.out.sw H.out.l hn hcl h1 (by rw [HBB.out.1]; rfl)
  unfold rvV at hcl1
  obtain ⟨d0, d1, d2, d3⟩ := H.out.r2.four
  go_upto_region 2 with (first | ((with_reducible refine hst1.mono ?_); rintro e w' ⟨rfl, rfl⟩) | ((with_reducible refine hst2.mono ?_); rintro e w' ⟨rfl, rfl⟩) | ((with_reducible refine hst3.mono ?_); rintro e w' ⟨rfl, rfl⟩))
  go_wp2_with fail
  refine hcl1.mono ?_
  clear hcl1 hst1 hst2 hst3
  rintro e w2 ⟨v, rfl, hb2, s', AR', cR', AT', cT', k', E, P, rfl, hs2, hno2, hcase⟩
  have H2 := Lib.hid (H.out.next hb2)
  have HX2 := Lib.hid (And.intro hs2 (And.intro hno2 hcase))
  clear hb2 hs2 hno2 hcase p0 p1 p2 p3 p4 p5 p6 d0 d1 d2 d3
  obtain ⟨z0, z1, z2, z3, z4, z5, z6⟩ := H2.out.r3.seven
  obtain ⟨y0, y1, y2, y3, y4, y5, y6⟩ := H2.out.r3.fz7
  try simp only [rvV]
  go_wp2
  obtain ⟨hs9, hb9, hr9, -⟩ := H2.out.end_ HX2.out.1 (H.out.new HX2.out.2.1) (.slice Al n cl) (.int .i64 k') (.bool s'.no) (.slice AR' s'.rs.length cR') (.slice AT' s'.ts.length cT') (.int .i64 E) (.int .i64 P) _ rfl
  obtain ⟨e0, e1, e2, e3, e4, e5, e6⟩ := hr9.seven
  unfold s7 at e0 e1 e2 e3 e4 e5 e6 hs9 hb9
  refine bodyPost_ret (v := .agg #[.slice Al n cl, .int .i64 k', .bool s'.no, .slice AR' s'.rs.length cR', .slice AT' s'.ts.length cT', .int .i64 E, .int .i64 P]) (by simp [results, Tryz.results54, go_sem, e0, e1, e2, e3, e4, e5, e6]) rfl ?_
  exact ⟨_, rfl, by rw [HSS.out]; exact hb9, s', AR', cR', AT', cT', k', E, P, rfl, hs9, (NewOr.refl w AT).trans HX2.out.2.1 (by have := H.out.sz; have := HSS.out; omega), HX2.out.2.2⟩

 ·have hf2 : (b1 && b2) = false := by cases b1 <;> cases b2 <;> first | rfl | exact absurd ⟨rfl, rfl⟩ hA
  by_cases hA2 : b1 = true ∧ b3 = true
  ·obtain ⟨rfl, rfl⟩ := hA2
   obtain rfl : b2 = false := by simpa using hf2
   have hal := alike10_any W B v1 v2 v3 v4 L Al n cl k l s AR cR AT cT H.out.loc (by have := H.out.sz; have := H.out.hB; omega) hR H.out.sw H.out.l hn hcl h1 h2 (by rw [HBB.out.1]; rfl) (by rw [HBB.out.2]; rfl)
   unfold rvV at hal
   obtain ⟨d0, d1, d2, d3⟩ := H.out.r2.four
   clear hA hf2
   go_upto_region 4 with (first | ((with_reducible refine hst1.mono ?_); rintro e w' ⟨rfl, rfl⟩) | ((with_reducible refine hst2.mono ?_); rintro e w' ⟨rfl, rfl⟩) | ((with_reducible refine hst3.mono ?_); rintro e w' ⟨rfl, rfl⟩))
   go_wp2_with fail
   refine hal.mono ?_
   clear hal hst1 hst2 hst3
   rintro e w2 ⟨v, rfl, hb2, s', AR', cR', AT', cT', k', E, P, rfl, hs2, hno2, hcase⟩
   have H2 := Lib.hid (H.out.next hb2)
   have HX2 := Lib.hid (And.intro hs2 (And.intro hno2 hcase))
   clear hb2 hs2 hno2 hcase p0 p1 p2 p3 p4 p5 p6 d0 d1 d2 d3
   obtain ⟨z0, z1, z2, z3, z4, z5, z6⟩ := H2.out.r3.seven
   obtain ⟨y0, y1, y2, y3, y4, y5, y6⟩ := H2.out.r3.fz7
   try simp only [rvV]
   go_wp2
   obtain ⟨hs9, hb9, hr9, -⟩ := H2.out.end_ HX2.out.1 (H.out.new HX2.out.2.1) (.slice Al n cl) (.int .i64 k') (.bool s'.no) (.slice AR' s'.rs.length cR') (.slice AT' s'.ts.length cT') (.int .i64 E) (.int .i64 P) _ rfl
   obtain ⟨e0, e1, e2, e3, e4, e5, e6⟩ := hr9.seven
   unfold s7 at e0 e1 e2 e3 e4 e5 e6 hs9 hb9
   refine bodyPost_ret (v := .agg #[.slice Al n cl, .int .i64 k', .bool s'.no, .slice AR' s'.rs.length cR', .slice AT' s'.ts.length cT', .int .i64 E, .int .i64 P]) (by simp [results, Tryz.results54, go_sem, e0, e1, e2, e3, e4, e5, e6]) rfl ?_
   exact ⟨_, rfl, by rw [HSS.out]; exact hb9, s', AR', cR', AT', cT', k', E, P, rfl, hs9, (NewOr.refl w AT).trans HX2.out.2.1 (by have := H.out.sz; have := HSS.out; omega), HX2.out.2.2⟩

  ·have hf3 : (b1 && b3) = false := by cases b1 <;> cases b3 <;> first | rfl | exact absurd ⟨rfl, rfl⟩ hA2
   have HV : Hid (itemB L l s k = elemsB L l s k) := Lib.hid (item_elems (by rw [HBB.out.1, hf2]) (by rw [HBB.out.2, hf3]))
   have h5 := ord500 hR
   have hel := element10_any W B v1 v2 v3 v4 L Al n cl k l s AR cR AT cT H.out.loc (by have := H.out.sz; have := H.out.hB; omega) h5 H.out.sw H.out.l hk hn hcl
   unfold rvV at hel
   obtain ⟨d0, d1, d2, d3⟩ := H.out.r2.four
   have htwo : b1 = false ∨ (b1 = true ∧ b2 = false ∧ b3 = false) := by cases b1 <;> cases b2 <;> cases b3 <;> simp_all
   clear hA hA2 hf2 hf3
   rcases htwo with rfl | ⟨rfl, rfl, rfl⟩
   all_goals
    go_upto_region 5 with (first | ((with_reducible refine hst1.mono ?_); rintro e w' ⟨rfl, rfl⟩) | ((with_reducible refine hst2.mono ?_); rintro e w' ⟨rfl, rfl⟩) | ((with_reducible refine hst3.mono ?_); rintro e w' ⟨rfl, rfl⟩))
    go_wp2_with fail
    refine hel.mono ?_
    clear hel hst1 hst2 hst3
    rintro e w4 ⟨hb4, A1, c1, xs, k1, E, P, rfl, hri4, hs4, hcase⟩
    have H4 := Lib.hid (H.out.next hb4)
    have HX4 := Lib.hid (And.intro hri4 hs4)
    clear hb4 hri4 hs4 p0 p1 p2 p3 p4 p5 p6 d0 d1 d2 d3
    try simp only [rvV]
    go_upto_region 6 with fail
    refine wp_nameW fun w5 hw5 => ?_
    obtain ⟨Q, hQ⟩ : ∃ Q, Q = w4.heap.size := ⟨_, rfl⟩
    rw [← hQ]
    rcases hcase with ⟨hE0, hP0, hc⟩ | ⟨hE0, hc⟩
    ·subst hE0 hP0
     have HEL := Lib.hid hc
     have hxl := elemB10_len hc hR (by have := HLEN.out; omega)
     have hk1 := elemB10_ok hc
     rw [HLEN.out] at hk1
     have H5 := Lib.hid (H4.out.box k1 cR cT HX4.out.2 H4.out.lt w5 hw5)
     rw [← hQ] at H5
     have hb45 : Below w4.heap.size w4 w5 := by rw [hw5]; exact below_new _ _
     have HA5 := Lib.hid ((HX4.out.1.on hb45 (Nat.le_refl _)).more hb45.size)
     obtain ⟨b4, hb4⟩ : ∃ b4, b4 = atS l k1 [45] := ⟨_, rfl⟩
     obtain ⟨b5, hb5⟩ : ∃ b5, b5 = atS l (k1 + 1) [93] := ⟨_, rfl⟩
     have hst4 := stands10_any w5 B Al n cl l k1 k1 45 H5.out.l rfl
     have hst5 := stands10_any w5 B Al n cl l (k1 + 1) ((k1 : Int) + 1) 93 H5.out.l (by omega)
     rw [← hb4] at hst4
     rw [← hb5] at hst5
     have HTH : Hid (thruL l k1 = (b4 && decide (k1 + 1 < n) && !b5)) := Lib.hid (by
      unfold thruL
      rw [hb4, hb5, HLEN.out, atS_sign (k := k1 + 1)]
      rfl)
     clear hc hw5 hQ hb45 hb4 hb5
     obtain ⟨p0, p1, p2, p3, p4, p5, p6⟩ := H5.out.r1.seven
     by_cases hth : b4 = true ∧ k1 + 1 < n ∧ b5 = false
     ·obtain ⟨rfl, t5, rfl⟩ := hth
      obtain ⟨k2, hk2⟩ : ∃ k2, k2 = k1 + 1 := ⟨_, rfl⟩
      have i5 : ¬ (n : Int) ≤ (k1 : Int) + 1 := by omega
      have f1 := H5.out.r1.frozen 1
      go_upto_region 13 with (first | ((with_reducible refine hst4.mono ?_); rintro e w' ⟨rfl, rfl⟩) | ((with_reducible refine hst5.mono ?_); rintro e w' ⟨rfl, rfl⟩))
      refine wp_nameW fun w6 hw6 => ?_
      have H6 := Lib.hid (H5.out.setI k2 (z := (k1 : Int) + 1) (by omega))
      rw [← hw6] at H6
      have hf6 : Fr w' w6 (· = Q) := by rw [hw6]; exact (Fr.of_below (X := (· = Q)) (Below.refl _ _)).setB 1 _
      have HA6 := Lib.hid ((HA5.out.box hf6 (H5.out.r1.no32 (no32_of rvC_no32)) (Nat.le_refl _)).more hf6.size)
      have hel2 := element10_any w6 B v1 v2 v3 v4 L Al n cl k2 l s AR cR AT cT H6.out.loc (by have := H6.out.sz; have := H6.out.hB; omega) h5 H6.out.sw H6.out.l (by omega) hn hcl
      unfold rvV at hel2
      have HTT : Hid (thruL l k1 = true) := Lib.hid (by rw [HTH.out]; simp; omega)
      have HK2 := Lib.hid hk2
      clear hw6 hf6 p1 f1 hst4 hst5 i5 hk2 t5
      obtain ⟨p0, p1, p2, p3, p4, p5, p6⟩ := H6.out.r1.seven
      obtain ⟨d0, d1, d2, d3⟩ := H6.out.r2.four
      go_wp2_with fail
      refine hel2.mono ?_
      rintro e w7 ⟨hb7, A2, c2, ys, k3, E2, P2, rfl, hri7, hs7, hcase2⟩
      have H7 := Lib.hid (H6.out.next hb7)
      have HX7 := Lib.hid (And.intro hri7 hs7)
      have HA7 := Lib.hid ((HA6.out.on hb7 (Nat.le_refl _)).more hb7.size)
      clear hel2 hb7 hri7 hs7 p0 p1 p2 p3 p4 p5 p6 d0 d1 d2 d3
      try simp only [rvV]
      go_upto_region 14 with fail
      refine wp_nameW fun w8 hw8 => ?_
      obtain ⟨Q2, hQ2⟩ : ∃ Q2, Q2 = w7.heap.size := ⟨_, rfl⟩
      rw [← hQ2]
      rcases hcase2 with ⟨hE2, hP2, hc2⟩ | ⟨hE2, hc2⟩
      ·subst hE2 hP2
       have hyl := elemB10_len hc2 hR (by have := HLEN.out; omega)
       have HV3 : Hid (itemB L l s k = btR (betwB L s xs ys k1) k3) := Lib.hid (by
        rw [HV.out]
        unfold elemsB
        rw [HEL.out]
        simp only
        rw [HTT.out, if_pos rfl, ← HK2.out, hc2]
        simp only
        unfold btR
        cases betwB L s xs ys k1 <;> rfl)
       have H8 := Lib.hid (H7.out.box k3 cR cT HX7.out.2 H7.out.lt w8 hw8)
       rw [← hQ2] at H8
       have hb78 : Below w7.heap.size w7 w8 := by rw [hw8]; exact below_new _ _
       have hbt := between10_any w8 B v1 v2 v3 v4 L Al n cl k3 l s AR cR AT cT A1 A2 xs.length c1 ys.length c2 xs ys k1 H8.out.loc (by have := H8.out.sz; have := H8.out.hB; omega) hR H8.out.sw H8.out.l h1 h2 ((HA7.out.on hb78 (Nat.le_refl _)).more hb78.size) ((HX7.out.1.on hb78 (Nat.le_refl _)).more hb78.size) hxl hyl
       unfold rvV at hbt
       clear hc2 hw8 hQ2 hb78 hyl
       obtain ⟨p0, p1, p2, p3, p4, p5, p6⟩ := H8.out.r1.seven
       obtain ⟨d0, d1, d2, d3⟩ := H8.out.r2.four
       go_wp2_with fail
       refine hbt.mono ?_
       clear hbt
       rintro e w2 ⟨v, rfl, hb2, s', AR', cR', AT', cT', k', E, P, rfl, hs2, hno2, hcase⟩
       have H2 := Lib.hid (H8.out.next hb2)
       have HX2 := Lib.hid (And.intro hs2 (And.intro hno2 hcase))
       clear hb2 hs2 hno2 hcase p0 p1 p2 p3 p4 p5 p6 d0 d1 d2 d3
       obtain ⟨z0, z1, z2, z3, z4, z5, z6⟩ := H2.out.r3.seven
       obtain ⟨y0, y1, y2, y3, y4, y5, y6⟩ := H2.out.r3.fz7
       try simp only [rvV]
       go_wp2
       obtain ⟨hs9, hb9, hr9, -⟩ := H2.out.end_ HX2.out.1 (H8.out.new HX2.out.2.1) (.slice Al n cl) (.int .i64 k') (.bool s'.no) (.slice AR' s'.rs.length cR') (.slice AT' s'.ts.length cT') (.int .i64 E) (.int .i64 P) _ rfl
       obtain ⟨e0, e1, e2, e3, e4, e5, e6⟩ := hr9.seven
       unfold s7 at e0 e1 e2 e3 e4 e5 e6 hs9 hb9
       refine bodyPost_ret (v := .agg #[.slice Al n cl, .int .i64 k', .bool s'.no, .slice AR' s'.rs.length cR', .slice AT' s'.ts.length cT', .int .i64 E, .int .i64 P]) (by simp [results, Tryz.results54, go_sem, e0, e1, e2, e3, e4, e5, e6]) rfl ?_
       exact ⟨_, rfl, by rw [HSS.out]; exact hb9, s', AR', cR', AT', cT', k', E, P, rfl, hs9, (NewOr.refl w AT).trans HX2.out.2.1 (by have := H8.out.sz; have := HSS.out; omega), by rw [HV3.out]; exact HX2.out.2.2⟩
      ·have HV2 : Hid (itemB L l s k = .error (E2, P2)) := Lib.hid (by
        rw [HV.out]
        unfold elemsB
        rw [HEL.out]
        simp only
        rw [HTT.out, if_pos rfl, ← HK2.out, hc2])
       have hb45 : Below w7.heap.size w7 w8 := by rw [hw8]; exact below_new _ _
       have hbx : Rw w8 Q2 144 #[.slice Al n cl, .int .i64 k3, .bool s.no, .slice AR s.rs.length cR, .slice AT s.ts.length cT, .int .i64 E2, .int .i64 P2] := by rw [hw8, hQ2]; exact heap_alloc_new w7 _
       have HH5 := Lib.hid (H7.out.next hb45)
       have HS5 := Lib.hid (HX7.out.2.next hb45)
       have t1 : (((E2 : Nat) : Int) != 0) = true := by simp; omega
       have HE0 := Lib.hid hE2
       clear hc2 hw8 hQ2 hb45 hE2
       obtain ⟨p0, p1, p2, p3, p4, p5, p6⟩ := hbx.seven
       obtain ⟨z0, z1, z2, z3, z4, z5, z6⟩ := HH5.out.r3.seven
       obtain ⟨y0, y1, y2, y3, y4, y5, y6⟩ := HH5.out.r3.fz7
       clear hbx
       go_wp2
       obtain ⟨hs9, hb9, hr9, -⟩ := HH5.out.end_ HS5.out HH5.out.lt (.slice Al n cl) (.int .i64 k3) (.bool s.no) (.slice AR s.rs.length cR) (.slice AT s.ts.length cT) (.int .i64 E2) (.int .i64 P2) _ rfl
       obtain ⟨e0, e1, e2, e3, e4, e5, e6⟩ := hr9.seven
       unfold s7 at e0 e1 e2 e3 e4 e5 e6 hs9 hb9
       refine bodyPost_ret (v := .agg #[.slice Al n cl, .int .i64 k3, .bool s.no, .slice AR s.rs.length cR, .slice AT s.ts.length cT, .int .i64 E2, .int .i64 P2]) (by simp [results, Tryz.results54, go_sem, e0, e1, e2, e3, e4, e5, e6]) rfl ?_
       exact ⟨_, rfl, by rw [HSS.out]; exact hb9, s, AR, cR, AT, cT, k3, E2, P2, rfl, hs9, NewOr.refl _ _, .inr ⟨HE0.out, HV2.out⟩⟩
     ·have h3 : b4 = false ∨ (b4 = true ∧ ¬ k1 + 1 < n) ∨ (b4 = true ∧ k1 + 1 < n ∧ b5 = true) := by
       cases b4 with
       | false => exact .inl rfl
       | true =>
        by_cases hh : k1 + 1 < n
        ·cases b5 with
         | false => exact absurd ⟨rfl, hh, rfl⟩ hth
         | true => exact .inr (.inr ⟨rfl, hh, rfl⟩)
        ·exact .inr (.inl ⟨rfl, hh⟩)
      clear hth
      rcases h3 with rfl | ⟨rfl, t5⟩ | ⟨rfl, t5, rfl⟩
      ·go_upto_region 9 with (first | ((with_reducible refine hst4.mono ?_); rintro e w' ⟨rfl, rfl⟩) | ((with_reducible refine hst5.mono ?_); rintro e w' ⟨rfl, rfl⟩))
       refine wp_nameW fun w6 hw6 => ?_
       have H6 := Lib.hid (show RSt w S Q B Al n cl l v1 v2 v3 v4 L k1 s AR cR AT cT w6 from by rw [hw6]; exact H5.out)
       have hra6 : RI .i32 w6 w6.heap.size A1 xs.length xs := by rw [hw6]; exact HA5.out
       have HV2 : Hid (itemB L l s k = .ok (put1 s xs, k1)) := Lib.hid (by
        rw [HV.out]
        unfold elemsB
        rw [HEL.out]
        simp only
        rw [HTH.out, if_neg]
        first | (simp; done) | (simp; omega))
       obtain ⟨s', hs'⟩ : ∃ s', s' = put1 s xs := ⟨_, rfl⟩
       have hput := put10_any w6 s AR AT A1 cR cT c1 w6.heap.size xs.length xs H6.out.sw hra6 (Nat.le_refl _) (by omega) (by omega) (by unfold maxLen; omega)
       rw [← hs'] at hput HV2
       clear hw6 hra6 hs' hst4 hst5
       obtain ⟨-, -, p2, p3, p4, -, -⟩ := H6.out.r1.seven
       go_wp2_with fail
       refine hput.mono ?_
       rintro e w7 ⟨hb7, AR2, cR2, AT2, cT2, rfl, hs2, hn2⟩
       have H7 := Lib.hid (H6.out.next hb7)
       have HX7 := Lib.hid (And.intro hs2 hn2)
       clear hput hb7 hs2 hn2 p2 p3 p4
       obtain ⟨-, -, p2, p3, p4, -, -⟩ := H7.out.r1.seven
       obtain ⟨-, -, f2, f3, f4, -, -⟩ := H7.out.r1.fz7
       go_upto_region 10 with fail
       refine wp_nameW fun w8 hw8 => ?_
       have H8 := Lib.hid (H7.out.setS cR2 cT2 HX7.out.1 (H6.out.new HX7.out.2))
       rw [← hw8] at H8
       have HNO := Lib.hid ((NewOr.refl w AT).trans HX7.out.2 (by have := H6.out.sz; have := HSS.out; omega))
       clear hw8 p2 p3 p4 f2 f3 f4
       obtain ⟨p0, p1, p2, p3, p4, p5, p6⟩ := H8.out.r1.seven
       obtain ⟨z0, z1, z2, z3, z4, z5, z6⟩ := H8.out.r3.seven
       obtain ⟨y0, y1, y2, y3, y4, y5, y6⟩ := H8.out.r3.fz7
       go_wp2
       obtain ⟨hs9, hb9, hr9, -⟩ := H8.out.end_ H8.out.sw H8.out.lt (.slice Al n cl) (.int .i64 k1) (.bool s'.no) (.slice AR2 s'.rs.length cR2) (.slice AT2 s'.ts.length cT2) (.int .i64 0) (.int .i64 0) _ rfl
       obtain ⟨e0, e1, e2, e3, e4, e5, e6⟩ := hr9.seven
       unfold s7 at e0 e1 e2 e3 e4 e5 e6 hs9 hb9
       refine bodyPost_ret (v := .agg #[.slice Al n cl, .int .i64 k1, .bool s'.no, .slice AR2 s'.rs.length cR2, .slice AT2 s'.ts.length cT2, .int .i64 0, .int .i64 0]) (by simp [results, Tryz.results54, go_sem, e0, e1, e2, e3, e4, e5, e6]) rfl ?_
       exact ⟨_, rfl, by rw [HSS.out]; exact hb9, s', AR2, cR2, AT2, cT2, k1, 0, 0, rfl, hs9, HNO.out, .inl ⟨rfl, rfl, HV2.out⟩⟩
      ·have i5 : (n : Int) ≤ (k1 : Int) + 1 := by omega
       go_upto_region 9 with (first | ((with_reducible refine hst4.mono ?_); rintro e w' ⟨rfl, rfl⟩) | ((with_reducible refine hst5.mono ?_); rintro e w' ⟨rfl, rfl⟩))
       refine wp_nameW fun w6 hw6 => ?_
       have H6 := Lib.hid (show RSt w S Q B Al n cl l v1 v2 v3 v4 L k1 s AR cR AT cT w6 from by rw [hw6]; exact H5.out)
       have hra6 : RI .i32 w6 w6.heap.size A1 xs.length xs := by rw [hw6]; exact HA5.out
       have HV2 : Hid (itemB L l s k = .ok (put1 s xs, k1)) := Lib.hid (by
        rw [HV.out]
        unfold elemsB
        rw [HEL.out]
        simp only
        rw [HTH.out, if_neg]
        first | (simp; done) | (simp; omega))
       obtain ⟨s', hs'⟩ : ∃ s', s' = put1 s xs := ⟨_, rfl⟩
       have hput := put10_any w6 s AR AT A1 cR cT c1 w6.heap.size xs.length xs H6.out.sw hra6 (Nat.le_refl _) (by omega) (by omega) (by unfold maxLen; omega)
       rw [← hs'] at hput HV2
       clear hw6 hra6 hs' hst4 hst5
       obtain ⟨-, -, p2, p3, p4, -, -⟩ := H6.out.r1.seven
       go_wp2_with fail
       refine hput.mono ?_
       rintro e w7 ⟨hb7, AR2, cR2, AT2, cT2, rfl, hs2, hn2⟩
       have H7 := Lib.hid (H6.out.next hb7)
       have HX7 := Lib.hid (And.intro hs2 hn2)
       clear hput hb7 hs2 hn2 p2 p3 p4
       obtain ⟨-, -, p2, p3, p4, -, -⟩ := H7.out.r1.seven
       obtain ⟨-, -, f2, f3, f4, -, -⟩ := H7.out.r1.fz7
       go_upto_region 10 with fail
       refine wp_nameW fun w8 hw8 => ?_
       have H8 := Lib.hid (H7.out.setS cR2 cT2 HX7.out.1 (H6.out.new HX7.out.2))
       rw [← hw8] at H8
       have HNO := Lib.hid ((NewOr.refl w AT).trans HX7.out.2 (by have := H6.out.sz; have := HSS.out; omega))
       clear hw8 p2 p3 p4 f2 f3 f4
       obtain ⟨p0, p1, p2, p3, p4, p5, p6⟩ := H8.out.r1.seven
       obtain ⟨z0, z1, z2, z3, z4, z5, z6⟩ := H8.out.r3.seven
       obtain ⟨y0, y1, y2, y3, y4, y5, y6⟩ := H8.out.r3.fz7
       go_wp2
       obtain ⟨hs9, hb9, hr9, -⟩ := H8.out.end_ H8.out.sw H8.out.lt (.slice Al n cl) (.int .i64 k1) (.bool s'.no) (.slice AR2 s'.rs.length cR2) (.slice AT2 s'.ts.length cT2) (.int .i64 0) (.int .i64 0) _ rfl
       obtain ⟨e0, e1, e2, e3, e4, e5, e6⟩ := hr9.seven
       unfold s7 at e0 e1 e2 e3 e4 e5 e6 hs9 hb9
       refine bodyPost_ret (v := .agg #[.slice Al n cl, .int .i64 k1, .bool s'.no, .slice AR2 s'.rs.length cR2, .slice AT2 s'.ts.length cT2, .int .i64 0, .int .i64 0]) (by simp [results, Tryz.results54, go_sem, e0, e1, e2, e3, e4, e5, e6]) rfl ?_
       exact ⟨_, rfl, by rw [HSS.out]; exact hb9, s', AR2, cR2, AT2, cT2, k1, 0, 0, rfl, hs9, HNO.out, .inl ⟨rfl, rfl, HV2.out⟩⟩
      ·have i5 : ¬ (n : Int) ≤ (k1 : Int) + 1 := by omega
       go_upto_region 9 with (first | ((with_reducible refine hst4.mono ?_); rintro e w' ⟨rfl, rfl⟩) | ((with_reducible refine hst5.mono ?_); rintro e w' ⟨rfl, rfl⟩))
       refine wp_nameW fun w6 hw6 => ?_
       have H6 := Lib.hid (show RSt w S Q B Al n cl l v1 v2 v3 v4 L k1 s AR cR AT cT w6 from by rw [hw6]; exact H5.out)
       have hra6 : RI .i32 w6 w6.heap.size A1 xs.length xs := by rw [hw6]; exact HA5.out
       have HV2 : Hid (itemB L l s k = .ok (put1 s xs, k1)) := Lib.hid (by
        rw [HV.out]
        unfold elemsB
        rw [HEL.out]
        simp only
        rw [HTH.out, if_neg]
        first | (simp; done) | (simp; omega))
       obtain ⟨s', hs'⟩ : ∃ s', s' = put1 s xs := ⟨_, rfl⟩
       have hput := put10_any w6 s AR AT A1 cR cT c1 w6.heap.size xs.length xs H6.out.sw hra6 (Nat.le_refl _) (by omega) (by omega) (by unfold maxLen; omega)
       rw [← hs'] at hput HV2
       clear hw6 hra6 hs' hst4 hst5
       obtain ⟨-, -, p2, p3, p4, -, -⟩ := H6.out.r1.seven
       go_wp2_with fail
       refine hput.mono ?_
       rintro e w7 ⟨hb7, AR2, cR2, AT2, cT2, rfl, hs2, hn2⟩
       have H7 := Lib.hid (H6.out.next hb7)
       have HX7 := Lib.hid (And.intro hs2 hn2)
       clear hput hb7 hs2 hn2 p2 p3 p4
       obtain ⟨-, -, p2, p3, p4, -, -⟩ := H7.out.r1.seven
       obtain ⟨-, -, f2, f3, f4, -, -⟩ := H7.out.r1.fz7
       go_upto_region 10 with fail
       refine wp_nameW fun w8 hw8 => ?_
       have H8 := Lib.hid (H7.out.setS cR2 cT2 HX7.out.1 (H6.out.new HX7.out.2))
       rw [← hw8] at H8
       have HNO := Lib.hid ((NewOr.refl w AT).trans HX7.out.2 (by have := H6.out.sz; have := HSS.out; omega))
       clear hw8 p2 p3 p4 f2 f3 f4
       obtain ⟨p0, p1, p2, p3, p4, p5, p6⟩ := H8.out.r1.seven
       obtain ⟨z0, z1, z2, z3, z4, z5, z6⟩ := H8.out.r3.seven
       obtain ⟨y0, y1, y2, y3, y4, y5, y6⟩ := H8.out.r3.fz7
       go_wp2
       obtain ⟨hs9, hb9, hr9, -⟩ := H8.out.end_ H8.out.sw H8.out.lt (.slice Al n cl) (.int .i64 k1) (.bool s'.no) (.slice AR2 s'.rs.length cR2) (.slice AT2 s'.ts.length cT2) (.int .i64 0) (.int .i64 0) _ rfl
       obtain ⟨e0, e1, e2, e3, e4, e5, e6⟩ := hr9.seven
       unfold s7 at e0 e1 e2 e3 e4 e5 e6 hs9 hb9
       refine bodyPost_ret (v := .agg #[.slice Al n cl, .int .i64 k1, .bool s'.no, .slice AR2 s'.rs.length cR2, .slice AT2 s'.ts.length cT2, .int .i64 0, .int .i64 0]) (by simp [results, Tryz.results54, go_sem, e0, e1, e2, e3, e4, e5, e6]) rfl ?_
       exact ⟨_, rfl, by rw [HSS.out]; exact hb9, s', AR2, cR2, AT2, cT2, k1, 0, 0, rfl, hs9, HNO.out, .inl ⟨rfl, rfl, HV2.out⟩⟩
    ·have HV2 : Hid (itemB L l s k = .error (E, P)) := Lib.hid (by rw [HV.out]; unfold elemsB; rw [hc])
     have hb45 : Below w4.heap.size w4 w5 := by rw [hw5]; exact below_new _ _
     have hbx : Rw w5 Q 144 #[.slice Al n cl, .int .i64 k1, .bool s.no, .slice AR s.rs.length cR, .slice AT s.ts.length cT, .int .i64 E, .int .i64 P] := by rw [hw5, hQ]; exact heap_alloc_new w4 _
     have HH5 := Lib.hid (H4.out.next hb45)
     have HS5 := Lib.hid (HX4.out.2.next hb45)
     have t1 : (((E : Nat) : Int) != 0) = true := by simp; omega
     have HE0 := Lib.hid hE0
     clear hc hw5 hQ hb45 hE0
     obtain ⟨p0, p1, p2, p3, p4, p5, p6⟩ := hbx.seven
     obtain ⟨z0, z1, z2, z3, z4, z5, z6⟩ := HH5.out.r3.seven
     obtain ⟨y0, y1, y2, y3, y4, y5, y6⟩ := HH5.out.r3.fz7
     clear hbx
     go_wp2
     obtain ⟨hs9, hb9, hr9, -⟩ := HH5.out.end_ HS5.out HH5.out.lt (.slice Al n cl) (.int .i64 k1) (.bool s.no) (.slice AR s.rs.length cR) (.slice AT s.ts.length cT) (.int .i64 E) (.int .i64 P) _ rfl
     obtain ⟨e0, e1, e2, e3, e4, e5, e6⟩ := hr9.seven
     unfold s7 at e0 e1 e2 e3 e4 e5 e6 hs9 hb9
     refine bodyPost_ret (v := .agg #[.slice Al n cl, .int .i64 k1, .bool s.no, .slice AR s.rs.length cR, .slice AT s.ts.length cT, .int .i64 E, .int .i64 P]) (by simp [results, Tryz.results54, go_sem, e0, e1, e2, e3, e4, e5, e6]) rfl ?_
     exact ⟨_, rfl, by rw [HSS.out]; exact hb9, s, AR, cR, AT, cT, k1, E, P, rfl, hs9, NewOr.refl _ _, .inr ⟨HE0.out, HV2.out⟩⟩
end Go.Proofs.YthgiikhkcpbpfaaGreatDoor.C
namespace Go.Proofs.YthgiikhkcpbpfaaGreatDoor.C
open Go.RowKit

theorem item_end {L : Loc} {l : List Int} {s : BSet} {k : Nat} (h : l.length ≤ k) : itemB L l s k = .error (30, l.length) := by
 have hf : ∀ sg : List Int, sg ≠ [] → atS l k sg = false := fun sg h0 => by
  rw [Bool.eq_false_iff]
  intro h1
  have h2 := atS_len h1 h0
  have := List.length_pos_iff.2 h0
  omega
 rw [item_elems (hf _ (by simp)) (hf _ (by simp))]
 unfold elemsB elemB10
 rw [hf _ (by simp), if_neg (by simp), List.getElem?_eq_none h]
def contB (no : Bool) (r : Except BEr (BSet × Nat)) : Except BEr (BSet × Nat) := match r with
 | .error e => .error e
 | .ok (s, k) => .ok (if no then { s with ts := [] } else s, k)
theorem readB_is (L : Loc) (l : List Int) (k0 : Nat) : readB L l k0 = match itemB L l ⟨atS l k0 [94], [], []⟩ (if atS l k0 [94] then k0 + 1 else k0) with | .error e => .error e | .ok (s, k) => contB (atS l k0 [94]) (itemsB L l (l.length + 1 - k) s k) := by
 unfold readB contB
 simp only
 cases itemB L l ⟨atS l k0 [94], [], []⟩ (if atS l k0 [94] = true then k0 + 1 else k0) <;> rfl
theorem brk_ok {L : Loc} {l : List Int} {at_ : Int} {s : BSet} {k : Nat} (h : readB L l (min at_.toNat l.length) = .ok (s, k)) : brkL L l at_ = (s, k, 0, 0) := by unfold brkL; rw [h]
theorem brk_err {L : Loc} {l : List Int} {at_ : Int} {e : BEr} (h : readB L l (min at_.toNat l.length) = .error e) : brkL L l at_ = (⟨false, [], []⟩, 0, e.1, e.2) := by unfold brkL; rw [h]
theorem items_go {L : Loc} {l : List Int} {s s' : BSet} {k k' : Nat} (hk : k ≤ l.length) (h0 : atS l k [93] = false) (h : itemB L l s k = .ok (s', k')) : itemsB L l (l.length + 1 - k) s k = itemsB L l (l.length + 1 - k') s' k' := by
 obtain ⟨h1, h2⟩ := itemB_ok h
 rw [items_step hk, h0, if_neg (by simp), h]
 exact items_fuel _ _ _ _ h2 (by omega) (by omega)
theorem items_bad {L : Loc} {l : List Int} {s : BSet} {k : Nat} {e : BEr} (hk : k ≤ l.length) (h0 : atS l k [93] = false) (h : itemB L l s k = .error e) : itemsB L l (l.length + 1 - k) s k = .error e := by
 rw [items_step hk, h0, if_neg (by simp), h]
theorem items_shut {L : Loc} {l : List Int} {s : BSet} {k : Nat} (hk : k ≤ l.length) (h0 : atS l k [93] = true) : itemsB L l (l.length + 1 - k) s k = .ok (s, k + 1) := by
 rw [items_step hk, h0, if_pos rfl]
structure PPt (w0 : World) (S B : Nat) (Al : Option Addr) (n cl : Nat) (l : List Int) (v1 v2 v3 v4 : Value) (L : Loc) (k : Nat) (s : BSet) (AR : Option Addr) (cR : Nat) (AT : Option Addr) (cT E P : Nat) (w : World) : Prop where
 r1 : Rw w (S + 1 + 1) 144 #[.slice Al n cl, .int .i64 k, .bool s.no, .slice AR s.rs.length cR, .slice AT s.ts.length cT, .int .i64 E, .int .i64 P]
 r2 : Rw w S 27 #[v1, v2, v3, v4]
 r3 : Rw w (S + 1) 34 #[.bool false, .slice none 0 0, .slice none 0 0]
 b : Below S w0 w
 sz : S + 3 ≤ w.heap.size
 hB : B ≤ S
 sw : SetW w AR AT s
 lt : ∀ ad, AT = some ad → ad.block ≠ S ∧ ad.block ≠ S + 1 ∧ ad.block ≠ S + 1 + 1
 l : RI .i32 w B Al n l
 loc : LocR w B v1 v2 v3 v4 L
section
variable {w0 w w' : World} {S B : Nat} {Al : Option Addr} {n cl : Nat} {l : List Int} {v1 v2 v3 v4 : Value} {L : Loc} {k : Nat} {s : BSet} {AR : Option Addr} {cR : Nat} {AT : Option Addr} {cT E P : Nat}
theorem PPt.next (h : PPt w0 S B Al n cl l v1 v2 v3 v4 L k s AR cR AT cT E P w) (hb : Below w.heap.size w w') : PPt w0 S B Al n cl l v1 v2 v3 v4 L k s AR cR AT cT E P w' := by
 have hz := h.sz
 exact ⟨h.r1.on hb (by omega), h.r2.on hb (by omega), h.r3.on hb (by omega), h.b.trans (hb.mono (by omega)), Nat.le_trans hz hb.size, h.hB, h.sw.next hb, h.lt, h.l.on hb (by have := h.hB; omega), h.loc.on hb (by have := h.hB; omega)⟩
theorem PPt.n32 (h : PPt w0 S B Al n cl l v1 v2 v3 v4 L k s AR cR AT cT E P w) : No32 w (S + 1 + 1) := h.r1.no32 (no32_of (by rfl))
theorem PPt.own (h : PPt w0 S B Al n cl l v1 v2 v3 v4 L k s AR cR AT cT E P w) (hf : Fr w w' (· = S + 1 + 1)) {k' : Nat} {s' : BSet} {AR' : Option Addr} {cR' : Nat} {AT' : Option Addr} {cT' E' P' : Nat} (hr : Rw w' (S + 1 + 1) 144 #[.slice Al n cl, .int .i64 k', .bool s'.no, .slice AR' s'.rs.length cR', .slice AT' s'.ts.length cT', .int .i64 E', .int .i64 P']) (hs : SetW w AR' AT' s')
  (hA : ∀ ad, AT' = some ad → ad.block ≠ S ∧ ad.block ≠ S + 1 ∧ ad.block ≠ S + 1 + 1) : PPt w0 S B Al n cl l v1 v2 v3 v4 L k' s' AR' cR' AT' cT' E' P' w' := by
 have hz := h.sz
 have hb : Below S w w' := hf.below (by rintro j _ rfl; omega) (by omega)
 exact ⟨hr, h.r2.fr hf (by omega), h.r3.fr hf (by omega), h.b.trans hb, Nat.le_trans hz hf.size, h.hB, hs.box hf h.n32 (fun ad e => (hA ad e).2.2), hA, h.l.on hb h.hB, h.loc.on hb h.hB⟩
theorem PPt.set7 (h : PPt w0 S B Al n cl l v1 v2 v3 v4 L k s AR cR AT cT E P w) (k' : Nat) {s' : BSet} {AR' : Option Addr} (cR' : Nat) {AT' : Option Addr} (cT' E' P' : Nat) (hs : SetW w AR' AT' s') (hA : ∀ ad, AT' = some ad → ad.block ≠ S ∧ ad.block ≠ S + 1 ∧ ad.block ≠ S + 1 + 1) :
  PPt w0 S B Al n cl l v1 v2 v3 v4 L k' s' AR' cR' AT' cT' E' P' (s7 w (S + 1 + 1) (.slice Al n cl) (.int .i64 k') (.bool s'.no) (.slice AR' s'.rs.length cR') (.slice AT' s'.ts.length cT') (.int .i64 E') (.int .i64 P')) :=
 h.own (s7_fr w (S + 1 + 1) _ _ _ _ _ _ _) (s7_rw _ _ _ _ _ _ _ h.r1) hs hA
theorem PPt.new (h : PPt w0 S B Al n cl l v1 v2 v3 v4 L k s AR cR AT cT E P w) {AT' : Option Addr} (hn : NewOr w AT AT') : ∀ ad, AT' = some ad → ad.block ≠ S ∧ ad.block ≠ S + 1 ∧ ad.block ≠ S + 1 + 1 := fun ad e => by
 rcases hn ad e with h1 | h1
 ·exact h.lt ad h1
 ·have := h.sz
  omega
theorem PPt.end2 (h : PPt w0 S B Al n cl l v1 v2 v3 v4 L k s AR cR AT cT E P w) {s' : BSet} {AR' AT' : Option Addr} (hs : SetW w AR' AT' s') (hA : ∀ ad, AT' = some ad → ad.block ≠ S + 1) (u0 u1 u2 : Value) :
  ∀ w9, w9 = (s3 w (S + 1) u0 u1 u2).drew → SetW w9 AR' AT' s' ∧ Below S w0 w9 ∧ Rw w9 (S + 1) 34 #[u0, u1, u2] ∧ Rw w9 (S + 1 + 1) 144 #[.slice Al n cl, .int .i64 k, .bool s.no, .slice AR s.rs.length cR, .slice AT s.ts.length cT, .int .i64 E, .int .i64 P] := by
 intro w9 hw9
 obtain ⟨w8, hw8⟩ : ∃ w8, w8 = s3 w (S + 1) u0 u1 u2 := ⟨_, rfl⟩
 have hf : Fr w w8 (· = S + 1) := by rw [hw8]; exact s3_fr w (S + 1) u0 u1 u2
 have hr : Rw w8 (S + 1) 34 #[u0, u1, u2] := by rw [hw8]; exact s3_rw u0 u1 u2 h.r3
 rw [← hw8] at hw9
 subst hw9
 have hz := h.sz
 exact ⟨(hs.box hf (h.r3.no32 (no32_of (by rfl))) hA).next (below_drew (Below.refl _ _)), below_drew (h.b.trans (hf.below (by rintro j _ rfl; omega) (by omega))), hr, h.r1.fr hf.drew (by omega)⟩
end
theorem three_boxesB {w w3 : World} {S B : Nat} {Al : Option Addr} {n cl k : Nat} {l : List Int} {v1 v2 v3 v4 : Value} {L : Loc} (hS : w.heap.size = S) (hB : B ≤ S) (hl : RI .i32 w B Al n l) (hL : LocR w B v1 v2 v3 v4 L)
  (hW : w3 = ((w.alloc (.cells #[v1, v2, v3, v4] 27)).alloc (.cells #[.bool false, .slice none 0 0, .slice none 0 0] 34)).alloc (.cells #[.slice Al n cl, .int .i64 k, .bool false, .slice none 0 0, .slice none 0 0, .int .i64 0, .int .i64 0] 144)) :
  PPt w S B Al n cl l v1 v2 v3 v4 L k ⟨false, [], []⟩ none 0 none 0 0 0 w3 := by
 obtain ⟨r1, r2, r3, hbW, hsW⟩ := three_rowsB hS hW
 exact ⟨r3, r1, r2, hbW, by omega, hB, SetW.nil _ _, (fun ad e => by cases e), hl.on hbW hB, hL.on hbW hB⟩
def measP (n b : Nat) (w : World) : Nat := match w.cell? ⟨b, 5, none⟩, w.cell? ⟨b, 1, none⟩ with
 | some (.int _ e), some (.int _ k) => if e = 0 then n + 1 - k.toNat + 1 else 0
 | _, _ => 0
theorem measP_of {w : World} {b n : Nat} {t : TypeId} {u0 u2 u3 u4 u6 : Value} {k E : Nat} (h : Rw w b t #[u0, .int .i64 k, u2, u3, u4, .int .i64 E, u6]) : measP n b w = if E = 0 then n + 1 - k + 1 else 0 := by
 unfold measP
 rw [h.cell (i := 5) rfl, h.cell (i := 1) rfl]
 simp
theorem lt_eqB {a b c d : Nat} (h1 : a = b) (h2 : c = d) (h : b < d) : a < c := by rw [h1, h2]; exact h
def LInv (L : Loc) (l : List Int) (n : Nat) (R0 : Except BEr (BSet × Nat)) (no fst : Bool) (k : Nat) (s : BSet) (E P : Nat) : Prop :=
 (E = 0 ∧ P = 0 ∧ fst = true ∧ s = ⟨no, [], []⟩ ∧ ∃ k1, R0 = (match itemB L l ⟨no, [], []⟩ k1 with | .error e => .error e | .ok (s, k) => contB no (itemsB L l (l.length + 1 - k) s k)) ∧ (k < n → k = k1) ∧ (n ≤ k → n ≤ k1)) ∨
 (E = 0 ∧ P = 0 ∧ fst = false ∧ k ≤ n ∧ s.no = no ∧ SzB s k ∧ R0 = contB no (itemsB L l (l.length + 1 - k) s k)) ∨
 (E ≠ 0 ∧ R0 = .error (E, P))
def P10Told (w w' : World) (r : BSet × Nat × Nat × Nat) (e : Ending) : Prop := Below w.heap.size w w' ∧ ∃ AR cR AT cT, e = .returned (.tuple #[.agg #[.bool r.1.no, .slice AR r.1.rs.length cR, .slice AT r.1.ts.length cT], .int .i64 r.2.1, .int .i64 r.2.2.1, .int .i64 r.2.2.2]) ∧ SetW w' AR AT r.1
set_option maxRecDepth 100000 in
set_option maxHeartbeats 16000000 in
theorem parse10_any (w : World) (B : Nat) (v1 v2 v3 v4 : Value) (L : Loc) (Al : Option Addr) (n cl : Nat) (l : List Int) (at_ : Int)
  (hL : LocR w B v1 v2 v3 v4 L) (hB : B ≤ w.heap.size) (hR : rightL L = true) (hc5 : ∀ c ∈ L.cls, c.rs.length ≤ 1000) (hl : RI .i32 w B Al n l) (hn : n ≤ 1000) (hcl : n ≤ cl) (ha : -9223372036854775808 ≤ at_) (hb : at_ ≤ 9223372036854775807) :
  Calls Tryz.prog 31 #[.slice Al n cl, .int .i64 at_, .agg #[v1, v2, v3, v4]] w fun e w' => P10Told w w' (brkL L l at_) e := by
 obtain ⟨S, hS⟩ : ∃ S, w.heap.size = S := ⟨_, rfl⟩
 obtain ⟨k0, hk0⟩ : ∃ k0 : Nat, max at_ 0 = (k0 : Int) := ⟨at_.toNat, by omega⟩
 have hlen := hl.len
 have HLEN := Lib.hid hlen
 have HSS := Lib.hid hS
 have HC5 := Lib.hid hc5
 have HK0 : Hid (k0 = at_.toNat) := Lib.hid (by omega)
 have hkb : (k0 : Int) ≤ 9223372036854775807 := by omega
 go_enter Tryz.func31, Tryz.ntmps31
 go_upto_region 2 with fail
 refine wp_nameW fun W hW => ?_
 have H := Lib.hid (three_boxesB hS (by omega) hl hL hW)
 clear hL hl hc5 hlen hW hS
 obtain ⟨b1, hb1⟩ : ∃ b1, b1 = atS l k0 [94] := ⟨_, rfl⟩
 have hst := stands10_any W B Al n cl l k0 k0 94 H.out.l rfl
 rw [← hb1] at hst
 obtain ⟨p0, p1, p2, p3, p4, p5, p6⟩ := H.out.r1.seven
 have f1 := H.out.r1.frozen 1
 have f2 := H.out.r1.frozen 2
 obtain ⟨R0, hR0⟩ : ∃ R0, R0 = readB L l (min at_.toNat l.length) := ⟨_, rfl⟩
 have HR0 := Lib.hid hR0
 have hkk : b1 = true → k0 < n := fun h => by
  have h1 := atS_len (hb1.symm.trans h) (by simp)
  have := HLEN.out
  simp at h1
  omega
 have HI : Hid (∃ k1, R0 = (match itemB L l ⟨b1, [], []⟩ k1 with | .error e => .error e | .ok (s, k) => contB b1 (itemsB L l (l.length + 1 - k) s k)) ∧ ((if b1 then k0 + 1 else k0) < n → (if b1 then k0 + 1 else k0) = k1) ∧ (n ≤ (if b1 then k0 + 1 else k0) → n ≤ k1)) := Lib.hid (by
  have hnn := HLEN.out
  have h94 : atS l (min at_.toNat l.length) [94] = b1 := by
   rcases Nat.lt_or_ge k0 n with h | h
   ·rw [show min at_.toNat l.length = k0 by have := HK0.out; omega]
    exact hb1.symm
   ·have e1 : b1 = false := by
     cases b1 with
     | false => rfl
     | true => have := hkk rfl; omega
    rw [e1, Bool.eq_false_iff]
    intro h1
    have h2 := atS_len h1 (by simp)
    have := HK0.out
    simp at h2
    omega
  refine ⟨_, by rw [hR0, readB_is, h94], ?_, ?_⟩
  ·have := HK0.out
   cases b1 <;> simp <;> omega
  ·have := HK0.out
   cases b1
   ·simp; omega
   ·have := hkk rfl
    simp; omega)
 clear hR0 hb1
 have hpre : b1 = true ∨ b1 = false := by cases b1 <;> simp
 rcases hpre with rfl | rfl
 case' inl =>
  have hk1 := hkk rfl
  have HI2 : Hid (∃ k1, R0 = (match itemB L l ⟨true, [], []⟩ k1 with | .error e => .error e | .ok (s, k) => contB true (itemsB L l (l.length + 1 - k) s k)) ∧ (k0 + 1 < n → k0 + 1 = k1) ∧ (n ≤ k0 + 1 → n ≤ k1)) := Lib.hid HI.out
  go_wp2_with (first | ((with_reducible refine hst.mono ?_); rintro e w' ⟨rfl, rfl⟩))
  refine wp_nameW fun w2 hw2 => ?_
  obtain ⟨kk, hkk2⟩ : ∃ kk, kk = k0 + 1 := ⟨_, rfl⟩
  have HP := Lib.hid (show PPt w S B Al n cl l v1 v2 v3 v4 L kk ⟨true, [], []⟩ none 0 none 0 0 0 w2 from by
   have hr := (H.out.r1.set 2 (.bool true)).set 1 (.int .i64 ((k0 : Int) + 1))
   simp only [g1, g2, g3] at hr
   rw [hw2]
   refine H.out.own (((Fr.of_below (X := (· = S + 1 + 1)) (Below.refl _ _)).setB 2 _).setB 1 _) (s' := ⟨true, [], []⟩) (AR' := none) (AT' := none) (cR' := 0) (cT' := 0) (E' := 0) (P' := 0) ?_ (SetW.nil _ _) (fun ad e => by cases e)
   rw [hkk2]
   exact hr)
  rw [← hkk2] at HI2
  have HPK : Hid (∃ (no : Bool) (kk : Nat), (∃ k1, R0 = (match itemB L l ⟨no, [], []⟩ k1 with | .error e => .error e | .ok (s, k) => contB no (itemsB L l (l.length + 1 - k) s k)) ∧ (kk < n → kk = k1) ∧ (n ≤ kk → n ≤ k1)) ∧ PPt w S B Al n cl l v1 v2 v3 v4 L kk ⟨no, [], []⟩ none 0 none 0 0 0 w2) := Lib.hid ⟨true, kk, HI2.out, HP.out⟩
  clear hw2 hkk2 HI2 HP
 case' inr =>
  have HI2 : Hid (∃ k1, R0 = (match itemB L l ⟨false, [], []⟩ k1 with | .error e => .error e | .ok (s, k) => contB false (itemsB L l (l.length + 1 - k) s k)) ∧ (k0 < n → k0 = k1) ∧ (n ≤ k0 → n ≤ k1)) := Lib.hid HI.out
  go_wp2_with (first | ((with_reducible refine hst.mono ?_); rintro e w' ⟨rfl, rfl⟩))
  refine wp_nameW fun w2 hw2 => ?_
  obtain ⟨kk, hkk2⟩ : ∃ kk, kk = k0 := ⟨_, rfl⟩
  have HP := Lib.hid (show PPt w S B Al n cl l v1 v2 v3 v4 L kk ⟨false, [], []⟩ none 0 none 0 0 0 w2 from by
   rw [hw2, hkk2]
   exact H.out)
  rw [← hkk2] at HI2
  have HPK : Hid (∃ (no : Bool) (kk : Nat), (∃ k1, R0 = (match itemB L l ⟨no, [], []⟩ k1 with | .error e => .error e | .ok (s, k) => contB no (itemsB L l (l.length + 1 - k) s k)) ∧ (kk < n → kk = k1) ∧ (n ≤ kk → n ≤ k1)) ∧ PPt w S B Al n cl l v1 v2 v3 v4 L kk ⟨no, [], []⟩ none 0 none 0 0 0 w2) := Lib.hid ⟨false, kk, HI2.out, HP.out⟩
  clear hw2 hkk2 HI2 HP
 all_goals
  clear hst p0 p1 p2 p3 p4 p5 p6 f1 f2 hkk HI hkb hk0 H ha hb
  obtain ⟨no, kk, hI, hP⟩ := HPK.out
  go_loopw [11] (fun fv wr => ∃ fst : Bool, fv = .bool fst ∧ Hid (∃ k s AR cR AT cT E P, PPt w S B Al n cl l v1 v2 v3 v4 L k s AR cR AT cT E P wr ∧ LInv L l n R0 no fst k s E P)) (fun _ wr => measP n (S + 1 + 1) wr)
  case atStart => exact ⟨true, rfl, Lib.hid ⟨kk, _, none, 0, none, 0, 0, 0, hP, .inl ⟨rfl, rfl, rfl, rfl, hI⟩⟩⟩
  case round =>
   clear hI hP HPK
   obtain ⟨fst, rfl, HQ⟩ := hrel
   obtain ⟨k, s, AR, cR, AT, cT, E, P, hp, hinv⟩ := HQ.out
   have HP1 := Lib.hid hp
   clear HQ
   rcases hinv with ⟨rfl, rfl, rfl, rfl, k1, hr0, ha1, ha2⟩ | ⟨rfl, rfl, rfl, hk, hsn, hsz, hr0⟩ | ⟨hE, hr0⟩
   ·by_cases hkn : k < n
    ·obtain rfl := ha1 hkn
     have HN : Hid (∀ s' k' E P, ((E = 0 ∧ P = 0 ∧ itemB L l ⟨no, [], []⟩ k = .ok (s', k')) ∨ (E ≠ 0 ∧ itemB L l ⟨no, [], []⟩ k = .error (E, P))) → LInv L l n R0 no false k' s' E P) := Lib.hid (fun s' k' E P h => by
      rcases h with ⟨h1, h2, h3⟩ | ⟨h1, h3⟩
      ·exact .inr (.inl ⟨h1, h2, rfl, by have := (itemB_ok h3).2; have := HLEN.out; omega, itemB_no h3, itemB_sz h3 ⟨by simp, by simp⟩ hR HC5.out, by rw [hr0, h3]⟩)
      ·exact .inr (.inr ⟨h1, by rw [hr0, h3]⟩))
     obtain ⟨ad, u, rfl, -, hu, hcu⟩ := hp.l.at_ hkn
     have i0 : (0 : Int) ≤ (k : Int) := by omega
     have i1 : ¬ (n : Int) ≤ (k : Int) := by omega
     have i2 : (k : Int) < (n : Int) := by omega
     clear hr0 ha1 ha2 hu
     by_cases hu93 : u = 93
     ·have t2 : (u == 93) = true := by simpa using hu93
      clear hu93
      have hit := item10_any wr B v1 v2 v3 v4 L (some ad) n cl k l ⟨no, [], []⟩ AR cR AT cT hp.loc (by have := hp.sz; have := hp.hB; omega) hR HC5.out hp.sw hp.l hkn hn hcl (by simp) (by simp)
      unfold rvV at hit
      obtain ⟨p0, p1, p2, p3, p4, p5, p6⟩ := hp.r1.seven
      obtain ⟨d0, d1, d2, d3⟩ := hp.r2.four
      clear hp
      go_wp2_with fail
      refine hit.mono ?_
      rintro e w3 ⟨v, rfl, hb3, s', AR', cR', AT', cT', k', E', P', rfl, hs3, hno3, hcase⟩
      have H3 := Lib.hid (HP1.out.next hb3)
      have HX3 := Lib.hid (And.intro hs3 (And.intro hno3 hcase))
      clear hit hb3 hs3 hno3 hcase p0 p1 p2 p3 p4 p5 p6 d0 d1 d2 d3 hcu
      try simp only [rvV]
      obtain ⟨p0, p1, p2, p3, p4, p5, p6⟩ := H3.out.r1.seven
      obtain ⟨y0, y1, y2, y3, y4, y5, y6⟩ := H3.out.r1.fz7
      go_wp2
      have H4 := H3.out.set7 k' cR' cT' E' P' HX3.out.1 (HP1.out.new HX3.out.2.1)
      unfold s7 at H4
      refine ⟨⟨_, rfl, Lib.hid ⟨k', _, AR', cR', AT', cT', E', P', H4, HN.out _ _ _ _ HX3.out.2.2⟩⟩, lt_eqB (measP_of H4.r1) (measP_of HP1.out.r1) ?_⟩
      clear H4
      rcases HX3.out.2.2 with ⟨h, _, hc⟩ | ⟨h, _⟩
      ·have h7 := itemB_ok hc
       have h8 := HLEN.out
       simp [h]
       omega
      ·simp [h]
     ·have t2 : (u == 93) = false := by simpa using hu93
      clear hu93
      have hit := item10_any wr B v1 v2 v3 v4 L (some ad) n cl k l ⟨no, [], []⟩ AR cR AT cT hp.loc (by have := hp.sz; have := hp.hB; omega) hR HC5.out hp.sw hp.l hkn hn hcl (by simp) (by simp)
      unfold rvV at hit
      obtain ⟨p0, p1, p2, p3, p4, p5, p6⟩ := hp.r1.seven
      obtain ⟨d0, d1, d2, d3⟩ := hp.r2.four
      clear hp
      go_wp2_with fail
      refine hit.mono ?_
      rintro e w3 ⟨v, rfl, hb3, s', AR', cR', AT', cT', k', E', P', rfl, hs3, hno3, hcase⟩
      have H3 := Lib.hid (HP1.out.next hb3)
      have HX3 := Lib.hid (And.intro hs3 (And.intro hno3 hcase))
      clear hit hb3 hs3 hno3 hcase p0 p1 p2 p3 p4 p5 p6 d0 d1 d2 d3 hcu
      try simp only [rvV]
      obtain ⟨p0, p1, p2, p3, p4, p5, p6⟩ := H3.out.r1.seven
      obtain ⟨y0, y1, y2, y3, y4, y5, y6⟩ := H3.out.r1.fz7
      go_wp2
      have H4 := H3.out.set7 k' cR' cT' E' P' HX3.out.1 (HP1.out.new HX3.out.2.1)
      unfold s7 at H4
      refine ⟨⟨_, rfl, Lib.hid ⟨k', _, AR', cR', AT', cT', E', P', H4, HN.out _ _ _ _ HX3.out.2.2⟩⟩, lt_eqB (measP_of H4.r1) (measP_of HP1.out.r1) ?_⟩
      clear H4
      rcases HX3.out.2.2 with ⟨h, _, hc⟩ | ⟨h, _⟩
      ·have h7 := itemB_ok hc
       have h8 := HLEN.out
       simp [h]
       omega
      ·simp [h]
    ·have HN : Hid (R0 = .error (30, n)) := Lib.hid (by
      have hnn := HLEN.out
      rw [hr0, item_end (by have := ha2 (by omega); omega), hnn])
     clear hr0 ha1 ha2
     have i1 : (n : Int) ≤ (k : Int) := by omega
     have hfl := fail10_any wr Al n cl k (⟨no, [], []⟩ : BSet).no AR (⟨no, [], []⟩ : BSet).rs.length cR AT (⟨no, [], []⟩ : BSet).ts.length cT 30 n
     obtain ⟨p0, p1, p2, p3, p4, p5, p6⟩ := hp.r1.seven
     clear hp
     go_wp2_with fail
     refine hfl.mono ?_
     rintro e w3 ⟨rfl, hb3⟩
     have H3 := Lib.hid (HP1.out.next hb3)
     clear hfl hb3 p0 p1 p2 p3 p4 p5 p6
     obtain ⟨p0, p1, p2, p3, p4, p5, p6⟩ := H3.out.r1.seven
     obtain ⟨y0, y1, y2, y3, y4, y5, y6⟩ := H3.out.r1.fz7
     go_wp2
     have H4 := H3.out.set7 k cR cT 30 n H3.out.sw H3.out.lt
     unfold s7 at H4
     refine ⟨⟨_, rfl, Lib.hid ⟨k, _, AR, cR, AT, cT, 30, n, H4, .inr (.inr ⟨by omega, HN.out⟩)⟩⟩, lt_eqB (measP_of H4.r1) (measP_of HP1.out.r1) ?_⟩
     clear H4
     simp
   ·by_cases hkn : k < n
    ·obtain ⟨ad, u, rfl, -, hu, hcu⟩ := hp.l.at_ hkn
     have i0 : (0 : Int) ≤ (k : Int) := by omega
     have i1 : ¬ (n : Int) ≤ (k : Int) := by omega
     have i2 : (k : Int) < (n : Int) := by omega
     by_cases hu93 : u = 93
     ·have t2 : (u == 93) = true := by simpa using hu93
      have h93 : atS l k [93] = true := by rw [atS_sign, hu, hu93]; rfl
      have HN0 : Hid (R0 = contB no (.ok (s, k + 1))) := Lib.hid (by rw [hr0, items_shut (by have := HLEN.out; omega) h93])
      obtain ⟨sn, rs, ts⟩ := s
      simp only at hsn
      subst hsn
      obtain ⟨-, p1, p2, p3, p4, p5, -⟩ := hp.r1.seven
      simp only at p2 p3 p4
      have f4 := hp.r1.frozen 4
      clear hr0 hu hu93 h93 hsz
      cases sn with
      | true =>
       have HN : Hid (R0 = .ok (⟨true, rs, []⟩, k + 1)) := Lib.hid HN0.out
       have HX0 := Lib.hid (HP1.out.own (((Fr.of_below (X := (· = S + 1 + 1)) (Below.refl _ _)).setB 4 (.slice none 0 0))) (s' := ⟨true, rs, []⟩) (AR' := AR) (AT' := none) (cR' := cR) (cT' := 0) (k' := k) (E' := 0) (P' := 0) (by
        have hr := HP1.out.r1.set 4 (.slice none 0 0)
        simp only [g1, g2, g3] at hr
        exact hr) ⟨HP1.out.sw.r, fun h => absurd h (by simp), fun ad e => by cases e⟩ (fun ad e => by cases e))
       clear hp HN0
       go_upto_region 12 with fail
       refine wp_nameW fun w5 hw5 => ?_
       have HX := HX0
       rw [← hw5] at HX
       clear HX0 hw5 p1 p2 p3 p4 p5 f4 hcu
       obtain ⟨-, p1, p2, p3, p4, -, -⟩ := HX.out.r1.seven
       simp only at p2 p3 p4
       have hS1 : (fun W' : World => W'.cell? ⟨S + 1 + 1, 1, none⟩ = some (.int .i64 k) ∧ W'.cell? ⟨S + 1 + 1, 2, none⟩ = some (.bool true) ∧ W'.cell? ⟨S + 1 + 1, 3, none⟩ = some (.slice AR rs.length cR) ∧ W'.cell? ⟨S + 1 + 1, 4, none⟩ = some (.slice none 0 0)) w5.drew := ⟨p1, p2, p3, p4⟩
       refine wp_region_held (S := fun W' : World => W'.cell? ⟨S + 1 + 1, 1, none⟩ = some (.int .i64 k) ∧ W'.cell? ⟨S + 1 + 1, 2, none⟩ = some (.bool true) ∧ W'.cell? ⟨S + 1 + 1, 3, none⟩ = some (.slice AR rs.length cR) ∧ W'.cell? ⟨S + 1 + 1, 4, none⟩ = some (.slice none 0 0)) (by kernel_rfl) ?_
       change wpAnyH _ _ _ _ _ _ _ _ w5.drew
       obtain ⟨k2, hk2⟩ : ∃ k2, k2 = k + 1 := ⟨_, rfl⟩
       have wk : IntKind.i64.wrap ((k : Int) + 1) = (k2 : Int) := by rw [IntKind.wrap_i64]; omega
       have HK2 := Lib.hid hk2
       iterate 5 (refine wpH rfl rfl ?_; try simp only [Act.put, g1, g2, g3, g4, g5, g6])
       have z0 := HX.out.r3.cell (i := 0) rfl
       have z1 := HX.out.r3.cell (i := 1) rfl
       have z2 := HX.out.r3.cell (i := 2) rfl
       have y0 := HX.out.r3.frozen 0
       have y1 := HX.out.r3.frozen 1
       have y2 := HX.out.r3.frozen 2
       refine wpAnyH_one (i := 5) (by kernel_rfl) rfl (fun K hK => ?_)
       simp only [g4, g5, g6]
       go_simp
       obtain ⟨w9, hw9⟩ : ∃ w9, w9 = (s3 w5 (S + 1) (.bool true) (.slice AR rs.length cR) (.slice none 0 0)).drew := ⟨_, rfl⟩
       obtain ⟨hs9, hb9, hr9, hbx⟩ := HX.out.end2 HX.out.sw (fun ad e => (HX.out.lt ad e).2.1) _ _ _ w9 hw9
       unfold s3 at hw9
       rw [← hw9]
       have hS9 : (fun W' : World => W'.cell? ⟨S + 1 + 1, 1, none⟩ = some (.int .i64 k) ∧ W'.cell? ⟨S + 1 + 1, 2, none⟩ = some (.bool true) ∧ W'.cell? ⟨S + 1 + 1, 3, none⟩ = some (.slice AR rs.length cR) ∧ W'.cell? ⟨S + 1 + 1, 4, none⟩ = some (.slice none 0 0)) w9 := by
        obtain ⟨-, h1, h2, h3, h4, -, -⟩ := hbx.seven
        exact ⟨h1, h2, h3, h4⟩
       refine hK.out _ _ hS9 (fun _ => ?_)
       try simp only [Act.put, g1, g2, g3, g4, g5, g6]
       iterate 3 (refine wpH rfl rfl ?_; try simp only [Act.put, g1, g2, g3, g4, g5, g6])
       refine wpAnyH_done (by kernel_rfl) ?_ _
       have e0 := hr9.cell (i := 0) rfl
       have e1 := hr9.cell (i := 1) rfl
       have e2 := hr9.cell (i := 2) rfl
       have HV : Hid (brkL L l at_ = (⟨true, rs, ([] : List (List Int))⟩, k2, 0, 0)) := Lib.hid (by
        rw [hk2]
        exact brk_ok (HR0.out.symm.trans HN.out))
       clear hK hw9 hS1 hS9 hbx p1 p2 p3 p4 z0 z1 z2 y0 y1 y2 wk hk2
       go_wp2
       refine bodyPost_ret (v := .tuple #[.agg #[.bool true, .slice AR rs.length cR, .slice none 0 0], .int .i64 k2, .int .i64 0, .int .i64 0]) (by have := HK2.out; simp [results, Tryz.results31, go_sem, e0, e1, e2]; omega) rfl ?_
       rw [HV.out]
       exact ⟨by rw [HSS.out]; exact hb9, AR, cR, none, 0, rfl, hs9⟩
      | false =>
       have HN : Hid (R0 = .ok (⟨false, rs, ts⟩, k + 1)) := Lib.hid HN0.out
       have HX := HP1
       clear hp HN0
       go_upto_region 12 with fail
       clear p5 f4 hcu
       have hS1 : (fun W' : World => W'.cell? ⟨S + 1 + 1, 1, none⟩ = some (.int .i64 k) ∧ W'.cell? ⟨S + 1 + 1, 2, none⟩ = some (.bool false) ∧ W'.cell? ⟨S + 1 + 1, 3, none⟩ = some (.slice AR rs.length cR) ∧ W'.cell? ⟨S + 1 + 1, 4, none⟩ = some (.slice AT ts.length cT)) wr.drew := ⟨p1, p2, p3, p4⟩
       refine wp_region_held (S := fun W' : World => W'.cell? ⟨S + 1 + 1, 1, none⟩ = some (.int .i64 k) ∧ W'.cell? ⟨S + 1 + 1, 2, none⟩ = some (.bool false) ∧ W'.cell? ⟨S + 1 + 1, 3, none⟩ = some (.slice AR rs.length cR) ∧ W'.cell? ⟨S + 1 + 1, 4, none⟩ = some (.slice AT ts.length cT)) (by kernel_rfl) ?_
       change wpAnyH _ _ _ _ _ _ _ _ wr.drew
       obtain ⟨k2, hk2⟩ : ∃ k2, k2 = k + 1 := ⟨_, rfl⟩
       have wk : IntKind.i64.wrap ((k : Int) + 1) = (k2 : Int) := by rw [IntKind.wrap_i64]; omega
       have HK2 := Lib.hid hk2
       iterate 5 (refine wpH rfl rfl ?_; try simp only [Act.put, g1, g2, g3, g4, g5, g6])
       have z0 := HX.out.r3.cell (i := 0) rfl
       have z1 := HX.out.r3.cell (i := 1) rfl
       have z2 := HX.out.r3.cell (i := 2) rfl
       have y0 := HX.out.r3.frozen 0
       have y1 := HX.out.r3.frozen 1
       have y2 := HX.out.r3.frozen 2
       refine wpAnyH_one (i := 5) (by kernel_rfl) rfl (fun K hK => ?_)
       simp only [g4, g5, g6]
       go_simp
       obtain ⟨w9, hw9⟩ : ∃ w9, w9 = (s3 wr (S + 1) (.bool false) (.slice AR rs.length cR) (.slice AT ts.length cT)).drew := ⟨_, rfl⟩
       obtain ⟨hs9, hb9, hr9, hbx⟩ := HX.out.end2 HX.out.sw (fun ad e => (HX.out.lt ad e).2.1) _ _ _ w9 hw9
       unfold s3 at hw9
       rw [← hw9]
       have hS9 : (fun W' : World => W'.cell? ⟨S + 1 + 1, 1, none⟩ = some (.int .i64 k) ∧ W'.cell? ⟨S + 1 + 1, 2, none⟩ = some (.bool false) ∧ W'.cell? ⟨S + 1 + 1, 3, none⟩ = some (.slice AR rs.length cR) ∧ W'.cell? ⟨S + 1 + 1, 4, none⟩ = some (.slice AT ts.length cT)) w9 := by
        obtain ⟨-, h1, h2, h3, h4, -, -⟩ := hbx.seven
        exact ⟨h1, h2, h3, h4⟩
       refine hK.out _ _ hS9 (fun _ => ?_)
       try simp only [Act.put, g1, g2, g3, g4, g5, g6]
       iterate 3 (refine wpH rfl rfl ?_; try simp only [Act.put, g1, g2, g3, g4, g5, g6])
       refine wpAnyH_done (by kernel_rfl) ?_ _
       have e0 := hr9.cell (i := 0) rfl
       have e1 := hr9.cell (i := 1) rfl
       have e2 := hr9.cell (i := 2) rfl
       have HV : Hid (brkL L l at_ = (⟨false, rs, ts⟩, k2, 0, 0)) := Lib.hid (by
        rw [hk2]
        exact brk_ok (HR0.out.symm.trans HN.out))
       clear hK hw9 hS1 hS9 hbx p1 p2 p3 p4 z0 z1 z2 y0 y1 y2 wk hk2
       go_wp2
       refine bodyPost_ret (v := .tuple #[.agg #[.bool false, .slice AR rs.length cR, .slice AT ts.length cT], .int .i64 k2, .int .i64 0, .int .i64 0]) (by have := HK2.out; simp [results, Tryz.results31, go_sem, e0, e1, e2]; omega) rfl ?_
       rw [HV.out]
       exact ⟨by rw [HSS.out]; exact hb9, AR, cR, AT, cT, rfl, hs9⟩
     ·have t2 : (u == 93) = false := by simpa using hu93
      have h93 : atS l k [93] = false := by rw [atS_sign, hu]; simpa using hu93
      have HN : Hid (∀ s' k' E P, ((E = 0 ∧ P = 0 ∧ itemB L l s k = .ok (s', k')) ∨ (E ≠ 0 ∧ itemB L l s k = .error (E, P))) → LInv L l n R0 no false k' s' E P) := Lib.hid (fun s' k' E P h => by
       have hnn := HLEN.out
       rcases h with ⟨h1, h2, h3⟩ | ⟨h1, h3⟩
       ·exact .inr (.inl ⟨h1, h2, rfl, by have := (itemB_ok h3).2; omega, by rw [itemB_no h3, hsn], itemB_sz h3 hsz hR HC5.out, by rw [hr0, items_go (by omega) h93 h3]⟩)
       ·exact .inr (.inr ⟨h1, by rw [hr0, items_bad (by omega) h93 h3]; rfl⟩))
      have hz1 : s.rs.length ≤ 1000000000 ∧ s.ts.length ≤ 1000000000 := ⟨by have := hsz.1; omega, by have := hsz.2; omega⟩
      clear hr0 hu hu93 h93 hsn hsz
      have hit := item10_any wr B v1 v2 v3 v4 L (some ad) n cl k l s AR cR AT cT hp.loc (by have := hp.sz; have := hp.hB; omega) hR HC5.out hp.sw hp.l hkn hn hcl (by omega) (by omega)
      unfold rvV at hit
      obtain ⟨p0, p1, p2, p3, p4, p5, p6⟩ := hp.r1.seven
      obtain ⟨d0, d1, d2, d3⟩ := hp.r2.four
      clear hp
      go_wp2_with fail
      refine hit.mono ?_
      rintro e w3 ⟨v, rfl, hb3, s', AR', cR', AT', cT', k', E', P', rfl, hs3, hno3, hcase⟩
      have H3 := Lib.hid (HP1.out.next hb3)
      have HX3 := Lib.hid (And.intro hs3 (And.intro hno3 hcase))
      clear hit hb3 hs3 hno3 hcase p0 p1 p2 p3 p4 p5 p6 d0 d1 d2 d3 hcu
      try simp only [rvV]
      obtain ⟨p0, p1, p2, p3, p4, p5, p6⟩ := H3.out.r1.seven
      obtain ⟨y0, y1, y2, y3, y4, y5, y6⟩ := H3.out.r1.fz7
      go_wp2
      have H4 := H3.out.set7 k' cR' cT' E' P' HX3.out.1 (HP1.out.new HX3.out.2.1)
      unfold s7 at H4
      refine ⟨⟨_, rfl, Lib.hid ⟨k', _, AR', cR', AT', cT', E', P', H4, HN.out _ _ _ _ HX3.out.2.2⟩⟩, lt_eqB (measP_of H4.r1) (measP_of HP1.out.r1) ?_⟩
      clear H4
      rcases HX3.out.2.2 with ⟨h, _, hc⟩ | ⟨h, _⟩
      ·have h7 := itemB_ok hc
       have h8 := HLEN.out
       simp [h]
       omega
      ·simp [h]
    ·have HN : Hid (R0 = .error (30, n)) := Lib.hid (by
      have hnn := HLEN.out
      have h93 : atS l k [93] = false := by
       rw [Bool.eq_false_iff]
       intro h1
       have h2 := atS_len h1 (by simp)
       simp at h2
       omega
      rw [hr0, items_bad (by omega) h93 (item_end (by omega)), hnn]
      rfl)
     clear hr0 hsn hsz
     have i1 : (n : Int) ≤ (k : Int) := by omega
     have hfl := fail10_any wr Al n cl k s.no AR s.rs.length cR AT s.ts.length cT 30 n
     obtain ⟨p0, p1, p2, p3, p4, p5, p6⟩ := hp.r1.seven
     clear hp
     go_wp2_with fail
     refine hfl.mono ?_
     rintro e w3 ⟨rfl, hb3⟩
     have H3 := Lib.hid (HP1.out.next hb3)
     clear hfl hb3 p0 p1 p2 p3 p4 p5 p6
     obtain ⟨p0, p1, p2, p3, p4, p5, p6⟩ := H3.out.r1.seven
     obtain ⟨y0, y1, y2, y3, y4, y5, y6⟩ := H3.out.r1.fz7
     go_wp2
     have H4 := H3.out.set7 k cR cT 30 n H3.out.sw H3.out.lt
     unfold s7 at H4
     refine ⟨⟨_, rfl, Lib.hid ⟨k, _, AR, cR, AT, cT, 30, n, H4, .inr (.inr ⟨by omega, HN.out⟩)⟩⟩, lt_eqB (measP_of H4.r1) (measP_of HP1.out.r1) ?_⟩
     clear H4
     simp
   ·have t1 : (((E : Nat) : Int) == 0) = false := by simp; omega
    obtain ⟨-, -, -, -, -, p5, p6⟩ := hp.r1.seven
    have HV : Hid (brkL L l at_ = (⟨false, [], []⟩, 0, E, P)) := Lib.hid (brk_err (HR0.out.symm.trans hr0))
    have HX := Lib.hid hp
    clear hp hr0 hE
    go_wp2
    have hS1 : (fun W' : World => W'.cell? ⟨S + 1 + 1, 5, none⟩ = some (.int .i64 E) ∧ W'.cell? ⟨S + 1 + 1, 6, none⟩ = some (.int .i64 P)) wr.drew := ⟨p5, p6⟩
    refine wp_region_held (S := fun W' : World => W'.cell? ⟨S + 1 + 1, 5, none⟩ = some (.int .i64 E) ∧ W'.cell? ⟨S + 1 + 1, 6, none⟩ = some (.int .i64 P)) (by kernel_rfl) ?_
    change wpAnyH _ _ _ _ _ _ _ _ wr.drew
    iterate 5 (refine wpH rfl rfl ?_; try simp only [Act.put, g1, g2, g3, g4, g5, g6])
    have z0 := HX.out.r3.cell (i := 0) rfl
    have z1 := HX.out.r3.cell (i := 1) rfl
    have z2 := HX.out.r3.cell (i := 2) rfl
    have y0 := HX.out.r3.frozen 0
    have y1 := HX.out.r3.frozen 1
    have y2 := HX.out.r3.frozen 2
    refine wpAnyH_one (i := 5) (by kernel_rfl) rfl (fun K hK => ?_)
    simp only [g4, g5, g6]
    go_simp
    obtain ⟨w9, hw9⟩ : ∃ w9, w9 = (s3 wr (S + 1) (.bool false) (.slice none 0 0) (.slice none 0 0)).drew := ⟨_, rfl⟩
    obtain ⟨hs9, hb9, hr9, hbx⟩ := HX.out.end2 (SetW.nil wr false) (fun ad e => by cases e) _ _ _ w9 hw9
    unfold s3 at hw9
    rw [← hw9]
    have hS9 : (fun W' : World => W'.cell? ⟨S + 1 + 1, 5, none⟩ = some (.int .i64 E) ∧ W'.cell? ⟨S + 1 + 1, 6, none⟩ = some (.int .i64 P)) w9 := by
     obtain ⟨-, -, -, -, -, h1, h2⟩ := hbx.seven
     exact ⟨h1, h2⟩
    refine hK.out _ _ hS9 (fun _ => ?_)
    try simp only [Act.put, g1, g2, g3, g4, g5, g6]
    iterate 3 (refine wpH rfl rfl ?_; try simp only [Act.put, g1, g2, g3, g4, g5, g6])
    refine wpAnyH_done (by kernel_rfl) ?_ _
    have e0 := hr9.cell (i := 0) rfl
    have e1 := hr9.cell (i := 1) rfl
    have e2 := hr9.cell (i := 2) rfl
    clear hK hw9 hS1 hS9 hbx p5 p6 z0 z1 z2 y0 y1 y2
    go_wp2
    refine bodyPost_ret (v := .tuple #[.agg #[.bool false, .slice none 0 0, .slice none 0 0], .int .i64 0, .int .i64 E, .int .i64 P]) (by simp [results, Tryz.results31, go_sem, e0, e1, e2]) rfl ?_
    rw [HV.out]
    exact ⟨by rw [HSS.out]; exact hb9, none, 0, none, 0, rfl, hs9⟩
end Go.Proofs.YthgiikhkcpbpfaaGreatDoor.C
namespace Go.Proofs.YthgiikhkcpbpfaaGreatDoor.C
open Go.RowKit

set_option maxRecDepth 100000 in
set_option maxHeartbeats 8000000 in
theorem sameSet10_any (w : World) (B : Nat) (s : BSet) (AR AT BR BT : Option Addr) (cR cT dR dT : Nat) (h1 : SI 2 w B AR s.rs.length (s.rs.map prRow)) (h2 : SI 2 w B BR s.rs.length (s.rs.map prRow)) (h3 : RowsR w B AT s.ts) (h4 : RowsR w B BT s.ts) (hB : B ≤ w.heap.size) (hr : s.rs.length ≤ 2000000000) (ht : s.ts.length ≤ 2000000000) :
  Calls Tryz.prog 55 #[.agg #[.bool s.no, .slice AR s.rs.length cR, .slice AT s.ts.length cT], .agg #[.bool s.no, .slice BR s.rs.length dR, .slice BT s.ts.length dT]] w fun e w' => e = .returned (.bool true) ∧ Below w.heap.size w w' := by
 obtain ⟨nb, rs, ts⟩ := s
 simp only at h1 h2 h3 h4 hr ht ⊢
 obtain ⟨S, hS⟩ : ∃ S, w.heap.size = S := ⟨_, rfl⟩
 rw [hS]
 obtain ⟨n, hn⟩ : ∃ n, n = rs.length := ⟨_, rfl⟩
 obtain ⟨m, hm⟩ : ∃ m, m = ts.length := ⟨_, rfl⟩
 rw [← hn] at h1 h2 hr ⊢
 rw [← hm] at ht ⊢
 obtain ⟨W, hW⟩ : ∃ W, W = (w.alloc (.cells #[.bool nb, .slice AR n cR, .slice AT m cT] 34)).alloc (.cells #[.bool nb, .slice BR n dR, .slice BT m dT] 34) := ⟨_, rfl⟩
 obtain ⟨r1, r2, hbW, hsW⟩ := two_rowsB hS hW
 have HA := Lib.hid (h1.on hbW (by omega))
 have HB := Lib.hid (h2.on hbW (by omega))
 have HTA := Lib.hid (h3.on hbW (by omega))
 have HTB := Lib.hid (h4.on hbW (by omega))
 have HBW := Lib.hid hbW
 have HR1 := Lib.hid r1
 have HR2 := Lib.hid r2
 have HN := Lib.hid (And.intro hn hm)
 have HSZ := Lib.hid hsW
 have HBS : Hid (B ≤ S) := Lib.hid (by omega)
 have p0 : W.cell? ⟨S, 0, none⟩ = some (.bool nb) := r1.cell (i := 0) rfl
 have p1 : W.cell? ⟨S, 1, none⟩ = some (.slice AR n cR) := r1.cell (i := 1) rfl
 have p2 : W.cell? ⟨S, 2, none⟩ = some (.slice AT m cT) := r1.cell (i := 2) rfl
 have q0 : W.cell? ⟨S + 1, 0, none⟩ = some (.bool nb) := r2.cell (i := 0) rfl
 have q1 : W.cell? ⟨S + 1, 1, none⟩ = some (.slice BR n dR) := r2.cell (i := 1) rfl
 have q2 : W.cell? ⟨S + 1, 2, none⟩ = some (.slice BT m dT) := r2.cell (i := 2) rfl
 have hnb : (nb != nb) = false := by cases nb <;> rfl
 clear h1 h2 h3 h4 hbW r1 r2 hn hm hsW
 go_enter Tryz.func55, Tryz.ntmps55
 go_upto_region 1 with fail
 rw [← hW]
 clear hW hS
 go_wp2
 clear p0 p1 p2 q0 q1 q2 hnb
 go_loopw [5] (fun iv wr => ∃ i : Nat, i ≤ n ∧ iv = .int .i64 i ∧ Hid (Below W.heap.size W wr)) (fun iv _ => n - (intOf iv).toNat)
 case atStart => exact ⟨0, Nat.zero_le _, rfl, Lib.hid (Below.refl _ _)⟩
 case round =>
  obtain ⟨i, hin, rfl, HQ⟩ := hrel
  have r1 := HR1.out.on HQ.out HR1.out.lt
  have r2 := HR2.out.on HQ.out HR2.out.lt
  have p1 : wr.cell? ⟨S, 1, none⟩ = some (.slice AR n cR) := r1.cell (i := 1) rfl
  have q1 : wr.cell? ⟨S + 1, 1, none⟩ = some (.slice BR n dR) := r2.cell (i := 1) rfl
  by_cases hlt : i < n
  ·obtain ⟨ad, u, v, rfl, -, hx, d0, d1⟩ := (HA.out.on HQ.out (by have := HBS.out; have := HSZ.out; omega)).at2 hlt
   obtain ⟨be, u', v', rfl, -, hx', e0, e1⟩ := (HB.out.on HQ.out (by have := HBS.out; have := HSZ.out; omega)).at2 hlt
   rw [hx] at hx'
   injection hx' with hx'
   injection hx' with hu hv
   subst hu
   injection hv with hv
   subst hv
   rw [List.getElem?_map] at hx
   obtain ⟨r, hr, hr2⟩ := Option.map_eq_some_iff.1 hx
   simp only [prRow, List.cons.injEq, and_true] at hr2
   obtain ⟨rfl, rfl⟩ := hr2
   have w1 : IntKind.i64.wrap ((i : Int) + 1) = (i : Int) + 1 := by rw [IntKind.wrap_i64]; omega
   have i0 : (0 : Int) ≤ (i : Int) := by omega
   have i1 : (i : Int) < (n : Int) := by omega
   clear hx r1 r2
   go_wp2
   have hS1 : (fun W' : World => W'.cell? ⟨S, 1, none⟩ = some (.slice (some ad) n cR) ∧ W'.cell? ⟨S + 1, 1, none⟩ = some (.slice (some be) n dR) ∧ W'.cell? (ad.add (i * 2)) = some (.int .i32 r.1) ∧ W'.cell? ⟨(ad.add (i * 2)).block, (ad.add (i * 2)).off + 1, none⟩ = some (.int .i32 r.2) ∧ W'.cell? (be.add (i * 2)) = some (.int .i32 r.1) ∧ W'.cell? ⟨(be.add (i * 2)).block, (be.add (i * 2)).off + 1, none⟩ = some (.int .i32 r.2)) wr.drew := ⟨p1, q1, d0, d1, e0, e1⟩
   refine wp_region_held (S := fun W' : World => W'.cell? ⟨S, 1, none⟩ = some (.slice (some ad) n cR) ∧ W'.cell? ⟨S + 1, 1, none⟩ = some (.slice (some be) n dR) ∧ W'.cell? (ad.add (i * 2)) = some (.int .i32 r.1) ∧ W'.cell? ⟨(ad.add (i * 2)).block, (ad.add (i * 2)).off + 1, none⟩ = some (.int .i32 r.2) ∧ W'.cell? (be.add (i * 2)) = some (.int .i32 r.1) ∧ W'.cell? ⟨(be.add (i * 2)).block, (be.add (i * 2)).off + 1, none⟩ = some (.int .i32 r.2)) (by kernel_rfl) ?_
   change wpAnyH _ _ _ _ _ _ _ _ wr.drew
   iterate 11 (refine wpH rfl rfl ?_; try simp only [Act.put, g1, g2, g3, g4, g5, g6])
   refine wpAnyH_done (by kernel_rfl) ?_ _
   have HE : Hid (Below W.heap.size W wr.drew) := Lib.hid (below_drew HQ.out)
   clear hS1
   go_wp2
   go_roundw
   case rel => exact ⟨i + 1, by omega, by go_num, HE⟩
   case measure => simp [intOf]; omega
  ·obtain rfl : i = n := by omega
   have HQ0 := HQ
   clear r1 r2
   go_wp2
   clear p1 q1
   go_loopw [6] (fun iv wq => ∃ j : Nat, j ≤ m ∧ iv = .int .i64 j ∧ Hid (Below W.heap.size W wq)) (fun iv _ => m - (intOf iv).toNat)
   case atStart => exact ⟨0, Nat.zero_le _, rfl, HQ0⟩
   case round =>
    obtain ⟨j, hjm, rfl, HJ⟩ := hrel
    have r1 := HR1.out.on HJ.out HR1.out.lt
    have r2 := HR2.out.on HJ.out HR2.out.lt
    have p2 : wr.cell? ⟨S, 2, none⟩ = some (.slice AT m cT) := r1.cell (i := 2) rfl
    have q2 : wr.cell? ⟨S + 1, 2, none⟩ = some (.slice BT m dT) := r2.cell (i := 2) rfl
    by_cases hlt2 : j < m
    ·obtain ⟨r, hr⟩ : ∃ r, ts[j]? = some r := ⟨_, List.getElem?_eq_getElem (by have := HN.out.2; omega)⟩
     obtain ⟨ad, a, c, rfl, -, hc, hri, hrl⟩ := (HTA.out.on HJ.out (by have := HBS.out; have := HSZ.out; omega)).at_ hr
     obtain ⟨be, b, d, rfl, -, hc2, hri2, -⟩ := (HTB.out.on HJ.out (by have := HBS.out; have := HSZ.out; omega)).at_ hr
     have hsa := same_yes wr.drew _ _ a b _ c _ d _ _ rfl (hri.drew) (hri2.drew) hrl hrl
     have i0 : (0 : Int) ≤ (j : Int) := by omega
     have i1 : (j : Int) < (m : Int) := by omega
     clear hr hri hri2 r1 r2
     go_wp2
     have hS1 : (fun W' : World => W'.cell? ⟨S, 2, none⟩ = some (.slice (some ad) m cT) ∧ W'.cell? ⟨S + 1, 2, none⟩ = some (.slice (some be) m dT) ∧ W'.cell? (ad.add j) = some (.slice a r.length c) ∧ W'.cell? (be.add j) = some (.slice b r.length d)) wr.drew := ⟨p2, q2, hc, hc2⟩
     refine wp_region_held (S := fun W' : World => W'.cell? ⟨S, 2, none⟩ = some (.slice (some ad) m cT) ∧ W'.cell? ⟨S + 1, 2, none⟩ = some (.slice (some be) m dT) ∧ W'.cell? (ad.add j) = some (.slice a r.length c) ∧ W'.cell? (be.add j) = some (.slice b r.length d)) (by kernel_rfl) ?_
     change wpAnyH _ _ _ _ _ _ _ _ wr.drew
     iterate 10 (refine wpH rfl rfl ?_; try simp only [Act.put, g1, g2, g3, g4, g5, g6])
     refine wpAnyH_one (i := 10) (by kernel_rfl) rfl (fun K hK => ?_)
     simp only [g4, g5, g6]
     go_simp
     go_at_call 56
     refine hsa.mono ?_
     rintro e w2 ⟨rfl, q3, rfl⟩
     have hS2 : (fun W' : World => W'.cell? ⟨S, 2, none⟩ = some (.slice (some ad) m cT) ∧ W'.cell? ⟨S + 1, 2, none⟩ = some (.slice (some be) m dT) ∧ W'.cell? (ad.add j) = some (.slice a r.length c) ∧ W'.cell? (be.add j) = some (.slice b r.length d)) (wr.drew.drewN q3) := hS1
     clear hsa
     refine hK.out _ _ hS2 (fun _ => ?_)
     try simp only [Act.put, g1, g2, g3, g4, g5, g6]
     iterate 1 (refine wpH rfl rfl ?_; try simp only [Act.put, g1, g2, g3, g4, g5, g6])
     refine wpAnyH_done (by kernel_rfl) ?_ _
     have HE : Hid (∀ q, Below W.heap.size W (wr.drewN q)) := Lib.hid (fun q => below_drewN HJ.out q)
     have HE2 : Hid (Below W.heap.size W (wr.drew.drewN q3)) := Lib.hid (below_drewN (below_drew HJ.out) q3)
     clear hS1 hS2 hK
     go_wp2
     go_roundw
     case rel => exact ⟨j + 1, by omega, by go_num, by first | exact HE2 | exact Lib.hid (HE.out _)⟩
     case measure => simp [intOf]; omega
    ·obtain rfl : j = m := by omega
     have HE : Hid (Below S w wr) := Lib.hid (HBW.out.trans (HJ.out.mono (by have := HR1.out.lt; omega)))
     clear r1 r2
     go_wp2
     go_ret
     exact ⟨rfl, HE.out⟩
set_option maxRecDepth 100000 in
set_option maxHeartbeats 1000000 in
theorem sameW_any (w : World) (B : Nat) (s : BSet) (AR AT BR BT : Option Addr) (cR cT dR dT : Nat) (h1 : SI 2 w B AR s.rs.length (s.rs.map prRow)) (h2 : SI 2 w B BR s.rs.length (s.rs.map prRow)) (h3 : RowsR w B AT s.ts) (h4 : RowsR w B BT s.ts) (hB : B ≤ w.heap.size) (hr : s.rs.length ≤ 2000000000) (ht : s.ts.length ≤ 2000000000) :
  Calls Tryz.prog 32 #[.agg #[.bool s.no, .slice AR s.rs.length cR, .slice AT s.ts.length cT], .agg #[.bool s.no, .slice BR s.rs.length dR, .slice BT s.ts.length dT]] w fun e w' => e = .returned (.bool true) ∧ Below w.heap.size w w' := by
 obtain ⟨W, hW⟩ : ∃ W, W = (w.alloc (.cells #[.bool s.no, .slice AR s.rs.length cR, .slice AT s.ts.length cT] 34)).alloc (.cells #[.bool s.no, .slice BR s.rs.length dR, .slice BT s.ts.length dT] 34) := ⟨_, rfl⟩
 obtain ⟨-, -, hbW, -⟩ := two_rowsB rfl hW
 have hs := sameSet10_any W B s AR AT BR BT cR cT dR dT (h1.on hbW hB) (h2.on hbW hB) (h3.on hbW hB) (h4.on hbW hB) (Nat.le_trans hB hbW.size) hr ht
 have HB := Lib.hid hbW
 clear h1 h2 h3 h4 hbW
 go_enter Tryz.func32, Tryz.ntmps32
 go_wp2_with fail
 rw [← hW]
 clear hW
 refine hs.mono ?_
 rintro e w2 ⟨rfl, hb2⟩
 have HE : Hid (Below w.heap.size w w2) := Lib.hid (HB.out.trans (hb2.mono HB.out.size))
 clear hs hb2
 go_wp2
 go_ret
 exact ⟨rfl, HE.out⟩
end Go.Proofs.YthgiikhkcpbpfaaGreatDoor.C
namespace Go.Proofs.YthgiikhkcpbpfaaGreatDoor.C
open Go.RowKit

def ECode (er : BEr) : Prop := er.1 ≤ 40
theorem code30 (p : Nat) : ECode (30, p) := by show (30 : Nat) ≤ 40; omega
theorem code31 (p : Nat) : ECode (31, p) := by show (31 : Nat) ≤ 40; omega
theorem code40 (p : Nat) : ECode (40, p) := by show (40 : Nat) ≤ 40; omega
theorem namedB_c {L : Loc} {l : List Int} {b k : Nat} {x : Int} {er : BEr} (h : namedB L l b k x = .error er) : ECode er := by
 unfold namedB at h
 cases hu : upToL l k x with
 | error e =>
  rw [hu] at h
  injection h with h
  subst h
  rw [upToL_err hu]
  exact code30 _
 | ok p =>
  rw [hu] at h
  simp only at h
  split at h
  ·injection h with h; subst h; exact code30 _
  ·split at h
   ·cases h
   ·split at h
    ·injection h with h; subst h; first | exact code31 _ | exact code40 _
    ·cases h
theorem elemB10_c {L : Loc} {l : List Int} {k : Nat} {er : BEr} (h : elemB10 L l k = .error er) : ECode er := by
 unfold elemB10 at h
 split at h
 ·exact namedB_c h
 ·split at h
  ·injection h with h; subst h; exact code30 _
  ·cases h
theorem betwB_c {L : Loc} {s : BSet} {a b : List Int} {p : Nat} {er : BEr} (h : betwB L s a b p = .error er) : ECode er := by
 unfold betwB at h
 split at h
 ·split at h
  ·injection h with h; subst h; first | exact code31 _ | exact code40 _
  ·cases h
 ·split at h
  ·injection h with h; subst h; first | exact code31 _ | exact code40 _
  ·cases h
theorem itemB_c {L : Loc} {l : List Int} {s : BSet} {k : Nat} {er : BEr} (h : itemB L l s k = .error er) : ECode er := by
 cases h1 : atS l k [91, 58] with
 | true =>
  rw [item_class h1] at h
  unfold classB at h
  cases hu : upToL l (k + 2) 58 with
  | error e =>
   rw [hu] at h
   injection h with h
   subst h
   rw [upToL_err hu]
   exact code30 _
  | ok p =>
   rw [hu] at h
   simp only at h
   cases hr : rangesL L.cls (textL p.1) with
   | none => rw [hr] at h; injection h with h; subst h; first | exact code31 _ | exact code40 _
   | some rs => rw [hr] at h; cases h
 | false =>
  cases h2 : atS l k [91, 61] with
  | true =>
   rw [item_alike h1 h2] at h
   cases hu : namedB L l k (k + 2) 61 with
   | error e => rw [hu] at h; injection h with h; subst h; exact namedB_c hu
   | ok p => rw [hu] at h; cases h
  | false =>
   rw [item_elems h1 h2] at h
   unfold elemsB at h
   cases hu : elemB10 L l k with
   | error e => rw [hu] at h; injection h with h; subst h; exact elemB10_c hu
   | ok p =>
    rw [hu] at h
    simp only at h
    split at h
    ·cases hv : elemB10 L l (p.2 + 1) with
     | error e => rw [hv] at h; injection h with h; subst h; exact elemB10_c hv
     | ok x =>
      rw [hv] at h
      simp only at h
      cases hw : betwB L s p.1 x.1 p.2 with
      | error e => rw [hw] at h; injection h with h; subst h; exact betwB_c hw
      | ok s2 => rw [hw] at h; cases h
    ·cases h
theorem itemsB_c {L : Loc} {l : List Int} : ∀ (f : Nat) (s : BSet) (k : Nat) (er : BEr), itemsB L l f s k = .error er → ECode er
 | 0, _, _, _, h => by
  unfold itemsB at h
  injection h with h; subst h; exact code30 _
 | f + 1, s, k, er, h => by
  unfold itemsB at h
  split at h
  ·cases h
  ·cases hu : itemB L l s k with
   | error e => rw [hu] at h; injection h with h; subst h; exact itemB_c hu
   | ok p => rw [hu] at h; exact itemsB_c f _ _ er h
theorem readB_c {L : Loc} {l : List Int} {k : Nat} {er : BEr} (h : readB L l k = .error er) : ECode er := by
 unfold readB at h
 simp only at h
 cases hu : itemB L l ⟨atS l k [94], [], []⟩ (if atS l k [94] = true then k + 1 else k) with
 | error e => rw [hu] at h; injection h with h; subst h; exact itemB_c hu
 | ok p =>
  rw [hu] at h
  simp only at h
  cases hv : itemsB L l (l.length + 1 - p.2) p.1 p.2 with
  | error e => rw [hv] at h; injection h with h; subst h; exact itemsB_c _ _ _ _ hv
  | ok x => rw [hv] at h; cases h
theorem brk_code (L : Loc) (l : List Int) (at_ : Int) : (brkL L l at_).2.2.1 ≤ 40 := by
 unfold brkL
 cases h : readB L l (min at_.toNat l.length) with
 | error e => exact readB_c h
 | ok p => exact Nat.zero_le _
theorem itemsB_sz {L : Loc} {l : List Int} (hR : rightL L = true) (hc : ∀ c ∈ L.cls, c.rs.length ≤ 1000) : ∀ (f : Nat) (s : BSet) (k : Nat) (s' : BSet) (k' : Nat), itemsB L l f s k = .ok (s', k') → SzB s k → SzB s' k' ∧ k' ≤ l.length
 | 0, _, _, _, _, h, _ => by unfold itemsB at h; cases h
 | f + 1, s, k, s', k', h, hs => by
  unfold itemsB at h
  split at h
  ·next h93 =>
   have h1 := atS_len h93 (by simp)
   simp at h1
   injection h with h
   injection h with h2 h3
   subst h2 h3
   exact ⟨hs.up (by omega), by omega⟩
  ·cases hu : itemB L l s k with
   | error e => rw [hu] at h; cases h
   | ok p =>
    obtain ⟨s1, k1⟩ := p
    rw [hu] at h
    exact itemsB_sz hR hc f s1 k1 s' k' h (itemB_sz hu hs hR hc)
theorem brk_sz {L : Loc} (l : List Int) (at_ : Int) (hR : rightL L = true) (hc : ∀ c ∈ L.cls, c.rs.length ≤ 1000) : SzB (brkL L l at_).1 l.length := by
 unfold brkL
 cases h : readB L l (min at_.toNat l.length) with
 | error e => exact ⟨by simp, by simp⟩
 | ok p =>
  obtain ⟨s, k⟩ := p
  rw [readB_is] at h
  simp only
  cases hu : itemB L l ⟨atS l (min at_.toNat l.length) [94], [], []⟩ (if atS l (min at_.toNat l.length) [94] = true then min at_.toNat l.length + 1 else min at_.toNat l.length) with
  | error e => rw [hu] at h; cases h
  | ok p1 =>
   obtain ⟨s1, k1⟩ := p1
   rw [hu] at h
   simp only at h
   unfold contB at h
   cases hv : itemsB L l (l.length + 1 - k1) s1 k1 with
   | error e => rw [hv] at h; cases h
   | ok p2 =>
    obtain ⟨s2, k2⟩ := p2
    rw [hv] at h
    simp only at h
    injection h with h
    injection h with h1 h2
    obtain ⟨h3, h4⟩ := itemsB_sz hR hc _ _ _ _ _ hv (itemB_sz hu ⟨by simp, by simp⟩ hR hc)
    have h5 := h3.up h4
    subst h1
    split
    ·exact ⟨h5.1, by simp⟩
    ·exact h5
set_option maxRecDepth 100000 in
set_option maxHeartbeats 8000000 in
theorem tells_any (w : World) (T m B : Nat) (v1 v2 v3 v4 : Value) (L : Loc) (Al : Option Addr) (n c : Nat) (l : List Int) (at_ : Int) (hc : n ≤ c) (hl : RI .i32 w B Al n l) (hB : B ≤ w.heap.size) (hT : 0 < n → ∀ ad, Al = some ad → ad.block ≠ T) (ht : TabU T w T L m) (hg : Gl w) (hgt : (5 : Nat) < T)
  (hn : n ≤ 1000) (hR : rightL L = true) (hcl : ∀ k ∈ L.cls, k.rs.length ≤ 1000) (hm : m ≤ 100000000) (hL : LocR w T v1 v2 v3 v4 L) (ha : -9223372036854775808 ≤ at_) (hb : at_ ≤ 9223372036854775807) :
  Calls Tryz.prog 13 #[.slice Al n c, .int .i64 at_, .pointer (some ⟨T, 0, none⟩), .agg #[v1, v2, v3, v4]] w fun e w' => e = .returned (.bool true) ∧ TabU T w' T L (m + 8 * (n + 1)) ∧ Fr w w' (· = T) := by
 obtain ⟨S, hS⟩ : ∃ S, S = w.heap.size := ⟨_, rfl⟩
 obtain ⟨W, hW⟩ : ∃ W, W = w.alloc (.cells #[v1, v2, v3, v4] 27) := ⟨_, rfl⟩
 have hbW : Below w.heap.size w W := by rw [hW]; exact below_new _ _
 have hrW : Rw W S 27 #[v1, v2, v3, v4] := by rw [hW, hS]; exact heap_alloc_new w _
 have htl := ht.lt
 have hlen := hl.len
 have hlW : RI .i32 W B Al n l := hl.on hbW hB
 have hp := parseB_any W T m B L Al c l at_ (by omega) (by rw [hlen]; exact hlW) (by have := hbW.size; omega) (by rw [hlen]; exact hT) (ht.keep hbW) (hg.next hbW) hgt (by omega) hR hcl hm
 rw [hlen] at hp
 obtain ⟨r, hr⟩ : ∃ r, r = brkL L l at_ := ⟨_, rfl⟩
 rw [← hr] at hp
 have HRR := Lib.hid hr
 have hcode := brk_code L l at_
 have hsz := brk_sz (L := L) l at_ hR hcl
 rw [← hr] at hcode hsz
 have HSZ := Lib.hid hsz
 have HLEN := Lib.hid hlen
 have HBW := Lib.hid hbW
 have HLW := Lib.hid hlW
 have HT := Lib.hid hT
 have HLOC : Hid (LocR W T v1 v2 v3 v4 L) := Lib.hid (hL.on hbW (by omega))
 have HRW := Lib.hid hrW
 have HST : Hid (T < S ∧ S < W.heap.size ∧ B ≤ S) := Lib.hid ⟨by omega, hrW.lt, by omega⟩
 have HCL := Lib.hid hcl
 obtain ⟨A4, c4, xx, hv4, -⟩ := id HLOC.out.2.2.2.1
 clear hl hT ht hg hcl hL hbW hrW hlen hlW hr hsz hv4
 obtain ⟨s, kb, er, p⟩ := r
 simp only at hcode HSZ
 unfold BrkTold at hp
 simp only at hp
 go_enter Tryz.func13, Tryz.ntmps13
 go_wp2_with fail
 rw [← hW, ← hS]
 clear hW hS htl
 refine hp.mono ?_
 rintro e w2 ⟨v, rfl, ⟨vR, vT, rfl, hoR, hoT⟩, ht2, hf2⟩
 obtain ⟨AR, cR, rfl⟩ := row_form hoR
 obtain ⟨AT, cT, rfl, hrt⟩ := hoT.reads
 obtain ⟨AR', cR', hv, hsi⟩ := PrsR.of hoR
 injection hv with hA _ hC
 subst hA hC
 have HS2 := Lib.hid hsi
 have HT2 := Lib.hid hrt
 have HL2 : Hid (RI .i32 w2 w2.heap.size Al n l) := Lib.hid ((HLW.out.fr hf2 (by have := HST.out; omega) HT.out).more (by have := HST.out; have := hf2.size; omega))
 have HLOC2 : Hid (LocR w2 w2.heap.size v1 v2 v3 v4 L) := Lib.hid ((HLOC.out.on (hf2.belowT (by have := HST.out; omega)) (Nat.le_refl _)).more (by have := HST.out; have := hf2.size; omega))
 have HRW2 : Hid (Rw w2 S 27 #[v1, v2, v3, v4]) := Lib.hid (HRW.out.fr hf2 (by have := HST.out; omega))
 have HTU2 := Lib.hid ht2
 have HF2 : Hid (Fr w w2 (· = T)) := Lib.hid ((Fr.of_below HBW.out).trans hf2)
 clear hp hoR hoT hsi hrt ht2 hf2
 go_upto_region 2 with fail
 refine wp_nameW fun w3 hw3 => ?_
 obtain ⟨P9, hP9⟩ : ∃ P9, P9 = w2.heap.size := ⟨_, rfl⟩
 rw [← hP9]
 have hb3 : Below w2.heap.size w2 w3 := by rw [hw3]; exact below_new _ _
 have HB3 := Lib.hid hb3
 have HR9 : Hid (Rw w3 P9 34 #[.bool s.no, .slice AR s.rs.length cR, .slice AT s.ts.length cT]) := Lib.hid (by rw [hw3, hP9]; exact heap_alloc_new w2 _)
 have HRW3 := Lib.hid (HRW2.out.on hb3 HRW2.out.lt)
 have hpd := parse10_any w3 w3.heap.size v1 v2 v3 v4 L Al n c l at_ ((HLOC2.out.on hb3 (Nat.le_refl _)).more hb3.size) (Nat.le_refl _) hR HCL.out ((HL2.out.on hb3 (Nat.le_refl _)).more hb3.size) hn hc ha hb
 rw [← HRR.out] at hpd
 clear hw3 hP9 hb3
 obtain ⟨d0, d1, d2, d3⟩ := HRW3.out.four
 go_wp2_with fail
 refine hpd.mono ?_
 rintro e w4 ⟨hb4, BR, dR, BT, dT, rfl, hs4⟩
 simp only at hs4 ⊢
 have HB4 := Lib.hid hb4
 have HS4 := Lib.hid hs4
 have HR94 := Lib.hid (HR9.out.on hb4 HR9.out.lt)
 clear hpd hb4 hs4 d0 d1 d2 d3
 go_upto_region 3 with fail
 refine wp_nameW fun w5 hw5 => ?_
 obtain ⟨P13, hP13⟩ : ∃ P13, P13 = w4.heap.size := ⟨_, rfl⟩
 rw [← hP13]
 have hb5 : Below w4.heap.size w4 w5 := by rw [hw5]; exact below_new _ _
 have HB5 := Lib.hid hb5
 have HR13 : Hid (Rw w5 P13 34 #[.bool s.no, .slice BR s.rs.length dR, .slice BT s.ts.length dT]) := Lib.hid (by rw [hw5, hP13]; exact heap_alloc_new w4 _)
 have HR95 := Lib.hid (HR94.out.on hb5 HR94.out.lt)
 have hb25 : Below w2.heap.size w2 w5 := (HB3.out.trans (HB4.out.mono HB3.out.size)).trans (hb5.mono (by have := HB3.out.size; have := HB4.out.size; omega))
 have hsm := sameW_any w5 w5.heap.size s AR AT BR BT cR cT dR dT ((HS2.out.on hb25 (Nat.le_refl _)).more hb25.size) ((HS4.out.r.on hb5 (Nat.le_refl _)).more hb5.size) ((HT2.out.on hb25 (Nat.le_refl _)).more hb25.size) ((HS4.out.t.on hb5 (Nat.le_refl _)).more hb5.size) (Nat.le_refl _) (by have := HSZ.out.1; have := HLEN.out; omega) (by have := HSZ.out.2; have := HLEN.out; omega)
 have HB25 := Lib.hid hb25
 have p0 := HR95.out.cell (i := 0) rfl
 have p1 := HR95.out.cell (i := 1) rfl
 have p2 := HR95.out.cell (i := 2) rfl
 have q0 := HR13.out.cell (i := 0) rfl
 have q1 := HR13.out.cell (i := 1) rfl
 have q2 := HR13.out.cell (i := 2) rfl
 clear hw5 hP13 hb5 hb25
 go_wp2_with fail
 refine hsm.mono ?_
 rintro e w6 ⟨rfl, hb6⟩
 have hb26 : Below w2.heap.size w2 w6 := HB25.out.trans (hb6.mono HB25.out.size)
 have HE : Hid (TabU T w6 T L (m + 8 * (n + 1)) ∧ Fr w w6 (· = T)) := Lib.hid ⟨HTU2.out.keep hb26, HF2.out.trans (.of_below hb26)⟩
 have e40 : (er : Int) ≤ 40 := by omega
 have e0 : (0 : Int) ≤ (er : Int) := by omega
 clear hsm hb6 hb26 p0 p1 p2 q0 q1 q2 hcode
 go_wp2
 go_ret
 exact ⟨rfl, HE.out.1, HE.out.2⟩
end Go.Proofs.YthgiikhkcpbpfaaGreatDoor.C
namespace Go.Proofs.YthgiikhkcpbpfaaGreatDoor.C
open Go.RowKit

theorem i64_inB {a : Int} (h : (Lit.int .i64 a).wf = true) : -9223372036854775808 ≤ a ∧ a ≤ 9223372036854775807 := by
 have hmin : IntKind.i64.min = -9223372036854775808 := rfl
 have hmax : IntKind.i64.max = 9223372036854775807 := rfl
 simp only [Lit.wf, Bool.and_eq_true, decide_eq_true_eq] at h
 omega
theorem own_capB {w : World} {lo n c sz : Nat} {A : Option Addr} {xs : List Value} {e : TypeId} (h : w.ownsRow lo e sz (.slice A n c) n xs) : n ≤ c := by
 rcases h.2 with ⟨_, h0⟩ | ⟨g, cap, cur, e, _, _, h1, _⟩
 ·rw [h0]; exact Nat.zero_le _
 ·injection e with _ _ e3
  omega
structure PWt (w0 : World) (T P m : Nat) (u1 u2 u3 u4 : Value) (l : Loc) (W : World) : Prop where
 loc : LocR W T u1 u2 u3 u4 l
 t : TabU T W T l m
 r : Rw W P 27 #[u1, u2, u3, u4]
 b : Below w0.heap.size w0 W
 hT : w0.heap.size ≤ T
 hP : T < P
theorem PWt.next {w0 W W' : World} {T P m : Nat} {u1 u2 u3 u4 : Value} {l : Loc} (h : PWt w0 T P m u1 u2 u3 u4 l W) (hb : Below W.heap.size W W') : PWt w0 T P m u1 u2 u3 u4 l W' :=
 ⟨h.loc.on hb (by have := h.t.lt; omega), h.t.keep hb, h.r.on hb h.r.lt, h.b.trans (hb.mono h.b.size), h.hT, h.hP⟩
theorem PWt.turn {w0 W W' : World} {T P m m' : Nat} {u1 u2 u3 u4 : Value} {l : Loc} (h : PWt w0 T P m u1 u2 u3 u4 l W) (hf : Fr W W' (· = T)) (ht : TabU T W' T l m') : PWt w0 T P m' u1 u2 u3 u4 l W' :=
 ⟨h.loc.on (hf.belowT (by have := h.t.lt; omega)) (Nat.le_refl _), ht, h.r.fr hf (by have := h.hP; omega), below_T h.b hf h.hT, h.hT, h.hP⟩
set_option maxRecDepth 100000 in
set_option maxHeartbeats 8000000 in
theorem bracketParsesWalk (a0 : Option Addr) (len0 cap0 : Nat) (z0 : List Int) (a1 : Int) (a2 : Option Addr) (len2 cap2 : Nat) (z2 : List Int) (a3 : Option Addr) (len3 cap3 : Nat) (z3 : List Int) (p : Bool) (a5 : Int) (w : World) (hG : Gm w) (w0 : L.IsRow .i32 w a0 len0 cap0 z0) (_q0 : cap0 * 4 ≤ 140737488351232) (w1 : (Lit.int .i64 a1).wf = true) (w2 : L.IsRow .u8 w a2 len2 cap2 z2) (w3 : L.IsRow .u8 w a3 len3 cap3 z3) (w5 : (Lit.int .u8 a5).wf = true) :
  Calls Tryz.prog 5 #[.slice a0 len0 cap0, .int .i64 a1, .slice a2 len2 cap2, .slice a3 len3 cap3, .bool p, .int .u8 a5] w fun e w' => e = .returned (.bool true) ∧ Below w.heap.size w w' := by
 have ha1 := i64_inB w1
 have ha5 := byte_in w5
 have hln0 := row_len w0
 have hln2 := row_len w2
 have hln3 := row_len w3
 obtain ⟨xs, hxs⟩ : ∃ xs, xs = z0.take len0 := ⟨_, rfl⟩
 obtain ⟨zs, hzs⟩ : ∃ zs, zs = z2.take len2 := ⟨_, rfl⟩
 obtain ⟨ds, hds⟩ : ∃ ds, ds = z3.take len3 := ⟨_, rfl⟩
 have hri0 := RI.of_row w0
 have hri2 := RI.of_row w2
 have hby2 := row_u8 w2
 have hby3 := row_u8 w3
 have htb := table_any w hG w.heap.size a3 len3 cap3 ds p (by rw [hds]; exact RI.of_row w3) (Nat.le_refl _) (by rw [hds]; exact hby3) (by omega)
 have HG := Lib.hid hG
 have HX : Hid (RI .i32 w w.heap.size a0 len0 xs) := Lib.hid (by rw [hxs]; exact hri0)
 have HZ : Hid (RI .u8 w w.heap.size a2 len2 zs) := Lib.hid (by rw [hzs]; exact hri2)
 have HY : Hid (Byt zs) := Lib.hid (by rw [hzs]; exact hby2)
 have HYD : Hid (Byt ds) := Lib.hid (by rw [hds]; exact hby3)
 have HGT : Hid ((5 : Nat) < w.heap.size) := Lib.hid (World.block_lt_of_cell? w _ hG.1)
 have q : ∀ (a : Option Addr) (w : World), (binOp .eql 22 (.pointer a) (.pointer none)).run Tryz.prog w = .ok (.bool a.isNone) w := fun a w => ptr_nilB a w
 unfold maxLen at hln0
 clear hG w0 w1 w2 w3 w5 hxs hzs hds hri0 hri2 hby2 hby3 hln2 hln3
 go_enter Tryz.func5, Tryz.ntmps5
 go_wp2_with fail
 refine htb.mono ?_
 rintro e w1 ⟨T, u1, u2, u3, u4, rfl, hLR, hT, ht, hb1⟩
 obtain ⟨l, hl⟩ : ∃ l, l = locG p ds := ⟨_, rfl⟩
 have HR : Hid (rightL l = true) := Lib.hid (by rw [hl]; exact locG_right HYD.out)
 have HM : Hid (∀ k ∈ l.cls, k.rs.length ≤ 1000) := Lib.hid (by rw [hl]; exact locG_rs)
 rw [← hl] at ht hLR
 obtain ⟨⟨A1, c1, x1, rfl, -⟩, ⟨A2, c2, rfl, -⟩, ⟨A3, c3, rfl, -⟩, ⟨A4, c4, x4, rfl, -⟩, -⟩ := id hLR
 obtain ⟨n1, hn1⟩ : ∃ n1, n1 = l.cls.length := ⟨_, rfl⟩
 obtain ⟨n2, hn2⟩ : ∃ n2, n2 = l.up.length := ⟨_, rfl⟩
 obtain ⟨n3, hn3⟩ : ∃ n3, n3 = l.lo.length := ⟨_, rfl⟩
 obtain ⟨n4, hn4⟩ : ∃ n4, n4 = l.ord.length := ⟨_, rfl⟩
 rw [← hn1, ← hn2, ← hn3, ← hn4] at hLR
 rw [← hn1, ← hn2, ← hn3, ← hn4]
 clear hn1 hn2 hn3 hn4
 have HT : Hid (w.heap.size ≤ T ∧ T < w1.heap.size) := Lib.hid ⟨hT, ht.lt⟩
 have HLR := Lib.hid hLR
 have HTU := Lib.hid ht
 have HB1 := Lib.hid hb1
 clear htb hT ht hb1 hl hLR
 go_upto_region 2 with fail
 refine wp_nameW fun w2 hw2 => ?_
 obtain ⟨P, hP⟩ : ∃ P, P = w1.heap.size := ⟨_, rfl⟩
 rw [← hP]
 have hb2 : Below w1.heap.size w1 w2 := by rw [hw2]; exact below_new _ _
 have HRP : Hid (Rw w2 P 27 #[.slice A1 n1 c1, .slice A2 n2 c2, .slice A3 n3 c3, .slice A4 n4 c4]) := Lib.hid (by rw [hw2, hP]; exact heap_alloc_new w1 _)
 have HPT : Hid (T < P) := Lib.hid (by have := HT.out; omega)
 have HB2 : Hid (Below w.heap.size w w2) := Lib.hid (HB1.out.trans (hb2.mono HB1.out.size))
 have HLR2 : Hid (LocR w2 T (.slice A1 n1 c1) (.slice A2 n2 c2) (.slice A3 n3 c3) (.slice A4 n4 c4) l) := Lib.hid (HLR.out.on hb2 (by have := HT.out; omega))
 have HTU2 := Lib.hid (HTU.out.keep hb2)
 have hkn := known10_any w2 (HG.out.next HB2.out)
 clear hw2 hP hb2 HLR HTU
 by_cases h100 : 100 < len0
 ·have i0 : (100 : Int) < (len0 : Int) := by omega
  go_wp2_with fail
  refine hkn.mono ?_
  rintro e w3 ⟨rfl, hb3⟩
  have HE : Hid (Below w.heap.size w w3) := Lib.hid (HB2.out.trans (hb3.mono HB2.out.size))
  clear hkn hb3
  go_wp2
  go_ret
  exact ⟨rfl, HE.out⟩
 ·have i0 : ¬ (100 : Int) < (len0 : Int) := by omega
  go_wp2_with fail
  refine hkn.mono ?_
  rintro e w3 ⟨rfl, hb3⟩
  have HB3 : Hid (Below w.heap.size w w3) := Lib.hid (HB2.out.trans (hb3.mono HB2.out.size))
  have HLR3 : Hid (LocR w3 T (.slice A1 n1 c1) (.slice A2 n2 c2) (.slice A3 n3 c3) (.slice A4 n4 c4) l) := Lib.hid (HLR2.out.on hb3 (by have := HTU2.out.lt; omega))
  have HTU3 := Lib.hid (HTU2.out.keep hb3)
  have HRP3 := Lib.hid (HRP.out.on hb3 HRP.out.lt)
  clear hkn hb3
  go_upto_region 4 with fail
  have H3 := Lib.hid (show PWt w T P 0 (.slice A1 n1 c1) (.slice A2 n2 c2) (.slice A3 n3 c3) (.slice A4 n4 c4) l w3.drew from PWt.next ⟨HLR3.out, HTU3.out, HRP3.out, HB3.out, HT.out.1, HPT.out⟩ (below_drew (Below.refl _ _)))
  have HXL := Lib.hid HX.out.len
  have hB0 : len0 ≤ 100 := by omega
  have hte := tells_any w3.drew T 0 w.heap.size (.slice A1 n1 c1) (.slice A2 n2 c2) (.slice A3 n3 c3) (.slice A4 n4 c4) l a0 len0 cap0 xs a1 hln0.1 (HX.out.below H3.out.b) H3.out.b.size (fun h0 ad e => by
   obtain ⟨ad', _, e', hb, _⟩ := HX.out.at_ h0
   rw [e] at e'
   injection e' with e'
   subst e'
   have := HT.out.1
   omega) H3.out.t (HG.out.next H3.out.b).1 (by have := HGT.out; have := HT.out.1; omega) (by omega) HR.out HM.out (by omega) H3.out.loc ha1.1 ha1.2
  have hS1 : (fun W' : World => W'.cell? ⟨P, 0, none⟩ = some (.slice A1 n1 c1) ∧ W'.cell? ⟨P, 1, none⟩ = some (.slice A2 n2 c2) ∧ W'.cell? ⟨P, 2, none⟩ = some (.slice A3 n3 c3) ∧ W'.cell? ⟨P, 3, none⟩ = some (.slice A4 n4 c4)) w3.drew := H3.out.r.four
  refine wp_region_held (S := fun W' : World => W'.cell? ⟨P, 0, none⟩ = some (.slice A1 n1 c1) ∧ W'.cell? ⟨P, 1, none⟩ = some (.slice A2 n2 c2) ∧ W'.cell? ⟨P, 2, none⟩ = some (.slice A3 n3 c3) ∧ W'.cell? ⟨P, 3, none⟩ = some (.slice A4 n4 c4)) (by kernel_rfl) ?_
  change wpAnyH _ _ _ _ _ _ _ _ w3.drew
  iterate 4 (refine wpH rfl rfl ?_; try simp only [Act.put, g1, g2, g3, g4, g5, g6])
  refine wpAnyH_one (i := 4) (by kernel_rfl) rfl (fun K hK => ?_)
  simp only [g4, g5, g6]
  go_simp
  go_at_call 13
  refine hte.mono ?_
  rintro e w4 ⟨rfl, ht4, hf4⟩
  have HW4 := Lib.hid (H3.out.turn hf4 (TabU.up ht4 (m' := 2000) (by omega)))
  clear hte ht4 hf4
  refine hK.out _ _ HW4.out.r.four (fun _ => ?_)
  clear hK hS1
  have hS1 : (fun W' : World => W'.cell? ⟨P, 0, none⟩ = some (.slice A1 n1 c1) ∧ W'.cell? ⟨P, 1, none⟩ = some (.slice A2 n2 c2) ∧ W'.cell? ⟨P, 2, none⟩ = some (.slice A3 n3 c3) ∧ W'.cell? ⟨P, 3, none⟩ = some (.slice A4 n4 c4)) w4 := HW4.out.r.four
  try simp only [Act.put, g1, g2, g3, g4, g5, g6]
  iterate 2 (refine wpH rfl rfl ?_; try simp only [Act.put, g1, g2, g3, g4, g5, g6])
  refine wpHn 8 rfl ?_
  try simp only [Act.put, g1, g2, g3, g4, g5, g6]
  refine wpHn 9 rfl ?_
  try simp only [Act.put, g1, g2, g3, g4, g5, g6]
  clear hS1
  have htx := textB_any w4 w.heap.size a2 len2 cap2 zs (HZ.out.below HW4.out.b) HW4.out.b.size HY.out
  refine wpAnyH_one (i := 7) (by kernel_rfl) rfl (fun K hK => ?_)
  simp only [g4, g5, g6]
  go_simp
  go_at_call 14
  refine htx.mono ?_
  rintro e w5 ⟨v, rfl, ho, hb⟩
  obtain ⟨Ao, co, rfl⟩ := row_form ho
  have HW5 := Lib.hid (HW4.out.next hb)
  have HO := Lib.hid ho
  have HGE : Hid (T < w4.heap.size) := Lib.hid HW4.out.t.lt
  clear htx hb ho
  refine hK.out _ _ HW5.out.r.four (fun _ => ?_)
  clear hK
  try simp only [Act.put, g1, g2, g3, g4, g5, g6]
  have hlz := textB_len HY.out
  have hte := tells_any w5 T 2000 w5.heap.size (.slice A1 n1 c1) (.slice A2 n2 c2) (.slice A3 n3 c3) (.slice A4 n4 c4) l Ao (textB zs).length co (textB zs) 0 (own_capB HO.out) (RI.of_own HO.out) (Nat.le_refl _) (fun h0 ad e => own_apart HO.out HGE.out h0 ad e) HW5.out.t (HG.out.next HW5.out.b).1 (by have := HGT.out; have := HT.out.1; omega) (by omega) HR.out HM.out (by omega) HW5.out.loc (by omega) (by omega)
  refine wpAnyH_one (i := 10) (by kernel_rfl) rfl (fun K hK => ?_)
  simp only [g4, g5, g6]
  go_simp
  go_at_call 13
  refine hte.mono ?_
  rintro e w6 ⟨rfl, ht6, hf6⟩
  have HW6 := Lib.hid (HW5.out.turn hf6 (TabU.up ht6 (m' := 4000) (by omega)))
  clear hte ht6 hf6 HO HGE
  refine hK.out _ _ HW6.out.r.four (fun _ => ?_)
  clear hK
  have hS1 : (fun W' : World => W'.cell? ⟨P, 0, none⟩ = some (.slice A1 n1 c1) ∧ W'.cell? ⟨P, 1, none⟩ = some (.slice A2 n2 c2) ∧ W'.cell? ⟨P, 2, none⟩ = some (.slice A3 n3 c3) ∧ W'.cell? ⟨P, 3, none⟩ = some (.slice A4 n4 c4)) w6 := HW6.out.r.four
  try simp only [Act.put, g1, g2, g3, g4, g5, g6]
  iterate 2 (refine wpH rfl rfl ?_; try simp only [Act.put, g1, g2, g3, g4, g5, g6])
  refine wpAnyH_done (by kernel_rfl) ?_ _
  clear hS1
  go_upto_region 5 with fail
  have HW7 := Lib.hid (HW6.out.next (below_drew (Below.refl _ _)))
  have hS1 : (fun W' : World => W'.cell? ⟨P, 0, none⟩ = some (.slice A1 n1 c1) ∧ W'.cell? ⟨P, 1, none⟩ = some (.slice A2 n2 c2) ∧ W'.cell? ⟨P, 2, none⟩ = some (.slice A3 n3 c3) ∧ W'.cell? ⟨P, 3, none⟩ = some (.slice A4 n4 c4)) w6.drew := HW7.out.r.four
  refine wp_region_held (S := fun W' : World => W'.cell? ⟨P, 0, none⟩ = some (.slice A1 n1 c1) ∧ W'.cell? ⟨P, 1, none⟩ = some (.slice A2 n2 c2) ∧ W'.cell? ⟨P, 2, none⟩ = some (.slice A3 n3 c3) ∧ W'.cell? ⟨P, 3, none⟩ = some (.slice A4 n4 c4)) (by kernel_rfl) ?_
  change wpAnyH _ _ _ _ _ _ _ _ w6.drew
  obtain ⟨k5, hk5⟩ : ∃ k5 : Nat, a5 % 5 = (k5 : Int) := ⟨(a5 % 5).toNat, by omega⟩
  have wt1 : a5.tmod 5 = (k5 : Int) := by rw [Int.tmod_eq_emod_of_nonneg ha5.1]; exact hk5
  have wt2 : IntKind.u8.wrap (k5 : Int) = (k5 : Int) := by
   have hmin : IntKind.u8.min = 0 := rfl
   have hmax : IntKind.u8.max = 255 := rfl
   have hbits : IntKind.u8.bits = 8 := rfl
   have hsg : IntKind.u8.signed = false := rfl
   simp only [IntKind.wrap, hbits, hsg]
   have : (k5 : Int) < 5 := by omega
   simp
   omega
  have wt3 : IntKind.i64.wrap (k5 : Int) = (k5 : Int) := by rw [IntKind.wrap_i64]; omega
  have k50 : (0 : Int) ≤ (k5 : Int) := by omega
  have k51 : (k5 : Int) < 5 := by omega
  clear hk5
  iterate 3 (refine wpH rfl rfl ?_; try simp only [Act.put, g1, g2, g3, g4, g5, g6])
  refine wpHn 4 rfl ?_
  try simp only [Act.put, g1, g2, g3, g4, g5, g6]
  refine wpHn 5 rfl ?_
  try simp only [Act.put, g1, g2, g3, g4, g5, g6]
  refine wpHn 6 rfl ?_
  try simp only [Act.put, g1, g2, g3, g4, g5, g6]
  refine wpHn 7 rfl ?_
  try simp only [Act.put, g1, g2, g3, g4, g5, g6]
  refine wpHn 8 rfl ?_
  try simp only [Act.put, g1, g2, g3, g4, g5, g6]
  clear hS1
  have htx := textB_any w6.drew w.heap.size a2 len2 cap2 zs (HZ.out.below HW7.out.b) HW7.out.b.size HY.out
  refine wpAnyH_one (i := 3) (by kernel_rfl) rfl (fun K hK => ?_)
  simp only [g4, g5, g6]
  go_simp
  go_at_call 14
  refine htx.mono ?_
  rintro e w8 ⟨v, rfl, ho, hb⟩
  obtain ⟨Ao, co, rfl⟩ := row_form ho
  have HW8 := Lib.hid (HW7.out.next hb)
  have HO := Lib.hid ho
  have HGE : Hid (T < w6.drew.heap.size) := Lib.hid HW7.out.t.lt
  clear htx hb ho
  refine hK.out _ _ HW8.out.r.four (fun _ => ?_)
  clear hK
  try simp only [Act.put, g1, g2, g3, g4, g5, g6]
  have hte := tells_any w8 T 4000 w8.heap.size (.slice A1 n1 c1) (.slice A2 n2 c2) (.slice A3 n3 c3) (.slice A4 n4 c4) l Ao (textB zs).length co (textB zs) k5 (own_capB HO.out) (RI.of_own HO.out) (Nat.le_refl _) (fun h0 ad e => own_apart HO.out HGE.out h0 ad e) HW8.out.t (HG.out.next HW8.out.b).1 (by have := HGT.out; have := HT.out.1; omega) (by omega) HR.out HM.out (by omega) HW8.out.loc (by omega) (by omega)
  refine wpAnyH_one (i := 9) (by kernel_rfl) rfl (fun K hK => ?_)
  simp only [g4, g5, g6]
  go_simp
  go_at_call 13
  refine hte.mono ?_
  rintro e w9 ⟨rfl, ht9, hf9⟩
  have HW9 := Lib.hid (HW8.out.turn hf9 ht9)
  clear hte ht9 hf9 HO HGE
  refine hK.out _ _ HW9.out.r.four (fun _ => ?_)
  clear hK
  have hS1 : (fun W' : World => W'.cell? ⟨P, 0, none⟩ = some (.slice A1 n1 c1) ∧ W'.cell? ⟨P, 1, none⟩ = some (.slice A2 n2 c2) ∧ W'.cell? ⟨P, 2, none⟩ = some (.slice A3 n3 c3) ∧ W'.cell? ⟨P, 3, none⟩ = some (.slice A4 n4 c4)) w9 := HW9.out.r.four
  try simp only [Act.put, g1, g2, g3, g4, g5, g6]
  iterate 2 (refine wpH rfl rfl ?_; try simp only [Act.put, g1, g2, g3, g4, g5, g6])
  refine wpAnyH_done (by kernel_rfl) ?_ _
  clear hS1
  go_wp2
  go_ret
  exact ⟨rfl, HW9.out.b⟩
end Go.Proofs.YthgiikhkcpbpfaaGreatDoor.C
