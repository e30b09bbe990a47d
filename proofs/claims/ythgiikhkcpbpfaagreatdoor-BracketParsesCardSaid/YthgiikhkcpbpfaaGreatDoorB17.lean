/-
  Joined: LhD. Each with what its own head says.
-/
import Derived.Test.YthgiikhkcpbpfaaGreatDoorB15


namespace Go.Proofs.YthgiikhkcpbpfaaGreatDoor.C
open Go.RowKit
section
variable {P : Program} {ops : Array Oper} {Q : Exit → Act → World → Prop} {md : Region.Mode} {S : World → Prop}
theorem wpAnyH_two {i j : Nat} {oi oj : Oper} {fuel : Nat} {listed : Array Bool} {a : Act} {w : World} (hr : Region.ready md ops listed = [i, j]) (hi : ops[i]? = some oi) (hj : ops[j]? = some oj)
  (h1 : ∀ K : Act → World → Prop, Hid (∀ a' w', S w' → (S w' → wpAnyH P md ops Q S fuel (listed.setIfInBounds i true) a' w') → K a' w') → if Region.wanted oi (yielded ops a.tmps) = true then Oper.wp P oi a w K Q else K (a.put oi.dst undef) w)
  (h2 : ∀ K : Act → World → Prop, Hid (∀ a' w', S w' → (S w' → wpAnyH P md ops Q S fuel (listed.setIfInBounds j true) a' w') → K a' w') → if Region.wanted oj (yielded ops a.tmps) = true then Oper.wp P oj a w K Q else K (a.put oj.dst undef) w) : wpAnyH P md ops Q S (fuel + 1) listed a w := by
 refine ⟨fun h0 => (by rw [hr] at h0; cases h0), fun k hk => ?_⟩
 rw [hr] at hk
 simp only [List.mem_cons, List.not_mem_nil, or_false] at hk
 rcases hk with rfl | rfl
 ·have h := h1 (fun a' w' => S w' ∧ wpAnyH P md ops Q S fuel (listed.setIfInBounds k true) a' w') (Lib.hid fun a' w' hs hh => ⟨hs, hh hs⟩)
  unfold wpOp
  simp only [hi]
  split
  ·rename_i hw
   rw [if_pos hw] at h
   exact .inl h
  ·rename_i hw
   rw [if_neg hw] at h
   exact h
 ·have h := h2 (fun a' w' => S w' ∧ wpAnyH P md ops Q S fuel (listed.setIfInBounds k true) a' w') (Lib.hid fun a' w' hs hh => ⟨hs, hh hs⟩)
  unfold wpOp
  simp only [hj]
  split
  ·rename_i hw
   rw [if_pos hw] at h
   exact .inl h
  ·rename_i hw
   rw [if_neg hw] at h
   exact h
end
set_option maxRecDepth 100000 in
set_option maxHeartbeats 8000000 in
theorem locale_any (w : World) (Bx : Nat) (Ax : Option Addr) (n cx : Nat) (zs : List Int) (hx : RI .u8 w Bx Ax n zs) (hBx : Bx ≤ w.heap.size) (hz : ∀ z ∈ zs, 0 ≤ z ∧ z ≤ 255) (_hn : n ≤ maxLen) :
  Calls Tryz.prog 15 #[.slice Ax n cx] w fun e w' => ∃ v1 v2 v3 v4, e = .returned (.agg #[v1, v2, v3, v4]) ∧ LocAt w' w.heap.size v1 v2 v3 v4 (genL zs) ∧ Below w.heap.size w w' := by
 obtain ⟨S, hS⟩ : ∃ S, w.heap.size = S := ⟨_, rfl⟩
 have HX := Lib.hid hx
 have HBX := Lib.hid hBx
 have HZ := Lib.hid hz
 have HL := Lib.hid hx.len
 unfold maxLen at _hn
 obtain ⟨W, hW⟩ : ∃ W, W = ((w.alloc (.cells #[.slice none 0 0, .slice none 0 0, .slice none 0 0, .slice none 0 0] 27)).alloc (.cells #[.slice none 0 0, .slice none 0 0, .slice none 0 0, .slice none 0 0] 27)).alloc (.cells #[.string ⟨#[97, 108, 112, 104, 97]⟩, .string ⟨#[120]⟩, .string ⟨#[108, 111, 119, 45, 49]⟩, .string ⟨#[85, 48, 48, 52, 49]⟩] 9) := ⟨_, rfl⟩
 have hst0 : GSt w S noL (.slice none 0 0) (.slice none 0 0) (.slice none 0 0) (.slice none 0 0) W := by
  have hs1 : (w.alloc (.cells #[.slice none 0 0, .slice none 0 0, .slice none 0 0, .slice none 0 0] 27)).heap.size = S + 1 := by simp [hS]
  have hs2 : ((w.alloc (.cells #[.slice none 0 0, .slice none 0 0, .slice none 0 0, .slice none 0 0] 27)).alloc (.cells #[.slice none 0 0, .slice none 0 0, .slice none 0 0, .slice none 0 0] 27)).heap.size = S + 2 := by simp [hS]
  refine ⟨?_, ?_, ?_, LocAt.nil _ _, by intro g hg; simp [Value.ownBlock] at hg, ?_⟩
  ·unfold LocZ
   rw [hW, heap_lt _ _ (by rw [hs2]; omega), ← hs1]
   exact heap_new _ _
  ·unfold LocZ
   rw [hW, heap_lt _ _ (by rw [hs2]; omega), heap_lt _ _ (by rw [hs1]; omega), ← hS]
   exact heap_new _ _
  ·show W.heap[S + 2]? = _
   rw [hW, ← hs2]
   exact heap_new _ _
  ·rw [hW]
   exact (((Below.refl _ _).alloc (by omega) _).alloc (by rw [hs1]; omega) _).alloc (by rw [hs2]; omega) _
 have HST0 := Lib.hid hst0
 have HSS := Lib.hid hS
 obtain ⟨iC, hiC, hc0, hc1, hc2⟩ := info_parts infoClass
 obtain ⟨iR, hiR, hr0, hr1, hr2⟩ := info_parts infoRange
 obtain ⟨iP, hiP, hp0, hp1, hp2⟩ := info_parts infoPair
 obtain ⟨iE, hiE, he0, he1, he2⟩ := info_parts infoElem
 clear hx hBx hz hst0
 go_enter Tryz.func15, Tryz.ntmps15
 go_upto_block 0 with fail
 rw [← hW]
 clear hW hS
 go_cut [] (fun wx => Hid (∃ v1 v2 v3 v4, GSt w S ⟨clsG 0 (zs.take 3), [], [], []⟩ v1 v2 v3 v4 wx))
 case first =>
  go_wp2
  go_loopw [5] (fun iv wr => ∃ i : Nat, i ≤ n ∧ i ≤ 3 ∧ iv = .int .i64 i ∧ Hid (∃ v1 v2 v3 v4, GSt w S ⟨clsG 0 (zs.take i), [], [], []⟩ v1 v2 v3 v4 wr)) (fun iv _ => 3 - (intOf iv).toNat)
  case atStart => exact ⟨0, Nat.zero_le _, Nat.zero_le _, rfl, Lib.hid ⟨_, _, _, _, HST0.out⟩⟩
  case round =>
   obtain ⟨wp, hwp⟩ : ∃ wp, wp = wr := ⟨_, rfl⟩
   subst hwp
   obtain ⟨i, hin, hi3, rfl, HQ⟩ := hrel
   by_cases hlt : i < n ∧ i < 3
   ·obtain ⟨h1, h2⟩ := hlt
    obtain ⟨v1, v2, v3, v4, hG⟩ := HQ.out
    have hxr := HX.out.below (hG.b.mono (by have := HBX.out; have := HSS.out; omega))
    obtain ⟨ad, z, rfl, hbl, hk, hcell⟩ := hxr.at_ h1
    obtain ⟨z0, z1⟩ := HZ.out z (List.mem_of_getElem? hk)
    have hnm := nm_at hG h2
    have i0 : (0 : Int) ≤ (i : Int) := by omega
    have i1 : (i : Int) < (n : Int) := by omega
    have i2 : (i : Int) < 3 := by omega
    have i4 : (i : Int) < 4 := by omega
    have HG := Lib.hid hG
    have HK := Lib.hid hk
    have HBL : Hid (ad.block < wp.heap.size) := Lib.hid (by have := hG.b.size; have := HSS.out; have := HBX.out; omega)
    clear hxr hG hk HQ
    obtain ⟨a, ha⟩ : ∃ a : Int, a = 97 + z % 8 := ⟨_, rfl⟩
    obtain ⟨b, hb⟩ : ∃ b : Int, b = 97 + z % 8 + z / 64 := ⟨_, rfl⟩
    have wa : IntKind.u8.wrap (97 + z % 8) = a := by rw [IntKind.wrap_u8]; omega
    obtain ⟨zz, hzz⟩ : ∃ zz : Int, zz = z / 64 := ⟨_, rfl⟩
    have wd1 : IntKind.u8.wrap (z.tdiv 64) = zz := by rw [Int.tdiv_eq_ediv_of_nonneg z0, IntKind.wrap_u8]; omega
    have wd2 : IntKind.i32.wrap zz = zz := by rw [IntKind.wrap_i32]; omega
    have wb : IntKind.i32.wrap (97 + z % 8 + zz) = b := by rw [IntKind.wrap_i32]; omega
    clear hzz
    go_upto_region 7 with fail
    go_cut [7] (fun s7 wx => ∃ C : Nat, s7 = .pointer (some ⟨C, 0, none⟩) ∧ Hid (ClV S wp C (nmCls i) [(a, b)] wx))
    case first =>
     refine wp_region_held (S := fun W' : World => W'.cell? ⟨S + 1 + 1, i, none⟩ = some (.string (str (nmCls i))) ∧ W'.cell? (ad.add i) = some (.int .u8 z)) (by kernel_rfl) ?_
     change wpAnyH _ _ _ _ _ _ _ _ wp.drew
     have hS1 : (fun W' : World => W'.cell? ⟨S + 1 + 1, i, none⟩ = some (.string (str (nmCls i))) ∧ W'.cell? (ad.add i) = some (.int .u8 z)) wp.drew := ⟨hnm, hcell⟩
     iterate 14 (refine wpH rfl rfl ?_; try simp only [Act.put, g1, g2, g3, g4, g5, g6])
     refine wpAnyH_two (i := 14) (j := 16) (by kernel_rfl) rfl rfl (fun K hK => ?_) (fun K hK => ?_)
     ·-- 14 ahead
      simp only [g4, g5, g6]
      go_simp
      refine hK.out _ _ ⟨Lib.cell?_alloc_some _ hnm, Lib.cell?_alloc_some _ hcell⟩ (fun hS2 => ?_)
      refine wpHn 15 rfl ?_
      try simp only [Act.put, g1, g2, g3, g4, g5, g6]
      refine wpAnyH_one (i := 16) (by kernel_rfl) rfl (fun K hK => ?_)
      simp only [g4, g5, g6]
      go_simp
      refine hK.out _ _ ⟨Lib.cell?_alloc_some _ (Lib.cell?_alloc_some _ hnm), Lib.cell?_alloc_some _ (Lib.cell?_alloc_some _ hcell)⟩ (fun hS3 => ?_)
      refine wpAnyH_one (i := 17) (by kernel_rfl) rfl (fun K hK => ?_)
      simp only [g4, g5, g6]
      go_simp
      refine hK.out _ _ ⟨Lib.cell?_alloc_some _ (Lib.cell?_alloc_some _ hnm), Lib.cell?_alloc_some _ (Lib.cell?_alloc_some _ hcell)⟩ (fun _ => ?_)
      refine wpAnyH_done (by kernel_rfl) ?_ _
      go_wp2
      go_meet
      exact ⟨_, rfl, Lib.hid (by rw [hb, ha]; exact ClV.newA wp (by have := HG.out.size; omega) (nmCls i) _ _)⟩
     ·-- 16 ahead
      simp only [g4, g5, g6]
      go_simp
      refine hK.out _ _ ⟨Lib.cell?_alloc_some _ hnm, Lib.cell?_alloc_some _ hcell⟩ (fun hS2 => ?_)
      refine wpAnyH_one (i := 14) (by kernel_rfl) rfl (fun K hK => ?_)
      simp only [g4, g5, g6]
      go_simp
      refine hK.out _ _ ⟨Lib.cell?_alloc_some _ (Lib.cell?_alloc_some _ hnm), Lib.cell?_alloc_some _ (Lib.cell?_alloc_some _ hcell)⟩ (fun hS3 => ?_)
      refine wpHn 15 rfl ?_
      try simp only [Act.put, g1, g2, g3, g4, g5, g6]
      refine wpAnyH_one (i := 17) (by kernel_rfl) rfl (fun K hK => ?_)
      simp only [g4, g5, g6]
      go_simp
      refine hK.out _ _ ⟨Lib.cell?_alloc_some _ (Lib.cell?_alloc_some _ hnm), Lib.cell?_alloc_some _ (Lib.cell?_alloc_some _ hcell)⟩ (fun _ => ?_)
      refine wpAnyH_done (by kernel_rfl) ?_ _
      go_wp2
      go_meet
      exact ⟨_, rfl, Lib.hid (by rw [hb, ha]; exact ClV.newB wp (by have := HG.out.size; omega) (nmCls i) _ _)⟩
    case rest =>
     generalize wc = w1 at *
     obtain ⟨C, rfl, HV⟩ := hcut
     obtain ⟨hCs, hbx, v, htw, hov, hvb⟩ := HV.out
     have hxc : w1.cell? (ad.add i) = some (.int .u8 z) := (hbx.cell (by rw [block_of_add]; exact HBL.out)).trans hcell
     have HTW := Lib.hid htw
     have HOV := Lib.hid hov
     have HBX2 := Lib.hid hbx
     have HVB := Lib.hid hvb
     have hCw := htw.lt
     have hSC : S ≤ w1.heap.size := by have := HG.out.size; have := hbx.size; omega
     clear htw hov hbx hvb HV hnm hcell
     go_upto_if 52 with fail
     go_cut [] (fun wx => Hid (ClV S wp C (nmCls i) (cls1 i z).rs wx))
     case first =>
      obtain ⟨t0, t1⟩ := HTW.out.cells
      have f1 := HTW.out.frozen 1
      by_cases h3 : z % 3 = 0
      ·have HRS : Hid ((cls1 i z).rs = [(a, b)] ++ [(233, 233)]) := Lib.hid (by unfold cls1; rw [if_pos h3, ha, hb]; rfl)
       go_wp2_with (at_builtin; (refine wpList_append_lies _ rfl _ _ 31 rfl S 46 iR (.agg #[.int .i32 0, .int .i32 0]) 2 8 Tryz.underlying31 hiR hr0 hr1 hr2 rfl (by decide) v 1 (prsC [(a, b)]) rfl (HOV.out.alloc _) ⟨w1.heap.size, 0, none⟩ 1 1 [.int .i32 233, .int .i32 233] rfl rfl (pair_new _ _ _ _ _ rfl) (by intro u hu; simp at hu; subst hu; rfl) (by omega) (by unfold maxLen; omega) (by omega) (by simp; omega) (w1.heap.size + 1) (by simp) ?_); intro g cap w3 hown' hgrow hat hlt3; (have ht3 := ((HTW.out.alloc (.cells #[.int .i32 233, .int .i32 233] 46)).kept hgrow (fun e => row_ne (HOV.out.alloc (.cells #[.int .i32 233, .int .i32 233] 46)) (HTW.out.alloc (.cells #[.int .i32 233, .int .i32 233] 46)) (by decide) e.symm))); (have p1 := ht3.frozen 1); (have p0 := ht3.cells.2); clear ht3; (have HM := Lib.hid (ClV.more (nm := nmCls i) (233, 233) hCs (HBX2.out.alloc (HBX2.out.size) (.cells #[.int .i32 233, .int .i32 233] 46)) (HTW.out.alloc _) (HOV.out.alloc _) HVB.out hgrow hown' (hat.imp_right (by rintro rfl; have := HBX2.out.size; omega)))); clear hown' hgrow hat)
       go_meet
       exact Lib.hid (by rw [HRS.out]; exact HM.out)
      ·have HRS : Hid ((cls1 i z).rs = [(a, b)]) := Lib.hid (by unfold cls1; rw [if_neg h3, ha, hb])
       go_wp2
       go_meet
       exact Lib.hid (by rw [HRS.out]; exact ⟨hCs, HBX2.out, _, HTW.out, HOV.out, HVB.out⟩)
     case rest =>
      generalize wc = w2 at *
      have HV2 := Lib.hid hcut.out
      clear hcut HTW HOV HBX2 HVB hCw hSC hCs hxc
      obtain ⟨hCs, hbx, v, htw, hov, hvb⟩ := HV2.out
      have hG2 := HG.out.next hbx
      have hz2 := hG2.z
      obtain ⟨vs, hvs, hoC, hoR⟩ := hG2.loc.1
      obtain ⟨t0, t1⟩ := htw.cells
      obtain ⟨q0, q1, q2, q3⟩ := hz2.cells
      have g0 := hz2.frozen 0
      have HTW := Lib.hid htw
      have HOV := Lib.hid hov
      have HG2 := Lib.hid hG2
      simp only at hvs hoC hoR
      have HVS := Lib.hid hvs
      have HOC := Lib.hid hoC
      have HOR := Lib.hid hoR
      have HN : Hid ((clsG 0 (zs.take i)).length = i) := Lib.hid (by rw [clsG_len, List.length_take, HL.out]; omega)
      have HS : Hid (clsG 0 (zs.take (i + 1)) = clsG 0 (zs.take i) ++ [cls1 i z]) := Lib.hid (by rw [take_one HK.out, clsG_snoc, List.length_take, HL.out, Nat.min_eq_left hin, Nat.zero_add])
      have HO1 : Hid (v.oneCell' = true) := Lib.hid (by obtain ⟨A, c, hv⟩ := row_form hov; rw [hv]; rfl)
      have hSw := hG2.size
      clear htw hov hvb hG2 hvs hoC hoR hz2 HV2 hbx
      go_wp2_with (at_builtin; (refine wpList_append_lies _ rfl _ _ 23 rfl S 79 iC (.agg #[.string (str []), .slice none 0 0]) 2 40 Tryz.underlying23 hiC hc0 hc1 hc2 rfl (by decide) v1 (clsG 0 (zs.take i)).length (clsC (clsG 0 (zs.take i)) vs) rfl (HOC.out.alloc _) ⟨w2.heap.size, 0, none⟩ 1 1 [.string (str (nmCls i)), v] rfl rfl (pair_new _ _ _ _ _ rfl) (by intro u hu; simp at hu; rcases hu with rfl | rfl; rfl; exact HO1.out) (by omega) (by rw [HN.out]; unfold maxLen; omega) (by rw [HN.out]; omega) (by simp; omega) (w2.heap.size + 1) (by simp) ?_); intro g cap w3 hown' hgrow hat hlt3; (have hal : Below w2.heap.size w2 (w2.alloc (.cells #[.string (str (nmCls i)), v] 79)) := (Below.refl _ _).alloc (Nat.le_refl _) _); (have HM := Lib.hid (GSt.cls (cls1 i z) (HG2.out.next hal) HVS.out (HOC.out.alloc _) (fun i c x hc hx => (HOR.out i c x hc hx).alloc _) (HOV.out.alloc _) hgrow hown')); (have hz3 := ((HG2.out.next hal).mid (HOC.out.alloc (.cells #[.string (str (nmCls i)), v] 79)) (by decide) (by decide) hgrow).1); (have g1 := hz3.frozen 0); (have g2 := hz3.cells.1); clear hz3; clear hown' hgrow hat hal)
      go_roundw
      case rel =>
       exact ⟨i + 1, by omega, by omega, by go_num, Lib.hid (by rw [HS.out]; exact ⟨_, _, _, _, HM.out⟩)⟩
      case measure => simp [intOf]; omega
   ·have HF : Hid (∃ v1 v2 v3 v4, GSt w S ⟨clsG 0 (zs.take 3), [], [], []⟩ v1 v2 v3 v4 wp) := Lib.hid (by rw [← take_end HL.out hin hi3 hlt]; exact HQ.out)
    have hi4 : i = n ∨ (i < n ∧ i = 3) := by omega
    clear hlt HQ
    rcases hi4 with hA | ⟨hA, hB⟩
    ·have hA' : ¬ ((i : Int) < (n : Int)) := by omega
     clear hA
     go_wp2
     go_meet
     exact HF
    ·have hA' : ((i : Int) < (n : Int)) := by omega
     have hB' : ¬ ((i : Int) < 3) := by omega
     clear hA hB
     go_wp2
     go_meet
     exact HF
 case rest =>
  generalize wc = wA at *
  have HQA := Lib.hid hcut.out
  clear hcut
  go_upto_block 2 with fail
  go_cut [] (fun wx => Hid (∃ v1 v2 v3 v4, GSt w S ⟨clsG 0 (zs.take 3), upG 0 ((zs.drop 3).take 3), loG 0 ((zs.drop 3).take 3), []⟩ v1 v2 v3 v4 wx))
  case first =>
   go_wp2
   go_loopw [8] (fun iv wr => ∃ i : Nat, 3 ≤ i ∧ (i ≤ n ∨ i = 3) ∧ i ≤ 6 ∧ iv = .int .i64 i ∧ Hid (∃ v1 v2 v3 v4, GSt w S ⟨clsG 0 (zs.take 3), upG 0 ((zs.drop 3).take (i - 3)), loG 0 ((zs.drop 3).take (i - 3)), []⟩ v1 v2 v3 v4 wr)) (fun iv _ => 6 - (intOf iv).toNat)
   case atStart => exact ⟨3, by omega, .inr rfl, by omega, rfl, Lib.hid HQA.out⟩
   case round =>
    obtain ⟨wp, hwp⟩ : ∃ wp, wp = wr := ⟨_, rfl⟩
    subst hwp
    obtain ⟨i, h3, hin, hi6, rfl, HQ⟩ := hrel
    by_cases hlt : i < n ∧ i < 6
    ·obtain ⟨h1, h2⟩ := hlt
     obtain ⟨v1, v2, v3, v4, hG⟩ := HQ.out
     have hxr0 := HX.out
     obtain ⟨ad, z, rfl, hbl, hk, hcell0⟩ := hxr0.at_ h1
     have HBL : Hid (ad.block < S) := Lib.hid (by have := HSS.out; have := HBX.out; omega)
     have HC0 := Lib.hid hcell0
     have hcell : wp.cell? (ad.add i) = some (.int .u8 z) := (hG.b.cell (by rw [block_of_add]; exact HBL.out)).trans hcell0
     obtain ⟨z0, z1⟩ := HZ.out z (List.mem_of_getElem? hk)
     have i0 : (0 : Int) ≤ (i : Int) := by omega
     have i1 : (i : Int) < (n : Int) := by omega
     have i2 : (i : Int) < 6 := by omega
     have i3 : (3 : Int) ≤ (i : Int) := by omega
     have HN : Hid ((upG 0 ((zs.drop 3).take (i - 3))).length = i - 3) := Lib.hid (by rw [upG_len, take_len hk h3])
     have HN2 : Hid ((loG 0 ((zs.drop 3).take (i - 3))).length = i - 3) := Lib.hid (by rw [loG_len, take_len hk h3])
     have hOP : wp.ownsRow S 81 2 v2 (upG 0 ((zs.drop 3).take (i - 3))).length (prsC (upG 0 ((zs.drop 3).take (i - 3)))) := hG.loc.2.1
     have HOP := Lib.hid hOP
     have hzc := hG.z.cells.2.1
     have HG := Lib.hid hG
     have hSw := hG.size
     obtain ⟨p14, hp14⟩ : ∃ p : Int, p = 97 + (i : Int) - 3 := ⟨_, rfl⟩
     obtain ⟨q14, hq14⟩ : ∃ q : Int, q = 97 + (i : Int) := ⟨_, rfl⟩
     obtain ⟨r14, hr14⟩ : ∃ r : Int, r = 65 + z % 4 := ⟨_, rfl⟩
     obtain ⟨p15, hp15⟩ : ∃ p : Int, p = 65 + (i : Int) - 3 := ⟨_, rfl⟩
     obtain ⟨q15, hq15⟩ : ∃ q : Int, q = 65 + (i : Int) := ⟨_, rfl⟩
     obtain ⟨r15, hr15⟩ : ∃ r : Int, r = 97 + z / 4 % 4 := ⟨_, rfl⟩
     have HU : Hid (upG 0 ((zs.drop 3).take (i + 1 - 3)) = upG 0 ((zs.drop 3).take (i - 3)) ++ [(p14, r14)]) := Lib.hid (by
      rw [take_drop_one hk h3, upG_snoc, take_len hk h3, hr14, show (97 + ((0 + (i - 3) : Nat) : Int)) = p14 by omega])
     have HW : Hid (loG 0 ((zs.drop 3).take (i + 1 - 3)) = loG 0 ((zs.drop 3).take (i - 3)) ++ [(p15, r15)]) := Lib.hid (by
      rw [take_drop_one hk h3, loG_snoc, take_len hk h3, hr15, show (65 + ((0 + (i - 3) : Nat) : Int)) = p15 by omega])
     have a1 : IntKind.i64.wrap (97 + (i : Int)) = q14 := by rw [IntKind.wrap_i64]; omega
     have a2 : IntKind.i64.wrap (q14 - 3) = p14 := by rw [IntKind.wrap_i64]; omega
     have a3 : IntKind.i32.wrap p14 = p14 := by rw [IntKind.wrap_i32]; omega
     have a4 : IntKind.u8.wrap (65 + z % 4) = r14 := by rw [IntKind.wrap_u8]; omega
     have a5 : IntKind.u8.wrap (65 + z.tmod 4) = r14 := by rw [Int.tmod_eq_emod_of_nonneg z0]; exact a4
     have a6 : IntKind.i32.wrap r14 = r14 := by rw [IntKind.wrap_i32]; omega
     have b5 : IntKind.u8.wrap (97 + (z.tdiv 4).tmod 4) = r15 := by rw [Int.tdiv_eq_ediv_of_nonneg z0, Int.tmod_eq_emod_of_nonneg (by omega), IntKind.wrap_u8]; omega
     have b7 : IntKind.u8.wrap (z.tdiv 4) = z.tdiv 4 := by rw [Int.tdiv_eq_ediv_of_nonneg z0, IntKind.wrap_u8]; omega
     have b6 : IntKind.i32.wrap r15 = r15 := by rw [IntKind.wrap_i32]; omega
     have b1 : IntKind.i64.wrap (65 + (i : Int)) = q15 := by rw [IntKind.wrap_i64]; omega
     have b2 : IntKind.i64.wrap (q15 - 3) = p15 := by rw [IntKind.wrap_i64]; omega
     have b3 : IntKind.i32.wrap p15 = p15 := by rw [IntKind.wrap_i32]; omega
     have b4 : IntKind.u8.wrap (97 + z / 4 % 4) = r15 := by rw [IntKind.wrap_u8]; omega
     clear hp14 hq14 hr14 hp15 hq15 hr15 hG hOP hk hcell0 hxr0 HQ
     go_upto_region 14 with fail
     refine wp_region_E (S := fun W' : World => W'.cell? ⟨S + 1, 1, none⟩ = some v2 ∧ W'.cell? (ad.add i) = some (.int .u8 z)) (L := 17) (by kernel_rfl) ?_
     have hS14 : (fun W' : World => W'.cell? ⟨S + 1, 1, none⟩ = some v2 ∧ W'.cell? (ad.add i) = some (.int .u8 z)) wp.drew := ⟨hzc, hcell⟩
     iterate 14 (refine wpE rfl rfl ?_; try simp only [Act.put, g1, g2, g3, g4, g5, g6])
     refine wpAnyE_one (i := 14) (by kernel_rfl) rfl (fun K hK => ?_)
     simp only [g4, g5, g6]
     go_simp
     refine hK.out _ _ (fun _ => ⟨Lib.cell?_alloc_some _ hzc, Lib.cell?_alloc_some _ hcell⟩) (fun hS => ?_)
     replace hS := hS (by decide)
     refine wpAnyE_one (i := 15) (by kernel_rfl) rfl (fun K hK => ?_)
     refine step_append_lies _ (by rfl) _ _ _ (by rfl) S 81 iP (.agg #[.int .i32 0, .int .i32 0]) 2 8 Tryz.underlying24 hiP hp0 hp1 hp2 rfl (by decide) v2 (upG 0 ((zs.drop 3).take (i - 3))).length (prsC (upG 0 ((zs.drop 3).take (i - 3)))) (by rfl) (HOP.out.drew.alloc _) ⟨wp.heap.size, 0, none⟩ 1 1 [.int .i32 p14, .int .i32 r14] (by rfl) (by rfl) (pair_new _ _ _ _ _ (by simp)) (by intro u hu; simp at hu; rcases hu with rfl | rfl <;> rfl) (by omega) (by rw [HN.out]; unfold maxLen; omega) (by rw [HN.out]; omega) (by simp; omega) (wp.heap.size + 1) (by simp) ?_
     intro g cap w3 hown3 hgr3 hat3 hlt3
     have hal : Below wp.heap.size wp (wp.drew.alloc (.cells #[.int .i32 p14, .int .i32 r14] 81)) := (below_drew (Below.refl _ _)).alloc (Nat.le_refl _) _
     have HM := Lib.hid (GSt.up (p14, r14) (HG.out.next hal) hgr3 hown3 (hat3.imp_right (by rintro rfl; simp)))
     have hmid := (HG.out.next hal).mid (HOP.out.drew.alloc (.cells #[.int .i32 p14, .int .i32 r14] 81)) (by decide) (by decide) hgr3
     have hS3 : (fun W' : World => W'.cell? ⟨S + 1, 1, none⟩ = some v2 ∧ W'.cell? (ad.add i) = some (.int .u8 z)) w3 := ⟨hmid.1.cells.2.1, (hmid.2.cell (by rw [block_of_add]; exact HBL.out)).trans HC0.out⟩
     have fz14 := hmid.1.frozen 1
     clear hown3 hgr3 hat3 hal hmid
     refine hK.out _ _ (fun _ => hS3) (fun hS => ?_)
     replace hS := hS (by decide)
     refine wpEn 16 rfl ?_
     try simp only [Act.put, g1, g2, g3, g4, g5, g6]
     refine wpAnyE_one (i := 17) (by kernel_rfl) rfl (fun K hK => ?_)
     simp only [g4, g5, g6]
     go_simp
     refine hK.out _ _ (fun h => absurd rfl h) (fun _ => ?_)
     refine wpAnyE_done (by kernel_rfl) ?_ _
     clear hS hS3 hS14 fz14
     generalize w3.setCell ⟨S + 1, 1, none⟩ (.slice (some ⟨g, 0, none⟩) ((upG 0 ((zs.drop 3).take (i - 3))).length + 1) cap) = w4 at *
     obtain ⟨v2', hv2'⟩ : ∃ v, v = Value.slice (some ⟨g, 0, none⟩) ((upG 0 ((zs.drop 3).take (i - 3))).length + 1) cap := ⟨_, rfl⟩
     rw [← hv2'] at HM
     clear HG HOP hzc hcell hv2' hSw
     have HG := Lib.hid HM.out
     have hzc := HG.out.z.cells.2.2.1
     have hcell := (HG.out.b.cell (p := ad.add i) (by rw [block_of_add]; exact HBL.out)).trans HC0.out
     have hOP : w4.ownsRow S 81 2 v3 (loG 0 ((zs.drop 3).take (i - 3))).length (prsC (loG 0 ((zs.drop 3).take (i - 3)))) := HG.out.loc.2.2.1
     have HOP := Lib.hid hOP
     have hSw := HG.out.size
     clear HM hOP HN
     have HN := Lib.hid HN2.out
     go_upto_region 15 with fail
     refine wp_region_E (S := fun W' : World => W'.cell? ⟨S + 1, 2, none⟩ = some v3 ∧ W'.cell? (ad.add i) = some (.int .u8 z)) (L := 18) (by kernel_rfl) ?_
     have hS15 : (fun W' : World => W'.cell? ⟨S + 1, 2, none⟩ = some v3 ∧ W'.cell? (ad.add i) = some (.int .u8 z)) w4.drew := ⟨hzc, hcell⟩
     iterate 15 (refine wpE rfl rfl ?_; try simp only [Act.put, g1, g2, g3, g4, g5, g6])
     refine wpAnyE_one (i := 15) (by kernel_rfl) rfl (fun K hK => ?_)
     simp only [g4, g5, g6]
     go_simp
     refine hK.out _ _ (fun _ => ⟨Lib.cell?_alloc_some _ hzc, Lib.cell?_alloc_some _ hcell⟩) (fun hS => ?_)
     replace hS := hS (by decide)
     refine wpAnyE_one (i := 16) (by kernel_rfl) rfl (fun K hK => ?_)
     refine step_append_lies _ (by rfl) _ _ _ (by rfl) S 81 iP (.agg #[.int .i32 0, .int .i32 0]) 2 8 Tryz.underlying24 hiP hp0 hp1 hp2 rfl (by decide) v3 (loG 0 ((zs.drop 3).take (i - 3))).length (prsC (loG 0 ((zs.drop 3).take (i - 3)))) (by rfl) (HOP.out.drew.alloc _) ⟨w4.heap.size, 0, none⟩ 1 1 [.int .i32 p15, .int .i32 r15] (by rfl) (by rfl) (pair_new _ _ _ _ _ (by simp)) (by intro u hu; simp at hu; rcases hu with rfl | rfl <;> rfl) (by omega) (by rw [HN.out]; unfold maxLen; omega) (by rw [HN.out]; omega) (by simp; omega) (w4.heap.size + 1) (by simp) ?_
     intro g cap w3 hown3 hgr3 hat3 hlt3
     have hal : Below w4.heap.size w4 (w4.drew.alloc (.cells #[.int .i32 p15, .int .i32 r15] 81)) := (below_drew (Below.refl _ _)).alloc (Nat.le_refl _) _
     have HM := Lib.hid (GSt.lo (p15, r15) (HG.out.next hal) hgr3 hown3 (hat3.imp_right (by rintro rfl; simp)))
     have hmid := (HG.out.next hal).mid (HOP.out.drew.alloc (.cells #[.int .i32 p15, .int .i32 r15] 81)) (by decide) (by decide) hgr3
     have hS3 : (fun W' : World => W'.cell? ⟨S + 1, 2, none⟩ = some v3 ∧ W'.cell? (ad.add i) = some (.int .u8 z)) w3 := ⟨hmid.1.cells.2.2.1, (hmid.2.cell (by rw [block_of_add]; exact HBL.out)).trans HC0.out⟩
     have fz15 := hmid.1.frozen 2
     clear hown3 hgr3 hat3 hal hmid
     refine hK.out _ _ (fun _ => hS3) (fun hS => ?_)
     replace hS := hS (by decide)
     refine wpEn 17 rfl ?_
     try simp only [Act.put, g1, g2, g3, g4, g5, g6]
     refine wpAnyE_one (i := 18) (by kernel_rfl) rfl (fun K hK => ?_)
     simp only [g4, g5, g6]
     go_simp
     refine hK.out _ _ (fun h => absurd rfl h) (fun _ => ?_)
     refine wpAnyE_done (by kernel_rfl) ?_ _
     clear hS hS3 hS15
     go_wp2
     go_roundw
     case rel =>
      exact ⟨i + 1, by omega, .inl (by omega), by omega, by go_num, Lib.hid (by rw [HU.out, HW.out]; exact ⟨_, _, _, _, HM.out⟩)⟩
     case measure => simp [intOf]; omega
    ·have HF : Hid (∃ v1 v2 v3 v4, GSt w S ⟨clsG 0 (zs.take 3), upG 0 ((zs.drop 3).take 3), loG 0 ((zs.drop 3).take 3), []⟩ v1 v2 v3 v4 wp) := Lib.hid (by have h := HQ.out; rw [take_drop_end (k := 3) HL.out h3 hin hi6 hlt] at h; exact h)
     have hi4 : n ≤ i ∨ (i < n ∧ i = 6) := by omega
     clear hlt HQ
     rcases hi4 with hA | ⟨hA, hB⟩
     ·have hA' : ¬ ((i : Int) < (n : Int)) := by omega
      clear hA
      go_wp2
      go_meet
      exact HF
     ·have hA' : ((i : Int) < (n : Int)) := by omega
      have hB' : ¬ ((i : Int) < 6) := by omega
      clear hA hB
      go_wp2
      go_meet
      exact HF
  case rest =>
   generalize wc = wB at *
   have HQB := Lib.hid hcut.out
   clear hcut
   go_upto_block 4 with fail
   go_cut [] (fun wx => Hid (∃ v1 v2 v3 v4, GSt w S (genL zs) v1 v2 v3 v4 wx))
   case first =>
    go_wp2
    go_loopw [9] (fun iv wr => ∃ i : Nat, 6 ≤ i ∧ (i ≤ n ∨ i = 6) ∧ i ≤ 20 ∧ iv = .int .i64 i ∧ Hid (∃ v1 v2 v3 v4, GSt w S ⟨clsG 0 (zs.take 3), upG 0 ((zs.drop 3).take 3), loG 0 ((zs.drop 3).take 3), ordG ((zs.drop 6).take (i - 6))⟩ v1 v2 v3 v4 wr)) (fun iv _ => 20 - (intOf iv).toNat)
    case atStart => exact ⟨6, by omega, .inr rfl, by omega, rfl, Lib.hid HQB.out⟩
    case round =>
     obtain ⟨wp, hwp⟩ : ∃ wp, wp = wr := ⟨_, rfl⟩
     subst hwp
     obtain ⟨i, h6, hin, hi20, rfl, HQ⟩ := hrel
     by_cases hlt : i < n ∧ i < 20
     ·obtain ⟨h1, h2⟩ := hlt
      obtain ⟨v1, v2, v3, v4, hG⟩ := HQ.out
      obtain ⟨o, ho⟩ : ∃ o, o = ordG ((zs.drop 6).take (i - 6)) := ⟨_, rfl⟩
      rw [← ho] at hG
      have hord : OrdAt wp S v4 o := hG.loc.2.2.2
      obtain ⟨A4, c4, rfl⟩ := hord.form
      have hxr0 := HX.out
      obtain ⟨ad, z, rfl, hbl, hk, hcell0⟩ := hxr0.at_ h1
      have HBL : Hid (ad.block < S) := Lib.hid (by have := HSS.out; have := HBX.out; omega)
      have HC0 := Lib.hid hcell0
      have hcell : wp.cell? (ad.add i) = some (.int .u8 z) := (hG.b.cell (by rw [block_of_add]; exact HBL.out)).trans hcell0
      obtain ⟨z0, z1⟩ := HZ.out z (List.mem_of_getElem? hk)
      have i0 : (0 : Int) ≤ (i : Int) := by omega
      have i1 : (i : Int) < (n : Int) := by omega
      have i2 : (i : Int) < 20 := by omega
      have hlen6 := take_len hk h6
      have hok := ordG_ok ((zs.drop 6).take (i - 6)) (by omega) (fun x hx => HZ.out x (List.mem_of_mem_drop (List.mem_of_mem_take hx)))
      rw [← ho] at hok
      have hol : o.length ≤ 14 := by have := hok.2.1; omega
      have HNM : Hid (∀ e ∈ o, e.name.length ≤ maxLen) := Lib.hid (fun e he => by
       have h16 : e.name.length ≤ 16 := by
        rcases hok.2.2.1 e he with ⟨h0, _⟩ | ⟨j, h0, h1, h2, _⟩
        ·rw [h0]; simp
        ·rw [h2]; exact (nmElm_ok h0 h1).2.1
       unfold maxLen
       omega)
      have HS : Hid (ordG ((zs.drop 6).take (i + 1 - 6)) = stepO o z) := Lib.hid (by rw [take_drop_one hk h6, ordG_snoc, ← ho])
      obtain ⟨r, hr⟩ : ∃ r : Int, r = 97 + z % 6 := ⟨_, rfl⟩
      have wr1 : IntKind.u8.wrap (97 + z % 6) = r := by rw [IntKind.wrap_u8]; omega
      have wr2 : IntKind.i32.wrap r = r := by rw [IntKind.wrap_i32]; omega
      obtain ⟨j, hj⟩ : ∃ j : Nat, z / 11 % 3 = (j : Int) := ⟨(z / 11 % 3).toNat, by omega⟩
      have hj3 : j < 3 := by omega
      have j0 : (0 : Int) ≤ (j : Int) := by omega
      have j1 : (j : Int) < 3 := by omega
      obtain ⟨y, hy⟩ : ∃ y : Int, y = 99 - (j : Int) := ⟨_, rfl⟩
      have wy1 : IntKind.i32.wrap (99 - (j : Int)) = y := by rw [IntKind.wrap_i32]; omega
      have wy2 : IntKind.i32.wrap (j : Int) = (j : Int) := by rw [IntKind.wrap_i32]; omega
      obtain ⟨nm, hnm⟩ : ∃ x, x = (elm0 z).1 := ⟨_, rfl⟩
      obtain ⟨cs, hcs⟩ : ∃ x, x = (elm0 z).2 := ⟨_, rfl⟩
      have HCL : Hid (cs.length ≤ 2) := Lib.hid (by rw [hcs]; unfold elm0; split <;> simp)
      have HYES : Hid (z % 11 = 0 → nm = nmElm j ∧ cs = [y, 104]) := Lib.hid (fun h => by rw [hnm, hcs]; unfold elm0; rw [if_pos h, hj, hy]; exact ⟨rfl, rfl⟩)
      have HNO : Hid (¬ z % 11 = 0 → nm = [] ∧ cs = [r]) := Lib.hid (fun h => by rw [hnm, hcs]; unfold elm0; rw [if_neg h, hr]; exact ⟨rfl, rfl⟩)
      have HSTEP : Hid (stepO o z = if (placeL o cs).isSome then o else o ++ [⟨nm, cs, samO o z⟩]) := Lib.hid (by unfold stepO; rw [hnm, hcs])
      have HG := Lib.hid hG
      have hSw := hG.size
      obtain ⟨q0, q1, q2, q3⟩ := hG.z.cells
      have hcell1 : ((wp.alloc (.cells #[.int .i32 r] 30)).alloc (.cells #[.string ⟨#[]⟩, .slice (some ⟨wp.heap.size, 0, none⟩) 1 1, .int .i64 o.length] 83)).cell? (ad.add i) = some (.int .u8 z) := Lib.cell?_alloc_some _ (Lib.cell?_alloc_some _ hcell)
      clear hG hord hxr0 hk hcell0 HQ ho hok hlen6 hr hy hnm hcs
      go_upto_if 138 with fail
      obtain ⟨W1, hW1⟩ : ∃ W1, W1 = (wp.alloc (.cells #[.int .i32 r] 30)).alloc (.cells #[.string ⟨#[]⟩, .slice (some ⟨wp.heap.size, 0, none⟩) 1 1, .int .i64 o.length] 83) := ⟨_, rfl⟩
      rw [← hW1]
      rw [← hW1] at hcell1
      have HE1 : Hid (ElV S wp (wp.heap.size + 1) [] [r] o.length W1) := Lib.hid (by rw [hW1]; exact ElV.new wp S (by omega) r o.length)
      clear hW1
      go_cut [] (fun wx => Hid (ElV S wp (wp.heap.size + 1) nm cs o.length wx))
      case first =>
       by_cases h11 : z % 11 = 0
       ·obtain ⟨e1, e2⟩ := HYES.out h11
        have HEQ := Lib.hid (And.intro e1 e2)
        obtain ⟨-, hb1, Ac, cc, hr1, -⟩ := HE1.out
        have u0 : (W1.alloc (.cells namArr 9)).cell? ⟨wp.heap.size + 1, 0, none⟩ = some (.string (str [])) := (hr1.alloc _).cell rfl
        have u1 : (W1.alloc (.cells namArr 9)).frozen? ⟨wp.heap.size + 1, 0, none⟩ = false := (hr1.alloc _).frozen 0
        have u2 := nam_cell W1 9 hj3
        have u3 : (W1.alloc (.cells namArr 9)).cell? (ad.add i) = some (.int .u8 z) := Lib.cell?_alloc_some _ hcell1
        have HE3 := Lib.hid (HE1.out.name1 (nmElm (j : Int)) (.cells namArr 9))
        unfold namArr at u0 u1 u2 u3 HE3
        clear e1 e2 hr1 hb1 q0 q1 q2 q3
        go_upto_region 23 with fail
        obtain ⟨W3, hW3⟩ : ∃ W3, W3 = (W1.alloc (.cells #[.string ⟨#[99, 104]⟩, .string ⟨#[97, 98]⟩, .string ⟨#[101, 115, 122, 101, 116, 116]⟩] 9)).setCell ⟨wp.heap.size + 1, 0, none⟩ (.string (str (nmElm (j : Int)))) := ⟨_, rfl⟩
        rw [← hW3]
        rw [← hW3] at HE3
        clear hW3 u0 u1 u2 u3 hcell1
        obtain ⟨-, hb3, Ac, cc, hr3, -⟩ := HE3.out
        have hcell3 : W3.cell? (ad.add i) = some (.int .u8 z) := (hb3.cell (by rw [block_of_add]; have := HBL.out; omega)).trans hcell
        have v1' : (W3.alloc (.cells #[.int .i32 y, .int .i32 104] 30)).cell? ⟨wp.heap.size + 1, 1, none⟩ = some (.slice Ac [r].length cc) := (hr3.alloc _).cell rfl
        have v2' : (W3.alloc (.cells #[.int .i32 y, .int .i32 104] 30)).frozen? ⟨wp.heap.size + 1, 1, none⟩ = false := (hr3.alloc _).frozen 1
        clear hr3 hb3
        go_wp2
        go_meet
        exact Lib.hid (by rw [HEQ.out.1, HEQ.out.2]; exact HE3.out.cells1 (by omega) y 104)
       ·obtain ⟨rfl, rfl⟩ := HNO.out h11
        go_wp2
        go_meet
        exact HE1
      case rest =>
       generalize wc = w1 at *
       have HE := Lib.hid hcut.out
       clear hcut
       obtain ⟨hE1, hEb, Ac, cc, hEr, hEo⟩ := HE.out
       have hG1 := HG.out.next hEb
       have hord : OrdAt w1 S (.slice A4 o.length c4) o := hG1.loc.2.2.2
       have hOR := OrdR.of hord HNM.out
       have hRI : RI .i32 w1 w1.heap.size Ac cs.length cs := RI.of_own (e := 30) hEo
       have hpl := place_any w1 w1.heap.size w1.heap.size _ o Ac cc cs hOR hRI (by omega) (by have := HCL.out; unfold maxLen; omega)
       have q3' := hG1.z.cells.2.2.2
       have e1 : w1.cell? ⟨wp.heap.size + 1, 1, none⟩ = some (.slice Ac cs.length cc) := hEr.cell rfl
       clear hOR hRI hord hG1 hEo hEr q0 q1 q2 q3 hcell
       go_wp2_with fail
       with_reducible refine hpl.mono ?_
       rintro e w2 ⟨⟨rr, rfl, hrr⟩, hq⟩
       have hb2 : Below w1.heap.size w1 w2 := by obtain ⟨q, rfl⟩ := hq; exact below_drewN (Below.refl _ _) q
       have HE2 := Lib.hid (HE.out.next hb2)
       have hEb2 : Below wp.heap.size wp w2 := hEb.trans (hb2.mono hEb.size)
       have hcell : w2.cell? (ad.add i) = some (.int .u8 z) := ((HG.out.b.trans (hEb2.mono (by omega))).cell (by rw [block_of_add]; exact HBL.out)).trans HC0.out
       have HEB := Lib.hid hEb2
       clear hpl hq hb2 q3' e1 hEb hEb2 HE
       by_cases hp : (placeL o cs).isSome = true
       ·have hr0 : (0 : Int) ≤ rr := by rw [hp] at hrr; simpa using hrr
        have HF : Hid (stepO o z = o) := Lib.hid (by rw [HSTEP.out, if_pos hp])
        clear hrr hp
        go_wp2
        go_roundw
        case rel => exact ⟨i + 1, by omega, .inl (by omega), by omega, by go_num, Lib.hid (by rw [HS.out, HF.out]; exact ⟨_, _, _, _, HG.out.next HEB.out⟩)⟩
        case measure => simp [intOf]; omega
       ·have hr0 : ¬ (0 : Int) ≤ rr := by
         intro h
         rw [decide_eq_true h] at hrr
         exact hp hrr.symm
        have HF : Hid (stepO o z = o ++ [⟨nm, cs, samO o z⟩]) := Lib.hid (by rw [HSTEP.out, if_neg hp])
        clear hrr hp
        go_upto_region 25 with fail
        go_cut [173] (fun s wx => s = .bool (decide (200 < z ∧ 0 < o.length)) ∧ wx = w2)
        case first =>
         by_cases s1 : 200 < z
         ·by_cases s2 : 0 < o.length
          ·have s3 : (0 : Int) < (o.length : Int) := by omega
           have s4 : decide (200 < z ∧ 0 < o.length) = true := decide_eq_true ⟨s1, s2⟩
           go_wp2
           go_meet
           exact ⟨by rw [s4], rfl⟩
          ·have s3 : ¬ (0 : Int) < (o.length : Int) := by omega
           have s4 : decide (200 < z ∧ 0 < o.length) = false := decide_eq_false (fun h => s2 h.2)
           go_wp2
           go_meet
           exact ⟨by rw [s4], rfl⟩
         ·have s4 : decide (200 < z ∧ 0 < o.length) = false := decide_eq_false (fun h => s1 h.1)
          go_wp2
          go_meet
          exact ⟨by rw [s4], rfl⟩
        case rest =>
         generalize wc = w3 at *
         obtain ⟨rfl, rfl⟩ := hcut
         go_upto_if 173 with fail
         go_cut [] (fun wx => Hid (ElV S wp (wp.heap.size + 1) nm cs (samO o z) wx))
         case first =>
          by_cases s1 : 200 < z ∧ 0 < o.length
          ·have s4 : decide (200 < z ∧ 0 < o.length) = true := decide_eq_true s1
           rw [s4]
           obtain ⟨s2, s3⟩ := s1
           have s5 : (0 : Int) < (o.length : Int) := by omega
           obtain ⟨m, hm⟩ : ∃ m : Nat, z % (o.length : Int) = (m : Int) := ⟨(z % (o.length : Int)).toNat, by have := Int.emod_nonneg z (show (o.length : Int) ≠ 0 by omega); omega⟩
           have hml : (m : Int) < (o.length : Int) := by rw [← hm]; exact Int.emod_lt_of_pos z s5
           have m0 : (0 : Int) ≤ (m : Int) := by omega
           obtain ⟨e, he⟩ : ∃ e, o[m]? = some e := ⟨_, List.getElem?_eq_getElem (by omega)⟩
           have HSM : Hid (samO o z = e.same) := Lib.hid (by
            unfold samO
            rw [if_pos ⟨s2, s3⟩, hm, Int.toNat_natCast, he])
           have hG2 := HG.out.next HEB.out
           have hOR := OrdR.of (show OrdAt _ S (.slice A4 o.length c4) o from hG2.loc.2.2.2) HNM.out
           obtain ⟨ae, ce, Ae, xe, hAe, hbe, -, -, u2, -⟩ := elmR_at hOR he
           injection hAe with hAe _ hce
           subst hAe hce
           have hzc := hG2.z.cells.2.2.2
           have wz : IntKind.i64.wrap z = z := by rw [IntKind.wrap_i64]; omega
           have s6 : ¬ o = [] := by intro h0; rw [h0] at s3; exact absurd s3 (by simp)
           have s7 : z.tmod (o.length : Int) = (m : Int) := by rw [Int.tmod_eq_emod_of_nonneg z0]; exact hm
           obtain ⟨hE1', hEb', Ac', cc', hEr', -⟩ := HE2.out
           have f2 : w3.frozen? ⟨wp.heap.size + 1, 2, none⟩ = false := by simp [World.frozen?, show w3.heap[wp.heap.size + 1]? = _ from hEr']
           have hElt := hEr'.lt
           have e2' : w3.cell? ⟨wp.heap.size + 1, 2, none⟩ = some (.int .i64 o.length) := hEr'.cell rfl
           clear hG2 hOR he hEb' hEr' s4
           go_upto_region 26 with fail
           refine wp_region_E (S := fun W' : World => W'.cell? ⟨S + 1, 3, none⟩ = some (.slice (some ae) o.length c4) ∧ W'.cell? (ad.add i) = some (.int .u8 z) ∧ W'.cell? ⟨(ae.add (m * 3)).block, (ae.add (m * 3)).off + 2, none⟩ = some (.int .i64 e.same)) (L := 13) (by kernel_rfl) ?_
           have hS26 : (fun W' : World => W'.cell? ⟨S + 1, 3, none⟩ = some (.slice (some ae) o.length c4) ∧ W'.cell? (ad.add i) = some (.int .u8 z) ∧ W'.cell? ⟨(ae.add (m * 3)).block, (ae.add (m * 3)).off + 2, none⟩ = some (.int .i64 e.same)) w3.drew := ⟨hzc, hcell, u2⟩
           iterate 13 (refine wpE rfl rfl ?_; try simp only [Act.put, g1, g2, g3, g4, g5, g6])
           refine wpAnyE_one (i := 13) (by kernel_rfl) rfl (fun K hK => ?_)
           simp only [g4, g5, g6]
           go_simp
           refine hK.out _ _ (fun h => absurd rfl h) (fun _ => ?_)
           refine wpAnyE_done (by kernel_rfl) ?_ _
           go_wp2
           go_meet
           exact Lib.hid (by rw [HSM.out]; exact (HE2.out.next (below_drew (Below.refl _ _))).samed e.same)
          ·have s4 : decide (200 < z ∧ 0 < o.length) = false := decide_eq_false s1
           rw [s4]
           have HSM : Hid (samO o z = o.length) := Lib.hid (by unfold samO; rw [if_neg s1])
           clear s1 s4
           go_wp2
           go_meet
           exact Lib.hid (by rw [HSM.out]; exact HE2.out)
         case rest =>
          generalize wc = w4 at *
          have HE4 := Lib.hid hcut.out
          clear hcut HE2 HEB hcell
          obtain ⟨hE4, hEb4, Ac, cc, hEr, hEo⟩ := HE4.out
          have hG4 := HG.out.next hEb4
          obtain ⟨vs, hvs, hoC, hoR⟩ := hG4.loc.2.2.2
          simp only at hvs hoC hoR
          obtain ⟨q0, q1, q2, q3⟩ := hG4.z.cells
          have g0 := hG4.z.frozen 3
          have e0 : w4.cell? ⟨wp.heap.size + 1, 0, none⟩ = some (.string (str nm)) := hEr.cell rfl
          have e1 : w4.cell? ⟨wp.heap.size + 1, 1, none⟩ = some (.slice Ac cs.length cc) := hEr.cell rfl
          have e2 : w4.cell? ⟨wp.heap.size + 1, 2, none⟩ = some (.int .i64 (samO o z)) := hEr.cell rfl
          have HEO := Lib.hid hEo
          have HG4 := Lib.hid hG4
          have HVS := Lib.hid hvs
          have HOC := Lib.hid hoC
          have HOR := Lib.hid hoR
          have hSw4 := hG4.size
          obtain ⟨sm, hsm⟩ : ∃ sm, sm = samO o z := ⟨_, rfl⟩
          rw [← hsm] at e2 HF
          clear hEo hEr hG4 hvs hoC hoR hEb4 HE4 hsm
          go_wp2_with (at_builtin; (refine wpList_append_lies _ rfl _ _ 25 rfl S 83 iE (.agg #[.string (str []), .slice none 0 0, .int .i64 0]) 3 48 Tryz.underlying25 hiE he0 he1 he2 rfl (by decide) (.slice A4 o.length c4) o.length (ordR o vs).flatten rfl (HOC.out.alloc _) ⟨w4.heap.size, 0, none⟩ 1 1 [.string (str nm), .slice Ac cs.length cc, .int .i64 sm] rfl rfl (trip_new _ _ _ _ _ _ rfl) (by intro u hu; simp at hu; rcases hu with rfl | rfl | rfl <;> rfl) (by omega) (by unfold maxLen; omega) (by omega) (by simp; omega) (w4.heap.size + 1) (by simp) ?_); intro g cap w5 hown' hgrow hat hlt5; (have hal : Below w4.heap.size w4 (w4.alloc (.cells #[.string (str nm), .slice Ac cs.length cc, .int .i64 sm] 83)) := (Below.refl _ _).alloc (Nat.le_refl _) _); (have HM := Lib.hid (GSt.ord ⟨nm, cs, sm⟩ (HG4.out.next hal) HVS.out (HOC.out.alloc _) (fun i e x hc hx => (HOR.out i e x hc hx).alloc _) (HEO.out.alloc _) hgrow hown')); (have hz5 := ((HG4.out.next hal).mid (HOC.out.alloc (.cells #[.string (str nm), .slice Ac cs.length cc, .int .i64 sm] 83)) (by decide) (by decide) hgrow).1); (have g1 := hz5.frozen 3); (have g2 := hz5.cells.2.2.2); clear hz5; clear hown' hgrow hat hal)
          go_roundw
          case rel => exact ⟨i + 1, by omega, .inl (by omega), by omega, by go_num, Lib.hid (by rw [HS.out, HF.out]; exact ⟨_, _, _, _, HM.out⟩)⟩
          case measure => simp [intOf]; omega
     ·have HF : Hid (∃ v1 v2 v3 v4, GSt w S (genL zs) v1 v2 v3 v4 wp) := Lib.hid (by have h := HQ.out; rw [take_drop_end (k := 14) HL.out h6 hin hi20 hlt] at h; exact h)
      have hi4 : n ≤ i ∨ (i < n ∧ i = 20) := by omega
      clear hlt HQ
      rcases hi4 with hA | ⟨hA, hB⟩
      ·have hA' : ¬ ((i : Int) < (n : Int)) := by omega
       clear hA
       go_wp2
       go_meet
       exact HF
      ·have hA' : ((i : Int) < (n : Int)) := by omega
       have hB' : ¬ ((i : Int) < 20) := by omega
       clear hA hB
       go_wp2
       go_meet
       exact HF
   case rest =>
    generalize wc = wE at *
    obtain ⟨v1, v2, v3, v4, hG⟩ := hcut.out
    have HG := Lib.hid hG
    obtain ⟨q0, q1, q2, q3⟩ := hG.z.cells
    obtain ⟨A1, c1, rfl⟩ := hG.loc.1.form
    obtain ⟨A2, c2, rfl⟩ := row_form hG.loc.2.1
    obtain ⟨A3, c3, rfl⟩ := row_form hG.loc.2.2.1
    obtain ⟨A4, c4, rfl⟩ := hG.loc.2.2.2.form
    obtain ⟨r0, r1, r2, r3⟩ := hG.r.cells
    have f0 := hG.r.frozen 0
    have f1 := hG.r.frozen 1
    have f2 := hG.r.frozen 2
    have f3 := hG.r.frozen 3
    clear hG hcut
    go_wp2
    obtain ⟨W5, hW5⟩ : ∃ W5, W5 = ((((wE.setCell ⟨S, 0, none⟩ (.slice A1 (genL zs).cls.length c1)).setCell ⟨S, 1, none⟩ (.slice A2 (genL zs).up.length c2)).setCell ⟨S, 2, none⟩ (.slice A3 (genL zs).lo.length c3)).setCell ⟨S, 3, none⟩ (.slice A4 (genL zs).ord.length c4)) := ⟨_, rfl⟩
    have ht := HG.out.told HSS.out (.slice A1 (genL zs).cls.length c1) (.slice A2 (genL zs).up.length c2) (.slice A3 (genL zs).lo.length c3) (.slice A4 (genL zs).ord.length c4)
    have k1 : LocZ (wE.setCell ⟨S, 0, none⟩ (.slice A1 (genL zs).cls.length c1)) S (.slice A1 (genL zs).cls.length c1) (.slice none 0 0) (.slice none 0 0) (.slice none 0 0) := locz_set HG.out.r 0 _
    have k2 : LocZ ((wE.setCell ⟨S, 0, none⟩ (.slice A1 (genL zs).cls.length c1)).setCell ⟨S, 1, none⟩ (.slice A2 (genL zs).up.length c2)) S (.slice A1 (genL zs).cls.length c1) (.slice A2 (genL zs).up.length c2) (.slice none 0 0) (.slice none 0 0) := locz_set k1 1 _
    have k3 : LocZ (((wE.setCell ⟨S, 0, none⟩ (.slice A1 (genL zs).cls.length c1)).setCell ⟨S, 1, none⟩ (.slice A2 (genL zs).up.length c2)).setCell ⟨S, 2, none⟩ (.slice A3 (genL zs).lo.length c3)) S (.slice A1 (genL zs).cls.length c1) (.slice A2 (genL zs).up.length c2) (.slice A3 (genL zs).lo.length c3) (.slice none 0 0) := locz_set k2 2 _
    have k4 : LocZ ((((wE.setCell ⟨S, 0, none⟩ (.slice A1 (genL zs).cls.length c1)).setCell ⟨S, 1, none⟩ (.slice A2 (genL zs).up.length c2)).setCell ⟨S, 2, none⟩ (.slice A3 (genL zs).lo.length c3)).setCell ⟨S, 3, none⟩ (.slice A4 (genL zs).ord.length c4)) S (.slice A1 (genL zs).cls.length c1) (.slice A2 (genL zs).up.length c2) (.slice A3 (genL zs).lo.length c3) (.slice A4 (genL zs).ord.length c4) := locz_set k3 3 _
    rw [← hW5] at ht k4 ⊢
    obtain ⟨z0, z1, z2, z3⟩ := k4.cells
    refine bodyPost_ret (v := .agg #[.slice A1 (genL zs).cls.length c1, .slice A2 (genL zs).up.length c2, .slice A3 (genL zs).lo.length c3, .slice A4 (genL zs).ord.length c4]) (by simp [results, Tryz.results15, go_sem, z0, z1, z2, z3]) rfl ⟨_, _, _, _, rfl, ht⟩
end Go.Proofs.YthgiikhkcpbpfaaGreatDoor.C
