/-
  Joined: LiE, LjC. Each with what its own head says.
-/
import Derived.Test.YthaibekbefndlaaGreatDoorZ29
import Derived.Test.YthaibekbefndlaaGreatDoorZ28
import Derived.Test.YthaibekbefndlaaGreatDoorZ24

namespace Go.Proofs.YthaibekbefndlaaGreatDoor.C
open Go.RowKit

theorem clsAt_no {cs : List Cls} {i : Nat} {k : Cls} (h : cs[i]? = some k) (hf : clsAt cs i = false) : clsB cs = false := range_all_false (List.getElem?_eq_some_iff.1 h).1 (by rw [hf]; rfl)
set_option maxRecDepth 100000 in
set_option maxHeartbeats 8000000 in
theorem right07_any (w : World) (B : Nat) (v1 v2 v3 v4 : Value) (l : Loc) (h : LocR w B v1 v2 v3 v4 l) (hB : B ≤ w.heap.size) (hfew : l.ord.length ≤ 500) :
  Calls Tryz.prog 27 #[.agg #[v1, v2, v3, v4]] w fun e w' => e = .returned (.bool (rightL l)) ∧ Below w.heap.size w w' := by
 obtain ⟨W, hW⟩ : ∃ W, W = w.alloc (.cells #[v1, v2, v3, v4] 26) := ⟨_, rfl⟩
 have hb : Below w.heap.size w W := by rw [hW]; exact (Below.refl _ _).alloc (Nat.le_refl _) _
 have hR := h.on hb hB
 have hrow : Rw W w.heap.size 26 #[v1, v2, v3, v4] := by rw [hW]; exact heap_alloc_new w _
 obtain ⟨⟨A1, c, x1, rfl, -⟩, ⟨A2, c2, rfl, -⟩, ⟨A3, c3, rfl, -⟩, ⟨A4, c4, x4, rfl, -⟩, -⟩ := h
 have HR := Lib.hid hR
 have HB := Lib.hid hb
 have HW := Lib.hid hrow
 have HBW : Hid (B ≤ W.heap.size) := Lib.hid (Nat.le_trans hB hb.size)
 have HWS : Hid (w.heap.size < W.heap.size) := Lib.hid hrow.lt
 have hnC := hR.2.2.2.2.1
 unfold maxLen at hnC
 clear hR hb hrow hB
 go_enter Tryz.func27, Tryz.ntmps27
 go_wp2
 rw [← hW]
 clear hW
 go_loopw [3] (fun iv wr => ∃ i : Nat, i ≤ l.cls.length ∧ iv = .int .i64 i ∧ Hid (Below W.heap.size W wr ∧ ∀ j, j < i → (!clsAt l.cls j) = false)) (fun iv _ => l.cls.length - (intOf iv).toNat)
 case atStart => exact ⟨0, Nat.zero_le _, rfl, Lib.hid ⟨Below.refl _ _, by intro j hj; omega⟩⟩
 case round =>
  obtain ⟨wp, hwp⟩ : ∃ wp, wp = wr := ⟨_, rfl⟩
  subst hwp
  obtain ⟨i, hin, rfl, HQ⟩ := hrel
  have f0 : wp.cell? ⟨w.heap.size, 0, none⟩ = some (.slice A1 l.cls.length c) := (HW.out.on HQ.out.1 HW.out.lt).cell rfl
  by_cases hlt : i < l.cls.length
  rotate_left
  ·obtain rfl : i = l.cls.length := by omega
   have HC : Hid (clsB l.cls = true) := Lib.hid (range_all_true HQ.out.2)
   have f1 : wp.cell? ⟨w.heap.size, 1, none⟩ = some (.slice A2 l.up.length c2) := (HW.out.on HQ.out.1 HW.out.lt).cell rfl
   have hrw := HR.out.on HQ.out.1 HBW.out
   have hm := mapped07_any wp B _ l.up hrw.2.1 hrw.2.2.2.2.2.1
   have HRW := Lib.hid hrw
   clear hrw
   cases hu : pairsB l.up with
   | false =>
    rw [hu] at hm
    have HF : Hid (rightL l = false) := Lib.hid (by unfold rightL; rw [hu, Bool.and_false, Bool.false_and, Bool.false_and])
    clear hu
    go_wp2_with fail
    with_reducible refine hm.mono ?_
    rintro e w2 ⟨rfl, hq⟩
    have HB2 : Hid (Below W.heap.size W w2) := Lib.hid (by obtain ⟨q, rfl⟩ := hq; exact below_drewN HQ.out.1 q)
    clear hq hm
    go_wp2
    go_ret
    exact ⟨by rw [HF.out]; rfl, HB.out.trans (HB2.out.mono HB.out.size)⟩
   | true =>
   rw [hu] at hm
   go_wp2_with fail
   with_reducible refine hm.mono ?_
   rintro e w2 ⟨rfl, hq⟩
   have HB2 : Hid (Below W.heap.size W w2) := Lib.hid (by obtain ⟨q, rfl⟩ := hq; exact below_drewN HQ.out.1 q)
   have hrw2 := HR.out.on HB2.out HBW.out
   have hm2 := mapped07_any w2 B _ l.lo hrw2.2.2.1 hrw2.2.2.2.2.2.2
   have f2 : w2.cell? ⟨w.heap.size, 2, none⟩ = some (.slice A3 l.lo.length c3) := (HW.out.on HB2.out HW.out.lt).cell rfl
   clear hq hm hrw2 f0 f1
   cases hl : pairsB l.lo with
   | false =>
    rw [hl] at hm2
    have HF : Hid (rightL l = false) := Lib.hid (by unfold rightL; rw [hl, Bool.and_false, Bool.false_and])
    clear hl hu
    go_wp2_with fail
    with_reducible refine hm2.mono ?_
    rintro e w3 ⟨rfl, hq⟩
    have HB3 : Hid (Below W.heap.size W w3) := Lib.hid (by obtain ⟨q, rfl⟩ := hq; exact below_drewN HB2.out q)
    clear hq hm2
    go_wp2
    go_ret
    exact ⟨by rw [HF.out]; rfl, HB.out.trans (HB3.out.mono HB.out.size)⟩
   | true =>
   rw [hl] at hm2
   have HF : Hid (rightL l = ordB l.ord) := Lib.hid (by unfold rightL; rw [HC.out, hu, hl]; rfl)
   clear hl hu
   go_wp2_with fail
   with_reducible refine hm2.mono ?_
   rintro e w3 ⟨rfl, hq⟩
   have HB3 : Hid (Below W.heap.size W w3) := Lib.hid (by obtain ⟨q, rfl⟩ := hq; exact below_drewN HB2.out q)
   have hrw3 := HR.out.on HB3.out HBW.out
   have hm3 := orders07_any w3 B _ l.ord hrw3.2.2.2.1 (Nat.le_trans HBW.out HB3.out.size) hfew
   have f3 : w3.cell? ⟨w.heap.size, 3, none⟩ = some (.slice A4 l.ord.length c4) := (HW.out.on HB3.out HW.out.lt).cell rfl
   clear hq hm2 hrw3 f2
   go_wp2_with fail
   with_reducible refine hm3.mono ?_
   rintro e w4 ⟨rfl, hb4⟩
   have HB4 : Hid (Below W.heap.size W w4) := Lib.hid (HB3.out.trans (hb4.mono HB3.out.size))
   clear hb4 hm3
   go_wp2
   go_ret
   exact ⟨by rw [HF.out]; rfl, HB.out.trans (HB4.out.mono HB.out.size)⟩
  obtain ⟨kc, hkc⟩ : ∃ kc, l.cls[i]? = some kc := ⟨_, List.getElem?_eq_getElem hlt⟩
  have hrw := HR.out.on HQ.out.1 HBW.out
  obtain ⟨ad, c', Ar, cr, hA, hbad, u0, u1, hpr, hnr⟩ := clsR_at hrw.1 hkc
  have hnm : kc.name.length ≤ maxLen := by
   obtain ⟨_, _, _, _, _, hel⟩ := hrw.1
   obtain ⟨_, _, _, h3, _⟩ := hel i kc hkc
   exact h3
  injection hA with hA _ hC'
  subst hA hC'
  have hcl := clsOk_at hkc
  obtain ⟨nm, rs⟩ := kc
  dsimp only at u0 u1 hpr hnr hnm
  unfold clsOk at hcl
  dsimp only at hcl
  obtain ⟨n, hn⟩ : ∃ n, n = rs.length := ⟨_, rfl⟩
  rw [← hn] at u1 hpr hnr
  have HN := Lib.hid hn
  have HCL := Lib.hid hcl
  have HKC := Lib.hid hkc
  have i0 : (0 : Int) ≤ (i : Int) := by omega
  have i1 : (i : Int) < (l.cls.length : Int) := by omega
  obtain ⟨W1, hW1⟩ : ∃ W1, W1 = wp.alloc (.cells #[.string (str nm), .slice Ar n cr] 47) := ⟨_, rfl⟩
  have hb1 : Below wp.heap.size wp W1 := by rw [hW1]; exact (Below.refl _ _).alloc (Nat.le_refl _) _
  have hX : Rw W1 wp.heap.size 47 #[.string (str nm), .slice Ar n cr] := by rw [hW1]; exact heap_alloc_new wp _
  have HX := Lib.hid hX
  have HB1 : Hid (Below W.heap.size W W1) := Lib.hid (HQ.out.1.trans (hb1.mono HQ.out.1.size))
  have hBp : B ≤ wp.heap.size := Nat.le_trans HBW.out HQ.out.1.size
  have HPR : Hid (PrsR W1 B (.slice Ar n cr) rs) := Lib.hid (hpr.on hb1 hBp)
  have HBL : Hid (ad.block < B) := Lib.hid hbad
  have HBW1 : Hid (B ≤ W1.heap.size) := Lib.hid (Nat.le_trans hBp hb1.size)
  have HSZ1 : Hid (wp.heap.size < W1.heap.size) := Lib.hid hX.lt
  have hwd0 := fun (b : Bool) (hb : wordlyB nm = b) => wordly07_is nm W1 hnm hb
  have z0 : W1.cell? ⟨wp.heap.size, 0, none⟩ = some (.string (str nm)) := hX.cell rfl
  have z1 : W1.cell? ⟨wp.heap.size, 1, none⟩ = some (.slice Ar n cr) := hX.cell rfl
  unfold maxLen at hnr
  clear hrw hpr hkc hcl hn hb1 hX hbad hBp hnm
  go_upto_region 5 with fail
  rw [← hW1]
  clear hW1 u0 u1
  cases hwd : wordlyB nm with
  | false =>
   have hw := hwd0 _ hwd
   have HF : Hid (rightL l = false) := Lib.hid (by unfold rightL; rw [clsAt_no HKC.out (by rw [HCL.out, hwd, Bool.false_and, Bool.false_and, Bool.false_and])]; rfl)
   clear hwd hwd0
   go_wp2_with fail
   with_reducible refine hw.mono ?_
   rintro e w2 ⟨rfl, rfl⟩
   go_wp2
   go_ret
   exact ⟨by rw [HF.out]; rfl, HB.out.trans (HB1.out.mono HB.out.size)⟩
  | true =>
  have hw := hwd0 _ hwd
  have HWD := Lib.hid hwd
  clear hwd hwd0
  by_cases hn0 : n = 0
  ·have HF : Hid (rightL l = false) := Lib.hid (by
    have he : rs = [] := List.eq_nil_of_length_eq_zero (by have := HN.out; omega)
    unfold rightL
    rw [clsAt_no HKC.out (by rw [HCL.out, he]; simp)]
    rfl)
   subst hn0
   go_wp2_with fail
   with_reducible refine hw.mono ?_
   rintro e w2 ⟨rfl, rfl⟩
   go_wp2
   go_ret
   exact ⟨by rw [HF.out]; rfl, HB.out.trans (HB1.out.mono HB.out.size)⟩
  have en : ¬ (n : Int) = 0 := by omega
  have en2 : ((n : Int) == 0) = false := by simpa using en
  go_wp2_with fail
  with_reducible refine hw.mono ?_
  rintro e w2 ⟨rfl, hwe⟩
  have hwe := hwe.symm
  subst hwe
  clear hw
  go_wp2
  clear en en2 z0 z1
  go_loopw [5] (fun jv wi => ∃ j : Nat, j ≤ n ∧ jv = .int .i64 j ∧ Hid (Below W1.heap.size W1 wi ∧ (rs.take j).all rangeB = true)) (fun jv _ => n - (intOf jv).toNat)
  case atStart => exact ⟨0, Nat.zero_le _, rfl, Lib.hid ⟨Below.refl _ _, rfl⟩⟩
  case round =>
   obtain ⟨wi, hwi⟩ : ∃ wi, wi = wr := ⟨_, rfl⟩
   subst hwi
   obtain ⟨j, hjn, rfl, HQ2⟩ := hrel
   have z1 : wi.cell? ⟨wp.heap.size, 1, none⟩ = some (.slice Ar n cr) := (HX.out.on HQ2.out.1 HSZ1.out).cell rfl
   by_cases hj : j < n
   ·obtain ⟨r, hr⟩ : ∃ r, rs[j]? = some r := ⟨_, List.getElem?_eq_getElem (by have := HN.out; omega)⟩
    obtain ⟨_, _, hg, hsi⟩ := HPR.out.on HQ2.out.1 HBW1.out
    injection hg with hg hg2 hg3
    clear hg2
    subst hg hg3
    obtain ⟨rd, rfl, hrb, y0, y1⟩ := prsR_at hsi hr
    have HR2 := Lib.hid hr
    obtain ⟨a, b⟩ := r
    dsimp only at y0 y1
    have j0 : (0 : Int) ≤ (j : Int) := by omega
    have j1 : (j : Int) < (n : Int) := by omega
    obtain ⟨W2, hW2⟩ : ∃ W2, W2 = wi.alloc (.cells #[.int .i32 a, .int .i32 b] 51) := ⟨_, rfl⟩
    have HB2 : Hid (Below W1.heap.size W1 W2) := Lib.hid (by rw [hW2]; exact HQ2.out.1.alloc HQ2.out.1.size _)
    have hY : Rw W2 wi.heap.size 51 #[.int .i32 a, .int .i32 b] := by rw [hW2]; exact heap_alloc_new wi _
    have x0 : W2.cell? ⟨wi.heap.size, 0, none⟩ = some (.int .i32 a) := hY.cell rfl
    have x1 : W2.cell? ⟨wi.heap.size, 1, none⟩ = some (.int .i32 b) := hY.cell rfl
    have hsc := fun (x : Int) (r : Bool) (hx : scalB x = r) => scalar07_is x W2 hx
    have HFF : Hid (rangeB (a, b) = false → rightL l = false) := Lib.hid (fun hx => by
     unfold rightL
     rw [clsAt_no HKC.out (by rw [HCL.out, all_fails HR2.out hx, Bool.and_false])]
     rfl)
    clear hr hsi hrb hY
    go_upto_region 11 with fail
    rw [← hW2]
    clear hW2 y0 y1
    cases ha : scalB a with
    | false =>
     have hsa := hsc a _ ha
     have HF : Hid (rightL l = false) := Lib.hid (HFF.out (by unfold rangeB; rw [ha, Bool.false_and, Bool.false_and]))
     clear ha hsc
     go_wp2_with fail
     with_reducible refine hsa.mono ?_
     rintro e w3 ⟨rfl, rfl⟩
     go_wp2
     go_ret
     exact ⟨by rw [HF.out]; rfl, HB.out.trans ((HB1.out.trans (HB2.out.mono HB1.out.size)).mono HB.out.size)⟩
    | true =>
    have hsa := hsc a _ ha
    cases hbb : scalB b with
    | false =>
     have hsb := hsc b _ hbb
     have HF : Hid (rightL l = false) := Lib.hid (HFF.out (by unfold rangeB; rw [hbb, Bool.and_false, Bool.false_and]))
     clear ha hbb hsc
     go_wp2_with fail
     with_reducible refine hsa.mono ?_
     rintro e w3 ⟨rfl, rfl⟩
     go_wp2_with fail
     with_reducible refine hsb.mono ?_
     rintro e w3 ⟨rfl, rfl⟩
     go_wp2
     go_ret
     exact ⟨by rw [HF.out]; rfl, HB.out.trans ((HB1.out.trans (HB2.out.mono HB1.out.size)).mono HB.out.size)⟩
    | true =>
    have hsb := hsc b _ hbb
    by_cases hba : b < a
    ·have HF : Hid (rightL l = false) := Lib.hid (HFF.out (by unfold rangeB; rw [decide_eq_false (by simp only; omega), Bool.and_false]))
     clear ha hbb hsc
     go_wp2_with fail
     with_reducible refine hsa.mono ?_
     rintro e w3 ⟨rfl, rfl⟩
     go_wp2_with fail
     with_reducible refine hsb.mono ?_
     rintro e w3 ⟨rfl, rfl⟩
     go_wp2
     go_ret
     exact ⟨by rw [HF.out]; rfl, HB.out.trans ((HB1.out.trans (HB2.out.mono HB1.out.size)).mono HB.out.size)⟩
    ·have HT : Hid ((rs.take (j + 1)).all rangeB = true) := Lib.hid (all_next HR2.out HQ2.out.2 (by unfold rangeB; rw [ha, hbb, decide_eq_true (by simp only; omega)]; rfl))
     clear ha hbb hsc
     go_wp2_with fail
     with_reducible refine hsa.mono ?_
     rintro e w3 ⟨rfl, rfl⟩
     go_wp2_with fail
     with_reducible refine hsb.mono ?_
     rintro e w3 ⟨rfl, rfl⟩
     go_wp2
     go_roundw
     case rel => exact ⟨j + 1, by omega, by go_num, Lib.hid ⟨HB2.out, HT.out⟩⟩
     case measure => simp [intOf]; omega
   ·obtain rfl : j = n := by omega
    have HAL : Hid (rs.all rangeB = true) := Lib.hid (by
     have := HQ2.out.2
     rwa [List.take_of_length_le (by have := HN.out; omega)] at this)
    have HCL2 : Hid (clsAt l.cls i = !(((l.cls.take i).map Cls.name).contains nm)) := Lib.hid (by
     rw [HCL.out, HWD.out, HAL.out, show rs.isEmpty = false by
      cases rs with
      | nil => exact absurd HN.out (by simpa using hn0)
      | cons _ _ => rfl, Bool.true_and, Bool.and_true, Bool.not_false, Bool.and_true])
    have HBW2 := Lib.hid HQ2.out.1
    go_wp2
    go_loopw [7] (fun kv wi => ∃ k : Nat, k ≤ i ∧ kv = .int .i64 k ∧ Hid (Below W1.heap.size W1 wi ∧ ∀ x ∈ l.cls.take k, x.name ≠ nm)) (fun kv _ => i - (intOf kv).toNat)
    case atStart => exact ⟨0, Nat.zero_le _, rfl, Lib.hid ⟨HBW2.out, by simp⟩⟩
    case round =>
     obtain ⟨wi, hwi⟩ : ∃ wi, wi = wr := ⟨_, rfl⟩
     subst hwi
     obtain ⟨k, hki, rfl, HQ3⟩ := hrel
     have HBk : Hid (Below W.heap.size W wi) := Lib.hid (HB1.out.trans (HQ3.out.1.mono HB1.out.size))
     by_cases hk : k < i
     ·obtain ⟨ek, hek⟩ : ∃ ek, l.cls[k]? = some ek := ⟨_, List.getElem?_eq_getElem (by omega)⟩
      obtain ⟨ad', c', _, _, hA', _, y0, _, _, _⟩ := clsR_at (HR.out.on HBk.out HBW.out).1 hek
      injection hA' with hA' _ hC'
      injection hA' with hA'
      subst hA' hC'
      have f0 : wi.cell? ⟨w.heap.size, 0, none⟩ = some (.slice (some ad) l.cls.length c) := (HW.out.on HBk.out HW.out.lt).cell rfl
      have x0 : wi.cell? ⟨wp.heap.size, 0, none⟩ = some (.string (str nm)) := (HX.out.on HQ3.out.1 HSZ1.out).cell rfl
      obtain ⟨nk, rk⟩ := ek
      dsimp only at y0
      have HEK := Lib.hid hek
      have k0 : (0 : Int) ≤ (k : Int) := by omega
      have k1 : (k : Int) < (l.cls.length : Int) := by omega
      have k2 : (k : Int) < (i : Int) := by omega
      clear hek
      by_cases hnk : nk = nm
      ·have HF : Hid (rightL l = false) := Lib.hid (by
        unfold rightL
        rw [clsAt_no HKC.out (by
         rw [HCL2.out, show ((l.cls.take i).map Cls.name).contains nm = true from List.contains_iff_mem.2 (List.mem_map.2 ⟨⟨nk, rk⟩, List.mem_of_getElem? (i := k) (by rw [List.getElem?_take, if_pos hk]; exact HEK.out), hnk⟩)]
         rfl)]
        rfl)
       subst hnk
       go_wp2
       refine wp_region_held (S := fun W' : World => W'.cell? ⟨w.heap.size, 0, none⟩ = some (.slice (some ad) l.cls.length c) ∧ W'.cell? (ad.add (k * 2)) = some (.string (str nk)) ∧ W'.cell? ⟨wp.heap.size, 0, none⟩ = some (.string (str nk))) (by kernel_rfl) ?_
       change wpAnyH _ _ _ _ _ _ _ _ wi.drew
       have hS1 : (fun W' : World => W'.cell? ⟨w.heap.size, 0, none⟩ = some (.slice (some ad) l.cls.length c) ∧ W'.cell? (ad.add (k * 2)) = some (.string (str nk)) ∧ W'.cell? ⟨wp.heap.size, 0, none⟩ = some (.string (str nk))) wi.drew := ⟨f0, y0, x0⟩
       iterate 9 (refine wpH rfl rfl ?_; try simp only [Act.put, g1, g2, g3, g4, g5, g6])
       refine wpAnyH_done (by kernel_rfl) ?_ _
       have HQ4 : Hid (Below W1.heap.size W1 wi.drew) := Lib.hid (below_drew HQ3.out.1)
       clear hS1 f0 y0 x0
       go_wp2
       go_ret
       exact ⟨by rw [HF.out]; rfl, HB.out.trans ((HB1.out.trans (HQ4.out.mono HB1.out.size)).mono HB.out.size)⟩
      ·have e86 := str_ne0 hnk
       have HNX : Hid (∀ x ∈ l.cls.take (k + 1), x.name ≠ nm) := Lib.hid (by
        rw [take_one HEK.out]
        intro x hx
        rcases List.mem_append.1 hx with hx | hx
        ·exact HQ3.out.2 x hx
        ·rw [List.mem_singleton] at hx
         subst hx
         exact hnk)
       clear hnk
       go_wp2
       refine wp_region_held (S := fun W' : World => W'.cell? ⟨w.heap.size, 0, none⟩ = some (.slice (some ad) l.cls.length c) ∧ W'.cell? (ad.add (k * 2)) = some (.string (str nk)) ∧ W'.cell? ⟨wp.heap.size, 0, none⟩ = some (.string (str nm))) (by kernel_rfl) ?_
       change wpAnyH _ _ _ _ _ _ _ _ wi.drew
       have hS1 : (fun W' : World => W'.cell? ⟨w.heap.size, 0, none⟩ = some (.slice (some ad) l.cls.length c) ∧ W'.cell? (ad.add (k * 2)) = some (.string (str nk)) ∧ W'.cell? ⟨wp.heap.size, 0, none⟩ = some (.string (str nm))) wi.drew := ⟨f0, y0, x0⟩
       iterate 9 (refine wpH rfl rfl ?_; try simp only [Act.put, g1, g2, g3, g4, g5, g6])
       refine wpAnyH_done (by kernel_rfl) ?_ _
       have HQ4 : Hid (Below W1.heap.size W1 wi.drew) := Lib.hid (below_drew HQ3.out.1)
       clear hS1 f0 y0 x0
       go_wp2
       go_roundw
       case rel => exact ⟨k + 1, by omega, by go_num, Lib.hid ⟨HQ4.out, HNX.out⟩⟩
       case measure => simp [intOf]; omega
     ·obtain rfl : k = i := by omega
      have HT : Hid ((!clsAt l.cls k) = false) := Lib.hid (by
       rw [HCL2.out, show ((l.cls.take k).map Cls.name).contains nm = false from by
        rw [← Bool.not_eq_true, List.contains_iff_mem]
        intro hm
        obtain ⟨x, hx, he⟩ := List.mem_map.1 hm
        exact HQ3.out.2 x hx he]
       rfl)
      go_wp2
      go_roundw
      case rel => exact ⟨k + 1, by omega, by go_num, Lib.hid ⟨HBk.out, fun j hj => by
       rcases (by omega : j < k ∨ j = k) with h1 | h1
       ·exact HQ.out.2 j h1
       ·rw [h1]; exact HT.out⟩⟩
      case measure => simp [intOf]; omega
end Go.Proofs.YthaibekbefndlaaGreatDoor.C

namespace Go.Proofs.YthaibekbefndlaaGreatDoor.C
open Go.RowKit

def BlkAt (w : World) (lo b : Nat) : Prop := lo ≤ b ∧ ∃ cs t, w.heap[b]? = some (.cells cs t (0, 0))
theorem BlkAt.of {w : World} {lo sz n c : Nat} {e : TypeId} {ad : Addr} {k : Nat} {xs : List Value} (h : w.ownsRow lo e sz (.slice (some ad) n c) k xs) : BlkAt w lo ad.block := by
 obtain ⟨cs, hc⟩ := ownsRow_ty h rfl
 exact ⟨(h.lt ad.block rfl).1, cs, e, hc⟩
theorem BlkAt.on {w w' : World} {lo b B : Nat} (h : BlkAt w lo b) (hb : Below B w w') (hB : w.heap.size ≤ B) : BlkAt w' lo b := by
 obtain ⟨h1, cs, t, h2⟩ := h
 exact ⟨h1, cs, t, (hb.block b (by have := (Array.getElem?_eq_some_iff.1 h2).1; omega)).trans h2⟩
theorem BlkAt.lt {w : World} {lo b : Nat} (h : BlkAt w lo b) : b < w.heap.size := by
 obtain ⟨h1, cs, t, h2⟩ := h
 exact (Array.getElem?_eq_some_iff.1 h2).1
theorem BlkAt.frozen {w : World} {lo b : Nat} (h : BlkAt w lo b) (i : Nat) : w.frozen? ⟨b, i, none⟩ = false := by
 obtain ⟨h1, cs, t, h2⟩ := h
 simp [World.frozen?, h2]
theorem cls_low {w : World} {lo : Nat} {v : Value} {cs : List Cls} (h : ClsAt w lo v cs) (ad : Addr) (c : Nat) (hv : v = .slice (some ad) cs.length c) {i : Nat} {k : Cls} (hk : cs[i]? = some k) {A : Addr} {m c' : Nat} (hc : w.cell? ⟨(ad.add (i * 2)).block, (ad.add (i * 2)).off + 1, none⟩ = some (.slice (some A) m c')) : BlkAt w lo A.block := by
 obtain ⟨vs, h1, h2, h3⟩ := h
 have hi : i < cs.length := (List.getElem?_eq_some_iff.1 hk).1
 have hx : vs[i]? = some (vs[i]'(by omega)) := List.getElem?_eq_getElem (by omega)
 rw [hv, clsC_flat] at h2
 have hz : (cs.zip vs)[i]? = some (k, vs[i]'(by omega)) := by rw [List.getElem?_zip_eq_some]; exact ⟨hk, hx⟩
 have hs : SI 2 w w.heap.size (some ad) cs.length ((cs.zip vs).map fun x => [.string (str x.1.name), x.2]) := SI.of_own h2 (by simp [h1]) (by intro x hx; obtain ⟨y, _, rfl⟩ := List.mem_map.1 hx; rfl)
 obtain ⟨ad', e, _, hcell⟩ := hs.2.2 (by omega)
 injection e with e
 subst e
 have h4 := hcell i _ (by rw [List.getElem?_map, hz]; rfl) 1 _ rfl
 rw [← add_more' _ _ _ (by omega), hc] at h4
 injection h4 with h4
 dsimp only at h4
 have h5 := h3 i k _ hk hx
 rw [← h4] at h5
 exact BlkAt.of h5
theorem clsG_rs : ∀ (l : List Int) (i : Nat), ∀ c ∈ clsG i l, c.rs ≠ [] ∧ c.rs.length ≤ 2
 | [], _, c, h => by simp [clsG] at h
 | z :: r, i, c, h => by
  rcases List.mem_cons.1 (show c ∈ cls1 i z :: clsG (i + 1) r from h) with rfl | h
  ·constructor
   ·simp [cls1]
   ·unfold cls1
    simp only
    split <;> simp
  ·exact clsG_rs r (i + 1) c h
theorem genL_small (zs : List Int) (hb : Byt zs) : Small (genL zs) ∧ ∀ c ∈ (genL zs).cls, c.rs ≠ [] := by
 obtain ⟨_, g1, g2, g3, _⟩ := genL_ok zs hb
 refine ⟨⟨?_, ?_, ?_, by omega, fun c hc => ⟨by have := g1 c hc; omega, by have := (clsG_rs _ _ c hc).2; omega⟩, fun e he => by have := g2 e he; omega⟩, fun c hc => (clsG_rs _ _ c hc).1⟩
 ·show (clsG 0 (zs.take 3)).length ≤ 500
  rw [clsG_len, List.length_take]
  omega
 ·show (upG 0 ((zs.drop 3).take 3)).length ≤ 500
  rw [upG_len, List.length_take]
  omega
 ·show (loG 0 ((zs.drop 3).take 3)).length ≤ 500
  rw [loG_len, List.length_take]
  omega
end Go.Proofs.YthaibekbefndlaaGreatDoor.C
