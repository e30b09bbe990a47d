/-
  Joined: KpL. Each with what its own head says.
-/
import Derived.Test.YthgiikhkcpbpfaaGreatDoorB26
import Derived.Test.YthgiikhkcpbpfaaGreatDoorB25


namespace Go.Proofs.YthgiikhkcpbpfaaGreatDoor.C
open Go.RowKit
def AlTold (w w' : World) (rs : List (List Int)) (e : Ending) : Prop := Below w.heap.size w w' ∧ ∃ A c, e = .returned (.slice A rs.length c) ∧ RowsR w' w'.heap.size A rs
set_option maxRecDepth 100000 in
set_option maxHeartbeats 8000000 in
theorem alike08_any (w : World) (B Ba : Nat) (v1 v2 v3 v4 : Value) (l : Loc) (Aa : Option Addr) (ma ca : Nat) (xs : List Int) (h : LocR w B v1 v2 v3 v4 l) (hB : B ≤ w.heap.size) (h5 : l.ord.length ≤ 500) (hx : RI .i32 w Ba Aa ma xs) (hBa : Ba ≤ w.heap.size) (hm : ma ≤ maxLen) :
  Calls Tryz.prog 127 #[.agg #[v1, v2, v3, v4], .slice Aa ma ca] w fun e w' => AlTold w w' (alikeL l.ord xs) e := by
 obtain ⟨W, hW⟩ : ∃ W, W = w.alloc (.cells #[v1, v2, v3, v4] 27) := ⟨_, rfl⟩
 have hb : Below w.heap.size w W := by rw [hW]; exact (Below.refl _ _).alloc (Nat.le_refl _) _
 have hrow : Rw W w.heap.size 27 #[v1, v2, v3, v4] := by rw [hW]; exact heap_alloc_new w _
 have hsW : W.heap.size = w.heap.size + 1 := by rw [hW]; simp
 obtain ⟨-, -, -, r4, -, -, -⟩ := h.on hb hB
 obtain ⟨A, c, xx, rfl, -⟩ := id r4
 have p3 : W.cell? ⟨w.heap.size, 3, none⟩ = some (.slice A l.ord.length c) := hrow.cell rfl
 have hpa := place07_any W B Ba _ l.ord Aa ma ca xs r4 (hx.on hb hBa) h5 hm
 obtain ⟨i0, hi, hz0, hz1, hz2⟩ := info_parts infoRowC
 have HR4 := Lib.hid r4
 have HB := Lib.hid hb
 have HSW := Lib.hid hsW
 have HX := Lib.hid (hx.on hb hBa)
 clear r4 hb hrow h hx hsW
 have HW := Lib.hid hW
 clear hW
 have hW := HW.out
 subst hW
 go_enter Tryz.func127, Tryz.ntmps127
 go_wp2_with fail
 refine hpa.mono ?_
 rintro e w2 ⟨rfl, q1, rfl⟩
 clear hpa
 rcases place_is (o := l.ord) (cs := xs) with ⟨k, x, he, hcx, hp⟩ | ⟨hno, hp⟩
 ·have hal : alikeL l.ord xs = (placesL l.ord x.same).map (cellsJ l.ord) := by
   unfold alikeL
   rw [hp]
   simp only [Int.toNat_natCast, he]
   exact if_neg (by omega)
  have HAL := Lib.hid hal
  have HKE := Lib.hid he
  obtain ⟨s, hs⟩ : ∃ s, s = x.same := ⟨_, rfl⟩
  have HS := Lib.hid hs
  have hkl := (List.getElem?_eq_some_iff.1 he).1
  have k0 : ¬ (k : Int) < 0 := by omega
  have k1 : (k : Int) < (l.ord.length : Int) := by omega
  have k2 : (0 : Int) ≤ (k : Int) := by omega
  rw [hp]
  clear he hcx hp hal hs
  go_wp2
  go_loopw [6, 7] (fun v jv wr => ∃ m : Nat, m ≤ l.ord.length ∧ jv = .int .i64 (m : Int) ∧ Hid (∃ vs, wr.ownsRow (w.heap.size + 1) 39 1 v (plK l.ord m s).length vs ∧ RowsV wr B vs ((plK l.ord m s).map (cellsJ l.ord)) ∧ Below (w.heap.size + 1) (w.alloc (.cells #[v1, v2, v3, .slice A l.ord.length c] 27)) wr)) (fun _ jv _ => l.ord.length - (intOf jv).toNat)
  case atStart => exact ⟨0, Nat.zero_le _, rfl, Lib.hid ⟨[], World.ownsRow_nil _ _ _ _, ⟨rfl, fun i r u h => by simp [plK] at h⟩, below_drewN (Below.refl _ _) _⟩⟩
  case round =>
   obtain ⟨m, hm', rfl, HV⟩ := hrel
   by_cases hlt : m < l.ord.length
   ·obtain ⟨vs, hown, hrv, hbw⟩ := HV.out
    obtain ⟨e, he⟩ : ∃ e, l.ord[m]? = some e := ⟨_, List.getElem?_eq_getElem hlt⟩
    have hr4 := HR4.out.on hbw (by omega)
    have hcl : e.cells.length ≤ maxLen := by
     obtain ⟨_, _, _, _, _, hel⟩ := id hr4
     obtain ⟨_, _, _, _, _, qq⟩ := hel _ e he
     exact qq
    obtain ⟨ad, cx, Ac, cc, hv, hbl, -, hc1, hc2, hri⟩ := elmR_at hr4 he
    injection hv with hA _ hcc
    subst hA hcc
    obtain ⟨ad', cx', _, _, hv', -, -, -, hk2, -⟩ := elmR_at hr4 HKE.out
    injection hv' with hA' _ hcc'
    injection hA' with hA'
    subst hA' hcc'
    rw [← HS.out] at hk2
    have p3' : wr.cell? ⟨w.heap.size, 3, none⟩ = some (.slice (some ad) l.ord.length c) := (hbw.cell (p := ⟨w.heap.size, 3, none⟩) (Nat.lt_succ_self _)).trans p3
    have hsz := hbw.size
    have i0' : (0 : Int) ≤ (m : Int) := by omega
    have i1' : (m : Int) < (l.ord.length : Int) := by omega
    have hple := plK_le l.ord m s
    have HOWN := Lib.hid hown
    have HRV := Lib.hid hrv
    have HBW := Lib.hid hbw
    have HE := Lib.hid he
    have HRI := Lib.hid hri
    have HCL := Lib.hid hcl
    have HSZ := Lib.hid hsz
    obtain ⟨nm, cl, sm⟩ := e
    simp only at hc1 hc2
    clear hown hrv hbw he hri hr4 hcl hsz hbl
    by_cases e : sm = s
    ·have e1 : (sm == s) = true := by simpa using e
     have hpn : plK l.ord (m + 1) s = plK l.ord m s ++ [m] := by rw [plK_next HE.out, if_pos e]
     have HPN := Lib.hid hpn
     clear e hpn
     go_wp2
     refine wp_region_held (S := fun W' : World => W'.cell? ⟨w.heap.size, 3, none⟩ = some (.slice (some ad) l.ord.length c) ∧ W'.cell? ⟨(ad.add (m * 3)).block, (ad.add (m * 3)).off + 2, none⟩ = some (.int .i64 sm) ∧ W'.cell? ⟨(ad.add (k * 3)).block, (ad.add (k * 3)).off + 2, none⟩ = some (.int .i64 s)) (by kernel_rfl) ?_
     change wpAnyH _ _ _ _ _ _ _ _ wr.drew
     have hS1 : (fun W' : World => W'.cell? ⟨w.heap.size, 3, none⟩ = some (.slice (some ad) l.ord.length c) ∧ W'.cell? ⟨(ad.add (m * 3)).block, (ad.add (m * 3)).off + 2, none⟩ = some (.int .i64 sm) ∧ W'.cell? ⟨(ad.add (k * 3)).block, (ad.add (k * 3)).off + 2, none⟩ = some (.int .i64 s)) wr.drew := ⟨p3', hc2, hk2⟩
     iterate 13 (refine wpH rfl rfl ?_; try simp only [Act.put, g1, g2, g3, g4, g5, g6])
     refine wpAnyH_done (by kernel_rfl) ?_ _
     have q3 : wr.drew.cell? ⟨w.heap.size, 3, none⟩ = some (.slice (some ad) l.ord.length c) := p3'
     have q1 : wr.drew.cell? ⟨(ad.add (m * 3)).block, (ad.add (m * 3)).off + 1, none⟩ = some (.slice Ac cl.length cc) := hc1
     clear hS1 p3' hc1 hc2 hk2
     go_wp2_with (at_builtin; (refine wpList_append_own _ rfl _ _ 32 rfl (w.heap.size + 1) 39 i0 (.slice none 0 0) 1 24 Tryz.underlying32 hi hz0 hz1 hz2 rfl (by decide) _ (plK l.ord m s).length vs rfl (HOWN.out.drew.alloc _) _ 1 1 [.slice Ac cl.length cc] rfl rfl (cell_one_new _ _ _) (by intro u hu; simp at hu; subst hu; rfl) (by unfold maxLen; omega) (by omega) (by simp; have := HSZ.out; have := HSW.out; omega) ?_); intro v' w3 hown' hgrow _)
     have HEND : Hid (∃ vs, w3.ownsRow (w.heap.size + 1) 39 1 v' (plK l.ord (m + 1) s).length vs ∧ RowsV w3 B vs ((plK l.ord (m + 1) s).map (cellsJ l.ord)) ∧ Below (w.heap.size + 1) (w.alloc (.cells #[v1, v2, v3, .slice (some ad) l.ord.length c] 27)) w3) := Lib.hid (by
      have hb3 : Below (w.heap.size + 1) wr w3 := ((below_drew (Below.refl _ _)).alloc (by have := HSZ.out; have := HSW.out; show _ ≤ wr.heap.size; omega) _).grown hgrow (by simp; have := HSZ.out; have := HSW.out; omega) (fun b hb => (HOWN.out.lt b hb).1)
      have hce : cellsJ l.ord m = cl := by unfold cellsJ; rw [HE.out]; rfl
      refine ⟨_, by rw [HPN.out, List.length_append]; exact hown', ?_, HBW.out.trans hb3⟩
      rw [HPN.out, List.map_append, List.map_cons, List.map_nil, hce]
      exact (HRV.out.on hb3 (by omega)).snoc (HRI.out.on hb3 (by omega)) HCL.out)
     clear hown' hgrow
     go_roundw
     case rel => exact ⟨m + 1, by omega, by go_num, HEND⟩
     case measure => simp [intOf]; omega
    ·have e1 : (sm == s) = false := by simpa using e
     have hpn : plK l.ord (m + 1) s = plK l.ord m s := by rw [plK_next HE.out, if_neg e, List.append_nil]
     have HEND : Hid (∃ vs, wr.drew.ownsRow (w.heap.size + 1) 39 1 _ (plK l.ord (m + 1) s).length vs ∧ RowsV wr.drew B vs ((plK l.ord (m + 1) s).map (cellsJ l.ord)) ∧ Below (w.heap.size + 1) (w.alloc (.cells #[v1, v2, v3, .slice (some ad) l.ord.length c] 27)) wr.drew) := Lib.hid ⟨vs, by rw [hpn]; exact HOWN.out.drew, by rw [hpn]; exact HRV.out, HBW.out.drew⟩
     clear e hpn
     go_wp2
     refine wp_region_held (S := fun W' : World => W'.cell? ⟨w.heap.size, 3, none⟩ = some (.slice (some ad) l.ord.length c) ∧ W'.cell? ⟨(ad.add (m * 3)).block, (ad.add (m * 3)).off + 2, none⟩ = some (.int .i64 sm) ∧ W'.cell? ⟨(ad.add (k * 3)).block, (ad.add (k * 3)).off + 2, none⟩ = some (.int .i64 s)) (by kernel_rfl) ?_
     change wpAnyH _ _ _ _ _ _ _ _ wr.drew
     have hS1 : (fun W' : World => W'.cell? ⟨w.heap.size, 3, none⟩ = some (.slice (some ad) l.ord.length c) ∧ W'.cell? ⟨(ad.add (m * 3)).block, (ad.add (m * 3)).off + 2, none⟩ = some (.int .i64 sm) ∧ W'.cell? ⟨(ad.add (k * 3)).block, (ad.add (k * 3)).off + 2, none⟩ = some (.int .i64 s)) wr.drew := ⟨p3', hc2, hk2⟩
     iterate 13 (refine wpH rfl rfl ?_; try simp only [Act.put, g1, g2, g3, g4, g5, g6])
     refine wpAnyH_done (by kernel_rfl) ?_ _
     clear hS1 p3' hc1 hc2 hk2
     go_wp2
     go_roundw
     case rel => exact ⟨m + 1, by omega, by go_num, HEND⟩
     case measure => simp [intOf]; omega
   ·obtain rfl : m = l.ord.length := by omega
    obtain ⟨vs, hown, hrv, hbw⟩ := HV.out
    obtain ⟨Ae, ce, hve, hre⟩ := hrv.reads (by have := hbw.size; have := HSW.out; omega) (by rw [List.length_map]) hown
    subst hve
    rw [plK_all] at hre
    have hlm : ((plK l.ord l.ord.length s).map (cellsJ l.ord)).length = (alikeL l.ord xs).length := by rw [HAL.out, ← HS.out, plK_all]
    have HF : Hid (AlTold w wr (alikeL l.ord xs) (.returned (.slice Ae ((plK l.ord l.ord.length s).map (cellsJ l.ord)).length ce))) := Lib.hid ⟨HB.out.trans (hbw.mono (by omega)), Ae, ce, by rw [← hlm], by rw [HAL.out, ← HS.out]; exact hre⟩
    have p3' : wr.cell? ⟨w.heap.size, 3, none⟩ = some (.slice A l.ord.length c) := (hbw.cell (p := ⟨w.heap.size, 3, none⟩) (Nat.lt_succ_self _)).trans p3
    clear hown hrv hbw hre hlm
    go_wp2
    go_ret
    exact HF.out
 ·have hal : alikeL l.ord xs = [xs] := by
   unfold alikeL
   rw [hp]
   split
   ·exact if_pos (by omega)
   ·rfl
  have HAL := Lib.hid hal
  have hlx : xs.length = ma := HX.out.len
  rw [hp]
  clear hno hp hal p3
  obtain ⟨w3, hw3⟩ : ∃ w3, w3 = ((w.alloc (.cells #[v1, v2, v3, .slice A l.ord.length c] 27)).drewN q1).alloc (.cells #[.slice Aa ma ca] 39) := ⟨_, rfl⟩
  have hb3 : Below (w.heap.size + 1) (w.alloc (.cells #[v1, v2, v3, .slice A l.ord.length c] 27)) w3 := by rw [hw3]; exact (below_drewN (Below.refl _ _) q1).alloc (by have := HSW.out; show _ ≤ (w.alloc _).heap.size; omega) _
  have hF : AlTold w w3 (alikeL l.ord xs) (.returned (.slice (some ⟨w.heap.size + 1, 0, none⟩) 1 1)) := by
   rw [HAL.out]
   refine ⟨HB.out.trans (hb3.mono (by omega)), some ⟨w.heap.size + 1, 0, none⟩, 1, rfl, fun _ => ⟨_, rfl, by rw [hw3]; simp, fun i r hi => ?_⟩⟩
   rcases i with _ | i
   ·obtain rfl : xs = r := by simpa using hi
    rw [hlx]
    refine ⟨Aa, ca, ?_, (HX.out.on hb3 (by omega)).more (by have := hb3.size; have := HSW.out; omega), hm⟩
    rw [hw3, Addr.add_zero']
    have := World.cell?_alloc_new ((w.alloc (.cells #[v1, v2, v3, .slice A l.ord.length c] 27)).drewN q1) #[.slice Aa ma ca] 39 0
    rw [show ((w.alloc (.cells #[v1, v2, v3, .slice A l.ord.length c] 27)).drewN q1).heap.size = w.heap.size + 1 from HSW.out] at this
    exact this
   ·simp at hi
  have HF := Lib.hid hF
  clear hF hb3
  subst hw3
  go_wp2
  go_ret
  exact HF.out
end Go.Proofs.YthgiikhkcpbpfaaGreatDoor.C
