/-
  Joined: KpM. Each with what its own head says.
-/
import Derived.Test.YtknjhlbhbnldpaaGreatDoorB22

namespace Go.Proofs.YtknjhlbhbnldpaaGreatDoor.C
open Go.RowKit

theorem insU_new {x : Int} : ∀ {l : List Int} {k : Nat}, (∀ y ∈ l.take k, y < x) → k ≤ l.length → (∀ y, l[k]? = some y → x < y) → insU x l = l.take k ++ x :: l.drop k
 | [], k, _, hk, _ => by
  obtain rfl : k = 0 := by simpa using hk
  rfl
 | z :: r, 0, _, _, h2 => by
  have := h2 z rfl
  unfold insU
  rw [if_pos this]
  rfl
 | z :: r, k + 1, h1, hk, h2 => by
  have hz : z < x := h1 z (by rw [List.take_succ_cons]; exact List.mem_cons_self)
  unfold insU
  rw [if_neg (by omega), if_neg (by omega), insU_new (l := r) (k := k) (fun y hy => h1 y (by rw [List.take_succ_cons]; exact List.mem_cons_of_mem _ hy)) (by simpa using hk) (fun y hy => h2 y (by simpa using hy))]
  rfl
theorem insU_old {x : Int} : ∀ {l : List Int} {k : Nat}, (∀ y ∈ l.take k, y < x) → l[k]? = some x → insU x l = l
 | [], k, _, h2 => by cases h2
 | z :: r, 0, _, h2 => by
  obtain rfl : z = x := by simpa using h2
  unfold insU
  rw [if_neg (by omega), if_pos rfl]
 | z :: r, k + 1, h1, h2 => by
  have hz : z < x := h1 z (by rw [List.take_succ_cons]; exact List.mem_cons_self)
  unfold insU
  rw [if_neg (by omega), if_neg (by omega), insU_old (l := r) (k := k) (fun y hy => h1 y (by rw [List.take_succ_cons]; exact List.mem_cons_of_mem _ hy)) (by simpa using h2)]
theorem riseL_next {l : List Int} {i : Nat} {x : Int} (hx : l[i]? = some x) : riseL (l.take (i + 1)) = insU x (riseL (l.take i)) := by
 unfold riseL
 rw [take_one hx, List.foldl_append]
 rfl
theorem RI.takeK {ki : IntKind} {w : World} {B n k : Nat} {A : Option Addr} {zs : List Int} (h : RI ki w B A n zs) (hk : k ≤ n) : RI ki w B A k (zs.take k) := by
 refine ⟨by rw [List.length_take, h.len]; omega, fun hn => ?_⟩
 obtain ⟨ad, e, hb, hc⟩ := h.2 (by omega)
 refine ⟨ad, e, hb, fun j u hu => hc j u ?_⟩
 rw [List.getElem?_take] at hu
 split at hu
 ·exact hu
 ·cases hu
theorem RI.dropK {ki : IntKind} {w : World} {B n k cap : Nat} {A : Option Addr} {zs : List Int} (h : RI ki w B A n zs) (hk : k ≤ n) (hc : n ≤ cap) : RI ki w B (if cap = k then A else A.map (·.add k)) (n - k) (zs.drop k) := by
 have := h.cut (k := k) (m := n - k) (cap := cap) (by omega) hc
 rwa [List.take_of_length_le (by rw [List.length_drop, h.len]; exact Nat.le_refl _)] at this
theorem infoCell8 : (Tryz.prog.info? 23).map (fun i => (i.zero, i.size, i.bytes)) = some (some (.int .i32 0), 1, 4) := by kernel_rfl
set_option maxRecDepth 100000 in
set_option maxHeartbeats 8000000 in
theorem fold08_any (w : World) (B : Nat) (v1 v2 v3 v4 : Value) (l : Loc) (c : Int) (h : LocR w B v1 v2 v3 v4 l) (hB : B ≤ w.heap.size) :
  Calls Tryz.prog 57 #[.agg #[v1, v2, v3, v4], .int .i32 c] w fun e w' => ∃ v, e = .returned v ∧ w'.ownsRow w.heap.size 23 1 v (foldL l c).length (celC (foldL l c)) ∧ Below w.heap.size w w' := by
 obtain ⟨W, hW⟩ : ∃ W, W = w.alloc (.cells #[v1, v2, v3, v4] 30) := ⟨_, rfl⟩
 have hb : Below w.heap.size w W := by rw [hW]; exact (Below.refl _ _).alloc (Nat.le_refl _) _
 have hrow : Rw W w.heap.size 30 #[v1, v2, v3, v4] := by rw [hW]; exact heap_alloc_new w _
 have hsW : W.heap.size = w.heap.size + 1 := by rw [hW]; simp
 obtain ⟨-, r2, r3, -, -, n2, n3⟩ := h.on hb hB
 have hu1 := to08_any W B v2 l.up c r2 n2
 have hl1 := to08_any W B v3 l.lo c r3 n3
 have hl2 := to08_any W.drew B v3 l.lo (toL l.up c) r3 n3
 have hu2 := to08_any W.drew B v2 l.up (toL l.lo c) r2 n2
 obtain ⟨A2, c2, rfl, _⟩ := r2
 obtain ⟨A3, c3, rfl, _⟩ := r3
 have p1 : W.cell? ⟨w.heap.size, 1, none⟩ = some (.slice A2 l.up.length c2) := hrow.cell rfl
 have p2 : W.cell? ⟨w.heap.size, 2, none⟩ = some (.slice A3 l.lo.length c3) := hrow.cell rfl
 obtain ⟨all, hall⟩ : ∃ all, all = [c, toL l.up c, toL l.lo c, toL l.lo (toL l.up c), toL l.up (toL l.lo c)] := ⟨_, rfl⟩
 have HFO : Hid (foldL l c = riseL all) := Lib.hid (by rw [hall]; rfl)
 have HALL := Lib.hid hall
 obtain ⟨i0, hi, hz0, hz1, hz2⟩ := info_parts infoCell8
 have HB := Lib.hid hb
 have HSW := Lib.hid hsW
 clear hb hrow h hsW hall
 obtain ⟨a1, ha1⟩ : ∃ a1, a1 = toL l.up c := ⟨_, rfl⟩
 obtain ⟨a2, ha2⟩ : ∃ a2, a2 = toL l.lo c := ⟨_, rfl⟩
 rw [← ha1] at hu1 hl2 HALL
 rw [← ha2] at hl1 hu2 HALL
 obtain ⟨a3, ha3⟩ : ∃ a3, a3 = toL l.lo a1 := ⟨_, rfl⟩
 obtain ⟨a4, ha4⟩ : ∃ a4, a4 = toL l.up a2 := ⟨_, rfl⟩
 rw [← ha3] at hl2 HALL
 rw [← ha4] at hu2 HALL
 clear ha1 ha2 ha3 ha4
 go_enter Tryz.func57, Tryz.ntmps57
 have HW := Lib.hid hW
 go_wp2_with fail
 rw [← hW]
 clear hW
 refine hu1.mono ?_
 rintro e w2 ⟨rfl, rfl⟩
 clear hu1
 go_wp2_with fail
 refine hl1.mono ?_
 rintro e w3 ⟨rfl, rfl⟩
 clear hl1
 go_wp2
 refine wp_region_held (S := fun W' : World => W'.cell? ⟨w.heap.size, 1, none⟩ = some (.slice A2 l.up.length c2) ∧ W'.cell? ⟨w.heap.size, 2, none⟩ = some (.slice A3 l.lo.length c3)) (by kernel_rfl) ?_
 change wpAnyH _ _ _ _ _ _ _ _ w3.drew
 have hS1 : (fun W' : World => W'.cell? ⟨w.heap.size, 1, none⟩ = some (.slice A2 l.up.length c2) ∧ W'.cell? ⟨w.heap.size, 2, none⟩ = some (.slice A3 l.lo.length c3)) w3.drew := ⟨p1, p2⟩
 iterate 6 (refine wpH rfl rfl ?_; try simp only [Act.put, g1, g2, g3, g4, g5, g6])
 refine wpHn 7 rfl ?_; try simp only [Act.put, g1, g2, g3, g4, g5, g6]
 refine wpHn 8 rfl ?_; try simp only [Act.put, g1, g2, g3, g4, g5, g6]
 refine wpHn 9 rfl ?_; try simp only [Act.put, g1, g2, g3, g4, g5, g6]
 have HS1 := Lib.hid hS1
 refine wpAnyH_one (i := 6) (by kernel_rfl) rfl (fun K hK => ?_)
 simp only [g4, g5, g6]
 go_simp
 go_at_call 55
 refine hl2.mono ?_
 rintro e w5 ⟨rfl, hw5⟩
 subst hw5
 clear hl2
 refine hK.out _ _ HS1.out (fun _ => ?_)
 try simp only [Act.put, g1, g2, g3, g4, g5, g6]
 refine wpAnyH_one (i := 10) (by kernel_rfl) rfl (fun K hK => ?_)
 simp only [g4, g5, g6]
 go_simp
 go_at_call 55
 refine hu2.mono ?_
 rintro e w6 ⟨rfl, hw6⟩
 subst hw6
 clear hu2
 refine hK.out _ _ HS1.out (fun _ => ?_)
 try simp only [Act.put, g1, g2, g3, g4, g5, g6]
 refine wpAnyH_one (i := 11) (by kernel_rfl) rfl (fun K hK => ?_)
 simp only [g4, g5, g6]
 go_simp
 obtain ⟨w4, hw4⟩ : ∃ w4, w4 = w3.alloc (.cells #[.int .i32 c, .int .i32 a1, .int .i32 a2, .int .i32 a3, .int .i32 a4] 23) := ⟨_, rfl⟩
 have hb4 : Below w3.heap.size w3 w4 := by rw [hw4]; exact (Below.refl _ _).alloc (Nat.le_refl _) _
 have hs4 : w4.heap.size = w3.heap.size + 1 := by rw [hw4]; simp
 have hr4 : RI .i32 w4 w4.heap.size (some ⟨w3.heap.size, 0, none⟩) 5 all := by rw [hs4, hw4, HALL.out]; exact RI.new w3 .i32 [c, a1, a2, a3, a4] _
 have hS4 : (fun W' : World => W'.cell? ⟨w.heap.size, 1, none⟩ = some (.slice A2 l.up.length c2) ∧ W'.cell? ⟨w.heap.size, 2, none⟩ = some (.slice A3 l.lo.length c3)) w4 := ⟨below_cell (p := ⟨w.heap.size, 1, none⟩) hb4 p1, below_cell (p := ⟨w.heap.size, 2, none⟩) hb4 p2⟩
 have hlen : all.length = 5 := by rw [HALL.out]; rfl
 obtain ⟨ad7, had7⟩ : ∃ ad7 : Addr, ad7 = ⟨w3.heap.size, 0, none⟩ := ⟨_, rfl⟩
 rw [← had7] at hr4 ⊢
 have h7b : ad7.block < w4.heap.size := by rw [had7]; show w3.heap.size < _; omega
 have hc7 : ∀ (j : Nat) (x : Int), all[j]? = some x → w4.cell? (ad7.add j) = some (.int .i32 x) := by
  obtain ⟨ad, e, _, hc⟩ := hr4.2 (by decide)
  injection e with e
  subst e
  exact hc
 have HB4 := Lib.hid (HB.out.trans (hb4.mono HB.out.size))
 have HC7 := Lib.hid hc7
 rw [show (w3.alloc (.cells #[.int .i32 c, .int .i32 a1, .int .i32 a2, .int .i32 a3, .int .i32 a4] 23)).drew = w4.drew from by rw [hw4]]
 clear hb4 hs4 hr4 had7 hc7 hw4 p1 p2
 refine hK.out _ _ hS4 (fun _ => ?_)
 try simp only [Act.put, g1, g2, g3, g4, g5, g6]
 refine wpH rfl rfl ?_; try simp only [Act.put, g1, g2, g3, g4, g5, g6]
 refine wpAnyH_done (by kernel_rfl) ?_ _
 clear hS4 hS1 hK
 go_wp2
 go_loopw [8, 9] (fun v iv wr => ∃ i : Nat, i ≤ 5 ∧ iv = .int .i64 (i : Int) ∧ Hid (wr.ownsRow w4.heap.size 23 1 v (riseL (all.take i)).length (celC (riseL (all.take i))) ∧ Below w4.heap.size w4 wr)) (fun _ iv _ => 5 - (intOf iv).toNat)
 case atStart => exact ⟨0, by omega, rfl, Lib.hid ⟨World.ownsRow_nil _ _ _ _, (Below.refl _ _).drew⟩⟩
 case round =>
  obtain ⟨i, hi5, rfl, HV⟩ := hrel
  by_cases hlt : i < 5
  ·obtain ⟨x, hx⟩ : ∃ x, all[i]? = some x := ⟨_, List.getElem?_eq_getElem (by omega)⟩
   obtain ⟨ls, hls⟩ : ∃ ls, ls = riseL (all.take i) := ⟨_, rfl⟩
   have hnext : riseL (all.take (i + 1)) = insU x ls := by rw [hls]; exact riseL_next hx
   have hln : ls.length ≤ i := by rw [hls]; exact Nat.le_trans (rise_len _) (by rw [List.length_take]; omega)
   have hV := HV.out
   rw [← hls] at hV
   obtain ⟨A, cap, rfl, hcap, hcm, hri⟩ := own_slice2 (zs := ls) hV.1
   have HOWN := Lib.hid hV.1
   have HBW := Lib.hid hV.2
   have HRI := Lib.hid hri
   have HNX := Lib.hid hnext
   have cx : wr.cell? (ad7.add i) = some (.int .i32 x) := (hV.2.cell (p := ad7.add i) (by rw [block_of_add]; exact h7b)).trans (HC7.out i x hx)
   have j0 : (0 : Int) ≤ (i : Int) := by omega
   have j1 : (i : Int) < 5 := by omega
   clear hV hri hnext hx hls HV
   go_wp2
   go_loopw [10] (fun kv wi => ∃ (k qq : Nat), k ≤ ls.length ∧ kv = .int .i64 (k : Int) ∧ wi = wr.drewN qq ∧ Hid (∀ y ∈ ls.take k, y < x)) (fun kv _ => ls.length - (intOf kv).toNat)
   case atStart => exact ⟨0, 0, Nat.zero_le _, rfl, rfl, Lib.hid (by simp)⟩
   case round =>
    obtain ⟨k, qq, hkn, rfl, rfl, HLT⟩ := hrel
    have l0 : (0 : Int) ≤ (k : Int) := by omega
    have HTK : Hid (RI .i32 wr wr.heap.size A k (ls.take k)) := Lib.hid (HRI.out.takeK hkn)
    by_cases hkl : k < ls.length
    ·obtain ⟨y, hy⟩ : ∃ y, ls[k]? = some y := ⟨_, List.getElem?_eq_getElem hkl⟩
     obtain ⟨ad, rfl, had, hcy⟩ := HRI.out.2 (by omega)
     have cy : wr.cell? (ad.add k) = some (.int .i32 y) := hcy k y hy
     have HY := Lib.hid hy
     have l1 : (k : Int) < (ls.length : Int) := by omega
     clear hcy hy
     by_cases hyx : y < x
     ·have HN : Hid (∀ z ∈ ls.take (k + 1), z < x) := Lib.hid (by
       rw [take_one HY.out]
       intro z hz
       rcases List.mem_append.1 hz with hz | hz
       ·exact HLT.out z hz
       ·rw [List.mem_singleton] at hz
        subst hz
        exact hyx)
      go_wp2
      refine wp_region_held (S := fun W' : World => W'.cell? (ad.add k) = some (.int .i32 y) ∧ W'.cell? (ad7.add i) = some (.int .i32 x)) (by kernel_rfl) ?_
      change wpAnyH _ _ _ _ _ _ _ _ (wr.drewN qq).drew
      have hS1 : (fun W' : World => W'.cell? (ad.add k) = some (.int .i32 y) ∧ W'.cell? (ad7.add i) = some (.int .i32 x)) (wr.drewN qq).drew := ⟨cy, cx⟩
      iterate 3 (refine wpH rfl rfl ?_; try simp only [Act.put, g1, g2, g3, g4, g5, g6])
      refine wpHn 3 (v := .bool true) rfl ?_; try simp only [Act.put, g1, g2, g3, g4, g5, g6]
      iterate 9 (refine wpH rfl rfl ?_; try simp only [Act.put, g1, g2, g3, g4, g5, g6])
      refine wpHn 13 (v := .bool true) rfl ?_; try simp only [Act.put, g1, g2, g3, g4, g5, g6]
      refine wpH rfl rfl ?_; try simp only [Act.put, g1, g2, g3, g4, g5, g6]
      refine wpAnyH_done (by kernel_rfl) ?_ _
      clear hS1
      go_wp2
      go_roundw
      case rel => exact ⟨k + 1, qq + 1, by omega, by go_num, rfl, HN⟩
      case measure => simp [intOf]; omega
     ·by_cases hex : y = x
      ·have e1 : (y == x) = true := by simpa using hex
       have hins : insU x ls = ls := insU_old HLT.out (by rw [HY.out, hex])
       have HEND : Hid ((wr.drewN qq).drew.drew.ownsRow w4.heap.size 23 1 (.slice (some ad) ls.length cap) (riseL (all.take (i + 1))).length (celC (riseL (all.take (i + 1)))) ∧ Below w4.heap.size w4 (wr.drewN qq).drew.drew) := Lib.hid ⟨by rw [HNX.out, hins]; exact HOWN.out, below_drewN (HBW.out) (qq + 2)⟩
       clear hins hex
       go_wp2
       refine wp_region_held (S := fun W' : World => W'.cell? (ad.add k) = some (.int .i32 y) ∧ W'.cell? (ad7.add i) = some (.int .i32 x)) (by kernel_rfl) ?_
       change wpAnyH _ _ _ _ _ _ _ _ (wr.drewN qq).drew
       have hS1 : (fun W' : World => W'.cell? (ad.add k) = some (.int .i32 y) ∧ W'.cell? (ad7.add i) = some (.int .i32 x)) (wr.drewN qq).drew := ⟨cy, cx⟩
       iterate 3 (refine wpH rfl rfl ?_; try simp only [Act.put, g1, g2, g3, g4, g5, g6])
       refine wpHn 3 (v := .bool true) rfl ?_; try simp only [Act.put, g1, g2, g3, g4, g5, g6]
       iterate 9 (refine wpH rfl rfl ?_; try simp only [Act.put, g1, g2, g3, g4, g5, g6])
       refine wpHn 13 (v := .bool false) rfl ?_; try simp only [Act.put, g1, g2, g3, g4, g5, g6]
       refine wpH rfl rfl ?_; try simp only [Act.put, g1, g2, g3, g4, g5, g6]
       refine wpAnyH_done (by kernel_rfl) ?_ _
       clear hS1
       go_wp2
       refine wp_region_held (S := fun W' : World => W'.cell? (ad.add k) = some (.int .i32 y) ∧ W'.cell? (ad7.add i) = some (.int .i32 x)) (by kernel_rfl) ?_
       change wpAnyH _ _ _ _ _ _ _ _ (wr.drewN qq).drew.drew
       have hS1 : (fun W' : World => W'.cell? (ad.add k) = some (.int .i32 y) ∧ W'.cell? (ad7.add i) = some (.int .i32 x)) (wr.drewN qq).drew.drew := ⟨cy, cx⟩
       iterate 3 (refine wpH rfl rfl ?_; try simp only [Act.put, g1, g2, g3, g4, g5, g6])
       refine wpHn 3 (v := .bool true) rfl ?_; try simp only [Act.put, g1, g2, g3, g4, g5, g6]
       iterate 9 (refine wpH rfl rfl ?_; try simp only [Act.put, g1, g2, g3, g4, g5, g6])
       refine wpHn 13 (v := .bool true) rfl ?_; try simp only [Act.put, g1, g2, g3, g4, g5, g6]
       refine wpH rfl rfl ?_; try simp only [Act.put, g1, g2, g3, g4, g5, g6]
       refine wpAnyH_done (by kernel_rfl) ?_ _
       clear hS1
       go_wp2
       go_roundw
       case rel => exact ⟨i + 1, by omega, by go_num, HEND⟩
       case measure => simp [intOf]; omega
      ·have e1 : (y == x) = false := by simpa using hex
       have HINS : Hid (insU x ls = ls.take k ++ x :: ls.drop k) := Lib.hid (insU_new HLT.out hkn (fun z hz => by rw [HY.out] at hz; have := Option.some.inj hz; omega))
       clear hex
       go_wp2
       refine wp_region_held (S := fun W' : World => W'.cell? (ad.add k) = some (.int .i32 y) ∧ W'.cell? (ad7.add i) = some (.int .i32 x)) (by kernel_rfl) ?_
       change wpAnyH _ _ _ _ _ _ _ _ (wr.drewN qq).drew
       have hS1 : (fun W' : World => W'.cell? (ad.add k) = some (.int .i32 y) ∧ W'.cell? (ad7.add i) = some (.int .i32 x)) (wr.drewN qq).drew := ⟨cy, cx⟩
       iterate 3 (refine wpH rfl rfl ?_; try simp only [Act.put, g1, g2, g3, g4, g5, g6])
       refine wpHn 3 (v := .bool true) rfl ?_; try simp only [Act.put, g1, g2, g3, g4, g5, g6]
       iterate 9 (refine wpH rfl rfl ?_; try simp only [Act.put, g1, g2, g3, g4, g5, g6])
       refine wpHn 13 (v := .bool false) rfl ?_; try simp only [Act.put, g1, g2, g3, g4, g5, g6]
       refine wpH rfl rfl ?_; try simp only [Act.put, g1, g2, g3, g4, g5, g6]
       refine wpAnyH_done (by kernel_rfl) ?_ _
       clear hS1
       go_wp2
       refine wp_region_held (S := fun W' : World => W'.cell? (ad.add k) = some (.int .i32 y) ∧ W'.cell? (ad7.add i) = some (.int .i32 x)) (by kernel_rfl) ?_
       change wpAnyH _ _ _ _ _ _ _ _ (wr.drewN qq).drew.drew
       have hS1 : (fun W' : World => W'.cell? (ad.add k) = some (.int .i32 y) ∧ W'.cell? (ad7.add i) = some (.int .i32 x)) (wr.drewN qq).drew.drew := ⟨cy, cx⟩
       iterate 3 (refine wpH rfl rfl ?_; try simp only [Act.put, g1, g2, g3, g4, g5, g6])
       refine wpHn 3 (v := .bool true) rfl ?_; try simp only [Act.put, g1, g2, g3, g4, g5, g6]
       iterate 9 (refine wpH rfl rfl ?_; try simp only [Act.put, g1, g2, g3, g4, g5, g6])
       refine wpHn 13 (v := .bool false) rfl ?_; try simp only [Act.put, g1, g2, g3, g4, g5, g6]
       refine wpH rfl rfl ?_; try simp only [Act.put, g1, g2, g3, g4, g5, g6]
       refine wpAnyH_done (by kernel_rfl) ?_ _
       clear hS1
       have lc : (k : Int) ≤ (cap : Int) := by omega
       go_upto_region 14 with (at_builtin; (refine wpList_append_ri _ rfl (.tmp 70) (.tmp 73) 33 rfl wr.heap.size 23 i0 (.int .i32 0) 4 Tryz.underlying33 hi hz0 hz1 hz2 rfl (.slice none 0 0) 0 [] rfl (World.ownsRow_nil _ _ _ _) .i32 wr.heap.size _ k _ (ls.take k) rfl HTK.out (by unfold maxLen; omega) (by omega) (Nat.le_refl _) ?_); intro va wa howna hgrowa)
       rw [Nat.zero_add, List.nil_append] at howna
       have hba : Below wr.heap.size wr wa := (below_drewN (Below.refl _ _) _).grown hgrowa (Nat.le_refl _) (by intro b hb; simp [Value.ownBlock] at hb)
       have hw4r := HBW.out.size
       have cxa : wa.cell? (ad7.add i) = some (.int .i32 x) := (hba.cell (p := ad7.add i) (by rw [block_of_add]; omega)).trans cx
       have HOA := Lib.hid howna
       have HBA := Lib.hid hba
       have hsa := hba.size
       clear howna hgrowa hba cy
       go_upto_region 15 with (at_builtin; (refine wpList_append_own _ rfl (.tmp 75) (.tmp 80) 33 rfl wr.heap.size 23 i0 (.int .i32 0) 1 4 Tryz.underlying33 hi hz0 hz1 hz2 rfl (by decide) va k ((ls.take k).map (Value.int .i32)) rfl (HOA.out.alloc _) _ 1 1 [.int .i32 x] rfl rfl (cell_one_new _ _ _) (by intro u hu; simp at hu; subst hu; rfl) (by unfold maxLen; omega) (by omega) (by simp; omega) ?_); intro vb wb hownb hgrowb _)
       have hbb : Below wr.heap.size wr wb := (HBA.out.alloc hsa _).grown hgrowb (by simp; omega) (fun b hb => (HOA.out.lt b hb).1)
       have HOB := Lib.hid hownb
       have HBB := Lib.hid hbb
       have HDR : Hid (RI .i32 wb wr.heap.size (some (ad.add k)) (ls.length - k) (ls.drop k)) := Lib.hid (by
        have := (HRI.out.dropK (k := k) (cap := cap) hkn hcap).on hbb (Nat.le_refl _)
        rw [if_neg (by omega : ¬ cap = k)] at this
        exact this)
       have hsb := hbb.size
       clear hownb hgrowb hbb cxa
       go_wp2_with (at_builtin; (refine wpList_append_ri _ rfl (.tmp 82) (.tmp 85) 33 rfl wr.heap.size 23 i0 (.int .i32 0) 4 Tryz.underlying33 hi hz0 hz1 hz2 rfl vb (k + 1) _ rfl HOB.out .i32 wr.heap.size _ (ls.length - k) _ (ls.drop k) rfl HDR.out (by unfold maxLen; omega) (by omega) hsb ?_); intro vc wc hownc hgrowc)
       have HEND : Hid (wc.ownsRow w4.heap.size 23 1 vc (riseL (all.take (i + 1))).length (celC (riseL (all.take (i + 1)))) ∧ Below w4.heap.size w4 wc) := Lib.hid (by
        have hbc : Below wr.heap.size wr wc := HBB.out.grown hgrowc hsb (fun b hb => (HOB.out.lt b hb).1)
        refine ⟨?_, HBW.out.trans (hbc.mono hw4r)⟩
        rw [HNX.out, HINS.out]
        have e1 : (ls.take k ++ x :: ls.drop k).length = k + 1 + (ls.length - k) := by rw [List.length_append, List.length_cons, List.length_take, List.length_drop]; omega
        have e2 : celC (ls.take k ++ x :: ls.drop k) = (ls.take k).map (Value.int .i32) ++ [.int .i32 x] ++ (ls.drop k).map (Value.int .i32) := by unfold celC; rw [List.map_append, List.map_cons, List.append_assoc]; rfl
        rw [e1, e2]
        exact own_low hownc hw4r)
       clear hownc hgrowc
       go_roundw
       case rel => exact ⟨i + 1, by omega, by go_num, HEND⟩
       case measure => simp [intOf]; omega
    ·have hke : k = ls.length := by omega
     have HKE := Lib.hid hke
     have HINS : Hid (insU x ls = ls.take k ++ x :: ls.drop k) := Lib.hid (insU_new HLT.out hkn (fun z hz => by rw [hke, List.getElem?_eq_none (Nat.le_refl _)] at hz; cases hz))
     have l1 : ¬ (k : Int) < (ls.length : Int) := by omega
     clear hke
     go_wp2
     refine wp_region_held (S := fun _ : World => True) (by kernel_rfl) ?_
     change wpAnyH _ _ _ _ _ _ _ _ (wr.drewN qq).drew
     have hS1 : (fun _ : World => True) (wr.drewN qq).drew := trivial
     iterate 3 (refine wpH rfl rfl ?_; try simp only [Act.put, g1, g2, g3, g4, g5, g6])
     refine wpHn 3 (v := .bool false) rfl ?_; try simp only [Act.put, g1, g2, g3, g4, g5, g6]
     refine wpH rfl rfl ?_; try simp only [Act.put, g1, g2, g3, g4, g5, g6]
     iterate 9 (refine wpHs rfl rfl rfl ?_; try simp only [Act.put, g1, g2, g3, g4, g5, g6])
     refine wpH rfl rfl ?_; try simp only [Act.put, g1, g2, g3, g4, g5, g6]
     refine wpAnyH_done (by kernel_rfl) ?_ _
     clear hS1
     go_wp2
     refine wp_region_held (S := fun _ : World => True) (by kernel_rfl) ?_
     change wpAnyH _ _ _ _ _ _ _ _ (wr.drewN qq).drew.drew
     have hS1 : (fun _ : World => True) (wr.drewN qq).drew.drew := trivial
     iterate 3 (refine wpH rfl rfl ?_; try simp only [Act.put, g1, g2, g3, g4, g5, g6])
     refine wpHn 3 (v := .bool false) rfl ?_; try simp only [Act.put, g1, g2, g3, g4, g5, g6]
     refine wpH rfl rfl ?_; try simp only [Act.put, g1, g2, g3, g4, g5, g6]
     iterate 9 (refine wpHs rfl rfl rfl ?_; try simp only [Act.put, g1, g2, g3, g4, g5, g6])
     refine wpH rfl rfl ?_; try simp only [Act.put, g1, g2, g3, g4, g5, g6]
     refine wpAnyH_done (by kernel_rfl) ?_ _
     clear hS1
     have lc : (k : Int) ≤ (cap : Int) := by omega
     go_upto_region 14 with (at_builtin; (refine wpList_append_ri _ rfl (.tmp 70) (.tmp 73) 33 rfl wr.heap.size 23 i0 (.int .i32 0) 4 Tryz.underlying33 hi hz0 hz1 hz2 rfl (.slice none 0 0) 0 [] rfl (World.ownsRow_nil _ _ _ _) .i32 wr.heap.size _ k _ (ls.take k) rfl HTK.out (by unfold maxLen; omega) (by omega) (Nat.le_refl _) ?_); intro va wa howna hgrowa)
     rw [Nat.zero_add, List.nil_append] at howna
     have hba : Below wr.heap.size wr wa := (below_drewN (Below.refl _ _) _).grown hgrowa (Nat.le_refl _) (by intro b hb; simp [Value.ownBlock] at hb)
     have hw4r := HBW.out.size
     have cxa : wa.cell? (ad7.add i) = some (.int .i32 x) := (hba.cell (p := ad7.add i) (by rw [block_of_add]; omega)).trans cx
     have HOA := Lib.hid howna
     have HBA := Lib.hid hba
     have hsa := hba.size
     clear howna hgrowa hba
     go_upto_region 15 with (at_builtin; (refine wpList_append_own _ rfl (.tmp 75) (.tmp 80) 33 rfl wr.heap.size 23 i0 (.int .i32 0) 1 4 Tryz.underlying33 hi hz0 hz1 hz2 rfl (by decide) va k ((ls.take k).map (Value.int .i32)) rfl (HOA.out.alloc _) _ 1 1 [.int .i32 x] rfl rfl (cell_one_new _ _ _) (by intro u hu; simp at hu; subst hu; rfl) (by unfold maxLen; omega) (by omega) (by simp; omega) ?_); intro vb wb hownb hgrowb _)
     have hbb : Below wr.heap.size wr wb := (HBA.out.alloc hsa _).grown hgrowb (by simp; omega) (fun b hb => (HOA.out.lt b hb).1)
     have HOB := Lib.hid hownb
     have HBB := Lib.hid hbb
     have HDR : Hid (∀ A', RI .i32 wb wr.heap.size A' (ls.length - k) (ls.drop k)) := Lib.hid (fun A' => ⟨by rw [List.length_drop], fun h => absurd h (by have := HKE.out; omega)⟩)
     have hsb := hbb.size
     clear hownb hgrowb hbb cxa
     go_wp2_with (at_builtin; (refine wpList_append_ri _ rfl (.tmp 82) (.tmp 85) 33 rfl wr.heap.size 23 i0 (.int .i32 0) 4 Tryz.underlying33 hi hz0 hz1 hz2 rfl vb (k + 1) _ rfl HOB.out .i32 wr.heap.size _ (ls.length - k) _ (ls.drop k) rfl (HDR.out _) (by unfold maxLen; omega) (by omega) hsb ?_); intro vc wc hownc hgrowc)
     have HEND : Hid (wc.ownsRow w4.heap.size 23 1 vc (riseL (all.take (i + 1))).length (celC (riseL (all.take (i + 1)))) ∧ Below w4.heap.size w4 wc) := Lib.hid (by
      have hbc : Below wr.heap.size wr wc := HBB.out.grown hgrowc hsb (fun b hb => (HOB.out.lt b hb).1)
      refine ⟨?_, HBW.out.trans (hbc.mono hw4r)⟩
      rw [HNX.out, HINS.out]
      have e1 : (ls.take k ++ x :: ls.drop k).length = k + 1 + (ls.length - k) := by rw [List.length_append, List.length_cons, List.length_take, List.length_drop]; omega
      have e2 : celC (ls.take k ++ x :: ls.drop k) = (ls.take k).map (Value.int .i32) ++ [.int .i32 x] ++ (ls.drop k).map (Value.int .i32) := by unfold celC; rw [List.map_append, List.map_cons, List.append_assoc]; rfl
      rw [e1, e2]
      exact own_low hownc hw4r)
     clear hownc hgrowc
     go_roundw
     case rel => exact ⟨i + 1, by omega, by go_num, HEND⟩
     case measure => simp [intOf]; omega
  ·obtain rfl : i = 5 := by omega
   have hf : riseL (all.take 5) = foldL l c := by rw [HFO.out, ← hlen, List.take_length]
   have hV := HV.out
   rw [hf] at hV
   obtain ⟨A, cap, rfl⟩ := row_form hV.1
   have HE : Hid (wr.ownsRow w.heap.size 23 1 (.slice A (foldL l c).length cap) (foldL l c).length (celC (foldL l c)) ∧ Below w.heap.size w wr) := Lib.hid ⟨own_low hV.1 HB4.out.size, HB4.out.trans (hV.2.mono HB4.out.size)⟩
   clear hV hf
   go_wp2
   go_ret
   exact ⟨_, rfl, HE.out⟩
end Go.Proofs.YtknjhlbhbnldpaaGreatDoor.C
