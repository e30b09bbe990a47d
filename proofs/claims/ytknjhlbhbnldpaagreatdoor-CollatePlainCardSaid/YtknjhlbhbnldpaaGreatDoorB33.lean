/-
  Joined: WCollateAlike. Each with what its own head says.
-/
import Derived.Test.YtknjhlbhbnldpaaGreatDoorB21
import Derived.Test.YtknjhlbhbnldpaaGreatDoorB30
import Derived.Test.YtknjhlbhbnldpaaGreatDoorB31

namespace Go.Proofs.YtknjhlbhbnldpaaGreatDoor.C
open Go.RowKit

theorem place_of {o : List Elm} (h : ordB o = true) {i : Nat} {e : Elm} (he : o[i]? = some e) : placeV o e.cells = (i : Int) := by
 refine placeV_at he rfl fun x hx hc => ?_
 have h2 := (ord_at h he).2.1
 have h3 : ((o.take i).any fun x => decide (x.cells = e.cells)) = true := List.any_eq_true.2 ⟨x, hx, by simpa using hc⟩
 rw [h3] at h2
 cases h2
theorem RowsAt.fr {w w' : World} {lo T : Nat} {v : Value} {rs : List (List Int)} (h : RowsAt w lo v rs) (hf : Fr w w' (· = T)) (hT : T < lo) : RowsAt w' lo v rs := by
 obtain ⟨vs, h1, h2, h3⟩ := h
 exact ⟨vs, h1, ownsRow_fr h2 hf fun g hg hx => by have := (h2.lt g hg).1; omega, fun i r u a b => ownsRow_fr (h3 i r u a b) hf fun g hg hx => by have := ((h3 i r u a b).lt g hg).1; omega⟩
theorem RowsAt.readsR {w : World} {lo n c : Nat} {A : Option Addr} {rs : List (List Int)} (h : RowsAt w lo (.slice A n c) rs) : RowsR w w.heap.size A rs := by
 obtain ⟨A', c', hv, hr⟩ := h.reads
 injection hv with hA _ _
 subst hA
 exact hr
theorem alike_of {o : List Elm} (h : ordB o = true) {i : Nat} {e : Elm} (he : o[i]? = some e) : alikeL o e.cells = (placesL o e.same).map (cellsJ o) := by
 unfold alikeL
 rw [place_of h he]
 simp only [Int.toNat_natCast, he]
 exact if_neg (by omega)
theorem alike_in {o : List Elm} (h : ordB o = true) {i k : Nat} {e x : Elm} (he : o[i]? = some e) (hx : o[k]? = some x) : x.cells ∈ alikeL o e.cells ↔ x.same = e.same := by
 rw [alike_of h he, List.mem_map]
 constructor
 ·rintro ⟨j, hj, hc⟩
  have hjl := placesL_lt j hj
  have hy : o[j]? = some o[j] := List.getElem?_eq_getElem hjl
  have hyc : o[j].cells = x.cells := by unfold cellsJ at hc; rw [hy] at hc; exact hc
  have h1 := place_of h hy
  rw [hyc, place_of h hx] at h1
  obtain rfl : k = j := by omega
  rw [hx] at hy
  rw [Option.some.inj hy]
  exact (placesL_mem (List.getElem?_eq_getElem hjl)).1 hj
 ·intro hs
  exact ⟨k, (placesL_mem hx).2 hs, by unfold cellsJ; rw [hx]; rfl⟩
set_option maxRecDepth 100000 in
set_option maxHeartbeats 8000000 in
theorem collateAlikeWalk (a0 : Option Addr) (len0 cap0 : Nat) (z0 : List Int) (a1 a2 : Int) (w : World) (hG : Gm w) (w0 : L.IsRow .u8 w a0 len0 cap0 z0) (w1 : (Lit.int .u8 a1).wf = true) (w2 : (Lit.int .u8 a2).wf = true) :
  Calls Tryz.prog 8 #[.slice a0 len0 cap0, .int .u8 a1, .int .u8 a2] w fun e w' => e = .returned (.bool true) ∧ Below w.heap.size w w' := by
 have ha1 := byte_in w1
 have ha2 := byte_in w2
 have hby : Byt (z0.take len0) := row_u8 w0
 have hln := row_len w0
 have hlo := locale_any w w.heap.size a0 len0 cap0 _ (RI.of_row w0) (Nat.le_refl _) hby (by omega)
 have hR := genL_right hby
 have hok := genL_new _ hby
 have hlr := fun (W : World) (lo : Nat) (v1 v2 v3 v4 : Value) (h : LocAt W lo v1 v2 v3 v4 (genL (z0.take len0))) => genL_locR hby h
 obtain ⟨Lc, hLc⟩ : ∃ Lc, Lc = genL (z0.take len0) := ⟨_, rfl⟩
 rw [← hLc] at hlo hR hok hlr
 have HG := Lib.hid hG
 have HLR := Lib.hid hlr
 have HOK := Lib.hid hok
 have HR := Lib.hid hR
 clear hG w0 hLc hln hby w1 w2 hlr hok hR
 go_enter Tryz.func8, Tryz.ntmps8
 go_wp2_with fail
 refine hlo.mono ?_
 rintro e w1 ⟨v1, v2, v3, v4, rfl, hL, hb1⟩
 have HB1 := Lib.hid hb1
 have hL := HLR.out _ _ _ _ _ _ hL
 clear hlo hb1
 obtain ⟨⟨A1, c1, x1, rfl, -⟩, ⟨A2, c2, rfl, -⟩, ⟨A3, c3, rfl, -⟩, ⟨A4, c4, x4, rfl, -⟩, -⟩ := id hL
 obtain ⟨W, hW⟩ : ∃ W, W = w1.alloc (.cells #[.slice A1 Lc.cls.length c1, .slice A2 Lc.up.length c2, .slice A3 Lc.lo.length c3, .slice A4 Lc.ord.length c4] 30) := ⟨_, rfl⟩
 have hbW : Below w1.heap.size w1 W := by rw [hW]; exact (Below.refl _ _).alloc (Nat.le_refl _) _
 have hsW : W.heap.size = w1.heap.size + 1 := by rw [hW]; simp
 have hrow : Rw W w1.heap.size 30 #[.slice A1 Lc.cls.length c1, .slice A2 Lc.up.length c2, .slice A3 Lc.lo.length c3, .slice A4 Lc.ord.length c4] := by rw [hW]; exact heap_alloc_new w1 _
 have HLW := Lib.hid (hL.on hbW (Nat.le_refl _))
 have HBW := Lib.hid (HB1.out.trans (hbW.mono HB1.out.size))
 have hn := new_yes W w1.heap.size _ _ _ _ Lc HLW.out (by omega) (HG.out.next HBW.out) HR.out HOK.out
 have HROW := Lib.hid hrow
 clear hL hbW hrow HLR
 go_wp2_with fail
 rw [← hW]
 clear hW
 refine hn.mono ?_
 rintro e w2 ⟨T, rfl, hT, ht, hb2, -⟩
 obtain ⟨LB, hLB⟩ : ∃ LB, LB = w1.heap.size := ⟨_, rfl⟩
 rw [← hLB] at HLW HROW hsW ⊢
 have HSZ : Hid (W.heap.size = LB + 1 ∧ W.heap.size ≤ T ∧ W.heap.size ≤ w2.heap.size) := Lib.hid ⟨hsW, hT, hb2.size⟩
 have hrow := HROW.out.on hb2 HROW.out.lt
 have hL2 := HLW.out.on hb2 (by have := HSZ.out; omega)
 have p3 : w2.cell? ⟨LB, 3, none⟩ = some (.slice A4 Lc.ord.length c4) := hrow.cell rfl
 have HT : Hid (w.heap.size ≤ T) := Lib.hid (Nat.le_trans HBW.out.size hT)
 have HB2 := Lib.hid (HBW.out.trans (hb2.mono HBW.out.size))
 clear hn hb2 hT hsW hLB hrow HROW HLW
 by_cases hn0 : Lc.ord.length = 0
 ·have hkn := known08_any w2 (HG.out.next HB2.out)
  rw [hn0] at p3
  clear ht hL2
  go_wp2_with fail
  refine hkn.mono ?_
  rintro e w3 ⟨rfl, hb3⟩
  have HE : Hid (Below w.heap.size w w3) := Lib.hid (HB2.out.trans (hb3.mono HB2.out.size))
  clear hkn hb3
  go_wp2
  go_ret
  exact ⟨rfl, HE.out⟩
 ·obtain ⟨n, hn⟩ : ∃ n, n = Lc.ord.length := ⟨_, rfl⟩
  obtain ⟨i, hi⟩ : ∃ i : Nat, a1.tmod (n : Int) = (i : Int) := ⟨(a1 % (n : Int)).toNat, by rw [Int.tmod_eq_emod_of_nonneg ha1.1]; have := Int.emod_nonneg a1 (b := (n : Int)) (by omega); omega⟩
  obtain ⟨k, hk⟩ : ∃ k : Nat, a2.tmod (n : Int) = (k : Int) := ⟨(a2 % (n : Int)).toNat, by rw [Int.tmod_eq_emod_of_nonneg ha2.1]; have := Int.emod_nonneg a2 (b := (n : Int)) (by omega); omega⟩
  have hin : i < n := by rw [Int.tmod_eq_emod_of_nonneg ha1.1] at hi; have := Int.emod_lt_of_pos a1 (b := (n : Int)) (by omega); omega
  have hkn : k < n := by rw [Int.tmod_eq_emod_of_nonneg ha2.1] at hk; have := Int.emod_lt_of_pos a2 (b := (n : Int)) (by omega); omega
  obtain ⟨ei, hei⟩ : ∃ ei, Lc.ord[i]? = some ei := ⟨_, List.getElem?_eq_getElem (by omega)⟩
  obtain ⟨ek, hek⟩ : ∃ ek, Lc.ord[k]? = some ek := ⟨_, List.getElem?_eq_getElem (by omega)⟩
  have hord := right_ord HR.out
  have h500 : n ≤ 500 := by unfold ordB at hord; simp only [Bool.and_eq_true, decide_eq_true_eq] at hord; omega
  have hli := len4 hord (List.mem_of_getElem? hei)
  have hlk := len4 hord (List.mem_of_getElem? hek)
  obtain ⟨ad, cx, Ai, ci, hv, hbl, -, q1, -, ri⟩ := elmR_at hL2.2.2.2.1 hei
  injection hv with hA _ hc
  subst hA hc
  obtain ⟨ad', cx', Ak, ck, hv', -, -, q2, -, rk⟩ := elmR_at hL2.2.2.2.1 hek
  injection hv' with hA' _ hc'
  injection hA' with hA'
  subst hA' hc'
  rw [← hn] at p3
  have hgT : (5 : Nat) < T := Nat.lt_of_lt_of_le (World.block_lt_of_cell? w _ HG.out.1) HT.out
  have hneT : ∀ (W' : World) (A : Option Addr) (nn : Nat) (xs : List Int), RI .i32 W' LB A nn xs → 0 < nn → ∀ a, A = some a → a.block ≠ T := by
   intro W' A nn xs hri h0 a hA
   obtain ⟨a', e, hb, _⟩ := hri.2 h0
   rw [hA] at e
   injection e with e
   subst e
   have := HSZ.out
   omega
  have hpa := alike_any w2.drew.drew T Lc 0 LB Ai _ ci ei.cells ht.drew.drew (by omega) (by omega) HR.out ri (by omega) (by have := HSZ.out; show LB ≤ w2.heap.size; omega) (hneT _ _ _ _ ri) (HG.out.next HB2.out.drew.drew).1 hgT
  have HNET := Lib.hid hneT
  have HRI := Lib.hid ri
  have HRK := Lib.hid rk
  have HT2l : Hid (T < w2.heap.size) := Lib.hid ht.lt
  have HEIN : Hid (ei.cells ∈ alikeL Lc.ord ei.cells) := Lib.hid ((alike_in hord hei hei).2 rfl)
  have HKIN : Hid (ek.cells ∈ alikeL Lc.ord ek.cells) := Lib.hid ((alike_in hord hek hek).2 rfl)
  have hik := alike_in hord hei hek
  have hki := alike_in hord hek hei
  have hse : ek.same = ei.same → alikeL Lc.ord ei.cells = alikeL Lc.ord ek.cells := fun h => by rw [alike_of hord hei, alike_of hord hek, h]
  have hl1 : (alikeL Lc.ord ei.cells).length ≤ 500 := by rw [alike_of hord hei, List.length_map]; exact Nat.le_trans (placesL_len _ _) (by omega)
  have hl2 : (alikeL Lc.ord ek.cells).length ≤ 500 := by rw [alike_of hord hek, List.length_map]; exact Nat.le_trans (placesL_len _ _) (by omega)
  obtain ⟨px, hpx⟩ : ∃ px, px = alikeL Lc.ord ei.cells := ⟨_, rfl⟩
  obtain ⟨qx, hqx⟩ : ∃ qx, qx = alikeL Lc.ord ek.cells := ⟨_, rfl⟩
  rw [← hpx] at hpa HEIN hik hse hl1
  rw [← hqx] at HKIN hki hse hl2
  have HQX := Lib.hid hqx
  have wa1 : IntKind.i64.wrap a1 = a1 := by rw [IntKind.wrap_i64]; omega
  have wa2 : IntKind.i64.wrap a2 = a2 := by rw [IntKind.wrap_i64]; omega
  have wi : IntKind.i64.wrap (i : Int) = (i : Int) := by rw [IntKind.wrap_i64]; omega
  have wk : IntKind.i64.wrap (k : Int) = (k : Int) := by rw [IntKind.wrap_i64]; omega
  have n0 : ¬ n = 0 := by omega
  have i0 : (0 : Int) ≤ (i : Int) := by omega
  have i1 : (i : Int) < (n : Int) := by omega
  have k0 : (0 : Int) ≤ (k : Int) := by omega
  have k1 : (k : Int) < (n : Int) := by omega
  have HADT : Hid (ad.block < T) := Lib.hid (by have := HSZ.out; omega)
  clear ht hL2 hn0 hei hek hord ri rk hn hbl hpx hqx hneT
  go_wp2
  refine wp_region_held (S := fun W' : World => W'.cell? ⟨LB, 3, none⟩ = some (.slice (some ad) n c4) ∧ W'.cell? ⟨(ad.add (i * 3)).block, (ad.add (i * 3)).off + 1, none⟩ = some (.slice Ai ei.cells.length ci) ∧ W'.cell? ⟨(ad.add (k * 3)).block, (ad.add (k * 3)).off + 1, none⟩ = some (.slice Ak ek.cells.length ck)) (by kernel_rfl) ?_
  change wpAnyH _ _ _ _ _ _ _ _ w2.drew
  have hS1 : (fun W' : World => W'.cell? ⟨LB, 3, none⟩ = some (.slice (some ad) n c4) ∧ W'.cell? ⟨(ad.add (i * 3)).block, (ad.add (i * 3)).off + 1, none⟩ = some (.slice Ai ei.cells.length ci) ∧ W'.cell? ⟨(ad.add (k * 3)).block, (ad.add (k * 3)).off + 1, none⟩ = some (.slice Ak ek.cells.length ck)) w2.drew := ⟨p3, q1, q2⟩
  iterate 12 (refine wpH rfl rfl ?_; try simp only [Act.put, g1, g2, g3, g4, g5, g6])
  refine wpAnyH_done (by kernel_rfl) ?_ _
  clear hS1
  go_wp2
  refine wp_region_held (S := fun W' : World => W'.cell? ⟨LB, 3, none⟩ = some (.slice (some ad) n c4) ∧ W'.cell? ⟨(ad.add (i * 3)).block, (ad.add (i * 3)).off + 1, none⟩ = some (.slice Ai ei.cells.length ci) ∧ W'.cell? ⟨(ad.add (k * 3)).block, (ad.add (k * 3)).off + 1, none⟩ = some (.slice Ak ek.cells.length ck)) (by kernel_rfl) ?_
  change wpAnyH _ _ _ _ _ _ _ _ w2.drew.drew
  have hS1 : (fun W' : World => W'.cell? ⟨LB, 3, none⟩ = some (.slice (some ad) n c4) ∧ W'.cell? ⟨(ad.add (i * 3)).block, (ad.add (i * 3)).off + 1, none⟩ = some (.slice Ai ei.cells.length ci) ∧ W'.cell? ⟨(ad.add (k * 3)).block, (ad.add (k * 3)).off + 1, none⟩ = some (.slice Ak ek.cells.length ck)) w2.drew.drew := ⟨p3, q1, q2⟩
  iterate 12 (refine wpH rfl rfl ?_; try simp only [Act.put, g1, g2, g3, g4, g5, g6])
  refine wpAnyH_done (by kernel_rfl) ?_ _
  clear hS1
  clear p3 q1 q2 n0 i0 i1 k0 k1 wa1 wa2 wi wk hi hk
  go_wp2_with fail
  refine hpa.mono ?_
  rintro e w3 ⟨v, rfl, hrow, ht, hf⟩
  obtain ⟨A3, c3, rfl, _⟩ := hrow.reads
  have hsz0 : w2.drew.drew.heap.size = w2.heap.size := rfl
  have hb3 : Below T w2.drew.drew w3 := hf.belowT (by have := HT2l.out; omega)
  have HB3 := Lib.hid (Fr.past HB2.out.drew.drew hf HT.out)
  have hri3 : RI .i32 w3 LB Ai ei.cells.length ei.cells := HRI.out.keep fun p hp => (hb3.cell (p := p) (by have := HSZ.out; omega)).trans rfl
  have hrk3 : RI .i32 w3 LB Ak ek.cells.length ek.cells := HRK.out.keep fun p hp => (hb3.cell (p := p) (by have := HSZ.out; omega)).trans rfl
  have hpb := alike_any w3 T Lc 1 LB Ak _ ck ek.cells ht (by omega) (by omega) HR.out hrk3 (by omega) (by have := HSZ.out; have := hf.size; omega) (HNET.out _ _ _ _ hrk3) (HG.out.next HB3.out).1 hgT
  rw [← HQX.out] at hpb
  have HRI3 := Lib.hid hri3
  have HRK3 := Lib.hid hrk3
  have HP3 := Lib.hid hrow
  have HS3 := Lib.hid hf.size
  clear hpa hrow ht hf hb3 hri3 hrk3
  go_wp2_with fail
  refine hpb.mono ?_
  rintro e w4 ⟨v, rfl, hrow, ht, hf⟩
  obtain ⟨A4', c4', rfl, _⟩ := hrow.reads
  have hb4 : Below T w3 w4 := hf.belowT (by have := HS3.out; have := HT2l.out; omega)
  have HB4 := Lib.hid (Fr.past HB3.out hf HT.out)
  have HRI4 : Hid (RI .i32 w4 LB Ai ei.cells.length ei.cells) := Lib.hid (HRI3.out.on hb4 (by have := HSZ.out; omega))
  have HRK4 : Hid (RI .i32 w4 LB Ak ek.cells.length ek.cells) := Lib.hid (HRK3.out.on hb4 (by have := HSZ.out; omega))
  have HP4 : Hid (RowsR w4 w4.heap.size A3 px) := Lib.hid (HP3.out.fr hf (by have := HT2l.out; omega)).readsR
  have HQ4 : Hid (RowsR w4 w4.heap.size A4' qx) := Lib.hid hrow.readsR
  have hkn2 := known08_any w4 (HG.out.next HB4.out)
  have HLB4 : Hid (LB ≤ w4.heap.size) := Lib.hid (by have := HSZ.out; have := HS3.out; have := hf.size; omega)
  clear hpb hrow ht hf hb4
  go_wp2_with fail
  refine hkn2.mono ?_
  rintro e w5 ⟨rfl, hb5⟩
  have HB5 := Lib.hid (HB4.out.trans (hb5.mono HB4.out.size))
  have HRI5 := Lib.hid (HRI4.out.on hb5 HLB4.out)
  have HRK5 := Lib.hid (HRK4.out.on hb5 HLB4.out)
  have HP5 := Lib.hid (HP4.out.on hb5 (Nat.le_refl _))
  have HQ5 := Lib.hid (HQ4.out.on hb5 (Nat.le_refl _))
  have hm1 : ei.cells.length ≤ maxLen := by unfold maxLen; omega
  have hm2 : ek.cells.length ≤ maxLen := by unfold maxLen; omega
  have hm3 : px.length ≤ maxLen := by unfold maxLen; omega
  have hm4 : qx.length ≤ maxLen := by unfold maxLen; omega
  have hpxx := fun q => has_any (w5.drewN q) _ _ A3 Ai c3 _ ci px ei.cells HP5.out HRI5.out hm1 hm3
  have hqyy := fun q => has_any (w5.drewN q) _ _ A4' Ak c4' _ ck qx ek.cells HQ5.out HRK5.out hm2 hm4
  have hpyy := fun q => has_any (w5.drewN q) _ _ A3 Ak c3 _ ck px ek.cells HP5.out HRK5.out hm2 hm3
  have hqxx := fun q => has_any (w5.drewN q) _ _ A4' Ai c4' _ ci qx ei.cells HQ5.out HRI5.out hm1 hm4
  simp only [decide_eq_true HEIN.out] at hpxx
  simp only [decide_eq_true HKIN.out] at hqyy
  have HB := Lib.hid (fun q => below_drewN HB5.out q)
  clear hkn2 hb5
  by_cases hsm : ek.same = ei.same
  ·have e := hse hsm
   subst e
   have d1 := hik.2 hsm
   have d2 := hki.2 hsm.symm
   simp only [decide_eq_true d1] at hpyy
   simp only [decide_eq_true d2] at hqxx
   have hss := fun q => same08_yes (w5.drewN q) _ _ A3 A4' c3 c4' px HP5.out HQ5.out hm3
   clear hse hik hki d1 d2 hsm
   go_wp2_with fail
   refine (hpxx 0).mono ?_
   rintro e w6 ⟨rfl, r1, rfl⟩
   clear hpxx
   go_wp2_with fail
   refine (hqyy _).mono ?_
   rintro e w7 ⟨rfl, r2, rfl⟩
   clear hqyy
   go_wp2_with fail
   refine (hpyy _).mono ?_
   rintro e w8 ⟨rfl, r3, rfl⟩
   go_wp2_with fail
   refine (hqxx _).mono ?_
   rintro e w9 ⟨rfl, r4, rfl⟩
   clear hqxx
   go_wp2_with fail
   refine (hpyy _).mono ?_
   rintro e w10 ⟨rfl, r5, rfl⟩
   clear hpyy
   go_wp2_with fail
   refine (hss _).mono ?_
   rintro e w11 ⟨rfl, r6, rfl⟩
   clear hss
   go_wp2
   go_ret
   exact ⟨rfl, HB.out _⟩
  ·have d1 : ¬ ek.cells ∈ px := fun h => hsm (hik.1 h)
   have d2 : ¬ ei.cells ∈ qx := fun h => hsm (hki.1 h).symm
   simp only [decide_eq_false d1] at hpyy
   simp only [decide_eq_false d2] at hqxx
   clear hse hik hki d1 d2 hsm
   go_wp2_with fail
   refine (hpxx 0).mono ?_
   rintro e w6 ⟨rfl, r1, rfl⟩
   clear hpxx
   go_wp2_with fail
   refine (hqyy _).mono ?_
   rintro e w7 ⟨rfl, r2, rfl⟩
   clear hqyy
   go_wp2_with fail
   refine (hpyy _).mono ?_
   rintro e w8 ⟨rfl, r3, rfl⟩
   go_wp2_with fail
   refine (hqxx _).mono ?_
   rintro e w9 ⟨rfl, r4, rfl⟩
   clear hqxx
   go_wp2_with fail
   refine (hpyy _).mono ?_
   rintro e w10 ⟨rfl, r5, rfl⟩
   clear hpyy
   go_wp2
   go_ret
   exact ⟨rfl, HB.out _⟩
end Go.Proofs.YtknjhlbhbnldpaaGreatDoor.C
