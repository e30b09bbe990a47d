/-
  The law CollateBetween answers true: from one element to another one there are as many as their places say, the first and the last of which they are. Condition: the choices are a row of bytes, the others bytes; what is asked of the listed variables.
-/
import Derived.Test.YtknjhlbhbnldpaaGreatDoorQKoX
namespace Go.Proofs.YtknjhlbhbnldpaaGreatDoor.C
open Go.RowKit

theorem place_of {o : List Elm} (h : ordB o = true) {i : Nat} {e : Elm} (he : o[i]? = some e) : placeV o e.cells = (i : Int) := by
 refine placeV_at he rfl fun x hx hc => ?_
 have h2 := (ord_at h he).2.1
 have h3 : ((o.take i).any fun x => decide (x.cells = e.cells)) = true := List.any_eq_true.2 ⟨x, hx, by simpa using hc⟩
 rw [h3] at h2
 cases h2
theorem RowsAt.rows {w : World} {lo : Nat} {v : Value} {rs : List (List Int)} (h : RowsAt w lo v rs) (hn : 0 < rs.length) :
  ∃ pa c, v = .slice (some pa) rs.length c ∧ lo ≤ pa.block ∧ pa.block < w.heap.size ∧ ∀ i r, rs[i]? = some r → ∃ A d, w.cell? (pa.add i) = some (.slice A r.length d) ∧ RI .i32 w w.heap.size A r.length r := by
 obtain ⟨vs, h1, h2, h3⟩ := h
 obtain ⟨g, cap, rfl, hg, hlt⟩ := h2.form hn
 refine ⟨⟨g, 0, none⟩, cap, rfl, hg, hlt, fun i r hi => ?_⟩
 have hl : i < rs.length := (List.getElem?_eq_some_iff.1 hi).1
 have hv : vs[i]? = some (vs[i]'(by omega)) := List.getElem?_eq_getElem (by omega)
 have ho := h3 i r _ hi hv
 obtain ⟨A, d, hA⟩ := row_form ho
 rw [hA] at ho hv
 exact ⟨A, d, h2.cells (g := g) rfl i _ hv, RI.of_own (zs := r) ho⟩
set_option maxRecDepth 100000 in
set_option maxHeartbeats 8000000 in
theorem collateBetweenWalk (a0 : Option Addr) (len0 cap0 : Nat) (z0 : List Int) (a1 a2 : Int) (w : World) (hG : Gm w) (w0 : L.IsRow .u8 w a0 len0 cap0 z0) (w1 : (Lit.int .u8 a1).wf = true) (w2 : (Lit.int .u8 a2).wf = true) :
  Calls Tryz.prog 9 #[.slice a0 len0 cap0, .int .u8 a1, .int .u8 a2] w fun e w' => e = .returned (.bool true) ∧ Below w.heap.size w w' := by
 have ha1 := byte_in w1
 have ha2 := byte_in w2
 have hby : Byt (z0.take len0) := row_u8 w0
 have hln := row_len w0
 have hlo := locale_any w w.heap.size a0 len0 cap0 _ (RI.of_row w0) (Nat.le_refl _) hby (by omega)
 have hR := genL_right hby
 have hok := genL_new _ hby
 have hlr := fun (W : World) (lo : Nat) (v1 v2 v3 v4 : Value) (h : LocAt W lo v1 v2 v3 v4 (genL (z0.take len0))) => genL_locR hby h
 obtain ⟨Lc, hLc⟩ : ∃ Lc, Lc = genL (z0.take len0) := ⟨_, rfl⟩
 rw [← hLc] at hlo hR hok hlr
 have HG := Lib.hid hG
 have HLR := Lib.hid hlr
 have HOK := Lib.hid hok
 have HR := Lib.hid hR
 clear hG w0 hLc hln hby w1 w2 hlr hok hR
 go_enter Tryz.func9, Tryz.ntmps9
 go_wp2_with fail
 refine hlo.mono ?_
 rintro e w1 ⟨v1, v2, v3, v4, rfl, hL, hb1⟩
 have HB1 := Lib.hid hb1
 have hL := HLR.out _ _ _ _ _ _ hL
 clear hlo hb1
 obtain ⟨⟨A1, c1, x1, rfl, -⟩, ⟨A2, c2, rfl, -⟩, ⟨A3, c3, rfl, -⟩, ⟨A4, c4, x4, rfl, -⟩, -⟩ := id hL
 obtain ⟨W, hW⟩ : ∃ W, W = w1.alloc (.cells #[.slice A1 Lc.cls.length c1, .slice A2 Lc.up.length c2, .slice A3 Lc.lo.length c3, .slice A4 Lc.ord.length c4] 30) := ⟨_, rfl⟩
 have hbW : Below w1.heap.size w1 W := by rw [hW]; exact (Below.refl _ _).alloc (Nat.le_refl _) _
 have hsW : W.heap.size = w1.heap.size + 1 := by rw [hW]; simp
 have hrow : Rw W w1.heap.size 30 #[.slice A1 Lc.cls.length c1, .slice A2 Lc.up.length c2, .slice A3 Lc.lo.length c3, .slice A4 Lc.ord.length c4] := by rw [hW]; exact heap_alloc_new w1 _
 have HLW := Lib.hid (hL.on hbW (Nat.le_refl _))
 have HBW := Lib.hid (HB1.out.trans (hbW.mono HB1.out.size))
 have hn := new_yes W w1.heap.size _ _ _ _ Lc HLW.out (by omega) (HG.out.next HBW.out) HR.out HOK.out
 have HROW := Lib.hid hrow
 clear hL hbW hrow HLR
 go_wp2_with fail
 rw [← hW]
 clear hW
 refine hn.mono ?_
 rintro e w2 ⟨T, rfl, hT, ht, hb2, -⟩
 obtain ⟨LB, hLB⟩ : ∃ LB, LB = w1.heap.size := ⟨_, rfl⟩
 rw [← hLB] at HLW HROW hsW ⊢
 have HSZ : Hid (W.heap.size = LB + 1 ∧ W.heap.size ≤ T ∧ W.heap.size ≤ w2.heap.size) := Lib.hid ⟨hsW, hT, hb2.size⟩
 have hrow := HROW.out.on hb2 HROW.out.lt
 have hL2 := HLW.out.on hb2 (by have := HSZ.out; omega)
 have p3 : w2.cell? ⟨LB, 3, none⟩ = some (.slice A4 Lc.ord.length c4) := hrow.cell rfl
 have HT : Hid (w.heap.size ≤ T) := Lib.hid (Nat.le_trans HBW.out.size hT)
 have HB2 := Lib.hid (HBW.out.trans (hb2.mono HBW.out.size))
 clear hn hb2 hT hsW hLB hrow HROW HLW
 by_cases hn0 : Lc.ord.length = 0
 ·have hkn := known08_any w2 (HG.out.next HB2.out)
  rw [hn0] at p3
  clear ht hL2
  go_wp2_with fail
  refine hkn.mono ?_
  rintro e w3 ⟨rfl, hb3⟩
  have HE : Hid (Below w.heap.size w w3) := Lib.hid (HB2.out.trans (hb3.mono HB2.out.size))
  clear hkn hb3
  go_wp2
  go_ret
  exact ⟨rfl, HE.out⟩
 ·obtain ⟨n, hn⟩ : ∃ n, n = Lc.ord.length := ⟨_, rfl⟩
  obtain ⟨i, hi⟩ : ∃ i : Nat, a1.tmod (n : Int) = (i : Int) := ⟨(a1 % (n : Int)).toNat, by rw [Int.tmod_eq_emod_of_nonneg ha1.1]; have := Int.emod_nonneg a1 (b := (n : Int)) (by omega); omega⟩
  obtain ⟨k, hk⟩ : ∃ k : Nat, a2.tmod (n : Int) = (k : Int) := ⟨(a2 % (n : Int)).toNat, by rw [Int.tmod_eq_emod_of_nonneg ha2.1]; have := Int.emod_nonneg a2 (b := (n : Int)) (by omega); omega⟩
  have hin : i < n := by rw [Int.tmod_eq_emod_of_nonneg ha1.1] at hi; have := Int.emod_lt_of_pos a1 (b := (n : Int)) (by omega); omega
  have hkn : k < n := by rw [Int.tmod_eq_emod_of_nonneg ha2.1] at hk; have := Int.emod_lt_of_pos a2 (b := (n : Int)) (by omega); omega
  obtain ⟨ei, hei⟩ : ∃ ei, Lc.ord[i]? = some ei := ⟨_, List.getElem?_eq_getElem (by omega)⟩
  obtain ⟨ek, hek⟩ : ∃ ek, Lc.ord[k]? = some ek := ⟨_, List.getElem?_eq_getElem (by omega)⟩
  have hord := right_ord HR.out
  have h500 : n ≤ 500 := by unfold ordB at hord; simp only [Bool.and_eq_true, decide_eq_true_eq] at hord; omega
  have hli := len4 hord (List.mem_of_getElem? hei)
  have hlk := len4 hord (List.mem_of_getElem? hek)
  have hpi := place_of hord hei
  have hpk := place_of hord hek
  obtain ⟨ad, cx, Ai, ci, hv, hbl, -, q1, -, ri⟩ := elmR_at hL2.2.2.2.1 hei
  injection hv with hA _ hc
  subst hA hc
  obtain ⟨ad', cx', Ak, ck, hv', -, -, q2, -, rk⟩ := elmR_at hL2.2.2.2.1 hek
  injection hv' with hA' _ hc'
  injection hA' with hA'
  subst hA' hc'
  rw [← hn] at p3
  have hgT : (5 : Nat) < T := Nat.lt_of_lt_of_le (World.block_lt_of_cell? w _ HG.out.1) HT.out
  have hbt := between_any w2.drew T Lc 0 LB LB Ai Ak _ ci _ ck ei.cells ek.cells ht.drew (by omega) (by omega) HR.out ri (by have := HSZ.out; show LB ≤ w2.heap.size; omega) (by intro h0 a hA; obtain ⟨a', e, hb, _⟩ := ri.2 h0; rw [hA] at e; injection e with e; subst e; have := HSZ.out; omega) rk (by have := HSZ.out; show LB ≤ w2.heap.size; omega) (by intro h0 a hA; obtain ⟨a', e, hb, _⟩ := rk.2 h0; rw [hA] at e; injection e with e; subst e; have := HSZ.out; omega) (HG.out.next HB2.out.drew).1 hgT
  have HADT : Hid (ad.block < T) := Lib.hid (by have := HSZ.out; omega)
  have HT2l : Hid (T < w2.heap.size) := Lib.hid ht.lt
  have HRI := Lib.hid ri
  have HRK := Lib.hid rk
  have HEI := Lib.hid hei
  have HEK := Lib.hid hek
  have HN := Lib.hid hn
  have wa1 : IntKind.i64.wrap a1 = a1 := by rw [IntKind.wrap_i64]; omega
  have wa2 : IntKind.i64.wrap a2 = a2 := by rw [IntKind.wrap_i64]; omega
  have wi : IntKind.i64.wrap (i : Int) = (i : Int) := by rw [IntKind.wrap_i64]; omega
  have wk : IntKind.i64.wrap (k : Int) = (k : Int) := by rw [IntKind.wrap_i64]; omega
  have n0 : ¬ (n : Int) = 0 := by omega
  have i0 : (0 : Int) ≤ (i : Int) := by omega
  have i1 : (i : Int) < (n : Int) := by omega
  have k0 : (0 : Int) ≤ (k : Int) := by omega
  have k1 : (k : Int) < (n : Int) := by omega
  clear ht hL2 hn0 hei hek hord ri rk hn hgT hbl
  go_wp2
  refine wp_region_held (S := fun W' : World => W'.cell? ⟨LB, 3, none⟩ = some (.slice (some ad) n c4) ∧ W'.cell? ⟨(ad.add (i * 3)).block, (ad.add (i * 3)).off + 1, none⟩ = some (.slice Ai ei.cells.length ci) ∧ W'.cell? ⟨(ad.add (k * 3)).block, (ad.add (k * 3)).off + 1, none⟩ = some (.slice Ak ek.cells.length ck)) (by kernel_rfl) ?_
  change wpAnyH _ _ _ _ _ _ _ _ w2.drew
  have hS1 : (fun W' : World => W'.cell? ⟨LB, 3, none⟩ = some (.slice (some ad) n c4) ∧ W'.cell? ⟨(ad.add (i * 3)).block, (ad.add (i * 3)).off + 1, none⟩ = some (.slice Ai ei.cells.length ci) ∧ W'.cell? ⟨(ad.add (k * 3)).block, (ad.add (k * 3)).off + 1, none⟩ = some (.slice Ak ek.cells.length ck)) w2.drew := ⟨p3, q1, q2⟩
  iterate 13 (refine wpH rfl rfl ?_; try simp only [Act.put, g1, g2, g3, g4, g5, g6])
  have HS1 := Lib.hid hS1
  clear p3 q1 q2
  refine wpAnyH_one (i := 13) (by kernel_rfl) rfl (fun K hK => ?_)
  simp only [g4, g5, g6]
  go_simp
  go_at_call 26
  refine hbt.mono ?_
  rintro e w3 ⟨ht, hf, hno, hyes⟩
  have hbl : Below T w2.drew w3 := hf.belowT (by have := HSZ.out; have := HT2l.out; show T ≤ w2.heap.size; omega)
  have hS3 : (fun W' : World => W'.cell? ⟨LB, 3, none⟩ = some (.slice (some ad) n c4) ∧ W'.cell? ⟨(ad.add (i * 3)).block, (ad.add (i * 3)).off + 1, none⟩ = some (.slice Ai ei.cells.length ci) ∧ W'.cell? ⟨(ad.add (k * 3)).block, (ad.add (k * 3)).off + 1, none⟩ = some (.slice Ak ek.cells.length ck)) w3 := ⟨(hbl.cell (p := ⟨LB, 3, none⟩) (by have := HSZ.out; show LB < T; omega)).trans HS1.out.1, (hbl.cell (p := ⟨(ad.add (i * 3)).block, (ad.add (i * 3)).off + 1, none⟩) (by show (ad.add (i * 3)).block < T; rw [block_of_add]; exact HADT.out)).trans HS1.out.2.1, (hbl.cell (p := ⟨(ad.add (k * 3)).block, (ad.add (k * 3)).off + 1, none⟩) (by show (ad.add (k * 3)).block < T; rw [block_of_add]; exact HADT.out)).trans HS1.out.2.2⟩
  have HB3 := Lib.hid (Fr.past HB2.out.drew hf HT.out)
  have HRI3 := Lib.hid (HRI.out.keep fun p hp => (hbl.cell (p := p) (by have := HSZ.out; omega)).trans rfl)
  have HRK3 := Lib.hid (HRK.out.keep fun p hp => (hbl.cell (p := p) (by have := HSZ.out; omega)).trans rfl)
  have HS3 := Lib.hid hS3
  have hs3 : LB ≤ w3.heap.size := by have := HSZ.out; have := hf.size; have : w2.drew.heap.size = w2.heap.size := rfl; omega
  have HS3s := Lib.hid hs3
  clear hbt ht hf hbl hs3
  by_cases hik : k < i
  ·have hr := hno (.inr (by rw [hpi, hpk]; omega))
   subst hr
   have i2 : (k : Int) < (i : Int) := by omega
   have hkk := known08_any w3 (HG.out.next HB3.out)
   clear hno hyes hpi hpk
   refine hK.out _ _ hS3 (fun hS4 => ?_)
   try simp only [Act.put, g1, g2, g3, g4, g5, g6]
   iterate 5 (refine wpH rfl rfl ?_; try simp only [Act.put, g1, g2, g3, g4, g5, g6])
   refine wpAnyH_done (by kernel_rfl) ?_ _
   clear hS4 hS3
   go_wp2_with fail
   refine hkk.mono ?_
   rintro e w4 ⟨rfl, hb4⟩
   have HE : Hid (Below w.heap.size w w4) := Lib.hid (HB3.out.trans (hb4.mono HB3.out.size))
   clear hkk hb4
   go_wp2
   go_ret
   exact ⟨rfl, HE.out⟩
  ·obtain ⟨d, hd⟩ : ∃ d, k = i + d := ⟨k - i, by omega⟩
   obtain ⟨v, rfl, hrow⟩ := hyes i k hpi hpk (by omega)
   rw [show k - i + 1 = d + 1 by omega] at hrow
   have hlen : ((runN i (d + 1)).map (cellsJ Lc.ord)).length = d + 1 := by rw [List.length_map, runN_len]
   obtain ⟨pa, cp, rfl, hp1, hp2, hrows⟩ := hrow.rows (by omega)
   rw [hlen]
   obtain ⟨U0, d0, s0, r0⟩ := hrows 0 ei.cells (by simp [runN, cellsJ, HEI.out])
   obtain ⟨U1, d1, s1, r1⟩ := hrows d ek.cells (by simp [runN, cellsJ, ← hd, HEK.out])
   rw [Addr.add_zero'] at s0
   have hkk := known08_any w3.drew (HG.out.next HB3.out.drew)
   have HR0 := Lib.hid r0
   have HR1 := Lib.hid r1
   have HP := Lib.hid hp2
   have HD := Lib.hid hd
   have i2 : ¬ (k : Int) < (i : Int) := by omega
   have wd1 : IntKind.i64.wrap ((k : Int) - (i : Int)) = (d : Int) := by rw [IntKind.wrap_i64]; omega
   have wd2 : IntKind.i64.wrap ((d : Int) + 1) = (d : Int) + 1 := by rw [IntKind.wrap_i64]; omega
   have wd3 : IntKind.i64.wrap (d : Int) = (d : Int) := by rw [IntKind.wrap_i64]; omega
   have e0 : (0 : Int) ≤ (d : Int) := by omega
   have e1 : (d : Int) < (d : Int) + 1 := by omega
   have e2 : (0 : Int) < (d : Int) + 1 := by omega
   clear hno hyes hpi hpk hrow hrows hlen r0 r1 hp1 hp2 hd
   have HS0 := Lib.hid s0
   have HS4 := Lib.hid s1
   refine hK.out _ _ hS3 (fun hS4 => ?_)
   try simp only [Act.put, g1, g2, g3, g4, g5, g6]
   iterate 5 (refine wpH rfl rfl ?_; try simp only [Act.put, g1, g2, g3, g4, g5, g6])
   refine wpAnyH_done (by kernel_rfl) ?_ _
   clear hS4 hS3
   go_wp2
   refine wp_region_held (S := fun W' : World => W'.cell? ⟨LB, 3, none⟩ = some (.slice (some ad) n c4) ∧ W'.cell? ⟨(ad.add (i * 3)).block, (ad.add (i * 3)).off + 1, none⟩ = some (.slice Ai ei.cells.length ci) ∧ W'.cell? ⟨(ad.add (k * 3)).block, (ad.add (k * 3)).off + 1, none⟩ = some (.slice Ak ek.cells.length ck) ∧ W'.cell? pa = some (.slice U0 ei.cells.length d0) ∧ W'.cell? (pa.add d) = some (.slice U1 ek.cells.length d1)) (by kernel_rfl) ?_
   change wpAnyH _ _ _ _ _ _ _ _ w3.drew
   have hS5 : (fun W' : World => W'.cell? ⟨LB, 3, none⟩ = some (.slice (some ad) n c4) ∧ W'.cell? ⟨(ad.add (i * 3)).block, (ad.add (i * 3)).off + 1, none⟩ = some (.slice Ai ei.cells.length ci) ∧ W'.cell? ⟨(ad.add (k * 3)).block, (ad.add (k * 3)).off + 1, none⟩ = some (.slice Ak ek.cells.length ck) ∧ W'.cell? pa = some (.slice U0 ei.cells.length d0) ∧ W'.cell? (pa.add d) = some (.slice U1 ek.cells.length d1)) w3.drew := ⟨HS3.out.1, HS3.out.2.1, HS3.out.2.2, HS0.out, HS4.out⟩
   have HS5 := Lib.hid hS5
   clear s0 s1 hK
   refine wpAnyH_one (i := 0) (by kernel_rfl) rfl (fun K hK => ?_)
   simp only [g4, g6]
   go_simp
   go_at_call 14
   refine hkk.mono ?_
   rintro e w4 ⟨rfl, hb4⟩
   have HB4 := Lib.hid (HB3.out.drew.trans (hb4.mono HB3.out.drew.size))
   have hS6 : (fun W' : World => W'.cell? ⟨LB, 3, none⟩ = some (.slice (some ad) n c4) ∧ W'.cell? ⟨(ad.add (i * 3)).block, (ad.add (i * 3)).off + 1, none⟩ = some (.slice Ai ei.cells.length ci) ∧ W'.cell? ⟨(ad.add (k * 3)).block, (ad.add (k * 3)).off + 1, none⟩ = some (.slice Ak ek.cells.length ck) ∧ W'.cell? pa = some (.slice U0 ei.cells.length d0) ∧ W'.cell? (pa.add d) = some (.slice U1 ek.cells.length d1)) w4 := ⟨below_cell hb4 HS5.out.1, below_cell hb4 HS5.out.2.1, below_cell hb4 HS5.out.2.2.1, below_cell hb4 HS5.out.2.2.2.1, below_cell hb4 HS5.out.2.2.2.2⟩
   have hb4' : Below w3.heap.size w3 w4 := (Below.refl _ _).drew.trans hb4
   have hsa := same_yes w4 _ _ U0 Ai _ d0 _ ci _ _ rfl (HR0.out.on hb4' (Nat.le_refl _)) (HRI3.out.on hb4' HS3s.out) (by unfold maxLen; omega) (by unfold maxLen; omega)
   have hsb := fun q => same_yes (w4.drewN q) _ _ U1 Ak _ d1 _ ck _ _ rfl (HR1.out.on (below_drewN hb4' q) (Nat.le_refl _)) (HRK3.out.on (below_drewN hb4' q) HS3s.out) (by unfold maxLen; omega) (by unfold maxLen; omega)
   have HS6 := Lib.hid hS6
   clear hkk hb4 hb4'
   refine hK.out _ _ hS6 (fun _ => ?_)
   try simp only [Act.put, g1, g2, g3, g4, g5, g6]
   iterate 14 (refine wpH rfl rfl ?_; try simp only [Act.put, g1, g2, g3, g4, g5, g6])
   refine wpAnyH_one (i := 15) (by kernel_rfl) rfl (fun K hK => ?_)
   simp only [g4, g5, g6]
   go_simp
   go_at_call 15
   refine hsa.mono ?_
   rintro e w5 ⟨rfl, q, rfl⟩
   have hS7 : (fun W' : World => W'.cell? ⟨LB, 3, none⟩ = some (.slice (some ad) n c4) ∧ W'.cell? ⟨(ad.add (i * 3)).block, (ad.add (i * 3)).off + 1, none⟩ = some (.slice Ai ei.cells.length ci) ∧ W'.cell? ⟨(ad.add (k * 3)).block, (ad.add (k * 3)).off + 1, none⟩ = some (.slice Ak ek.cells.length ck) ∧ W'.cell? pa = some (.slice U0 ei.cells.length d0) ∧ W'.cell? (pa.add d) = some (.slice U1 ek.cells.length d1)) (w4.drewN q) := HS6.out
   have hsc := hsb q
   clear hsa hsb hS6 hS5
   refine hK.out _ _ hS7 (fun _ => ?_)
   try simp only [Act.put, g1, g2, g3, g4, g5, g6]
   iterate 14 (refine wpH rfl rfl ?_; try simp only [Act.put, g1, g2, g3, g4, g5, g6])
   refine wpAnyH_one (i := 30) (by kernel_rfl) rfl (fun K hK => ?_)
   simp only [g4, g5, g6]
   go_simp
   go_at_call 15
   refine hsc.mono ?_
   rintro e w6 ⟨rfl, q2, rfl⟩
   have hS8 : (fun W' : World => W'.cell? ⟨LB, 3, none⟩ = some (.slice (some ad) n c4) ∧ W'.cell? ⟨(ad.add (i * 3)).block, (ad.add (i * 3)).off + 1, none⟩ = some (.slice Ai ei.cells.length ci) ∧ W'.cell? ⟨(ad.add (k * 3)).block, (ad.add (k * 3)).off + 1, none⟩ = some (.slice Ak ek.cells.length ck) ∧ W'.cell? pa = some (.slice U0 ei.cells.length d0) ∧ W'.cell? (pa.add d) = some (.slice U1 ek.cells.length d1)) ((w4.drewN q).drewN q2) := HS6.out
   clear hsc hS7
   refine hK.out _ _ hS8 (fun _ => ?_)
   try simp only [Act.put, g1, g2, g3, g4, g5, g6]
   iterate 2 (refine wpH rfl rfl ?_; try simp only [Act.put, g1, g2, g3, g4, g5, g6])
   refine wpAnyH_done (by kernel_rfl) ?_ _
   clear hS8 hK
   go_wp2
   go_ret
   exact ⟨rfl, below_drewN HB4.out _⟩
end Go.Proofs.YtknjhlbhbnldpaaGreatDoor.C
