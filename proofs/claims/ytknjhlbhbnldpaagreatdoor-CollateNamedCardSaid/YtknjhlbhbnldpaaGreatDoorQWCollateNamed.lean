/-
  The law CollateNamed answers true: each scalar's text is its name; each element of several cells is named as its definition says. Condition: the choices are a row of bytes, the number one byte; what is asked of the listed variables.
-/
import Derived.Test.YtknjhlbhbnldpaaGreatDoorQKoX
import Derived.Test.YtknjhlbhbnldpaaGreatDoorQKoZ
import Derived.Test.YtknjhlbhbnldpaaGreatDoorB20
import Derived.Test.YtknjhlbhbnldpaaGreatDoorB22
import Derived.Test.YtknjhlbhbnldpaaGreatDoorB24
namespace Go.Proofs.YtknjhlbhbnldpaaGreatDoor.C
open Go.RowKit

def GenNm (n : List UInt8) : Prop := n = [] ∨ (2 ≤ n.length ∧ n.length ≤ 6)
theorem nmElm_len (j : Int) : 2 ≤ (nmElm j).length ∧ (nmElm j).length ≤ 6 := by
 unfold nmElm
 split
 ·decide
 ·split <;> decide
theorem genNm_step {o : List Elm} (z : Int) (h : ∀ e ∈ o, GenNm e.name) : ∀ e ∈ stepO o z, GenNm e.name := by
 intro e he
 unfold stepO at he
 split at he
 ·exact h e he
 ·rcases List.mem_append.1 he with he | he
  ·exact h e he
  ·rw [List.mem_singleton] at he
   subst he
   unfold elm0
   simp only
   split
   ·exact .inr (nmElm_len _)
   ·exact .inl rfl
theorem genNm_all : ∀ (l : List Int) (o : List Elm), (∀ e ∈ o, GenNm e.name) → ∀ e ∈ l.foldl stepO o, GenNm e.name
 | [], _, h => h
 | z :: r, o, h => genNm_all r (stepO o z) (genNm_step z h)
theorem genL_nm (zs : List Int) : ∀ e ∈ (genL zs).ord, GenNm e.name := genNm_all _ [] (by simp)
theorem namedO_free {o : List Elm} {nm : List UInt8} (h : ∀ e ∈ o, e.name ≠ [] → e.name ≠ nm) : namedO o nm = none := by
 cases hn : namedO o nm with
 | none => rfl
 | some c =>
  obtain ⟨h0, i, e, hi, he, _⟩ := namedO_some hn
  exact absurd he (h e (List.mem_of_getElem? hi) (by rw [he]; exact h0))
theorem namedO_at {o : List Elm} (h : ordB o = true) {i : Nat} {e : Elm} (he : o[i]? = some e) (hn : e.name ≠ []) : namedO o e.name = some e.cells := by
 cases hc : namedO o e.name with
 | none => exact absurd rfl (namedO_none hc e (List.mem_of_getElem? he) hn)
 | some c =>
  obtain ⟨_, j, x, hj, hx, rfl⟩ := namedO_some hc
  have hlt : ∀ {a b : Nat} {y z : Elm}, o[a]? = some y → o[b]? = some z → z.name ≠ [] → y.name = z.name → ¬ a < b := by
   intro a b y z ha hb hz hyz hab
   have h2 := (ord_at h hb).2.2.2 hz
   have h3 : ((o.take b).any fun x => decide (x.name = z.name)) = true := List.any_eq_true.2 ⟨y, List.mem_take_iff_getElem.2 ⟨a, by have := (List.getElem?_eq_some_iff.1 ha).1; omega, (List.getElem?_eq_some_iff.1 ha).2⟩, by simpa using hyz⟩
   rw [h3] at h2
   cases h2
  have h1 := hlt hj he hn hx
  have h2 := hlt he hj (by rw [hx]; exact hn) hx.symm
  obtain rfl : i = j := by omega
  rw [he] at hj
  rw [Option.some.inj hj]
theorem one_scalar : ∀ m : Nat, m < 60 → (ofL (sb [33 + (m : Int)])).length = 1 ∧ 0 ≤ (ofL (sb [33 + (m : Int)])).headD 0 := by decide +kernel
theorem sb_one (z : Int) : ∃ nm : List UInt8, nm.length = 1 ∧ str nm = sb [z] := ⟨(sb [z]).data.toList, by
 have := sb_size [z]
 rw [← Lib.size_eq, this]
 rfl, by unfold str; rw [Array.toArray_toList]⟩
theorem long_none : ¬ ((ofL (str [110, 111, 116, 104, 105, 110, 103, 32, 108, 105, 107, 101, 32, 105, 116])).length = 1 ∧ 0 ≤ (ofL (str [110, 111, 116, 104, 105, 110, 103, 32, 108, 105, 107, 101, 32, 105, 116])).headD 0) := by decide +kernel
theorem empty_none : ¬ ((ofL (str [])).length = 1 ∧ 0 ≤ (ofL (str [])).headD 0) := by decide +kernel
set_option maxRecDepth 100000 in
set_option maxHeartbeats 8000000 in
theorem collateNamedWalk (a0 : Option Addr) (len0 cap0 : Nat) (z0 : List Int) (a1 : Int) (w : World) (hG : Gm w) (w0 : L.IsRow .u8 w a0 len0 cap0 z0) (w1 : (Lit.int .u8 a1).wf = true) :
  Calls Tryz.prog 4 #[.slice a0 len0 cap0, .int .u8 a1] w fun e w' => e = .returned (.bool true) ∧ Below w.heap.size w w' := by
 have ha1 := byte_in w1
 have hby : Byt (z0.take len0) := row_u8 w0
 have hln := row_len w0
 have hlo := locale_any w w.heap.size a0 len0 cap0 _ (RI.of_row w0) (Nat.le_refl _) hby (by omega)
 have hR := genL_right hby
 have hok := genL_new _ hby
 have hnms := genL_nm (z0.take len0)
 have hlr := fun (W : World) (lo : Nat) (v1 v2 v3 v4 : Value) (h : LocAt W lo v1 v2 v3 v4 (genL (z0.take len0))) => genL_locR hby h
 obtain ⟨Lc, hLc⟩ : ∃ Lc, Lc = genL (z0.take len0) := ⟨_, rfl⟩
 rw [← hLc] at hlo hR hok hlr hnms
 obtain ⟨m, hm⟩ : ∃ m : Nat, a1.tmod 60 = (m : Int) := ⟨(a1 % 60).toNat, by rw [Int.tmod_eq_emod_of_nonneg ha1.1]; omega⟩
 have hm60 : m < 60 := by rw [Int.tmod_eq_emod_of_nonneg ha1.1] at hm; omega
 have HG := Lib.hid hG
 have HLR := Lib.hid hlr
 have HOK := Lib.hid hok
 have HR := Lib.hid hR
 have HNMS := Lib.hid hnms
 clear hG w0 hLc hln hby w1 hlr hok hR hnms
 go_enter Tryz.func4, Tryz.ntmps4
 go_wp2_with fail
 refine hlo.mono ?_
 rintro e w1 ⟨v1, v2, v3, v4, rfl, hL, hb1⟩
 have HB1 := Lib.hid hb1
 have hL := HLR.out _ _ _ _ _ _ hL
 clear hlo hb1
 obtain ⟨⟨A1, c1, x1, rfl, -⟩, ⟨A2, c2, rfl, -⟩, ⟨A3, c3, rfl, -⟩, ⟨A4, c4, x4, rfl, -⟩, -⟩ := id hL
 obtain ⟨W, hW⟩ : ∃ W, W = w1.alloc (.cells #[.slice A1 Lc.cls.length c1, .slice A2 Lc.up.length c2, .slice A3 Lc.lo.length c3, .slice A4 Lc.ord.length c4] 30) := ⟨_, rfl⟩
 have hbW : Below w1.heap.size w1 W := by rw [hW]; exact (Below.refl _ _).alloc (Nat.le_refl _) _
 have hsW : W.heap.size = w1.heap.size + 1 := by rw [hW]; simp
 have hrow : Rw W w1.heap.size 30 #[.slice A1 Lc.cls.length c1, .slice A2 Lc.up.length c2, .slice A3 Lc.lo.length c3, .slice A4 Lc.ord.length c4] := by rw [hW]; exact heap_alloc_new w1 _
 have HLW := Lib.hid (hL.on hbW (Nat.le_refl _))
 have HBW := Lib.hid (HB1.out.trans (hbW.mono HB1.out.size))
 have hn := new_yes W w1.heap.size _ _ _ _ Lc HLW.out (by omega) (HG.out.next HBW.out) HR.out HOK.out
 have HROW := Lib.hid hrow
 clear hL hbW hrow HLR
 go_wp2_with fail
 rw [← hW]
 clear hW
 refine hn.mono ?_
 rintro e w2 ⟨T, rfl, hT, ht, hb2, -⟩
 obtain ⟨LB, hLB⟩ : ∃ LB, LB = w1.heap.size := ⟨_, rfl⟩
 rw [← hLB] at HLW HROW hsW ⊢
 have HSZ : Hid (W.heap.size = LB + 1 ∧ W.heap.size ≤ T ∧ T < w2.heap.size) := Lib.hid ⟨hsW, hT, ht.lt⟩
 have hrow := HROW.out.on hb2 HROW.out.lt
 have HL2 := Lib.hid (HLW.out.on hb2 (by have := HSZ.out; omega))
 have p3 : w2.cell? ⟨LB, 3, none⟩ = some (.slice A4 Lc.ord.length c4) := hrow.cell rfl
 have HT : Hid (w.heap.size ≤ T) := Lib.hid (Nat.le_trans HBW.out.size hT)
 have HB2 := Lib.hid (HBW.out.trans (hb2.mono HBW.out.size))
 have HT2 := Lib.hid ht
 have HP3 := Lib.hid p3
 have h500 : Lc.ord.length ≤ 500 := by have hord := right_ord HR.out; unfold ordB at hord; simp only [Bool.and_eq_true, decide_eq_true_eq] at hord; omega
 clear hn hb2 hT hsW hLB hrow HROW HLW ht p3
 go_wp2
 go_loopw [7] (fun iv wr => ∃ i : Nat, i ≤ Lc.ord.length ∧ iv = .int .i64 i ∧ Hid (Fr w2 wr (· = T) ∧ ∃ j : Nat, j ≤ i ∧ TabAt wr T Lc (j : Int))) (fun iv _ => Lc.ord.length - (intOf iv).toNat)
 case atStart => exact ⟨0, Nat.zero_le _, rfl, Lib.hid ⟨Fr.refl _ _, 0, Nat.le_refl _, HT2.out⟩⟩
 case round =>
  obtain ⟨i, hi, rfl, HQ⟩ := hrel
  have hbl := HQ.out.1.belowT (by have := HSZ.out; omega)
  have p3 : wr.cell? ⟨LB, 3, none⟩ = some (.slice A4 Lc.ord.length c4) := (hbl.cell (p := ⟨LB, 3, none⟩) (by have := HSZ.out; show LB < T; omega)).trans HP3.out
  by_cases hlt : i < Lc.ord.length
  ·obtain ⟨ei, hei⟩ : ∃ ei, Lc.ord[i]? = some ei := ⟨_, List.getElem?_eq_getElem hlt⟩
   have hL2 := HL2.out.on hbl (by have := HSZ.out; omega)
   obtain ⟨ad, cx, Ai, ci, hv, hab, q0, q1, -, ri⟩ := elmR_at hL2.2.2.2.1 hei
   injection hv with hA _ hc
   subst hA hc
   have hl4 := len4 (right_ord HR.out) (List.mem_of_getElem? hei)
   have hat := fun hne => namedO_at (right_ord HR.out) hei hne
   have hnl := HNMS.out ei (List.mem_of_getElem? hei)
   obtain ⟨nm, cl, sm⟩ := ei
   simp only at q0 q1 ri hl4 hat hnl
   obtain ⟨n, hn⟩ : ∃ n, n = Lc.ord.length := ⟨_, rfl⟩
   have HN := Lib.hid hn
   rw [← hn] at p3 hlt h500 hi
   have i0 : (0 : Int) ≤ (i : Int) := by omega
   have i1 : (i : Int) < (n : Int) := by omega
   have HRI := Lib.hid ri
   have HABT : Hid (ad.block < T ∧ ad.block < LB) := Lib.hid (by have := HSZ.out; omega)
   have HHAT := Lib.hid hat
   by_cases hnm : nm = []
   ·have hne : (str nm).toList.isEmpty = true := by rw [Lib.toList_data, hnm]; rfl
    have HEND : Hid (Fr w2 wr.drew (· = T) ∧ ∃ j : Nat, j ≤ i + 1 ∧ TabAt wr.drew T Lc (j : Int)) := Lib.hid (by obtain ⟨h1, j, h2, h3⟩ := HQ.out; exact ⟨h1.drew, j, by omega, h3.drew⟩)
    clear hbl hei hL2 hab q1 ri hat hnm hn
    go_wp2
    refine wp_region_held (S := fun W' : World => W'.cell? ⟨LB, 3, none⟩ = some (.slice (some ad) n c4) ∧ W'.cell? (ad.add (i * 3)) = some (.string (str nm))) (by kernel_rfl) ?_
    change wpAnyH _ _ _ _ _ _ _ _ wr.drew
    have hS1 : (fun W' : World => W'.cell? ⟨LB, 3, none⟩ = some (.slice (some ad) n c4) ∧ W'.cell? (ad.add (i * 3)) = some (.string (str nm))) wr.drew := ⟨p3, q0⟩
    iterate 6 (refine wpH rfl rfl ?_; try simp only [Act.put, g1, g2, g3, g4, g5, g6])
    refine wpHn 6 (v := .bool false) rfl ?_; try simp only [Act.put, g1, g2, g3, g4, g5, g6]
    refine wpH rfl rfl ?_; try simp only [Act.put, g1, g2, g3, g4, g5, g6]
    iterate 16 (refine wpHs rfl rfl rfl ?_; try simp only [Act.put, g1, g2, g3, g4, g5, g6])
    refine wpH rfl rfl ?_; try simp only [Act.put, g1, g2, g3, g4, g5, g6]
    refine wpAnyH_done (by kernel_rfl) ?_ _
    clear hS1 p3 q0
    go_wp2
    go_roundw
    case rel => exact ⟨i + 1, by have := HN.out; omega, by go_num, HEND⟩
    case measure => simp [intOf]; have := HN.out; omega
   ·have hne : (str nm).toList.isEmpty = false := by
     rw [Lib.toList_data]
     show nm.isEmpty = false
     cases hl : nm with
     | nil => exact absurd hl hnm
     | cons a r => rfl
    obtain ⟨j, hj, htj⟩ := HQ.out.2
    have hna := named_any wr.drew T Lc (j : Int) nm htj.drew (by omega) (by omega) HR.out (hnl.elim (fun h => absurd h hnm) fun h => by omega)
    have hcl : namedT Lc.ord nm = cl := by unfold namedT; rw [HHAT.out hnm]
    rw [hcl] at hna
    clear hei hL2 hab ri hat hnm hn hcl htj
    go_wp2
    refine wp_region_held (S := fun W' : World => W'.cell? ⟨LB, 3, none⟩ = some (.slice (some ad) n c4) ∧ W'.cell? (ad.add (i * 3)) = some (.string (str nm)) ∧ W'.cell? ⟨(ad.add (i * 3)).block, (ad.add (i * 3)).off + 1, none⟩ = some (.slice Ai cl.length ci)) (by kernel_rfl) ?_
    change wpAnyH _ _ _ _ _ _ _ _ wr.drew
    have hS1 : (fun W' : World => W'.cell? ⟨LB, 3, none⟩ = some (.slice (some ad) n c4) ∧ W'.cell? (ad.add (i * 3)) = some (.string (str nm)) ∧ W'.cell? ⟨(ad.add (i * 3)).block, (ad.add (i * 3)).off + 1, none⟩ = some (.slice Ai cl.length ci)) wr.drew := ⟨p3, q0, q1⟩
    iterate 6 (refine wpH rfl rfl ?_; try simp only [Act.put, g1, g2, g3, g4, g5, g6])
    refine wpHn 6 (v := .bool true) rfl ?_; try simp only [Act.put, g1, g2, g3, g4, g5, g6]
    iterate 8 (refine wpH rfl rfl ?_; try simp only [Act.put, g1, g2, g3, g4, g5, g6])
    refine wpHn 16 rfl ?_; try simp only [Act.put, g1, g2, g3, g4, g5, g6]
    refine wpHn 17 rfl ?_; try simp only [Act.put, g1, g2, g3, g4, g5, g6]
    refine wpHn 18 rfl ?_; try simp only [Act.put, g1, g2, g3, g4, g5, g6]
    refine wpHn 19 rfl ?_; try simp only [Act.put, g1, g2, g3, g4, g5, g6]
    refine wpHn 20 rfl ?_; try simp only [Act.put, g1, g2, g3, g4, g5, g6]
    refine wpHn 21 rfl ?_; try simp only [Act.put, g1, g2, g3, g4, g5, g6]
    have HS1 := Lib.hid hS1
    clear p3 q0 q1
    refine wpAnyH_one (i := 15) (by kernel_rfl) rfl (fun K hK => ?_)
    simp only [g4, g5, g6]
    go_simp
    go_at_call 16
    refine hna.mono ?_
    rintro e w3 ⟨v, rfl, ho, ht3, hf3⟩
    obtain ⟨A3, c3', rfl⟩ := row_form ho
    have hb3 : Below T wr.drew w3 := hf3.belowT (by have := HQ.out.1.size; have := HSZ.out; show T ≤ wr.heap.size; omega)
    have hS3 : (fun W' : World => W'.cell? ⟨LB, 3, none⟩ = some (.slice (some ad) n c4) ∧ W'.cell? (ad.add (i * 3)) = some (.string (str nm)) ∧ W'.cell? ⟨(ad.add (i * 3)).block, (ad.add (i * 3)).off + 1, none⟩ = some (.slice Ai cl.length ci)) w3 := ⟨(hb3.cell (p := ⟨LB, 3, none⟩) (by have := HSZ.out; show LB < T; omega)).trans HS1.out.1, (hb3.cell (p := ad.add (i * 3)) (by rw [block_of_add]; exact HABT.out.1)).trans HS1.out.2.1, (hb3.cell (p := ⟨(ad.add (i * 3)).block, (ad.add (i * 3)).off + 1, none⟩) (by show (ad.add (i * 3)).block < T; rw [block_of_add]; exact HABT.out.1)).trans HS1.out.2.2⟩
    have hsa := same_yes w3 _ _ A3 Ai _ c3' _ ci _ _ rfl (RI.of_own (zs := cl) ho) (HRI.out.keep fun p hp => (hb3.cell (p := p) (by have := HSZ.out; omega)).trans rfl) (by unfold maxLen; omega) (by unfold maxLen; omega)
    have HF3 : Hid (Fr w2 w3 (· = T) ∧ TabAt w3 T Lc ((j : Int) + 1)) := Lib.hid ⟨HQ.out.1.drew.trans hf3, ht3⟩
    have HS3 := Lib.hid hS3
    clear hna ho ht3 hf3 hb3
    refine hK.out _ _ hS3 (fun _ => ?_)
    try simp only [Act.put, g1, g2, g3, g4, g5, g6]
    refine wpAnyH_one (i := 22) (by kernel_rfl) rfl (fun K hK => ?_)
    simp only [g4, g5, g6]
    go_simp
    go_at_call 15
    refine hsa.mono ?_
    rintro e w4 ⟨rfl, q, rfl⟩
    have hS4 : (fun W' : World => W'.cell? ⟨LB, 3, none⟩ = some (.slice (some ad) n c4) ∧ W'.cell? (ad.add (i * 3)) = some (.string (str nm)) ∧ W'.cell? ⟨(ad.add (i * 3)).block, (ad.add (i * 3)).off + 1, none⟩ = some (.slice Ai cl.length ci)) (w3.drewN q) := HS3.out
    have HEND : Hid (Fr w2 (w3.drewN q) (· = T) ∧ ∃ j : Nat, j ≤ i + 1 ∧ TabAt (w3.drewN q) T Lc (j : Int)) := Lib.hid ⟨HF3.out.1.trans (.of_below (below_drewN (Below.refl _ _) q)), j + 1, by omega, HF3.out.2.keep (below_drewN (Below.refl _ _) q)⟩
    clear hsa hS3
    refine hK.out _ _ hS4 (fun _ => ?_)
    try simp only [Act.put, g1, g2, g3, g4, g5, g6]
    iterate 2 (refine wpH rfl rfl ?_; try simp only [Act.put, g1, g2, g3, g4, g5, g6])
    refine wpAnyH_done (by kernel_rfl) ?_ _
    clear hS4 hK
    go_wp2
    go_roundw
    case rel => exact ⟨i + 1, by have := HN.out; omega, by go_num, HEND⟩
    case measure => simp [intOf]; have := HN.out; omega
  ·obtain rfl : i = Lc.ord.length := by omega
   obtain ⟨j, hj, htj⟩ := HQ.out.2
   have HB3 := Lib.hid (Fr.past HB2.out HQ.out.1 HT.out)
   have HTJ := Lib.hid htj
   have wm : IntKind.u8.wrap (m : Int) = (m : Int) := by rw [IntKind.wrap_u8]; omega
   have wa : IntKind.u8.wrap (33 + (m : Int)) = 33 + (m : Int) := by rw [IntKind.wrap_u8]; omega
   obtain ⟨w3, hw3⟩ : ∃ w3, w3 = wr.alloc (.cells #[.int .u8 (33 + (m : Int))] 5) := ⟨_, rfl⟩
   have hb3 : Below wr.heap.size wr w3 := by rw [hw3]; exact (Below.refl _ _).alloc (Nat.le_refl _) _
   have hr3 : RI .u8 w3 (wr.heap.size + 1) (some ⟨wr.heap.size, 0, none⟩) 1 [33 + (m : Int)] := by rw [hw3]; exact RI.new wr .u8 [33 + (m : Int)] _
   have hcv := conv_ri hr3 1
   obtain ⟨nm, hn1, hns⟩ := sb_one (33 + (m : Int))
   rw [← hns] at hcv
   have HO := Lib.hid (one_scalar m hm60)
   rw [← hns] at HO
   have HB4 := Lib.hid (HB3.out.trans (hb3.mono HB3.out.size))
   have HT4 := Lib.hid (htj.keep hb3)
   have hkn := known08_any w3 (HG.out.next HB4.out)
   have HN1 := Lib.hid hn1
   have nfree : ∀ x : List UInt8, x.length = 1 ∨ 6 < x.length → namedO Lc.ord x = none := fun x hx => namedO_free fun e he h0 h1 => by
    rcases HNMS.out e he with h | h
    ·exact h0 h
    ·rw [h1] at h; omega
   have hT1 : namedT Lc.ord nm = ofL (str nm) := by unfold namedT; rw [nfree nm (.inl hn1)]; exact if_pos HO.out
   have hT2 : namedT Lc.ord [] = [] := by unfold namedT; rw [show namedO Lc.ord [] = none from if_pos rfl]; exact if_neg empty_none
   have hT3 : namedT Lc.ord [110, 111, 116, 104, 105, 110, 103, 32, 108, 105, 107, 101, 32, 105, 116] = [] := by unfold namedT; rw [nfree _ (.inr (by decide))]; exact if_neg long_none
   have HT1 := Lib.hid hT1
   have HTE2 := Lib.hid hT2
   have HTE3 := Lib.hid hT3
   have hso : (ofL (str nm)).length ≤ maxLen := by have := HO.out.1; unfold maxLen; omega
   rw [hw3] at hcv
   clear hbl hb3 hr3 htj hn1 hns nfree hT1 hT2 hT3
   go_wp2_with fail
   rw [← hw3]
   clear hw3 p3 hcv
   refine hkn.mono ?_
   rintro e w4 ⟨rfl, hb4⟩
   have HB5 := Lib.hid (HB4.out.trans (hb4.mono HB4.out.size))
   have hna := named_any w4 T Lc (j : Int) nm (HT4.out.keep hb4) (by omega) (by omega) HR.out (by have := HN1.out; omega)
   rw [HT1.out] at hna
   clear hkn hb4
   go_wp2_with fail
   refine hna.mono ?_
   rintro e w5 ⟨v, rfl, ho, ht, hf⟩
   obtain ⟨A5, c5, rfl⟩ := row_form ho
   have HR5 := Lib.hid (RI.of_own (zs := ofL (str nm)) ho)
   have HT5 := Lib.hid ht
   have HB6 := Lib.hid (Fr.past HB5.out hf HT.out)
   have hof := refOf_any (str nm) w5 (by rw [show (str nm).size = nm.length from List.size_toArray]; have := HN1.out; omega)
   clear hna ho ht hf
   go_wp2_with fail
   refine hof.mono ?_
   rintro e w6 ⟨v, rfl, ho, hb6⟩
   obtain ⟨A6, c6, rfl⟩ := row_form ho
   have hsa := same_yes w6 _ _ A5 A6 _ c5 _ c6 _ _ rfl (HR5.out.on hb6 (Nat.le_refl _)) (RI.of_own (zs := ofL (str nm)) ho) hso hso
   have HT6 := Lib.hid (HT5.out.keep hb6)
   have HB7 := Lib.hid (HB6.out.trans (hb6.mono HB6.out.size))
   clear hof ho hb6
   go_wp2_with fail
   refine hsa.mono ?_
   rintro e w7 ⟨rfl, q, rfl⟩
   have hnb := named_any (w6.drewN q) T Lc ((j : Int) + 1) [] (HT6.out.keep (below_drewN (Below.refl _ _) q)) (by omega) (by omega) HR.out (by decide)
   rw [HTE2.out] at hnb
   have HB8 := Lib.hid (below_drewN HB7.out q)
   clear hsa
   go_wp2_with fail
   refine hnb.mono ?_
   rintro e w8 ⟨v, rfl, ho, ht, hf⟩
   obtain ⟨A8, c8, rfl⟩ : ∃ A c, v = .slice A 0 c := row_form ho
   have hnc := named_any w8 T Lc ((j : Int) + 1 + 1) [110, 111, 116, 104, 105, 110, 103, 32, 108, 105, 107, 101, 32, 105, 116] ht (by omega) (by omega) HR.out (by decide)
   rw [HTE3.out] at hnc
   have HB9 := Lib.hid (Fr.past HB8.out hf HT.out)
   clear hnb ho ht hf
   go_wp2_with fail
   refine hnc.mono ?_
   rintro e w9 ⟨v, rfl, ho, ht, hf⟩
   obtain ⟨A9, c9, rfl⟩ : ∃ A c, v = .slice A 0 c := row_form ho
   have HB10 := Lib.hid (Fr.past HB9.out hf HT.out)
   clear hnc ho ht hf
   go_wp2
   go_ret
   exact ⟨rfl, HB10.out⟩
end Go.Proofs.YtknjhlbhbnldpaaGreatDoor.C
