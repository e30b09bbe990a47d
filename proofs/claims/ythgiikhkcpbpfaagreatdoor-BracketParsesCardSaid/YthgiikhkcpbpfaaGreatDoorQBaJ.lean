/-
  A bracket's reader: an item. Condition: what is asked of sizes (BOk, SzB).
-/
import Derived.Test.YthgiikhkcpbpfaaGreatDoorQBaI
namespace Go.Proofs.YthgiikhkcpbpfaaGreatDoor.C
open Go.RowKit

theorem ord500 {L : Loc} (h : rightL L = true) : L.ord.length ≤ 500 := by
 have hord := right_ord h
 unfold ordB at hord
 simp only [Bool.and_eq_true, decide_eq_true_eq] at hord
 exact hord.1
theorem namedT_len {L : Loc} (h : rightL L = true) (nm : List UInt8) : (namedT L.ord nm).length ≤ 4 := by
 unfold namedT
 cases hl : namedO L.ord nm with
 | some c =>
  obtain ⟨_, i, k, hi, _, rfl⟩ := namedO_some hl
  exact len4 (right_ord h) (List.mem_of_getElem? hi)
 | none =>
  simp only
  split
  ·next hh => rw [hh.1]; omega
  ·simp
theorem namedB_len {L : Loc} {l : List Int} {b k : Nat} {x : Int} {cs : List Int} {k' : Nat} (h : namedB L l b k x = .ok (cs, k')) (hl : l.length ≤ 1000000) (hR : rightL L = true) : cs.length ≤ 1000000 + 1000 := by
 unfold namedB at h
 cases hu : upToL l k x with
 | error e => rw [hu] at h; cases h
 | ok p =>
  obtain ⟨c, k1⟩ := p
  rw [hu] at h
  simp only at h
  have h1 := BOk.txt hu
  have h2 := namedT_len hR (textL c)
  split at h
  ·cases h
  ·split at h
   ·injection h with h; injection h with h _; subst h; omega
   ·split at h
    ·cases h
    ·injection h with h; injection h with h _; subst h; omega
theorem prsB_len (l : List (Int × Int)) : (prsC l).length = l.length * 2 := by
 rw [prsC_flat, flat_lenK (sz := 2) (fun x hx => by obtain ⟨y, _, rfl⟩ := List.mem_map.1 hx; rfl), List.length_map]
theorem cls_ne {L : Loc} (h : rightL L = true) {c : Cls} (hc : c ∈ L.cls) : c.rs ≠ [] := by
 unfold rightL at h
 simp only [Bool.and_eq_true] at h
 obtain ⟨i, hi, rfl⟩ := List.mem_iff_getElem.1 hc
 have h1 := all_rangeK h.1.1.1 hi
 unfold clsAt at h1
 rw [List.getElem?_eq_getElem hi] at h1
 simp only [Bool.and_eq_true, Bool.not_eq_true', List.isEmpty_eq_false_iff] at h1
 exact h1.1.2
theorem classB_ne {L : Loc} {l : List Int} {b k : Nat} {rs : List (Int × Int)} {k' : Nat} (h : classB L l b k = .ok (rs, k')) (hR : rightL L = true) : 0 < rs.length := by
 unfold classB at h
 cases hu : upToL l k 58 with
 | error e => rw [hu] at h; cases h
 | ok p =>
  obtain ⟨cs, k2⟩ := p
  rw [hu] at h
  simp only at h
  cases hr : rangesL L.cls (textL cs) with
  | none => rw [hr] at h; cases h
  | some r =>
   rw [hr] at h
   simp only at h
   injection h with h
   injection h with h _
   obtain ⟨i, c, hi, _, hrs⟩ := rangesL_some hr
   rw [← h, ← hrs]
   exact List.length_pos_iff.2 (cls_ne hR (List.mem_of_getElem? hi))
set_option maxRecDepth 100000 in
set_option maxHeartbeats 2000000 in
theorem itemB_any (w : World) (q : BSit) (m : Nat) (hi : Value → Value → Prop) (k : Nat) (s : BSet) (h : RdB w q m hi k s) (hq : BOk q (m + 8)) (hs : SzB s 1000000) :
  Calls Tryz.prog 42 #[.pointer (some ⟨q.R, 0, none⟩)] w (BOut w q (m + 8) (itemB q.L q.l s k) fun p e w' => e = .returned (.tuple #[]) ∧ RdB w' q (m + 8) (fun _ _ => True) p.2 p.1 ∧ Fr w w' (BY q)) := by
 have htk := takes2_any w q m hi k s 91 58 w.heap.size rfl h hq.l
 have p1 := h.cell1
 have hRl := h.rlt
 have htr := h.tr
 have HQ := Lib.hid hq
 have HS := Lib.hid hs
 clear h hq hs
 go_enter Tryz.func42, Tryz.ntmps42
 go_wp2_with fail
 refine htk.mono ?_
 rintro e w1 ⟨rfl, h1, hf1⟩
 have hs1 := hf1.size
 have HF1 := Lib.hid hf1
 cases hb : atS q.l k [91, 58] with
 | true =>
  rw [hb] at h1
  change RdB w1 q m hi (k + 2) s at h1
  have HV := Lib.hid (item_class (L := q.L) (s := s) hb)
  obtain ⟨vR, vT, h1e, -⟩ := h1.exact_
  obtain ⟨vR', vT', hx, hh⟩ := h1e.open_
  obtain ⟨rfl, rfl⟩ := hh
  obtain ⟨AR, cR, hvR⟩ := row_form hx.r
  subst hvR
  have hcl := classB_any w1.drew q m _ (k + 2) s k h1e.drew ⟨HQ.out.l, HQ.out.r, HQ.out.c, by have := HQ.out.m; omega⟩
  have H1 := Lib.hid h1e
  have HP := Lib.hid hx.cell3
  obtain ⟨iR, hiR, hz0, hz1, hz2⟩ := info_parts infoRange
  clear htk h1 hf1 p1 h1e hx
  go_wp2
  refine wp_region_E (S := fun W => W.cell? ⟨q.R, 3, none⟩ = some (.slice AR s.rs.length cR)) (L := 13) (by kernel_rfl) ?_
  have hS1 : (fun W : World => W.cell? ⟨q.R, 3, none⟩ = some (.slice AR s.rs.length cR)) w1.drew := HP.out
  iterate 8 (refine wpE rfl rfl ?_; try simp only [Act.put, g1, g2, g3, g4, g5, g6])
  clear hS1
  refine wpAnyE_one (i := 8) (by kernel_rfl) rfl (fun K hK => ?_)
  simp only [g4, g5, g6]
  go_simp
  go_at_call 65
  cases hc : classB q.L q.l k (k + 2) with
  | error er =>
   rw [hc] at hcl
   have HV1 : Hid (itemB q.L q.l s k = .error er) := Lib.hid (by rw [HV.out, hc])
   clear hc
   unfold BOut at hcl
   simp only at hcl
   refine hcl.mono ?_
   rintro e w2 ⟨rfl, hb2⟩
   exact ⟨rfl, BOut.bad HV1.out ⟨rfl, (hb2.behind (BX.all q HF1.out.drew)).up (by omega)⟩⟩
  | ok p =>
   obtain ⟨rs, k'⟩ := p
   have hrl := classB_len hc HQ.out.c
   have hr0 := classB_ne hc HQ.out.r
   rw [hc] at hcl
   have HV1 : Hid (itemB q.L q.l s k = .ok (⟨s.no, s.rs ++ rs, s.ts⟩, k')) := Lib.hid (by rw [HV.out, hc])
   clear hc
   unfold BOut at hcl
   simp only at hcl
   refine hcl.mono ?_
   rintro e w2 ⟨⟨v, rfl, ho2⟩, h2, hf2⟩
   obtain ⟨vR', vT', hx, hh⟩ := h2.open_
   obtain ⟨rfl, rfl⟩ := hh
   obtain ⟨g2, c2, rfl, _, _⟩ := ho2.form hr0
   have HX2 := Lib.hid hx
   have HO2 := Lib.hid (own_low (b' := q.R + 1) ho2 (by show q.R + 1 ≤ w1.heap.size; omega))
   have HF2 : Hid (Fr w w2 (BX q)) := Lib.hid (HF1.out.drew.trans hf2)
   have HS2 : Hid ((fun W : World => W.cell? ⟨q.R, 3, none⟩ = some (.slice AR s.rs.length cR)) w2) := Lib.hid hx.cell3
   clear hcl ho2 h2 hf2 hx
   refine hK.out _ _ (fun _ => HS2.out) (fun hS => ?_)
   clear hK hS
   try simp only [Act.put, g1, g2, g3, g4, g5, g6]
   refine wpAnyE_one (i := 9) (by kernel_rfl) rfl (fun K hK => ?_)
   have hsl := HS.out.1
   have hRl2 := HX2.out.h.rlt
   refine step_append_lies _ (by rfl) _ _ _ (by rfl) (q.R + 1) 46 iR (.agg #[.int .i32 0, .int .i32 0]) 2 8 Tryz.underlying31 hiR hz0 hz1 hz2 rfl (by decide) (.slice AR s.rs.length cR) s.rs.length (prsC s.rs) (by rfl) HX2.out.r ⟨g2, 0, none⟩ rs.length c2 (prsC rs) (by rfl) (prsB_len rs) (fun j u hj => HO2.out.cells (g := g2) rfl j u hj) (prs_one rs) hr0 (by unfold maxLen; omega) (by omega) (by omega) w2.heap.size rfl ?_
   intro g cap w5 hown5 hgr5 hat5 hlt5
   obtain ⟨hX6, hf6⟩ := HX2.out.addR rs rfl hgr5 hown5
   have hf61 : Fr w (w5.setCell ⟨q.R, 3, none⟩ (.slice (some ⟨g, 0, none⟩) (s.rs.length + rs.length) cap)) (BY q) := (BX.all q HF2.out).trans (hf6.mono fun b _ e => grown_ge (fun g hg => own_ge HX2.out.r hg) b e)
   have HE : Hid (RdB (w5.setCell ⟨q.R, 3, none⟩ (.slice (some ⟨g, 0, none⟩) (s.rs.length + rs.length) cap)) q (m + 1) (fun _ _ => True) k' ⟨s.no, s.rs ++ rs, s.ts⟩ ∧ Fr w (w5.setCell ⟨q.R, 3, none⟩ (.slice (some ⟨g, 0, none⟩) (s.rs.length + rs.length) cap)) (BY q)) := Lib.hid ⟨hX6.h, hf61⟩
   have hrow5 := (HX2.out.row.fr (Fr.of_grown hgr5) (fun e => by have := own_ge HX2.out.r e; omega))
   have z3 : w5.cell? ⟨q.R, 3, none⟩ = some (.slice AR s.rs.length cR) := hrow5.cell rfl
   have z4 := hrow5.frozen 3
   have HS5 : Hid ((fun W : World => W.cell? ⟨q.R, 3, none⟩ = some (.slice AR s.rs.length cR)) w5) := Lib.hid z3
   clear hown5 hgr5 hat5 hX6 hf6 hf61 hrow5
   refine hK.out _ _ (fun _ => HS5.out) (fun hS => ?_)
   clear hK hS
   try simp only [Act.put, g1, g2, g3, g4, g5, g6]
   refine wpAnyE_one (i := 10) (by kernel_rfl) rfl (fun K hK => ?_)
   simp only [g4, g5, g6]
   go_simp
   refine hK.out _ _ (fun _ => HS5.out) (fun hS => ?_)
   clear hK hS
   try simp only [Act.put, g1, g2, g3, g4, g5, g6]
   refine wpAnyE_one (i := 11) (by kernel_rfl) rfl (fun K hK => ?_)
   simp only [g4, g5, g6]
   go_simp
   refine hK.out _ _ (fun _ => HS5.out) (fun hS => ?_)
   clear hK
   try simp only [Act.put, g1, g2, g3, g4, g5, g6]
   replace hS := hS (by decide)
   refine wpEn 12 rfl ?_
   try simp only [Act.put, g1, g2, g3, g4, g5, g6]
   refine wpAnyE_one (i := 13) (by kernel_rfl) rfl (fun K hK => ?_)
   simp only [g4, g5, g6]
   go_simp
   refine hK.out _ _ (fun h => absurd rfl h) (fun _ => ?_)
   refine wpAnyE_done (by kernel_rfl) ?_ _
   clear hK hS z3 z4
   go_wp2
   go_end0
   exact BOut.ok HV1.out ⟨rfl, HE.out.1.up (by omega), HE.out.2⟩
 | false =>
  rw [hb] at h1
  change RdB w1 q m hi k s at h1
  have htk2 := takes2_any w1 q m hi k s 91 61 w1.heap.size rfl h1 HQ.out.l
  clear htk h1 hf1 p1
  go_wp2_with fail
  refine htk2.mono ?_
  rintro e w2 ⟨rfl, h2, hf2⟩
  have HF2 := Lib.hid (HF1.out.trans hf2)
  cases hb2 : atS q.l k [91, 61] with
  | true =>
   rw [hb2] at h2
   change RdB w2 q m hi (k + 2) s at h2
   have HV := Lib.hid (item_alike (L := q.L) (s := s) hb hb2)
   have hnm := namedB_any w2.drew q m hi (k + 2) s k 61 h2.drew ⟨HQ.out.l, HQ.out.r, HQ.out.c, by have := HQ.out.m; omega⟩
   have HP5 : Hid (w2.drew.cell? ⟨q.R, 5, none⟩ = some (.pointer (some ⟨q.T, 0, none⟩))) := Lib.hid h2.cell5
   clear htk2 h2 hf2 hb hb2
   go_wp2
   refine wp_region_held (S := fun W : World => W.cell? ⟨q.R, 5, none⟩ = some (.pointer (some ⟨q.T, 0, none⟩))) (by kernel_rfl) ?_
   change wpAnyH _ _ _ _ _ _ _ _ w2.drew
   have hS1 : (fun W : World => W.cell? ⟨q.R, 5, none⟩ = some (.pointer (some ⟨q.T, 0, none⟩))) w2.drew := HP5.out
   iterate 7 (refine wpH rfl rfl ?_; try simp only [Act.put, g1, g2, g3, g4, g5, g6])
   clear hS1
   refine wpAnyH_one (i := 7) (by kernel_rfl) rfl (fun K hK => ?_)
   simp only [g4, g5, g6]
   go_simp
   go_at_call 68
   cases hn : namedB q.L q.l k (k + 2) 61 with
   | error er =>
    rw [hn] at hnm
    have HV1 : Hid (itemB q.L q.l s k = .error er) := Lib.hid (by rw [HV.out, hn])
    clear hn
    unfold BOut at hnm
    simp only at hnm
    refine hnm.mono ?_
    rintro e w3 ⟨rfl, hb3⟩
    exact ⟨rfl, BOut.bad HV1.out ⟨rfl, (hb3.behind (BX.all q HF2.out.drew)).up (by omega)⟩⟩
   | ok p =>
    obtain ⟨cs, k'⟩ := p
    have hcl : cs.length ≤ 1000000 + 1000 := namedB_len hn HQ.out.l HQ.out.r
    rw [hn] at hnm
    have HV1 : Hid (itemB q.L q.l s k = .ok (putL s (alikeL q.L.ord cs), k')) := Lib.hid (by rw [HV.out, hn])
    clear hn
    unfold BOut at hnm
    simp only at hnm
    refine hnm.mono ?_
    rintro e w3 ⟨⟨v, rfl, ho3⟩, h3, hf3⟩
    obtain ⟨A3, c3, rfl⟩ := row_form ho3
    have HF3 : Hid (Fr w w3 (BX q)) := Lib.hid (HF2.out.drew.trans hf3)
    have hs3 := HF2.out.size
    obtain ⟨ra, rb⟩ := own_cells (own_low (b' := q.R + 1) ho3 (by show q.R + 1 ≤ w2.heap.size; omega)) htr
    obtain ⟨n, n0, n1, ht⟩ := h3.tab
    have hal := alike_any w3 q.T q.L n w3.heap.size A3 cs.length c3 cs ht n0 (by have := HQ.out.m; omega) HQ.out.r ra (by omega) (Nat.le_refl _) rb h3.gl h3.gt
    have HS3 : Hid ((fun W : World => W.cell? ⟨q.R, 5, none⟩ = some (.pointer (some ⟨q.T, 0, none⟩))) w3) := Lib.hid h3.cell5
    have H3 := Lib.hid h3
    have HN := Lib.hid (And.intro n0 n1)
    clear hnm ho3 h3 hf3 ra rb ht n0 n1
    refine hK.out _ _ HS3.out (fun hS => ?_)
    clear hK hS
    try simp only [Act.put, g1, g2, g3, g4, g5, g6]
    refine wpAnyH_one (i := 8) (by kernel_rfl) rfl (fun K hK => ?_)
    simp only [g4, g5, g6]
    go_simp
    go_at_call 67
    refine hal.mono ?_
    rintro e w4 ⟨v, rfl, hrows, ht, hf⟩
    have h4 : RdB w4 q (m + 3) (fun _ b => ∀ g, b.ownBlock = some g → g < w3.heap.size) k' s := H3.out.top.asked hf ⟨n + 1, by have := HN.out; omega, by have := HN.out; push_cast at this ⊢; omega, ht⟩
    have hlen : (alikeL q.L.ord cs).length ≤ 500 := alikeL_len (ord500 HQ.out.r)
    have HF4 : Hid (Fr w w4 (BX q)) := Lib.hid (HF3.out.trans (hf.mono fun j _ e => .inl e))
    have hsz3 := HF3.out.size
    have hadd := addB_any w4 q (m + 3) _ k' s v (alikeL q.L.ord cs) h4 (hrows.low (by omega)) (fun _ b hb g hg e => by
     obtain ⟨_, _, a, _⟩ := hrows
     have := own_ge a e
     have := hb g hg
     omega) (by have := HS.out.1; omega) (by have := HS.out.2; omega)
    have HS4 : Hid ((fun W : World => W.cell? ⟨q.R, 5, none⟩ = some (.pointer (some ⟨q.T, 0, none⟩))) w4) := Lib.hid h4.cell5
    obtain ⟨Av, cv, rfl⟩ : ∃ Av cv, v = .slice Av (alikeL q.L.ord cs).length cv := by obtain ⟨_, _, a, _⟩ := hrows; exact row_form a
    clear hal hrows ht hf h4 hlen
    refine hK.out _ _ HS4.out (fun hS => ?_)
    clear hK hS
    try simp only [Act.put, g1, g2, g3, g4, g5, g6]
    refine wpAnyH_one (i := 9) (by kernel_rfl) rfl (fun K hK => ?_)
    simp only [g4, g5, g6]
    go_simp
    go_at_call 66
    refine hadd.mono ?_
    rintro e w5 ⟨rfl, h5, hf5⟩
    have HE : Hid (RdB w5 q (m + 3) (fun _ _ => True) k' (putL s (alikeL q.L.ord cs)) ∧ Fr w w5 (BY q)) := Lib.hid ⟨h5, (BX.all q HF4.out).trans hf5⟩
    have HS5 : Hid ((fun W : World => W.cell? ⟨q.R, 5, none⟩ = some (.pointer (some ⟨q.T, 0, none⟩))) w5) := Lib.hid h5.cell5
    clear hadd h5 hf5
    refine hK.out _ _ HS5.out (fun hS => ?_)
    clear hK hS
    try simp only [Act.put, g1, g2, g3, g4, g5, g6]
    refine wpAnyH_done (by kernel_rfl) ?_ _
    go_wp2
    go_end0
    exact BOut.ok HV1.out ⟨rfl, HE.out.1.up (by omega), HE.out.2⟩
  | false =>
   rw [hb2] at h2
   change RdB w2 q m hi k s at h2
   have HV := Lib.hid (item_elems (L := q.L) (s := s) hb hb2)
   have hel := elementsB_any w2 q m hi k s h2 ⟨HQ.out.l, HQ.out.r, HQ.out.c, by have := HQ.out.m; omega⟩ HS.out
   clear htk2 h2 hf2 hb hb2
   cases hn : elemsB q.L q.l s k with
   | error er =>
    rw [hn] at hel
    have HV1 : Hid (itemB q.L q.l s k = .error er) := Lib.hid (by rw [HV.out, hn])
    clear hn
    unfold BOut at hel
    simp only at hel
    go_wp2_with fail
    refine hel.mono ?_
    rintro e w3 ⟨rfl, hb3⟩
    have HB := Lib.hid (hb3.behind (BX.all q HF2.out))
    clear hel hb3
    go_wp2
    exact ⟨rfl, BOut.bad HV1.out ⟨rfl, HB.out.up (by omega)⟩⟩
   | ok p =>
    obtain ⟨s', k'⟩ := p
    rw [hn] at hel
    have HV1 : Hid (itemB q.L q.l s k = .ok (s', k')) := Lib.hid (by rw [HV.out, hn])
    clear hn
    unfold BOut at hel
    simp only at hel
    go_wp2_with fail
    refine hel.mono ?_
    rintro e w3 ⟨rfl, h3, hf3⟩
    have HE : Hid (RdB w3 q (m + 7) (fun _ _ => True) k' s' ∧ Fr w w3 (BY q)) := Lib.hid ⟨h3, (BX.all q HF2.out).trans hf3⟩
    clear hel h3 hf3
    go_wp2
    go_end0
    exact BOut.ok HV1.out ⟨rfl, HE.out.1.up (by omega), HE.out.2⟩
end Go.Proofs.YthgiikhkcpbpfaaGreatDoor.C
