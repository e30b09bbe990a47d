/-
  The statements' table, of choices or plain. Condition: a row of bytes; what is asked of the listed variables (Gm).
-/
import Derived.Test.YthgiikhkcpbpfaaGreatDoorQBaU
namespace Go.Proofs.YthgiikhkcpbpfaaGreatDoor.C
open Go.RowKit

def locG (p : Bool) (zs : List Int) : Loc := if p then plainLoc else genL zs
theorem locG_right {p : Bool} {zs : List Int} (h : Byt zs) : rightL (locG p zs) = true := by
 cases p
 ·exact genL_right h
 ·exact plain_right
theorem locG_rs {p : Bool} {zs : List Int} : ∀ k ∈ (locG p zs).cls, k.rs.length ≤ 1000 := by
 cases p
 ·intro k hk
  have := (clsG_rs _ _ k hk).2
  omega
 ·exact plain_rs
theorem locG_new {p : Bool} {zs : List Int} (h : Byt zs) : NewOk (locG p zs) := by
 cases p
 ·exact genL_new zs h
 ·exact plain_new
theorem locG_nm {p : Bool} {zs : List Int} (h : Byt zs) : (∀ c ∈ (locG p zs).cls, c.name.length ≤ maxLen) ∧ ∀ e ∈ (locG p zs).ord, e.name.length ≤ maxLen := by
 cases p
 ·obtain ⟨_, g1, g2, _⟩ := genL_ok zs h
  exact ⟨fun c hc => by have := g1 c hc; unfold maxLen; omega, fun e he => by have := g2 e he; unfold maxLen; omega⟩
 ·exact ⟨plain_cls, plain_ord⟩
theorem LocAt.low {w : World} {lo lo' : Nat} {v1 v2 v3 v4 : Value} {l : Loc} (h : LocAt w lo v1 v2 v3 v4 l) (hb : lo' ≤ lo) : LocAt w lo' v1 v2 v3 v4 l := ⟨h.1.low hb, own_low h.2.1 hb, own_low h.2.2.1 hb, h.2.2.2.low hb⟩
set_option maxRecDepth 100000 in
set_option maxHeartbeats 1000000 in
theorem table_l (w : World) (hG : Gm w) (Bx : Nat) (Ax : Option Addr) (n cx : Nat) (zs : List Int) (p : Bool) (l : Loc) (hl : l = locG p zs) (hx : RI .u8 w Bx Ax n zs) (hBx : Bx ≤ w.heap.size) (hz : Byt zs) (hn : n ≤ maxLen) :
  Calls Tryz.prog 8 #[.slice Ax n cx, .bool p] w fun e w' => ∃ T u1 u2 u3 u4, e = .returned (.tuple #[.pointer (some ⟨T, 0, none⟩), .agg #[u1, u2, u3, u4]]) ∧ LocR w' T u1 u2 u3 u4 l ∧ w.heap.size ≤ T ∧ TabU T w' T l 0 ∧ Below w.heap.size w w' := by
 obtain ⟨z0, hz0⟩ : ∃ z0, z0 = w.alloc (.cells #[.slice none 0 0, .slice none 0 0, .slice none 0 0, .slice none 0 0] 27) := ⟨_, rfl⟩
 have hb0 : Below w.heap.size w z0 := by rw [hz0]; exact below_new _ _
 have hs0 : z0.heap.size = w.heap.size + 1 := by rw [hz0]; simp
 have hk0 : LocZ z0 w.heap.size (.slice none 0 0) (.slice none 0 0) (.slice none 0 0) (.slice none 0 0) := by rw [hz0]; exact heap_alloc_new w _
 have hlo := locale_any z0 z0.heap.size Ax n cx zs ((hx.below (hb0.mono hBx)).more (by omega)) (Nat.le_refl _) hz hn
 have HG := Lib.hid hG
 have HB0 := Lib.hid hb0
 have HS0 := Lib.hid hs0
 have HK0 := Lib.hid hk0
 have HZ := Lib.hid hz
 have HL0 := Lib.hid hl
 clear hG hb0 hs0 hk0 hx hz hl
 go_enter Tryz.func8, Tryz.ntmps8
 go_wp2_with fail
 rw [← hz0]
 clear hz0
 refine hlo.mono ?_
 rintro e w1 ⟨v1, v2, v3, v4, rfl, hL, hb1⟩
 obtain ⟨S, hS⟩ : ∃ S, S = w.heap.size := ⟨_, rfl⟩
 obtain ⟨P, hP⟩ : ∃ P, P = w1.heap.size := ⟨_, rfl⟩
 obtain ⟨⟨A1, c1, x1, rfl, -⟩, ⟨A2, c2, rfl, -⟩, ⟨A3, c3, rfl, -⟩, ⟨A4, c4, x4, rfl, -⟩, -⟩ := id (genL_locR HZ.out hL)
 obtain ⟨w2, hw2⟩ : ∃ w2, w2 = w1.alloc (.cells #[.slice A1 (genL zs).cls.length c1, .slice A2 (genL zs).up.length c2, .slice A3 (genL zs).lo.length c3, .slice A4 (genL zs).ord.length c4] 27) := ⟨_, rfl⟩
 have hb2 : Below w1.heap.size w1 w2 := by rw [hw2]; exact below_new _ _
 have hs2 : w2.heap.size = w1.heap.size + 1 := by rw [hw2]; simp
 have hk2 : LocZ w2 P (.slice A1 (genL zs).cls.length c1) (.slice A2 (genL zs).up.length c2) (.slice A3 (genL zs).lo.length c3) (.slice A4 (genL zs).ord.length c4) := by rw [hw2, hP]; exact heap_alloc_new w1 _
 have HB2 : Hid (Below w.heap.size w w2) := Lib.hid (HB0.out.trans ((hb1.mono HB0.out.size).trans (hb2.mono (by have := HB0.out.size; have := hb1.size; omega))))
 have HK2 := Lib.hid hk2
 have HS2 : Hid (w2.heap.size = P + 1 ∧ S < P ∧ S = w.heap.size) := Lib.hid ⟨by rw [hs2, hP], by have := hb1.size; have := HS0.out; omega, hS⟩
 have hk1 : LocZ w2 S (.slice none 0 0) (.slice none 0 0) (.slice none 0 0) (.slice none 0 0) := by
  have h1 : LocZ w1 w.heap.size _ _ _ _ := (hb1.block _ HK0.out.lt).trans HK0.out
  rw [hS]
  exact (hb2.block _ h1.lt).trans h1
 have HK1 := Lib.hid hk1
 have HL2 : Hid (LocAt w2 (S + 1) (.slice A1 (genL zs).cls.length c1) (.slice A2 (genL zs).up.length c2) (.slice A3 (genL zs).lo.length c3) (.slice A4 (genL zs).ord.length c4) (genL zs)) := Lib.hid ((hL.fr (X := fun _ => False) (.of_below hb2) (by rintro _ ⟨⟩)).low (by have := HS0.out; omega))
 clear hlo hL hb1 hb2 hs2 hk2 hk1
 go_upto_if 9 with fail
 rw [← hw2, ← hP, ← hS]
 clear hw2 hP hS
 go_cut [] (fun wx => Hid (∃ v1 v2 v3 v4, LocZ wx P v1 v2 v3 v4 ∧ LocZ wx S (.slice none 0 0) (.slice none 0 0) (.slice none 0 0) (.slice none 0 0) ∧ LocAt wx (S + 1) v1 v2 v3 v4 l ∧ Below S w wx))
 case first =>
  cases p
  ·go_wp2
   go_meet
   exact Lib.hid ⟨_, _, _, _, HK2.out, HK1.out, by rw [HL0.out]; exact HL2.out, by rw [HS2.out.2.2]; exact HB2.out⟩
  ·have hpl := plain08_any w2
   go_wp2_with fail
   refine hpl.mono ?_
   rintro e w3 ⟨u1, u2, u3, u4, rfl, hL, hb3⟩
   have hLR := LocR.of hL plain_cls plain_ord
   obtain ⟨⟨B1, d1, y1, rfl, -⟩, ⟨B2, d2, rfl, -⟩, ⟨B3, d3, rfl, -⟩, ⟨B4, d4, y4, rfl, -⟩, -⟩ := id hLR
   have hk3 : LocZ w3 P _ _ _ _ := (hb3.block _ HK2.out.lt).trans HK2.out
   have hk13 : LocZ w3 S _ _ _ _ := (hb3.block _ HK1.out.lt).trans HK1.out
   obtain ⟨z0, z1, z2, z3⟩ := hk3.cells
   have f0 := hk3.frozen 0
   have f1 := hk3.frozen 1
   have f2 := hk3.frozen 2
   have f3 := hk3.frozen 3
   obtain ⟨w4, hw4⟩ : ∃ w4, w4 = (((w3.setCell ⟨P, 0, none⟩ (.slice B1 plainLoc.cls.length d1)).setCell ⟨P, 1, none⟩ (.slice B2 plainLoc.up.length d2)).setCell ⟨P, 2, none⟩ (.slice B3 plainLoc.lo.length d3)).setCell ⟨P, 3, none⟩ (.slice B4 plainLoc.ord.length d4) := ⟨_, rfl⟩
   have hk4 : LocZ w4 P (.slice B1 plainLoc.cls.length d1) (.slice B2 plainLoc.up.length d2) (.slice B3 plainLoc.lo.length d3) (.slice B4 plainLoc.ord.length d4) := by
    rw [hw4]
    exact set_row (i := 3) (l := [_, _, _, _]) (set_row (i := 2) (l := [_, _, _, _]) (set_row (i := 1) (l := [_, _, _, _]) (set_row (i := 0) (l := [_, _, _, _]) hk3 _) _) _) _
   have hf34 : Fr w3 w4 (· = P) := by rw [hw4]; exact ((((Fr.refl w3 (· = P)).set ⟨P, 0, none⟩ _ (fun _ => rfl)).set ⟨P, 1, none⟩ _ (fun _ => rfl)).set ⟨P, 2, none⟩ _ (fun _ => rfl)).set ⟨P, 3, none⟩ _ (fun _ => rfl)
   have hPl : P < w2.heap.size := by have := HS2.out; omega
   have HE : Hid (∃ v1 v2 v3 v4, LocZ w4 P v1 v2 v3 v4 ∧ LocZ w4 S (.slice none 0 0) (.slice none 0 0) (.slice none 0 0) (.slice none 0 0) ∧ LocAt w4 (S + 1) v1 v2 v3 v4 plainLoc ∧ Below S w w4) := by
    refine Lib.hid ⟨_, _, _, _, hk4, (hf34.block S hk13.lt (by have := HS2.out; omega)).trans hk13, (hL.fr hf34 (by rintro j rfl; exact hPl)).low (by have := HS2.out; omega), ?_⟩
    have h1 : Below S w w3 := by have := HS2.out; rw [this.2.2]; exact HB2.out.trans (hb3.mono HB2.out.size)
    exact h1.trans (hf34.below (by rintro j _ rfl; have := HS2.out; omega) (by have := h1.size; have := HS2.out; omega))
   clear hpl hLR hL hb3 hk3 hk13 hk4 hf34 hPl
   go_wp2
   rw [← hw4]
   clear hw4 z0 z1 z2 z3 f0 f1 f2 f3
   go_meet
   rw [show l = plainLoc from HL0.out]
   exact HE
 case rest =>
  obtain ⟨u1, u2, u3, u4, hk4, hS4, hL4, hb4⟩ := hcut.out
  have HR : Hid (rightL l = true) := Lib.hid (by rw [HL0.out]; exact locG_right HZ.out)
  have HN : Hid (NewOk l) := Lib.hid (by rw [HL0.out]; exact locG_new HZ.out)
  have HM : Hid ((∀ c ∈ l.cls, c.name.length ≤ maxLen) ∧ ∀ e ∈ l.ord, e.name.length ≤ maxLen) := Lib.hid (by rw [HL0.out]; exact locG_nm HZ.out)
  have hLR := LocR.of hL4 HM.out.1 HM.out.2
  obtain ⟨⟨B1, d1, y1, rfl, -⟩, ⟨B2, d2, rfl, -⟩, ⟨B3, d3, rfl, -⟩, ⟨B4, d4, y4, rfl, -⟩, -⟩ := id hLR
  generalize wc = w4 at *
  have HL4 := Lib.hid hL4
  have HS4 := Lib.hid hS4
  have HK4 := Lib.hid hk4
  have HB4 := Lib.hid hb4
  clear hcut hL4 hS4 hk4 hb4 hLR HL0 HK0 HB0 HS0 HK1 HK2 HL2 HB2 HZ
  obtain ⟨wd, hwd⟩ : ∃ wd, wd = w4.drew := ⟨_, rfl⟩
  have HKD : Hid (LocZ wd P (.slice B1 l.cls.length d1) (.slice B2 l.up.length d2) (.slice B3 l.lo.length d3) (.slice B4 l.ord.length d4)) := Lib.hid (by rw [hwd]; exact HK4.out)
  have HSD : Hid (LocZ wd S (.slice none 0 0) (.slice none 0 0) (.slice none 0 0) (.slice none 0 0)) := Lib.hid (by rw [hwd]; exact HS4.out)
  have HBD : Hid (Below S w wd) := Lib.hid (by rw [hwd]; exact below_drew HB4.out)
  have HLD : Hid (LocAt wd (S + 1) (.slice B1 l.cls.length d1) (.slice B2 l.up.length d2) (.slice B3 l.lo.length d3) (.slice B4 l.ord.length d4) l) := Lib.hid (by rw [hwd]; exact HL4.out.fr (X := fun _ => False) (.of_below (below_drew (Below.refl _ _))) (by rintro _ ⟨⟩))
  have hLRd : LocR wd wd.heap.size (.slice B1 l.cls.length d1) (.slice B2 l.up.length d2) (.slice B3 l.lo.length d3) (.slice B4 l.ord.length d4) l := LocR.of HLD.out HM.out.1 HM.out.2
  have hn := new_yes wd wd.heap.size _ _ _ _ l hLRd (Nat.le_refl _) (HG.out.next (by have := HBD.out; have h := HS2.out; rw [h.2.2] at this; exact this)) HR.out HN.out
  have HWD := Lib.hid hwd
  clear hwd hLRd
  go_wp2
  refine wp_region_E (S := fun W => W.cell? ⟨P, 0, none⟩ = some (.slice B1 l.cls.length d1) ∧ W.cell? ⟨P, 1, none⟩ = some (.slice B2 l.up.length d2) ∧ W.cell? ⟨P, 2, none⟩ = some (.slice B3 l.lo.length d3) ∧ W.cell? ⟨P, 3, none⟩ = some (.slice B4 l.ord.length d4)) (L := 4) (by kernel_rfl) ?_
  rw [← HWD.out]
  have hS1 : (fun W : World => W.cell? ⟨P, 0, none⟩ = some (.slice B1 l.cls.length d1) ∧ W.cell? ⟨P, 1, none⟩ = some (.slice B2 l.up.length d2) ∧ W.cell? ⟨P, 2, none⟩ = some (.slice B3 l.lo.length d3) ∧ W.cell? ⟨P, 3, none⟩ = some (.slice B4 l.ord.length d4)) wd := HKD.out.cells
  clear HWD
  iterate 1 (refine wpE rfl rfl ?_; try simp only [Act.put, g1, g2, g3, g4, g6])
  refine wpEn 2 rfl ?_
  try simp only [Act.put, g1, g2, g3, g4, g5, g6]
  clear hS1
  refine wpAnyE_one (i := 1) (by kernel_rfl) rfl (fun K hK => ?_)
  simp only [g4, g5, g6]
  go_simp
  go_at_call 17
  refine hn.mono ?_
  rintro e w5 ⟨T, rfl, hT, ht, hb5, hlast⟩
  have HLAST := Lib.hid (hlast S)
  have HSl : Hid (S < wd.heap.size) := Lib.hid HSD.out.lt
  have HK5 : Hid (LocZ w5 P (.slice B1 l.cls.length d1) (.slice B2 l.up.length d2) (.slice B3 l.lo.length d3) (.slice B4 l.ord.length d4)) := Lib.hid ((hb5.block _ HKD.out.lt).trans HKD.out)
  have HS5 : Hid (LocZ w5 S (.slice none 0 0) (.slice none 0 0) (.slice none 0 0) (.slice none 0 0)) := Lib.hid ((hb5.block _ HSD.out.lt).trans HSD.out)
  have hSl := HSD.out.lt
  have HB5 : Hid (Below S w w5) := Lib.hid (HBD.out.trans (hb5.mono (by omega)))
  have HT5 : Hid (wd.heap.size ≤ T ∧ TabG T w5 T l 0) := Lib.hid ⟨hT, ht⟩
  have HF5 : Hid (Fr wd w5 (· = S)) := Lib.hid (.of_below hb5)
  clear hn hT ht hb5 hlast
  refine hK.out _ _ (fun _ => HK5.out.cells) (fun hS => ?_)
  clear hK
  try simp only [Act.put, g1, g2, g3, g4, g5, g6]
  replace hS := hS (by decide)
  refine wpAnyE_one (i := 3) (by kernel_rfl) rfl (fun K hK => ?_)
  simp only [g4, g5, g6]
  go_simp
  refine hK.out _ _ (fun _ => HK5.out.cells) (fun hS => ?_)
  clear hK hS
  try simp only [Act.put, g1, g2, g3, g4, g5, g6]
  obtain ⟨z0, z1, z2, z3⟩ := HS5.out.cells
  have f0 := HS5.out.frozen 0
  have f1 := HS5.out.frozen 1
  have f2 := HS5.out.frozen 2
  have f3 := HS5.out.frozen 3
  refine wpAnyE_one (i := 4) (by kernel_rfl) rfl (fun K hK => ?_)
  simp only [g4, g5, g6]
  go_simp
  obtain ⟨w6, hw6⟩ : ∃ w6, w6 = (((w5.setCell ⟨S, 0, none⟩ (.slice B1 l.cls.length d1)).setCell ⟨S, 1, none⟩ (.slice B2 l.up.length d2)).setCell ⟨S, 2, none⟩ (.slice B3 l.lo.length d3)).setCell ⟨S, 3, none⟩ (.slice B4 l.ord.length d4) := ⟨_, rfl⟩
  rw [← hw6]
  refine hK.out _ _ (fun h => absurd rfl h) (fun _ => ?_)
  refine wpAnyE_done (by kernel_rfl) ?_ _
  have hk6 : LocZ w6 S (.slice B1 l.cls.length d1) (.slice B2 l.up.length d2) (.slice B3 l.lo.length d3) (.slice B4 l.ord.length d4) := by
   rw [hw6]
   exact set_row (i := 3) (l := [_, _, _, _]) (set_row (i := 2) (l := [_, _, _, _]) (set_row (i := 1) (l := [_, _, _, _]) (set_row (i := 0) (l := [_, _, _, _]) HS5.out _) _) _) _
  have hf56 : Fr w5 w6 (· = S) := by rw [hw6]; exact ((((Fr.refl w5 (· = S)).set ⟨S, 0, none⟩ _ (fun _ => rfl)).set ⟨S, 1, none⟩ _ (fun _ => rfl)).set ⟨S, 2, none⟩ _ (fun _ => rfl)).set ⟨S, 3, none⟩ _ (fun _ => rfl)
  have hfin : LocR w6 T (.slice B1 l.cls.length d1) (.slice B2 l.up.length d2) (.slice B3 l.lo.length d3) (.slice B4 l.ord.length d4) l ∧ TabU T w6 T l 0 ∧ Below w.heap.size w w6 := by
   refine ⟨(HLD.out.turned (HF5.out.trans hf56) (by omega) (by have := HSl.out; omega) HM.out.1 HM.out.2).more HT5.out.1, ⟨0, Int.le_refl _, by omega, HLAST.out w6 HSl.out hf56⟩, ?_⟩
   have h1 := HB5.out.trans (hf56.below (B := S) (by rintro j _ rfl; exact Nat.le_refl _) (by have := HB5.out.size; have := HS2.out; omega))
   have h := HS2.out
   rwa [h.2.2] at h1
  have HE : Hid (LocR w6 T (.slice B1 l.cls.length d1) (.slice B2 l.up.length d2) (.slice B3 l.lo.length d3) (.slice B4 l.ord.length d4) l ∧ w.heap.size ≤ T ∧ TabU T w6 T l 0 ∧ Below w.heap.size w w6) := Lib.hid ⟨hfin.1, by have := HT5.out; have := HS2.out; have := HSl.out; have := HBD.out.size; omega, hfin.2⟩
  obtain ⟨y0, y1, y2, y3⟩ := hk6.cells
  clear hfin hf56 hk6 z0 z1 z2 z3 f0 f1 f2 f3 hw6 hK
  go_wp2
  refine bodyPost_ret (v := .tuple #[.pointer (some ⟨T, 0, none⟩), .agg #[.slice B1 l.cls.length d1, .slice B2 l.up.length d2, .slice B3 l.lo.length d3, .slice B4 l.ord.length d4]]) (by simp [results, Tryz.results8, go_sem, y0, y1, y2, y3]) rfl ⟨T, _, _, _, _, rfl, HE.out⟩
theorem table_any (w : World) (hG : Gm w) (Bx : Nat) (Ax : Option Addr) (n cx : Nat) (zs : List Int) (p : Bool) (hx : RI .u8 w Bx Ax n zs) (hBx : Bx ≤ w.heap.size) (hz : Byt zs) (hn : n ≤ maxLen) :
  Calls Tryz.prog 8 #[.slice Ax n cx, .bool p] w fun e w' => ∃ T u1 u2 u3 u4, e = .returned (.tuple #[.pointer (some ⟨T, 0, none⟩), .agg #[u1, u2, u3, u4]]) ∧ LocR w' T u1 u2 u3 u4 (locG p zs) ∧ w.heap.size ≤ T ∧ TabU T w' T (locG p zs) 0 ∧ Below w.heap.size w w' :=
 table_l w hG Bx Ax n cx zs p _ rfl hx hBx hz hn
end Go.Proofs.YthgiikhkcpbpfaaGreatDoor.C
