/-
  Contracts of the document's Same and of the statements' decodes: what Decode answers is what the document's answers. Condition: the decoder's two tables stand as they were laid.
-/
import Derived.Test.YtijlecfjgcohhaaDoorCdcO
namespace Go.Proofs.YtijlecfjgcohhaaDoor.C
open Go.RowKit

set_option maxRecDepth 100000 in
set_option maxHeartbeats 1000000 in
theorem docSame_yes (w : World) (k : Int) (big bom : Bool) (Bx By : Nat) (Ax Ay : Option Addr) (n cx m cy : Nat) (xs : List Int) (hx : RI .i32 w Bx Ax n xs) (hy : RI .i32 w By Ay m xs) (hBx : Bx ≤ w.heap.size) (hBy : By ≤ w.heap.size) (hn : n ≤ 1073741824) (hm : m ≤ 1073741824) :
    Calls Tryd.prog 18 #[.agg #[.int .u8 k, .bool big, .bool bom, .slice Ax n cx], .agg #[.int .u8 k, .bool big, .bool bom, .slice Ay m cy]] w fun e w' => e = .returned (.bool true) ∧ Below w.heap.size w w' := by
  obtain ⟨W, hW⟩ : ∃ W, W = (w.alloc (.cells #[.int .u8 k, .bool big, .bool bom, .slice Ax n cx] 26)).alloc (.cells #[.int .u8 k, .bool big, .bool bom, .slice Ay m cy] 26) := ⟨_, rfl⟩
  have hbW : Below w.heap.size w W := by rw [hW]; exact ((Below.refl _ w).alloc (Nat.le_refl _) _).alloc (by simp) _
  have HX := Lib.hid (hx.on hbW hBx)
  have HY := Lib.hid (hy.on hbW hBy)
  have tk : (k == k) = true := by simp
  have tb : (big == big) = true := by simp
  have tm : (bom == bom) = true := by simp
  clear hx hy
  go_enter Tryd.func18, Tryd.ntmps18
  go_wp2_with fail
  rw [← hW]
  clear hW
  with_reducible refine (same_yes W Bx By Ax Ay n cx m cy xs xs rfl HX.out HY.out (by unfold maxLen; omega) (by unfold maxLen; omega)).mono ?_
  rintro e w2 ⟨rfl, q, rfl⟩
  go_wp2
  go_ret
  exact ⟨rfl, below_drewN hbW q⟩

set_option maxRecDepth 100000 in
set_option maxHeartbeats 2000000 in
theorem decodes_three (k : Int) (hk : k = 1 ∨ k = 2 ∨ k = 3) (w : World) (B : Nat) (A : Option Addr) (n c : Nat) (zs : List Int) (hx : RI .u8 w B A n zs) (hB : B ≤ w.heap.size) (hz : Bd zs) (hnc : n ≤ c) (hn : n ≤ 1073741824) (hc : c ≤ maxLen) (hT : Lib.Utf8Tabs 0 1 w) :
    Calls Tryd.prog 14 #[.int .u8 k, .slice A n c] w fun e w' => e = .returned (.bool true) ∧ Below w.heap.size w w' := by
  have HX := Lib.hid hx
  have HZ := Lib.hid hz
  have hlen := hx.len
  clear hx hz
  go_enter Tryd.func14, Tryd.ntmps14
  go_wp2_with fail
  with_reducible refine (decodeC_any k hk w B A n c zs HX.out hB HZ.out hnc hn hc hT).mono ?_
  rintro e w1 ⟨A1, m1, c1, rfl, hm1, h1c, h1m, hr1, hb1⟩
  have hs1 := hb1.size
  obtain ⟨V1, hV1⟩ : ∃ V, V = w1.alloc (.cells #[.int .u8 k, .bool (bigB k zs), .bool (bomB k zs), .slice A1 m1 c1] 26) := ⟨_, rfl⟩
  have hbV1 : Below w1.heap.size w1 V1 := by rw [hV1]; exact (Below.refl _ _).alloc (Nat.le_refl _) _
  have hsV1 : V1.heap.size = w1.heap.size + 1 := by rw [hV1]; simp
  have hcV : ∀ j, V1.cell? ⟨w1.heap.size, j, none⟩ = (#[Value.int .u8 k, .bool (bigB k zs), .bool (bomB k zs), .slice A1 m1 c1] : Array Value)[j]? := fun j => by rw [hV1]; exact World.cell?_alloc_new _ _ _ _
  have HR1 := Lib.hid (hr1.on hbV1 (Nat.le_refl _))
  have B1 : Below w.heap.size w V1 := hb1.trans (hbV1.mono hs1)
  have HXV := Lib.hid (HX.out.on B1 hB)
  clear hr1
  go_wp2_with fail
  rw [← hV1]
  clear hV1
  with_reducible refine (rdec_any k hk V1 B A n c zs HXV.out (by omega) HZ.out hnc hn hc).mono ?_
  rintro e w2 ⟨A2, m2, c2, rfl, hm2, h2c, h2m, hr2, hb2⟩
  have hs2 := hb2.size
  have e0 := (hb2.cell (p := ⟨w1.heap.size, 0, none⟩) (by show w1.heap.size < _; omega)).trans (hcV 0)
  have e1 := (hb2.cell (p := ⟨w1.heap.size, 1, none⟩) (by show w1.heap.size < _; omega)).trans (hcV 1)
  have e2 := (hb2.cell (p := ⟨w1.heap.size, 2, none⟩) (by show w1.heap.size < _; omega)).trans (hcV 2)
  have e3 := (hb2.cell (p := ⟨w1.heap.size, 3, none⟩) (by show w1.heap.size < _; omega)).trans (hcV 3)
  have hl : w1.heap.size < w2.heap.size := by omega
  obtain ⟨V2, hV2⟩ : ∃ V, V = w2.alloc (.cells #[.int .u8 k, .bool (bigB k zs), .bool (bomB k zs), .slice A2 m2 c2] 26) := ⟨_, rfl⟩
  have hbV2 : Below w2.heap.size w2 V2 := by rw [hV2]; exact (Below.refl _ _).alloc (Nat.le_refl _) _
  have hsV2 := hbV2.size
  have HR2 := Lib.hid (hr2.on hbV2 (Nat.le_refl _))
  have HR1' := Lib.hid ((HR1.out.on hb2 (by omega)).on hbV2 (by omega))
  have B2 : Below w.heap.size w V2 := (B1.trans (hb2.mono (by omega))).trans (hbV2.mono (by omega))
  clear hr2 hcV
  go_wp2_with fail
  rw [← hV2]
  clear hV2
  with_reducible refine (docSame_yes V2 k (bigB k zs) (bomB k zs) w1.heap.size w2.heap.size A1 A2 m1 c1 m2 c2 (cellsD k zs) HR1'.out HR2.out (by omega) hsV2 (by omega) (by omega)).mono ?_
  rintro e w3 ⟨rfl, hb3⟩
  go_wp2
  go_ret
  exact ⟨rfl, B2.trans (hb3.mono B2.size)⟩

set_option maxRecDepth 100000 in
set_option maxHeartbeats 2000000 in
theorem decodes_none (k : Int) (h1 : k ≠ 1) (h2 : k ≠ 2) (h3 : k ≠ 3) (w : World) (A : Option Addr) (n c : Nat) :
    Calls Tryd.prog 14 #[.int .u8 k, .slice A n c] w fun e w' => e = .returned (.bool true) ∧ Below w.heap.size w w' := by
  go_enter Tryd.func14, Tryd.ntmps14
  go_wp2_with fail
  with_reducible refine (decodeC_none w k (.slice A n c) h1 h2 h3).mono ?_
  rintro e w1 ⟨rfl, hb1⟩
  have hs1 := hb1.size
  obtain ⟨V1, hV1⟩ : ∃ V, V = w1.alloc (.cells #[.int .u8 0, .bool false, .bool false, .slice none 0 0] 26) := ⟨_, rfl⟩
  have hbV1 : Below w1.heap.size w1 V1 := by rw [hV1]; exact (Below.refl _ _).alloc (Nat.le_refl _) _
  have hsV1 : V1.heap.size = w1.heap.size + 1 := by rw [hV1]; simp
  have hcV : ∀ j, V1.cell? ⟨w1.heap.size, j, none⟩ = (#[Value.int .u8 0, .bool false, .bool false, .slice none 0 0] : Array Value)[j]? := fun j => by rw [hV1]; exact World.cell?_alloc_new _ _ _ _
  have B1 : Below w.heap.size w V1 := hb1.trans (hbV1.mono hs1)
  go_wp2_with fail
  rw [← hV1]
  clear hV1
  with_reducible refine (rdec_none V1 k (.slice A n c) h1 h2 h3).mono ?_
  rintro e w2 ⟨rfl, hb2⟩
  have hs2 := hb2.size
  have e0 := (hb2.cell (p := ⟨w1.heap.size, 0, none⟩) (by show w1.heap.size < _; omega)).trans (hcV 0)
  have e1 := (hb2.cell (p := ⟨w1.heap.size, 1, none⟩) (by show w1.heap.size < _; omega)).trans (hcV 1)
  have e2 := (hb2.cell (p := ⟨w1.heap.size, 2, none⟩) (by show w1.heap.size < _; omega)).trans (hcV 2)
  have e3 := (hb2.cell (p := ⟨w1.heap.size, 3, none⟩) (by show w1.heap.size < _; omega)).trans (hcV 3)
  have hl : w1.heap.size < w2.heap.size := by omega
  obtain ⟨V2, hV2⟩ : ∃ V, V = w2.alloc (.cells #[.int .u8 0, .bool false, .bool false, .slice none 0 0] 26) := ⟨_, rfl⟩
  have hbV2 : Below w2.heap.size w2 V2 := by rw [hV2]; exact (Below.refl _ _).alloc (Nat.le_refl _) _
  have hsV2 := hbV2.size
  have B2 : Below w.heap.size w V2 := (B1.trans (hb2.mono (by omega))).trans (hbV2.mono (by omega))
  clear hcV
  go_wp2_with fail
  rw [← hV2]
  clear hV2
  with_reducible refine (docSame_yes V2 0 false false 0 0 none none 0 0 0 0 [] RI.none_ RI.none_ (by omega) (by omega) (by omega) (by omega)).mono ?_
  rintro e w3 ⟨rfl, hb3⟩
  go_wp2
  go_ret
  exact ⟨rfl, B2.trans (hb3.mono B2.size)⟩

theorem decodes_any (k : Int) (w : World) (B : Nat) (A : Option Addr) (n c : Nat) (zs : List Int) (hx : RI .u8 w B A n zs) (hB : B ≤ w.heap.size) (hz : Bd zs) (hnc : n ≤ c) (hn : n ≤ 1073741824) (hc : c ≤ maxLen) (hT : Lib.Utf8Tabs 0 1 w) :
    Calls Tryd.prog 14 #[.int .u8 k, .slice A n c] w fun e w' => e = .returned (.bool true) ∧ Below w.heap.size w w' := by
  by_cases h1 : k = 1
  · exact decodes_three k (.inl h1) w B A n c zs hx hB hz hnc hn hc hT
  by_cases h2 : k = 2
  · exact decodes_three k (.inr (.inl h2)) w B A n c zs hx hB hz hnc hn hc hT
  by_cases h3 : k = 3
  · exact decodes_three k (.inr (.inr h3)) w B A n c zs hx hB hz hnc hn hc hT
  exact decodes_none k h1 h2 h3 w A n c
end Go.Proofs.YtijlecfjgcohhaaDoor.C
