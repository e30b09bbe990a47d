/-
  Contract of known, the chapter's examples: true wherever the decoder's two tables stand as they were laid; nothing that was there changes.
-/
import Derived.Test.YtijlecfjgcohhaaDoorCdcK
namespace Go.Proofs.YtijlecfjgcohhaaDoor.C
open Go.RowKit

theorem kn_big : bigB 2 [255, 254, 97, 0] = false := by decide +kernel
theorem kn_bom : bomB 2 [255, 254, 97, 0] = true := by decide +kernel
theorem kn_cells : cellsD 2 [255, 254, 97, 0] = [97] := by decide +kernel
theorem kn_err : errE 3 false false [256] = 11 := by decide +kernel
theorem kn_named1 : namedZ ⟨#[108, 97, 116, 105, 110, 49]⟩ = 3 := by decide +kernel
theorem kn_named2 : namedZ ⟨#[120]⟩ = 0 := by decide +kernel
theorem kn_bd : Bd [255, 254, 97, 0] := by intro z hz; revert z; decide

set_option maxRecDepth 100000 in
set_option maxHeartbeats 4000000 in
theorem known_any (w : World) (hT : Lib.Utf8Tabs 0 1 w) :
    Calls Tryd.prog 9 #[] w fun e w' => e = .returned (.bool true) ∧ Below w.heap.size w w' := by
  obtain ⟨W, hW⟩ : ∃ W, W = w.alloc (.cells #[.int .u8 255, .int .u8 254, .int .u8 97, .int .u8 0] 5) := ⟨_, rfl⟩
  have hbW : Below w.heap.size w W := by rw [hW]; exact (Below.refl _ w).alloc (Nat.le_refl _) _
  have hsW : W.heap.size = w.heap.size + 1 := by rw [hW]; simp
  have hmk : RI .u8 W (w.heap.size + 1) (some ⟨w.heap.size, 0, none⟩) 4 [255, 254, 97, 0] := by rw [hW]; exact RI.new w .u8 [255, 254, 97, 0] _
  have HM := Lib.hid hmk
  have HT := Lib.hid (tabs_below hT hbW)
  clear hmk hT
  go_enter Tryd.func9, Tryd.ntmps9
  go_wp2_with fail
  rw [← hW]
  clear hW
  with_reducible refine (decodeC_any 2 (.inr (.inl rfl)) W (w.heap.size + 1) (some ⟨w.heap.size, 0, none⟩) 4 4 [255, 254, 97, 0] HM.out (by omega) kn_bd (by omega) (by omega) (by decide) HT.out).mono ?_
  rintro e w1 ⟨A1, m1, c1, rfl, _, h1c, h1m, hr1, hb1⟩
  rw [kn_big, kn_bom]
  rw [kn_cells] at hr1
  obtain rfl : m1 = 1 := hr1.len.symm
  obtain ⟨ad, u, rfl, hbl, hu, hcell⟩ := hr1.at_ (k := 0) (by omega)
  obtain rfl : u = 97 := by simpa using hu.symm
  have hs1 := hb1.size
  have hb1' : Below w.heap.size w w1 := hbW.trans (hb1.mono (by omega))
  clear hu hr1 HM
  obtain ⟨W2, hW2⟩ : ∃ W2, W2 = (w1.alloc (.cells #[.int .u8 2, .bool false, .bool true, .slice (some ad) 1 c1] 26)).alloc (.cells #[.int .i32 256] 35) := ⟨_, rfl⟩
  have hbW2 : Below w1.heap.size w1 W2 := by rw [hW2]; exact ((Below.refl _ w1).alloc (Nat.le_refl _) _).alloc (by simp) _
  have hsW2 : W2.heap.size = w1.heap.size + 2 := by rw [hW2]; simp
  have hblk : W2.heap[w1.heap.size]? = (w1.alloc (.cells #[.int .u8 2, .bool false, .bool true, .slice (some ad) 1 c1] 26)).heap[w1.heap.size]? := by rw [hW2]; exact Below.heap_alloc _ _ _ (by simp)
  have hcl : ∀ j, W2.cell? ⟨w1.heap.size, j, none⟩ = (#[Value.int .u8 2, .bool false, .bool true, .slice (some ad) 1 c1] : Array Value)[j]? := fun j => (World.cell?_of_block (a := ⟨w1.heap.size, j, none⟩) hblk).trans (World.cell?_alloc_new _ _ _ _)
  have hmk : RI .i32 W2 (w1.heap.size + 2) (some ⟨w1.heap.size + 1, 0, none⟩) 1 [256] := by
    have := RI.new (w1.alloc (.cells #[.int .u8 2, .bool false, .bool true, .slice (some ad) 1 c1] 26)) .i32 [256] 35
    rw [hW2]
    simpa using this
  have HM := Lib.hid hmk
  clear hmk hblk
  go_wp2_with fail
  rw [← hW2]
  clear hW2
  with_reducible refine (encodeC_any W2 3 (w1.heap.size + 2) (some ⟨w1.heap.size + 1, 0, none⟩) 1 1 [256] false false HM.out (by omega) (by omega)).mono ?_
  rintro e w3 ⟨A3, m3, c3, rfl, _, _, _, hb3⟩
  rw [kn_err]
  have hs3 := hb3.size
  have hb3' : Below w1.heap.size w1 w3 := hbW2.trans (hb3.mono (by omega))
  go_wp2_with fail
  with_reducible refine (decodeC_none w3 0 (.slice none 0 0) (by decide) (by decide) (by decide)).mono ?_
  rintro e w4 ⟨rfl, hb4⟩
  have hs4 := hb4.size
  have g := fun j (hj : w1.heap.size < w3.heap.size) => ((hb4.cell (p := ⟨w1.heap.size, j, none⟩) hj).trans ((hb3.cell (p := ⟨w1.heap.size, j, none⟩) (by show w1.heap.size < _; omega)).trans (hcl j)))
  have g1 := g 1 (by omega)
  have g2 := g 2 (by omega)
  have g3 := g 3 (by omega)
  have ga : w4.cell? (ad.add 0) = some (.int .i32 97) := (hb4.cell (p := ad.add 0) (by rw [block_of_add]; omega)).trans ((hb3'.cell (p := ad.add 0) (by rw [block_of_add]; exact hbl)).trans hcell)
  have l4 : w1.heap.size < w4.heap.size := by omega
  have la : ad.block < w4.heap.size := by omega
  have hbA : Below w.heap.size w w4 := hb1'.trans ((hb3'.mono (by omega)).trans (hb4.mono (by omega)))
  have hz := hbA.size
  clear g hcl hcell
  have ga' : ∀ o, (w4.alloc o).cell? ad = some (.int .i32 97) := fun o => by
    have e : ad.add 0 = ad := by unfold Addr.add; split <;> simp_all
    rw [World.cell?_alloc_lt w4 o ad la, ← e]
    exact ga
  clear ga
  go_wp2_with fail
  with_reducible refine (named_any ⟨#[108, 97, 116, 105, 110, 49]⟩ _).mono ?_
  rintro e w5 ⟨rfl, hb5⟩
  rw [kn_named1]
  clear g1 g2 g3 ga'
  go_wp2_with fail
  with_reducible refine (named_any ⟨#[120]⟩ w5).mono ?_
  rintro e w6 ⟨rfl, hb6⟩
  rw [kn_named2]
  go_wp2
  go_ret
  have h5 := hb5.size
  simp at h5
  exact ⟨rfl, (hbA.alloc hz _).trans ((hb5.mono (by simp; omega)).trans (hb6.mono (by omega)))⟩
end Go.Proofs.YtijlecfjgcohhaaDoor.C
