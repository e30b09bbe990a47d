/-
  The contract of the statements' known: the chapter's example holds; nothing that was there changes.
-/
import Derived.Test.YtlecioifjdmmmaaLnK
namespace Go.Proofs.Ytlecioifjdmmmaa.C
open Go.RowKit

set_option maxRecDepth 100000 in
set_option maxHeartbeats 2000000 in
theorem known_any (w : World) : Calls Try.prog 9 #[] w fun e w' => e = .returned (.bool true) ∧ Below w.heap.size w w' := by
  have hlit : ∀ (W : World), RI .i32 (W.alloc (.cells #[.int .i32 97, .int .i32 10, .int .i32 98] 25)) (W.heap.size + 1) (some ⟨W.heap.size, 0, none⟩) 3 [97, 10, 98] := fun W => RI.new W .i32 [97, 10, 98] 25
  go_enter Try.func9, Try.ntmps9
  go_wp2_with fail
  with_reducible refine (split_any _ (w.heap.size + 1) (some ⟨w.heap.size, 0, none⟩) 3 3 [97, 10, 98] (hlit w) (by simp) (by omega) (by unfold maxLen; omega) (by omega)).mono ?_
  rintro e w1 ⟨A1, n1, c1, rfl, h1c, h1m, hl1, hb1⟩
  have hb1' : Below w.heap.size w w1 := ((Below.refl _ w).alloc (Nat.le_refl _) _).trans (hb1.mono (by simp))
  have hs1 := hb1'.size
  obtain rfl : 2 = n1 := hl1.len
  obtain ⟨ad, x, Aj, nj, cj, hA, hbl, hx, hc0, hc1, hnc, hcm, hri⟩ := hl1.at2 (show 0 < 2 by omega)
  obtain ⟨bd, y, Bj, mj, dj, hA', hbl', hy, hd0, hd1, hmc, hdm, hrj⟩ := hl1.at2 (show 1 < 2 by omega)
  subst hA
  obtain rfl : ad = bd := Option.some.inj hA'
  obtain rfl : (([97], true) : List Int × Bool) = x := Option.some.inj hx
  obtain rfl : (([98], false) : List Int × Bool) = y := Option.some.inj hy
  obtain rfl : 1 = mj := hrj.len
  obtain ⟨cd, z, hcd, hcb, hz, hcz⟩ := hrj.at_ (show 0 < 1 by omega)
  subst hcd
  obtain rfl : (98 : Int) = z := Option.some.inj hz
  clear hx hy hz hA'
  simp only at hc1 hd1
  go_wp2_with fail
  have hnum : Calls Try.prog 16 #[.slice (some ⟨w1.heap.size, 0, none⟩) 3 3, .int .i64 2] (w1.alloc (.cells #[.int .i32 97, .int .i32 10, .int .i32 98] 25)) fun e w' => e = .returned (.tuple #[.int .i64 2, .int .i64 1]) ∧ Below (w1.alloc (.cells #[.int .i32 97, .int .i32 10, .int .i32 98] 25)).heap.size (w1.alloc (.cells #[.int .i32 97, .int .i32 10, .int .i32 98] 25)) w' := by
    have h := number_in _ (w1.heap.size + 1) (some ⟨w1.heap.size, 0, none⟩) 3 3 [97, 10, 98] (hlit w1) (by simp) (by omega) (by unfold maxLen; omega) (by omega) 2 (by omega)
    rw [show numP ([97, 10, 98].take 2) = (2, 1) from rfl] at h
    exact h
  with_reducible refine hnum.mono ?_
  rintro e w2 ⟨rfl, hb2⟩
  have hb2' : Below w1.heap.size w1 w2 := ((Below.refl _ w1).alloc (Nat.le_refl _) _).trans (hb2.mono (by simp))
  have hs2 := hb2'.size
  have hl2 := hl1.on hb2' (Nat.le_refl _)
  have a1 : w2.cell? ⟨ad.block, ad.off + 1, none⟩ = some (.bool true) := (hb2'.cell (p := ⟨ad.block, ad.off + 1, none⟩) hbl).trans hc1
  have a2 : w2.cell? ⟨ad.block, ad.off + 2, none⟩ = some (.slice (some cd) 1 dj) := (hb2'.cell (p := ⟨ad.block, ad.off + 2, none⟩) hbl).trans hd0
  have a3 : w2.cell? ⟨ad.block, ad.off + 2 + 1, none⟩ = some (.bool false) := (hb2'.cell (p := ⟨ad.block, ad.off + 2 + 1, none⟩) hbl).trans hd1
  have a4 : w2.cell? cd = some (.int .i32 98) := (hb2'.cell (p := cd) hcb).trans hcz
  clear hnum hb1 hb2 hc0 hc1 hd0 hd1 hri hrj hcz hl1
  go_wp2_with fail
  have hcnt : Calls Try.prog 10 #[.slice (some ⟨w2.heap.size, 0, none⟩) 3 3] (w2.alloc (.cells #[.int .i32 97, .int .i32 10, .int .i32 98] 25)) fun e w' => e = .returned (.int .i64 2) ∧ Below (w2.alloc (.cells #[.int .i32 97, .int .i32 10, .int .i32 98] 25)).heap.size (w2.alloc (.cells #[.int .i32 97, .int .i32 10, .int .i32 98] 25)) w' := by
    have h := count_any _ (w2.heap.size + 1) (some ⟨w2.heap.size, 0, none⟩) 3 3 [97, 10, 98] (hlit w2) (by simp) (by omega) (by unfold maxLen; omega) (by omega)
    rw [show (splitL [97, 10, 98]).length = 2 from rfl] at h
    exact h
  with_reducible refine hcnt.mono ?_
  rintro e w3 ⟨rfl, hb3⟩
  have hb3' : Below w2.heap.size w2 w3 := ((Below.refl _ w2).alloc (Nat.le_refl _) _).trans (hb3.mono (by simp))
  have hs3 := hb3'.size
  have hl3 := hl2.on hb3' hs2
  have B3 : Below w.heap.size w w3 := (hb1'.trans (hb2'.mono hs1)).trans (hb3'.mono (by omega))
  clear hcnt hb3 a1 a2 a3 a4
  go_wp2_with fail
  have hjn : Calls Try.prog 14 #[.slice (some ad) 2 c1] w3 fun e w' => ∃ v, e = .returned v ∧ w'.ownsRow w3.heap.size 25 1 v 3 ([97, 10, 98].map (Value.int .i32)) ∧ Below w3.heap.size w3 w' :=
    join_any w3 w1.heap.size (some ad) 2 c1 (splitL [97, 10, 98]) hl3 (by omega) (by omega) (by rw [join_split]; simp)
  with_reducible refine hjn.mono ?_
  rintro e w4 ⟨v4, rfl, hown4, hb4⟩
  obtain ⟨A4, c4, rfl, _, _, _⟩ := own_slice2 hown4
  have hB4 := B3.trans (hb4.mono B3.size)
  clear hjn hown4 hb4
  go_wp2
  go_ret
  exact ⟨rfl, hB4⟩
end Go.Proofs.Ytlecioifjdmmmaa.C
