/-
  The walk of LinesPlaces: for every choice of cells it returns true; nothing that was there changes. No condition.
-/
import Derived.Test.YtlecioifjdmmmaaLnQ
namespace Go.Proofs.Ytlecioifjdmmmaa.C
open Go.RowKit

theorem number_is (w : World) (B : Nat) (A : Option Addr) (m c : Nat) (zs : List Int) (hx : RI .i32 w B A m zs) (hB : B ≤ w.heap.size) (hmc : m ≤ c) (hc : c ≤ maxLen) (hm : m ≤ 1073741824) (at_ : Int) (k : Nat) (hk : k ≤ m) (ha : at_ = (k : Int)) (p q : Int) (hp : (((numP (zs.take k)).1 : Nat) : Int) = p) (hq : (((numP (zs.take k)).2 : Nat) : Int) = q) :
    Calls Try.prog 16 #[.slice A m c, .int .i64 at_] w fun e w' => e = .returned (.tuple #[.int .i64 p, .int .i64 q]) ∧ Below w.heap.size w w' := by
  subst ha hp hq
  exact number_in w B A m c zs hx hB hmc hc hm k hk

set_option maxRecDepth 100000 in
set_option maxHeartbeats 4000000 in
theorem linesPlacesWalk (a0 : Option Addr) (len0 cap0 : Nat) (z0 : List Int) (w : World) (w0 : L.IsRow .u8 w a0 len0 cap0 z0) :
    Calls Try.prog 7 #[.slice a0 len0 cap0] w fun e w' => e = .returned (.bool true) ∧ Below w.heap.size w w' := by
  have HW0 := Lib.hid w0
  clear w0
  go_enter Try.func7, Try.ntmps7
  go_wp2_with fail
  with_reducible refine (cells_rowv w w a0 len0 cap0 z0 HW0.out (Below.refl _ _)).mono ?_
  rintro e w1 ⟨v1, n, rfl, hnl, hn, hown1, hb1⟩
  generalize cellsL (z0.take len0) = zs at *
  obtain ⟨A, c, rfl, hnc, hcm, hr⟩ := own_slice2 hown1
  have hs1 := hb1.size
  have HX := Lib.hid hr
  have HL := Lib.hid hr.len
  clear hown1 hr hnl
  go_wp2_with fail
  with_reducible refine (number_is w1 w1.heap.size A n c zs HX.out (Nat.le_refl _) hnc hcm (by omega) 0 0 (Nat.zero_le _) rfl 1 1 rfl rfl).mono ?_
  rintro e w2 ⟨rfl, hb2⟩
  have hs2 := hb2.size
  go_wp2
  go_loopw [4, 5, 6] (fun pv qv iv wr => ∃ i p q : Nat, i ≤ n ∧ iv = .int .i64 i ∧ pv = .int .i64 (p : Int) ∧ qv = .int .i64 (q : Int) ∧ p ≤ i + 1 ∧ q ≤ i + 1 ∧ Hid (numP (zs.take i) = (p, q)) ∧ Below w1.heap.size w1 wr) (fun _ _ iv _ => n - (intOf iv).toNat)
  case atStart => exact ⟨0, 1, 1, Nat.zero_le _, rfl, rfl, rfl, by omega, by omega, rfl, hb2⟩
  case round =>
    obtain ⟨i, p, q, hi, rfl, rfl, rfl, hp, hq, HN, hbr⟩ := hrel
    have hsz := hbr.size
    by_cases hlt : i < n
    · obtain ⟨ad, u, rfl, hbl, hu, hcell⟩ := HX.out.at_ hlt
      have k0 : (0 : Int) ≤ (i : Int) := by omega
      have k1 : (i : Int) < (n : Int) := by omega
      have hst := numP_snoc (zs.take i) u
      rw [← take_snoc hu, HN.out] at hst
      clear hu
      by_cases h10 : u = 10
      · subst h10
        have HS : Hid (numP (zs.take (i + 1)) = (p + 1, 1)) := hst
        clear hst
        go_wp2_with fail
        with_reducible refine (number_is wr w1.heap.size (some ad) n c zs (HX.out.below hbr) hsz hnc hcm (by omega) ((i : Int) + 1) (i + 1) (by omega) (by omega) ((p : Int) + 1) 1 (by rw [HS.out]; simp) (by rw [HS.out]; simp)).mono ?_
        rintro e w3 ⟨rfl, hb3⟩
        have hbr3 : Below w1.heap.size w1 w3 := hbr.trans (hb3.mono hsz)
        have hcr : w3.cell? (ad.add i) = some (.int .i32 10) := (hbr3.cell (p := ad.add i) (by rw [block_of_add]; exact hbl)).trans hcell
        go_wp2
        go_roundw
        case rel => exact ⟨i + 1, p + 1, 1, by omega, by go_num, by go_num, rfl, by omega, by omega, HS, hbr3⟩
        case measure => simp [intOf]; omega
      · have hne : (u == (10 : Int)) = false := by simpa using h10
        have hne2 : (u != (10 : Int)) = true := by simpa using h10
        have HS : Hid (numP (zs.take (i + 1)) = (p, q + 1)) := by
          show _ = _
          rw [hst]
          simp [step10, h10]
        clear hst
        go_wp2_with fail
        with_reducible refine (number_is wr w1.heap.size (some ad) n c zs (HX.out.below hbr) hsz hnc hcm (by omega) ((i : Int) + 1) (i + 1) (by omega) (by omega) (p : Int) ((q : Int) + 1) (by rw [HS.out]) (by rw [HS.out]; simp)).mono ?_
        rintro e w3 ⟨rfl, hb3⟩
        have hbr3 : Below w1.heap.size w1 w3 := hbr.trans (hb3.mono hsz)
        have hcr : w3.cell? (ad.add i) = some (.int .i32 u) := (hbr3.cell (p := ad.add i) (by rw [block_of_add]; exact hbl)).trans hcell
        go_wp2
        go_roundw
        case rel => exact ⟨i + 1, p, q + 1, by omega, by go_num, rfl, by go_num, by omega, by omega, HS, hbr3⟩
        case measure => simp [intOf]; omega
    · obtain rfl : i = n := by omega
      go_wp2_with fail
      with_reducible refine (number_high wr A i c ((i : Int) + 1) (by omega) (by omega)).mono ?_
      rintro e w3 ⟨rfl, hb3⟩
      have hbr3 : Below w1.heap.size w1 w3 := hbr.trans (hb3.mono hsz)
      go_wp2_with fail
      with_reducible refine (known_any w3).mono ?_
      rintro e w4 ⟨rfl, hb4⟩
      have hs3 := hbr3.size
      go_wp2
      go_ret
      exact ⟨rfl, (hb1.trans (hbr3.mono hs1)).trans (hb4.mono (by omega))⟩
end Go.Proofs.Ytlecioifjdmmmaa.C
