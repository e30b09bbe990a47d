/-
  The walk of LinesEnds: for every choice of cells it returns true; nothing that was there changes. No condition.
-/
import Derived.Test.YtlecioifjdmmmaaLnQ
namespace Go.Proofs.Ytlecioifjdmmmaa.C
open Go.RowKit

def cnt10 (zs : List Int) : Nat := zs.countP (fun c => decide (c = 10))
theorem cnt10_snoc (zs : List Int) (c : Int) : cnt10 (zs ++ [c]) = cnt10 zs + (if c = 10 then 1 else 0) := by
  unfold cnt10
  rw [List.countP_append]
  by_cases h : c = 10 <;> simp [h]
theorem countE_nil {zs : List Int} (h : zs.length = 0) : countE zs = cnt10 zs := by
  obtain rfl : zs = [] := List.eq_nil_of_length_eq_zero h
  rfl
theorem countE_last {zs : List Int} {p : Nat} {u : Int} (h : zs.length = p + 1) (hu : zs[p]? = some u) : countE zs = cnt10 zs + (if u = 10 then 0 else 1) := by
  have hne : zs ≠ [] := fun e => by rw [e] at h; simp at h
  have hl : zs.getLast? = some u := by rw [List.getLast?_eq_getElem?, h]; exact hu
  unfold countE cnt10
  rw [hl]
  by_cases h10 : u = 10 <;> simp [h10, hne]

set_option maxRecDepth 100000 in
set_option maxHeartbeats 4000000 in
theorem linesEndsWalk (a0 : Option Addr) (len0 cap0 : Nat) (z0 : List Int) (w : World) (w0 : L.IsRow .u8 w a0 len0 cap0 z0) :
    Calls Try.prog 3 #[.slice a0 len0 cap0] w fun e w' => e = .returned (.bool true) ∧ Below w.heap.size w w' := by
  have HW0 := Lib.hid w0
  clear w0
  go_enter Try.func3, Try.ntmps3
  go_wp2_with fail
  with_reducible refine (cells_rowv w w a0 len0 cap0 z0 HW0.out (Below.refl _ _)).mono ?_
  rintro e w1 ⟨v1, n, rfl, hnl, hn, hown1, hb1⟩
  generalize cellsL (z0.take len0) = zs at *
  obtain ⟨A, c, rfl, hnc, hcm, hr⟩ := own_slice2 hown1
  have hs1 := hb1.size
  have HX := Lib.hid hr
  have HL := Lib.hid hr.len
  have HC := Lib.hid (split_count zs)
  clear hown1 hr hnl
  go_wp2
  go_loopw [4, 5] (fun nv iv wr => ∃ i k : Nat, i ≤ n ∧ k ≤ i ∧ iv = .int .i64 i ∧ nv = .int .i64 k ∧ Hid (cnt10 (zs.take i) = k) ∧ wr = w1) (fun _ iv _ => n - (intOf iv).toNat)
  case atStart => exact ⟨0, 0, Nat.zero_le _, Nat.le_refl _, rfl, rfl, rfl, rfl⟩
  case round =>
    obtain ⟨i, k, hi, hki, rfl, rfl, HCN, hwr⟩ := hrel
    subst hwr
    by_cases hlt : i < n
    · obtain ⟨ad, u, rfl, _, hu, hcell⟩ := HX.out.at_ hlt
      have k0 : (0 : Int) ≤ (i : Int) := by omega
      have k1 : (i : Int) < (n : Int) := by omega
      have hsn := cnt10_snoc (zs.take i) u
      rw [← take_snoc hu, HCN.out] at hsn
      clear hu
      by_cases h10 : u = 10
      · subst h10
        have HS : Hid (cnt10 (zs.take (i + 1)) = k + 1) := by show _ = _; rw [hsn]; simp
        clear hsn
        go_wp2
        go_roundw
        case rel => exact ⟨i + 1, k + 1, by omega, by omega, by go_num, by go_num, HS, by first | rfl | trivial⟩
        case measure => simp [intOf]; omega
      · have hne : (u == (10 : Int)) = false := by simpa using h10
        have HS : Hid (cnt10 (zs.take (i + 1)) = k) := by show _ = _; rw [hsn]; simp [h10]
        clear hsn
        go_wp2
        go_roundw
        case rel => exact ⟨i + 1, k, by omega, by omega, by go_num, rfl, HS, by first | rfl | trivial⟩
        case measure => simp [intOf]; omega
    · obtain rfl : i = n := by omega
      have hcn : cnt10 zs = k := by
        have := HCN.out
        rwa [List.take_of_length_le (by rw [HL.out]; exact Nat.le_refl _)] at this
      obtain ⟨wp, hwp⟩ : ∃ wp, wp = wr := ⟨_, rfl⟩
      subst hwp
      have hcnt := fun (W : World) (hW : Below wp.heap.size wp W) => count_any W wp.heap.size A i c zs (HX.out.on hW (Nat.le_refl _)) hW.size hnc hcm (by omega)
      have hspl := fun (W : World) (hW : Below wp.heap.size wp W) => split_any W wp.heap.size A i c zs (HX.out.on hW (Nat.le_refl _)) hW.size hnc hcm (by omega)
      rcases Nat.eq_zero_or_pos i with h0 | h0
      · have hce := countE_nil (zs := zs) (by rw [HL.out]; exact h0)
        rw [hcn] at hce
        subst h0
        have HK := Lib.hid (HC.out.trans hce)
        rw [HK.out] at hcnt
        clear hce hcn
        go_wp2_with fail
        with_reducible refine (known_any wp).mono ?_
        rintro e w3 ⟨rfl, hb3⟩
        have hs3 := hb3.size
        go_wp2_with fail
        with_reducible refine (hcnt w3 hb3).mono ?_
        rintro e w4 ⟨rfl, hb4⟩
        have hs4 := hb4.size
        have B4 := hb3.trans (hb4.mono hs3)
        have hkk : ((k : Int) == (k : Int)) = true := by simp
        clear hcnt
        go_wp2_with fail
        with_reducible refine (hspl w4 B4).mono ?_
        rintro e w5 ⟨A5, n5, c5, rfl, _, _, hl5, hb5⟩
        obtain rfl : k = n5 := HK.out.symm.trans hl5.len
        clear hl5
        go_wp2
        go_ret
        exact ⟨rfl, (hb1.trans (B4.mono hs1)).trans (hb5.mono (by omega))⟩
      · obtain ⟨p, rfl⟩ : ∃ p, i = p + 1 := ⟨i - 1, by omega⟩
        obtain ⟨ad, u, rfl, hbl, hu, hcell⟩ := HX.out.at_ (show p < p + 1 by omega)
        have hce := countE_last HL.out hu
        have p0 : (0 : Int) < ((p + 1 : Nat) : Int) := by omega
        have p1 : (0 : Int) ≤ (p : Int) := by omega
        rw [hcn] at hce
        clear hu
        by_cases h10 : u = 10
        · subst h10
          rw [if_pos rfl, Nat.add_zero] at hce
          have HK := Lib.hid (HC.out.trans hce)
          rw [HK.out] at hcnt
          clear hce hcn
          go_wp2_with fail
          with_reducible refine (known_any wp).mono ?_
          rintro e w3 ⟨rfl, hb3⟩
          have hs3 := hb3.size
          go_wp2_with fail
          with_reducible refine (hcnt w3 hb3).mono ?_
          rintro e w4 ⟨rfl, hb4⟩
          have hs4 := hb4.size
          have B4 := hb3.trans (hb4.mono hs3)
          have hkk : ((k : Int) == (k : Int)) = true := by simp
          clear hcnt
          go_wp2_with fail
          with_reducible refine (hspl w4 B4).mono ?_
          rintro e w5 ⟨A5, n5, c5, rfl, _, _, hl5, hb5⟩
          obtain rfl : k = n5 := HK.out.symm.trans hl5.len
          clear hl5
          go_wp2
          go_ret
          exact ⟨rfl, (hb1.trans (B4.mono hs1)).trans (hb5.mono (by omega))⟩
        · have hne : (u != (10 : Int)) = true := by simpa using h10
          rw [if_neg h10] at hce
          have HK := Lib.hid (HC.out.trans hce)
          rw [HK.out] at hcnt
          clear hce hcn
          go_wp2_with fail
          with_reducible refine (known_any wp).mono ?_
          rintro e w3 ⟨rfl, hb3⟩
          have hs3 := hb3.size
          go_wp2_with fail
          with_reducible refine (hcnt w3 hb3).mono ?_
          rintro e w4 ⟨rfl, hb4⟩
          have hs4 := hb4.size
          have B4 := hb3.trans (hb4.mono hs3)
          have hkk : (((k : Int) + 1) == ((k : Int) + 1)) = true := by simp
          clear hcnt
          go_wp2_with fail
          with_reducible refine (hspl w4 B4).mono ?_
          rintro e w5 ⟨A5, n5, c5, rfl, _, _, hl5, hb5⟩
          obtain rfl : k + 1 = n5 := HK.out.symm.trans hl5.len
          clear hl5
          go_wp2
          go_ret
          exact ⟨rfl, (hb1.trans (B4.mono hs1)).trans (hb5.mono (by omega))⟩
end Go.Proofs.Ytlecioifjdmmmaa.C
