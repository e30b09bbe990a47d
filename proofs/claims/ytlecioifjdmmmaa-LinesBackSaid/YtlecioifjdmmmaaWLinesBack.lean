/-
  The walk of LinesBack: for every choice of cells it returns true; nothing that was there changes. No condition.
-/
import Derived.Test.YtlecioifjdmmmaaLnQ
namespace Go.Proofs.Ytlecioifjdmmmaa.C
open Go.RowKit

set_option maxRecDepth 100000 in
set_option maxHeartbeats 4000000 in
theorem linesBackWalk (a0 : Option Addr) (len0 cap0 : Nat) (z0 : List Int) (w : World) (w0 : L.IsRow .u8 w a0 len0 cap0 z0) :
    Calls Try.prog 6 #[.slice a0 len0 cap0] w fun e w' => e = .returned (.bool true) ∧ Below w.heap.size w w' := by
  have HW0 := Lib.hid w0
  clear w0
  go_enter Try.func6, Try.ntmps6
  go_wp2_with fail
  with_reducible refine (cells_rowv w w a0 len0 cap0 z0 HW0.out (Below.refl _ _)).mono ?_
  rintro e w1 ⟨v1, n, rfl, hnl, hn, hown1, hb1⟩
  generalize cellsL (z0.take len0) = zs at *
  obtain ⟨A, c, rfl, hnc, hcm, hr⟩ := own_slice2 hown1
  have hs1 := hb1.size
  have HX := Lib.hid hr
  have HL := Lib.hid hr.len
  have hsl := split_len zs
  clear hown1 hr hnl
  rw [HL.out] at hsl
  go_wp2_with fail
  with_reducible refine (split_any w1 w1.heap.size A n c zs HX.out (Nat.le_refl _) hnc hcm (by omega)).mono ?_
  rintro e w2 ⟨A2, n2, c2, rfl, h2c, h2m, hl2, hb2⟩
  have hs2 := hb2.size
  have B2 := hb1.trans (hb2.mono hs1)
  have hn2 : n2 ≤ n := by have := hl2.len; omega
  have HE := Lib.hid (split_ended zs)
  have HN := Lib.hid (split_lines zs)
  have HK := Lib.hid hl2.len
  have HL2 := Lib.hid hl2
  have HX2 := Lib.hid (HX.out.below hb2)
  clear hl2 hsl
  go_wp2
  go_loopw [5] (fun iv wr => ∃ i : Nat, i ≤ n2 ∧ iv = .int .i64 i ∧ wr = w2) (fun iv _ => n2 - (intOf iv).toNat)
  case atStart => exact ⟨0, Nat.zero_le _, rfl, rfl⟩
  case round =>
    obtain ⟨i, hi, rfl, hwr⟩ := hrel
    subst hwr
    by_cases hlt : i < n2
    · obtain ⟨ad, x, Aj, nj, cj, rfl, hbl, hx, hc0, hc1, hjc, hjm, hri⟩ := HL2.out.at2 hlt
      obtain ⟨l, b⟩ := x
      have hno := (HN.out (l, b) (List.mem_of_getElem? hx)).1
      have hlen := (HN.out (l, b) (List.mem_of_getElem? hx)).2
      have hend := HE.out i (l, b) hx
      simp only at hno hlen hend hri hc1
      rw [HL.out] at hlen
      have hjl := hri.len
      have HRI := Lib.hid hri
      have HNO := Lib.hid hno
      have HEN := Lib.hid hend
      have HJL := Lib.hid hjl
      have hj60 : nj ≤ 60 := by omega
      clear hx hri hno hend hjl hlen
      have k0 : (0 : Int) ≤ (i : Int) := by omega
      have k1 : (i : Int) < (n2 : Int) := by omega
      obtain ⟨wp, hwp⟩ : ∃ wp, wp = wr := ⟨_, rfl⟩
      subst hwp
      go_wp2
      go_loopw [6] (fun jv wr => ∃ j : Nat, j ≤ nj ∧ jv = .int .i64 j ∧ wr = wp) (fun jv _ => nj - (intOf jv).toNat)
      case atStart => exact ⟨0, Nat.zero_le _, rfl, rfl⟩
      case round =>
        obtain ⟨j, hj, rfl, hwq⟩ := hrel
        subst hwq
        by_cases hjlt : j < nj
        · obtain ⟨bd, u, rfl, _, hu, hcell⟩ := HRI.out.at_ hjlt
          have j0 : (0 : Int) ≤ (j : Int) := by omega
          have j1 : (j : Int) < (nj : Int) := by omega
          have hne : (u == (10 : Int)) = false := by simpa using HNO.out u (List.mem_of_getElem? hu)
          clear hu
          go_wp2
          go_roundw
          case rel => exact ⟨j + 1, by omega, by go_num, by first | rfl | trivial⟩
          case measure => simp [intOf]; omega
        · obtain rfl : j = nj := by omega
          by_cases hlast : i + 1 < n2
          · have hb : b = true := by
              cases b with
              | true => rfl
              | false =>
                exfalso
                have := (HEN.out rfl).1
                rw [HK.out] at this
                omega
            subst hb
            have k2 : (i : Int) + 1 < (n2 : Int) := by omega
            go_wp2
            go_roundw
            case rel => exact ⟨i + 1, by omega, by go_num, by first | rfl | trivial⟩
            case measure => simp [intOf]; omega
          · have k2 : ¬ ((i : Int) + 1 < (n2 : Int)) := by omega
            cases b with
            | true =>
              go_wp2
              go_roundw
              case rel => exact ⟨i + 1, by omega, by go_num, by first | rfl | trivial⟩
              case measure => simp [intOf]; omega
            | false =>
              have hj0 : ((j : Int) == 0) = false := by
                have h1 := (HEN.out rfl).2
                have h2 := HJL.out
                have : j ≠ 0 := fun h => h1 (List.eq_nil_of_length_eq_zero (by omega))
                simpa using this
              go_wp2
              go_roundw
              case rel => exact ⟨i + 1, by omega, by go_num, by first | rfl | trivial⟩
              case measure => simp [intOf]; omega
    · obtain rfl : i = n2 := by omega
      obtain ⟨wp, hwp⟩ : ∃ wp, wp = wr := ⟨_, rfl⟩
      subst hwp
      go_wp2_with fail
      with_reducible refine (known_any wp).mono ?_
      rintro e w3 ⟨rfl, hb3⟩
      have hs3 := hb3.size
      have B3 := B2.trans (hb3.mono (by omega))
      have HL3 := Lib.hid (HL2.out.on hb3 (Nat.le_refl _))
      have HX3 := Lib.hid (HX2.out.on hb3 (by omega))
      go_wp2_with fail
      with_reducible refine (join_any w3 wp.heap.size A2 i c2 (splitL zs) HL3.out hs3 (by omega) (by rw [join_split, HL.out]; omega)).mono ?_
      rintro e w4 ⟨v4, rfl, hown4, hb4⟩
      rw [join_split, HL.out] at hown4
      obtain ⟨A4, c4, rfl, h4c, h4m, hr4⟩ := own_slice2 hown4
      have hs4 := hb4.size
      have B4 := B3.trans (hb4.mono (by omega))
      have HR4 := Lib.hid hr4
      have HX4 := Lib.hid (HX3.out.on hb4 (by omega))
      clear hown4 hr4
      go_wp2_with fail
      with_reducible refine (same_yes w4 w4.heap.size w1.heap.size A4 A n c4 n c zs zs rfl HR4.out HX4.out (by omega) (by omega)).mono ?_
      rintro e w5 ⟨rfl, q5, rfl⟩
      have B5 : Below w.heap.size w (w4.drewN q5) := below_drewN B4 q5
      have HX5 := Lib.hid (HX4.out.drewN q5)
      have hs5 : w4.heap.size = (w4.drewN q5).heap.size := rfl
      generalize w4.drewN q5 = W5 at *
      go_wp2_with fail
      have hcnt := count_any W5 w1.heap.size A n c zs HX5.out (by omega) hnc hcm (by omega)
      rw [HK.out] at hcnt
      with_reducible refine hcnt.mono ?_
      rintro e w6 ⟨rfl, hb6⟩
      have hii : ((i : Int) == (i : Int)) = true := by simp
      go_wp2
      go_ret
      exact ⟨rfl, B5.trans (hb6.mono (by omega))⟩
end Go.Proofs.Ytlecioifjdmmmaa.C
