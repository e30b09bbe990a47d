/-
  The walk of the law CellPlace: it returns true for all choices, where the library's table stands as it was laid; nothing that was there changes.
-/
import Derived.Test.YtkijkkhjlfllnaaDoorWCellOrder
import Derived.OpenShut
namespace Go.Proofs.YtkijkkhjlfllnaaDoor.C
open Go.RowKit

theorem RI.front {ki : IntKind} {w : World} {B n : Nat} {A : Option Addr} {zs : List Int} (h : RI ki w B A n zs) {m : Nat} (hm : m ≤ n) : RI ki w B A m (zs.take m) := by
  refine ⟨by have := h.1; simp; omega, fun hn => ?_⟩
  obtain ⟨ad, rfl, hb, hc⟩ := h.2 (by omega)
  refine ⟨ad, rfl, hb, fun j u hu => hc j u ?_⟩
  rw [List.getElem?_take] at hu
  split at hu
  · exact hu
  · cases hu

/-- whether they stand so far -/
def Stands (X Y : List Int) (i t : Nat) (st : Bool) : Prop := (st = true → AlikeTo X Y i t) ∧ (st = false → (X.drop i).take Y.length ≠ Y)
theorem stands_zero (X Y : List Int) (i : Nat) : Stands X Y i 0 true := ⟨fun _ => alike_zero X Y i, fun h => by cases h⟩

set_option maxHeartbeats 4000000 in
theorem cellPlaceWalk (a0 : Option Addr) (len0 cap0 : Nat) (z0 : List Int) (a1 : Option Addr) (len1 cap1 : Nat) (z1 : List Int) (f : Int) (w : World)
    (hT : w.cell? ⟨2, 15, none⟩ = some (.int .u8 4)) (w0 : L.IsRow .u8 w a0 len0 cap0 z0) (w1 : L.IsRow .u8 w a1 len1 cap1 z1) (wk : (Lit.int .u8 f).wf = true) :
    Calls Tryd.prog 11 #[.slice a0 len0 cap0, .slice a1 len1 cap1, .int .u8 f] w fun e w' => e = .returned (.bool true) ∧ Below w.heap.size w w' := by
  have hTB := World.block_lt_of_cell? w _ hT
  have HT := Lib.hid hT
  have W0 := Lib.hid w0
  have W1 := Lib.hid w1
  obtain ⟨hk0, hk1⟩ := bounds_u8 wk
  clear hT w0 w1 wk
  obtain ⟨p, hp⟩ : ∃ p : Nat, f % 8 = (p : Int) := ⟨(f % 8).toNat, by omega⟩
  have hp8 : p < 8 := by omega
  go_enter Tryd.func11, Tryd.ntmps11
  go_wp2_with fail
  refine (cells_row w w a0 len0 cap0 z0 W0.out (Below.refl _ _)).mono ?_
  rintro e v1 ⟨A, n, c, rfl, hnc, hn60, hx, hb1⟩
  have HX := Lib.hid hx
  generalize cellsL (z0.take len0) = X at *
  clear hx
  go_wp2_with fail
  refine (cells_row v1 w a1 len1 cap1 z1 W1.out hb1).mono ?_
  rintro e v2 ⟨A', m, c', rfl, hmc, hm60, hy, hb2⟩
  have HY := Lib.hid hy
  have hs1 := hb1.size
  have hs2 := hb2.size
  generalize cellsL (z1.take len1) = Y at *
  clear hy
  have hb12 : Below w.heap.size w v2 := hb1.trans (hb2.mono hs1)
  have HX2 := Lib.hid ((HX.out.below hb2).more hs2)
  obtain ⟨M, hM⟩ : ∃ M, M = min m 3 := ⟨_, rfl⟩
  have hMm : M ≤ m := by omega
  have hM3 : M ≤ 3 := by omega
  have HY2 := Lib.hid (HY.out.front hMm)
  generalize Y.take M = Z at *
  have HTT := Lib.hid ((hb12.cell (p := ⟨2, 15, none⟩) hTB).trans HT.out)
  have hmin : min (m : Int) 3 = (M : Int) := by omega
  clear hM HX HY W0 W1
  go_wp2_with fail
  refine (find_at v2 v2.heap.size v2.heap.size A A' n c M c' X Z p HX2.out HY2.out (by unfold maxLen; omega) (by unfold maxLen; omega) (by unfold maxLen; omega)).mono ?_
  rintro e w' ⟨rfl, rfl⟩
  obtain ⟨K, hK⟩ : ∃ K, findL X Z p = K := ⟨_, rfl⟩
  rw [hK]
  have HK := Lib.hid hK
  clear hK
  go_wp2_with fail
  go_loopw [11] (fun iv wr => ∃ i dq : Nat, p ≤ i ∧ i ≤ n + p + 1 ∧ iv = .int .i64 i ∧ FindSt X Z p i ∧ wr = v2.drewN dq) (fun iv _ => n + 1 - (intOf iv).toNat)
  case atStart => exact ⟨p, 0, Nat.le_refl _, by omega, rfl, findSt_zero _ _ _, drewN_zero v2⟩
  case round =>
    obtain ⟨i, dq, hpi, hin, rfl, hst, rfl⟩ := hrel
    have HS := Lib.hid hst
    clear hst
    by_cases hle : i + M ≤ n
    · have hle' : (i : Int) + (M : Int) ≤ (n : Int) := by omega
      go_wp2_with fail
      go_loopw [12, 13] (fun sv jv wr => ∃ (t dr : Nat) (st : Bool), t ≤ M ∧ sv = .bool st ∧ jv = .int .i64 t ∧ Stands X Z i t st ∧ wr = v2.drewN dr) (fun _ jv _ => M - (intOf jv).toNat)
      case atStart => exact ⟨0, dq, true, Nat.zero_le _, rfl, rfl, stands_zero X Z i, rfl⟩
      case round =>
        obtain ⟨t, dr, st, htM, rfl, rfl, hsd, rfl⟩ := hrel
        have HSD := Lib.hid hsd
        clear hsd
        by_cases htm : t < M
        · obtain ⟨ad, a, rfl, _, ha, hca⟩ := HX2.out.at_ (k := i + t) (by omega)
          obtain ⟨ad2, b, rfl, _, hb, hcb⟩ := HY2.out.at_ htm
          have HA := Lib.hid ha
          have HB := Lib.hid hb
          clear ha hb
          cases st with
          | true =>
            have s1 : IntKind.i64.wrap ((i : Int) + (t : Int)) = (i : Int) + (t : Int) := IntWalk.i64_in _ (by omega)
            have s2 : (0 : Int) ≤ (i : Int) + (t : Int) := by omega
            have s3 : ((i : Int) + (t : Int)).toNat = i + t := by omega
            have s4 : (i : Int) + (t : Int) < (n : Int) := by omega
            have s5 : (0 : Int) ≤ (t : Int) := by omega
            have s6 : (t : Int) < (M : Int) := by omega
            go_wp2
            go_quiet (fail)
            clear s1 s2 s3
            go_wp2
            go_roundw
            case rel =>
              refine ⟨t + 1, _, (a == b), by omega, rfl, by go_num, ⟨fun h => ?_, fun h => ?_⟩, rfl⟩
              · have hab : a = b := by simpa using h
                subst hab
                exact alike_step (HSD.out.1 rfl) HA.out HB.out
              · exact alike_not HA.out HB.out (by simpa using h)
            case measure => simp [intOf]; omega
          | false =>
            go_wp2
            go_quiet (fail)
            go_wp2
            go_roundw
            case rel => exact ⟨t + 1, _, false, by omega, rfl, by go_num, ⟨fun h => (by cases h), HSD.out.2⟩, rfl⟩
            case measure => simp [intOf]; omega
        · cases st with
          | true =>
            obtain rfl : t = M := by omega
            have hKi : (K == (i : Int)) = true := by
              have := findSt_here HS.out (by rw [HX2.out.len, HY2.out.len]; omega) (alike_all (by rw [HY2.out.len]; exact HSD.out.1 rfl))
              rw [HK.out] at this
              simp [this]
            go_wp2_with fail
            refine (known_any _ (((below_drewN (Below.refl v2.heap.size v2) dr).cell (p := ⟨2, 15, none⟩) (by show 2 < _; omega)).trans HTT.out)).mono ?_
            rintro e v3 ⟨rfl, hb3⟩
            go_wp2
            go_ret
            exact ⟨rfl, (below_drewN hb12 dr).trans (hb3.mono (by show w.heap.size ≤ v2.heap.size; omega))⟩
          | false =>
            have hne := HSD.out.2 rfl
            have HNE := Lib.hid hne
            clear hne
            go_wp2
            go_roundw
            case rel => exact ⟨i + 1, dr, by omega, by omega, by go_num, findSt_step HS.out (by rw [HX2.out.len, HY2.out.len]; omega) HNE.out, rfl⟩
            case measure => simp [intOf]; omega
    · have hle' : (n : Int) < (i : Int) + (M : Int) := by omega
      have hK1 : (K == -1) = true := by
        have := findSt_over HS.out (by rw [HX2.out.len, HY2.out.len]; omega)
        rw [HK.out] at this
        simp [this]
      go_wp2_with fail
      refine (known_any _ (((below_drewN (Below.refl v2.heap.size v2) dq).cell (p := ⟨2, 15, none⟩) (by show 2 < _; omega)).trans HTT.out)).mono ?_
      rintro e v3 ⟨rfl, hb3⟩
      go_wp2
      go_ret
      exact ⟨rfl, (below_drewN hb12 dq).trans (hb3.mono (by show w.heap.size ≤ v2.heap.size; omega))⟩
end Go.Proofs.YtkijkkhjlfllnaaDoor.C
