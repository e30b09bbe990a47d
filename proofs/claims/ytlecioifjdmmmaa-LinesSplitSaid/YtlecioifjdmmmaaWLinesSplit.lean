/-
  The walk of LinesSplit: for every cells, lines, choices of cells, place and number it returns true; nothing that was there changes. Condition: each line has at most 2^45 cells, as the form's own reach says.
-/
import Derived.Test.YtlecioifjdmmmaaLnQ
namespace Go.Proofs.Ytlecioifjdmmmaa.C
open Go.RowKit

def sumL : List (List Int × Bool) → Nat
  | [] => 0
  | x :: t => x.1.length + sumL t
theorem sumL_app (a b : List (List Int × Bool)) : sumL (a ++ b) = sumL a + sumL b := by
  induction a with
  | nil => simp [sumL]
  | cons x t ih => simp only [List.cons_append, sumL, ih]; omega
theorem sumL_snoc {ls : List (List Int × Bool)} {k : Nat} {x : List Int × Bool} (h : ls[k]? = some x) : sumL (ls.take (k + 1)) = sumL (ls.take k) + x.1.length := by
  rw [take_snoc h, sumL_app]
  rfl
theorem join_sum (ls : List (List Int × Bool)) : (joinL ls).length ≤ sumL ls + ls.length := by
  induction ls with
  | nil => simp [joinL]
  | cons x t ih =>
    obtain ⟨l, b⟩ := x
    simp only [joinL, sumL, List.length_append, List.length_cons]
    have : (if b = true then [(10 : Int)] else []).length ≤ 1 := by split <;> simp
    omega

set_option maxRecDepth 100000 in
set_option maxHeartbeats 4000000 in
theorem linesSplitWalk (a0 : Option Addr) (len0 cap0 : Nat) (z0 : List Int) (a1 : Option Addr) (len1 cap1 : Nat) (ms : List (List Int × Bool)) (a2 : Option Addr) (len2 cap2 : Nat) (z2 : List Int) (a3 a4 : Int) (w : World)
    (w0 : L.IsRow .i32 w a0 len0 cap0 z0) (_q0 : cap0 * 4 ≤ 140737488351232) (w1 : LI w w.heap.size a1 len1 ms) (q1 : ∀ x ∈ ms, x.1.length ≤ 35184372088832) (c1 : len1 ≤ maxLen) (w2 : L.IsRow .u8 w a2 len2 cap2 z2) (_w3 : (Lit.int .i64 a3).wf = true) (w4 : (Lit.int .u8 a4).wf = true) :
    Calls Try.prog 5 #[.slice a0 len0 cap0, .slice a1 len1 cap1, .slice a2 len2 cap2, .int .i64 a3, .int .u8 a4] w fun e w' => e = .returned (.bool true) ∧ Below w.heap.size w w' := by
  obtain ⟨b40, b41⟩ := bounds_u8 w4
  obtain ⟨k, rfl⟩ : ∃ k : Nat, a4 = (k : Int) := ⟨a4.toNat, by omega⟩
  have hl0 := row_len w0
  have HX := Lib.hid (RI.of_row w0)
  have HM := Lib.hid w1
  have HQ := Lib.hid q1
  have HW2 := Lib.hid w2
  unfold maxLen at c1
  clear w0 w1 q1 w2 w4
  by_cases h200 : (200 : Int) < (len0 : Int)
  · go_enter Try.func5, Try.ntmps5
    have hd : decide ((200 : Int) < (len0 : Int)) = true := by simpa using h200
    go_wp2_with fail
    with_reducible refine (known_any w).mono ?_
    rintro e w1 ⟨rfl, hb1⟩
    go_wp2
    go_ret
    exact ⟨rfl, hb1⟩
  by_cases h20 : (20 : Int) < (len1 : Int)
  · go_enter Try.func5, Try.ntmps5
    go_wp2_with fail
    with_reducible refine (known_any w).mono ?_
    rintro e w1 ⟨rfl, hb1⟩
    go_wp2
    go_ret
    exact ⟨rfl, hb1⟩
  go_enter Try.func5, Try.ntmps5
  go_wp2_with fail
  with_reducible refine (known_any w).mono ?_
  rintro e w1 ⟨rfl, hb1⟩
  have hs1 := hb1.size
  go_wp2
  go_loopw [11, 12] (fun nv iv wr => ∃ i : Nat, i ≤ len1 ∧ iv = .int .i64 i ∧ nv = .int .i64 ((sumL (ms.take i) : Nat) : Int) ∧ sumL (ms.take i) ≤ i * 35184372088832 ∧ wr = w1) (fun _ iv _ => len1 - (intOf iv).toNat)
  case atStart => exact ⟨0, Nat.zero_le _, rfl, rfl, by simp [sumL], rfl⟩
  case round =>
    obtain ⟨i, hin, rfl, rfl, hsu, hwr⟩ := hrel
    subst hwr
    by_cases hlt : i < len1
    · obtain ⟨ad, x, Aj, nj, cj, rfl, hbl, hx, hc0, hc1, hjc, hjm, hri⟩ := (HM.out.on hb1 (Nat.le_refl _)).at2 hlt
      have hsn := sumL_snoc hx
      have hxq := HQ.out x (List.mem_of_getElem? hx)
      have hjl := hri.len
      rw [hjl] at hsn hxq
      have k0 : (0 : Int) ≤ (i : Int) := by omega
      have k1 : (i : Int) < (len1 : Int) := by omega
      obtain ⟨s, hs⟩ : ∃ s, sumL (ms.take i) = s := ⟨_, rfl⟩
      rw [hs] at hsn hsu ⊢
      have HSN := Lib.hid hsn
      have hsb : s + nj ≤ 1125899906842624 := by omega
      clear hx hri hjl hsn hs hc1
      go_wp2
      go_roundw
      case rel => exact ⟨i + 1, by omega, by go_num, by rw [HSN.out]; go_num, by rw [HSN.out]; omega, by first | rfl | trivial⟩
      case measure => simp [intOf]; omega
    · obtain rfl : i = len1 := by omega
      have htk : ms.take i = ms := List.take_of_length_le (by rw [HM.out.len]; exact Nat.le_refl _)
      rw [htk] at hsu ⊢
      clear htk
      obtain ⟨s, hs⟩ : ∃ s, sumL ms = s := ⟨_, rfl⟩
      rw [hs] at hsu ⊢
      have hjs := join_sum ms
      rw [hs, HM.out.len] at hjs
      clear hs
      obtain ⟨wp, hwp⟩ : ∃ wp, wp = wr := ⟨_, rfl⟩
      subst hwp
      by_cases h300 : (300 : Int) < (s : Int)
      · go_wp2
        go_ret
        exact ⟨rfl, hb1⟩
      · go_wp2_with fail
        with_reducible refine (cells_rowv w wp a2 len2 cap2 z2 HW2.out hb1).mono ?_
        rintro e w2 ⟨v2, n, rfl, hnl, hn, hown2, hb2⟩
        generalize cellsL (z2.take len2) = zs at *
        obtain ⟨A2, c2, rfl, h2c, h2m, hr2⟩ := own_slice2 hown2
        have hs2 := hb2.size
        have B2 := hb1.trans (hb2.mono hs1)
        have HR2 := Lib.hid hr2
        clear hown2 hr2 hnl
        obtain ⟨m, hm, hmn⟩ : ∃ m : Nat, (k : Int) % ((n : Int) + 3) = (m : Int) ∧ m ≤ n + 2 := ⟨k % (n + 3), by push_cast; rfl, by have := Nat.mod_lt k (show 0 < n + 3 by omega); omega⟩
        go_wp2_with fail
        with_reducible refine (tells_any w2 w.heap.size a0 len0 cap0 (z0.take len0) (HX.out.below B2) B2.size hl0.1 hl0.2 (by omega) a3).mono ?_
        rintro e w3 ⟨rfl, hb3⟩
        have hs3 := hb3.size
        have B3 := B2.trans (hb3.mono B2.size)
        go_wp2_with fail
        with_reducible refine (tells_any w3 w2.heap.size A2 n c2 zs (HR2.out.below hb3) hs3 h2c h2m (by omega) _).mono ?_
        rintro e w4 ⟨rfl, hb4⟩
        have hs4 := hb4.size
        have B4 := B3.trans (hb4.mono B3.size)
        go_wp2_with fail
        with_reducible refine (join_any w4 w.heap.size a1 i cap1 ms (HM.out.on B4 (Nat.le_refl _)) B4.size (by omega) (by omega)).mono ?_
        rintro e w5 ⟨v5, rfl, hown5, hb5⟩
        obtain ⟨A5, c5, rfl, h5c, h5m, hr5⟩ := own_slice2 hown5
        have hs5 := hb5.size
        have B5 := B4.trans (hb5.mono B4.size)
        have HR5 := Lib.hid hr5
        clear hown5 hr5
        go_wp2_with fail
        with_reducible refine (refJoin_any w5 w.heap.size a1 i cap1 ms (HM.out.on B5 (Nat.le_refl _)) B5.size (by omega) (by omega)).mono ?_
        rintro e w6 ⟨v6, rfl, hown6, hb6⟩
        obtain ⟨A6, c6, rfl, h6c, h6m, hr6⟩ := own_slice2 hown6
        have hs6 := hb6.size
        have B6 := B5.trans (hb6.mono B5.size)
        have HR6 := Lib.hid hr6
        clear hown6 hr6
        generalize joinL ms = js at *
        go_wp2_with fail
        with_reducible refine (same_yes w6 w5.heap.size w6.heap.size A5 A6 js.length c5 js.length c6 js js rfl (HR5.out.below hb6) HR6.out (by unfold maxLen; omega) (by unfold maxLen; omega)).mono ?_
        rintro e w7 ⟨rfl, q7, rfl⟩
        go_wp2
        go_ret
        exact ⟨rfl, below_drewN B6 q7⟩
end Go.Proofs.Ytlecioifjdmmmaa.C
