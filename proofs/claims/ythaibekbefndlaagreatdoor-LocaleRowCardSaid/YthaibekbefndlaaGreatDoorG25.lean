/-
  The walk of LocaleRow: for every two numbers it returns true; nothing that was there changes. Condition: what is asked of the listed variables.
-/
import Derived.Test.YthaibekbefndlaaGreatDoorG24
namespace Go.Proofs.YthaibekbefndlaaGreatDoor.C
open Go.RowKit

theorem rowO_at {a n i : Nat} (h : i < n) : (rowO a n)[i]? = some ⟨[], [((a + i : Nat) : Int)], (i : Int)⟩ := by
  unfold rowO
  rw [List.getElem?_map, List.getElem?_range h]
  rfl
/-- the least and the greatest of two bytes -/
theorem localeRow_min (a b : Int) : min a b = if a ≤ b then a else b := by omega
set_option maxRecDepth 100000 in
set_option maxHeartbeats 4000000 in
theorem localeRowWalk (a0 a1 : Int) (w : World) (hG : Gm w) (w0 : (Lit.int .u8 a0).wf = true) (w1 : (Lit.int .u8 a1).wf = true) :
    Calls Tryz.prog 3 #[.int .u8 a0, .int .u8 a1] w fun e w' => e = .returned (.bool true) ∧ Below w.heap.size w w' := by
  have hw0 : 0 ≤ a0 ∧ a0 < 256 := by
    have hmin : IntKind.u8.min = 0 := rfl
    have hmax : IntKind.u8.max = 255 := rfl
    simp only [Lit.wf, Bool.and_eq_true, decide_eq_true_eq] at w0
    omega
  have hw1 : 0 ≤ a1 ∧ a1 < 256 := by
    have hmin : IntKind.u8.min = 0 := rfl
    have hmax : IntKind.u8.max = 255 := rfl
    simp only [Lit.wf, Bool.and_eq_true, decide_eq_true_eq] at w1
    omega
  clear w0 w1
  obtain ⟨x, hx⟩ : ∃ x : Nat, min a0 a1 = (x : Int) := ⟨(min a0 a1).toNat, by omega⟩
  obtain ⟨y, hy⟩ : ∃ y : Nat, max a0 a1 = (y : Int) := ⟨(max a0 a1).toNat, by omega⟩
  have hxy : x ≤ y := by omega
  have hy2 : y < 256 := by omega
  obtain ⟨m, hm⟩ : ∃ m : Nat, (y : Int) - (x : Int) + 1 = (m : Int) := ⟨y + 1 - x, by omega⟩
  have hm1 : y + 1 - x = m := by omega
  have hm2 : m ≤ 256 := by omega
  have hfx := four_any x (by omega) w
  have hfy := four_any y (by omega) w
  have hn := fourL_num (n := y) (by omega)
  have hn0 := fourL_num (n := x) (by omega)
  have hpr := rowParse_any (fourL x) (fourL y) x y m hn0.1 hn.1 hn0.2.1 hn.2.1 hn0.2.2 hn.2.2 (by omega) (by omega) (by omega) w hG.1
  obtain ⟨T1, hT1⟩ : ∃ T1, T1 = str ([111, 114, 100, 101, 114, 32, 60, 85] ++ fourL x) := ⟨_, rfl⟩
  have t1 : (⟨#[111, 114, 100, 101, 114, 32, 60, 85]⟩ : ByteArray) ++ str (fourL x) = T1 := by rw [hT1]; exact str_append _ _
  obtain ⟨T2, hT2⟩ : ∃ T2, T2 = str (([111, 114, 100, 101, 114, 32, 60, 85] ++ fourL x) ++ [62, 32, 46, 46, 46, 32, 60, 85]) := ⟨_, rfl⟩
  have t2 : T1 ++ (⟨#[62, 32, 46, 46, 46, 32, 60, 85]⟩ : ByteArray) = T2 := by rw [hT1, hT2]; exact str_append _ _
  obtain ⟨T3, hT3⟩ : ∃ T3, T3 = str ((([111, 114, 100, 101, 114, 32, 60, 85] ++ fourL x) ++ [62, 32, 46, 46, 46, 32, 60, 85]) ++ fourL y) := ⟨_, rfl⟩
  have t3 : T2 ++ str (fourL y) = T3 := by rw [hT2, hT3]; exact str_append _ _
  obtain ⟨T4, hT4⟩ : ∃ T4, T4 = str (rowText (fourL x) (fourL y)) := ⟨_, rfl⟩
  have t4 : T3 ++ (⟨#[62]⟩ : ByteArray) = T4 := by
    rw [hT3, hT4]
    refine (str_append _ [62]).trans ?_
    congr 1
  rw [← hT4] at hpr
  have z0 : (str (fourL x)).size = 4 := hn0.2.2
  have z1 : (str (fourL y)).size = 4 := hn.2.2
  have z2 : T1.size = 12 := by rw [hT1]; rfl
  have z3 : T2.size = 20 := by rw [hT2]; rfl
  have z4 : T3.size = 24 := by rw [hT3]; rfl
  have z5 : T4.size = 25 := by rw [hT4]; rfl
  clear hn hn0 hT1 hT2 hT3 hT4
  generalize str (fourL x) = F at *
  generalize str (fourL y) = E at *
  have HG := Lib.hid hG
  clear hG
  go_enter Tryz.func3, Tryz.ntmps3
  go_wp2_with fail
  refine hfx.mono ?_
  rintro e w' ⟨rfl, rfl⟩
  clear hfx
  go_wp2_with fail
  refine hfy.mono ?_
  rintro e w' ⟨rfl, rfl⟩
  clear hfy
  go_wp2_with fail
  refine hpr.mono ?_
  rintro e w1 ⟨A1, c1, A2, c2, A3, c3, A4, c4, rfl, hO, hb1⟩
  simp only [if_pos (show m ≤ 500 by omega)] at hO ⊢
  obtain ⟨W1, hW1⟩ : ∃ W1, W1 = w1.alloc (.cells #[.slice A1 0 c1, .slice A2 0 c2, .slice A3 0 c3, .slice A4 m c4] 26) := ⟨_, rfl⟩
  have hbW : Below w1.heap.size w1 W1 := by rw [hW1]; exact (Below.refl _ _).alloc (Nat.le_refl _) _
  have hrow : Rw W1 w1.heap.size 26 #[.slice A1 0 c1, .slice A2 0 c2, .slice A3 0 c3, .slice A4 m c4] := by rw [hW1]; exact heap_alloc_new w1 _
  have hO1 : OrdR W1 w1.heap.size (.slice A4 m c4) (rowO x m) := hO.on hbW (Nat.le_refl _)
  have HS1 := Lib.hid hbW.size
  have HB1 := Lib.hid (hb1.trans (hbW.mono hb1.size))
  have HW := Lib.hid hrow
  have HO := Lib.hid hO1
  have q3 : W1.cell? ⟨w1.heap.size, 3, none⟩ = some (.slice A4 m c4) := hrow.cell rfl
  have HG1 := Lib.hid ((HG.out.next hb1).next hbW)
  rw [hW1] at q3
  have hmx : (x : Int) + (m : Int) = (y : Int) + 1 := by omega
  clear hpr hO hO1 hrow hb1 hbW
  obtain ⟨R, hR⟩ : ∃ R, R = w1.heap.size := ⟨_, rfl⟩
  go_wp2
  rw [← hW1]
  go_loopw [10] (fun iv wr => ∃ i : Nat, i ≤ m ∧ iv = .int .i64 i ∧ Hid (Below W1.heap.size W1 wr)) (fun iv _ => m - (intOf iv).toNat)
  case atStart => exact ⟨0, Nat.zero_le _, rfl, Lib.hid (Below.refl _ _)⟩
  case round =>
    obtain ⟨i, him, rfl, HI⟩ := hrel
    have p3 : wr.cell? ⟨w1.heap.size, 3, none⟩ = some (.slice A4 m c4) := (HW.out.on HI.out HW.out.lt).cell rfl
    by_cases hlt : i < m
    rotate_left
    · obtain rfl : i = m := by omega
      have hkn := known07_any wr (HG1.out.next HI.out)
      go_wp2_with fail
      refine hkn.mono ?_
      rintro e w2 ⟨rfl, hb2⟩
      have HB2 := Lib.hid (HB1.out.trans ((HI.out.trans (hb2.mono HI.out.size)).mono HB1.out.size))
      clear hkn hb2
      go_wp2
      go_ret
      exact ⟨rfl, HB2.out⟩
    obtain ⟨Ao, co, xs, hv, hsi, hel⟩ := HO.out.on HI.out HS1.out
    injection hv with hv1 hv3 hv2
    clear hv3
    subst hv1 hv2
    obtain ⟨Ac, cc, hx1, hri, -, -⟩ := hel i _ (rowO_at hlt)
    rw [rowO_len] at hsi
    obtain ⟨ad, a1, a2, a3, rfl, hbl, hx2, k0, k1, k2⟩ := hsi.at3 hlt
    have hx1' : xs[i]? = some [.string ⟨#[]⟩, .slice Ac 1 cc, .int .i64 (i : Int)] := hx1
    rw [hx1'] at hx2
    obtain ⟨s, hs⟩ : ∃ s : Nat, s = x + i := ⟨_, rfl⟩
    have hri' : RI .i32 wr w1.heap.size Ac 1 [(s : Int)] := by rw [hs]; exact hri
    obtain ⟨ac, u, rfl, hbc, hu, hcu⟩ := hri'.at_ (k := 0) (by omega)
    have hu' : u = (s : Int) := by have := Option.some.inj hu; exact this.symm
    subst hu'
    rw [Addr.add_zero'] at hcu
    simp only [Option.some.injEq, List.cons.injEq, and_true] at hx2
    obtain ⟨rfl, rfl, rfl⟩ := hx2
    obtain ⟨W2, hW2⟩ : ∃ W2, W2 = wr.alloc (.cells #[.string ⟨#[]⟩, .slice (some ac) 1 cc, .int .i64 (i : Int)] 34) := ⟨_, rfl⟩
    have hb2 : Below wr.heap.size wr W2 := by rw [hW2]; exact (Below.refl _ _).alloc (Nat.le_refl _) _
    have hX : Three W2 wr.heap.size 34 (.string ⟨#[]⟩) (.slice (some ac) 1 cc) (.int .i64 (i : Int)) := by rw [hW2]; exact Three.new wr _ _ _ _
    obtain ⟨q0, q1, q2⟩ := hX.cells
    have hsz : w1.heap.size ≤ wr.heap.size := Nat.le_trans HS1.out HI.out.size
    have q4 : W2.cell? ac = some (.int .i32 (s : Int)) := (hb2.cell (p := ac) (by omega)).trans hcu
    have HB2 := Lib.hid (HI.out.trans (hb2.mono HI.out.size))
    rw [hW2] at q0 q1 q2 q4
    have hsi2 : (x : Int) + (i : Int) = (s : Int) := by omega
    have i0 : (0 : Int) ≤ (i : Int) := by omega
    have i1 : (i : Int) < (m : Int) := by omega
    have hsb : s < 512 := by omega
    clear hx1 hx1' hri hri' hX hel hu hs hb2 hbc hbl
    go_wp2
    rw [← hW2]
    go_roundw
    case rel => exact ⟨i + 1, by omega, by go_num, HB2⟩
    case measure => simp [intOf]; omega
end Go.Proofs.YthaibekbefndlaaGreatDoor.C
