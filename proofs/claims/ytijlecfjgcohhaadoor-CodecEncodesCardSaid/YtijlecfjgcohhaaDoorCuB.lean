/-
  scalarAt of layer 3.
-/
import Derived.Test.YtijlecfjgcohhaaDoorCuP
import Derived.StillTailTactics
import Derived.Lib.LaidU8
namespace Go.Proofs.YtijlecfjgcohhaaDoor.C.U
open Go.RowKit

/-- what scalarAt answers -/
def ScalTold (g : Bool) (zs : List Int) (w : World) (e : Ending) (w' : World) : Prop :=
  e = .returned (.tuple #[.int .i32 (scal g zs).1, .int .i64 ((scal g zs).2 : Nat)]) ∧ Below w.heap.size w w'
theorem scal_told {g : Bool} {zs : List Int} {w w' : World} (u : Int) (k : Nat) (h : scal g zs = (u, k)) (hb : Below w.heap.size w w') : ScalTold g zs w (.returned (.tuple #[.int .i32 u, .int .i64 (k : Int)])) w' := by
  unfold ScalTold
  rw [h]
  exact ⟨rfl, hb⟩

theorem below_box {B : Nat} {a w w1 : World} (h : Below B a w) (hB : B ≤ w.heap.size) (h1 : ∃ o, w1 = w.drew.alloc o) : Below B a w1 := by
  obtain ⟨o, rfl⟩ := h1
  exact (below_drewN h 1).alloc hB o

set_option maxRecDepth 100000 in
set_option maxHeartbeats 2000000 in
theorem scalarAt_two (g : Bool) (w : World) (b off n c : Nat) (z0 z1 : Int) (t : List Int) (h0 : w.cell? ⟨b, off, none⟩ = some (.int .u8 z0)) (h1 : w.cell? ⟨b, off + 1, none⟩ = some (.int .u8 z1))
    (h23 : 4 ≤ n → ∃ z2 z3 t', t = z2 :: z3 :: t' ∧ w.cell? ⟨b, off + 2, none⟩ = some (.int .u8 z2) ∧ w.cell? ⟨b, off + 3, none⟩ = some (.int .u8 z3)) (ht : t.length + 2 = n) (hz : Bd (z0 :: z1 :: t)) (hbw : b < w.heap.size) :
    Calls Tryd.prog 67 #[.slice (some ⟨b, off, none⟩) n c, .func (.func 66) #[.bool g] #[]] w (ScalTold g (z0 :: z1 :: t) w) := by
  obtain ⟨a0, a1⟩ := bd_head hz
  obtain ⟨b0, b1⟩ := bd_head (bd_tail hz)
  obtain ⟨u0, u1⟩ := num_bound g a0 a1 b0 b1
  have HZ := Lib.hid hz
  have HT := Lib.hid ht
  have n0 : 0 < n := by omega
  have n1 : (1 : Int) < (n : Int) := by omega
  clear hz ht
  go_enter Tryd.func67, Tryd.ntmps67
  go_wp2_with fail
  go_still_tail 8, (by kernel_rfl)
  change wpList _ _ _ _ _ w.drew
  go_wp2_with fail
  refine (numberOf_any g z0 z1 w.drew a0 a1 b0 b1).mono ?_
  rintro e w1 ⟨rfl, hw1⟩
  have hb1 : Below w.heap.size w w1 := below_box (Below.refl _ _) (Nat.le_refl _) hw1
  have hs1 := hb1.size
  clear hw1
  generalize hu : num g z0 z1 = u at *
  have HU := Lib.hid hu
  clear hu
  by_cases c1 : u < 55296
  · go_wp2
    go_ret2
    exact scal_told _ 2 (by rw [scal_two g t (by rw [HU.out]; omega), HU.out]) hb1
  have t1 : decide (u < 55296) = false := by simpa using c1
  by_cases c2 : 57343 < u
  · go_wp2
    go_ret2
    exact scal_told _ 2 (by rw [scal_two g t (by rw [HU.out]; omega), HU.out]) hb1
  have t2 : decide (57343 < u) = false := by simpa using c2
  by_cases c3 : 56320 ≤ u
  · go_wp2
    go_ret2
    exact scal_told 0 0 (scal_low g t (by rw [HU.out]; omega) (by rw [HU.out]; omega)) hb1
  have t3 : decide (56320 ≤ u) = false := by simpa using c3
  by_cases c4 : n < 4
  · have t4 : decide ((n : Int) < 4) = true := by simp; omega
    go_wp2
    go_ret2
    exact scal_told 0 0 (scal_cut g t (by rw [HU.out]; omega) (by rw [HU.out]; omega) (by have := HT.out; omega)) hb1
  obtain ⟨z2, z3, t', rfl, h2, h3⟩ := h23 (by omega)
  clear h23
  obtain ⟨c0, c1'⟩ := bd_head (bd_tail (bd_tail HZ.out))
  obtain ⟨d0, d1⟩ := bd_head (bd_tail (bd_tail (bd_tail HZ.out)))
  obtain ⟨v0, v1⟩ := num_bound g c0 c1' d0 d1
  have n2 : (2 : Int) < (n : Int) := by omega
  have n3 : (3 : Int) < (n : Int) := by omega
  have t4 : decide ((n : Int) < 4) = false := by simp; omega
  have h2' : w1.cell? ⟨b, off + 2, none⟩ = some (.int .u8 z2) := (hb1.cell (p := ⟨b, off + 2, none⟩) hbw).trans h2
  have h3' : w1.cell? ⟨b, off + 3, none⟩ = some (.int .u8 z3) := (hb1.cell (p := ⟨b, off + 3, none⟩) hbw).trans h3
  clear h0 h1 h2 h3
  go_wp2_with fail
  go_still_tail 8, (by kernel_rfl)
  change wpList _ _ _ _ _ w1.drew
  go_wp2_with fail
  refine (numberOf_any g z2 z3 w1.drew c0 c1' d0 d1).mono ?_
  rintro e w2 ⟨rfl, hw2⟩
  have hb2 : Below w.heap.size w w2 := below_box hb1 hs1 hw2
  clear hw2
  generalize hv : num g z2 z3 = v at *
  have HV := Lib.hid hv
  clear hv
  by_cases c5 : v < 56320
  · go_wp2
    go_ret2
    exact scal_told 0 0 (scal_lone g t' (by rw [HU.out]; omega) (by rw [HU.out]; omega) (by rw [HV.out]; omega)) hb2
  have t5 : decide (v < 56320) = false := by simpa using c5
  by_cases c6 : 57343 < v
  · go_wp2
    go_ret2
    exact scal_told 0 0 (scal_lone g t' (by rw [HU.out]; omega) (by rw [HU.out]; omega) (by rw [HV.out]; omega)) hb2
  have t6 : decide (57343 < v) = false := by simpa using c6
  go_wp2
  go_ret2
  exact scal_told _ 4 (by rw [scal_pair g t' (by rw [HU.out]; omega) (by rw [HU.out]; omega) (by rw [HV.out]; omega) (by rw [HV.out]; omega), HU.out, HV.out]) hb2
set_option maxRecDepth 100000 in
set_option maxHeartbeats 400000 in
theorem scalarAt_short (g : Bool) (w : World) (A : Option Addr) (n c : Nat) (zs : List Int) (hl : zs.length = n) (hn : n < 2) :
    Calls Tryd.prog 67 #[.slice A n c, .func (.func 66) #[.bool g] #[]] w (ScalTold g zs w) := by
  have HL := Lib.hid hl
  clear hl
  have n1 : (n : Int) < 2 := by omega
  go_enter Tryd.func67, Tryd.ntmps67
  go_wp2
  go_ret2
  exact scal_told 0 0 (scal_short g zs (by rw [HL.out]; omega)) (Below.refl _ _)
theorem scalarAt_any (g : Bool) (w : World) (B : Nat) (A : Option Addr) (n c : Nat) (zs : List Int) (hx : RI .u8 w B A n zs) (hB : B ≤ w.heap.size) (hz : Bd zs) :
    Calls Tryd.prog 67 #[.slice A n c, .func (.func 66) #[.bool g] #[]] w (ScalTold g zs w) := by
  rcases Nat.lt_or_ge n 2 with hn | hn
  · exact scalarAt_short g w A n c zs hx.len hn
  · obtain ⟨b, off, rfl, hb, hc⟩ := hx.flat (by omega)
    have hl := hx.len
    match zs, hl with
    | [], hl => simp at hl; omega
    | [_], hl => simp at hl; omega
    | z0 :: z1 :: t, hl =>
      refine scalarAt_two g w b off n c z0 z1 t (hc 0 z0 rfl) (hc 1 z1 rfl) (fun h4 => ?_) (by simpa using hl) hz (by omega)
      match t, hl with
      | [], hl => simp at hl; omega
      | [_], hl => simp at hl; omega
      | z2 :: z3 :: t', _ => exact ⟨z2, z3, t', rfl, hc 2 z2 rfl, hc 3 z3 rfl⟩
end Go.Proofs.YtijlecfjgcohhaaDoor.C.U
