/-
  Joined: LdG. Each with what its own head says.
-/
import Derived.Test.YthaibekbefndlaaGreatDoorH14

namespace Go.Proofs.YthaibekbefndlaaGreatDoor.C
open Go.RowKit

set_option maxRecDepth 100000 in
set_option maxHeartbeats 2000000 in
theorem isScalar_nat (n : Nat) (w : World) (b : Bool) (h : rightN n = b) : Calls Tryz.prog 63 #[.int .i32 n] w fun e w' => e = .returned (.bool b) ∧ w' = w := by
 have hr := fun W => rightN_is n W b h
 have n0 : (0 : Int) ≤ (n : Int) := by omega
 clear h
 go_enter Tryz.func63, Tryz.ntmps63
 go_wp2_with (go_at_call 108; refine (hr _).mono ?_; rintro e w2 ⟨rfl, rfl⟩)
 go_ret
 exact ⟨rfl, rfl⟩

def amB (c : List Int) (lo hi : Int) : Bool := match c with
 | [c] => decide (lo ≤ c ∧ c ≤ hi)
 | _ => false
set_option maxRecDepth 100000 in
set_option maxHeartbeats 8000000 in
theorem addAll1_any (W : World) (s : ByteArray) (z : Int) (A : Option Addr) (n cx L0 H0 : Nat) (c : List Int) (l h : Int) (hx : RI .i32 W W.heap.size A n c) (hL : One W L0 35 (.int .i32 l)) (hH : One W H0 35 (.int .i32 h)) :
  Calls Tryz.prog 174 #[.agg #[.string s, .slice A n cx, .int .i64 z], .pointer (some ⟨L0, 0, none⟩), .pointer (some ⟨H0, 0, none⟩)] W fun e w' => e = .returned (.bool (amB c l h)) ∧ Below W.heap.size W w' := by
 obtain ⟨W1, hW1⟩ : ∃ W1, W1 = W.alloc (.cells #[.string s, .slice A n cx, .int .i64 z] 34) := ⟨_, rfl⟩
 have hb : Below W.heap.size W W1 := by rw [hW1]; exact (Below.refl _ _).alloc (Nat.le_refl _) _
 have HB := Lib.hid hb
 have q0 : W1.drew.cell? ⟨W.heap.size, 1, none⟩ = some (.slice A n cx) := by
  show W1.cell? _ = _
  rw [hW1, World.cell?_alloc_new]
  rfl
 have q1 : W1.drew.cell? ⟨L0, 0, none⟩ = some (.int .i32 l) := (show One W1 L0 _ _ by rw [hW1]; exact hL.alloc _).cell
 have q2 : W1.drew.cell? ⟨H0, 0, none⟩ = some (.int .i32 h) := (show One W1 H0 _ _ by rw [hW1]; exact hH.alloc _).cell
 have Q0 := Lib.hid q0
 have Q1 := Lib.hid q1
 have Q2 := Lib.hid q2
 have hlen := hx.1
 by_cases hn : n = 1
 ·subst hn
  obtain ⟨ad, u, rfl, hbl, hu, hc⟩ := hx.at_ (k := 0) (by omega)
  have hz : ad.add 0 = ad := by
   unfold Addr.add
   cases ad
   simp
  rw [hz] at hc
  have q3 : W1.drew.cell? ad = some (.int .i32 u) := (hb.cell hbl).trans hc
  have Q3 := Lib.hid q3
  have hcu : c = [u] := by
   match c, hlen, hu with
   | [x], _, hu => simp at hu; rw [hu]
  subst hcu
  clear hx hL hH hb hc hu hlen q0 q1 q2 q3
  go_enter Tryz.func174, Tryz.ntmps174
  go_wp2
  rw [← hW1]
  have q0 := Q0.out
  have q1 := Q1.out
  have q2 := Q2.out
  have q3 := Q3.out
  clear hW1
  by_cases c1 : l ≤ u
  ·by_cases c2 : u ≤ h
   ·have hr : amB [u] l h = true := by simp [amB, c1, c2]
    have HR := Lib.hid hr
    clear hr
    refine wp_region_held (S := fun w' : World => w'.cell? ⟨W.heap.size, 1, none⟩ = some (.slice (some ad) 1 cx) ∧ w'.cell? ⟨L0, 0, none⟩ = some (.int .i32 l) ∧ w'.cell? ⟨H0, 0, none⟩ = some (.int .i32 h) ∧ w'.cell? ad = some (.int .i32 u)) (by kernel_rfl) ?_
    change wpAnyH _ _ _ _ _ _ _ _ W1.drew
    have hS := (show (fun w' : World => w'.cell? ⟨W.heap.size, 1, none⟩ = some (.slice (some ad) 1 cx) ∧ w'.cell? ⟨L0, 0, none⟩ = some (.int .i32 l) ∧ w'.cell? ⟨H0, 0, none⟩ = some (.int .i32 h) ∧ w'.cell? ad = some (.int .i32 u)) W1.drew from ⟨q0, q1, q2, q3⟩)
    refine wpAnyH_take (i := 0) (oi := ?oiA0) (v := ?vA0) ?hiA0 (by kernel_rfl) (by kernel_rfl) (by kernel_rfl) ?hqA0 (Or.inl ⟨?hwA0, ?hyA0⟩) (by assumption) ?restA0
    case hiA0 => exact rfl
    case hqA0 => exact fun _ _ _ h => h
    case hwA0 => rfl
    case hyA0 => (intro x hx; (try dsimp only at hx); simp only [List.getElem_toArray, List.getElem_cons_zero]; go_split_ands; go_simp; try with_reducible rfl)
    try simp only [Act.put, List.setIfInBounds_toArray, List.set_cons_zero, List.set_cons_succ, List.getElem_toArray, List.getElem_cons_zero]
    refine wpAnyH_take (i := 1) (oi := ?oiA1) (v := ?vA1) ?hiA1 (by kernel_rfl) (by kernel_rfl) (by kernel_rfl) ?hqA1 (Or.inl ⟨?hwA1, ?hyA1⟩) (by assumption) ?restA1
    case hiA1 => exact rfl
    case hqA1 => exact fun _ _ _ h => h
    case hwA1 => rfl
    case hyA1 => (intro x hx; (try dsimp only at hx); simp only [List.getElem_toArray, List.getElem_cons_succ, List.getElem_cons_zero]; go_split_ands; go_simp; try with_reducible rfl)
    try simp only [Act.put, List.setIfInBounds_toArray, List.set_cons_zero, List.set_cons_succ, List.getElem_toArray, List.getElem_cons_succ, List.getElem_cons_zero]
    refine wpAnyH_take (i := 2) (oi := ?oiA2) (v := ?vA2) ?hiA2 (by kernel_rfl) (by kernel_rfl) (by kernel_rfl) ?hqA2 (Or.inl ⟨?hwA2, ?hyA2⟩) (by assumption) ?restA2
    case hiA2 => exact rfl
    case hqA2 => exact fun _ _ _ h => h
    case hwA2 => rfl
    case hyA2 => (intro x hx; (try dsimp only at hx); simp only [List.getElem_toArray, List.getElem_cons_succ, List.getElem_cons_zero]; go_split_ands; go_simp; try with_reducible rfl)
    try simp only [Act.put, List.setIfInBounds_toArray, List.set_cons_zero, List.set_cons_succ, List.getElem_toArray, List.getElem_cons_succ, List.getElem_cons_zero]
    refine wpAnyH_take (i := 3) (oi := ?oiA3) (v := ?vA3) ?hiA3 (by kernel_rfl) (by kernel_rfl) (by kernel_rfl) ?hqA3 (Or.inl ⟨?hwA3, ?hyA3⟩) (by assumption) ?restA3
    case hiA3 => exact rfl
    case hqA3 => exact fun _ _ _ h => h
    case hwA3 => rfl
    case hyA3 => (intro x hx; (try dsimp only at hx); simp only [List.getElem_toArray, List.getElem_cons_succ, List.getElem_cons_zero]; go_split_ands; go_simp; try with_reducible rfl)
    try simp only [Act.put, List.setIfInBounds_toArray, List.set_cons_zero, List.set_cons_succ, List.getElem_toArray, List.getElem_cons_succ, List.getElem_cons_zero]
    refine wpAnyH_take (i := 4) (oi := ?oiA4) (v := ?vA4) ?hiA4 (by kernel_rfl) (by kernel_rfl) (by kernel_rfl) ?hqA4 (Or.inl ⟨?hwA4, ?hyA4⟩) (by assumption) ?restA4
    case hiA4 => exact rfl
    case hqA4 => exact fun _ _ _ h => h
    case hwA4 => rfl
    case hyA4 => (intro x hx; (try dsimp only at hx); simp only [List.getElem_toArray, List.getElem_cons_succ, List.getElem_cons_zero]; go_split_ands; go_simp; try with_reducible rfl)
    try simp only [Act.put, List.setIfInBounds_toArray, List.set_cons_zero, List.set_cons_succ, List.getElem_toArray, List.getElem_cons_succ, List.getElem_cons_zero]
    refine wpAnyH_take (i := 5) (oi := ?oiA5) (v := ?vA5) ?hiA5 (by kernel_rfl) (by kernel_rfl) (by kernel_rfl) ?hqA5 (Or.inl ⟨?hwA5, ?hyA5⟩) (by assumption) ?restA5
    case hiA5 => exact rfl
    case hqA5 => exact fun _ _ _ h => h
    case hwA5 => rfl
    case hyA5 => (intro x hx; (try dsimp only at hx); simp only [List.getElem_toArray, List.getElem_cons_succ, List.getElem_cons_zero]; go_split_ands; go_simp; try with_reducible rfl)
    try simp only [Act.put, List.setIfInBounds_toArray, List.set_cons_zero, List.set_cons_succ, List.getElem_toArray, List.getElem_cons_succ, List.getElem_cons_zero]
    refine wpAnyH_take (i := 6) (oi := ?oiA6) (v := ?vA6) ?hiA6 (by kernel_rfl) (by kernel_rfl) (by kernel_rfl) ?hqA6 (Or.inl ⟨?hwA6, ?hyA6⟩) (by assumption) ?restA6
    case hiA6 => exact rfl
    case hqA6 => exact fun _ _ _ h => h
    case hwA6 => rfl
    case hyA6 => (intro x hx; (try dsimp only at hx); simp only [List.getElem_toArray, List.getElem_cons_succ, List.getElem_cons_zero]; go_split_ands; go_simp; try with_reducible rfl)
    try simp only [Act.put, List.setIfInBounds_toArray, List.set_cons_zero, List.set_cons_succ, List.getElem_toArray, List.getElem_cons_succ, List.getElem_cons_zero]
    refine wpAnyH_take (i := 7) (oi := ?oiA7) (v := ?vA7) ?hiA7 (by kernel_rfl) (by kernel_rfl) (by kernel_rfl) ?hqA7 (Or.inl ⟨?hwA7, ?hyA7⟩) (by assumption) ?restA7
    case hiA7 => exact rfl
    case hqA7 => exact fun _ _ _ h => h
    case hwA7 => rfl
    case hyA7 => (intro x hx; (try dsimp only at hx); simp only [List.getElem_toArray, List.getElem_cons_succ, List.getElem_cons_zero]; go_split_ands; go_simp; try with_reducible rfl)
    try simp only [Act.put, List.setIfInBounds_toArray, List.set_cons_zero, List.set_cons_succ, List.getElem_toArray, List.getElem_cons_succ, List.getElem_cons_zero]
    refine wpAnyH_take (i := 8) (oi := ?oiA8) (v := ?vA8) ?hiA8 (by kernel_rfl) (by kernel_rfl) (by kernel_rfl) ?hqA8 (Or.inl ⟨?hwA8, ?hyA8⟩) (by assumption) ?restA8
    case hiA8 => exact rfl
    case hqA8 => exact fun _ _ _ h => h
    case hwA8 => rfl
    case hyA8 => (intro x hx; (try dsimp only at hx); simp only [List.getElem_toArray, List.getElem_cons_succ, List.getElem_cons_zero]; go_split_ands; go_simp; try with_reducible rfl)
    try simp only [Act.put, List.setIfInBounds_toArray, List.set_cons_zero, List.set_cons_succ, List.getElem_toArray, List.getElem_cons_succ, List.getElem_cons_zero]
    refine wpAnyH_take (i := 9) (oi := ?oiA9) (v := ?vA9) ?hiA9 (by kernel_rfl) (by kernel_rfl) (by kernel_rfl) ?hqA9 (Or.inl ⟨?hwA9, ?hyA9⟩) (by assumption) ?restA9
    case hiA9 => exact rfl
    case hqA9 => exact fun _ _ _ h => h
    case hwA9 => rfl
    case hyA9 => (intro x hx; (try dsimp only at hx); simp only [List.getElem_toArray, List.getElem_cons_succ, List.getElem_cons_zero]; go_split_ands; go_simp; try with_reducible rfl)
    try simp only [Act.put, List.setIfInBounds_toArray, List.set_cons_zero, List.set_cons_succ, List.getElem_toArray, List.getElem_cons_succ, List.getElem_cons_zero]
    refine wpAnyH_take (i := 10) (oi := ?oiA10) (v := ?vA10) ?hiA10 (by kernel_rfl) (by kernel_rfl) (by kernel_rfl) ?hqA10 (Or.inl ⟨?hwA10, ?hyA10⟩) (by assumption) ?restA10
    case hiA10 => exact rfl
    case hqA10 => exact fun _ _ _ h => h
    case hwA10 => rfl
    case hyA10 => (intro x hx; (try dsimp only at hx); simp only [List.getElem_toArray, List.getElem_cons_succ, List.getElem_cons_zero]; go_split_ands; go_simp; try with_reducible rfl)
    try simp only [Act.put, List.setIfInBounds_toArray, List.set_cons_zero, List.set_cons_succ, List.getElem_toArray, List.getElem_cons_succ, List.getElem_cons_zero]
    refine wpAnyH_take (i := 11) (oi := ?oiA11) (v := ?vA11) ?hiA11 (by kernel_rfl) (by kernel_rfl) (by kernel_rfl) ?hqA11 (Or.inl ⟨?hwA11, ?hyA11⟩) (by assumption) ?restA11
    case hiA11 => exact rfl
    case hqA11 => exact fun _ _ _ h => h
    case hwA11 => rfl
    case hyA11 => (intro x hx; (try dsimp only at hx); simp only [List.getElem_toArray, List.getElem_cons_succ, List.getElem_cons_zero]; go_split_ands; go_simp; try with_reducible rfl)
    try simp only [Act.put, List.setIfInBounds_toArray, List.set_cons_zero, List.set_cons_succ, List.getElem_toArray, List.getElem_cons_succ, List.getElem_cons_zero]
    refine wpAnyH_take (i := 12) (oi := ?oiA12) (v := ?vA12) ?hiA12 (by kernel_rfl) (by kernel_rfl) (by kernel_rfl) ?hqA12 (Or.inl ⟨?hwA12, ?hyA12⟩) (by assumption) ?restA12
    case hiA12 => exact rfl
    case hqA12 => exact fun _ _ _ h => h
    case hwA12 => rfl
    case hyA12 => (intro x hx; (try dsimp only at hx); simp only [List.getElem_toArray, List.getElem_cons_succ, List.getElem_cons_zero]; go_split_ands; go_simp; try with_reducible rfl)
    try simp only [Act.put, List.setIfInBounds_toArray, List.set_cons_zero, List.set_cons_succ, List.getElem_toArray, List.getElem_cons_succ, List.getElem_cons_zero]
    refine wpAnyH_take (i := 13) (oi := ?oiA13) (v := ?vA13) ?hiA13 (by kernel_rfl) (by kernel_rfl) (by kernel_rfl) ?hqA13 (Or.inl ⟨?hwA13, ?hyA13⟩) (by assumption) ?restA13
    case hiA13 => exact rfl
    case hqA13 => exact fun _ _ _ h => h
    case hwA13 => rfl
    case hyA13 => (intro x hx; (try dsimp only at hx); simp only [List.getElem_toArray, List.getElem_cons_succ, List.getElem_cons_zero]; go_split_ands; go_simp; try with_reducible rfl)
    try simp only [Act.put, List.setIfInBounds_toArray, List.set_cons_zero, List.set_cons_succ, List.getElem_toArray, List.getElem_cons_succ, List.getElem_cons_zero]
    refine wpAnyH_take (i := 14) (oi := ?oiA14) (v := ?vA14) ?hiA14 (by kernel_rfl) (by kernel_rfl) (by kernel_rfl) ?hqA14 (Or.inl ⟨?hwA14, ?hyA14⟩) (by assumption) ?restA14
    case hiA14 => exact rfl
    case hqA14 => exact fun _ _ _ h => h
    case hwA14 => rfl
    case hyA14 => (intro x hx; (try dsimp only at hx); simp only [List.getElem_toArray, List.getElem_cons_succ, List.getElem_cons_zero]; go_split_ands; go_simp; try with_reducible rfl)
    try simp only [Act.put, List.setIfInBounds_toArray, List.set_cons_zero, List.set_cons_succ, List.getElem_toArray, List.getElem_cons_succ, List.getElem_cons_zero]
    refine wpAnyH_take (i := 15) (oi := ?oiA15) (v := ?vA15) ?hiA15 (by kernel_rfl) (by kernel_rfl) (by kernel_rfl) ?hqA15 (Or.inl ⟨?hwA15, ?hyA15⟩) (by assumption) ?restA15
    case hiA15 => exact rfl
    case hqA15 => exact fun _ _ _ h => h
    case hwA15 => rfl
    case hyA15 => (intro x hx; (try dsimp only at hx); simp only [List.getElem_toArray, List.getElem_cons_succ, List.getElem_cons_zero]; go_split_ands; go_simp; try with_reducible rfl)
    try simp only [Act.put, List.setIfInBounds_toArray, List.set_cons_zero, List.set_cons_succ, List.getElem_toArray, List.getElem_cons_succ, List.getElem_cons_zero]
    refine wpAnyH_take (i := 16) (oi := ?oiA16) (v := ?vA16) ?hiA16 (by kernel_rfl) (by kernel_rfl) (by kernel_rfl) ?hqA16 (Or.inl ⟨?hwA16, ?hyA16⟩) (by assumption) ?restA16
    case hiA16 => exact rfl
    case hqA16 => exact fun _ _ _ h => h
    case hwA16 => rfl
    case hyA16 => (intro x hx; (try dsimp only at hx); simp only [List.getElem_toArray, List.getElem_cons_succ, List.getElem_cons_zero]; go_split_ands; go_simp; try with_reducible rfl)
    try simp only [Act.put, List.setIfInBounds_toArray, List.set_cons_zero, List.set_cons_succ, List.getElem_toArray, List.getElem_cons_succ, List.getElem_cons_zero]
    refine wpAnyH_take (i := 17) (oi := ?oiA17) (v := ?vA17) ?hiA17 (by kernel_rfl) (by kernel_rfl) (by kernel_rfl) ?hqA17 (Or.inl ⟨?hwA17, ?hyA17⟩) (by assumption) ?restA17
    case hiA17 => exact rfl
    case hqA17 => exact fun _ _ _ h => h
    case hwA17 => rfl
    case hyA17 => (intro x hx; (try dsimp only at hx); simp only [List.getElem_toArray, List.getElem_cons_succ, List.getElem_cons_zero]; go_split_ands; go_simp; try with_reducible rfl)
    try simp only [Act.put, List.setIfInBounds_toArray, List.set_cons_zero, List.set_cons_succ, List.getElem_toArray, List.getElem_cons_succ, List.getElem_cons_zero]
    refine wpAnyH_take (i := 18) (oi := ?oiA18) (v := ?vA18) ?hiA18 (by kernel_rfl) (by kernel_rfl) (by kernel_rfl) ?hqA18 (Or.inl ⟨?hwA18, ?hyA18⟩) (by assumption) ?restA18
    case hiA18 => exact rfl
    case hqA18 => exact fun _ _ _ h => h
    case hwA18 => rfl
    case hyA18 => (intro x hx; (try dsimp only at hx); simp only [List.getElem_toArray, List.getElem_cons_succ, List.getElem_cons_zero]; go_split_ands; go_simp; try with_reducible rfl)
    try simp only [Act.put, List.setIfInBounds_toArray, List.set_cons_zero, List.set_cons_succ, List.getElem_toArray, List.getElem_cons_succ, List.getElem_cons_zero]
    refine wpAnyH_take (i := 19) (oi := ?oiA19) (v := ?vA19) ?hiA19 (by kernel_rfl) (by kernel_rfl) (by kernel_rfl) ?hqA19 (Or.inl ⟨?hwA19, ?hyA19⟩) (by assumption) ?restA19
    case hiA19 => exact rfl
    case hqA19 => exact fun _ _ _ h => h
    case hwA19 => rfl
    case hyA19 => (intro x hx; (try dsimp only at hx); simp only [List.getElem_toArray, List.getElem_cons_succ, List.getElem_cons_zero]; go_split_ands; go_simp; try with_reducible rfl)
    try simp only [Act.put, List.setIfInBounds_toArray, List.set_cons_zero, List.set_cons_succ, List.getElem_toArray, List.getElem_cons_succ, List.getElem_cons_zero]
    refine wpAnyH_take (i := 20) (oi := ?oiA20) (v := ?vA20) ?hiA20 (by kernel_rfl) (by kernel_rfl) (by kernel_rfl) ?hqA20 (Or.inl ⟨?hwA20, ?hyA20⟩) (by assumption) ?restA20
    case hiA20 => exact rfl
    case hqA20 => exact fun _ _ _ h => h
    case hwA20 => rfl
    case hyA20 => (intro x hx; (try dsimp only at hx); simp only [List.getElem_toArray, List.getElem_cons_succ, List.getElem_cons_zero]; go_split_ands; go_simp; try with_reducible rfl)
    try simp only [Act.put, List.setIfInBounds_toArray, List.set_cons_zero, List.set_cons_succ, List.getElem_toArray, List.getElem_cons_succ, List.getElem_cons_zero]
    refine wpAnyH_done (by kernel_rfl) ?_ _
    go_wp2
    go_ret
    rw [HR.out]
    exact ⟨rfl, HB.out.trans ⟨rfl, rfl, rfl, Nat.le_refl _, fun _ _ => rfl⟩⟩
   ·have hr : amB [u] l h = false := by simp [amB, c2]
    have HR := Lib.hid hr
    clear hr
    refine wp_region_held (S := fun w' : World => w'.cell? ⟨W.heap.size, 1, none⟩ = some (.slice (some ad) 1 cx) ∧ w'.cell? ⟨L0, 0, none⟩ = some (.int .i32 l) ∧ w'.cell? ⟨H0, 0, none⟩ = some (.int .i32 h) ∧ w'.cell? ad = some (.int .i32 u)) (by kernel_rfl) ?_
    change wpAnyH _ _ _ _ _ _ _ _ W1.drew
    have hS := (show (fun w' : World => w'.cell? ⟨W.heap.size, 1, none⟩ = some (.slice (some ad) 1 cx) ∧ w'.cell? ⟨L0, 0, none⟩ = some (.int .i32 l) ∧ w'.cell? ⟨H0, 0, none⟩ = some (.int .i32 h) ∧ w'.cell? ad = some (.int .i32 u)) W1.drew from ⟨q0, q1, q2, q3⟩)
    refine wpAnyH_take (i := 0) (oi := ?oiB0) (v := ?vB0) ?hiB0 (by kernel_rfl) (by kernel_rfl) (by kernel_rfl) ?hqB0 (Or.inl ⟨?hwB0, ?hyB0⟩) (by assumption) ?restB0
    case hiB0 => exact rfl
    case hqB0 => exact fun _ _ _ h => h
    case hwB0 => rfl
    case hyB0 => (intro x hx; (try dsimp only at hx); simp only [List.getElem_toArray, List.getElem_cons_zero]; go_split_ands; go_simp; try with_reducible rfl)
    try simp only [Act.put, List.setIfInBounds_toArray, List.set_cons_zero, List.set_cons_succ, List.getElem_toArray, List.getElem_cons_zero]
    refine wpAnyH_take (i := 1) (oi := ?oiB1) (v := ?vB1) ?hiB1 (by kernel_rfl) (by kernel_rfl) (by kernel_rfl) ?hqB1 (Or.inl ⟨?hwB1, ?hyB1⟩) (by assumption) ?restB1
    case hiB1 => exact rfl
    case hqB1 => exact fun _ _ _ h => h
    case hwB1 => rfl
    case hyB1 => (intro x hx; (try dsimp only at hx); simp only [List.getElem_toArray, List.getElem_cons_succ, List.getElem_cons_zero]; go_split_ands; go_simp; try with_reducible rfl)
    try simp only [Act.put, List.setIfInBounds_toArray, List.set_cons_zero, List.set_cons_succ, List.getElem_toArray, List.getElem_cons_succ, List.getElem_cons_zero]
    refine wpAnyH_take (i := 2) (oi := ?oiB2) (v := ?vB2) ?hiB2 (by kernel_rfl) (by kernel_rfl) (by kernel_rfl) ?hqB2 (Or.inl ⟨?hwB2, ?hyB2⟩) (by assumption) ?restB2
    case hiB2 => exact rfl
    case hqB2 => exact fun _ _ _ h => h
    case hwB2 => rfl
    case hyB2 => (intro x hx; (try dsimp only at hx); simp only [List.getElem_toArray, List.getElem_cons_succ, List.getElem_cons_zero]; go_split_ands; go_simp; try with_reducible rfl)
    try simp only [Act.put, List.setIfInBounds_toArray, List.set_cons_zero, List.set_cons_succ, List.getElem_toArray, List.getElem_cons_succ, List.getElem_cons_zero]
    refine wpAnyH_take (i := 3) (oi := ?oiB3) (v := ?vB3) ?hiB3 (by kernel_rfl) (by kernel_rfl) (by kernel_rfl) ?hqB3 (Or.inl ⟨?hwB3, ?hyB3⟩) (by assumption) ?restB3
    case hiB3 => exact rfl
    case hqB3 => exact fun _ _ _ h => h
    case hwB3 => rfl
    case hyB3 => (intro x hx; (try dsimp only at hx); simp only [List.getElem_toArray, List.getElem_cons_succ, List.getElem_cons_zero]; go_split_ands; go_simp; try with_reducible rfl)
    try simp only [Act.put, List.setIfInBounds_toArray, List.set_cons_zero, List.set_cons_succ, List.getElem_toArray, List.getElem_cons_succ, List.getElem_cons_zero]
    refine wpAnyH_take (i := 4) (oi := ?oiB4) (v := ?vB4) ?hiB4 (by kernel_rfl) (by kernel_rfl) (by kernel_rfl) ?hqB4 (Or.inl ⟨?hwB4, ?hyB4⟩) (by assumption) ?restB4
    case hiB4 => exact rfl
    case hqB4 => exact fun _ _ _ h => h
    case hwB4 => rfl
    case hyB4 => (intro x hx; (try dsimp only at hx); simp only [List.getElem_toArray, List.getElem_cons_succ, List.getElem_cons_zero]; go_split_ands; go_simp; try with_reducible rfl)
    try simp only [Act.put, List.setIfInBounds_toArray, List.set_cons_zero, List.set_cons_succ, List.getElem_toArray, List.getElem_cons_succ, List.getElem_cons_zero]
    refine wpAnyH_take (i := 5) (oi := ?oiB5) (v := ?vB5) ?hiB5 (by kernel_rfl) (by kernel_rfl) (by kernel_rfl) ?hqB5 (Or.inl ⟨?hwB5, ?hyB5⟩) (by assumption) ?restB5
    case hiB5 => exact rfl
    case hqB5 => exact fun _ _ _ h => h
    case hwB5 => rfl
    case hyB5 => (intro x hx; (try dsimp only at hx); simp only [List.getElem_toArray, List.getElem_cons_succ, List.getElem_cons_zero]; go_split_ands; go_simp; try with_reducible rfl)
    try simp only [Act.put, List.setIfInBounds_toArray, List.set_cons_zero, List.set_cons_succ, List.getElem_toArray, List.getElem_cons_succ, List.getElem_cons_zero]
    refine wpAnyH_take (i := 6) (oi := ?oiB6) (v := ?vB6) ?hiB6 (by kernel_rfl) (by kernel_rfl) (by kernel_rfl) ?hqB6 (Or.inl ⟨?hwB6, ?hyB6⟩) (by assumption) ?restB6
    case hiB6 => exact rfl
    case hqB6 => exact fun _ _ _ h => h
    case hwB6 => rfl
    case hyB6 => (intro x hx; (try dsimp only at hx); simp only [List.getElem_toArray, List.getElem_cons_succ, List.getElem_cons_zero]; go_split_ands; go_simp; try with_reducible rfl)
    try simp only [Act.put, List.setIfInBounds_toArray, List.set_cons_zero, List.set_cons_succ, List.getElem_toArray, List.getElem_cons_succ, List.getElem_cons_zero]
    refine wpAnyH_take (i := 7) (oi := ?oiB7) (v := ?vB7) ?hiB7 (by kernel_rfl) (by kernel_rfl) (by kernel_rfl) ?hqB7 (Or.inl ⟨?hwB7, ?hyB7⟩) (by assumption) ?restB7
    case hiB7 => exact rfl
    case hqB7 => exact fun _ _ _ h => h
    case hwB7 => rfl
    case hyB7 => (intro x hx; (try dsimp only at hx); simp only [List.getElem_toArray, List.getElem_cons_succ, List.getElem_cons_zero]; go_split_ands; go_simp; try with_reducible rfl)
    try simp only [Act.put, List.setIfInBounds_toArray, List.set_cons_zero, List.set_cons_succ, List.getElem_toArray, List.getElem_cons_succ, List.getElem_cons_zero]
    refine wpAnyH_take (i := 8) (oi := ?oiB8) (v := ?vB8) ?hiB8 (by kernel_rfl) (by kernel_rfl) (by kernel_rfl) ?hqB8 (Or.inl ⟨?hwB8, ?hyB8⟩) (by assumption) ?restB8
    case hiB8 => exact rfl
    case hqB8 => exact fun _ _ _ h => h
    case hwB8 => rfl
    case hyB8 => (intro x hx; (try dsimp only at hx); simp only [List.getElem_toArray, List.getElem_cons_succ, List.getElem_cons_zero]; go_split_ands; go_simp; try with_reducible rfl)
    try simp only [Act.put, List.setIfInBounds_toArray, List.set_cons_zero, List.set_cons_succ, List.getElem_toArray, List.getElem_cons_succ, List.getElem_cons_zero]
    refine wpAnyH_take (i := 9) (oi := ?oiB9) (v := ?vB9) ?hiB9 (by kernel_rfl) (by kernel_rfl) (by kernel_rfl) ?hqB9 (Or.inl ⟨?hwB9, ?hyB9⟩) (by assumption) ?restB9
    case hiB9 => exact rfl
    case hqB9 => exact fun _ _ _ h => h
    case hwB9 => rfl
    case hyB9 => (intro x hx; (try dsimp only at hx); simp only [List.getElem_toArray, List.getElem_cons_succ, List.getElem_cons_zero]; go_split_ands; go_simp; try with_reducible rfl)
    try simp only [Act.put, List.setIfInBounds_toArray, List.set_cons_zero, List.set_cons_succ, List.getElem_toArray, List.getElem_cons_succ, List.getElem_cons_zero]
    refine wpAnyH_take (i := 10) (oi := ?oiB10) (v := ?vB10) ?hiB10 (by kernel_rfl) (by kernel_rfl) (by kernel_rfl) ?hqB10 (Or.inl ⟨?hwB10, ?hyB10⟩) (by assumption) ?restB10
    case hiB10 => exact rfl
    case hqB10 => exact fun _ _ _ h => h
    case hwB10 => rfl
    case hyB10 => (intro x hx; (try dsimp only at hx); simp only [List.getElem_toArray, List.getElem_cons_succ, List.getElem_cons_zero]; go_split_ands; go_simp; try with_reducible rfl)
    try simp only [Act.put, List.setIfInBounds_toArray, List.set_cons_zero, List.set_cons_succ, List.getElem_toArray, List.getElem_cons_succ, List.getElem_cons_zero]
    refine wpAnyH_take (i := 11) (oi := ?oiB11) (v := ?vB11) ?hiB11 (by kernel_rfl) (by kernel_rfl) (by kernel_rfl) ?hqB11 (Or.inl ⟨?hwB11, ?hyB11⟩) (by assumption) ?restB11
    case hiB11 => exact rfl
    case hqB11 => exact fun _ _ _ h => h
    case hwB11 => rfl
    case hyB11 => (intro x hx; (try dsimp only at hx); simp only [List.getElem_toArray, List.getElem_cons_succ, List.getElem_cons_zero]; go_split_ands; go_simp; try with_reducible rfl)
    try simp only [Act.put, List.setIfInBounds_toArray, List.set_cons_zero, List.set_cons_succ, List.getElem_toArray, List.getElem_cons_succ, List.getElem_cons_zero]
    refine wpAnyH_take (i := 12) (oi := ?oiB12) (v := ?vB12) ?hiB12 (by kernel_rfl) (by kernel_rfl) (by kernel_rfl) ?hqB12 (Or.inl ⟨?hwB12, ?hyB12⟩) (by assumption) ?restB12
    case hiB12 => exact rfl
    case hqB12 => exact fun _ _ _ h => h
    case hwB12 => rfl
    case hyB12 => (intro x hx; (try dsimp only at hx); simp only [List.getElem_toArray, List.getElem_cons_succ, List.getElem_cons_zero]; go_split_ands; go_simp; try with_reducible rfl)
    try simp only [Act.put, List.setIfInBounds_toArray, List.set_cons_zero, List.set_cons_succ, List.getElem_toArray, List.getElem_cons_succ, List.getElem_cons_zero]
    refine wpAnyH_take (i := 13) (oi := ?oiB13) (v := ?vB13) ?hiB13 (by kernel_rfl) (by kernel_rfl) (by kernel_rfl) ?hqB13 (Or.inl ⟨?hwB13, ?hyB13⟩) (by assumption) ?restB13
    case hiB13 => exact rfl
    case hqB13 => exact fun _ _ _ h => h
    case hwB13 => rfl
    case hyB13 => (intro x hx; (try dsimp only at hx); simp only [List.getElem_toArray, List.getElem_cons_succ, List.getElem_cons_zero]; go_split_ands; go_simp; try with_reducible rfl)
    try simp only [Act.put, List.setIfInBounds_toArray, List.set_cons_zero, List.set_cons_succ, List.getElem_toArray, List.getElem_cons_succ, List.getElem_cons_zero]
    refine wpAnyH_take (i := 14) (oi := ?oiB14) (v := ?vB14) ?hiB14 (by kernel_rfl) (by kernel_rfl) (by kernel_rfl) ?hqB14 (Or.inl ⟨?hwB14, ?hyB14⟩) (by assumption) ?restB14
    case hiB14 => exact rfl
    case hqB14 => exact fun _ _ _ h => h
    case hwB14 => rfl
    case hyB14 => (intro x hx; (try dsimp only at hx); simp only [List.getElem_toArray, List.getElem_cons_succ, List.getElem_cons_zero]; go_split_ands; go_simp; try with_reducible rfl)
    try simp only [Act.put, List.setIfInBounds_toArray, List.set_cons_zero, List.set_cons_succ, List.getElem_toArray, List.getElem_cons_succ, List.getElem_cons_zero]
    refine wpAnyH_take (i := 15) (oi := ?oiB15) (v := ?vB15) ?hiB15 (by kernel_rfl) (by kernel_rfl) (by kernel_rfl) ?hqB15 (Or.inl ⟨?hwB15, ?hyB15⟩) (by assumption) ?restB15
    case hiB15 => exact rfl
    case hqB15 => exact fun _ _ _ h => h
    case hwB15 => rfl
    case hyB15 => (intro x hx; (try dsimp only at hx); simp only [List.getElem_toArray, List.getElem_cons_succ, List.getElem_cons_zero]; go_split_ands; go_simp; try with_reducible rfl)
    try simp only [Act.put, List.setIfInBounds_toArray, List.set_cons_zero, List.set_cons_succ, List.getElem_toArray, List.getElem_cons_succ, List.getElem_cons_zero]
    refine wpAnyH_take (i := 16) (oi := ?oiB16) (v := ?vB16) ?hiB16 (by kernel_rfl) (by kernel_rfl) (by kernel_rfl) ?hqB16 (Or.inl ⟨?hwB16, ?hyB16⟩) (by assumption) ?restB16
    case hiB16 => exact rfl
    case hqB16 => exact fun _ _ _ h => h
    case hwB16 => rfl
    case hyB16 => (intro x hx; (try dsimp only at hx); simp only [List.getElem_toArray, List.getElem_cons_succ, List.getElem_cons_zero]; go_split_ands; go_simp; try with_reducible rfl)
    try simp only [Act.put, List.setIfInBounds_toArray, List.set_cons_zero, List.set_cons_succ, List.getElem_toArray, List.getElem_cons_succ, List.getElem_cons_zero]
    refine wpAnyH_take (i := 17) (oi := ?oiB17) (v := ?vB17) ?hiB17 (by kernel_rfl) (by kernel_rfl) (by kernel_rfl) ?hqB17 (Or.inl ⟨?hwB17, ?hyB17⟩) (by assumption) ?restB17
    case hiB17 => exact rfl
    case hqB17 => exact fun _ _ _ h => h
    case hwB17 => rfl
    case hyB17 => (intro x hx; (try dsimp only at hx); simp only [List.getElem_toArray, List.getElem_cons_succ, List.getElem_cons_zero]; go_split_ands; go_simp; try with_reducible rfl)
    try simp only [Act.put, List.setIfInBounds_toArray, List.set_cons_zero, List.set_cons_succ, List.getElem_toArray, List.getElem_cons_succ, List.getElem_cons_zero]
    refine wpAnyH_take (i := 18) (oi := ?oiB18) (v := ?vB18) ?hiB18 (by kernel_rfl) (by kernel_rfl) (by kernel_rfl) ?hqB18 (Or.inl ⟨?hwB18, ?hyB18⟩) (by assumption) ?restB18
    case hiB18 => exact rfl
    case hqB18 => exact fun _ _ _ h => h
    case hwB18 => rfl
    case hyB18 => (intro x hx; (try dsimp only at hx); simp only [List.getElem_toArray, List.getElem_cons_succ, List.getElem_cons_zero]; go_split_ands; go_simp; try with_reducible rfl)
    try simp only [Act.put, List.setIfInBounds_toArray, List.set_cons_zero, List.set_cons_succ, List.getElem_toArray, List.getElem_cons_succ, List.getElem_cons_zero]
    refine wpAnyH_take (i := 19) (oi := ?oiB19) (v := ?vB19) ?hiB19 (by kernel_rfl) (by kernel_rfl) (by kernel_rfl) ?hqB19 (Or.inl ⟨?hwB19, ?hyB19⟩) (by assumption) ?restB19
    case hiB19 => exact rfl
    case hqB19 => exact fun _ _ _ h => h
    case hwB19 => rfl
    case hyB19 => (intro x hx; (try dsimp only at hx); simp only [List.getElem_toArray, List.getElem_cons_succ, List.getElem_cons_zero]; go_split_ands; go_simp; try with_reducible rfl)
    try simp only [Act.put, List.setIfInBounds_toArray, List.set_cons_zero, List.set_cons_succ, List.getElem_toArray, List.getElem_cons_succ, List.getElem_cons_zero]
    refine wpAnyH_take (i := 20) (oi := ?oiB20) (v := ?vB20) ?hiB20 (by kernel_rfl) (by kernel_rfl) (by kernel_rfl) ?hqB20 (Or.inl ⟨?hwB20, ?hyB20⟩) (by assumption) ?restB20
    case hiB20 => exact rfl
    case hqB20 => exact fun _ _ _ h => h
    case hwB20 => rfl
    case hyB20 => (intro x hx; (try dsimp only at hx); simp only [List.getElem_toArray, List.getElem_cons_succ, List.getElem_cons_zero]; go_split_ands; go_simp; try with_reducible rfl)
    try simp only [Act.put, List.setIfInBounds_toArray, List.set_cons_zero, List.set_cons_succ, List.getElem_toArray, List.getElem_cons_succ, List.getElem_cons_zero]
    refine wpAnyH_done (by kernel_rfl) ?_ _
    go_wp2
    go_ret
    rw [HR.out]
    exact ⟨rfl, HB.out.trans ⟨rfl, rfl, rfl, Nat.le_refl _, fun _ _ => rfl⟩⟩
  ·have hr : amB [u] l h = false := by simp [amB, c1]
   have HR := Lib.hid hr
   clear hr
   refine wp_region_held (S := fun w' : World => w'.cell? ⟨W.heap.size, 1, none⟩ = some (.slice (some ad) 1 cx) ∧ w'.cell? ⟨L0, 0, none⟩ = some (.int .i32 l) ∧ w'.cell? ⟨H0, 0, none⟩ = some (.int .i32 h) ∧ w'.cell? ad = some (.int .i32 u)) (by kernel_rfl) ?_
   change wpAnyH _ _ _ _ _ _ _ _ W1.drew
   have hS := (show (fun w' : World => w'.cell? ⟨W.heap.size, 1, none⟩ = some (.slice (some ad) 1 cx) ∧ w'.cell? ⟨L0, 0, none⟩ = some (.int .i32 l) ∧ w'.cell? ⟨H0, 0, none⟩ = some (.int .i32 h) ∧ w'.cell? ad = some (.int .i32 u)) W1.drew from ⟨q0, q1, q2, q3⟩)
   refine wpAnyH_take (i := 0) (oi := ?oiC0) (v := ?vC0) ?hiC0 (by kernel_rfl) (by kernel_rfl) (by kernel_rfl) ?hqC0 (Or.inl ⟨?hwC0, ?hyC0⟩) (by assumption) ?restC0
   case hiC0 => exact rfl
   case hqC0 => exact fun _ _ _ h => h
   case hwC0 => rfl
   case hyC0 => (intro x hx; (try dsimp only at hx); simp only [List.getElem_toArray, List.getElem_cons_zero]; go_split_ands; go_simp; try with_reducible rfl)
   try simp only [Act.put, List.setIfInBounds_toArray, List.set_cons_zero, List.set_cons_succ, List.getElem_toArray, List.getElem_cons_zero]
   refine wpAnyH_take (i := 1) (oi := ?oiC1) (v := ?vC1) ?hiC1 (by kernel_rfl) (by kernel_rfl) (by kernel_rfl) ?hqC1 (Or.inl ⟨?hwC1, ?hyC1⟩) (by assumption) ?restC1
   case hiC1 => exact rfl
   case hqC1 => exact fun _ _ _ h => h
   case hwC1 => rfl
   case hyC1 => (intro x hx; (try dsimp only at hx); simp only [List.getElem_toArray, List.getElem_cons_succ, List.getElem_cons_zero]; go_split_ands; go_simp; try with_reducible rfl)
   try simp only [Act.put, List.setIfInBounds_toArray, List.set_cons_zero, List.set_cons_succ, List.getElem_toArray, List.getElem_cons_succ, List.getElem_cons_zero]
   refine wpAnyH_take (i := 2) (oi := ?oiC2) (v := ?vC2) ?hiC2 (by kernel_rfl) (by kernel_rfl) (by kernel_rfl) ?hqC2 (Or.inl ⟨?hwC2, ?hyC2⟩) (by assumption) ?restC2
   case hiC2 => exact rfl
   case hqC2 => exact fun _ _ _ h => h
   case hwC2 => rfl
   case hyC2 => (intro x hx; (try dsimp only at hx); simp only [List.getElem_toArray, List.getElem_cons_succ, List.getElem_cons_zero]; go_split_ands; go_simp; try with_reducible rfl)
   try simp only [Act.put, List.setIfInBounds_toArray, List.set_cons_zero, List.set_cons_succ, List.getElem_toArray, List.getElem_cons_succ, List.getElem_cons_zero]
   refine wpAnyH_take (i := 3) (oi := ?oiC3) (v := ?vC3) ?hiC3 (by kernel_rfl) (by kernel_rfl) (by kernel_rfl) ?hqC3 (Or.inl ⟨?hwC3, ?hyC3⟩) (by assumption) ?restC3
   case hiC3 => exact rfl
   case hqC3 => exact fun _ _ _ h => h
   case hwC3 => rfl
   case hyC3 => (intro x hx; (try dsimp only at hx); simp only [List.getElem_toArray, List.getElem_cons_succ, List.getElem_cons_zero]; go_split_ands; go_simp; try with_reducible rfl)
   try simp only [Act.put, List.setIfInBounds_toArray, List.set_cons_zero, List.set_cons_succ, List.getElem_toArray, List.getElem_cons_succ, List.getElem_cons_zero]
   refine wpAnyH_take (i := 4) (oi := ?oiC4) (v := ?vC4) ?hiC4 (by kernel_rfl) (by kernel_rfl) (by kernel_rfl) ?hqC4 (Or.inl ⟨?hwC4, ?hyC4⟩) (by assumption) ?restC4
   case hiC4 => exact rfl
   case hqC4 => exact fun _ _ _ h => h
   case hwC4 => rfl
   case hyC4 => (intro x hx; (try dsimp only at hx); simp only [List.getElem_toArray, List.getElem_cons_succ, List.getElem_cons_zero]; go_split_ands; go_simp; try with_reducible rfl)
   try simp only [Act.put, List.setIfInBounds_toArray, List.set_cons_zero, List.set_cons_succ, List.getElem_toArray, List.getElem_cons_succ, List.getElem_cons_zero]
   refine wpAnyH_take (i := 5) (oi := ?oiC5) (v := ?vC5) ?hiC5 (by kernel_rfl) (by kernel_rfl) (by kernel_rfl) ?hqC5 (Or.inl ⟨?hwC5, ?hyC5⟩) (by assumption) ?restC5
   case hiC5 => exact rfl
   case hqC5 => exact fun _ _ _ h => h
   case hwC5 => rfl
   case hyC5 => (intro x hx; (try dsimp only at hx); simp only [List.getElem_toArray, List.getElem_cons_succ, List.getElem_cons_zero]; go_split_ands; go_simp; try with_reducible rfl)
   try simp only [Act.put, List.setIfInBounds_toArray, List.set_cons_zero, List.set_cons_succ, List.getElem_toArray, List.getElem_cons_succ, List.getElem_cons_zero]
   refine wpAnyH_take (i := 6) (oi := ?oiC6) (v := ?vC6) ?hiC6 (by kernel_rfl) (by kernel_rfl) (by kernel_rfl) ?hqC6 (Or.inl ⟨?hwC6, ?hyC6⟩) (by assumption) ?restC6
   case hiC6 => exact rfl
   case hqC6 => exact fun _ _ _ h => h
   case hwC6 => rfl
   case hyC6 => (intro x hx; (try dsimp only at hx); simp only [List.getElem_toArray, List.getElem_cons_succ, List.getElem_cons_zero]; go_split_ands; go_simp; try with_reducible rfl)
   try simp only [Act.put, List.setIfInBounds_toArray, List.set_cons_zero, List.set_cons_succ, List.getElem_toArray, List.getElem_cons_succ, List.getElem_cons_zero]
   refine wpAnyH_take (i := 7) (oi := ?oiC7) (v := ?vC7) ?hiC7 (by kernel_rfl) (by kernel_rfl) (by kernel_rfl) ?hqC7 (Or.inl ⟨?hwC7, ?hyC7⟩) (by assumption) ?restC7
   case hiC7 => exact rfl
   case hqC7 => exact fun _ _ _ h => h
   case hwC7 => rfl
   case hyC7 => (intro x hx; (try dsimp only at hx); simp only [List.getElem_toArray, List.getElem_cons_succ, List.getElem_cons_zero]; go_split_ands; go_simp; try with_reducible rfl)
   try simp only [Act.put, List.setIfInBounds_toArray, List.set_cons_zero, List.set_cons_succ, List.getElem_toArray, List.getElem_cons_succ, List.getElem_cons_zero]
   refine wpAnyH_take (i := 8) (oi := ?oiC8) (v := ?vC8) ?hiC8 (by kernel_rfl) (by kernel_rfl) (by kernel_rfl) ?hqC8 (Or.inl ⟨?hwC8, ?hyC8⟩) (by assumption) ?restC8
   case hiC8 => exact rfl
   case hqC8 => exact fun _ _ _ h => h
   case hwC8 => rfl
   case hyC8 => (intro x hx; (try dsimp only at hx); simp only [List.getElem_toArray, List.getElem_cons_succ, List.getElem_cons_zero]; go_split_ands; go_simp; try with_reducible rfl)
   try simp only [Act.put, List.setIfInBounds_toArray, List.set_cons_zero, List.set_cons_succ, List.getElem_toArray, List.getElem_cons_succ, List.getElem_cons_zero]
   refine wpAnyH_take (i := 9) (oi := ?oiC9) (v := ?vC9) ?hiC9 (by kernel_rfl) (by kernel_rfl) (by kernel_rfl) ?hqC9 (Or.inl ⟨?hwC9, ?hyC9⟩) (by assumption) ?restC9
   case hiC9 => exact rfl
   case hqC9 => exact fun _ _ _ h => h
   case hwC9 => rfl
   case hyC9 => (intro x hx; (try dsimp only at hx); simp only [List.getElem_toArray, List.getElem_cons_succ, List.getElem_cons_zero]; go_split_ands; go_simp; try with_reducible rfl)
   try simp only [Act.put, List.setIfInBounds_toArray, List.set_cons_zero, List.set_cons_succ, List.getElem_toArray, List.getElem_cons_succ, List.getElem_cons_zero]
   refine wpAnyH_take (i := 10) (oi := ?oiC10) (v := ?vC10) ?hiC10 (by kernel_rfl) (by kernel_rfl) (by kernel_rfl) ?hqC10 (Or.inl ⟨?hwC10, ?hyC10⟩) (by assumption) ?restC10
   case hiC10 => exact rfl
   case hqC10 => exact fun _ _ _ h => h
   case hwC10 => rfl
   case hyC10 => (intro x hx; (try dsimp only at hx); simp only [List.getElem_toArray, List.getElem_cons_succ, List.getElem_cons_zero]; go_split_ands; go_simp; try with_reducible rfl)
   try simp only [Act.put, List.setIfInBounds_toArray, List.set_cons_zero, List.set_cons_succ, List.getElem_toArray, List.getElem_cons_succ, List.getElem_cons_zero]
   refine wpAnyH_take (i := 11) (oi := ?oiC11) (v := ?vC11) ?hiC11 (by kernel_rfl) (by kernel_rfl) (by kernel_rfl) ?hqC11 (Or.inl ⟨?hwC11, ?hyC11⟩) (by assumption) ?restC11
   case hiC11 => exact rfl
   case hqC11 => exact fun _ _ _ h => h
   case hwC11 => rfl
   case hyC11 => (intro x hx; (try dsimp only at hx); simp only [List.getElem_toArray, List.getElem_cons_succ, List.getElem_cons_zero]; go_split_ands; go_simp; try with_reducible rfl)
   try simp only [Act.put, List.setIfInBounds_toArray, List.set_cons_zero, List.set_cons_succ, List.getElem_toArray, List.getElem_cons_succ, List.getElem_cons_zero]
   refine wpAnyH_take (i := 12) (oi := ?oiC12) (v := ?vC12) ?hiC12 (by kernel_rfl) (by kernel_rfl) (by kernel_rfl) ?hqC12 (Or.inl ⟨?hwC12, ?hyC12⟩) (by assumption) ?restC12
   case hiC12 => exact rfl
   case hqC12 => exact fun _ _ _ h => h
   case hwC12 => rfl
   case hyC12 => (intro x hx; (try dsimp only at hx); simp only [List.getElem_toArray, List.getElem_cons_succ, List.getElem_cons_zero]; go_split_ands; go_simp; try with_reducible rfl)
   try simp only [Act.put, List.setIfInBounds_toArray, List.set_cons_zero, List.set_cons_succ, List.getElem_toArray, List.getElem_cons_succ, List.getElem_cons_zero]
   refine wpAnyH_take (i := 13) (oi := ?oiC13) (v := undef) ?hiC13 (by kernel_rfl) (by kernel_rfl) (by kernel_rfl) ?hqC13 (Or.inr ⟨?hwC13, rfl⟩) (by assumption) ?restC13
   case hiC13 => exact rfl
   case hqC13 => exact fun _ _ _ h => h
   case hwC13 => rfl
   try simp only [Act.put, List.setIfInBounds_toArray, List.set_cons_zero, List.set_cons_succ, List.getElem_toArray, List.getElem_cons_succ, List.getElem_cons_zero]
   refine wpAnyH_take (i := 14) (oi := ?oiC14) (v := undef) ?hiC14 (by kernel_rfl) (by kernel_rfl) (by kernel_rfl) ?hqC14 (Or.inr ⟨?hwC14, rfl⟩) (by assumption) ?restC14
   case hiC14 => exact rfl
   case hqC14 => exact fun _ _ _ h => h
   case hwC14 => rfl
   try simp only [Act.put, List.setIfInBounds_toArray, List.set_cons_zero, List.set_cons_succ, List.getElem_toArray, List.getElem_cons_succ, List.getElem_cons_zero]
   refine wpAnyH_take (i := 15) (oi := ?oiC15) (v := undef) ?hiC15 (by kernel_rfl) (by kernel_rfl) (by kernel_rfl) ?hqC15 (Or.inr ⟨?hwC15, rfl⟩) (by assumption) ?restC15
   case hiC15 => exact rfl
   case hqC15 => exact fun _ _ _ h => h
   case hwC15 => rfl
   try simp only [Act.put, List.setIfInBounds_toArray, List.set_cons_zero, List.set_cons_succ, List.getElem_toArray, List.getElem_cons_succ, List.getElem_cons_zero]
   refine wpAnyH_take (i := 16) (oi := ?oiC16) (v := undef) ?hiC16 (by kernel_rfl) (by kernel_rfl) (by kernel_rfl) ?hqC16 (Or.inr ⟨?hwC16, rfl⟩) (by assumption) ?restC16
   case hiC16 => exact rfl
   case hqC16 => exact fun _ _ _ h => h
   case hwC16 => rfl
   try simp only [Act.put, List.setIfInBounds_toArray, List.set_cons_zero, List.set_cons_succ, List.getElem_toArray, List.getElem_cons_succ, List.getElem_cons_zero]
   refine wpAnyH_take (i := 17) (oi := ?oiC17) (v := undef) ?hiC17 (by kernel_rfl) (by kernel_rfl) (by kernel_rfl) ?hqC17 (Or.inr ⟨?hwC17, rfl⟩) (by assumption) ?restC17
   case hiC17 => exact rfl
   case hqC17 => exact fun _ _ _ h => h
   case hwC17 => rfl
   try simp only [Act.put, List.setIfInBounds_toArray, List.set_cons_zero, List.set_cons_succ, List.getElem_toArray, List.getElem_cons_succ, List.getElem_cons_zero]
   refine wpAnyH_take (i := 18) (oi := ?oiC18) (v := undef) ?hiC18 (by kernel_rfl) (by kernel_rfl) (by kernel_rfl) ?hqC18 (Or.inr ⟨?hwC18, rfl⟩) (by assumption) ?restC18
   case hiC18 => exact rfl
   case hqC18 => exact fun _ _ _ h => h
   case hwC18 => rfl
   try simp only [Act.put, List.setIfInBounds_toArray, List.set_cons_zero, List.set_cons_succ, List.getElem_toArray, List.getElem_cons_succ, List.getElem_cons_zero]
   refine wpAnyH_take (i := 19) (oi := ?oiC19) (v := ?vC19) ?hiC19 (by kernel_rfl) (by kernel_rfl) (by kernel_rfl) ?hqC19 (Or.inl ⟨?hwC19, ?hyC19⟩) (by assumption) ?restC19
   case hiC19 => exact rfl
   case hqC19 => exact fun _ _ _ h => h
   case hwC19 => rfl
   case hyC19 => (intro x hx; (try dsimp only at hx); simp only [List.getElem_toArray, List.getElem_cons_succ, List.getElem_cons_zero]; go_split_ands; go_simp; try with_reducible rfl)
   try simp only [Act.put, List.setIfInBounds_toArray, List.set_cons_zero, List.set_cons_succ, List.getElem_toArray, List.getElem_cons_succ, List.getElem_cons_zero]
   refine wpAnyH_take (i := 20) (oi := ?oiC20) (v := ?vC20) ?hiC20 (by kernel_rfl) (by kernel_rfl) (by kernel_rfl) ?hqC20 (Or.inl ⟨?hwC20, ?hyC20⟩) (by assumption) ?restC20
   case hiC20 => exact rfl
   case hqC20 => exact fun _ _ _ h => h
   case hwC20 => rfl
   case hyC20 => (intro x hx; (try dsimp only at hx); simp only [List.getElem_toArray, List.getElem_cons_succ, List.getElem_cons_zero]; go_split_ands; go_simp; try with_reducible rfl)
   try simp only [Act.put, List.setIfInBounds_toArray, List.set_cons_zero, List.set_cons_succ, List.getElem_toArray, List.getElem_cons_succ, List.getElem_cons_zero]
   refine wpAnyH_done (by kernel_rfl) ?_ _
   go_wp2
   go_ret
   rw [HR.out]
   exact ⟨rfl, HB.out.trans ⟨rfl, rfl, rfl, Nat.le_refl _, fun _ _ => rfl⟩⟩
 ·have hr : amB c l h = false := by
   match c, hlen with
   | [], _ => rfl
   | [_], hl => exact absurd hl.symm (by simpa using hn)
   | _ :: _ :: _, _ => rfl
  have HR := Lib.hid hr
  have i1 : ¬ (n : Int) = 1 := by omega
  have ib : ((n : Int) == (1 : Int)) = false := by simpa using i1
  clear hx hL hH hb hlen q0 q1 q2 hr
  go_enter Tryz.func174, Tryz.ntmps174
  go_wp2
  rw [← hW1]
  have q0 := Q0.out
  have q1 := Q1.out
  have q2 := Q2.out
  clear hW1
  refine wp_region_held (S := fun w' : World => w'.cell? ⟨W.heap.size, 1, none⟩ = some (.slice A n cx) ∧ w'.cell? ⟨L0, 0, none⟩ = some (.int .i32 l) ∧ w'.cell? ⟨H0, 0, none⟩ = some (.int .i32 h)) (by kernel_rfl) ?_
  change wpAnyH _ _ _ _ _ _ _ _ W1.drew
  have hS := (show (fun w' : World => w'.cell? ⟨W.heap.size, 1, none⟩ = some (.slice A n cx) ∧ w'.cell? ⟨L0, 0, none⟩ = some (.int .i32 l) ∧ w'.cell? ⟨H0, 0, none⟩ = some (.int .i32 h)) W1.drew from ⟨q0, q1, q2⟩)
  refine wpAnyH_take (i := 0) (oi := ?oiD0) (v := ?vD0) ?hiD0 (by kernel_rfl) (by kernel_rfl) (by kernel_rfl) ?hqD0 (Or.inl ⟨?hwD0, ?hyD0⟩) (by assumption) ?restD0
  case hiD0 => exact rfl
  case hqD0 => exact fun _ _ _ h => h
  case hwD0 => rfl
  case hyD0 => (intro x hx; (try dsimp only at hx); simp only [List.getElem_toArray, List.getElem_cons_zero]; go_split_ands; go_simp; try with_reducible rfl)
  try simp only [Act.put, List.setIfInBounds_toArray, List.set_cons_zero, List.set_cons_succ, List.getElem_toArray, List.getElem_cons_zero]
  refine wpAnyH_take (i := 1) (oi := ?oiD1) (v := ?vD1) ?hiD1 (by kernel_rfl) (by kernel_rfl) (by kernel_rfl) ?hqD1 (Or.inl ⟨?hwD1, ?hyD1⟩) (by assumption) ?restD1
  case hiD1 => exact rfl
  case hqD1 => exact fun _ _ _ h => h
  case hwD1 => rfl
  case hyD1 => (intro x hx; (try dsimp only at hx); simp only [List.getElem_toArray, List.getElem_cons_succ, List.getElem_cons_zero]; go_split_ands; go_simp; try with_reducible rfl)
  try simp only [Act.put, List.setIfInBounds_toArray, List.set_cons_zero, List.set_cons_succ, List.getElem_toArray, List.getElem_cons_succ, List.getElem_cons_zero]
  refine wpAnyH_take (i := 2) (oi := ?oiD2) (v := ?vD2) ?hiD2 (by kernel_rfl) (by kernel_rfl) (by kernel_rfl) ?hqD2 (Or.inl ⟨?hwD2, ?hyD2⟩) (by assumption) ?restD2
  case hiD2 => exact rfl
  case hqD2 => exact fun _ _ _ h => h
  case hwD2 => rfl
  case hyD2 => (intro x hx; (try dsimp only at hx); simp only [List.getElem_toArray, List.getElem_cons_succ, List.getElem_cons_zero]; go_split_ands; go_simp; try with_reducible rfl)
  try simp only [Act.put, List.setIfInBounds_toArray, List.set_cons_zero, List.set_cons_succ, List.getElem_toArray, List.getElem_cons_succ, List.getElem_cons_zero]
  refine wpAnyH_take (i := 3) (oi := ?oiD3) (v := ?vD3) ?hiD3 (by kernel_rfl) (by kernel_rfl) (by kernel_rfl) ?hqD3 (Or.inl ⟨?hwD3, ?hyD3⟩) (by assumption) ?restD3
  case hiD3 => exact rfl
  case hqD3 => exact fun _ _ _ h => h
  case hwD3 => rfl
  case hyD3 => (intro x hx; (try dsimp only at hx); simp only [List.getElem_toArray, List.getElem_cons_succ, List.getElem_cons_zero]; go_split_ands; go_simp; try with_reducible rfl)
  try simp only [Act.put, List.setIfInBounds_toArray, List.set_cons_zero, List.set_cons_succ, List.getElem_toArray, List.getElem_cons_succ, List.getElem_cons_zero]
  refine wpAnyH_take (i := 4) (oi := ?oiD4) (v := ?vD4) ?hiD4 (by kernel_rfl) (by kernel_rfl) (by kernel_rfl) ?hqD4 (Or.inl ⟨?hwD4, ?hyD4⟩) (by assumption) ?restD4
  case hiD4 => exact rfl
  case hqD4 => exact fun _ _ _ h => h
  case hwD4 => rfl
  case hyD4 => (intro x hx; (try dsimp only at hx); simp only [List.getElem_toArray, List.getElem_cons_succ, List.getElem_cons_zero]; go_split_ands; go_simp; try with_reducible rfl)
  try simp only [Act.put, List.setIfInBounds_toArray, List.set_cons_zero, List.set_cons_succ, List.getElem_toArray, List.getElem_cons_succ, List.getElem_cons_zero]
  refine wpAnyH_take (i := 5) (oi := ?oiD5) (v := undef) ?hiD5 (by kernel_rfl) (by kernel_rfl) (by kernel_rfl) ?hqD5 (Or.inr ⟨?hwD5, rfl⟩) (by assumption) ?restD5
  case hiD5 => exact rfl
  case hqD5 => exact fun _ _ _ h => h
  case hwD5 => rfl
  try simp only [Act.put, List.setIfInBounds_toArray, List.set_cons_zero, List.set_cons_succ, List.getElem_toArray, List.getElem_cons_succ, List.getElem_cons_zero]
  refine wpAnyH_take (i := 6) (oi := ?oiD6) (v := undef) ?hiD6 (by kernel_rfl) (by kernel_rfl) (by kernel_rfl) ?hqD6 (Or.inr ⟨?hwD6, rfl⟩) (by assumption) ?restD6
  case hiD6 => exact rfl
  case hqD6 => exact fun _ _ _ h => h
  case hwD6 => rfl
  try simp only [Act.put, List.setIfInBounds_toArray, List.set_cons_zero, List.set_cons_succ, List.getElem_toArray, List.getElem_cons_succ, List.getElem_cons_zero]
  refine wpAnyH_take (i := 7) (oi := ?oiD7) (v := undef) ?hiD7 (by kernel_rfl) (by kernel_rfl) (by kernel_rfl) ?hqD7 (Or.inr ⟨?hwD7, rfl⟩) (by assumption) ?restD7
  case hiD7 => exact rfl
  case hqD7 => exact fun _ _ _ h => h
  case hwD7 => rfl
  try simp only [Act.put, List.setIfInBounds_toArray, List.set_cons_zero, List.set_cons_succ, List.getElem_toArray, List.getElem_cons_succ, List.getElem_cons_zero]
  refine wpAnyH_take (i := 8) (oi := ?oiD8) (v := undef) ?hiD8 (by kernel_rfl) (by kernel_rfl) (by kernel_rfl) ?hqD8 (Or.inr ⟨?hwD8, rfl⟩) (by assumption) ?restD8
  case hiD8 => exact rfl
  case hqD8 => exact fun _ _ _ h => h
  case hwD8 => rfl
  try simp only [Act.put, List.setIfInBounds_toArray, List.set_cons_zero, List.set_cons_succ, List.getElem_toArray, List.getElem_cons_succ, List.getElem_cons_zero]
  refine wpAnyH_take (i := 9) (oi := ?oiD9) (v := undef) ?hiD9 (by kernel_rfl) (by kernel_rfl) (by kernel_rfl) ?hqD9 (Or.inr ⟨?hwD9, rfl⟩) (by assumption) ?restD9
  case hiD9 => exact rfl
  case hqD9 => exact fun _ _ _ h => h
  case hwD9 => rfl
  try simp only [Act.put, List.setIfInBounds_toArray, List.set_cons_zero, List.set_cons_succ, List.getElem_toArray, List.getElem_cons_succ, List.getElem_cons_zero]
  refine wpAnyH_take (i := 10) (oi := ?oiD10) (v := undef) ?hiD10 (by kernel_rfl) (by kernel_rfl) (by kernel_rfl) ?hqD10 (Or.inr ⟨?hwD10, rfl⟩) (by assumption) ?restD10
  case hiD10 => exact rfl
  case hqD10 => exact fun _ _ _ h => h
  case hwD10 => rfl
  try simp only [Act.put, List.setIfInBounds_toArray, List.set_cons_zero, List.set_cons_succ, List.getElem_toArray, List.getElem_cons_succ, List.getElem_cons_zero]
  refine wpAnyH_take (i := 11) (oi := ?oiD11) (v := ?vD11) ?hiD11 (by kernel_rfl) (by kernel_rfl) (by kernel_rfl) ?hqD11 (Or.inl ⟨?hwD11, ?hyD11⟩) (by assumption) ?restD11
  case hiD11 => exact rfl
  case hqD11 => exact fun _ _ _ h => h
  case hwD11 => rfl
  case hyD11 => (intro x hx; (try dsimp only at hx); simp only [List.getElem_toArray, List.getElem_cons_succ, List.getElem_cons_zero]; go_split_ands; go_simp; try with_reducible rfl)
  try simp only [Act.put, List.setIfInBounds_toArray, List.set_cons_zero, List.set_cons_succ, List.getElem_toArray, List.getElem_cons_succ, List.getElem_cons_zero]
  refine wpAnyH_take (i := 12) (oi := ?oiD12) (v := ?vD12) ?hiD12 (by kernel_rfl) (by kernel_rfl) (by kernel_rfl) ?hqD12 (Or.inl ⟨?hwD12, ?hyD12⟩) (by assumption) ?restD12
  case hiD12 => exact rfl
  case hqD12 => exact fun _ _ _ h => h
  case hwD12 => rfl
  case hyD12 => (intro x hx; (try dsimp only at hx); simp only [List.getElem_toArray, List.getElem_cons_succ, List.getElem_cons_zero]; go_split_ands; go_simp; try with_reducible rfl)
  try simp only [Act.put, List.setIfInBounds_toArray, List.set_cons_zero, List.set_cons_succ, List.getElem_toArray, List.getElem_cons_succ, List.getElem_cons_zero]
  refine wpAnyH_take (i := 13) (oi := ?oiD13) (v := undef) ?hiD13 (by kernel_rfl) (by kernel_rfl) (by kernel_rfl) ?hqD13 (Or.inr ⟨?hwD13, rfl⟩) (by assumption) ?restD13
  case hiD13 => exact rfl
  case hqD13 => exact fun _ _ _ h => h
  case hwD13 => rfl
  try simp only [Act.put, List.setIfInBounds_toArray, List.set_cons_zero, List.set_cons_succ, List.getElem_toArray, List.getElem_cons_succ, List.getElem_cons_zero]
  refine wpAnyH_take (i := 14) (oi := ?oiD14) (v := undef) ?hiD14 (by kernel_rfl) (by kernel_rfl) (by kernel_rfl) ?hqD14 (Or.inr ⟨?hwD14, rfl⟩) (by assumption) ?restD14
  case hiD14 => exact rfl
  case hqD14 => exact fun _ _ _ h => h
  case hwD14 => rfl
  try simp only [Act.put, List.setIfInBounds_toArray, List.set_cons_zero, List.set_cons_succ, List.getElem_toArray, List.getElem_cons_succ, List.getElem_cons_zero]
  refine wpAnyH_take (i := 15) (oi := ?oiD15) (v := undef) ?hiD15 (by kernel_rfl) (by kernel_rfl) (by kernel_rfl) ?hqD15 (Or.inr ⟨?hwD15, rfl⟩) (by assumption) ?restD15
  case hiD15 => exact rfl
  case hqD15 => exact fun _ _ _ h => h
  case hwD15 => rfl
  try simp only [Act.put, List.setIfInBounds_toArray, List.set_cons_zero, List.set_cons_succ, List.getElem_toArray, List.getElem_cons_succ, List.getElem_cons_zero]
  refine wpAnyH_take (i := 16) (oi := ?oiD16) (v := undef) ?hiD16 (by kernel_rfl) (by kernel_rfl) (by kernel_rfl) ?hqD16 (Or.inr ⟨?hwD16, rfl⟩) (by assumption) ?restD16
  case hiD16 => exact rfl
  case hqD16 => exact fun _ _ _ h => h
  case hwD16 => rfl
  try simp only [Act.put, List.setIfInBounds_toArray, List.set_cons_zero, List.set_cons_succ, List.getElem_toArray, List.getElem_cons_succ, List.getElem_cons_zero]
  refine wpAnyH_take (i := 17) (oi := ?oiD17) (v := undef) ?hiD17 (by kernel_rfl) (by kernel_rfl) (by kernel_rfl) ?hqD17 (Or.inr ⟨?hwD17, rfl⟩) (by assumption) ?restD17
  case hiD17 => exact rfl
  case hqD17 => exact fun _ _ _ h => h
  case hwD17 => rfl
  try simp only [Act.put, List.setIfInBounds_toArray, List.set_cons_zero, List.set_cons_succ, List.getElem_toArray, List.getElem_cons_succ, List.getElem_cons_zero]
  refine wpAnyH_take (i := 18) (oi := ?oiD18) (v := undef) ?hiD18 (by kernel_rfl) (by kernel_rfl) (by kernel_rfl) ?hqD18 (Or.inr ⟨?hwD18, rfl⟩) (by assumption) ?restD18
  case hiD18 => exact rfl
  case hqD18 => exact fun _ _ _ h => h
  case hwD18 => rfl
  try simp only [Act.put, List.setIfInBounds_toArray, List.set_cons_zero, List.set_cons_succ, List.getElem_toArray, List.getElem_cons_succ, List.getElem_cons_zero]
  refine wpAnyH_take (i := 19) (oi := ?oiD19) (v := ?vD19) ?hiD19 (by kernel_rfl) (by kernel_rfl) (by kernel_rfl) ?hqD19 (Or.inl ⟨?hwD19, ?hyD19⟩) (by assumption) ?restD19
  case hiD19 => exact rfl
  case hqD19 => exact fun _ _ _ h => h
  case hwD19 => rfl
  case hyD19 => (intro x hx; (try dsimp only at hx); simp only [List.getElem_toArray, List.getElem_cons_succ, List.getElem_cons_zero]; go_split_ands; go_simp; try with_reducible rfl)
  try simp only [Act.put, List.setIfInBounds_toArray, List.set_cons_zero, List.set_cons_succ, List.getElem_toArray, List.getElem_cons_succ, List.getElem_cons_zero]
  refine wpAnyH_take (i := 20) (oi := ?oiD20) (v := ?vD20) ?hiD20 (by kernel_rfl) (by kernel_rfl) (by kernel_rfl) ?hqD20 (Or.inl ⟨?hwD20, ?hyD20⟩) (by assumption) ?restD20
  case hiD20 => exact rfl
  case hqD20 => exact fun _ _ _ h => h
  case hwD20 => rfl
  case hyD20 => (intro x hx; (try dsimp only at hx); simp only [List.getElem_toArray, List.getElem_cons_succ, List.getElem_cons_zero]; go_split_ands; go_simp; try with_reducible rfl)
  try simp only [Act.put, List.setIfInBounds_toArray, List.set_cons_zero, List.set_cons_succ, List.getElem_toArray, List.getElem_cons_succ, List.getElem_cons_zero]
  refine wpAnyH_done (by kernel_rfl) ?_ _
  go_wp2
  go_ret
  rw [HR.out]
  exact ⟨rfl, HB.out.trans ⟨rfl, rfl, rfl, Nat.le_refl _, fun _ _ => rfl⟩⟩
end Go.Proofs.YthaibekbefndlaaGreatDoor.C
