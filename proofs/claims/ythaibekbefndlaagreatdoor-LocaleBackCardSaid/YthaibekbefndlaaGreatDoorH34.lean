/-
  Joined: LgC. Each with what its own head says.
-/
import Derived.Test.YthaibekbefndlaaGreatDoorH28

namespace Go.Proofs.YthaibekbefndlaaGreatDoor.C
open Go.RowKit

set_option maxRecDepth 100000 in
set_option maxHeartbeats 2000000 in
theorem samePairs_yes (w : World) (Ba Bb : Nat) (Aa Ab : Option Addr) (ca cb : Nat) (l : List (Int × Int)) (ha : SI 2 w Ba Aa l.length (l.map prRow)) (hb : SI 2 w Bb Ab l.length (l.map prRow)) (hn : l.length ≤ maxLen) :
  Calls Tryz.prog 28 #[.slice Aa l.length ca, .slice Ab l.length cb] w fun e w' => e = .returned (.bool true) ∧ ∃ q, w' = w.drewN q := by
 unfold maxLen at hn
 have HA := Lib.hid ha
 have HB := Lib.hid hb
 have hl0 : ((l.length : Int) == (l.length : Int)) = true := by simp
 clear ha hb
 go_enter Tryz.func28, Tryz.ntmps28
 go_wp2
 go_loopw [5] (fun iv wr => ∃ i : Nat, i ≤ l.length ∧ iv = .int .i64 i ∧ Hid (∃ q, wr = w.drewN q)) (fun iv _ => l.length - (intOf iv).toNat)
 case atStart => exact ⟨0, Nat.zero_le _, rfl, Lib.hid ⟨0, rfl⟩⟩
 case round =>
  obtain ⟨i, hin, rfl, HQ⟩ := hrel
  by_cases hlt : i < l.length
  rotate_left
  ·obtain rfl : i = l.length := by omega
   go_wp2
   go_ret
   exact ⟨rfl, HQ.out⟩
  obtain ⟨r, hri⟩ : ∃ r, l[i]? = some r := ⟨_, List.getElem?_eq_getElem hlt⟩
  have hA2 : SI 2 wr Ba Aa l.length (l.map prRow) := by obtain ⟨q, rfl⟩ := HQ.out; exact HA.out.drewN q
  have hB2 : SI 2 wr Bb Ab l.length (l.map prRow) := by obtain ⟨q, rfl⟩ := HQ.out; exact HB.out.drewN q
  obtain ⟨ad, rfl, _, c0, c1⟩ := prsR_at hA2 hri
  obtain ⟨bd, rfl, _, d0, d1⟩ := prsR_at hB2 hri
  obtain ⟨a, b⟩ := r
  dsimp only at c0 c1 d0 d1
  have i0 : (0 : Int) ≤ (i : Int) := by omega
  have i1 : (i : Int) < (l.length : Int) := by omega
  clear hA2 hB2 hri
  go_wp2
  refine wp_region_held (S := fun W' : World => W'.cell? (ad.add (i * 2)) = some (.int .i32 a) ∧ W'.cell? ⟨(ad.add (i * 2)).block, (ad.add (i * 2)).off + 1, none⟩ = some (.int .i32 b) ∧ W'.cell? (bd.add (i * 2)) = some (.int .i32 a) ∧ W'.cell? ⟨(bd.add (i * 2)).block, (bd.add (i * 2)).off + 1, none⟩ = some (.int .i32 b)) (by kernel_rfl) ?_
  change wpAnyH _ _ _ _ _ _ _ _ wr.drew
  have hS1 : (fun W' : World => W'.cell? (ad.add (i * 2)) = some (.int .i32 a) ∧ W'.cell? ⟨(ad.add (i * 2)).block, (ad.add (i * 2)).off + 1, none⟩ = some (.int .i32 b) ∧ W'.cell? (bd.add (i * 2)) = some (.int .i32 a) ∧ W'.cell? ⟨(bd.add (i * 2)).block, (bd.add (i * 2)).off + 1, none⟩ = some (.int .i32 b)) wr.drew := ⟨c0, c1, d0, d1⟩
  refine wpAnyH_take (i := 0) (oi := ?oi0) (v := ?v0) ?hi0 (by kernel_rfl) (by kernel_rfl) (by kernel_rfl) ?hq0 (Or.inl ⟨?hw0, ?hy0⟩) (by assumption) ?rest0
  case hi0 => exact rfl
  case hq0 => exact fun _ _ _ h => h
  case hw0 => rfl
  case hy0 => (intro x hx; (try dsimp only at hx); simp only [List.getElem_toArray, List.getElem_cons_zero]; go_split_ands; go_simp; try with_reducible rfl)
  try simp only [Act.put, List.setIfInBounds_toArray, List.set_cons_zero, List.set_cons_succ, List.getElem_toArray, List.getElem_cons_zero]
  refine wpAnyH_take (i := 1) (oi := ?oi1) (v := ?v1) ?hi1 (by kernel_rfl) (by kernel_rfl) (by kernel_rfl) ?hq1 (Or.inl ⟨?hw1, ?hy1⟩) (by assumption) ?rest1
  case hi1 => exact rfl
  case hq1 => exact fun _ _ _ h => h
  case hw1 => rfl
  case hy1 => (intro x hx; (try dsimp only at hx); simp only [List.getElem_toArray, List.getElem_cons_succ, List.getElem_cons_zero]; go_split_ands; go_simp; try with_reducible rfl)
  try simp only [Act.put, List.setIfInBounds_toArray, List.set_cons_zero, List.set_cons_succ, List.getElem_toArray, List.getElem_cons_succ, List.getElem_cons_zero]
  refine wpAnyH_take (i := 2) (oi := ?oi2) (v := ?v2) ?hi2 (by kernel_rfl) (by kernel_rfl) (by kernel_rfl) ?hq2 (Or.inl ⟨?hw2, ?hy2⟩) (by assumption) ?rest2
  case hi2 => exact rfl
  case hq2 => exact fun _ _ _ h => h
  case hw2 => rfl
  case hy2 => (intro x hx; (try dsimp only at hx); simp only [List.getElem_toArray, List.getElem_cons_succ, List.getElem_cons_zero]; go_split_ands; go_simp; try with_reducible rfl)
  try simp only [Act.put, List.setIfInBounds_toArray, List.set_cons_zero, List.set_cons_succ, List.getElem_toArray, List.getElem_cons_succ, List.getElem_cons_zero]
  refine wpAnyH_take (i := 3) (oi := ?oi3) (v := ?v3) ?hi3 (by kernel_rfl) (by kernel_rfl) (by kernel_rfl) ?hq3 (Or.inl ⟨?hw3, ?hy3⟩) (by assumption) ?rest3
  case hi3 => exact rfl
  case hq3 => exact fun _ _ _ h => h
  case hw3 => rfl
  case hy3 => (intro x hx; (try dsimp only at hx); simp only [List.getElem_toArray, List.getElem_cons_succ, List.getElem_cons_zero]; go_split_ands; go_simp; try with_reducible rfl)
  try simp only [Act.put, List.setIfInBounds_toArray, List.set_cons_zero, List.set_cons_succ, List.getElem_toArray, List.getElem_cons_succ, List.getElem_cons_zero]
  refine wpAnyH_take (i := 4) (oi := ?oi4) (v := ?v4) ?hi4 (by kernel_rfl) (by kernel_rfl) (by kernel_rfl) ?hq4 (Or.inl ⟨?hw4, ?hy4⟩) (by assumption) ?rest4
  case hi4 => exact rfl
  case hq4 => exact fun _ _ _ h => h
  case hw4 => rfl
  case hy4 => (intro x hx; (try dsimp only at hx); simp only [List.getElem_toArray, List.getElem_cons_succ, List.getElem_cons_zero]; go_split_ands; go_simp; try with_reducible rfl)
  try simp only [Act.put, List.setIfInBounds_toArray, List.set_cons_zero, List.set_cons_succ, List.getElem_toArray, List.getElem_cons_succ, List.getElem_cons_zero]
  refine wpAnyH_take (i := 5) (oi := ?oi5) (v := ?v5) ?hi5 (by kernel_rfl) (by kernel_rfl) (by kernel_rfl) ?hq5 (Or.inl ⟨?hw5, ?hy5⟩) (by assumption) ?rest5
  case hi5 => exact rfl
  case hq5 => exact fun _ _ _ h => h
  case hw5 => rfl
  case hy5 => (intro x hx; (try dsimp only at hx); simp only [List.getElem_toArray, List.getElem_cons_succ, List.getElem_cons_zero]; go_split_ands; go_simp; try with_reducible rfl)
  try simp only [Act.put, List.setIfInBounds_toArray, List.set_cons_zero, List.set_cons_succ, List.getElem_toArray, List.getElem_cons_succ, List.getElem_cons_zero]
  refine wpAnyH_take (i := 6) (oi := ?oi6) (v := ?v6) ?hi6 (by kernel_rfl) (by kernel_rfl) (by kernel_rfl) ?hq6 (Or.inl ⟨?hw6, ?hy6⟩) (by assumption) ?rest6
  case hi6 => exact rfl
  case hq6 => exact fun _ _ _ h => h
  case hw6 => rfl
  case hy6 => (intro x hx; (try dsimp only at hx); simp only [List.getElem_toArray, List.getElem_cons_succ, List.getElem_cons_zero]; go_split_ands; go_simp; try with_reducible rfl)
  try simp only [Act.put, List.setIfInBounds_toArray, List.set_cons_zero, List.set_cons_succ, List.getElem_toArray, List.getElem_cons_succ, List.getElem_cons_zero]
  refine wpAnyH_take (i := 7) (oi := ?oi7) (v := ?v7) ?hi7 (by kernel_rfl) (by kernel_rfl) (by kernel_rfl) ?hq7 (Or.inl ⟨?hw7, ?hy7⟩) (by assumption) ?rest7
  case hi7 => exact rfl
  case hq7 => exact fun _ _ _ h => h
  case hw7 => rfl
  case hy7 => (intro x hx; (try dsimp only at hx); simp only [List.getElem_toArray, List.getElem_cons_succ, List.getElem_cons_zero]; go_split_ands; go_simp; try with_reducible rfl)
  try simp only [Act.put, List.setIfInBounds_toArray, List.set_cons_zero, List.set_cons_succ, List.getElem_toArray, List.getElem_cons_succ, List.getElem_cons_zero]
  refine wpAnyH_take (i := 8) (oi := ?oi8) (v := ?v8) ?hi8 (by kernel_rfl) (by kernel_rfl) (by kernel_rfl) ?hq8 (Or.inl ⟨?hw8, ?hy8⟩) (by assumption) ?rest8
  case hi8 => exact rfl
  case hq8 => exact fun _ _ _ h => h
  case hw8 => rfl
  case hy8 => (intro x hx; (try dsimp only at hx); simp only [List.getElem_toArray, List.getElem_cons_succ, List.getElem_cons_zero]; go_split_ands; go_simp; try with_reducible rfl)
  try simp only [Act.put, List.setIfInBounds_toArray, List.set_cons_zero, List.set_cons_succ, List.getElem_toArray, List.getElem_cons_succ, List.getElem_cons_zero]
  refine wpAnyH_done (by kernel_rfl) ?_ _
  have HQ2 : Hid (∃ q, wr.drew = w.drewN q) := Lib.hid (by obtain ⟨q, rfl⟩ := HQ.out; exact ⟨q + 1, rfl⟩)
  clear hS1 c0 c1 d0 d1
  go_wp2
  go_roundw
  case rel => exact ⟨i + 1, by omega, by go_num, HQ2⟩
  case measure => simp [intOf]; omega
end Go.Proofs.YthaibekbefndlaaGreatDoor.C
