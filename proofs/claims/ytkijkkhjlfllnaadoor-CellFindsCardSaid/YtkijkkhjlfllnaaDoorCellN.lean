/-
  Contracts of the document's own Cut (and of its own Right, Escape and Byte): what the plain functions say; nothing that was there changes.
-/
import Derived.Test.YtkijkkhjlfllnaaDoorWCellOrder
namespace Go.Proofs.YtkijkkhjlfllnaaDoor.C
open Go.RowKit

set_option maxHeartbeats 400000 in
theorem refCut_no (w : World) (Ax : Option Addr) (n cx : Nat) (a b : Int) (h : a < 0 ∨ b < a ∨ (n : Int) < b) :
    Calls Tryd.prog 28 #[.slice Ax n cx, .int .i64 a, .int .i64 b] w fun e w' => e = .returned (.tuple #[.slice none 0 0, .int .i64 1]) ∧ w = w' := by
  by_cases h1 : a < 0
  · go_enter Tryd.func28, Tryd.ntmps28
    go_wp2
    all_goals go_ret2
    all_goals exact ⟨rfl, rfl⟩
  by_cases h2 : b < a
  · go_enter Tryd.func28, Tryd.ntmps28
    go_wp2
    all_goals go_ret2
    all_goals exact ⟨rfl, rfl⟩
  · have h3 : (n : Int) < b := by omega
    go_enter Tryd.func28, Tryd.ntmps28
    go_wp2
    all_goals go_ret2
    all_goals exact ⟨rfl, rfl⟩

set_option maxHeartbeats 1000000 in
theorem refCut_yes (w : World) (Bx : Nat) (Ax : Option Addr) (n cx : Nat) (xs : List Int) (a b : Nat) (hx : RI .i32 w Bx Ax n xs) (hn : n ≤ cx) (hcx : n * 4 ≤ 140737488355328) (hab : a ≤ b) (hbn : b ≤ n) :
    Calls Tryd.prog 28 #[.slice Ax n cx, .int .i64 a, .int .i64 b] w fun e w' => ∃ A' c', e = .returned (.tuple #[.slice A' (b - a) c', .int .i64 0]) ∧ b - a ≤ c' ∧ RI .i32 w' w'.heap.size A' (b - a) ((xs.drop a).take (b - a)) ∧ Below w.heap.size w w' := by
  obtain ⟨i0, hi, hz0, hz1, hz2⟩ := info_parts info33
  have t1 : decide ((a : Int) < 0) = false := by simp
  have t2 : decide (b < a) = false := by simp; omega
  have t3 : decide (n < b) = false := by simp; omega
  have hck := hx.cut (cap := cx) (k := a) (m := b - a) (by omega) hn
  by_cases hca : cx = a
  · rw [if_pos hca] at hck
    obtain rfl : n = b := by omega
    obtain rfl : a = n := by omega
    obtain rfl : cx = a := by omega
    have HC := Lib.hid hck
    clear hck hx hca
    go_enter Tryd.func28, Tryd.ntmps28
    go_wp2_with (at_builtin; (refine wpList_append_ri _ rfl (.tmp 22) (.tmp 26) 23 rfl w.heap.size 33 i0 (.int .i32 0) 4 Tryd.underlying23 hi hz0 hz1 hz2 rfl _ 0 [] rfl (World.ownsRow_nil _ _ _ _) .i32 Bx _ 0 0 _ rfl (by rw [Nat.sub_self] at HC; exact HC.out) (by unfold maxLen; omega) (by omega) (Nat.le_refl _) ?_); intro u4 v4 hown' hgrow; have hb4 : Below w.heap.size w v4 := (Below.refl _ _).grown hgrow (Nat.le_refl _) (fun k hk => by cases hk); have HO4 := Lib.hid hown'; clear hown' hgrow)
    obtain ⟨A', c', rfl, hc', hr'⟩ := own_slice (zs := (xs.drop cx).take 0) (by simpa using HO4.out)
    go_ret2
    refine ⟨A', c', by rw [Nat.sub_self]; rfl, by omega, by rw [Nat.sub_self]; exact hr', hb4⟩
  · rw [if_neg hca] at hck
    have HC := Lib.hid hck
    clear hck hx
    go_enter Tryd.func28, Tryd.ntmps28
    go_wp2_with (at_builtin; (refine wpList_append_ri _ rfl (.tmp 22) (.tmp 26) 23 rfl w.heap.size 33 i0 (.int .i32 0) 4 Tryd.underlying23 hi hz0 hz1 hz2 rfl _ 0 [] rfl (World.ownsRow_nil _ _ _ _) .i32 Bx _ (b - a) (cx - a) _ rfl HC.out (by unfold maxLen; omega) (by omega) (Nat.le_refl _) ?_); intro u4 v4 hown' hgrow; have hb4 : Below w.heap.size w v4 := (Below.refl _ _).grown hgrow (Nat.le_refl _) (fun k hk => by cases hk); have HO4 := Lib.hid hown'; clear hown' hgrow)
    obtain ⟨A', c', rfl, hc', hr'⟩ := own_slice (zs := (xs.drop a).take (b - a)) (n := b - a) (by simpa using HO4.out)
    go_ret2
    exact ⟨A', c', rfl, hc', hr', hb4⟩
end Go.Proofs.YtkijkkhjlfllnaaDoor.C
