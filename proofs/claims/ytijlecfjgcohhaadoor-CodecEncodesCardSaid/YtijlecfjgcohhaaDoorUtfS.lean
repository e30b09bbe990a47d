/-
  The document's own Right, Escape and Byte: what the plain functions say; nothing changes.
-/
import Derived.Test.YtijlecfjgcohhaaDoorUtfU
import Derived.Laws.Concat
namespace Go.Proofs.YtijlecfjgcohhaaDoor.C
open Go.RowKit


set_option maxHeartbeats 400000 in
theorem refRight_any (c : Int) (w : World) : Calls Tryd.prog 13 #[.int .i32 c] w fun e w' => e = .returned (.bool (rightB c)) ∧ w = w' := by
  by_cases h1 : c < -256
  · have hr : rightB c = false := by simp [rightB]; omega
    rw [hr]; clear hr
    have t1 : decide (-256 ≤ c) = false := by simp; omega
    have t2 : decide (57343 < c) = false := by simp; omega
    go_enter Tryd.func13, Tryd.ntmps13
    go_wp2
    all_goals go_ret
    all_goals exact ⟨rfl, rfl⟩
  by_cases h2 : c < 55296
  · have hr : rightB c = true := by simp [rightB]; omega
    rw [hr]; clear hr
    go_enter Tryd.func13, Tryd.ntmps13
    go_wp2
    all_goals go_ret
    all_goals exact ⟨rfl, rfl⟩
  have t3 : decide (c < 55296) = false := by simpa using h2
  by_cases h3 : 57343 < c
  · by_cases h4 : c ≤ 1114111
    · have hr : rightB c = true := by simp [rightB]; omega
      rw [hr]; clear hr
      go_enter Tryd.func13, Tryd.ntmps13
      go_wp2
      all_goals go_ret
      all_goals exact ⟨rfl, rfl⟩
    · have hr : rightB c = false := by simp [rightB]; omega
      rw [hr]; clear hr
      have t4 : decide (c ≤ 1114111) = false := by simpa using h4
      go_enter Tryd.func13, Tryd.ntmps13
      go_wp2
      all_goals go_ret
      all_goals exact ⟨rfl, rfl⟩
  · have hr : rightB c = false := by simp [rightB]; omega
    rw [hr]; clear hr
    have t5 : decide (57343 < c) = false := by simpa using h3
    go_enter Tryd.func13, Tryd.ntmps13
    go_wp2
    all_goals go_ret
    all_goals exact ⟨rfl, rfl⟩
theorem refRight_is (c : Int) (w : World) (r : Bool) (hr : rightB c = r) : Calls Tryd.prog 13 #[.int .i32 c] w fun e w' => e = .returned (.bool r) ∧ w = w' := by
  subst hr
  exact refRight_any c w

set_option maxHeartbeats 400000 in
theorem refEscape_any (b : Int) (w : World) (h0 : 0 ≤ b) (h1 : b ≤ 255) : Calls Tryd.prog 55 #[.int .u8 b] w fun e w' => e = .returned (.int .i32 (-1 - b)) ∧ w = w' := by
  go_enter Tryd.func55, Tryd.ntmps55
  go_wp2
  go_ret
  exact ⟨rfl, rfl⟩

set_option maxHeartbeats 400000 in
theorem refByte_yes (c : Int) (w : World) (h0 : -256 ≤ c) (h1 : c < 0) : Calls Tryd.prog 57 #[.int .i32 c] w fun e w' => e = .returned (.tuple #[.int .u8 (-1 - c), .bool true]) ∧ w = w' := by
  have t1 : decide (0 ≤ c) = false := by simp; omega
  go_enter Tryd.func57, Tryd.ntmps57
  go_wp2
  go_ret2
  exact ⟨rfl, rfl⟩
set_option maxHeartbeats 400000 in
theorem refByte_no (c : Int) (w : World) (h0 : c < -256 ∨ 0 ≤ c) : Calls Tryd.prog 57 #[.int .i32 c] w fun e w' => e = .returned (.tuple #[.int .u8 0, .bool false]) ∧ w = w' := by
  rcases h0 with h | h
  · have t1 : decide (0 ≤ c) = false := by simp; omega
    go_enter Tryd.func57, Tryd.ntmps57
    go_wp2
    all_goals go_ret2
    all_goals exact ⟨rfl, rfl⟩
  · go_enter Tryd.func57, Tryd.ntmps57
    go_wp2
    all_goals go_ret2
    all_goals exact ⟨rfl, rfl⟩
end Go.Proofs.YtijlecfjgcohhaaDoor.C
