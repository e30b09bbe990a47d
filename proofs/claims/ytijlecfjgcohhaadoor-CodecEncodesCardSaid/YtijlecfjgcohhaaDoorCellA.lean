/-
  Contracts of the plain functions of layer 1 (Right, Escape, Byte) and of the document's own: each returns what its plain function says and leaves the world alone.
-/
import Derived.Test.YtijlecfjgcohhaaDoorChecked
import Derived.WalkKit
import Derived.ProofKit
import Derived.Lib.Hide
import Derived.Deep.QuietTactic
import Derived.BigQuiet
import Derived.RegionTactic
namespace Go.Proofs.YtijlecfjgcohhaaDoor.C
open Go.RowKit

def rightB (c : Int) : Bool := decide (-256 ≤ c ∧ c < 55296 ∨ 57343 < c ∧ c ≤ 1114111)
def escB (c : Int) : Bool := decide (-256 ≤ c ∧ c < 0)

set_option maxHeartbeats 400000 in
theorem right_any (c : Int) (w : World) : Calls Tryd.prog 45 #[.int .i32 c] w fun e w' => e = .returned (.bool (rightB c)) ∧ w = w' := by
  by_cases h1 : c < -256
  · have hr : rightB c = false := by simp [rightB]; omega
    rw [hr]; clear hr
    go_enter Tryd.func45, Tryd.ntmps45
    go_wp2
    all_goals go_ret
    all_goals exact ⟨rfl, rfl⟩
  by_cases h2 : 1114111 < c
  · have hr : rightB c = false := by simp [rightB]; omega
    rw [hr]; clear hr
    go_enter Tryd.func45, Tryd.ntmps45
    go_wp2
    all_goals go_ret
    all_goals exact ⟨rfl, rfl⟩
  by_cases h3 : c < 55296
  · have hr : rightB c = true := by simp [rightB]; omega
    rw [hr]; clear hr
    go_enter Tryd.func45, Tryd.ntmps45
    go_wp2
    all_goals go_ret
    all_goals exact ⟨rfl, rfl⟩
  by_cases h4 : 57343 < c
  · have hr : rightB c = true := by simp [rightB]; omega
    rw [hr]; clear hr
    go_enter Tryd.func45, Tryd.ntmps45
    go_wp2
    all_goals go_ret
    all_goals exact ⟨rfl, rfl⟩
  · have hr : rightB c = false := by simp [rightB]; omega
    rw [hr]; clear hr
    go_enter Tryd.func45, Tryd.ntmps45
    go_wp2
    all_goals go_ret
    all_goals exact ⟨rfl, rfl⟩

set_option maxHeartbeats 400000 in
theorem escape_any (b : Int) (w : World) (h0 : 0 ≤ b) (h1 : b ≤ 255) : Calls Tryd.prog 62 #[.int .u8 b] w fun e w' => e = .returned (.int .i32 (-1 - b)) ∧ w = w' := by
  go_enter Tryd.func62, Tryd.ntmps62
  go_wp2
  go_ret
  exact ⟨rfl, rfl⟩

set_option maxHeartbeats 400000 in
theorem byte_yes (c : Int) (w : World) (h0 : -256 ≤ c) (h1 : c < 0) : Calls Tryd.prog 63 #[.int .i32 c] w fun e w' => e = .returned (.tuple #[.int .u8 (-1 - c), .bool true]) ∧ w = w' := by
  go_enter Tryd.func63, Tryd.ntmps63
  go_wp2
  go_ret2
  exact ⟨rfl, rfl⟩
set_option maxHeartbeats 400000 in
theorem byte_no (c : Int) (w : World) (h0 : c < -256 ∨ 0 ≤ c) : Calls Tryd.prog 63 #[.int .i32 c] w fun e w' => e = .returned (.tuple #[.int .u8 0, .bool false]) ∧ w = w' := by
  rcases h0 with h | h
  · go_enter Tryd.func63, Tryd.ntmps63
    go_wp2
    all_goals go_ret2
    all_goals exact ⟨rfl, rfl⟩
  · have h' : ¬ c < -256 := by omega
    go_enter Tryd.func63, Tryd.ntmps63
    go_wp2
    all_goals go_ret2
    all_goals exact ⟨rfl, rfl⟩

end Go.Proofs.YtijlecfjgcohhaaDoor.C
