/-
  Joined: MCellA, MUtfS, Shelf8. Each with what its own head says.
-/
import Derived.Test.YtknjhlbhbnldpaaGreatDoorChecked
import Derived.WalkKit
import Derived.ProofKit
import Derived.Lib.Hide
import Derived.Deep.QuietTactic
import Derived.BigQuiet
import Derived.RegionTactic
import Derived.Below
import Derived.Laws.OwnMore
import Derived.Deep.AppendLies
import Derived.Deep.Draws
import Derived.Deep.LoopGhost
import Derived.Maps.AppendAt
import Derived.WalkSmall
import Derived.WalkSpells
import Derived.Lib.Walk
import Derived.Lib.OthersKept
import Derived.Lib.RuneCount
import Derived.Lib.Strings
import Derived.Lib.DecodeN
import Derived.Laws.Concat
import Derived.Shelf.SlicesE.Compact
import Derived.Ground.SlgnProg
import Derived.Shelf.Strings.Trim
import Derived.Shelf.Small.Utf8
import Derived.Shelf.Small.Strs
import Derived.Shelf.Small.Wraps
import Derived.Shelf.Utf8.AppendRunePlain
import Derived.Shelf.Utf8.RuneCount
import Derived.Shelf.LaysM
import Derived.Shelf.Strconv.Clone
import Derived.Shelf.Strings.Search1
import Derived.Shelf.Strings.Prefix
import Derived.Shelf.Strings.Runes
import Derived.Shelf.Strings.AsciiSet
import Derived.Shelf.Unicode.DecodeSlow
import Derived.Shelf.Unicode.DecodeAny


namespace Go.Proofs.YtknjhlbhbnldpaaGreatDoor.C
open Go.RowKit
def rightB (c : Int) : Bool := decide (-256 ≤ c ∧ c < 55296 ∨ 57343 < c ∧ c ≤ 1114111)
set_option maxHeartbeats 400000 in
theorem right_any (c : Int) (w : World) : Calls Tryz.prog 136 #[.int .i32 c] w fun e w' => e = .returned (.bool (rightB c)) ∧ w = w' := by
 by_cases h1 : c < -256
 ·have hr : rightB c = false := by simp [rightB]; omega
  rw [hr]; clear hr
  go_enter Tryz.func136, Tryz.ntmps136
  go_wp2
  all_goals go_ret
  all_goals exact ⟨rfl, rfl⟩
 by_cases h2 : 1114111 < c
 ·have hr : rightB c = false := by simp [rightB]; omega
  rw [hr]; clear hr
  go_enter Tryz.func136, Tryz.ntmps136
  go_wp2
  all_goals go_ret
  all_goals exact ⟨rfl, rfl⟩
 by_cases h3 : c < 55296
 ·have hr : rightB c = true := by simp [rightB]; omega
  rw [hr]; clear hr
  go_enter Tryz.func136, Tryz.ntmps136
  go_wp2
  all_goals go_ret
  all_goals exact ⟨rfl, rfl⟩
 by_cases h4 : 57343 < c
 ·have hr : rightB c = true := by simp [rightB]; omega
  rw [hr]; clear hr
  go_enter Tryz.func136, Tryz.ntmps136
  go_wp2
  all_goals go_ret
  all_goals exact ⟨rfl, rfl⟩
 ·have hr : rightB c = false := by simp [rightB]; omega
  rw [hr]; clear hr
  go_enter Tryz.func136, Tryz.ntmps136
  go_wp2
  all_goals go_ret
  all_goals exact ⟨rfl, rfl⟩
set_option maxHeartbeats 400000 in
theorem escape_any (b : Int) (w : World) (h0 : 0 ≤ b) (h1 : b ≤ 255) : Calls Tryz.prog 87 #[.int .u8 b] w fun e w' => e = .returned (.int .i32 (-1 - b)) ∧ w = w' := by
 go_enter Tryz.func87, Tryz.ntmps87
 go_wp2
 go_ret
 exact ⟨rfl, rfl⟩
set_option maxHeartbeats 400000 in
theorem byte_yes (c : Int) (w : World) (h0 : -256 ≤ c) (h1 : c < 0) : Calls Tryz.prog 155 #[.int .i32 c] w fun e w' => e = .returned (.tuple #[.int .u8 (-1 - c), .bool true]) ∧ w = w' := by
 go_enter Tryz.func155, Tryz.ntmps155
 go_wp2
 go_ret2
 exact ⟨rfl, rfl⟩
set_option maxHeartbeats 400000 in
theorem byte_no (c : Int) (w : World) (h0 : c < -256 ∨ 0 ≤ c) : Calls Tryz.prog 155 #[.int .i32 c] w fun e w' => e = .returned (.tuple #[.int .u8 0, .bool false]) ∧ w = w' := by
 rcases h0 with h | h
 ·go_enter Tryz.func155, Tryz.ntmps155
  go_wp2
  all_goals go_ret2
  all_goals exact ⟨rfl, rfl⟩
 ·have h' : ¬ c < -256 := by omega
  go_enter Tryz.func155, Tryz.ntmps155
  go_wp2
  all_goals go_ret2
  all_goals exact ⟨rfl, rfl⟩
end Go.Proofs.YtknjhlbhbnldpaaGreatDoor.C


namespace Go.Proofs.YtknjhlbhbnldpaaGreatDoor.C
open Go.RowKit
set_option maxHeartbeats 400000 in
theorem refRight_any (c : Int) (w : World) : Calls Tryz.prog 89 #[.int .i32 c] w fun e w' => e = .returned (.bool (rightB c)) ∧ w = w' := by
 by_cases h1 : c < -256
 ·have hr : rightB c = false := by simp [rightB]; omega
  rw [hr]; clear hr
  have t1 : decide (-256 ≤ c) = false := by simp; omega
  have t2 : decide (57343 < c) = false := by simp; omega
  go_enter Tryz.func89, Tryz.ntmps89
  go_wp2
  all_goals go_ret
  all_goals exact ⟨rfl, rfl⟩
 by_cases h2 : c < 55296
 ·have hr : rightB c = true := by simp [rightB]; omega
  rw [hr]; clear hr
  go_enter Tryz.func89, Tryz.ntmps89
  go_wp2
  all_goals go_ret
  all_goals exact ⟨rfl, rfl⟩
 have t3 : decide (c < 55296) = false := by simpa using h2
 by_cases h3 : 57343 < c
 ·by_cases h4 : c ≤ 1114111
  ·have hr : rightB c = true := by simp [rightB]; omega
   rw [hr]; clear hr
   go_enter Tryz.func89, Tryz.ntmps89
   go_wp2
   all_goals go_ret
   all_goals exact ⟨rfl, rfl⟩
  ·have hr : rightB c = false := by simp [rightB]; omega
   rw [hr]; clear hr
   have t4 : decide (c ≤ 1114111) = false := by simpa using h4
   go_enter Tryz.func89, Tryz.ntmps89
   go_wp2
   all_goals go_ret
   all_goals exact ⟨rfl, rfl⟩
 ·have hr : rightB c = false := by simp [rightB]; omega
  rw [hr]; clear hr
  have t5 : decide (57343 < c) = false := by simpa using h3
  go_enter Tryz.func89, Tryz.ntmps89
  go_wp2
  all_goals go_ret
  all_goals exact ⟨rfl, rfl⟩
theorem refRight_is (c : Int) (w : World) (r : Bool) (hr : rightB c = r) : Calls Tryz.prog 89 #[.int .i32 c] w fun e w' => e = .returned (.bool r) ∧ w = w' := by
 subst hr
 exact refRight_any c w
set_option maxHeartbeats 400000 in
theorem refEscape_any (b : Int) (w : World) (h0 : 0 ≤ b) (h1 : b ≤ 255) : Calls Tryz.prog 46 #[.int .u8 b] w fun e w' => e = .returned (.int .i32 (-1 - b)) ∧ w = w' := by
 go_enter Tryz.func46, Tryz.ntmps46
 go_wp2
 go_ret
 exact ⟨rfl, rfl⟩
set_option maxHeartbeats 400000 in
theorem refByte_yes (c : Int) (w : World) (h0 : -256 ≤ c) (h1 : c < 0) : Calls Tryz.prog 179 #[.int .i32 c] w fun e w' => e = .returned (.tuple #[.int .u8 (-1 - c), .bool true]) ∧ w = w' := by
 have t1 : decide (0 ≤ c) = false := by simp; omega
 go_enter Tryz.func179, Tryz.ntmps179
 go_wp2
 go_ret2
 exact ⟨rfl, rfl⟩
set_option maxHeartbeats 400000 in
theorem refByte_no (c : Int) (w : World) (h0 : c < -256 ∨ 0 ≤ c) : Calls Tryz.prog 179 #[.int .i32 c] w fun e w' => e = .returned (.tuple #[.int .u8 0, .bool false]) ∧ w = w' := by
 rcases h0 with h | h
 ·have t1 : decide (0 ≤ c) = false := by simp; omega
  go_enter Tryz.func179, Tryz.ntmps179
  go_wp2
  all_goals go_ret2
  all_goals exact ⟨rfl, rfl⟩
 ·go_enter Tryz.func179, Tryz.ntmps179
  go_wp2
  all_goals go_ret2
  all_goals exact ⟨rfl, rfl⟩
end Go.Proofs.YtknjhlbhbnldpaaGreatDoor.C

namespace Go.Proofs
open Go.Shelf
def Tryz.laysCm_ren : Go.Shelf.Ren := ⟨fun | 43 => 79 | n => n, fun | 22 => 33 | 23 => 23 | 3 => 3 | 4 => 4 | 0 => 0 | n => n, fun | n => n⟩
theorem Tryz.laysCm : Go.Proofs.SlLaysE.n43 Tryz.prog Tryz.laysCm_ren := {
 mixed := by kernel_rfl
 f43 := ⟨Tryz.f79.name, by decide, Tryz.func79.trans (congrArg some (by kernel_rfl))⟩
 t0 := Tryz.underlying0
 a0 := Tryz.isAgg0
 z0 := Tryz.sizeOf0
 v0 := Tryz.zeroValue0
 t3 := Tryz.underlying3
 a3 := Tryz.isAgg3
 z3 := Tryz.sizeOf3
 v3 := Tryz.zeroValue3
 t4 := Tryz.underlying4
 a4 := Tryz.isAgg4
 z4 := Tryz.sizeOf4
 v4 := Tryz.zeroValue4
 t22 := Tryz.underlying33
 a22 := Tryz.isAgg33
 z22 := Tryz.sizeOf33
 v22 := Tryz.zeroValue33
 a23 := Tryz.isAgg23
 z23 := Tryz.sizeOf23 }
end Go.Proofs
