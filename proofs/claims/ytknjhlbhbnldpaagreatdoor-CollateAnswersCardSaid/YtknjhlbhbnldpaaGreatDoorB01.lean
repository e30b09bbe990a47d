/-
  Joined: MCellA, MCellH, MLxB, MUtfS. Each with what its own head says.
-/
import Derived.Test.YtknjhlbhbnldpaaGreatDoorChecked
import Derived.WalkKit
import Derived.ProofKit
import Derived.Lib.Hide
import Derived.Deep.QuietTactic
import Derived.BigQuiet
import Derived.RegionTactic
import Derived.Below
import Derived.Laws.OwnMore
import Derived.Deep.AppendLies
import Derived.Deep.Draws
import Derived.Deep.LoopGhost
import Derived.Maps.AppendAt
import Derived.WalkSmall
import Derived.WalkSpells
import Derived.Lib.Walk
import Derived.Lib.OthersKept
import Derived.Lib.RuneCount
import Derived.Lib.Strings
import Derived.Lib.DecodeN
import Derived.Lib.UnsafeStr
import Derived.Lib.Case
import Derived.Laws.Concat


namespace Go.Proofs.YtknjhlbhbnldpaaGreatDoor.C
open Go.RowKit
def rightB (c : Int) : Bool := decide (-256 ≤ c ∧ c < 55296 ∨ 57343 < c ∧ c ≤ 1114111)
set_option maxHeartbeats 400000 in
theorem right_any (c : Int) (w : World) : Calls Tryz.prog 136 #[.int .i32 c] w fun e w' => e = .returned (.bool (rightB c)) ∧ w = w' := by
 by_cases h1 : c < -256
 ·have hr : rightB c = false := by simp [rightB]; omega
  rw [hr]; clear hr
  go_enter Tryz.func136, Tryz.ntmps136
  go_wp2
  all_goals go_ret
  all_goals exact ⟨rfl, rfl⟩
 by_cases h2 : 1114111 < c
 ·have hr : rightB c = false := by simp [rightB]; omega
  rw [hr]; clear hr
  go_enter Tryz.func136, Tryz.ntmps136
  go_wp2
  all_goals go_ret
  all_goals exact ⟨rfl, rfl⟩
 by_cases h3 : c < 55296
 ·have hr : rightB c = true := by simp [rightB]; omega
  rw [hr]; clear hr
  go_enter Tryz.func136, Tryz.ntmps136
  go_wp2
  all_goals go_ret
  all_goals exact ⟨rfl, rfl⟩
 by_cases h4 : 57343 < c
 ·have hr : rightB c = true := by simp [rightB]; omega
  rw [hr]; clear hr
  go_enter Tryz.func136, Tryz.ntmps136
  go_wp2
  all_goals go_ret
  all_goals exact ⟨rfl, rfl⟩
 ·have hr : rightB c = false := by simp [rightB]; omega
  rw [hr]; clear hr
  go_enter Tryz.func136, Tryz.ntmps136
  go_wp2
  all_goals go_ret
  all_goals exact ⟨rfl, rfl⟩
set_option maxHeartbeats 400000 in
theorem escape_any (b : Int) (w : World) (h0 : 0 ≤ b) (h1 : b ≤ 255) : Calls Tryz.prog 87 #[.int .u8 b] w fun e w' => e = .returned (.int .i32 (-1 - b)) ∧ w = w' := by
 go_enter Tryz.func87, Tryz.ntmps87
 go_wp2
 go_ret
 exact ⟨rfl, rfl⟩
set_option maxHeartbeats 400000 in
theorem byte_yes (c : Int) (w : World) (h0 : -256 ≤ c) (h1 : c < 0) : Calls Tryz.prog 155 #[.int .i32 c] w fun e w' => e = .returned (.tuple #[.int .u8 (-1 - c), .bool true]) ∧ w = w' := by
 go_enter Tryz.func155, Tryz.ntmps155
 go_wp2
 go_ret2
 exact ⟨rfl, rfl⟩
set_option maxHeartbeats 400000 in
theorem byte_no (c : Int) (w : World) (h0 : c < -256 ∨ 0 ≤ c) : Calls Tryz.prog 155 #[.int .i32 c] w fun e w' => e = .returned (.tuple #[.int .u8 0, .bool false]) ∧ w = w' := by
 rcases h0 with h | h
 ·go_enter Tryz.func155, Tryz.ntmps155
  go_wp2
  all_goals go_ret2
  all_goals exact ⟨rfl, rfl⟩
 ·have h' : ¬ c < -256 := by omega
  go_enter Tryz.func155, Tryz.ntmps155
  go_wp2
  all_goals go_ret2
  all_goals exact ⟨rfl, rfl⟩
end Go.Proofs.YtknjhlbhbnldpaaGreatDoor.C


namespace Go.Proofs.YtknjhlbhbnldpaaGreatDoor.C
def dig (n : Nat) : UInt8 := if n < 10 then (48 + n).toUInt8 else (87 + n).toUInt8
def hexL (n : Nat) : List UInt8 := if n < 16 then [dig n] else hexL (n / 16) ++ [dig (n % 16)]
termination_by n
decreasing_by omega
theorem hexL_small {n : Nat} (h : n < 16) : hexL n = [dig n] := by rw [hexL, if_pos h]
theorem hexL_big {n : Nat} (h : ¬ n < 16) : hexL n = hexL (n / 16) ++ [dig (n % 16)] := by rw [hexL, if_neg h]
def HexSt (u0 uu : Nat) (d : List UInt8) (k : Nat) : Prop := hexL u0 = hexL uu ++ d ∧ k + d.length = 65 ∧ d.length ≤ 16 ∧ uu < 16 ^ (16 - d.length)
theorem hexSt_zero {u : Nat} (h : u < 16 ^ 16) : HexSt u u [] 65 := ⟨by simp, by simp, by simp, by simpa using h⟩
theorem hexSt_left {u0 uu : Nat} {d : List UInt8} {k : Nat} (h : HexSt u0 uu d k) : 49 ≤ k ∧ k ≤ 65 := by
  obtain ⟨_, h2, h3, _⟩ := h
  omega
theorem hexSt_step {u0 uu : Nat} {d : List UInt8} {k : Nat} (h : HexSt u0 uu d (k + 1)) (hu : ¬ uu < 16) : HexSt u0 (uu / 16) (dig (uu % 16) :: d) k := by
  obtain ⟨h1, h2, h3, h4⟩ := h
  have hl : d.length < 16 := by
    rcases Nat.lt_or_ge d.length 16 with h | h
    · exact h
    · have : 16 - d.length = 0 := by omega
      rw [this] at h4
      simp at h4
      omega
  refine ⟨?_, by simp; omega, by simp; omega, ?_⟩
  · rw [h1, hexL_big hu]
    simp
  · have e : 16 - d.length = (16 - (dig (uu % 16) :: d).length) + 1 := by simp; omega
    rw [e, Nat.pow_succ] at h4
    exact Nat.div_lt_of_lt_mul (by rw [Nat.mul_comm]; exact h4)
theorem hexSt_end {u0 uu : Nat} {d : List UInt8} {k : Nat} (h : HexSt u0 uu d k) (hu : uu < 16) : hexL u0 = dig uu :: d := by
  rw [h.1, hexL_small hu]
  rfl
def shown (c : Int) : List UInt8 :=
  if -256 ≤ c ∧ c < 0 then [92, 120, dig ((-1 - c).toNat / 16), dig ((-1 - c).toNat % 16)]
  else if ¬ (-256 ≤ c ∧ c < 55296 ∨ 57343 < c ∧ c ≤ 1114111) then [92, 63]
  else if c = 92 then [92, 92]
  else if c = 10 then [92, 110]
  else if 32 ≤ c ∧ c ≤ 126 then [c.toNat.toUInt8]
  else [92, 117, 123] ++ hexL c.toNat ++ [125]
def textL (l : List Int) : List UInt8 := l.flatMap shown
theorem hexL_len : ∀ (m n : Nat), n < 16 ^ (m + 1) → (hexL n).length ≤ m + 1
  | 0, n, h => by rw [hexL_small (by simpa using h)]; simp
  | m + 1, n, h => by
    by_cases h1 : n < 16
    · rw [hexL_small h1]; simp
    · rw [hexL_big h1]
      have := hexL_len m (n / 16) (by rw [Nat.pow_succ] at h; exact Nat.div_lt_of_lt_mul (by rw [Nat.mul_comm]; exact h))
      simp; omega
theorem shown_le (c : Int) : (shown c).length ≤ 10 := by
  unfold shown
  repeat' split
  all_goals try (simp; done)
  rename_i h1 h2 h3 h4 h5
  have := hexL_len 5 c.toNat (by have : (16 : Nat) ^ (5 + 1) = 16777216 := by decide
                                 omega)
  simp; omega
end Go.Proofs.YtknjhlbhbnldpaaGreatDoor.C


namespace Go.Proofs.YtknjhlbhbnldpaaGreatDoor.C
open Go.RowKit
def greatL (n : Nat) : List UInt8 := List.replicate (4 - (hexL n).length) 48 ++ (hexL n).map Lib.upperB
end Go.Proofs.YtknjhlbhbnldpaaGreatDoor.C


namespace Go.Proofs.YtknjhlbhbnldpaaGreatDoor.C
open Go.RowKit
set_option maxHeartbeats 400000 in
theorem refRight_any (c : Int) (w : World) : Calls Tryz.prog 89 #[.int .i32 c] w fun e w' => e = .returned (.bool (rightB c)) ∧ w = w' := by
 by_cases h1 : c < -256
 ·have hr : rightB c = false := by simp [rightB]; omega
  rw [hr]; clear hr
  have t1 : decide (-256 ≤ c) = false := by simp; omega
  have t2 : decide (57343 < c) = false := by simp; omega
  go_enter Tryz.func89, Tryz.ntmps89
  go_wp2
  all_goals go_ret
  all_goals exact ⟨rfl, rfl⟩
 by_cases h2 : c < 55296
 ·have hr : rightB c = true := by simp [rightB]; omega
  rw [hr]; clear hr
  go_enter Tryz.func89, Tryz.ntmps89
  go_wp2
  all_goals go_ret
  all_goals exact ⟨rfl, rfl⟩
 have t3 : decide (c < 55296) = false := by simpa using h2
 by_cases h3 : 57343 < c
 ·by_cases h4 : c ≤ 1114111
  ·have hr : rightB c = true := by simp [rightB]; omega
   rw [hr]; clear hr
   go_enter Tryz.func89, Tryz.ntmps89
   go_wp2
   all_goals go_ret
   all_goals exact ⟨rfl, rfl⟩
  ·have hr : rightB c = false := by simp [rightB]; omega
   rw [hr]; clear hr
   have t4 : decide (c ≤ 1114111) = false := by simpa using h4
   go_enter Tryz.func89, Tryz.ntmps89
   go_wp2
   all_goals go_ret
   all_goals exact ⟨rfl, rfl⟩
 ·have hr : rightB c = false := by simp [rightB]; omega
  rw [hr]; clear hr
  have t5 : decide (57343 < c) = false := by simpa using h3
  go_enter Tryz.func89, Tryz.ntmps89
  go_wp2
  all_goals go_ret
  all_goals exact ⟨rfl, rfl⟩
theorem refRight_is (c : Int) (w : World) (r : Bool) (hr : rightB c = r) : Calls Tryz.prog 89 #[.int .i32 c] w fun e w' => e = .returned (.bool r) ∧ w = w' := by
 subst hr
 exact refRight_any c w
set_option maxHeartbeats 400000 in
theorem refEscape_any (b : Int) (w : World) (h0 : 0 ≤ b) (h1 : b ≤ 255) : Calls Tryz.prog 46 #[.int .u8 b] w fun e w' => e = .returned (.int .i32 (-1 - b)) ∧ w = w' := by
 go_enter Tryz.func46, Tryz.ntmps46
 go_wp2
 go_ret
 exact ⟨rfl, rfl⟩
set_option maxHeartbeats 400000 in
theorem refByte_yes (c : Int) (w : World) (h0 : -256 ≤ c) (h1 : c < 0) : Calls Tryz.prog 179 #[.int .i32 c] w fun e w' => e = .returned (.tuple #[.int .u8 (-1 - c), .bool true]) ∧ w = w' := by
 have t1 : decide (0 ≤ c) = false := by simp; omega
 go_enter Tryz.func179, Tryz.ntmps179
 go_wp2
 go_ret2
 exact ⟨rfl, rfl⟩
set_option maxHeartbeats 400000 in
theorem refByte_no (c : Int) (w : World) (h0 : c < -256 ∨ 0 ≤ c) : Calls Tryz.prog 179 #[.int .i32 c] w fun e w' => e = .returned (.tuple #[.int .u8 0, .bool false]) ∧ w = w' := by
 rcases h0 with h | h
 ·have t1 : decide (0 ≤ c) = false := by simp; omega
  go_enter Tryz.func179, Tryz.ntmps179
  go_wp2
  all_goals go_ret2
  all_goals exact ⟨rfl, rfl⟩
 ·go_enter Tryz.func179, Tryz.ntmps179
  go_wp2
  all_goals go_ret2
  all_goals exact ⟨rfl, rfl⟩
end Go.Proofs.YtknjhlbhbnldpaaGreatDoor.C
