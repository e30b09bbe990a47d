/-
  Joined: MCellA, MCellQ, MCellH. Each with what its own head says.
-/
import Derived.Test.YthgiikhkcpbpfaaGreatDoorChecked
import Derived.WalkKit
import Derived.ProofKit
import Derived.Lib.Hide
import Derived.Deep.QuietTactic
import Derived.BigQuiet
import Derived.RegionTactic
import Derived.Lib.RuneCount
import Derived.Lib.Strings
import Derived.Lib.UnsafeStr


namespace Go.Proofs.YthgiikhkcpbpfaaGreatDoor.C
open Go.RowKit
def rightB (c : Int) : Bool := decide (-256 ≤ c ∧ c < 55296 ∨ 57343 < c ∧ c ≤ 1114111)
set_option maxHeartbeats 400000 in
theorem right_any (c : Int) (w : World) : Calls Tryz.prog 137 #[.int .i32 c] w fun e w' => e = .returned (.bool (rightB c)) ∧ w = w' := by
 by_cases h1 : c < -256
 ·have hr : rightB c = false := by simp [rightB]; omega
  rw [hr]; clear hr
  go_enter Tryz.func137, Tryz.ntmps137
  go_wp2
  all_goals go_ret
  all_goals exact ⟨rfl, rfl⟩
 by_cases h2 : 1114111 < c
 ·have hr : rightB c = false := by simp [rightB]; omega
  rw [hr]; clear hr
  go_enter Tryz.func137, Tryz.ntmps137
  go_wp2
  all_goals go_ret
  all_goals exact ⟨rfl, rfl⟩
 by_cases h3 : c < 55296
 ·have hr : rightB c = true := by simp [rightB]; omega
  rw [hr]; clear hr
  go_enter Tryz.func137, Tryz.ntmps137
  go_wp2
  all_goals go_ret
  all_goals exact ⟨rfl, rfl⟩
 by_cases h4 : 57343 < c
 ·have hr : rightB c = true := by simp [rightB]; omega
  rw [hr]; clear hr
  go_enter Tryz.func137, Tryz.ntmps137
  go_wp2
  all_goals go_ret
  all_goals exact ⟨rfl, rfl⟩
 ·have hr : rightB c = false := by simp [rightB]; omega
  rw [hr]; clear hr
  go_enter Tryz.func137, Tryz.ntmps137
  go_wp2
  all_goals go_ret
  all_goals exact ⟨rfl, rfl⟩
set_option maxHeartbeats 400000 in
theorem escape_any (b : Int) (w : World) (h0 : 0 ≤ b) (h1 : b ≤ 255) : Calls Tryz.prog 186 #[.int .u8 b] w fun e w' => e = .returned (.int .i32 (-1 - b)) ∧ w = w' := by
 go_enter Tryz.func186, Tryz.ntmps186
 go_wp2
 go_ret
 exact ⟨rfl, rfl⟩
set_option maxHeartbeats 400000 in
theorem byte_yes (c : Int) (w : World) (h0 : -256 ≤ c) (h1 : c < 0) : Calls Tryz.prog 176 #[.int .i32 c] w fun e w' => e = .returned (.tuple #[.int .u8 (-1 - c), .bool true]) ∧ w = w' := by
 go_enter Tryz.func176, Tryz.ntmps176
 go_wp2
 go_ret2
 exact ⟨rfl, rfl⟩
set_option maxHeartbeats 400000 in
theorem byte_no (c : Int) (w : World) (h0 : c < -256 ∨ 0 ≤ c) : Calls Tryz.prog 176 #[.int .i32 c] w fun e w' => e = .returned (.tuple #[.int .u8 0, .bool false]) ∧ w = w' := by
 rcases h0 with h | h
 ·go_enter Tryz.func176, Tryz.ntmps176
  go_wp2
  all_goals go_ret2
  all_goals exact ⟨rfl, rfl⟩
 ·have h' : ¬ c < -256 := by omega
  go_enter Tryz.func176, Tryz.ntmps176
  go_wp2
  all_goals go_ret2
  all_goals exact ⟨rfl, rfl⟩
end Go.Proofs.YthgiikhkcpbpfaaGreatDoor.C


namespace Go.Proofs.YthgiikhkcpbpfaaGreatDoor.C
def hasP (s : ByteArray) (pos : Nat) : Bool := Lib.hasPrefix (s.extract pos s.size).data.toList [239, 191, 189]
def cellAt (s : ByteArray) (pos : Nat) : Int :=
 if (((Utf8.decode s pos).1 : Int) == 65533) = true ∧ hasP s pos = false then -1 - ((s.get! pos).toNat : Int) else ((Utf8.decode s pos).1 : Int)
def ofFrom (s : ByteArray) : Nat → Nat → List Int
 | 0, _ => []
 | f + 1, pos => if pos < s.size then cellAt s pos :: ofFrom s f (pos + (Utf8.decode s pos).2) else []
def ofL (s : ByteArray) : List Int := ofFrom s s.size 0
def OfSt (s : ByteArray) (acc : List Int) (b pos : Nat) : Prop := ofL s = acc ++ ofFrom s b pos ∧ s.size ≤ pos + b ∧ acc.length ≤ pos ∧ acc.length ≤ s.size
theorem ofSt_zero (s : ByteArray) : OfSt s [] s.size 0 := ⟨rfl, by omega, by simp, by simp⟩
theorem ofSt_step {s : ByteArray} {acc : List Int} {b pos : Nat} (h : OfSt s acc b pos) (hp : pos < s.size) : ∃ b', OfSt s (acc ++ [cellAt s pos]) b' (pos + (Utf8.decode s pos).2) := by
 obtain ⟨h1, h2, h3, h4⟩ := h
 have hw := Lib.decode_width_pos s pos hp
 cases b with
 | zero => omega
 | succ b =>
  refine ⟨b, ?_, by omega, by simp; omega, by simp; omega⟩
  rw [h1, ofFrom, if_pos hp]
  simp
theorem ofSt_end {s : ByteArray} {acc : List Int} {b pos : Nat} (h : OfSt s acc b pos) (hp : ¬ pos < s.size) : ofL s = acc := by
 obtain ⟨h1, _⟩ := h
 have : ofFrom s b pos = [] := by cases b <;> simp [ofFrom, hp]
 rw [h1, this, List.append_nil]
end Go.Proofs.YthgiikhkcpbpfaaGreatDoor.C


namespace Go.Proofs.YthgiikhkcpbpfaaGreatDoor.C
def dig (n : Nat) : UInt8 := if n < 10 then (48 + n).toUInt8 else (87 + n).toUInt8
def hexL (n : Nat) : List UInt8 := if n < 16 then [dig n] else hexL (n / 16) ++ [dig (n % 16)]
termination_by n
decreasing_by omega
theorem hexL_small {n : Nat} (h : n < 16) : hexL n = [dig n] := by rw [hexL, if_pos h]
theorem hexL_big {n : Nat} (h : ¬ n < 16) : hexL n = hexL (n / 16) ++ [dig (n % 16)] := by rw [hexL, if_neg h]
def HexSt (u0 uu : Nat) (d : List UInt8) (k : Nat) : Prop := hexL u0 = hexL uu ++ d ∧ k + d.length = 65 ∧ d.length ≤ 16 ∧ uu < 16 ^ (16 - d.length)
theorem hexSt_zero {u : Nat} (h : u < 16 ^ 16) : HexSt u u [] 65 := ⟨by simp, by simp, by simp, by simpa using h⟩
theorem hexSt_left {u0 uu : Nat} {d : List UInt8} {k : Nat} (h : HexSt u0 uu d k) : 49 ≤ k ∧ k ≤ 65 := by
  obtain ⟨_, h2, h3, _⟩ := h
  omega
theorem hexSt_step {u0 uu : Nat} {d : List UInt8} {k : Nat} (h : HexSt u0 uu d (k + 1)) (hu : ¬ uu < 16) : HexSt u0 (uu / 16) (dig (uu % 16) :: d) k := by
  obtain ⟨h1, h2, h3, h4⟩ := h
  have hl : d.length < 16 := by
    rcases Nat.lt_or_ge d.length 16 with h | h
    · exact h
    · have : 16 - d.length = 0 := by omega
      rw [this] at h4
      simp at h4
      omega
  refine ⟨?_, by simp; omega, by simp; omega, ?_⟩
  · rw [h1, hexL_big hu]
    simp
  · have e : 16 - d.length = (16 - (dig (uu % 16) :: d).length) + 1 := by simp; omega
    rw [e, Nat.pow_succ] at h4
    exact Nat.div_lt_of_lt_mul (by rw [Nat.mul_comm]; exact h4)
theorem hexSt_end {u0 uu : Nat} {d : List UInt8} {k : Nat} (h : HexSt u0 uu d k) (hu : uu < 16) : hexL u0 = dig uu :: d := by
  rw [h.1, hexL_small hu]
  rfl
def shown (c : Int) : List UInt8 :=
  if -256 ≤ c ∧ c < 0 then [92, 120, dig ((-1 - c).toNat / 16), dig ((-1 - c).toNat % 16)]
  else if ¬ (-256 ≤ c ∧ c < 55296 ∨ 57343 < c ∧ c ≤ 1114111) then [92, 63]
  else if c = 92 then [92, 92]
  else if c = 10 then [92, 110]
  else if 32 ≤ c ∧ c ≤ 126 then [c.toNat.toUInt8]
  else [92, 117, 123] ++ hexL c.toNat ++ [125]
def textL (l : List Int) : List UInt8 := l.flatMap shown
theorem hexL_len : ∀ (m n : Nat), n < 16 ^ (m + 1) → (hexL n).length ≤ m + 1
  | 0, n, h => by rw [hexL_small (by simpa using h)]; simp
  | m + 1, n, h => by
    by_cases h1 : n < 16
    · rw [hexL_small h1]; simp
    · rw [hexL_big h1]
      have := hexL_len m (n / 16) (by rw [Nat.pow_succ] at h; exact Nat.div_lt_of_lt_mul (by rw [Nat.mul_comm]; exact h))
      simp; omega
theorem shown_le (c : Int) : (shown c).length ≤ 10 := by
  unfold shown
  repeat' split
  all_goals try (simp; done)
  rename_i h1 h2 h3 h4 h5
  have := hexL_len 5 c.toNat (by have : (16 : Nat) ^ (5 + 1) = 16777216 := by decide
                                 omega)
  simp; omega
end Go.Proofs.YthgiikhkcpbpfaaGreatDoor.C
