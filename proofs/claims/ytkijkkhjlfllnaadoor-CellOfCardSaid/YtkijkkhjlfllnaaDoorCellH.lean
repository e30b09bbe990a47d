/-
  Plain facts on texts that show cells: hexadecimal digits, and the text of a list of cells. No condition.
-/
import Derived.Lib.UnsafeStr
namespace Go.Proofs.YtkijkkhjlfllnaaDoor.C

/-- a digit's sign -/
def dig (n : Nat) : UInt8 := if n < 10 then (48 + n).toUInt8 else (87 + n).toUInt8
def hexL (n : Nat) : List UInt8 := if n < 16 then [dig n] else hexL (n / 16) ++ [dig (n % 16)]
termination_by n
decreasing_by omega
theorem hexL_small {n : Nat} (h : n < 16) : hexL n = [dig n] := by rw [hexL, if_pos h]
theorem hexL_big {n : Nat} (h : ¬ n < 16) : hexL n = hexL (n / 16) ++ [dig (n % 16)] := by rw [hexL, if_neg h]

/-- so far these digits, k places are left -/
def HexSt (u0 uu : Nat) (d : List UInt8) (k : Nat) : Prop := hexL u0 = hexL uu ++ d ∧ k + d.length = 65 ∧ d.length ≤ 16 ∧ uu < 16 ^ (16 - d.length)
theorem hexSt_zero {u : Nat} (h : u < 16 ^ 16) : HexSt u u [] 65 := ⟨by simp, by simp, by simp, by simpa using h⟩
theorem hexSt_left {u0 uu : Nat} {d : List UInt8} {k : Nat} (h : HexSt u0 uu d k) : 49 ≤ k ∧ k ≤ 65 := by
  obtain ⟨_, h2, h3, _⟩ := h
  omega
theorem hexSt_step {u0 uu : Nat} {d : List UInt8} {k : Nat} (h : HexSt u0 uu d (k + 1)) (hu : ¬ uu < 16) : HexSt u0 (uu / 16) (dig (uu % 16) :: d) k := by
  obtain ⟨h1, h2, h3, h4⟩ := h
  have hl : d.length < 16 := by
    rcases Nat.lt_or_ge d.length 16 with h | h
    · exact h
    · have : 16 - d.length = 0 := by omega
      rw [this] at h4
      simp at h4
      omega
  refine ⟨?_, by simp; omega, by simp; omega, ?_⟩
  · rw [h1, hexL_big hu]
    simp
  · have e : 16 - d.length = (16 - (dig (uu % 16) :: d).length) + 1 := by simp; omega
    rw [e, Nat.pow_succ] at h4
    exact Nat.div_lt_of_lt_mul (by rw [Nat.mul_comm]; exact h4)
theorem hexSt_end {u0 uu : Nat} {d : List UInt8} {k : Nat} (h : HexSt u0 uu d k) (hu : uu < 16) : hexL u0 = dig uu :: d := by
  rw [h.1, hexL_small hu]
  rfl

/-- a cell, shown -/
def shown (c : Int) : List UInt8 :=
  if -256 ≤ c ∧ c < 0 then [92, 120, dig ((-1 - c).toNat / 16), dig ((-1 - c).toNat % 16)]
  else if ¬ (-256 ≤ c ∧ c < 55296 ∨ 57343 < c ∧ c ≤ 1114111) then [92, 63]
  else if c = 92 then [92, 92]
  else if c = 10 then [92, 110]
  else if 32 ≤ c ∧ c ≤ 126 then [c.toNat.toUInt8]
  else [92, 117, 123] ++ hexL c.toNat ++ [125]
def textL (l : List Int) : List UInt8 := l.flatMap shown
theorem hexL_len : ∀ (m n : Nat), n < 16 ^ (m + 1) → (hexL n).length ≤ m + 1
  | 0, n, h => by rw [hexL_small (by simpa using h)]; simp
  | m + 1, n, h => by
    by_cases h1 : n < 16
    · rw [hexL_small h1]; simp
    · rw [hexL_big h1]
      have := hexL_len m (n / 16) (by rw [Nat.pow_succ] at h; exact Nat.div_lt_of_lt_mul (by rw [Nat.mul_comm]; exact h))
      simp; omega
theorem shown_le (c : Int) : (shown c).length ≤ 10 := by
  unfold shown
  repeat' split
  all_goals try (simp; done)
  rename_i h1 h2 h3 h4 h5
  have := hexL_len 5 c.toNat (by have : (16 : Nat) ^ (5 + 1) = 16777216 := by decide
                                 omega)
  simp; omega
end Go.Proofs.YtkijkkhjlfllnaaDoor.C
