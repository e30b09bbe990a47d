/-
  Contracts of the document's own Number and Split: the line of a place, the lines of any cells (2^30 at most); nothing that was there changes.
-/
import Derived.Test.YtlecioifjdmmmaaLnH
namespace Go.Proofs.Ytlecioifjdmmmaa.C
open Go.RowKit

set_option maxHeartbeats 1000000 in
theorem refNumber_low (w : World) (A : Option Addr) (m c : Nat) (at_ : Int) (h : at_ < 0) :
    Calls Try.prog 19 #[.slice A m c, .int .i64 at_] w fun e w' => e = .returned (.tuple #[.int .i64 0, .int .i64 0]) ∧ w' = w := by
  go_enter Try.func19, Try.ntmps19
  go_wp2
  go_ret2
  exact ⟨rfl, rfl⟩
set_option maxHeartbeats 1000000 in
theorem refNumber_high (w : World) (A : Option Addr) (m c : Nat) (at_ : Int) (hm : m ≤ 1073741824) (h : (m : Int) < at_) :
    Calls Try.prog 19 #[.slice A m c, .int .i64 at_] w fun e w' => e = .returned (.tuple #[.int .i64 0, .int .i64 0]) ∧ w' = w := by
  have h0 : ¬ at_ < 0 := by omega
  go_enter Try.func19, Try.ntmps19
  go_wp2
  go_ret2
  exact ⟨rfl, rfl⟩
theorem numP_le (zs : List Int) : ∀ k, (numP (zs.take k)).1 ≤ k + 1 ∧ (numP (zs.take k)).2 ≤ k + 1
  | 0 => by simp [numP]
  | k + 1 => by
    have h := numP_le zs k
    cases hk : zs[k]? with
    | none =>
      have : zs.length ≤ k := by
        rcases Nat.lt_or_ge k zs.length with h1 | h1
        · rw [List.getElem?_eq_getElem h1] at hk; cases hk
        · exact h1
      rw [List.take_of_length_le (by omega)]
      rw [List.take_of_length_le (by omega)] at h
      omega
    | some c =>
      rw [take_snoc hk, numP_snoc]
      unfold step10
      split
      · show _ + 1 ≤ _ ∧ 1 ≤ _
        omega
      · show _ ≤ _ ∧ _ + 1 ≤ _
        omega

set_option maxHeartbeats 1000000 in
theorem refNumber_in (w : World) (B : Nat) (A : Option Addr) (m c : Nat) (zs : List Int) (hx : RI .i32 w B A m zs) (hm : m ≤ 1073741824) (k : Nat) (hk : k ≤ m) :
    Calls Try.prog 19 #[.slice A m c, .int .i64 (k : Int)] w fun e w' => e = .returned (.tuple #[.int .i64 (((numP (zs.take k)).1 : Nat) : Int), .int .i64 (((numP (zs.take k)).2 : Nat) : Int)]) ∧ w' = w := by
  have HX := Lib.hid hx
  clear hx
  have hk0 : ¬ ((k : Int) < 0) := by omega
  have hk1 : ¬ ((m : Int) < (k : Int)) := by omega
  go_enter Try.func19, Try.ntmps19
  go_wp2
  go_loopw [6, 7, 8] (fun a b iv wr => ∃ i p q : Nat, i ≤ k ∧ iv = .int .i64 i ∧ a = .int .i64 (p : Int) ∧ b = .int .i64 (q : Int) ∧ p ≤ i + 1 ∧ q ≤ i + 1 ∧ Hid (numP (zs.take i) = (p, q)) ∧ wr = w) (fun _ _ iv _ => k - (intOf iv).toNat)
  case atStart => exact ⟨0, 1, 1, Nat.zero_le _, rfl, rfl, rfl, by omega, by omega, rfl, rfl⟩
  case round =>
    obtain ⟨i, p, q, hi, rfl, rfl, rfl, hp, hq, HN, rfl⟩ := hrel
    by_cases hlt : i < k
    · obtain ⟨ad, u, rfl, _, hu, hcell⟩ := HX.out.at_ (show i < m by omega)
      have k0 : (0 : Int) ≤ (i : Int) := by omega
      have k1 : (i : Int) < (m : Int) := by omega
      have k2 : (i : Int) < (k : Int) := by omega
      have hst := numP_snoc (zs.take i) u
      rw [← take_snoc hu, HN.out] at hst
      clear hu
      by_cases h10 : u = 10
      · subst h10
        have HS := Lib.hid hst
        clear hst
        go_wp2
        go_roundw
        case rel => exact ⟨i + 1, p + 1, 1, by omega, by go_num, by go_num, rfl, by omega, by omega, by rw [HS.out]; rfl, by first | rfl | trivial⟩
        case measure => simp [intOf]; omega
      · have hne : (u == (10 : Int)) = false := by simpa using h10
        have HS : Hid (numP (zs.take (i + 1)) = (p, q + 1)) := by
          show _ = _
          rw [hst]
          simp [step10, h10]
        clear hst
        go_wp2
        go_roundw
        case rel => exact ⟨i + 1, p, q + 1, by omega, by go_num, rfl, by go_num, by omega, by omega, HS, by first | rfl | trivial⟩
        case measure => simp [intOf]; omega
    · obtain rfl : i = k := by omega
      go_wp2
      go_ret2
      rw [HN.out]
      exact ⟨rfl, rfl⟩
end Go.Proofs.Ytlecioifjdmmmaa.C
