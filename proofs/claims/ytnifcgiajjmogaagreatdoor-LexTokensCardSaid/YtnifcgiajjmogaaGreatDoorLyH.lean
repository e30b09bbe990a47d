/-
  The contract of the document's own hex: the number, or -1. No condition.
-/
import Derived.Test.YtnifcgiajjmogaaGreatDoorLyA
namespace Go.Proofs.YtnifcgiajjmogaaGreatDoor.C
open Go.RowKit

def hexT : List UInt8 := [48, 49, 50, 51, 52, 53, 54, 55, 56, 57, 97, 98, 99, 100, 101, 102, 65, 66, 67, 68, 69, 70]
/-- where a sign last stands among the first k -/
def dAt (b : UInt8) : Nat → Int
  | 0 => -1
  | k + 1 => if hexT.getD k 0 = b then (k : Int) else dAt b k
theorem dAt_hit {b : UInt8} {k : Nat} (h : hexT.getD k 0 = b) : dAt b (k + 1) = k := if_pos h
theorem dAt_miss {b : UInt8} {k : Nat} (h : ¬ hexT.getD k 0 = b) : dAt b (k + 1) = dAt b k := if_neg h
theorem dAt_all : ∀ n : Nat, n < 256 → (digV (UInt8.ofNat n) = none ∧ dAt (UInt8.ofNat n) 22 = -1) ∨ ∃ d, d < 16 ∧ digV (UInt8.ofNat n) = some d ∧ (dAt (UInt8.ofNat n) 22 = (d : Int) ∨ dAt (UInt8.ofNat n) 22 = (d : Int) + 6 ∧ 9 < d) := by decide +kernel
theorem dAt_dig (b : UInt8) : (digV b = none ∧ dAt b 22 = -1) ∨ ∃ d, d < 16 ∧ digV b = some d ∧ (dAt b 22 = (d : Int) ∨ dAt b 22 = (d : Int) + 6 ∧ 9 < d) := by
  have h := dAt_all b.toNat b.toNat_lt
  have e : UInt8.ofNat b.toNat = b := by simp
  rw [e] at h
  exact h
theorem hexT_at (W : World) : ∀ k, k < 22 → (Instr.index 9 (.string ⟨#[48, 49, 50, 51, 52, 53, 54, 55, 56, 57, 97, 98, 99, 100, 101, 102, 65, 66, 67, 68, 69, 70]⟩) (.int .i64 (k : Nat))).run Tryz.prog W = .ok (.int .u8 (hexT.getD k 0).toNat) W := by
  intro k hk
  rcases (by omega : k = 0 ∨ k = 1 ∨ k = 2 ∨ k = 3 ∨ k = 4 ∨ k = 5 ∨ k = 6 ∨ k = 7 ∨ k = 8 ∨ k = 9 ∨ k = 10 ∨ k = 11 ∨ k = 12 ∨ k = 13 ∨ k = 14 ∨ k = 15 ∨ k = 16 ∨ k = 17 ∨ k = 18 ∨ k = 19 ∨ k = 20 ∨ k = 21) with rfl | rfl | rfl | rfl | rfl | rfl | rfl | rfl | rfl | rfl | rfl | rfl | rfl | rfl | rfl | rfl | rfl | rfl | rfl | rfl | rfl | rfl <;> kernel_rfl
/-- the number, or -1 -/
def hexI (l : List UInt8) : Int := match hexN l 0 with
  | some n => (n : Int)
  | none => -1
theorem hexN_at {s : ByteArray} {i : Nat} (h : i < s.size) (v : Nat) : hexN (s.data.toList.drop i) v = match digV (s[i]'h) with
    | some d => hexN (s.data.toList.drop (i + 1)) (16 * v + d)
    | none => none := by
  rw [drop_ba h, hexN_cons]
  cases digV (s[i]'h) <;> rfl

set_option maxHeartbeats 4000000 in
theorem hex_ref (s : ByteArray) (w : World) (hs : s.size ≤ 6) : Calls Tryz.prog 34 #[.string s] w fun e w' => e = .returned (.int .i64 (hexI s.data.toList)) ∧ ∃ q, w' = w.drewN q := by
  go_enter Tryz.func34, Tryz.ntmps34
  generalize hC : (⟨#[48, 49, 50, 51, 52, 53, 54, 55, 56, 57, 97, 98, 99, 100, 101, 102, 65, 66, 67, 68, 69, 70]⟩ : ByteArray) = C
  have hix : ∀ W k, k < 22 → (Instr.index 9 (.string C) (.int .i64 (k : Nat))).run Tryz.prog W = .ok (.int .u8 (hexT.getD k 0).toNat) W := fun W => by
    rw [← hC]
    exact hexT_at W
  have HC := Lib.hid hix
  clear hix hC
  go_wp2
  go_loopw [3, 4] (fun nv iv wr => ∃ (i v q : Nat), i ≤ s.size ∧ iv = .int .i64 i ∧ nv = .int .i64 v ∧ Hid (hexN s.data.toList 0 = hexN (s.data.toList.drop i) v) ∧ Hid (v < 16 ^ i) ∧ wr = w.drewN q) (fun _ iv _ => s.size - (intOf iv).toNat)
  case atStart => exact ⟨0, 0, 0, Nat.zero_le _, rfl, rfl, Lib.hid rfl, Lib.hid (by decide), rfl⟩
  case round =>
    obtain ⟨i, v, q, hi, rfl, rfl, HN, HV, rfl⟩ := hrel
    have hv : v < 16777216 := Nat.lt_of_lt_of_le HV.out (pow_16 (by omega))
    by_cases hlt : i < s.size
    · have hat := hexN_at hlt v
      obtain ⟨b, hb⟩ : ∃ b, s[i]'hlt = b := ⟨_, rfl⟩
      rw [hb] at hat
      have HAT := Lib.hid hat
      have hsi : ∀ W, (Instr.index 9 (.string s) (.int .i64 (i : Nat))).run Tryz.prog W = .ok (.int .u8 b.toNat) W := fun W => by
        rw [run_index_string W 9 s .i64 (i : Int) (by kernel_rfl), dif_pos ⟨by omega, by omega⟩, ← hb]
        rfl
      clear hat hb
      go_wp2
      go_loopw [5, 6] (fun dv kv wr => ∃ (k p : Nat) (d : Int), k ≤ 22 ∧ kv = .int .i64 k ∧ dv = .int .i64 d ∧ Hid (d = dAt b k) ∧ wr = w.drewN p) (fun _ kv _ => 22 - (intOf kv).toNat)
      case atStart => exact ⟨0, q, _, Nat.zero_le _, rfl, rfl, Lib.hid rfl, rfl⟩
      case round =>
        obtain ⟨k, p, d, hk, rfl, rfl, HD, rfl⟩ := hrel
        by_cases hkl : k < 22
        · have hci := fun W => HC.out W k hkl
          have k1 : (k : Int) < 22 := by omega
          obtain ⟨c, hc⟩ : ∃ c, hexT.getD k 0 = c := ⟨_, rfl⟩
          rw [hc] at hci
          by_cases hcb : c = b
          · have e1 : ((c.toNat : Int) == (b.toNat : Int)) = true := by rw [hcb]; simp
            have HN2 := Lib.hid (dAt_hit (b := b) (hc.trans hcb)).symm
            clear hc hcb
            go_wp2
            go_quiet (fail)
            go_wp2
            go_roundw
            case rel => exact ⟨k + 1, _, _, by omega, by go_num, rfl, HN2, rfl⟩
            case measure => simp [intOf]; omega
          · have e1 : ((c.toNat : Int) == (b.toNat : Int)) = false := by
              simp
              intro h
              exact hcb (UInt8.toNat_inj.1 (by omega))
            have HN2 := Lib.hid (HD.out.trans (dAt_miss (b := b) (fun e => hcb (hc.symm.trans e))).symm)
            clear hc hcb
            go_wp2
            go_quiet (fail)
            go_wp2
            go_roundw
            case rel => exact ⟨k + 1, _, _, by omega, by go_num, rfl, HN2, rfl⟩
            case measure => simp [intOf]; omega
        · obtain rfl : k = 22 := by omega
          have hd := dAt_dig b
          rw [← HD.out] at hd
          rcases hd with ⟨h1, h2⟩ | ⟨x, hx, h1, h2⟩
          · have hh := HAT.out
            rw [h1] at hh
            have hr : hexI s.data.toList = -1 := by unfold hexI; rw [HN.out, hh]
            have HR := Lib.hid hr
            clear h1 hh hr
            subst h2
            go_wp2
            go_ret
            exact ⟨by rw [HR.out]; rfl, _, rfl⟩
          · have hh := HAT.out
            rw [h1] at hh
            have HN2 := Lib.hid (HN.out.trans hh)
            have HV2 : Hid (16 * v + x < 16 ^ (i + 1)) := Lib.hid (by
              have := HV.out
              rw [Nat.pow_succ]
              omega)
            clear h1 hh
            rcases h2 with rfl | ⟨rfl, h9⟩
            · go_wp2
              all_goals go_roundw
              case rel => exact ⟨i + 1, 16 * v + x, _, by omega, by go_num, by go_num, HN2, HV2, rfl⟩
              case measure => simp [intOf]; omega
            · go_wp2
              all_goals go_roundw
              case rel => exact ⟨i + 1, 16 * v + x, _, by omega, by go_num, by go_num, HN2, HV2, rfl⟩
              case measure => simp [intOf]; omega
    · obtain rfl : i = s.size := by omega
      have hh := HN.out
      rw [← size_list, List.drop_length] at hh
      have hr : hexI s.data.toList = v := by unfold hexI; rw [hh]; rfl
      have HR := Lib.hid hr
      clear hh hr
      go_wp2
      go_ret
      exact ⟨by rw [HR.out]; rfl, _, rfl⟩
end Go.Proofs.YtnifcgiajjmogaaGreatDoor.C
