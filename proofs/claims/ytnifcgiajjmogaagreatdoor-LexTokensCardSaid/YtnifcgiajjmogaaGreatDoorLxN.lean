/-
  Contracts of the library's reading of four to six digits in base 16, and of lex.nameAt and lex.numberOf: what the plain functions say. Condition: the variable strconv.ErrSyntax holds an error's value.
-/
import Derived.Test.YtnifcgiajjmogaaGreatDoorLxW
import Derived.Lib.ConvBytes
import Derived.Laws.Strings3
import Derived.Laws.Closers25
import Derived.Laws.Closers25b
import Derived.BigCall
import Derived.BigGuard
namespace Go.Proofs.YtnifcgiajjmogaaGreatDoor.C
open Go.RowKit

theorem bytes_below (w : World) (e : TypeId) (s : ByteArray) : Below w.heap.size w (Lib.bytesWorld w e s) :=
  ⟨rfl, rfl, rfl, by rw [Lib.bytesWorld_size]; omega, fun j hj => Lib.bytesWorld_at_old w e s j hj⟩

theorem low_val : ∀ n : Nat, n < 256 → bits .or .u8 (n : Int) 32 = ((n ||| 32 : Nat) : Int) := by decide +kernel
theorem low_small : ∀ n : Nat, n < 256 → 97 ≤ n ∧ n ≤ 102 → n ||| 32 = n := by decide +kernel
theorem low_great : ∀ n : Nat, n < 256 → 65 ≤ n ∧ n ≤ 70 → n ||| 32 = n + 32 := by decide +kernel
theorem low_other : ∀ n : Nat, n < 256 → ¬ (97 ≤ n ∧ n ≤ 102) → ¬ (65 ≤ n ∧ n ≤ 70) → (n ||| 32) < 97 ∨ 102 < (n ||| 32) := by decide +kernel
theorem low_255 : ∀ n : Nat, n < 256 → (n ||| 32) < 256 := by decide +kernel

theorem lower_is (n v : Nat) (h : bits .or .u8 (n : Int) 32 = (v : Int)) (w : World) : Calls Tryz.prog 85 #[.int .u8 n] w fun e w' => e = .returned (.int .u8 v) ∧ w' = w := by
  have := Tryz.internal_strconv_lower n w
  rwa [h] at this

theorem lower_95 (w : World) : Calls Tryz.prog 85 #[.int .u8 95] w fun e w' => e = .returned (.int .u8 127) ∧ w' = w := lower_is 95 127 (low_val 95 (by decide)) w
/-- what the library's reading answers -/
def parsV (l : List UInt8) : Value := match hexN l 0 with
  | some n => .tuple #[.int .u64 n, .nilIface]
  | none => .tuple #[.int .u64 0, .iface 110 (.int .i64 2)]
theorem parsV_some {l : List UInt8} {n : Nat} (h : hexN l 0 = some n) : parsV l = .tuple #[.int .u64 n, .nilIface] := by unfold parsV; rw [h]
theorem parsV_none {l : List UInt8} (h : hexN l 0 = none) : parsV l = .tuple #[.int .u64 0, .iface 110 (.int .i64 2)] := by unfold parsV; rw [h]
theorem hexN_cons (b : UInt8) (r : List UInt8) (n : Nat) : hexN (b :: r) n = match digV b with
    | some d => hexN r (16 * n + d)
    | none => none := rfl
theorem pow_16 {k : Nat} (h : k ≤ 6) : 16 ^ k ≤ 16777216 := Nat.le_trans (Nat.pow_le_pow_right (by omega) h) (by decide)

set_option maxHeartbeats 32000000 in
set_option maxRecDepth 100000 in
theorem parse_any (t : ByteArray) (hne : t.size ≠ 0) (hmax : t.size ≤ 6) (w : World) :
    Calls Tryz.prog 67 #[.string t, .int .i64 16, .int .i64 32] w fun e w' => e = .returned (parsV t.data.toList) ∧ w' = Lib.bytesWorld w 5 t := by
  have hemp : t.toList.isEmpty = false := by
    rw [← decide_eq_emptyBytes]
    exact decide_eq_false (fun h => hne (by rw [h]; rfl))
  have hcv := Lib.run_convert_string_bytes (P := Tryz.prog) w 9 22 5 t (u := .string) Tryz.underlying9 Tryz.underlying22 Tryz.underlying5
  have hB : ∀ j, j < t.size → (Lib.bytesWorld w 5 t).cell? ⟨w.heap.size, j, none⟩ = some (.int .u8 (t.data.toList.getD j 0).toNat) := fun j hj => Lib.bytesWorld_cell w 5 t j hj
  obtain ⟨W1, hW1⟩ : ∃ W1, W1 = Lib.bytesWorld w 5 t := ⟨_, rfl⟩
  rw [← hW1] at hcv hB ⊢
  clear hW1
  obtain ⟨bs, hL⟩ : ∃ bs, bs = t.data.toList := ⟨_, rfl⟩
  have hLn : bs.length = t.size := by rw [hL, Lib.size_eq]
  rw [← hL] at hB ⊢
  clear hL
  have hmv : IntKind.u64.wrap (IntKind.u64.wrap 4294967296 - 1) = 4294967295 := by
    rw [IntKind.wrap_u64, IntKind.wrap_u64]
    decide
  go_enter Tryz.func67, Tryz.ntmps67
  go_wp2
  go_loop [12, 13, 101] (fun vu vn vi => ∃ (k acc : Nat) (a : Int), vu = .bool false ∧ vn = .int .u64 a ∧ vi = .int .i64 k ∧ k ≤ t.size ∧ Hid (a = (acc : Int) ∧ acc < 16 ^ k ∧ hexN bs 0 = hexN (bs.drop k) acc))
    (fun _ _ vi => t.size - (intOf vi).toNat)
  case atStart => exact ⟨0, 0, 0, rfl, rfl, rfl, by omega, rfl, by decide, rfl⟩
  case round =>
    obtain ⟨k, acc, a, rfl, rfl, rfl, hk, hh⟩ := hrel
    obtain ⟨ha, hacc, hdec⟩ := hh.out
    clear hh
    have a0 : 0 ≤ a := by omega
    by_cases hkn : k < t.size
    · have hc := hB k hkn
      have hdrop : bs.drop k = bs[k]'(by omega) :: bs.drop (k + 1) := List.drop_eq_getElem_cons (by omega)
      have hget : bs.getD k 0 = bs[k]'(by omega) := by simp [List.getD, List.getElem?_eq_getElem (show k < bs.length by omega)]
      rw [hdrop, hexN_cons] at hdec
      rw [hget] at hc
      generalize bs[k]'(by omega) = c at hc hdec
      have hc256 : c.toNat < 256 := c.toNat_lt
      have hp : acc < 1048576 := Nat.lt_of_lt_of_le hacc (Nat.le_trans (Nat.pow_le_pow_right (by omega) (show k ≤ 5 by omega)) (by decide))
      have a1 : a < 1048576 := by omega
      have hstep : ∀ d : Nat, d < 16 → 16 * acc + d < 16 ^ (k + 1) := fun d hd => by rw [Nat.pow_succ]; omega
      have HST := Lib.hid hstep
      obtain ⟨n, hn⟩ : ∃ n, c.toNat = n := ⟨_, rfl⟩
      have hdv : digV c = if 48 ≤ n ∧ n ≤ 57 then some (n - 48) else if 97 ≤ n ∧ n ≤ 102 then some (n - 87) else if 65 ≤ n ∧ n ≤ 70 then some (n - 55) else none := by unfold digV; rw [hn]
      rw [hn] at hc hc256
      rw [hdv] at hdec
      clear hB hdrop hget hdv hn hstep
      by_cases hdig : 48 ≤ n ∧ n ≤ 57
      · rw [if_pos hdig] at hdec
        simp only at hdec
        obtain ⟨hd0, hd1⟩ := hdig
        have HN : Hid (a * 16 + ((n : Int) - 48) = ((16 * acc + (n - 48) : Nat) : Int) ∧ 16 * acc + (n - 48) < 16 ^ (k + 1) ∧ hexN bs 0 = hexN (bs.drop (k + 1)) (16 * acc + (n - 48))) := Lib.hid ⟨by omega, HST.out _ (by omega), hdec⟩
        clear hacc hdec ha hp HST
        go_wp2
        exact ⟨⟨k + 1, 16 * acc + (n - 48), a * 16 + ((n : Int) - 48), rfl, (by first | rfl | (congr 1; omega)), (by first | rfl | (congr 1; omega)), by omega, HN⟩, by simp [intOf]; omega⟩
      · rw [if_neg hdig] at hdec
        have hlo : ∀ v : Nat, n ||| 32 = v → bits .or .u8 (n : Int) 32 = (v : Int) := fun v e => by rw [low_val n hc256, e]
        by_cases hs : 97 ≤ n ∧ n ≤ 102 ∨ 65 ≤ n ∧ n ≤ 70
        · obtain ⟨v, hv, hv1, hv2, hd⟩ : ∃ v : Nat, n ||| 32 = v ∧ 97 ≤ v ∧ v ≤ 102 ∧ hexN bs 0 = hexN (bs.drop (k + 1)) (16 * acc + (v - 87)) := by
            rcases hs with h1 | h1
            · refine ⟨n, low_small n hc256 h1, h1.1, h1.2, ?_⟩
              rw [if_pos h1] at hdec
              exact hdec
            · refine ⟨n + 32, low_great n hc256 h1, by omega, by omega, ?_⟩
              rw [if_neg (by omega), if_pos h1] at hdec
              simp only at hdec
              rw [hdec, show n - 55 = n + 32 - 87 by omega]
          have HV := Lib.hid (hlo v hv)
          have hno : ¬ ((48 : Int) ≤ (n : Int) ∧ (n : Int) ≤ 57) := by omega
          have hno' : (48 : Int) ≤ (n : Int) := by omega
          have hno2 : ¬ (n : Int) ≤ 57 := by omega
          have hne95 : ((n : Int) == 95) = false := by simp; omega
          have HN : Hid (a * 16 + ((v : Int) - 97 + 10) = ((16 * acc + (v - 87) : Nat) : Int) ∧ 16 * acc + (v - 87) < 16 ^ (k + 1) ∧ hexN bs 0 = hexN (bs.drop (k + 1)) (16 * acc + (v - 87))) := Lib.hid ⟨by omega, HST.out _ (by omega), hd⟩
          clear hacc hdec ha hp HST hd hv hlo hs hdig hno
          go_wp2_with (go_at_call 85; refine (lower_is n v HV.out _).mono ?_; rintro e w' ⟨rfl, rfl⟩)
          exact ⟨⟨k + 1, 16 * acc + (v - 87), a * 16 + ((v : Int) - 97 + 10), rfl, (by first | rfl | (congr 1; omega)), (by first | rfl | (congr 1; omega)), by omega, HN⟩, by simp [intOf]; omega⟩
        · rw [if_neg (by omega), if_neg (by omega)] at hdec
          simp only at hdec
          have hlow := low_other n hc256 (by omega) (by omega)
          have h255 := low_255 n hc256
          obtain ⟨v, hv⟩ : ∃ v : Nat, n ||| 32 = v := ⟨_, rfl⟩
          have HV := Lib.hid (hlo v hv)
          rw [hv] at hlow h255
          have HD := Lib.hid (parsV_none hdec)
          clear hacc hdec ha hp HST hv hlo hs
          by_cases h95 : n = 95
          · subst h95
            go_wp2_with (go_at_call 85; refine (lower_95 _).mono ?_; rintro e w' ⟨rfl, rfl⟩)
            all_goals go_ret2
            all_goals exact ⟨by rw [HD.out]; rfl, rfl⟩
          · have hne95 : ((n : Int) == 95) = false := by simp; omega
            by_cases hv1 : v < 97
            · go_wp2_with (go_at_call 85; refine (lower_is n v HV.out _).mono ?_; rintro e w' ⟨rfl, rfl⟩)
              all_goals go_ret2
              all_goals exact ⟨by rw [HD.out]; rfl, rfl⟩
            · have hv2 : 102 < v := by omega
              go_wp2_with (go_at_call 85; refine (lower_is n v HV.out _).mono ?_; rintro e w' ⟨rfl, rfl⟩)
              all_goals go_ret2
              all_goals exact ⟨by rw [HD.out]; rfl, rfl⟩
    · have hkk : k = t.size := by omega
      subst hkk
      have hF : hexN (bs.drop t.size) acc = some acc := by rw [List.drop_eq_nil_of_le (by omega)]; rfl
      rw [hF] at hdec
      have HD := Lib.hid (parsV_some hdec)
      subst ha
      clear hacc hF a0 hdec
      go_wp2
      go_ret2
      exact ⟨by rw [HD.out]; rfl, rfl⟩
end Go.Proofs.YtnifcgiajjmogaaGreatDoor.C
