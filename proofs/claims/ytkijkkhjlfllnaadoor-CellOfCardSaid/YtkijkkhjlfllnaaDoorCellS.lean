/-
  Contracts of the document's own Right, Escape, Byte and hex: what the plain functions say; nothing that was there changes.
-/
import Derived.Test.YtkijkkhjlfllnaaDoorCellR
import Derived.Laws.Concat
import Derived.Deep.LoopGhost
namespace Go.Proofs.YtkijkkhjlfllnaaDoor.C
open Go.RowKit

set_option maxHeartbeats 400000 in
theorem refRight_any (c : Int) (w : World) : Calls Tryd.prog 23 #[.int .i32 c] w fun e w' => e = .returned (.bool (rightB c)) ∧ w = w' := by
  by_cases h1 : c < -256
  · have hr : rightB c = false := by simp [rightB]; omega
    rw [hr]; clear hr
    have t1 : decide (-256 ≤ c) = false := by simp; omega
    have t2 : decide (57343 < c) = false := by simp; omega
    go_enter Tryd.func23, Tryd.ntmps23
    go_wp2
    all_goals go_ret
    all_goals exact ⟨rfl, rfl⟩
  by_cases h2 : c < 55296
  · have hr : rightB c = true := by simp [rightB]; omega
    rw [hr]; clear hr
    go_enter Tryd.func23, Tryd.ntmps23
    go_wp2
    all_goals go_ret
    all_goals exact ⟨rfl, rfl⟩
  have t3 : decide (c < 55296) = false := by simpa using h2
  by_cases h3 : 57343 < c
  · by_cases h4 : c ≤ 1114111
    · have hr : rightB c = true := by simp [rightB]; omega
      rw [hr]; clear hr
      go_enter Tryd.func23, Tryd.ntmps23
      go_wp2
      all_goals go_ret
      all_goals exact ⟨rfl, rfl⟩
    · have hr : rightB c = false := by simp [rightB]; omega
      rw [hr]; clear hr
      have t4 : decide (c ≤ 1114111) = false := by simpa using h4
      go_enter Tryd.func23, Tryd.ntmps23
      go_wp2
      all_goals go_ret
      all_goals exact ⟨rfl, rfl⟩
  · have hr : rightB c = false := by simp [rightB]; omega
    rw [hr]; clear hr
    have t5 : decide (57343 < c) = false := by simpa using h3
    go_enter Tryd.func23, Tryd.ntmps23
    go_wp2
    all_goals go_ret
    all_goals exact ⟨rfl, rfl⟩
theorem refRight_is (c : Int) (w : World) (r : Bool) (hr : rightB c = r) : Calls Tryd.prog 23 #[.int .i32 c] w fun e w' => e = .returned (.bool r) ∧ w = w' := by
  subst hr
  exact refRight_any c w

set_option maxHeartbeats 400000 in
theorem refEscape_any (b : Int) (w : World) (h0 : 0 ≤ b) (h1 : b ≤ 255) : Calls Tryd.prog 25 #[.int .u8 b] w fun e w' => e = .returned (.int .i32 (-1 - b)) ∧ w = w' := by
  go_enter Tryd.func25, Tryd.ntmps25
  go_wp2
  go_ret
  exact ⟨rfl, rfl⟩

set_option maxHeartbeats 400000 in
theorem refByte_yes (c : Int) (w : World) (h0 : -256 ≤ c) (h1 : c < 0) : Calls Tryd.prog 20 #[.int .i32 c] w fun e w' => e = .returned (.tuple #[.int .u8 (-1 - c), .bool true]) ∧ w = w' := by
  have t1 : decide (0 ≤ c) = false := by simp; omega
  go_enter Tryd.func20, Tryd.ntmps20
  go_wp2
  go_ret2
  exact ⟨rfl, rfl⟩
set_option maxHeartbeats 400000 in
theorem refByte_no (c : Int) (w : World) (h0 : c < -256 ∨ 0 ≤ c) : Calls Tryd.prog 20 #[.int .i32 c] w fun e w' => e = .returned (.tuple #[.int .u8 0, .bool false]) ∧ w = w' := by
  rcases h0 with h | h
  · have t1 : decide (0 ≤ c) = false := by simp; omega
    go_enter Tryd.func20, Tryd.ntmps20
    go_wp2
    all_goals go_ret2
    all_goals exact ⟨rfl, rfl⟩
  · go_enter Tryd.func20, Tryd.ntmps20
    go_wp2
    all_goals go_ret2
    all_goals exact ⟨rfl, rfl⟩

/-- so far these digits, and this is left -/
def HexR (n0 nn : Nat) (d : List UInt8) : Prop := (d = [] ∧ nn = n0) ∨ (d ≠ [] ∧ ((nn = 0 ∧ hexL n0 = d) ∨ (0 < nn ∧ hexL n0 = hexL nn ++ d)))
theorem hexR_zero (n : Nat) : HexR n n [] := .inl ⟨rfl, rfl⟩
theorem hexR_step {n0 nn : Nat} {d : List UInt8} (h : HexR n0 nn d) (hgo : 0 < nn ∨ d = []) : HexR n0 (nn / 16) (dig (nn % 16) :: d) := by
  have key : hexL n0 = hexL nn ++ d := by
    rcases h with ⟨rfl, rfl⟩ | ⟨hd, h⟩
    · simp
    · rcases h with ⟨h1, _⟩ | ⟨_, h2⟩
      · rcases hgo with h3 | h3
        · omega
        · exact absurd h3 hd
      · exact h2
  refine .inr ⟨by simp, ?_⟩
  by_cases hs : nn < 16
  · left
    refine ⟨by omega, ?_⟩
    rw [key, hexL_small hs, Nat.mod_eq_of_lt hs]
    rfl
  · right
    refine ⟨by omega, ?_⟩
    rw [key, hexL_big hs]
    simp
theorem hexR_end {n0 : Nat} {d : List UInt8} (h : HexR n0 0 d) (hd : d ≠ []) : hexL n0 = d := by
  rcases h with ⟨h1, _⟩ | ⟨_, h⟩
  · exact absurd h1 hd
  · rcases h with ⟨_, h2⟩ | ⟨h3, _⟩
    · exact h2
    · omega
theorem hex_cut (x : Nat) (h : x < 16) : (ByteArray.mk #[48, 49, 50, 51, 52, 53, 54, 55, 56, 57, 97, 98, 99, 100, 101, 102]).extract x (x + 1) = str [dig x] := by
  have : ∀ x : Fin 16, (ByteArray.mk #[48, 49, 50, 51, 52, 53, 54, 55, 56, 57, 97, 98, 99, 100, 101, 102]).extract x.val (x.val + 1) = str [dig x.val] := by decide +kernel
  exact this ⟨x, h⟩

set_option maxHeartbeats 2000000 in
theorem hex_one (n : Nat) (hn : n ≤ 1114111) (w : World) : Calls Tryd.prog 36 #[.int .i64 n, .int .i64 1] w fun e w' => e = .returned (.string (str (hexL n))) ∧ w = w' := by
  go_enter Tryd.func36, Tryd.ntmps36
  go_wp2
  go_loopg [0, 5] (n + 1) (fun g nv sv wr => ∃ (nn : Nat) (d : List UInt8), nv = .int .i64 nn ∧ sv = .string (str d) ∧ nn ≤ n ∧ d.length + nn ≤ n + 1 ∧ HexR n nn d ∧ (d = [] → nn + 1 ≤ g) ∧ nn ≤ g ∧ w = wr)
  case atStart => exact ⟨n, [], rfl, rfl, Nat.le_refl _, by simp, hexR_zero n, fun _ => Nat.le_refl _, by omega, rfl⟩
  case round =>
    obtain ⟨nn, d, rfl, rfl, hnn, hdl, hst, hg1, hg2, rfl⟩ := hrel
    have HS := Lib.hid hst
    have HG := Lib.hid hg1
    clear hst hg1
    have hsd : (str d).size ≤ n + 1 := by rw [str_size]; omega
    have hq1 : ((nn % 16 : Nat) : Int) = (nn : Int) % 16 := by omega
    obtain ⟨q, hq⟩ : ∃ q : Nat, q = nn % 16 := ⟨_, rfl⟩
    rw [← hq] at hq1
    have hq2 : q < 16 := by omega
    have hcut := hex_cut q hq2
    have hz : (str [dig q]).size + (str d).size ≤ 9223372036854775807 := by
      have e1 := str_size [dig q]
      have e2 : [dig q].length = 1 := rfl
      omega
    have happ : str [dig q] ++ str d = str (dig q :: d) := str_app [dig q] d
    have hq3 : (nn : Int) % 16 = (q : Int) := hq1.symm
    have HQ := Lib.hid hq
    clear hq hq1
    by_cases hgo : 0 < nn
    · have hst := hexR_step HS.out (.inl hgo)
      rw [← HQ.out] at hst
      have HS2 := Lib.hid hst
      clear hst
      go_wp2
      go_roundg (nn / 16)
      case measure => have := HG.out; omega
      case rel => exact ⟨nn / 16, dig q :: d, by go_num, rfl, by omega, by simp; omega, HS2.out, fun h => (by cases h), Nat.le_refl _, rfl⟩
    · have hn0 : nn = 0 := by omega
      subst hn0
      by_cases hd : d = []
      · subst hd
        have hst := hexR_step HS.out (.inr rfl)
        rw [← HQ.out] at hst
        have HS2 := Lib.hid hst
        clear hst
        have h0 : q = 0 := by have := HQ.out; omega
        subst h0
        go_wp2
        go_roundg 0
        case measure => have := HG.out trivial; omega
        case rel => exact ⟨0, [dig 0], rfl, rfl, by omega, by simp, HS2.out, fun h => (by cases h), Nat.le_refl _, rfl⟩
      · have hd1 : ¬ (str d).size < 1 := by
          rw [str_size]
          have : 0 < d.length := List.length_pos_iff.2 hd
          omega
        have hend := hexR_end HS.out hd
        have HE := Lib.hid hend
        clear hend
        go_wp2
        go_ret
        exact ⟨by rw [HE.out]; rfl, rfl⟩

set_option maxHeartbeats 2000000 in
theorem hex_two (b : Nat) (hb : b ≤ 255) (w : World) : Calls Tryd.prog 36 #[.int .i64 b, .int .i64 2] w fun e w' => e = .returned (.string (str [dig (b / 16), dig (b % 16)])) ∧ w = w' := by
  obtain ⟨p, hp⟩ : ∃ p : Nat, p = b / 16 := ⟨_, rfl⟩
  obtain ⟨q, hq⟩ : ∃ q : Nat, q = b % 16 := ⟨_, rfl⟩
  rw [← hp, ← hq]
  have hp1 : (b : Int) / 16 = (p : Int) := by omega
  have hq1 : (b : Int) % 16 = (q : Int) := by omega
  have hp2 : p < 16 := by omega
  have hq2 : q < 16 := by omega
  have hp3 : (p : Int) % 16 = (p : Int) := by omega
  have hp4 : (p : Int) / 16 = 0 := by omega
  have hcq := hex_cut q hq2
  have hcp := hex_cut p hp2
  have a1 : str [dig q] ++ str [] = str [dig q] := str_app [dig q] []
  have a2 : str [dig p] ++ str [dig q] = str [dig p, dig q] := str_app [dig p] [dig q]
  have z0 : (str ([] : List UInt8)).size = 0 := rfl
  have z1 : (str [dig q]).size = 1 := rfl
  have z2 : (str [dig p]).size = 1 := rfl
  have z3 : (str [dig p, dig q]).size = 2 := rfl
  clear hp hq
  go_enter Tryd.func36, Tryd.ntmps36
  go_wp2
  go_loopg [0, 5] 2 (fun g nv sv wr => w = wr ∧ ((g = 2 ∧ nv = .int .i64 b ∧ sv = .string (str [])) ∨ (g = 1 ∧ nv = .int .i64 p ∧ sv = .string (str [dig q])) ∨ (g = 0 ∧ nv = .int .i64 0 ∧ sv = .string (str [dig p, dig q]))))
  case atStart => exact ⟨rfl, .inl ⟨rfl, rfl, rfl⟩⟩
  case round =>
    obtain ⟨rfl, hrel⟩ := hrel
    rcases hrel with ⟨hg, rfl, rfl⟩ | ⟨hg, rfl, rfl⟩ | ⟨hg, rfl, rfl⟩
    · have HG := Lib.hid hg
      clear hg
      by_cases hb0 : 0 < b
      all_goals
        go_wp2
        go_roundg 1
        case measure => have := HG.out; omega
        case rel => exact ⟨rfl, .inr (.inl ⟨rfl, by first | rfl | go_num, rfl⟩)⟩
    · have HG := Lib.hid hg
      clear hg
      by_cases hb0 : 0 < p
      all_goals
        go_wp2
        go_roundg 0
        case measure => have := HG.out; omega
        case rel => exact ⟨rfl, .inr (.inr ⟨rfl, by first | rfl | go_num, rfl⟩)⟩
    · clear hg
      go_wp2
      go_ret
      exact ⟨rfl, rfl⟩
end Go.Proofs.YtkijkkhjlfllnaaDoor.C
