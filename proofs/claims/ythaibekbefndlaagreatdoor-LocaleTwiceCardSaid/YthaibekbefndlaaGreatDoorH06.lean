/-
  Joined: MLxT, MLxV, MCellF, MUtfD. Each with what its own head says.
-/
import Derived.Test.YthaibekbefndlaaGreatDoorRows
import Derived.OpenShut
import Derived.ShutString
import Derived.ChangeOld
import Derived.Carry
import Derived.Deep.DeepHandedRow
import Derived.Lib.LaidTab
import Derived.Stop.LaidErr
import Derived.LaidLaws
import Derived.Lay
import Derived.Test.YthaibekbefndlaaGreatDoorH04

namespace Go.Proofs.YthaibekbefndlaaGreatDoor.C
open Go.RowKit

def sgB : Nat → ByteArray
 | 0 => ⟨#[59]⟩
 | 1 => ⟨#[44]⟩
 | 2 => ⟨#[40]⟩
 | 3 => ⟨#[41]⟩
 | _ => ⟨#[46, 46, 46]⟩
def SignTold (w : World) (R : Nat) (s : ByteArray) (k : Nat) (ts : List Tok) (J : Nat) (e : Ending) (w' : World) : Prop :=
 if J < 5 then Stepped w R s true (k + (sgB J).size) (ts ++ [⟨2, (sgB J).data.toList, 0, k⟩]) e w' else Stepped w R s false k ts e w'
theorem signs_cells {w : World} (h : Gl w) : w.cell? ⟨0, 0, none⟩ = some (.string ⟨#[59]⟩) ∧ w.cell? ⟨0, 1, none⟩ = some (.string ⟨#[44]⟩) ∧ w.cell? ⟨0, 2, none⟩ = some (.string ⟨#[40]⟩) ∧ w.cell? ⟨0, 3, none⟩ = some (.string ⟨#[41]⟩) ∧ w.cell? ⟨0, 4, none⟩ = some (.string ⟨#[46, 46, 46]⟩) := by
 obtain ⟨_, _, t, f, h⟩ := h
 simp [World.cell?, h]

theorem sig_ix0 (W : World) : (Instr.index 158 (.agg #[.string ⟨#[59]⟩, .string ⟨#[44]⟩, .string ⟨#[40]⟩, .string ⟨#[41]⟩, .string ⟨#[46, 46, 46]⟩]) (.int .i64 0)).run Tryz.prog W = .ok (.string ⟨#[59]⟩) W := by kernel_rfl
theorem sig_ix1 (W : World) : (Instr.index 158 (.agg #[.string ⟨#[59]⟩, .string ⟨#[44]⟩, .string ⟨#[40]⟩, .string ⟨#[41]⟩, .string ⟨#[46, 46, 46]⟩]) (.int .i64 1)).run Tryz.prog W = .ok (.string ⟨#[44]⟩) W := by kernel_rfl
theorem sig_ix2 (W : World) : (Instr.index 158 (.agg #[.string ⟨#[59]⟩, .string ⟨#[44]⟩, .string ⟨#[40]⟩, .string ⟨#[41]⟩, .string ⟨#[46, 46, 46]⟩]) (.int .i64 2)).run Tryz.prog W = .ok (.string ⟨#[40]⟩) W := by kernel_rfl
theorem sig_ix3 (W : World) : (Instr.index 158 (.agg #[.string ⟨#[59]⟩, .string ⟨#[44]⟩, .string ⟨#[40]⟩, .string ⟨#[41]⟩, .string ⟨#[46, 46, 46]⟩]) (.int .i64 3)).run Tryz.prog W = .ok (.string ⟨#[41]⟩) W := by kernel_rfl
theorem sig_ix4 (W : World) : (Instr.index 158 (.agg #[.string ⟨#[59]⟩, .string ⟨#[44]⟩, .string ⟨#[40]⟩, .string ⟨#[41]⟩, .string ⟨#[46, 46, 46]⟩]) (.int .i64 4)).run Tryz.prog W = .ok (.string ⟨#[46, 46, 46]⟩) W := by kernel_rfl

set_option maxRecDepth 100000 in
set_option maxHeartbeats 4000000 in
theorem ssign_any (w : World) (R k : Nat) (s : ByteArray) (ts : List Tok) (h : RD w R s k ts) (hG : Gl w) (hk : k < s.size) (hs : s.size ≤ 4000) (hts : ts.length ≤ 4500) (J : Nat) (hJ : J ≤ 5)
  (hn : ∀ i, i < J → i < 5 → Lib.hasPrefix (s.data.toList.drop k) (sgB i).data.toList = false) (hy : J < 5 → Lib.hasPrefix (s.data.toList.drop k) (sgB J).data.toList = true) :
  Calls Tryz.prog 70 #[.pointer (some ⟨R, 0, none⟩)] w (SignTold w R s k ts J) := by
 have H := Lib.hid h
 have hrest := fun n => rest_any (w.drewN n) R k s ts (h.drewN n) (by omega) hs
 have hno := fun i (h1 : i < J) (h2 : i < 5) W => hasPrefix_no (s.data.toList.drop k) (sgB i) W (hn i h1 h2)
 have hyes := fun h1 W => hasPrefix_yes (s.data.toList.drop k) (sgB J) W (hy h1)
 have hadd := fun n (t : List UInt8) (m : Nat) (h1 : m ≤ 3) (h2 : t.length ≤ 3) => add_any (w.drewN n) R k s ts (h.drewN n) 2 0 m t 0 (by omega) (by omega) (by omega)
 generalize s.data.toList.drop k = L at *
 obtain ⟨z0, z1, z2, z3, z4⟩ := signs_cells hG
 have HG := Lib.hid hG
 clear h hG hn hy
 go_enter Tryz.func70, Tryz.ntmps70
 go_wp2
 clear z0 z1 z2 z3 z4
 go_loopw [6] (fun iv wr => ∃ (i n : Nat) (j : Int), i ≤ J ∧ i ≤ 5 ∧ j = (i : Int) ∧ iv = .int .i64 j ∧ wr = w.drewN n) (fun iv _ => 5 - (intOf iv).toNat)
 case atStart => exact ⟨0, 0, 0, Nat.zero_le _, Nat.zero_le _, rfl, rfl, rfl⟩
 case round =>
  obtain ⟨i, n, j, hiJ, hi5, hj, rfl, rfl⟩ := hrel
  have hcase : i = 0 ∨ i = 1 ∨ i = 2 ∨ i = 3 ∨ i = 4 ∨ i = 5 := by omega
  rcases hcase with rfl | rfl | rfl | rfl | rfl | rfl
  ·obtain rfl : j = 0 := by omega
   have hix := sig_ix0
   clear hj
   by_cases hJi : 0 = J
   ·subst hJi
    have h1 : ∀ W, Calls Tryz.prog 114 #[.string (str L), .string ⟨#[59]⟩] W fun e w' => e = .returned (.bool true) ∧ w' = W := fun W => hyes (by omega) W
    have h2 : ∀ n, Calls Tryz.prog 115 #[.pointer (some ⟨R, 0, none⟩), .agg #[.int .u8 2, .string ⟨#[59]⟩, .int .i64 0, .int .i64 0], .int .i64 1] (w.drewN n) fun e w' => e = .returned (.tuple #[]) ∧ RD w' R s (k + 1) (ts ++ [⟨2, [59], 0, k⟩]) ∧ Bk R (w.drewN n) w' := fun n => hadd n [59] 1 (by omega) (by simp)
    clear hno hyes hadd
    go_wp2_with (first
     | (go_at_call 113; refine (hrest _).mono ?_; rintro e w' ⟨rfl, n, rfl⟩)
     | (go_at_call 114; refine (h1 _).mono ?_; rintro e w' ⟨rfl, rfl⟩)
     | (go_at_call 115; refine (h2 _).mono ?_; rintro e w1 ⟨rfl, hr, hb1⟩))
    go_ret
    exact ⟨rfl, hr, (bk_drewN _ _ _).trans hb1⟩
   ·have h1 : ∀ W, Calls Tryz.prog 114 #[.string (str L), .string ⟨#[59]⟩] W fun e w' => e = .returned (.bool false) ∧ w' = W := fun W => hno 0 (by omega) (by omega) W
    go_wp2_with (first
     | (go_at_call 113; refine (hrest _).mono ?_; rintro e w' ⟨rfl, n, rfl⟩)
     | (go_at_call 114; refine (h1 _).mono ?_; rintro e w' ⟨rfl, rfl⟩))
    go_roundw
    case rel => exact ⟨1, _, 1, by omega, by omega, rfl, rfl, rfl⟩
    case measure => simp [intOf]
  ·obtain rfl : j = 1 := by omega
   have hix := sig_ix1
   clear hj
   by_cases hJi : 1 = J
   ·subst hJi
    have h1 : ∀ W, Calls Tryz.prog 114 #[.string (str L), .string ⟨#[44]⟩] W fun e w' => e = .returned (.bool true) ∧ w' = W := fun W => hyes (by omega) W
    have h2 : ∀ n, Calls Tryz.prog 115 #[.pointer (some ⟨R, 0, none⟩), .agg #[.int .u8 2, .string ⟨#[44]⟩, .int .i64 0, .int .i64 0], .int .i64 1] (w.drewN n) fun e w' => e = .returned (.tuple #[]) ∧ RD w' R s (k + 1) (ts ++ [⟨2, [44], 0, k⟩]) ∧ Bk R (w.drewN n) w' := fun n => hadd n [44] 1 (by omega) (by simp)
    clear hno hyes hadd
    go_wp2_with (first
     | (go_at_call 113; refine (hrest _).mono ?_; rintro e w' ⟨rfl, n, rfl⟩)
     | (go_at_call 114; refine (h1 _).mono ?_; rintro e w' ⟨rfl, rfl⟩)
     | (go_at_call 115; refine (h2 _).mono ?_; rintro e w1 ⟨rfl, hr, hb1⟩))
    go_ret
    exact ⟨rfl, hr, (bk_drewN _ _ _).trans hb1⟩
   ·have h1 : ∀ W, Calls Tryz.prog 114 #[.string (str L), .string ⟨#[44]⟩] W fun e w' => e = .returned (.bool false) ∧ w' = W := fun W => hno 1 (by omega) (by omega) W
    go_wp2_with (first
     | (go_at_call 113; refine (hrest _).mono ?_; rintro e w' ⟨rfl, n, rfl⟩)
     | (go_at_call 114; refine (h1 _).mono ?_; rintro e w' ⟨rfl, rfl⟩))
    go_roundw
    case rel => exact ⟨2, _, 2, by omega, by omega, rfl, rfl, rfl⟩
    case measure => simp [intOf]
  ·obtain rfl : j = 2 := by omega
   have hix := sig_ix2
   clear hj
   by_cases hJi : 2 = J
   ·subst hJi
    have h1 : ∀ W, Calls Tryz.prog 114 #[.string (str L), .string ⟨#[40]⟩] W fun e w' => e = .returned (.bool true) ∧ w' = W := fun W => hyes (by omega) W
    have h2 : ∀ n, Calls Tryz.prog 115 #[.pointer (some ⟨R, 0, none⟩), .agg #[.int .u8 2, .string ⟨#[40]⟩, .int .i64 0, .int .i64 0], .int .i64 1] (w.drewN n) fun e w' => e = .returned (.tuple #[]) ∧ RD w' R s (k + 1) (ts ++ [⟨2, [40], 0, k⟩]) ∧ Bk R (w.drewN n) w' := fun n => hadd n [40] 1 (by omega) (by simp)
    clear hno hyes hadd
    go_wp2_with (first
     | (go_at_call 113; refine (hrest _).mono ?_; rintro e w' ⟨rfl, n, rfl⟩)
     | (go_at_call 114; refine (h1 _).mono ?_; rintro e w' ⟨rfl, rfl⟩)
     | (go_at_call 115; refine (h2 _).mono ?_; rintro e w1 ⟨rfl, hr, hb1⟩))
    go_ret
    exact ⟨rfl, hr, (bk_drewN _ _ _).trans hb1⟩
   ·have h1 : ∀ W, Calls Tryz.prog 114 #[.string (str L), .string ⟨#[40]⟩] W fun e w' => e = .returned (.bool false) ∧ w' = W := fun W => hno 2 (by omega) (by omega) W
    go_wp2_with (first
     | (go_at_call 113; refine (hrest _).mono ?_; rintro e w' ⟨rfl, n, rfl⟩)
     | (go_at_call 114; refine (h1 _).mono ?_; rintro e w' ⟨rfl, rfl⟩))
    go_roundw
    case rel => exact ⟨3, _, 3, by omega, by omega, rfl, rfl, rfl⟩
    case measure => simp [intOf]
  ·obtain rfl : j = 3 := by omega
   have hix := sig_ix3
   clear hj
   by_cases hJi : 3 = J
   ·subst hJi
    have h1 : ∀ W, Calls Tryz.prog 114 #[.string (str L), .string ⟨#[41]⟩] W fun e w' => e = .returned (.bool true) ∧ w' = W := fun W => hyes (by omega) W
    have h2 : ∀ n, Calls Tryz.prog 115 #[.pointer (some ⟨R, 0, none⟩), .agg #[.int .u8 2, .string ⟨#[41]⟩, .int .i64 0, .int .i64 0], .int .i64 1] (w.drewN n) fun e w' => e = .returned (.tuple #[]) ∧ RD w' R s (k + 1) (ts ++ [⟨2, [41], 0, k⟩]) ∧ Bk R (w.drewN n) w' := fun n => hadd n [41] 1 (by omega) (by simp)
    clear hno hyes hadd
    go_wp2_with (first
     | (go_at_call 113; refine (hrest _).mono ?_; rintro e w' ⟨rfl, n, rfl⟩)
     | (go_at_call 114; refine (h1 _).mono ?_; rintro e w' ⟨rfl, rfl⟩)
     | (go_at_call 115; refine (h2 _).mono ?_; rintro e w1 ⟨rfl, hr, hb1⟩))
    go_ret
    exact ⟨rfl, hr, (bk_drewN _ _ _).trans hb1⟩
   ·have h1 : ∀ W, Calls Tryz.prog 114 #[.string (str L), .string ⟨#[41]⟩] W fun e w' => e = .returned (.bool false) ∧ w' = W := fun W => hno 3 (by omega) (by omega) W
    go_wp2_with (first
     | (go_at_call 113; refine (hrest _).mono ?_; rintro e w' ⟨rfl, n, rfl⟩)
     | (go_at_call 114; refine (h1 _).mono ?_; rintro e w' ⟨rfl, rfl⟩))
    go_roundw
    case rel => exact ⟨4, _, 4, by omega, by omega, rfl, rfl, rfl⟩
    case measure => simp [intOf]
  ·obtain rfl : j = 4 := by omega
   have hix := sig_ix4
   clear hj
   by_cases hJi : 4 = J
   ·subst hJi
    have h1 : ∀ W, Calls Tryz.prog 114 #[.string (str L), .string ⟨#[46, 46, 46]⟩] W fun e w' => e = .returned (.bool true) ∧ w' = W := fun W => hyes (by omega) W
    have h2 : ∀ n, Calls Tryz.prog 115 #[.pointer (some ⟨R, 0, none⟩), .agg #[.int .u8 2, .string ⟨#[46, 46, 46]⟩, .int .i64 0, .int .i64 0], .int .i64 3] (w.drewN n) fun e w' => e = .returned (.tuple #[]) ∧ RD w' R s (k + 3) (ts ++ [⟨2, [46, 46, 46], 0, k⟩]) ∧ Bk R (w.drewN n) w' := fun n => hadd n [46, 46, 46] 3 (by omega) (by simp)
    clear hno hyes hadd
    go_wp2_with (first
     | (go_at_call 113; refine (hrest _).mono ?_; rintro e w' ⟨rfl, n, rfl⟩)
     | (go_at_call 114; refine (h1 _).mono ?_; rintro e w' ⟨rfl, rfl⟩)
     | (go_at_call 115; refine (h2 _).mono ?_; rintro e w1 ⟨rfl, hr, hb1⟩))
    go_ret
    exact ⟨rfl, hr, (bk_drewN _ _ _).trans hb1⟩
   ·have h1 : ∀ W, Calls Tryz.prog 114 #[.string (str L), .string ⟨#[46, 46, 46]⟩] W fun e w' => e = .returned (.bool false) ∧ w' = W := fun W => hno 4 (by omega) (by omega) W
    go_wp2_with (first
     | (go_at_call 113; refine (hrest _).mono ?_; rintro e w' ⟨rfl, n, rfl⟩)
     | (go_at_call 114; refine (h1 _).mono ?_; rintro e w' ⟨rfl, rfl⟩))
    go_roundw
    case rel => exact ⟨5, _, 5, by omega, by omega, rfl, rfl, rfl⟩
    case measure => simp [intOf]
  ·obtain rfl : j = 5 := by omega
   clear hj
   obtain rfl : J = 5 := by omega
   go_wp2
   go_ret
   exact ⟨rfl, H.out.drewN _, bk_drewN _ _ _⟩
end Go.Proofs.YthaibekbefndlaaGreatDoor.C

namespace Go.Proofs.YthaibekbefndlaaGreatDoor.C
open Go.RowKit

theorem pre_one (a : UInt8) (r : List UInt8) (c : UInt8) : Lib.hasPrefix (a :: r) [c] = decide (a = c) := by
 rw [hasPrefix_one]; simp
theorem pre_three (a : UInt8) (r : List UInt8) : Lib.hasPrefix (a :: r) [46, 46, 46] = decide (a = 46 ∧ r.take 2 = [46, 46]) := by
 rw [Bool.eq_iff_iff, decide_eq_true_iff]
 unfold Lib.hasPrefix
 rw [List.isPrefixOf_iff_prefix, List.cons_prefix_cons, List.prefix_iff_eq_take]
 constructor
 ·rintro ⟨h1, h2⟩
  exact ⟨h1.symm, h2.symm⟩
 ·rintro ⟨h1, h2⟩
  exact ⟨h1.symm, h2.symm⟩
theorem sign_case (a : UInt8) (r : List UInt8) : (∃ J, J < 5 ∧ signL (a :: r) = some (sgB J).data.toList ∧ (∀ i, i < J → i < 5 → Lib.hasPrefix (a :: r) (sgB i).data.toList = false) ∧ Lib.hasPrefix (a :: r) (sgB J).data.toList = true) ∨
  (signL (a :: r) = none ∧ ∀ i, i < 5 → i < 5 → Lib.hasPrefix (a :: r) (sgB i).data.toList = false) := by
 have h0 : Lib.hasPrefix (a :: r) (sgB 0).data.toList = decide (a = 59) := pre_one a r 59
 have h1 : Lib.hasPrefix (a :: r) (sgB 1).data.toList = decide (a = 44) := pre_one a r 44
 have h2 : Lib.hasPrefix (a :: r) (sgB 2).data.toList = decide (a = 40) := pre_one a r 40
 have h3 : Lib.hasPrefix (a :: r) (sgB 3).data.toList = decide (a = 41) := pre_one a r 41
 have h4 : Lib.hasPrefix (a :: r) (sgB 4).data.toList = decide (a = 46 ∧ r.take 2 = [46, 46]) := pre_three a r
 have all : ∀ n : Nat, n ≤ 5 → (∀ i, i < n → i < 5 → i = 0 ∨ i = 1 ∨ i = 2 ∨ i = 3 ∨ i = 4) := fun n hn i hi _ => by omega
 by_cases e0 : a = 59
 ·subst e0
  exact .inl ⟨0, by omega, by rw [signL_cons, if_pos (by simp)]; rfl, fun i hi => by omega, by rw [h0]; simp⟩
 by_cases e1 : a = 44
 ·subst e1
  refine .inl ⟨1, by omega, by rw [signL_cons, if_pos (by simp)]; rfl, fun i hi _ => ?_, by rw [h1]; simp⟩
  obtain rfl : i = 0 := by omega
  rw [h0]; simp
 by_cases e2 : a = 40
 ·subst e2
  refine .inl ⟨2, by omega, by rw [signL_cons, if_pos (by simp)]; rfl, fun i hi _ => ?_, by rw [h2]; simp⟩
  rcases (by omega : i = 0 ∨ i = 1) with rfl | rfl
  ·rw [h0]; simp
  ·rw [h1]; simp
 by_cases e3 : a = 41
 ·subst e3
  refine .inl ⟨3, by omega, by rw [signL_cons, if_pos (by simp)]; rfl, fun i hi _ => ?_, by rw [h3]; simp⟩
  rcases (by omega : i = 0 ∨ i = 1 ∨ i = 2) with rfl | rfl | rfl
  ·rw [h0]; simp
  ·rw [h1]; simp
  ·rw [h2]; simp
 have n0 : decide (a = 59) = false := decide_eq_false e0
 have n1 : decide (a = 44) = false := decide_eq_false e1
 have n2 : decide (a = 40) = false := decide_eq_false e2
 have n3 : decide (a = 41) = false := decide_eq_false e3
 rw [n0] at h0
 rw [n1] at h1
 rw [n2] at h2
 rw [n3] at h3
 have hs : signL (a :: r) = if a = 46 ∧ r.take 2 = [46, 46] then some [46, 46, 46] else none := by rw [signL_cons, if_neg (by simp [e0, e1, e2, e3])]
 by_cases e4 : a = 46 ∧ r.take 2 = [46, 46]
 ·refine .inl ⟨4, by omega, by rw [hs, if_pos e4]; rfl, fun i hi _ => ?_, by rw [h4]; exact decide_eq_true e4⟩
  rcases (by omega : i = 0 ∨ i = 1 ∨ i = 2 ∨ i = 3) with rfl | rfl | rfl | rfl <;> assumption
 ·refine .inr ⟨by rw [hs, if_neg e4], fun i hi _ => ?_⟩
  rw [decide_eq_false e4] at h4
  rcases (by omega : i = 0 ∨ i = 1 ∨ i = 2 ∨ i = 3 ∨ i = 4) with rfl | rfl | rfl | rfl | rfl <;> assumption

def fns : Nat → Nat
 | 0 => 67
 | 1 => 68
 | 2 => 69
 | 3 => 70
 | 4 => 71
 | 5 => 72
 | 6 => 73
 | _ => 74
def StNo (R k : Nat) (s : ByteArray) (ts : List Tok) (i : Nat) : Prop := ∀ W, RD W R s k ts → Gl W → Calls Tryz.prog (fns i) #[.pointer (some ⟨R, 0, none⟩)] W (Stepped W R s false k ts)
def StYes (R k : Nat) (s : ByteArray) (ts : List Tok) (i k' : Nat) (ts' : List Tok) : Prop := ∀ W, RD W R s k ts → Gl W → Calls Tryz.prog (fns i) #[.pointer (some ⟨R, 0, none⟩)] W (Stepped W R s true k' ts')
def StBad (R k : Nat) (s : ByteArray) (ts : List Tok) : Prop := ∀ W, RD W R s k ts → Gl W → Calls Tryz.prog (fns 4) #[.pointer (some ⟨R, 0, none⟩)] W (Bad W R k)

theorem toNat_ne {a b : UInt8} (h : a ≠ b) : a.toNat ≠ b.toNat := fun e => h (UInt8.toNat_inj.1 e)
theorem steps_case (R k : Nat) (s : ByteArray) (ts : List Tok) (hk : k < s.size) (hs : s.size ≤ 4000) (hts : ts.length ≤ 4500) :
  (∃ J ts' m, J < 8 ∧ stepL (s.data.toList.drop k) k ts = some (ts', m) ∧ (∀ i, i < J → StNo R k s ts i) ∧ StYes R k s ts J (k + m) ts') ∨
  (stepL (s.data.toList.drop k) k ts = none ∧ (∀ i, i < 4 → StNo R k s ts i) ∧ StBad R k s ts) ∨
  (stepL (s.data.toList.drop k) k ts = none ∧ ∀ i, i < 8 → StNo R k s ts i) := by
 have hd := drop_ba hk
 obtain ⟨a, ha⟩ : ∃ a, s[k]'hk = a := ⟨_, rfl⟩
 obtain ⟨r, hr⟩ : ∃ r, s.data.toList.drop (k + 1) = r := ⟨_, rfl⟩
 rw [ha, hr] at hd
 have bl : blankL (s.data.toList.drop k) = if a = 32 ∨ a = 9 then 1 else if a = 37 then 1 + (r.takeWhile (· ≠ 10)).length else 0 := by rw [hd, blankL_cons]
 have n0 : a ≠ 32 → a ≠ 9 → StNo R k s ts 0 := fun h1 h2 W hW _ => blank_no W R k s ts hW hk hs (by rw [ha]; exact toNat_ne h1) (by rw [ha]; exact toNat_ne h2)
 have n1 : a ≠ 37 → StNo R k s ts 1 := fun h1 W hW _ => remark_no W R k s ts hW hk hs (by rw [ha]; exact toNat_ne h1)
 have n2 : a ≠ 10 → StNo R k s ts 2 := fun h1 W hW _ => lineEnd_no W R k s ts hW hk hs (by rw [ha]; exact toNat_ne h1)
 by_cases e0 : a = 32
 ·refine .inl ⟨0, ts, 1, by omega, ?_, fun i hi => by omega, fun W hW _ => blank_32 W R k s ts hW hk hs (by rw [ha, e0]; rfl)⟩
  have bl1 : blankL (s.data.toList.drop k) = 1 := by rw [bl, if_pos (Or.inl e0)]
  unfold stepL
  rw [bl1, if_pos (by decide)]
 by_cases e1 : a = 9
 ·refine .inl ⟨0, ts, 1, by omega, ?_, fun i hi => by omega, fun W hW _ => blank_9 W R k s ts hW hk hs (by rw [ha, e1]; rfl)⟩
  have bl1 : blankL (s.data.toList.drop k) = 1 := by rw [bl, if_pos (Or.inr e1)]
  unfold stepL
  rw [bl1, if_pos (by decide)]
 rw [if_neg (by simp [e0, e1])] at bl
 by_cases e2 : a = 37
 ·refine .inl ⟨1, ts, ((s.data.toList.drop k).takeWhile (fun x : UInt8 => decide (x ≠ 10))).length, by omega, ?_, fun i hi => ?_, fun W hW _ => remark_yes W R k s ts hW hk hs (by rw [ha, e2]; rfl)⟩
  ·have : ((s.data.toList.drop k).takeWhile (fun x : UInt8 => decide (x ≠ 10))).length = 1 + (r.takeWhile (fun x : UInt8 => decide (x ≠ 10))).length := by
    rw [hd, e2, List.takeWhile_cons, if_pos (by decide), List.length_cons]; omega
   rw [this]
   unfold stepL
   rw [bl, if_pos e2, if_pos (by omega)]
  ·obtain rfl : i = 0 := by omega
   exact n0 e0 e1
 rw [if_neg e2] at bl
 have st : stepL (s.data.toList.drop k) k ts = if (s.data.toList.drop k).head? = some 10 then some (endL ts k, 1) else match tokL (s.data.toList.drop k) with
  | some (kd, t, n, m) => some (ts ++ [⟨kd, t, n, k⟩], m)
  | none => none := by
  unfold stepL
  rw [bl, if_neg (by simp)]
  rfl
 rw [st]
 by_cases e3 : a = 10
 ·refine .inl ⟨2, endL ts k, 1, by omega, by rw [hd, if_pos (by rw [e3]; rfl)], fun i hi => ?_, fun W hW _ => lineEnd_yes W R k s ts hW hk hs (by omega) (by rw [ha, e3]; rfl)⟩
  rcases (by omega : i = 0 ∨ i = 1) with rfl | rfl
  ·exact n0 e0 e1
  ·exact n1 e2
 rw [if_neg (by rw [hd]; simp [e3])]
 have n012 : ∀ i, i < 3 → StNo R k s ts i := fun i hi => by
  rcases (by omega : i = 0 ∨ i = 1 ∨ i = 2) with rfl | rfl | rfl
  ·exact n0 e0 e1
  ·exact n1 e2
  ·exact n2 e3
 rcases sign_case a r with ⟨J, hJ, hsg, hn, hy⟩ | ⟨hsg, hn⟩
 ·rw [← hd] at hsg hn hy
  have tk : tokL (s.data.toList.drop k) = some (2, (sgB J).data.toList, 0, (sgB J).data.toList.length) := by unfold tokL; rw [hsg]
  rw [tk]
  refine .inl ⟨3, _, _, by omega, rfl, n012, fun W hW hG => ?_⟩
  have := ssign_any W R k s ts hW hG hk hs hts J (by omega) hn (fun _ => hy)
  refine this.mono fun e w' h => ?_
  unfold SignTold at h
  rw [if_pos hJ, ← size_list] at h
  exact h
 ·rw [← hd] at hsg hn
  have n3 : StNo R k s ts 3 := fun W hW hG => by
   have := ssign_any W R k s ts hW hG hk hs hts 5 (by omega) hn (fun h => absurd h (by omega))
   refine this.mono fun e w' h => ?_
   unfold SignTold at h
   rw [if_neg (by omega)] at h
   exact h
  have n0123 : ∀ i, i < 4 → StNo R k s ts i := fun i hi => by
   rcases (by omega : i < 3 ∨ i = 3) with h | rfl
   ·exact n012 i h
   ·exact n3
  unfold tokL
  rw [hsg]
  simp only
  cases hnum : numL (nameL (s.data.toList.drop k)) with
  | some v =>
   simp only
   cases hv : rightN v with
   | true =>
    exact .inl ⟨4, _, _, by omega, rfl, n0123, fun W hW _ => sscalar_yes W R k s ts hW hk hs hts v hnum hv⟩
   | false =>
    exact .inr (.inl ⟨rfl, n0123, fun W hW _ => sscalar_bad W R k s ts hW hk hs hts v hnum hv⟩)
  | none =>
   simp only
   have n4 : StNo R k s ts 4 := fun W hW hG => sscalar_no W R k s ts hW hk hs hts hG hnum
   have n04 : ∀ i, i < 5 → StNo R k s ts i := fun i hi => by
    rcases (by omega : i < 4 ∨ i = 4) with h | rfl
    ·exact n0123 i h
    ·exact n4
   by_cases hnm : nameL (s.data.toList.drop k) = []
   ·rw [if_neg (by simp [hnm])]
    have n05 : ∀ i, i < 6 → StNo R k s ts i := fun i hi => by
     rcases (by omega : i < 5 ∨ i = 5) with h | rfl
     ·exact n04 i h
     ·exact fun W hW _ => sname_no W R k s ts hW hk hs hts hnm
    have n06 : quoL (s.data.toList.drop k) = none → ∀ i, i < 7 → StNo R k s ts i := fun hq i hi => by
     rcases (by omega : i < 6 ∨ i = 6) with h | rfl
     ·exact n05 i h
     ·intro W hW _
      by_cases e34 : a = 34
      ·rw [e34] at hd
       by_cases hlt : (r.takeWhile (· ≠ 34)).length < r.length
       ·by_cases h10 : 10 ∈ r.takeWhile (· ≠ 34)
        ·exact squoted_no3 W R k s ts hW hk hs hts r hd hlt h10
        ·rw [hd, quoL_cons, if_pos ⟨rfl, hlt, h10⟩] at hq
         cases hq
       ·exact squoted_no2 W R k s ts hW hk hs hts r hd hlt
      ·exact squoted_no1 W R k s ts hW hk hs hts (by rw [hd]; simp [e34])
    cases hq : quoL (s.data.toList.drop k) with
    | some t =>
     simp only
     have hq' := hq
     rw [hd, quoL_cons] at hq'
     by_cases hc : a = 34 ∧ (r.takeWhile (· ≠ 34)).length < r.length ∧ 10 ∉ r.takeWhile (· ≠ 34)
     ·rw [if_pos hc] at hq'
      injection hq' with hq'
      subst hq'
      exact .inl ⟨6, _, _, by omega, rfl, n05, fun W hW _ => squoted_yes W R k s ts hW hk hs hts r (by rw [hd, hc.1]) hc.2.1 hc.2.2⟩
     ·rw [if_neg hc] at hq'
      cases hq'
    | none =>
     simp only
     by_cases hw : wordL (s.data.toList.drop k) = []
     ·rw [if_neg (by simp [hw])]
      refine .inr (.inr ⟨rfl, fun i hi => ?_⟩)
      rcases (by omega : i < 7 ∨ i = 7) with h | rfl
      ·exact n06 hq i h
      ·exact fun W hW _ => sword_no W R k s ts hW hk hs hts hw
     ·rw [if_pos hw]
      exact .inl ⟨7, _, _, by omega, rfl, n06 hq, fun W hW _ => sword_yes W R k s ts hW hk hs hts hw⟩
   ·rw [if_pos hnm]
    exact .inl ⟨5, _, _, by omega, rfl, n04, fun W hW _ => sname_yes W R k s ts hW hk hs hts hnm⟩
end Go.Proofs.YthaibekbefndlaaGreatDoor.C

namespace Go.Proofs.YthaibekbefndlaaGreatDoor.C
open Go.RowKit

theorem own_iter {w : World} {base : Nat} {e : TypeId} {size : Nat} {v : Value} {n : Nat} {xs : List Value} (h : w.ownsRow base e size v n xs) {k : Nat} {s : ByteArray} {pos : Nat} (hk : w.heap[k]? = some (.stringIter s pos)) (pos' : Nat) :
  (w.iterAt k s pos').ownsRow base e size v n xs := by
 refine ⟨h.1, ?_⟩
 rcases h.2 with h1 | ⟨g, cap, cur, h1, h2, h3, h4⟩
 ·exact .inl h1
 ·refine .inr ⟨g, cap, cur, h1, h2, ?_, h4⟩
  rw [Lib.iterAt_other _ _ _ _ _ (fun e => by subst e; rw [h3] at hk; cases hk)]
  exact h3
theorem own_ne_iter {w : World} {base : Nat} {e : TypeId} {size : Nat} {v : Value} {n : Nat} {xs : List Value} (h : w.ownsRow base e size v n xs) {k : Nat} {s : ByteArray} {pos : Nat} (hk : w.heap[k]? = some (.stringIter s pos)) : some k ≠ v.ownBlock := by
 rcases h.2 with ⟨rfl, _⟩ | ⟨g, cap, cur, rfl, _, h3, _⟩
 ·simp [Value.ownBlock]
 ·intro he
  simp [Value.ownBlock] at he
  subst he
  rw [h3] at hk
  cases hk
theorem of_more {w wr w2 : World} {B K : Nat} {e : TypeId} {v : Value} {n : Nat} {xs : List Value} {s : ByteArray} {pos p' : Nat} {o : Obj} (hown : wr.ownsRow B e 1 v n xs) (hit : wr.heap[K]? = some (.stringIter s pos)) (hb : Below B w wr) (hBK : B ≤ K) (hBw : B ≤ w.heap.size)
  (hg : ((wr.iterAt K s p').alloc o).grownBy w2 v.ownBlock) : w2.heap[K]? = some (.stringIter s p') ∧ Below B w w2 := by
 have hK : K < wr.heap.size := (Array.getElem?_eq_some_iff.1 hit).1
 have hne := own_ne_iter hown hit
 have hsz : (wr.iterAt K s p').heap.size = wr.heap.size := Lib.iterAt_size _ _ _ _
 have hBr : B ≤ wr.heap.size := Nat.le_trans hBw hb.size
 constructor
 ·rw [hg.block K (by simp; omega) hne, Below.heap_alloc _ _ _ (by omega)]
  exact Lib.iterAt_heap wr K s pos p' hit
 ·refine Below.grown ((Lib.below_iterAt hb hBK s p').alloc (by omega) o) hg (by simp; omega) ?_
  intro k hk
  exact (hown.lt k hk).1

theorem hasPrefix_at (s : ByteArray) (pos : Nat) (b : Bool) (h : hasP s pos = b) (w : World) :
  Calls Tryz.prog 114 #[.string (s.extract pos s.size), .string ⟨#[239, 191, 189]⟩] w fun e w' => e = .returned (.bool b) ∧ w = w' := by
 have := hasPrefix_any (s.extract pos s.size) ⟨#[239, 191, 189]⟩ w
 rw [show Lib.hasPrefix (s.extract pos s.size).data.toList (ByteArray.mk #[239, 191, 189]).data.toList = b from h] at this
 exact this

set_option maxHeartbeats 2000000 in
theorem of_any (s : ByteArray) (w : World) (hs : s.size ≤ 1099511627776) :
  Calls Tryz.prog 129 #[.string s] w fun e w' => ∃ v, e = .returned v ∧ w'.ownsRow w.heap.size 35 1 v (ofL s).length ((ofL s).map (Value.int .i32)) ∧ Below w.heap.size w w' := by
 obtain ⟨i0, hi, hz0, hz1, hz2⟩ := info_parts info33
 have hrc := Lib.runeCount_le s
 go_enter Tryz.func129, Tryz.ntmps129
 go_wp2_with fail
 refine (runeCount_any s w (by omega)).mono ?_
 rintro e w1 ⟨rfl, pos, rfl⟩
 have hb1 : Below w.heap.size w (w.iter s pos) := (Below.refl _ _).alloc (Nat.le_refl _) _
 have hs1 : (w.iter s pos).heap.size = w.heap.size + 1 := by simp [World.iter]
 generalize w.iter s pos = w1 at *
 have HS1 := Lib.hid hs1
 clear hs1
 generalize Lib.runeCount s = rc at *
 go_wp2_with (at_make; (refine wpList_make_own _ rfl _ _ 32 rfl w.heap.size 35 i0 (.int .i32 0) 1 Tryz.underlying32 hi hz0 hz1 .i64 .i64 _ rc rfl rfl (by omega) (by rw [hz2]; omega) (by unfold maxLen; omega) (by rw [HS1.out]; omega) ?_); intro w2 hown hgrow; have hb2 : Below w.heap.size w w2 := hb1.grown hgrow (by rw [HS1.out]; omega) (fun _ h => by cases h); clear hgrow; have HO := Lib.hid hown; clear hown)
 go_loopw [3] (fun v wr => ∃ (pos b : Nat) (acc : List Int), OfSt s acc b pos ∧ Hid (wr.ownsRow w.heap.size 35 1 v acc.length (acc.map (Value.int .i32))) ∧ Hid (wr.heap[w2.heap.size]? = some (.stringIter s pos)) ∧ Below w.heap.size w wr) (fun _ wr => s.size - wr.iterPos w2.heap.size)
 case atStart => exact ⟨0, s.size, [], ofSt_zero s, HO.out.alloc _, heap_alloc_new _ _, hb2.alloc hb2.size _⟩
 case round =>
  obtain ⟨pos, b, acc, hst, HW, HI, hbr⟩ := hrel
  have HST := Lib.hid hst
  clear hst
  have hsz := hbr.size
  have hsz2 := hb2.size
  have hmes : s.size - wr.iterPos w2.heap.size = s.size - pos := by rw [iterPos_of HI.out]
  have HM := Lib.hid hmes
  clear hmes
  by_cases hp : pos < s.size
  ·obtain ⟨b', hst'⟩ := ofSt_step HST.out hp
   have hnx : ∀ ty, (Instr.next (.pointer (some ⟨w2.heap.size, 0, none⟩)) true ty).run Tryz.prog wr = _ := fun ty => Lib.run_next_any_at wr w2.heap.size s pos ty HI.out hp
   have hwd := Lib.decode_width_pos s pos hp
   have hszi : w.heap.size ≤ (wr.iterAt w2.heap.size s (pos + (Utf8.decode s pos).2)).heap.size := by rw [Lib.iterAt_size]; exact hsz
   by_cases hr : (((Utf8.decode s pos).1 : Int) == 65533) = true
   ·cases hh : hasP s pos with
    | false =>
     have hcell : cellAt s pos = -1 - ((s.get! pos).toNat : Int) := if_pos ⟨hr, hh⟩
     have hget : s.get! pos = s[pos] := get_at s pos hp
     rw [hcell, hget] at hst'
     have HS' := Lib.hid hst'
     have hbd : (s[pos].toNat : Int) ≤ 255 := by have := s[pos].toNat_lt; omega
     clear hst' hcell hget
     go_wp2_with fail
     refine (hasPrefix_at s pos false hh _).mono ?_
     rintro e w' ⟨rfl, rfl⟩
     clear hh
     go_wp2_with fail
     refine (escape_any _ _ (by omega) hbd).mono ?_
     rintro e w' ⟨rfl, rfl⟩
     go_wp2_with (at_builtin; (refine wpList_append_own _ rfl _ _ 32 rfl w.heap.size 35 i0 (.int .i32 0) 1 4 Tryz.underlying32 hi hz0 hz1 hz2 rfl (by decide) _ _ _ rfl ((own_iter HW.out HI.out _).alloc _) _ 1 1 [.int .i32 (-1 - (s[pos].toNat : Int))] rfl rfl (cell_one_new _ _ _) (by intro u hu; simp at hu; subst hu; rfl) (by unfold maxLen; have := HST.out.2.2.2; omega) (by have := HST.out.2.2.2; omega) (by simp; omega) ?_); intro v' w3 hown' hgrow _; have R := Lib.hid (of_more HW.out HI.out hbr hsz2 (Nat.le_refl _) hgrow); have HO3 := Lib.hid hown'; clear hown' hgrow)
     go_roundw
     case rel => exact ⟨_, b', acc ++ [(-1 - (s[pos].toNat : Int))], HS'.out, by simpa [Hid] using HO3.out, R.out.1, R.out.2⟩
     case measure => rw [HM.out, iterPos_of R.out.1]; omega
    | true =>
     have hcell : cellAt s pos = ((Utf8.decode s pos).1 : Int) := if_neg (by rw [hh]; simp)
     rw [hcell] at hst'
     have HS' := Lib.hid hst'
     clear hst' hcell
     go_wp2_with fail
     refine (hasPrefix_at s pos true hh _).mono ?_
     rintro e w' ⟨rfl, rfl⟩
     clear hh
     go_wp2_with (at_builtin; (refine wpList_append_own _ rfl _ _ 32 rfl w.heap.size 35 i0 (.int .i32 0) 1 4 Tryz.underlying32 hi hz0 hz1 hz2 rfl (by decide) _ _ _ rfl ((own_iter HW.out HI.out _).alloc _) _ 1 1 [.int .i32 ((Utf8.decode s pos).1 : Int)] rfl rfl (cell_one_new _ _ _) (by intro u hu; simp at hu; subst hu; rfl) (by unfold maxLen; have := HST.out.2.2.2; omega) (by have := HST.out.2.2.2; omega) (by simp; omega) ?_); intro v' w3 hown' hgrow _; have R := Lib.hid (of_more HW.out HI.out hbr hsz2 (Nat.le_refl _) hgrow); have HO3 := Lib.hid hown'; clear hown' hgrow)
     go_roundw
     case rel => exact ⟨_, b', acc ++ [((Utf8.decode s pos).1 : Int)], HS'.out, by simpa [Hid] using HO3.out, R.out.1, R.out.2⟩
     case measure => rw [HM.out, iterPos_of R.out.1]; omega
   ·have hr' : (((Utf8.decode s pos).1 : Int) == 65533) = false := by simpa using hr
    have hcell : cellAt s pos = ((Utf8.decode s pos).1 : Int) := if_neg (by rw [hr']; simp)
    rw [hcell] at hst'
    have HS' := Lib.hid hst'
    clear hst' hcell hr
    go_wp2_with (at_builtin; (refine wpList_append_own _ rfl _ _ 32 rfl w.heap.size 35 i0 (.int .i32 0) 1 4 Tryz.underlying32 hi hz0 hz1 hz2 rfl (by decide) _ _ _ rfl ((own_iter HW.out HI.out _).alloc _) _ 1 1 [.int .i32 ((Utf8.decode s pos).1 : Int)] rfl rfl (cell_one_new _ _ _) (by intro u hu; simp at hu; subst hu; rfl) (by unfold maxLen; have := HST.out.2.2.2; omega) (by have := HST.out.2.2.2; omega) (by simp; omega) ?_); intro v' w3 hown' hgrow _; have R := Lib.hid (of_more HW.out HI.out hbr hsz2 (Nat.le_refl _) hgrow); have HO3 := Lib.hid hown'; clear hown' hgrow)
    go_roundw
    case rel => exact ⟨_, b', acc ++ [((Utf8.decode s pos).1 : Int)], HS'.out, by simpa [Hid] using HO3.out, R.out.1, R.out.2⟩
    case measure => rw [HM.out, iterPos_of R.out.1]; omega
  ·have hnx : ∀ ty, (Instr.next (.pointer (some ⟨w2.heap.size, 0, none⟩)) true ty).run Tryz.prog wr = _ := fun ty => Lib.run_next_end_at wr w2.heap.size s pos ty HI.out hp
   go_wp2
   go_ret
   refine ⟨_, rfl, ?_, hbr⟩
   rw [ofSt_end HST.out hp]
   exact HW.out
end Go.Proofs.YthaibekbefndlaaGreatDoor.C

namespace Go.Proofs.YthaibekbefndlaaGreatDoor.C
open Go.RowKit
open Go.Lib (decodeN)

theorem RI.flat {ki : IntKind} {w : World} {B n : Nat} {A : Option Addr} {zs : List Int} (h : RI ki w B A n zs) (hn : 0 < n) :
  ∃ b off, A = some ⟨b, off, none⟩ ∧ b < B ∧ ∀ j u, zs[j]? = some u → w.cell? ⟨b, off + j, none⟩ = some (.int ki u) := by
 obtain ⟨ad, u, rfl, hb, _, hc⟩ := h.at_ hn
 obtain ⟨ad', e, _, hcell⟩ := h.2 hn
 injection e with e
 subst e
 obtain ⟨b, off, sp⟩ := ad
 have hsp : sp = none := by
  have e0 : (⟨b, off, sp⟩ : Addr).add 0 = ⟨b, off, sp⟩ := by simp [Addr.add]
  rw [e0] at hc
  exact cell_spot hc
 subst hsp
 exact ⟨b, off, rfl, hb, fun j u hu => by rw [← add_plain]; exact hcell j u hu⟩
theorem sb_get {zs : List Int} (h : Bd zs) (j : Nat) (hj : j < zs.length) : (((sb zs).get! j).toNat : Int) = zs[j] := by
 have e := gb_sb h j
 have hb := h zs[j] (List.getElem_mem hj)
 unfold gb nb at e
 rw [e]
 simp [List.getD_eq_getElem?_getD, List.getElem?_eq_getElem hj]
 omega

set_option maxHeartbeats 400000 in
theorem runeCount_zero (w : World) (A : Option Addr) (c : Nat) :
  Calls Tryz.prog 206 #[.slice A 0 c] w fun e w' => e = .returned (.int .i64 0) ∧ w = w' := by
 go_enter Tryz.func206, Tryz.ntmps206
 go_wp2
 go_loop [4] (fun i => i = .int .i64 0) (fun _ => 0)
 case atStart => rfl
 case round =>
  subst hrel
  go_wp2
  go_ret
  exact ⟨rfl, rfl⟩
theorem runeCount_ri (w : World) (B : Nat) (A : Option Addr) (n c : Nat) (zs : List Int) (hx : RI .u8 w B A n zs) (hz : Bd zs) (hnc : n ≤ c) (hn : n ≤ 1099511627776) :
  Calls Tryz.prog 206 #[.slice A n c] w fun e w' => ∃ k : Nat, k ≤ n ∧ e = .returned (.int .i64 k) ∧ Below w.heap.size w w' := by
 rcases Nat.eq_zero_or_pos n with h0 | h0
 ·subst h0
  refine (runeCount_zero w A c).mono ?_
  rintro e w' ⟨rfl, rfl⟩
  exact ⟨0, Nat.le_refl _, rfl, Below.refl _ _⟩
 ·obtain ⟨b, off, rfl, _, hc⟩ := hx.flat h0
  have hl : (sb zs).size = n := by rw [sb_size]; exact hx.len
  have := Any7.utf8_RuneCount Tryz.lays31 (sb zs) b off c w (by omega) (fun j hj => by
   have hj' : j < zs.length := by rw [sb_size] at hj; exact hj
   rw [hc j zs[j] (List.getElem?_eq_getElem hj'), sb_get hz j hj']) (by omega)
  rw [hl] at this
  refine this.mono ?_
  rintro e w' ⟨rfl, hw⟩
  have hle := Lib.runeCount_le (sb zs)
  refine ⟨Lib.runeCount (sb zs), by omega, rfl, ?_⟩
  rcases hw with rfl | ⟨t, pos, rfl⟩
  ·exact Below.refl _ _
  ·exact (Below.refl _ _).alloc (Nat.le_refl _) _
theorem decodeRune_ri (w : World) (B : Nat) (A : Option Addr) (n c : Nat) (zs : List Int) (hx : RI .u8 w B A n zs) (hz : Bd zs) (h0 : 0 < n) (hT : Lib.Utf8Tabs 3 4 w) (R K : Nat) (hd : Utf8.decode (sb zs) 0 = (R, K)) :
  Calls Tryz.prog 207 #[.slice A n c] w fun e w' => e = .returned (.tuple #[.int .i32 (R : Int), .int .i64 (K : Int)]) ∧ Below w.heap.size w w' := by
 obtain ⟨b, off, rfl, _, hc⟩ := hx.flat h0
 have hl : (sb zs).size = n := by rw [sb_size]; exact hx.len
 have := Any7.utf8_DecodeRune Tryz.lays32 (sb zs) b off c w hT (fun j hj => by
  have hj' : j < zs.length := by rw [sb_size] at hj; exact hj
  rw [hc j zs[j] (List.getElem?_eq_getElem hj'), sb_get hz j hj'])
 rw [hl] at this
 have e : Lib.decodeGo (sb zs) = (R, K) := by unfold Lib.decodeGo; rw [if_neg (by omega), hd]
 rw [e] at this
 exact this

set_option maxHeartbeats 400000 in
theorem cellOf_bad (b : Int) (w : World) (h0 : 0 ≤ b) (h1 : b ≤ 255) :
  Calls Tryz.prog 208 #[.int .i32 65533, .int .i64 1, .int .u8 b] w fun e w' => e = .returned (.int .i32 (-1 - b)) ∧ w = w' := by
 go_enter Tryz.func208, Tryz.ntmps208
 go_wp2_with (go_at_call 172; refine (escape_any _ _ h0 h1).mono ?_; rintro e w' ⟨rfl, rfl⟩)
 go_ret
 exact ⟨rfl, rfl⟩
set_option maxHeartbeats 400000 in
theorem cellOf_good (r k : Nat) (b : Int) (w : World) (h : ¬ (r, k) = (65533, 1)) :
  Calls Tryz.prog 208 #[.int .i32 (r : Int), .int .i64 (k : Int), .int .u8 b] w fun e w' => e = .returned (.int .i32 (r : Int)) ∧ w = w' := by
 by_cases hr : r = 65533
 ·have hk : ¬ k = 1 := fun e => h (by rw [hr, e])
  have t1 : ((r : Int) == 65533) = true := by simp; omega
  have t2 : ((k : Int) == 1) = false := by simp; omega
  clear h hr hk
  go_enter Tryz.func208, Tryz.ntmps208
  go_wp2
  all_goals go_ret
  all_goals exact ⟨rfl, rfl⟩
 ·have t1 : ((r : Int) == 65533) = false := by simp; omega
  clear h hr
  go_enter Tryz.func208, Tryz.ntmps208
  go_wp2
  all_goals go_ret
  all_goals exact ⟨rfl, rfl⟩
def cellZ (r k : Nat) (b : Int) : Int := if (r, k) = (65533, 1) then -1 - b else (r : Int)
theorem cellOf_any (r k : Nat) (b : Int) (w : World) (h0 : 0 ≤ b) (h1 : b ≤ 255) :
  Calls Tryz.prog 208 #[.int .i32 (r : Int), .int .i64 (k : Int), .int .u8 b] w fun e w' => e = .returned (.int .i32 (cellZ r k b)) ∧ w = w' := by
 unfold cellZ
 split
 ·rename_i h
  injection h with h2 h3
  subst h2 h3
  exact cellOf_bad b w h0 h1
 ·rename_i h
  exact cellOf_good r k b w h
theorem cellZ_at {zs : List Int} (h : Bd zs) (pos : Nat) (hp : pos < zs.length) (R K : Nat) (hd : Utf8.decode (sb zs) pos = (R, K)) : cellZ R K zs[pos] = cellAt (sb zs) pos := by
 rw [cellAt_sb h pos hp]
 rw [decode_sb h] at hd
 unfold cellZ cellN
 rw [hd]
 have hb := h zs[pos] (List.getElem_mem hp)
 have e : (nb zs pos : Int) = zs[pos] := by
  unfold nb
  simp [List.getD_eq_getElem?_getD, List.getElem?_eq_getElem hp]
  omega
 rw [e]
theorem decode_drop {zs : List Int} (h : Bd zs) (pos : Nat) : Utf8.decode (sb (zs.drop pos)) 0 = Utf8.decode (sb zs) pos := by
 rw [decode_sb (bd_drop h pos), decode_sb h]
 simp only [nb_drop, Nat.add_zero, List.length_drop, Nat.sub_zero, Nat.zero_add]
theorem tabs_below {w w' : World} (h : Lib.Utf8Tabs 3 4 w) (hb : Below w.heap.size w w') : Lib.Utf8Tabs 3 4 w' := Utf8Tabs_below h hb

def lenV : Value → Nat
 | .slice _ n _ => n
 | _ => 0

set_option maxHeartbeats 2000000 in
theorem decode_any (w : World) (B : Nat) (A : Option Addr) (n c : Nat) (zs : List Int) (hx : RI .u8 w B A n zs) (hB : B ≤ w.heap.size) (hz : Bd zs) (hnc : n ≤ c) (hn : n ≤ 1099511627776) (hc : c ≤ maxLen) (hT : Lib.Utf8Tabs 3 4 w) :
  Calls Tryz.prog 192 #[.slice A n c] w fun e w' => ∃ v, e = .returned v ∧ w'.ownsRow w.heap.size 35 1 v (ofL (sb zs)).length ((ofL (sb zs)).map (Value.int .i32)) ∧ Below w.heap.size w w' := by
 unfold maxLen at hc
 obtain ⟨i0, hi, hz0, hz1, hz2⟩ := info_parts info33
 have HL := Lib.hid hx.len
 have HX := Lib.hid hx
 have HZ := Lib.hid hz
 have HT := Lib.hid hT
 clear hx hz hT
 go_enter Tryz.func192, Tryz.ntmps192
 go_wp2_with fail
 refine (runeCount_ri w B A n c zs HX.out HZ.out hnc hn).mono ?_
 rintro e w1 ⟨rc, hrc, rfl, hb1⟩
 have hs1 := hb1.size
 go_wp2_with (at_make; (refine wpList_make_own _ rfl _ _ 32 rfl w.heap.size 35 i0 (.int .i32 0) 1 Tryz.underlying32 hi hz0 hz1 .i64 .i64 _ rc rfl rfl (by omega) (by rw [hz2]; omega) (by unfold maxLen; omega) (by omega) ?_); intro w2 hown hgrow; have hb2 : Below w.heap.size w w2 := hb1.grown hgrow (by omega) (fun _ h => by cases h); clear hgrow; have HO := Lib.hid hown; clear hown)
 go_loopw [0, 3] (fun bv v wr => ∃ (pos f m cp : Nat) (A' : Option Addr) (acc : List Int), bv = .slice A' m cp ∧ Hid (m + pos = n) ∧ m ≤ cp ∧ cp ≤ 9223372036854775807 ∧ Hid (OfSt (sb zs) acc f pos) ∧ Hid (RI .u8 w B A' m (zs.drop pos)) ∧ Hid (wr.ownsRow w.heap.size 35 1 v acc.length (acc.map (Value.int .i32))) ∧ Below w.heap.size w wr) (fun bv _ _ => lenV bv)
 case atStart => exact ⟨0, (sb zs).size, n, c, A, [], rfl, rfl, hnc, hc, ofSt_zero _, HX.out, HO.out, hb2⟩
 case round =>
  obtain ⟨pos, f, m, cp, A', acc, rfl, HM, hmc, hcp, HST, HR, HW, hbr⟩ := hrel
  have hsz := hbr.size
  by_cases hm : 0 < m
  ·obtain ⟨ad, z, rfl, hbl, hzp, hcell⟩ := HR.out.at_ hm
   have hp : pos < zs.length := by have := HM.out; have := HL.out; omega
   have hzv : zs[pos] = z := by
    have := hzp
    simp at this
    obtain ⟨_, h⟩ := List.getElem?_eq_some_iff.1 this
    exact h
   have hzb := HZ.out z (by rw [← hzv]; exact List.getElem_mem hp)
   obtain ⟨f', hst'⟩ := ofSt_step HST.out (by rw [sb_size]; exact hp)
   obtain ⟨R, K, hRK⟩ : ∃ R K, Utf8.decode (sb zs) pos = (R, K) := ⟨_, _, rfl⟩
   have hK1 := Lib.decode_width_pos (sb zs) pos (by rw [sb_size]; exact hp)
   have hK2 := decodeN_le (zs.length - pos) (nb zs pos) (nb zs (pos + 1)) (nb zs (pos + 2)) (nb zs (pos + 3)) (by omega)
   rw [← decode_sb HZ.out] at hK2
   have hcv := cellZ_at HZ.out pos hp R K hRK
   rw [hzv] at hcv
   rw [← hcv] at hst'
   rw [hRK] at hK1 hK2 hst'
   have hKm : K ≤ m := by have := HM.out; have := HL.out; simp at hK2; omega
   have hK0 : 0 < K := hK1
   have HRK := Lib.hid hRK
   have HS' := Lib.hid hst'
   have had0 : ad.add 0 = ad := by simp [Addr.add]
   rw [had0] at hcell
   have hcr : wr.cell? ad = some (.int .u8 z) := (hbr.cell (p := ad) (by omega)).trans hcell
   have hrw : RI .u8 wr B (some ad) m (zs.drop pos) := HR.out.keep fun p hp => hbr.cell (p := p) (by omega)
   have HRW := Lib.hid hrw
   clear hrw hst' hcv hRK hK1 hK2 hzp hzv hcell hp had0
   go_wp2_with fail
   refine (decodeRune_ri wr B (some ad) m cp (zs.drop pos) HRW.out (bd_drop HZ.out pos) hm (tabs_below HT.out (hbr.mono (Nat.le_refl _))) R K (by rw [decode_drop HZ.out]; exact HRK.out)).mono ?_
   rintro e w3 ⟨rfl, hb3⟩
   have hs3 := hb3.size
   have HOW := Lib.hid (own_keep HW.out hb3)
   have hbW : Below w.heap.size w w3 := hbr.trans (hb3.mono hsz)
   have hcr3 : w3.cell? ad = some (.int .u8 z) := (hb3.cell (p := ad) (by omega)).trans hcr
   clear hcr
   go_wp2_with fail
   refine (cellOf_any R K z w3 hzb.1 hzb.2).mono ?_
   rintro e w' ⟨rfl, rfl⟩
   generalize cellZ R K z = cv at *
   go_wp2_with (at_builtin; (refine wpList_append_own _ rfl _ _ 32 rfl w.heap.size 35 i0 (.int .i32 0) 1 4 Tryz.underlying32 hi hz0 hz1 hz2 rfl (by decide) _ _ _ rfl (HOW.out.alloc _) _ 1 1 [.int .i32 cv] rfl rfl (cell_one_new _ _ _) (by intro u hu; simp at hu; subst hu; rfl) (by unfold maxLen; have := HST.out.2.2.1; have := HM.out; omega) (by have := HST.out.2.2.1; have := HM.out; omega) (by simp; omega) ?_); intro v' w4 hown' hgrow _; have HO4 := Lib.hid hown'; have HG4 := Lib.hid hgrow; clear hown' hgrow)
   have hcut : RI .u8 w B (if cp = K then some ad else (some ad).map (·.add K)) (m - K) (zs.drop (pos + K)) := by
    have := HR.out.cut (k := K) (m := m - K) (cap := cp) (by omega) hmc
    rw [List.drop_drop, List.take_of_length_le (by rw [List.length_drop, HL.out]; have := HM.out; omega)] at this
    exact this
   go_roundw
   case rel => exact ⟨pos + K, f', m - K, cp - K, _, acc ++ [cv], rfl, by have := HM.out; show m - K + (pos + K) = n; omega, by omega, by omega, HS'.out, hcut, by simpa [Hid] using HO4.out, ((hbW.alloc (by omega) _).grown HG4.out (by simp; omega) (fun k hk => (HOW.out.lt k hk).1))⟩
   case measure => simp [lenV]; omega
  ·have hm0 : m = 0 := by omega
   subst hm0
   have hend := ofSt_end HST.out (by rw [sb_size]; have := HM.out; have := HL.out; omega)
   have HE := Lib.hid hend
   clear hend
   go_wp2
   go_ret
   refine ⟨_, rfl, ?_, hbr⟩
   rw [HE.out]
   exact HW.out
end Go.Proofs.YthaibekbefndlaaGreatDoor.C
