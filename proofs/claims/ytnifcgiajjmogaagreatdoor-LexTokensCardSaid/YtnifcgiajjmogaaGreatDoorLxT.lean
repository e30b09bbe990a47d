/-
  The contract of a reader's step sign. Condition: the listed table of signs holds them ('Gl').
-/
import Derived.Test.YtnifcgiajjmogaaGreatDoorLxS
import Derived.Deep.LoopGhost
namespace Go.Proofs.YtnifcgiajjmogaaGreatDoor.C
open Go.RowKit

def sgB : Nat → ByteArray
  | 0 => ⟨#[59]⟩
  | 1 => ⟨#[44]⟩
  | 2 => ⟨#[40]⟩
  | 3 => ⟨#[41]⟩
  | _ => ⟨#[46, 46, 46]⟩
def SignTold (w : World) (R : Nat) (s : ByteArray) (k : Nat) (ts : List Tok) (J : Nat) (e : Ending) (w' : World) : Prop :=
  if J < 5 then Stepped w R s true (k + (sgB J).size) (ts ++ [⟨2, (sgB J).data.toList, 0, k⟩]) e w' else Stepped w R s false k ts e w'
theorem signs_cells {w : World} (h : Gl w) : w.cell? ⟨0, 0, none⟩ = some (.string ⟨#[59]⟩) ∧ w.cell? ⟨0, 1, none⟩ = some (.string ⟨#[44]⟩) ∧ w.cell? ⟨0, 2, none⟩ = some (.string ⟨#[40]⟩) ∧ w.cell? ⟨0, 3, none⟩ = some (.string ⟨#[41]⟩) ∧ w.cell? ⟨0, 4, none⟩ = some (.string ⟨#[46, 46, 46]⟩) := by
  obtain ⟨_, _, t, f, h⟩ := h
  simp [World.cell?, h]

theorem sig_ix0 (W : World) : (Instr.index 67 (.agg #[.string ⟨#[59]⟩, .string ⟨#[44]⟩, .string ⟨#[40]⟩, .string ⟨#[41]⟩, .string ⟨#[46, 46, 46]⟩]) (.int .i64 0)).run Tryz.prog W = .ok (.string ⟨#[59]⟩) W := by kernel_rfl
theorem sig_ix1 (W : World) : (Instr.index 67 (.agg #[.string ⟨#[59]⟩, .string ⟨#[44]⟩, .string ⟨#[40]⟩, .string ⟨#[41]⟩, .string ⟨#[46, 46, 46]⟩]) (.int .i64 1)).run Tryz.prog W = .ok (.string ⟨#[44]⟩) W := by kernel_rfl
theorem sig_ix2 (W : World) : (Instr.index 67 (.agg #[.string ⟨#[59]⟩, .string ⟨#[44]⟩, .string ⟨#[40]⟩, .string ⟨#[41]⟩, .string ⟨#[46, 46, 46]⟩]) (.int .i64 2)).run Tryz.prog W = .ok (.string ⟨#[40]⟩) W := by kernel_rfl
theorem sig_ix3 (W : World) : (Instr.index 67 (.agg #[.string ⟨#[59]⟩, .string ⟨#[44]⟩, .string ⟨#[40]⟩, .string ⟨#[41]⟩, .string ⟨#[46, 46, 46]⟩]) (.int .i64 3)).run Tryz.prog W = .ok (.string ⟨#[41]⟩) W := by kernel_rfl
theorem sig_ix4 (W : World) : (Instr.index 67 (.agg #[.string ⟨#[59]⟩, .string ⟨#[44]⟩, .string ⟨#[40]⟩, .string ⟨#[41]⟩, .string ⟨#[46, 46, 46]⟩]) (.int .i64 4)).run Tryz.prog W = .ok (.string ⟨#[46, 46, 46]⟩) W := by kernel_rfl

set_option maxRecDepth 100000 in
set_option maxHeartbeats 4000000 in
theorem ssign_any (w : World) (R k : Nat) (s : ByteArray) (ts : List Tok) (h : RD w R s k ts) (hG : Gl w) (hk : k < s.size) (hs : s.size ≤ 4000) (hts : ts.length ≤ 4500) (J : Nat) (hJ : J ≤ 5)
    (hn : ∀ i, i < J → i < 5 → Lib.hasPrefix (s.data.toList.drop k) (sgB i).data.toList = false) (hy : J < 5 → Lib.hasPrefix (s.data.toList.drop k) (sgB J).data.toList = true) :
    Calls Tryz.prog 24 #[.pointer (some ⟨R, 0, none⟩)] w (SignTold w R s k ts J) := by
  have H := Lib.hid h
  have hrest := fun n => rest_any (w.drewN n) R k s ts (h.drewN n) (by omega) hs
  have hno := fun i (h1 : i < J) (h2 : i < 5) W => hasPrefix_no (s.data.toList.drop k) (sgB i) W (hn i h1 h2)
  have hyes := fun h1 W => hasPrefix_yes (s.data.toList.drop k) (sgB J) W (hy h1)
  have hadd := fun n (t : List UInt8) (m : Nat) (h1 : m ≤ 3) (h2 : t.length ≤ 3) => add_any (w.drewN n) R k s ts (h.drewN n) 2 0 m t 0 (by omega) (by omega) (by omega)
  generalize s.data.toList.drop k = L at *
  obtain ⟨z0, z1, z2, z3, z4⟩ := signs_cells hG
  have HG := Lib.hid hG
  clear h hG hn hy
  go_enter Tryz.func24, Tryz.ntmps24
  go_wp2
  clear z0 z1 z2 z3 z4
  go_loopw [6] (fun iv wr => ∃ (i n : Nat) (j : Int), i ≤ J ∧ i ≤ 5 ∧ j = (i : Int) ∧ iv = .int .i64 j ∧ wr = w.drewN n) (fun iv _ => 5 - (intOf iv).toNat)
  case atStart => exact ⟨0, 0, 0, Nat.zero_le _, Nat.zero_le _, rfl, rfl, rfl⟩
  case round =>
    obtain ⟨i, n, j, hiJ, hi5, hj, rfl, rfl⟩ := hrel
    have hcase : i = 0 ∨ i = 1 ∨ i = 2 ∨ i = 3 ∨ i = 4 ∨ i = 5 := by omega
    rcases hcase with rfl | rfl | rfl | rfl | rfl | rfl
    · obtain rfl : j = 0 := by omega
      have hix := sig_ix0
      clear hj
      by_cases hJi : 0 = J
      · subst hJi
        have h1 : ∀ W, Calls Tryz.prog 38 #[.string (str L), .string ⟨#[59]⟩] W fun e w' => e = .returned (.bool true) ∧ w' = W := fun W => hyes (by omega) W
        have h2 : ∀ n, Calls Tryz.prog 39 #[.pointer (some ⟨R, 0, none⟩), .agg #[.int .u8 2, .string ⟨#[59]⟩, .int .i64 0, .int .i64 0], .int .i64 1] (w.drewN n) fun e w' => e = .returned (.tuple #[]) ∧ RD w' R s (k + 1) (ts ++ [⟨2, [59], 0, k⟩]) ∧ Bk R (w.drewN n) w' := fun n => hadd n [59] 1 (by omega) (by simp)
        clear hno hyes hadd
        go_wp2_with (first
          | (go_at_call 37; refine (hrest _).mono ?_; rintro e w' ⟨rfl, n, rfl⟩)
          | (go_at_call 38; refine (h1 _).mono ?_; rintro e w' ⟨rfl, rfl⟩)
          | (go_at_call 39; refine (h2 _).mono ?_; rintro e w1 ⟨rfl, hr, hb1⟩))
        go_ret
        exact ⟨rfl, hr, (bk_drewN _ _ _).trans hb1⟩
      · have h1 : ∀ W, Calls Tryz.prog 38 #[.string (str L), .string ⟨#[59]⟩] W fun e w' => e = .returned (.bool false) ∧ w' = W := fun W => hno 0 (by omega) (by omega) W
        go_wp2_with (first
          | (go_at_call 37; refine (hrest _).mono ?_; rintro e w' ⟨rfl, n, rfl⟩)
          | (go_at_call 38; refine (h1 _).mono ?_; rintro e w' ⟨rfl, rfl⟩))
        go_roundw
        case rel => exact ⟨1, _, 1, by omega, by omega, rfl, rfl, rfl⟩
        case measure => simp [intOf]
    · obtain rfl : j = 1 := by omega
      have hix := sig_ix1
      clear hj
      by_cases hJi : 1 = J
      · subst hJi
        have h1 : ∀ W, Calls Tryz.prog 38 #[.string (str L), .string ⟨#[44]⟩] W fun e w' => e = .returned (.bool true) ∧ w' = W := fun W => hyes (by omega) W
        have h2 : ∀ n, Calls Tryz.prog 39 #[.pointer (some ⟨R, 0, none⟩), .agg #[.int .u8 2, .string ⟨#[44]⟩, .int .i64 0, .int .i64 0], .int .i64 1] (w.drewN n) fun e w' => e = .returned (.tuple #[]) ∧ RD w' R s (k + 1) (ts ++ [⟨2, [44], 0, k⟩]) ∧ Bk R (w.drewN n) w' := fun n => hadd n [44] 1 (by omega) (by simp)
        clear hno hyes hadd
        go_wp2_with (first
          | (go_at_call 37; refine (hrest _).mono ?_; rintro e w' ⟨rfl, n, rfl⟩)
          | (go_at_call 38; refine (h1 _).mono ?_; rintro e w' ⟨rfl, rfl⟩)
          | (go_at_call 39; refine (h2 _).mono ?_; rintro e w1 ⟨rfl, hr, hb1⟩))
        go_ret
        exact ⟨rfl, hr, (bk_drewN _ _ _).trans hb1⟩
      · have h1 : ∀ W, Calls Tryz.prog 38 #[.string (str L), .string ⟨#[44]⟩] W fun e w' => e = .returned (.bool false) ∧ w' = W := fun W => hno 1 (by omega) (by omega) W
        go_wp2_with (first
          | (go_at_call 37; refine (hrest _).mono ?_; rintro e w' ⟨rfl, n, rfl⟩)
          | (go_at_call 38; refine (h1 _).mono ?_; rintro e w' ⟨rfl, rfl⟩))
        go_roundw
        case rel => exact ⟨2, _, 2, by omega, by omega, rfl, rfl, rfl⟩
        case measure => simp [intOf]
    · obtain rfl : j = 2 := by omega
      have hix := sig_ix2
      clear hj
      by_cases hJi : 2 = J
      · subst hJi
        have h1 : ∀ W, Calls Tryz.prog 38 #[.string (str L), .string ⟨#[40]⟩] W fun e w' => e = .returned (.bool true) ∧ w' = W := fun W => hyes (by omega) W
        have h2 : ∀ n, Calls Tryz.prog 39 #[.pointer (some ⟨R, 0, none⟩), .agg #[.int .u8 2, .string ⟨#[40]⟩, .int .i64 0, .int .i64 0], .int .i64 1] (w.drewN n) fun e w' => e = .returned (.tuple #[]) ∧ RD w' R s (k + 1) (ts ++ [⟨2, [40], 0, k⟩]) ∧ Bk R (w.drewN n) w' := fun n => hadd n [40] 1 (by omega) (by simp)
        clear hno hyes hadd
        go_wp2_with (first
          | (go_at_call 37; refine (hrest _).mono ?_; rintro e w' ⟨rfl, n, rfl⟩)
          | (go_at_call 38; refine (h1 _).mono ?_; rintro e w' ⟨rfl, rfl⟩)
          | (go_at_call 39; refine (h2 _).mono ?_; rintro e w1 ⟨rfl, hr, hb1⟩))
        go_ret
        exact ⟨rfl, hr, (bk_drewN _ _ _).trans hb1⟩
      · have h1 : ∀ W, Calls Tryz.prog 38 #[.string (str L), .string ⟨#[40]⟩] W fun e w' => e = .returned (.bool false) ∧ w' = W := fun W => hno 2 (by omega) (by omega) W
        go_wp2_with (first
          | (go_at_call 37; refine (hrest _).mono ?_; rintro e w' ⟨rfl, n, rfl⟩)
          | (go_at_call 38; refine (h1 _).mono ?_; rintro e w' ⟨rfl, rfl⟩))
        go_roundw
        case rel => exact ⟨3, _, 3, by omega, by omega, rfl, rfl, rfl⟩
        case measure => simp [intOf]
    · obtain rfl : j = 3 := by omega
      have hix := sig_ix3
      clear hj
      by_cases hJi : 3 = J
      · subst hJi
        have h1 : ∀ W, Calls Tryz.prog 38 #[.string (str L), .string ⟨#[41]⟩] W fun e w' => e = .returned (.bool true) ∧ w' = W := fun W => hyes (by omega) W
        have h2 : ∀ n, Calls Tryz.prog 39 #[.pointer (some ⟨R, 0, none⟩), .agg #[.int .u8 2, .string ⟨#[41]⟩, .int .i64 0, .int .i64 0], .int .i64 1] (w.drewN n) fun e w' => e = .returned (.tuple #[]) ∧ RD w' R s (k + 1) (ts ++ [⟨2, [41], 0, k⟩]) ∧ Bk R (w.drewN n) w' := fun n => hadd n [41] 1 (by omega) (by simp)
        clear hno hyes hadd
        go_wp2_with (first
          | (go_at_call 37; refine (hrest _).mono ?_; rintro e w' ⟨rfl, n, rfl⟩)
          | (go_at_call 38; refine (h1 _).mono ?_; rintro e w' ⟨rfl, rfl⟩)
          | (go_at_call 39; refine (h2 _).mono ?_; rintro e w1 ⟨rfl, hr, hb1⟩))
        go_ret
        exact ⟨rfl, hr, (bk_drewN _ _ _).trans hb1⟩
      · have h1 : ∀ W, Calls Tryz.prog 38 #[.string (str L), .string ⟨#[41]⟩] W fun e w' => e = .returned (.bool false) ∧ w' = W := fun W => hno 3 (by omega) (by omega) W
        go_wp2_with (first
          | (go_at_call 37; refine (hrest _).mono ?_; rintro e w' ⟨rfl, n, rfl⟩)
          | (go_at_call 38; refine (h1 _).mono ?_; rintro e w' ⟨rfl, rfl⟩))
        go_roundw
        case rel => exact ⟨4, _, 4, by omega, by omega, rfl, rfl, rfl⟩
        case measure => simp [intOf]
    · obtain rfl : j = 4 := by omega
      have hix := sig_ix4
      clear hj
      by_cases hJi : 4 = J
      · subst hJi
        have h1 : ∀ W, Calls Tryz.prog 38 #[.string (str L), .string ⟨#[46, 46, 46]⟩] W fun e w' => e = .returned (.bool true) ∧ w' = W := fun W => hyes (by omega) W
        have h2 : ∀ n, Calls Tryz.prog 39 #[.pointer (some ⟨R, 0, none⟩), .agg #[.int .u8 2, .string ⟨#[46, 46, 46]⟩, .int .i64 0, .int .i64 0], .int .i64 3] (w.drewN n) fun e w' => e = .returned (.tuple #[]) ∧ RD w' R s (k + 3) (ts ++ [⟨2, [46, 46, 46], 0, k⟩]) ∧ Bk R (w.drewN n) w' := fun n => hadd n [46, 46, 46] 3 (by omega) (by simp)
        clear hno hyes hadd
        go_wp2_with (first
          | (go_at_call 37; refine (hrest _).mono ?_; rintro e w' ⟨rfl, n, rfl⟩)
          | (go_at_call 38; refine (h1 _).mono ?_; rintro e w' ⟨rfl, rfl⟩)
          | (go_at_call 39; refine (h2 _).mono ?_; rintro e w1 ⟨rfl, hr, hb1⟩))
        go_ret
        exact ⟨rfl, hr, (bk_drewN _ _ _).trans hb1⟩
      · have h1 : ∀ W, Calls Tryz.prog 38 #[.string (str L), .string ⟨#[46, 46, 46]⟩] W fun e w' => e = .returned (.bool false) ∧ w' = W := fun W => hno 4 (by omega) (by omega) W
        go_wp2_with (first
          | (go_at_call 37; refine (hrest _).mono ?_; rintro e w' ⟨rfl, n, rfl⟩)
          | (go_at_call 38; refine (h1 _).mono ?_; rintro e w' ⟨rfl, rfl⟩))
        go_roundw
        case rel => exact ⟨5, _, 5, by omega, by omega, rfl, rfl, rfl⟩
        case measure => simp [intOf]
    · obtain rfl : j = 5 := by omega
      clear hj
      obtain rfl : J = 5 := by omega
      go_wp2
      go_ret
      exact ⟨rfl, H.out.drewN _, bk_drewN _ _ _⟩
end Go.Proofs.YtnifcgiajjmogaaGreatDoor.C
