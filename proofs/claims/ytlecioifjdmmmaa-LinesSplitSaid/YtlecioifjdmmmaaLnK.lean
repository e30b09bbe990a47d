/-
  The contract of the document's own Same over lines: true of the same lines; no cell changes.
-/
import Derived.Test.YtlecioifjdmmmaaLnJ
namespace Go.Proofs.Ytlecioifjdmmmaa.C
open Go.RowKit

theorem LI.drewN {w : World} {B n : Nat} {A : Option Addr} {ls : List (List Int × Bool)} (h : LI w B A n ls) (q : Nat) : LI (w.drewN q) B A n ls := h.keep fun _ _ => rfl
theorem same_still {w : World} {q : Nat} {Bx By : Nat} {Ax Ay : Option Addr} {n cx m cy : Nat} {xs : List Int} (hx : RI .i32 w Bx Ax n xs) (hy : RI .i32 w By Ay m xs) (hn : n ≤ maxLen) (hm : m ≤ maxLen) :
    Calls Try.prog 12 #[.slice Ax n cx, .slice Ay m cy] (w.drewN q) fun e w'' => e = .returned (.bool true) ∧ ∃ m, w'' = w.drewN m :=
  Calls.quiet_of (same_yes (w.drewN q) Bx By Ax Ay n cx m cy xs xs rfl (hx.drewN q) (hy.drewN q) hn hm)

set_option maxRecDepth 100000 in
set_option maxHeartbeats 2000000 in
theorem refSame_yes (w : World) (Ba Bb : Nat) (Aa Ab : Option Addr) (n ca cb : Nat) (ls : List (List Int × Bool)) (ha : LI w Ba Aa n ls) (hb : LI w Bb Ab n ls) (hn : n ≤ 1073741824) :
    Calls Try.prog 21 #[.slice Aa n ca, .slice Ab n cb] w fun e w' => e = .returned (.bool true) ∧ ∃ q, w' = w.drewN q := by
  have HA := Lib.hid ha
  have HB := Lib.hid hb
  clear ha hb
  go_enter Try.func21, Try.ntmps21
  go_wp2
  go_loopw [5] (fun iv wr => ∃ k : Nat, k ≤ n ∧ iv = .int .i64 k ∧ Hid (∃ q, wr = w.drewN q)) (fun iv _ => n - (intOf iv).toNat)
  case atStart => exact ⟨0, Nat.zero_le _, rfl, 0, drewN_zero w⟩
  case round =>
    obtain ⟨k, hk, rfl, HQ⟩ := hrel
    by_cases hlt : k < n
    · obtain ⟨ha', hb'⟩ : LI wr Ba Aa n ls ∧ LI wr Bb Ab n ls := by
        obtain ⟨q, rfl⟩ := HQ.out
        exact ⟨HA.out.drewN q, HB.out.drewN q⟩
      obtain ⟨ad, x, Aj, nj, cj, rfl, _, hx1, hc0, hc1, hnc, hcm, hri⟩ := ha'.at2 hlt
      obtain ⟨bd, y, Bj, mj, dj, rfl, _, hy1, hd0, hd1, hmc, hdm, hrj⟩ := hb'.at2 hlt
      obtain rfl : x = y := by rw [hx1] at hy1; exact Option.some.inj hy1
      obtain ⟨l, b⟩ := x
      have HRI := Lib.hid hri
      have HRJ := Lib.hid hrj
      have k0 : (0 : Int) ≤ (k : Int) := by omega
      have k1 : (k : Int) < (n : Int) := by omega
      clear hx1 hy1 hri hrj ha' hb'
      simp only at hc1 hd1
      have hbb : (b != b) = false := by cases b <;> rfl
      go_wp2
      go_quiet ((go_at_call 12; exact same_still HRI.out HRJ.out (by omega) (by omega)))
      go_wp2
      have hq' : Hid (∃ q, wr.drewN nq = w.drewN q) := by
        obtain ⟨q, e⟩ := HQ.out
        exact ⟨q + nq, by rw [e, World.drewN_drewN]⟩
      go_roundw
      case rel => exact ⟨k + 1, by omega, by go_num, hq'⟩
      case measure => simp [intOf]; omega
    · obtain rfl : k = n := by omega
      go_wp2
      go_ret
      exact ⟨rfl, HQ.out⟩
end Go.Proofs.Ytlecioifjdmmmaa.C
