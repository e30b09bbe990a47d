/-
  Contracts of cell.Find and of the document's own Find.
-/
import Derived.Test.YtkijkkhjlfllnaaDoorCellC
import Derived.Deep.LoopGhost
namespace Go.Proofs.YtkijkkhjlfllnaaDoor.C
open Go.RowKit

set_option maxHeartbeats 1000000 in
theorem find_at (w : World) (Bx By : Nat) (Ax Ay : Option Addr) (n cx m cy : Nat) (xs ys : List Int) (p : Nat) (hx : RI .i32 w Bx Ax n xs) (hy : RI .i32 w By Ay m ys) (hn : n ≤ maxLen) (hm : m ≤ maxLen) (hp : p ≤ maxLen) :
    Calls Tryd.prog 29 #[.slice Ax n cx, .slice Ay m cy, .int .i64 p] w fun e w' => e = .returned (.int .i64 (findL xs ys p)) ∧ w = w' := by
  unfold maxLen at hn hm hp
  have HX := Lib.hid hx
  have HY := Lib.hid hy
  clear hx hy
  go_enter Tryd.func29, Tryd.ntmps29
  go_wp2
  go_step3
  go_wp2
  go_step3
  go_wp2
  go_loopg [8] (n + p + 1) (fun g i wr => ∃ k : Nat, k ≤ n + p + 1 ∧ k + g = n + p + p + 1 ∧ i = .int .i64 k ∧ p ≤ k ∧ (k ≤ n ∨ k = p ∨ k = n + 1) ∧ FindSt xs ys p k ∧ w = wr)
  case atStart => exact ⟨p, by omega, by omega, rfl, Nat.le_refl _, by omega, findSt_zero _ _ _, rfl⟩
  case round =>
    obtain ⟨k, hk, hg, rfl, hpk, hkn, hst, rfl⟩ := hrel
    have HS := Lib.hid hst
    have HG := Lib.hid hg
    clear hst hg
    by_cases hle : k + m ≤ n
    · have hle' : (k : Int) ≤ (n : Int) - (m : Int) := by omega
      go_wp2
      go_loopg [25] m (fun g j wr => ∃ t : Nat, t ≤ m ∧ t + g = m ∧ j = .int .i64 t ∧ AlikeTo xs ys k t ∧ w = wr)
      case atStart => exact ⟨0, Nat.zero_le _, by omega, rfl, alike_zero _ _ _, rfl⟩
      case round =>
        obtain ⟨t, ht, hgt, rfl, hal, rfl⟩ := hrel
        have HA := Lib.hid hal
        have HT := Lib.hid hgt
        clear hal hgt
        by_cases htm : t < m
        · obtain ⟨ad, a, rfl, _, ha, hca⟩ := HX.out.at_ (k := k + t) (by omega)
          obtain ⟨ad2, b, rfl, _, hb, hcb⟩ := HY.out.at_ htm
          have H1 := Lib.hid ha
          have H2 := Lib.hid hb
          clear ha hb
          by_cases hab : a = b
          · subst hab
            go_wp2
            go_roundg (m - (t + 1))
            case measure => have := HT.out; omega
            case rel => exact ⟨t + 1, by omega, by omega, by go_num, alike_step HA.out H1.out H2.out, rfl⟩
          · have e1 : (a != b) = true := by simpa using hab
            go_wp2
            go_roundg (n + p + p + 1 - (k + 1))
            case measure => have := HG.out; omega
            case rel => exact ⟨k + 1, by omega, by omega, by go_num, by omega, by omega, findSt_step HS.out (by rw [HX.out.len, HY.out.len]; omega) (alike_not H1.out H2.out hab), rfl⟩
        · go_wp2
          rw [Exit.noGoto_ret]
          go_ret
          obtain rfl : t = m := by omega
          exact ⟨ret_int (findSt_here HS.out (by rw [HX.out.len, HY.out.len]; omega) (alike_all (by rw [HY.out.len]; exact HA.out))).symm, rfl⟩
    · have hle' : (n : Int) - (m : Int) < (k : Int) := by omega
      go_wp2
      rw [Exit.noGoto_ret]
      go_ret
      exact ⟨ret_int (findSt_over HS.out (by rw [HX.out.len, HY.out.len]; omega)).symm, rfl⟩

set_option maxHeartbeats 1000000 in
theorem find_neg (w : World) (Bx By : Nat) (Ax Ay : Option Addr) (n cx m cy : Nat) (xs ys : List Int) (q : Int) (hq : q < 0) (hx : RI .i32 w Bx Ax n xs) (hy : RI .i32 w By Ay m ys) (hn : n ≤ maxLen) (hm : m ≤ maxLen) :
    Calls Tryd.prog 29 #[.slice Ax n cx, .slice Ay m cy, .int .i64 q] w fun e w' => e = .returned (.int .i64 (findL xs ys 0)) ∧ w = w' := by
  unfold maxLen at hn hm
  have HX := Lib.hid hx
  have HY := Lib.hid hy
  clear hx hy
  go_enter Tryd.func29, Tryd.ntmps29
  go_wp2
  go_step3
  go_wp2
  go_step3
  go_wp2
  go_loopg [8] (n + 1) (fun g i wr => ∃ k : Nat, k ≤ n + 1 ∧ k + g = n + 1 ∧ i = .int .i64 k ∧ 0 ≤ k ∧ (k ≤ n ∨ k = 0 ∨ k = n + 1) ∧ FindSt xs ys 0 k ∧ w = wr)
  case atStart => exact ⟨0, by omega, by omega, rfl, Nat.le_refl _, by omega, findSt_zero _ _ _, rfl⟩
  case round =>
    obtain ⟨k, hk, hg, rfl, hpk, hkn, hst, rfl⟩ := hrel
    have HS := Lib.hid hst
    have HG := Lib.hid hg
    clear hst hg
    by_cases hle : k + m ≤ n
    · have hle' : (k : Int) ≤ (n : Int) - (m : Int) := by omega
      go_wp2
      go_loopg [25] m (fun g j wr => ∃ t : Nat, t ≤ m ∧ t + g = m ∧ j = .int .i64 t ∧ AlikeTo xs ys k t ∧ w = wr)
      case atStart => exact ⟨0, Nat.zero_le _, by omega, rfl, alike_zero _ _ _, rfl⟩
      case round =>
        obtain ⟨t, ht, hgt, rfl, hal, rfl⟩ := hrel
        have HA := Lib.hid hal
        have HT := Lib.hid hgt
        clear hal hgt
        by_cases htm : t < m
        · obtain ⟨ad, a, rfl, _, ha, hca⟩ := HX.out.at_ (k := k + t) (by omega)
          obtain ⟨ad2, b, rfl, _, hb, hcb⟩ := HY.out.at_ htm
          have H1 := Lib.hid ha
          have H2 := Lib.hid hb
          clear ha hb
          by_cases hab : a = b
          · subst hab
            go_wp2
            go_roundg (m - (t + 1))
            case measure => have := HT.out; omega
            case rel => exact ⟨t + 1, by omega, by omega, by go_num, alike_step HA.out H1.out H2.out, rfl⟩
          · have e1 : (a != b) = true := by simpa using hab
            go_wp2
            go_roundg (n + 1 - (k + 1))
            case measure => have := HG.out; omega
            case rel => exact ⟨k + 1, by omega, by omega, by go_num, by omega, by omega, findSt_step HS.out (by rw [HX.out.len, HY.out.len]; omega) (alike_not H1.out H2.out hab), rfl⟩
        · go_wp2
          rw [Exit.noGoto_ret]
          go_ret
          obtain rfl : t = m := by omega
          exact ⟨ret_int (findSt_here HS.out (by rw [HX.out.len, HY.out.len]; omega) (alike_all (by rw [HY.out.len]; exact HA.out))).symm, rfl⟩
    · have hle' : (n : Int) - (m : Int) < (k : Int) := by omega
      go_wp2
      rw [Exit.noGoto_ret]
      go_ret
      exact ⟨ret_int (findSt_over HS.out (by rw [HX.out.len, HY.out.len]; omega)).symm, rfl⟩

theorem RI.cut {ki : IntKind} {w : World} {B n : Nat} {A : Option Addr} {zs : List Int} (h : RI ki w B A n zs) {k m cap : Nat} (hk : k + m ≤ n) (hc : n ≤ cap) :
    RI ki w B (if cap = k then A else A.map (·.add k)) m ((zs.drop k).take m) := by
  refine ⟨by have := h.1; simp; omega, fun hn => ?_⟩
  obtain ⟨ad, rfl, hb, hcell⟩ := h.2 (by omega)
  rw [if_neg (by omega)]
  refine ⟨ad.add k, rfl, by rw [block_of_add]; exact hb, fun j u hu => ?_⟩
  rw [add_of_add]
  refine hcell _ u ?_
  rw [List.getElem?_take] at hu
  split at hu
  · rw [← hu, List.getElem?_drop]
  · cases hu

theorem sameL_true {xs ys : List Int} (h : xs = ys) : sameL xs ys = true := by simp [sameL, (cmpL_eq xs ys).2 h]
theorem sameL_false {xs ys : List Int} (h : xs ≠ ys) : sameL xs ys = false := by
  have : cmpL xs ys ≠ 0 := fun e => h ((cmpL_eq xs ys).1 e)
  simp [sameL, this]

theorem same_yes (w : World) (Bx By : Nat) (Ax Ay : Option Addr) (n cx m cy : Nat) (xs ys : List Int) (h : xs = ys) (hx : RI .i32 w Bx Ax n xs) (hy : RI .i32 w By Ay m ys) (hn : n ≤ maxLen) (hm : m ≤ maxLen) :
    Calls Tryd.prog 15 #[.slice Ax n cx, .slice Ay m cy] w fun e w' => e = .returned (.bool true) ∧ ∃ q, w' = w.drewN q := by
  have := same_any w Bx By Ax Ay n cx m cy xs ys hx hy hn hm
  rw [sameL_true h] at this
  exact this
theorem same_no (w : World) (Bx By : Nat) (Ax Ay : Option Addr) (n cx m cy : Nat) (xs ys : List Int) (h : xs ≠ ys) (hx : RI .i32 w Bx Ax n xs) (hy : RI .i32 w By Ay m ys) (hn : n ≤ maxLen) (hm : m ≤ maxLen) :
    Calls Tryd.prog 15 #[.slice Ax n cx, .slice Ay m cy] w fun e w' => e = .returned (.bool false) ∧ ∃ q, w' = w.drewN q := by
  have := same_any w Bx By Ax Ay n cx m cy xs ys hx hy hn hm
  rw [sameL_false h] at this
  exact this

set_option maxHeartbeats 1000000 in
theorem refFind_at (w : World) (Bx By : Nat) (Ax Ay : Option Addr) (n cx m cy : Nat) (xs ys : List Int) (p : Nat) (hp : p ≤ maxLen) (hx : RI .i32 w Bx Ax n xs) (hy : RI .i32 w By Ay m ys) (hn : n ≤ 4611686018427387904) (hm : m ≤ maxLen) (hcx : n ≤ cx) :
    Calls Tryd.prog 30 #[.slice Ax n cx, .slice Ay m cy, .int .i64 p] w fun e w' => e = .returned (.int .i64 (findL xs ys p)) ∧ ∃ q, w' = w.drewN q := by
  have hmy := Lib.hid hm
  unfold maxLen at hm hp
  have HX := Lib.hid hx
  have HY := Lib.hid hy
  clear hx hy
  go_enter Tryd.func30, Tryd.ntmps30
  go_wp2
  go_loopw [7] (fun i wr => ∃ k q : Nat, p ≤ k ∧ (k ≤ n ∨ k = p ∨ k = n + 1) ∧ i = .int .i64 k ∧ FindSt xs ys p k ∧ wr = w.drewN q) (fun i _ => n + 1 - (intOf i).toNat)
  case atStart => exact ⟨p, 0, Nat.le_refl _, by omega, rfl, findSt_zero _ _ _, drewN_zero w⟩
  case round =>
    obtain ⟨k, q, hpk, hkn, rfl, hst, rfl⟩ := hrel
    have HS := Lib.hid hst
    clear hst
    by_cases hle : k + m ≤ n
    · have hle' : (k : Int) ≤ (n : Int) - (m : Int) := by omega
      have hck := HX.out.cut (cap := cx) hle hcx
      by_cases hcap : cx = k
      · rw [if_pos hcap] at hck
        have HC := Lib.hid hck
        clear hck
        subst hcap
        go_wp2_with fail
        by_cases he : (xs.drop cx).take m = ys
        · refine (same_yes (w.drewN q) Bx By Ax Ay m 0 m cy ((xs.drop cx).take m) ys he (HC.out.drewN q) (HY.out.drewN q) hmy.out hmy.out).mono ?_
          rintro e w' ⟨rfl, q2, rfl⟩
          have HE := Lib.hid he
          clear he
          go_wp2
          go_ret
          exact ⟨ret_int (findSt_here HS.out (by rw [HX.out.len, HY.out.len]; omega) (by rw [HY.out.len]; exact HE.out)).symm, _, rfl⟩
        · refine (same_no (w.drewN q) Bx By Ax Ay m 0 m cy ((xs.drop cx).take m) ys he (HC.out.drewN q) (HY.out.drewN q) hmy.out hmy.out).mono ?_
          rintro e w' ⟨rfl, q2, rfl⟩
          have HE := Lib.hid he
          clear he
          have HS' := findSt_step HS.out (by rw [HX.out.len, HY.out.len]; omega) (by rw [HY.out.len]; exact HE.out)
          go_wp2
          go_roundw
          case rel => exact ⟨cx + 1, _, by omega, by omega, by go_num, HS', rfl⟩
          case measure => simp [intOf]; omega
      · rw [if_neg hcap] at hck
        have HC := Lib.hid hck
        clear hck
        go_wp2_with fail
        by_cases he : (xs.drop k).take m = ys
        · refine (same_yes (w.drewN q) Bx By (Option.map (fun x => x.add k) Ax) Ay m (cx - k) m cy ((xs.drop k).take m) ys he (HC.out.drewN q) (HY.out.drewN q) hmy.out hmy.out).mono ?_
          rintro e w' ⟨rfl, q2, rfl⟩
          have HE := Lib.hid he
          clear he
          go_wp2
          go_ret
          exact ⟨ret_int (findSt_here HS.out (by rw [HX.out.len, HY.out.len]; omega) (by rw [HY.out.len]; exact HE.out)).symm, _, rfl⟩
        · refine (same_no (w.drewN q) Bx By (Option.map (fun x => x.add k) Ax) Ay m (cx - k) m cy ((xs.drop k).take m) ys he (HC.out.drewN q) (HY.out.drewN q) hmy.out hmy.out).mono ?_
          rintro e w' ⟨rfl, q2, rfl⟩
          have HE := Lib.hid he
          clear he
          have HS' := findSt_step HS.out (by rw [HX.out.len, HY.out.len]; omega) (by rw [HY.out.len]; exact HE.out)
          go_wp2
          go_roundw
          case rel => exact ⟨k + 1, _, by omega, by omega, by go_num, HS', rfl⟩
          case measure => simp [intOf]; omega
    · have hle' : (n : Int) - (m : Int) < (k : Int) := by omega
      go_wp2
      go_ret
      exact ⟨ret_int (findSt_over HS.out (by rw [HX.out.len, HY.out.len]; omega)).symm, _, rfl⟩

set_option maxHeartbeats 1000000 in
theorem refFind_neg (w : World) (Bx By : Nat) (Ax Ay : Option Addr) (n cx m cy : Nat) (xs ys : List Int) (q0 : Int) (hq : q0 < 0) (hx : RI .i32 w Bx Ax n xs) (hy : RI .i32 w By Ay m ys) (hn : n ≤ 4611686018427387904) (hm : m ≤ maxLen) (hcx : n ≤ cx) :
    Calls Tryd.prog 30 #[.slice Ax n cx, .slice Ay m cy, .int .i64 q0] w fun e w' => e = .returned (.int .i64 (findL xs ys 0)) ∧ ∃ q, w' = w.drewN q := by
  have hmy := Lib.hid hm
  unfold maxLen at hm
  have HX := Lib.hid hx
  have HY := Lib.hid hy
  clear hx hy
  go_enter Tryd.func30, Tryd.ntmps30
  go_wp2
  go_loopw [7] (fun i wr => ∃ k q : Nat, 0 ≤ k ∧ (k ≤ n ∨ k = 0 ∨ k = n + 1) ∧ i = .int .i64 k ∧ FindSt xs ys 0 k ∧ wr = w.drewN q) (fun i _ => n + 1 - (intOf i).toNat)
  case atStart => exact ⟨0, 0, Nat.le_refl _, by omega, rfl, findSt_zero _ _ _, drewN_zero w⟩
  case round =>
    obtain ⟨k, q, hpk, hkn, rfl, hst, rfl⟩ := hrel
    have HS := Lib.hid hst
    clear hst
    by_cases hle : k + m ≤ n
    · have hle' : (k : Int) ≤ (n : Int) - (m : Int) := by omega
      have hck := HX.out.cut (cap := cx) hle hcx
      by_cases hcap : cx = k
      · rw [if_pos hcap] at hck
        have HC := Lib.hid hck
        clear hck
        subst hcap
        go_wp2_with fail
        by_cases he : (xs.drop cx).take m = ys
        · refine (same_yes (w.drewN q) Bx By Ax Ay m 0 m cy ((xs.drop cx).take m) ys he (HC.out.drewN q) (HY.out.drewN q) hmy.out hmy.out).mono ?_
          rintro e w' ⟨rfl, q2, rfl⟩
          have HE := Lib.hid he
          clear he
          go_wp2
          go_ret
          exact ⟨ret_int (findSt_here HS.out (by rw [HX.out.len, HY.out.len]; omega) (by rw [HY.out.len]; exact HE.out)).symm, _, rfl⟩
        · refine (same_no (w.drewN q) Bx By Ax Ay m 0 m cy ((xs.drop cx).take m) ys he (HC.out.drewN q) (HY.out.drewN q) hmy.out hmy.out).mono ?_
          rintro e w' ⟨rfl, q2, rfl⟩
          have HE := Lib.hid he
          clear he
          have HS' := findSt_step HS.out (by rw [HX.out.len, HY.out.len]; omega) (by rw [HY.out.len]; exact HE.out)
          go_wp2
          go_roundw
          case rel => exact ⟨cx + 1, _, by omega, by omega, by go_num, HS', rfl⟩
          case measure => simp [intOf]; omega
      · rw [if_neg hcap] at hck
        have HC := Lib.hid hck
        clear hck
        go_wp2_with fail
        by_cases he : (xs.drop k).take m = ys
        · refine (same_yes (w.drewN q) Bx By (Option.map (fun x => x.add k) Ax) Ay m (cx - k) m cy ((xs.drop k).take m) ys he (HC.out.drewN q) (HY.out.drewN q) hmy.out hmy.out).mono ?_
          rintro e w' ⟨rfl, q2, rfl⟩
          have HE := Lib.hid he
          clear he
          go_wp2
          go_ret
          exact ⟨ret_int (findSt_here HS.out (by rw [HX.out.len, HY.out.len]; omega) (by rw [HY.out.len]; exact HE.out)).symm, _, rfl⟩
        · refine (same_no (w.drewN q) Bx By (Option.map (fun x => x.add k) Ax) Ay m (cx - k) m cy ((xs.drop k).take m) ys he (HC.out.drewN q) (HY.out.drewN q) hmy.out hmy.out).mono ?_
          rintro e w' ⟨rfl, q2, rfl⟩
          have HE := Lib.hid he
          clear he
          have HS' := findSt_step HS.out (by rw [HX.out.len, HY.out.len]; omega) (by rw [HY.out.len]; exact HE.out)
          go_wp2
          go_roundw
          case rel => exact ⟨k + 1, _, by omega, by omega, by go_num, HS', rfl⟩
          case measure => simp [intOf]; omega
    · have hle' : (n : Int) - (m : Int) < (k : Int) := by omega
      go_wp2
      go_ret
      exact ⟨ret_int (findSt_over HS.out (by rw [HX.out.len, HY.out.len]; omega)).symm, _, rfl⟩

end Go.Proofs.YtkijkkhjlfllnaaDoor.C
