/-
  Where a sign stands first among cells; whether cells hold one. Condition: no more cells than 1000000.
-/
import Derived.Test.YthgiikhkcpbpfaaGreatDoorQBaB
namespace Go.Proofs.YthgiikhkcpbpfaaGreatDoor.C
open Go.RowKit

theorem tw_at {v : Int} : ∀ {ks : List Int} {k : Nat}, v ∉ ks.take k → ks[k]? = some v → (ks.takeWhile fun c => c != v).length = k
 | [], k, _, h => by simp at h
 | x :: r, 0, _, h => by
  obtain rfl : x = v := by simpa using h
  simp
 | x :: r, k + 1, h1, h2 => by
  rw [List.take_succ_cons, List.mem_cons, not_or] at h1
  rw [List.takeWhile_cons, if_pos (by simpa using Ne.symm h1.1), List.length_cons, tw_at h1.2 (by simpa using h2)]
theorem tw_none {v : Int} : ∀ {ks : List Int}, v ∉ ks → (ks.takeWhile fun c => c != v) = ks
 | [], _ => rfl
 | x :: r, h => by
  rw [List.mem_cons, not_or] at h
  rw [List.takeWhile_cons, if_pos (by simpa using Ne.symm h.1), tw_none h.2]
set_option maxRecDepth 100000 in
set_option maxHeartbeats 1000000 in
theorem indexR_any (w : World) (B : Nat) (A : Option Addr) (n c : Nat) (ks : List Int) (v r : Int) (h : RI .i32 w B A n ks) (hn : n ≤ 1000000) (hr : (if v ∈ ks then ((ks.takeWhile fun c => c != v).length : Int) else -1) = r) :
  Calls Tryz.prog 75 #[.slice A n c, .int .i32 v] w fun e w' => e = .returned (.int .i64 r) ∧ w' = w := by
 have HR := Lib.hid hr
 clear hr
 have H := Lib.hid h
 have hl := h.len
 clear h
 have HL := Lib.hid hl
 clear hl
 go_enter Tryz.func75, Tryz.ntmps75
 go_wp2
 go_loop [8] (fun i => ∃ k : Nat, k ≤ n ∧ i = .int .i64 k ∧ Hid (v ∉ ks.take k)) (fun i => n - (intOf i).toNat)
 case atStart => exact ⟨0, Nat.zero_le _, rfl, Lib.hid (by simp)⟩
 case round =>
  obtain ⟨k, hk, rfl, HN⟩ := hrel
  by_cases hlt : k < n
  ·obtain ⟨ad, u, rfl, hb, hu, hc⟩ := H.out.at_ hlt
   have HU := Lib.hid hu
   clear hu
   by_cases hv : v = u
   ·subst hv
    have HV : Hid (r = (k : Int)) := Lib.hid (by rw [← HR.out, if_pos (List.mem_of_getElem? HU.out), tw_at HN.out HU.out])
    go_wp2
    go_ret
    exact ⟨by rw [HV.out]; rfl, rfl⟩
   ·have hv' : (v == u) = false := by simpa using hv
    go_wp2
    go_round
    case rel => exact ⟨k + 1, by omega, by go_num, Lib.hid (by
     rw [List.take_add_one, HU.out]
     simp only [Option.toList_some, List.mem_append, List.mem_singleton, not_or]
     exact ⟨HN.out, hv⟩)⟩
    case measure => simp [intOf]; omega
  ·obtain rfl : k = n := by omega
   have hm : v ∉ ks := by
    have hm := HN.out
    rwa [List.take_of_length_le (by rw [HL.out]; exact Nat.le_refl _)] at hm
   have HV : Hid (r = -1) := Lib.hid (by rw [← HR.out, if_neg hm])
   clear hm
   go_wp2
   go_ret
   exact ⟨by rw [HV.out]; rfl, rfl⟩
theorem indexB_any (w : World) (B : Nat) (A : Option Addr) (n c : Nat) (ks : List Int) (v : Int) (h : RI .i32 w B A n ks) (hn : n ≤ 1000000) :
  Calls Tryz.prog 75 #[.slice A n c, .int .i32 v] w fun e w' => e = .returned (.int .i64 (if v ∈ ks then ((ks.takeWhile fun c => c != v).length : Int) else -1)) ∧ w' = w := indexR_any w B A n c ks v _ h hn rfl
set_option maxRecDepth 100000 in
set_option maxHeartbeats 1000000 in
theorem containsB_any (w : World) (B : Nat) (A : Option Addr) (n c : Nat) (ks : List Int) (v : Int) (h : RI .i32 w B A n ks) (hn : n ≤ 1000000) :
  Calls Tryz.prog 49 #[.slice A n c, .int .i32 v] w fun e w' => e = .returned (.bool (ks.contains v)) ∧ w' = w := by
 have hi := indexB_any w B A n c ks v h hn
 by_cases hv : v ∈ ks
 ·have hc : ks.contains v = true := List.elem_eq_true_of_mem hv
  rw [hc]
  rw [if_pos hv] at hi
  obtain ⟨i, hi2⟩ : ∃ i : Nat, i = (ks.takeWhile fun c => c != v).length := ⟨_, rfl⟩
  rw [← hi2] at hi
  clear h hi2 hc hv
  go_enter Tryz.func49, Tryz.ntmps49
  go_wp2_with fail
  refine hi.mono ?_
  rintro e w' ⟨rfl, rfl⟩
  have i0 : (0 : Int) ≤ (i : Int) := by omega
  go_wp2
  go_ret
  exact ⟨by simp, rfl⟩
 ·have hc : ks.contains v = false := by simpa using hv
  rw [hc]
  rw [if_neg hv] at hi
  clear h hc hv
  go_enter Tryz.func49, Tryz.ntmps49
  go_wp2_with fail
  refine hi.mono ?_
  rintro e w' ⟨rfl, rfl⟩
  go_wp2
  go_ret
  exact ⟨by simp, rfl⟩
end Go.Proofs.YthgiikhkcpbpfaaGreatDoor.C
