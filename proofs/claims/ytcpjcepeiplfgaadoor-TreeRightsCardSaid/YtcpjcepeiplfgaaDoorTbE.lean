/-
  isNumber, isNewNumber: what they answer, and which group they keep. Condition: at most nine groups.
-/
import Derived.Test.YtcpjcepeiplfgaaDoorTbD
namespace Go.Proofs.YtcpjcepeiplfgaaDoor.C
open Go.RowKit

set_option maxRecDepth 100000 in
set_option maxHeartbeats 1000000 in
theorem isNumber_any (w : World) (C M : Nat) (g : Int) (gs : List Int) (n : Int) (h : CkAt w C g gs M) : Calls Tryd.prog 37 #[.pointer (some ⟨C, 0, none⟩), .int .i64 n] w fun e w' => e = .returned (.bool (decide (1 ≤ n) && decide (n ≤ g))) ∧ w' = w := by
  have c0 : w.cell? ⟨C, 0, none⟩ = some (.int .i64 g) := Rw.cell h (i := 0) rfl
  clear h
  by_cases h1 : 1 ≤ n
  · rw [decide_eq_true h1, Bool.true_and]
    by_cases h2 : n ≤ g
    · rw [decide_eq_true h2]
      go_enter Tryd.func37, Tryd.ntmps37
      go_wp2
      go_ret
      exact ⟨rfl, rfl⟩
    · rw [decide_eq_false h2]
      go_enter Tryd.func37, Tryd.ntmps37
      go_wp2
      go_ret
      exact ⟨rfl, rfl⟩
  · rw [decide_eq_false h1]
    go_enter Tryd.func37, Tryd.ntmps37
    go_wp2
    go_ret
    exact ⟨rfl, rfl⟩
set_option maxRecDepth 100000 in
set_option maxHeartbeats 1000000 in
theorem isNew_no (w : World) (C M : Nat) (g : Int) (gs : List Int) (n : Int) (h : CkAt w C g gs M) (hg : g ≤ 9) (hn : ¬ (1 ≤ n ∧ n ≤ g) ∨ n ∈ gs) : Calls Tryd.prog 38 #[.pointer (some ⟨C, 0, none⟩), .int .i64 n] w fun e w' => e = .returned (.bool false) ∧ w' = w := by
  have hc := isNumber_any w C M g gs n h
  by_cases h1 : 1 ≤ n ∧ n ≤ g
  · have h2 : n ∈ gs := hn.resolve_left (fun h => h h1)
    rw [decide_eq_true h1.1, decide_eq_true h1.2] at hc
    obtain ⟨k, rfl⟩ : ∃ k : Nat, n = (k : Int) + 1 := ⟨(n - 1).toNat, by omega⟩
    have hk : k < 9 := by omega
    have c1 : w.cell? ⟨C, 1 + k, none⟩ = some (.bool true) := by
      have := Rw.cell h (ck_at (g := g) (gs := gs) (M := M) hk)
      rw [decide_eq_true h2] at this
      exact this
    have wk : IntKind.i64.wrap ((k : Int) + 1 - 1) = (k : Int) := by rw [IntKind.wrap_i64]; omega
    clear h1 h2 hn h hg
    go_enter Tryd.func38, Tryd.ntmps38
    go_wp2_with (go_at_call 37; refine hc.mono ?_; rintro e w' ⟨rfl, rfl⟩; clear hc)
    go_ret
    exact ⟨rfl, rfl⟩
  · have hb : (decide (1 ≤ n) && decide (n ≤ g)) = false := by rw [Bool.and_eq_false_iff, decide_eq_false_iff_not, decide_eq_false_iff_not]; omega
    rw [hb] at hc
    clear h1 hb hn h hg
    go_enter Tryd.func38, Tryd.ntmps38
    go_wp2_with (go_at_call 37; refine hc.mono ?_; rintro e w' ⟨rfl, rfl⟩; clear hc)
    go_ret
    exact ⟨rfl, rfl⟩
set_option maxRecDepth 100000 in
set_option maxHeartbeats 1000000 in
theorem isNew_yes (w : World) (C M : Nat) (g : Int) (gs : List Int) (n : Int) (h : CkAt w C g gs M) (hg : g ≤ 9) (hn : 1 ≤ n ∧ n ≤ g) (hm : n ∉ gs) : Calls Tryd.prog 38 #[.pointer (some ⟨C, 0, none⟩), .int .i64 n] w fun e w' => e = .returned (.bool true) ∧ CkAt w' C g (gs ++ [n]) M ∧ Fr w w' (· = C) ∧ w'.heap.size = w.heap.size := by
  have hc := isNumber_any w C M g gs n h
  rw [decide_eq_true hn.1, decide_eq_true hn.2] at hc
  obtain ⟨k, rfl⟩ : ∃ k : Nat, n = (k : Int) + 1 := ⟨(n - 1).toNat, by omega⟩
  have hk : k < 9 := by omega
  have c1 : w.cell? ⟨C, 1 + k, none⟩ = some (.bool false) := by
    have := Rw.cell h (ck_at (g := g) (gs := gs) (M := M) hk)
    rw [decide_eq_false hm] at this
    exact this
  have wk : IntKind.i64.wrap ((k : Int) + 1 - 1) = (k : Int) := by rw [IntKind.wrap_i64]; omega
  have HE : Hid (CkAt (w.setCell ⟨C, 1 + k, none⟩ (.bool true)) C g (gs ++ [(k : Int) + 1]) M ∧ Fr w (w.setCell ⟨C, 1 + k, none⟩ (.bool true)) (· = C) ∧ (w.setCell ⟨C, 1 + k, none⟩ (.bool true)).heap.size = w.heap.size) := Lib.hid (by
    refine ⟨?_, (Fr.of_below (X := (· = C)) (Below.refl _ w)).set ⟨C, 1 + k, none⟩ _ (fun _ => rfl), by simp [World.setCell]⟩
    have := set_row (i := 1 + k) (l := ckRow g gs M) h (.bool true)
    rw [ck_set hk rfl] at this
    exact this)
  have f1 : w.frozen? ⟨C, 1 + k, none⟩ = false := rw_frozen h (1 + k)
  clear hn hm h hg
  go_enter Tryd.func38, Tryd.ntmps38
  go_wp2_with (go_at_call 37; refine hc.mono ?_; rintro e w' ⟨rfl, rfl⟩; clear hc)
  go_ret
  exact ⟨rfl, HE.out⟩
end Go.Proofs.YtcpjcepeiplfgaaDoor.C
