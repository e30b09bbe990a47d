/-
  The statements' known answers true. Condition: what is asked of the listed variables (Gm).
-/
import Derived.Test.YthgiikhkcpbpfaaGreatDoorQBaR
import Derived.Test.YthgiikhkcpbpfaaGreatDoorB17
import Derived.Test.YthgiikhkcpbpfaaGreatDoorB24
import Derived.Test.YthgiikhkcpbpfaaGreatDoorB27
namespace Go.Proofs.YthgiikhkcpbpfaaGreatDoor.C
open Go.RowKit

theorem of_ex1 : ofL ⟨#[97, 45, 99, 91, 58, 100, 105, 103, 105, 116, 58, 93, 93]⟩ = ex1 := by decide +kernel
theorem of_ex2 : ofL ⟨#[93, 94, 93]⟩ = [93, 94, 93] := by decide +kernel
theorem of_ex3 : ofL ⟨#[97]⟩ = [97] := by decide +kernel
theorem fold_97 : foldL plainLoc 97 = [65, 97] := by decide +kernel
theorem fold_65 : foldL plainLoc 65 = [65, 97] := by decide +kernel
theorem plain_rs : ∀ k ∈ plainLoc.cls, k.rs.length ≤ 1000 := by decide +kernel
theorem BSetAt.row {w : World} {lo : Nat} {v : Value} {s : BSet} (h : BSetAt w lo v s) : ∃ AR cR AT cT, v = .agg #[.bool s.no, .slice AR s.rs.length cR, .slice AT s.ts.length cT] ∧ w.ownsRow lo 46 2 (.slice AR s.rs.length cR) s.rs.length (prsC s.rs) := by
 obtain ⟨vR, vT, rfl, h1, _, _, h2, _⟩ := h
 obtain ⟨AR, cR, rfl⟩ := row_form h1
 obtain ⟨AT, cT, rfl⟩ := row_form h2
 exact ⟨AR, cR, AT, cT, rfl, h1⟩
theorem alikeN_any (w : World) (a b : Int) (h : a ≠ b) :
  Calls Tryz.prog 28 #[.int .i32 a, .int .i32 b, .pointer none] w fun e w' => e = .returned (.bool false) ∧ w' = w := by
 have q : ∀ w : World, (binOp .neq 22 (.pointer none) (.pointer none)).run Tryz.prog w = .ok (.bool false) w := fun w => by kernel_rfl
 have h1 : (a == b) = false := by simpa using h
 go_enter Tryz.func28, Tryz.ntmps28
 go_wp2
 go_ret
 exact ⟨rfl, rfl⟩
set_option maxRecDepth 100000 in
set_option maxHeartbeats 1000000 in
theorem alikeT_any (w : World) (T m : Nat) (a b : Int) (L : Loc) (h : a ≠ b) (ht : TabU T w T L m) (hm : m ≤ 1000000000) (hR : rightL L = true) (hin : a ∈ foldL L b) (hl : (foldL L b).length ≤ 1000000) :
  Calls Tryz.prog 28 #[.int .i32 a, .int .i32 b, .pointer (some ⟨T, 0, none⟩)] w fun e w' => e = .returned (.bool true) ∧ TabU T w' T L (m + 1) ∧ Fr w w' (· = T) := by
 have q : ∀ w : World, (binOp .neq 22 (.pointer (some ⟨T, 0, none⟩)) (.pointer none)).run Tryz.prog w = .ok (.bool true) w := fun w => by kernel_rfl
 have h1 : (a == b) = false := by simpa using h
 obtain ⟨n, n0, n1, hT⟩ := ht
 have hfo := fold_any w T L n b hT n0 (by omega) hR
 go_enter Tryz.func28, Tryz.ntmps28
 go_wp2_with fail
 refine hfo.mono ?_
 rintro e w1 ⟨v, rfl, ho, ht, hf⟩
 obtain ⟨A, c, rfl⟩ := row_form ho
 have hct := containsB_any w1 w1.heap.size A (foldL L b).length c (foldL L b) a (RI.of_own ho) hl
 have hcb : (foldL L b).contains a = true := List.elem_eq_true_of_mem hin
 rw [hcb] at hct
 have HE : Hid (TabU T w1 T L (m + 1) ∧ Fr w w1 (· = T)) := Lib.hid ⟨⟨n + 1, by omega, by push_cast; omega, ht⟩, hf⟩
 clear hfo ho ht hf hT hcb hin
 go_wp2_with fail
 refine hct.mono ?_
 rintro e w2 ⟨rfl, rfl⟩
 clear hct
 go_wp2
 go_ret
 exact ⟨rfl, HE.out⟩
theorem lensN_any (w : World) (no : Bool) (vR : Value) (rs : List (Int × Int)) (AT Al : Option Addr) (cT cl B lo : Nat) (x : Int) (d : Bool)
  (hr : w.ownsRow lo 46 2 vR rs.length (prsC rs)) (hl : RI .i32 w B Al 1 [x]) (hB : B ≤ w.heap.size) (hcl : 1 ≤ cl) (hd : ((rs.any (inB x)) != no) = d) :
  Calls Tryz.prog 10 #[.agg #[.bool no, vR, .slice AT 0 cT], .slice Al 1 cl, .int .i64 0, .pointer none] w fun e w' => (∃ A c, e = .returned (.slice A (lenN d) c) ∧ (d = true → ∃ ad, A = some ad ∧ w.heap.size ≤ ad.block ∧ w'.cell? ad = some (.int .i64 1))) ∧ Below w.heap.size w w' := by
 have hn : rs.length ≤ maxLen := own_len hr
 refine (lens1_any w no vR rs AT Al none cT cl B lo x [x] (fun _ => False) (fun _ => True) d hr (by simp) (by simp) hl hB hcl (by simp) (by simp) hn (by simp) (by simpa using hd) (fun W hW => ?_)).mono ?_
 ·refine (counted_nil W x).mono ?_
  rintro e w' ⟨h1, h2⟩
  exact ⟨h1, trivial, .of_below h2⟩
 ·rintro e w' ⟨h1, _, h3⟩
  exact ⟨h1, h3.below (by simp) (Nat.le_refl _)⟩
end Go.Proofs.YthgiikhkcpbpfaaGreatDoor.C
