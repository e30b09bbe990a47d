/-
  What a bracket's reading panicked with, told; the deferred recover. No condition but what each names.
-/
import Derived.Test.YthgiikhkcpbpfaaGreatDoorQBaK
namespace Go.Proofs.YthgiikhkcpbpfaaGreatDoor.C
open Go.RowKit

theorem assertB_fault (er k : Int) (W : World) : (Instr.typeAssert (.iface 134 (.agg #[.int .u16 er, .int .i64 k])) 20 134 true).run Tryz.prog W = .ok (.tuple #[.agg #[.int .u16 er, .int .i64 k], .bool true]) W := by kernel_rfl
theorem assertB_nofault (er : Int) (W : World) : (Instr.typeAssert (.iface 36 (.int .u16 er)) 20 134 true).run Tryz.prog W = .ok (.tuple #[.agg #[.int .u16 0, .int .i64 0], .bool false]) W := by kernel_rfl
theorem assertB_errno (er : Int) (W : World) : (Instr.typeAssert (.iface 36 (.int .u16 er)) 20 36 true).run Tryz.prog W = .ok (.tuple #[.int .u16 er, .bool true]) W := by kernel_rfl
set_option maxRecDepth 100000 in
set_option maxHeartbeats 1000000 in
theorem whatIs_fault (w : World) (R : Nat) (er k : Int) :
  Calls Tryz.prog 19 #[.pointer (some ⟨R, 0, none⟩), .iface 134 (.agg #[.int .u16 er, .int .i64 k])] w fun e w' => e = .returned (.tuple #[.int .u16 er, .int .i64 k]) ∧ Below w.heap.size w w' := by
 have q0 := assertB_fault er k
 obtain ⟨W, hW⟩ : ∃ W, W = w.alloc (.cells #[.int .u16 er, .int .i64 k] 134) := ⟨_, rfl⟩
 have HB : Hid (Below w.heap.size w W.drew) := Lib.hid (by rw [hW]; exact below_drew (below_new _ _))
 have p0 : W.cell? ⟨w.heap.size, 0, none⟩ = some (.int .u16 er) := by rw [hW]; simp
 have p1 : W.cell? ⟨w.heap.size, 1, none⟩ = some (.int .i64 k) := by rw [hW]; simp
 go_enter Tryz.func19, Tryz.ntmps19
 go_wp2
 rw [← hW]
 clear hW
 go_region
 all_goals
  go_wp2
  go_ret2
  exact ⟨rfl, HB.out⟩
set_option maxRecDepth 100000 in
set_option maxHeartbeats 1000000 in
theorem whatIs_errno (w : World) (R : Nat) (er : Int) (Al : Option Addr) (n c : Nat) (h0 : w.cell? ⟨R, 0, none⟩ = some (.slice Al n c)) :
  Calls Tryz.prog 19 #[.pointer (some ⟨R, 0, none⟩), .iface 36 (.int .u16 er)] w fun e w' => e = .returned (.tuple #[.int .u16 er, .int .i64 n]) ∧ Below w.heap.size w w' := by
 have q0 := assertB_nofault er
 have q1 := assertB_errno er
 have HB : Hid (Below w.heap.size w w.drew) := Lib.hid (below_drew (Below.refl _ _))
 go_enter Tryz.func19, Tryz.ntmps19
 go_wp2
 go_region
 all_goals
  go_wp2
  go_ret2
  exact ⟨rfl, HB.out⟩
def panV (er : BEr) : Value := if er.1 = 30 then .iface 36 (.int .u16 30) else .iface 134 (.agg #[.int .u16 er.1, .int .i64 er.2])
theorem panB_is (er : BEr) : panB er = [{ v := panV er, recovered := false }] := rfl
theorem whatIs_any (w : World) (R : Nat) (er : BEr) (Al : Option Addr) (n c : Nat) (h0 : w.cell? ⟨R, 0, none⟩ = some (.slice Al n c)) (he : er.1 = 30 → er.2 = n) :
  Calls Tryz.prog 19 #[.pointer (some ⟨R, 0, none⟩), panV er] w fun e w' => e = .returned (.tuple #[.int .u16 er.1, .int .i64 er.2]) ∧ Below w.heap.size w w' := by
 unfold panV
 by_cases h : er.1 = 30
 ·rw [if_pos h, he h, h]
  exact whatIs_errno w R 30 Al n c h0
 ·rw [if_neg h]
  exact whatIs_fault w R er.1 er.2
theorem panV_iface (er : BEr) : ∃ t v, panV er = .iface t v := by
 unfold panV
 split
 ·exact ⟨_, _, rfl⟩
 ·exact ⟨_, _, rfl⟩
set_option maxRecDepth 100000 in
set_option maxHeartbeats 2000000 in
theorem bcatch_of (w : World) (R E A : Nat) (older : List PanicEntry) (er : BEr) (Al : Option Addr) (n c : Nat) (h0 : w.cell? ⟨R, 0, none⟩ = some (.slice Al n c)) (he : er.1 = 30 → er.2 = n) (hE : One w E 36 (.int .u16 0)) (hA : One w A 3 (.int .i64 0)) (hne : E ≠ A) :
  CallsD Tryz.prog 18 #[.pointer (some ⟨R, 0, none⟩), .pointer (some ⟨E, 0, none⟩), .pointer (some ⟨A, 0, none⟩)] (.panicking ({ v := panV er, recovered := false } :: older)) w fun e u' w' =>
   e = .returned (.tuple #[]) ∧ u' = .panicking ({ v := panV er, recovered := true } :: older) ∧ ∃ w1, Below w.heap.size w w1 ∧ w' = (w1.setCell ⟨E, 0, none⟩ (.int .u16 er.1)).setCell ⟨A, 0, none⟩ (.int .i64 er.2) := by
 have hw := whatIs_any w R er Al n c h0 he
 have HE := Lib.hid hE
 have HA := Lib.hid hA
 obtain ⟨t, v, hv⟩ := panV_iface er
 have HV := Lib.hid hv
 rw [hv] at hw ⊢
 clear h0 hE hA hv he
 refine callsD_of_wpS Tryz.func18 rfl fun c₀ cs hu => ?_
 apply wpS_seq
 apply wpS_region
 simp [wpOpsS, go_sem, recoverD, hu, Tryz.ntmps18, Exit.thenS]
 simp only [Array.replicate_succ, Array.replicate_zero, List.push_toArray, g1, g2, g3, List.append_toArray, List.nil_append, List.cons_append]
 refine wpS_of_wp ?_
 go_wp2_with fail
 refine hw.mono ?_
 rintro e w1 ⟨rfl, hb1⟩
 have k1 : One w1 E _ _ := (hb1.block E (Array.getElem?_eq_some_iff.1 HE.out).1).trans HE.out
 have k2 : One w1 A _ _ := (hb1.block A (Array.getElem?_eq_some_iff.1 HA.out).1).trans HA.out
 have c1 := k1.cell
 have f1 := k1.frozen 0
 have c2 := (k2.far (p := ⟨E, 0, none⟩) (Ne.symm hne) (.int .u16 er.1)).cell
 have f2 := (k2.far (p := ⟨E, 0, none⟩) (Ne.symm hne) (.int .u16 er.1)).frozen 0
 have HB := Lib.hid hb1
 clear k1 k2 hw hb1
 go_wp2
 have hC : ∃ w2, Below w.heap.size w w2 ∧ (w1.setCell ⟨E, 0, none⟩ (.int .u16 er.1)).setCell ⟨A, 0, none⟩ (.int .i64 er.2) = (w2.setCell ⟨E, 0, none⟩ (.int .u16 er.1)).setCell ⟨A, 0, none⟩ (.int .i64 er.2) := ⟨w1, HB.out, rfl⟩
 first
 | (change bodyPostS _ _ _ _ _ _ _ _ _; simp [bodyPostS, results, Tryz.results18, hC])
 | (simp [bodyPostS, results, Tryz.results18, hC])
set_option maxRecDepth 100000 in
set_option maxHeartbeats 2000000 in
theorem bcatch_idle (w : World) (R E A : Nat) :
  CallsD Tryz.prog 18 #[.pointer (some ⟨R, 0, none⟩), .pointer (some ⟨E, 0, none⟩), .pointer (some ⟨A, 0, none⟩)] .returning w fun e u' w' => e = .returned (.tuple #[]) ∧ u' = .returning ∧ w' = w := by
 refine callsD_of_wpS Tryz.func18 rfl fun c₀ cs hu => ?_
 apply wpS_seq
 apply wpS_region
 simp [wpOpsS, go_sem, recoverD, hu, Tryz.ntmps18, Exit.thenS]
 simp only [Array.replicate_succ, Array.replicate_zero, List.push_toArray, g1, g2, g3, List.append_toArray, List.nil_append, List.cons_append]
 refine wpS_of_wp ?_
 go_wp2
 cases c₀
 simp_all [bodyPostS, results, Tryz.results18]
end Go.Proofs.YthgiikhkcpbpfaaGreatDoor.C
