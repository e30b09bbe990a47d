/-
  Contracts of lex.Tokens' deferred closure: what went wrong is told. No condition but what each names.
-/
import Derived.Test.YtnifcgiajjmogaaGreatDoorLxX
import Derived.Defers
import Derived.Recover
namespace Go.Proofs.YtnifcgiajjmogaaGreatDoor.C
open Go.RowKit

theorem assert_long (W : World) : (Instr.typeAssert (.iface 58 (.agg #[])) 20 58 true).run Tryz.prog W = .ok (.tuple #[.agg #[], .bool true]) W := by kernel_rfl
theorem assert_not (k : Int) (W : World) : (Instr.typeAssert (.iface 59 (.int .i64 k)) 20 58 true).run Tryz.prog W = .ok (.tuple #[.agg #[], .bool false]) W := by kernel_rfl
theorem assert_bad (k : Int) (W : World) : (Instr.typeAssert (.iface 59 (.int .i64 k)) 20 59 true).run Tryz.prog W = .ok (.tuple #[.int .i64 k, .bool true]) W := by kernel_rfl
set_option maxRecDepth 100000 in
set_option maxHeartbeats 1000000 in
theorem whatIs_long (w : World) (R : Nat) :
    Calls Tryz.prog 14 #[.pointer (some ⟨R, 0, none⟩), .iface 58 (.agg #[])] w fun e w' => e = .returned (.tuple #[.int .u16 3, .int .i64 0]) ∧ Below w.heap.size w w' := by
  have q0 := assert_long
  go_enter Tryz.func14, Tryz.ntmps14
  go_wp2
  go_ret2
  exact ⟨rfl, (Below.refl _ _).alloc (Nat.le_refl _) _⟩
set_option maxRecDepth 100000 in
set_option maxHeartbeats 1000000 in
theorem whatIs_bad (w : World) (R : Nat) (k : Int) :
    Calls Tryz.prog 14 #[.pointer (some ⟨R, 0, none⟩), .iface 59 (.int .i64 k)] w fun e w' => e = .returned (.tuple #[.int .u16 20, .int .i64 k]) ∧ Below w.heap.size w w' := by
  have q0 := assert_not k
  have q1 := assert_bad k
  go_enter Tryz.func14, Tryz.ntmps14
  go_wp2
  go_ret2
  exact ⟨rfl, Below.refl _ _⟩

/-- what the closure leaves -/
def Caught (w : World) (E A : Nat) (er : Nat) (k : Int) (w' : World) : Prop := ∃ w1, Below w.heap.size w w1 ∧ w' = (w1.setCell ⟨E, 0, none⟩ (.int .u16 er)).setCell ⟨A, 0, none⟩ (.int .i64 k)
def ErrAt (w : World) (E A : Nat) : Prop := w.heap[E]? = some (.cells #[.int .u16 0] 29 (0, 0)) ∧ w.heap[A]? = some (.cells #[.int .i64 0] 3 (0, 0)) ∧ E ≠ A

theorem catch_of (w : World) (R E A : Nat) (t : TypeId) (pv : Value) (older : List PanicEntry) (er : Nat) (k : Int) (hE : ErrAt w E A)
    (hw : ∀ W, Calls Tryz.prog 14 #[.pointer (some ⟨R, 0, none⟩), .iface t pv] W fun e w' => e = .returned (.tuple #[.int .u16 er, .int .i64 k]) ∧ Below W.heap.size W w') :
    CallsD Tryz.prog 13 #[.pointer (some ⟨R, 0, none⟩), .pointer (some ⟨E, 0, none⟩), .pointer (some ⟨A, 0, none⟩)] (.panicking ({ v := .iface t pv, recovered := false } :: older)) w fun e u' w' =>
      e = .returned (.tuple #[]) ∧ u' = .panicking ({ v := .iface t pv, recovered := true } :: older) ∧ Caught w E A er k w' := by
  obtain ⟨h1, h2, hne⟩ := hE
  have hl1 := (Array.getElem?_eq_some_iff.1 h1).1
  have hl2 := (Array.getElem?_eq_some_iff.1 h2).1
  refine callsD_of_wpS Tryz.func13 rfl fun c₀ cs hu => ?_
  apply wpS_seq
  apply wpS_region
  simp [wpOpsS, go_sem, recoverD, hu, Tryz.ntmps13, Exit.thenS]
  simp only [Array.replicate_succ, Array.replicate_zero, List.push_toArray, List.setIfInBounds_toArray, List.set_cons_zero, List.set_cons_succ, List.append_toArray, List.nil_append, List.cons_append]
  refine wpS_of_wp ?_
  go_wp2_with fail
  refine (hw _).mono ?_
  rintro e w1 ⟨rfl, hb1⟩
  have k1 := (hb1.block E hl1).trans h1
  have k2 := (hb1.block A hl2).trans h2
  have c1 : w1.cell? ⟨E, 0, none⟩ = some (.int .u16 0) := by simp [World.cell?, k1]
  have c2 : w1.cell? ⟨A, 0, none⟩ = some (.int .i64 0) := by simp [World.cell?, k2]
  have f1 : w1.frozen? ⟨E, 0, none⟩ = false := by simp [World.frozen?, k1]
  have f2 : w1.frozen? ⟨A, 0, none⟩ = false := by simp [World.frozen?, k2]
  clear k1 k2 h1 h2
  go_wp2
  have hC : Caught w E A er k ((w1.setCell ⟨E, 0, none⟩ (.int .u16 er)).setCell ⟨A, 0, none⟩ (.int .i64 k)) := ⟨w1, hb1, rfl⟩
  simp [bodyPostS, results, Tryz.results13, hC]

theorem catch_idle (w : World) (R E A : Nat) :
    CallsD Tryz.prog 13 #[.pointer (some ⟨R, 0, none⟩), .pointer (some ⟨E, 0, none⟩), .pointer (some ⟨A, 0, none⟩)] .returning w fun e u' w' => e = .returned (.tuple #[]) ∧ u' = .returning ∧ w' = w := by
  refine callsD_of_wpS Tryz.func13 rfl fun c₀ cs hu => ?_
  apply wpS_seq
  apply wpS_region
  simp [wpOpsS, go_sem, recoverD, hu, Tryz.ntmps13, Exit.thenS]
  simp only [Array.replicate_succ, Array.replicate_zero, List.push_toArray, List.setIfInBounds_toArray, List.set_cons_zero, List.set_cons_succ, List.append_toArray, List.nil_append, List.cons_append]
  refine wpS_of_wp ?_
  go_wp2
  cases c₀
  simp_all [bodyPostS, results, Tryz.results13]
end Go.Proofs.YtnifcgiajjmogaaGreatDoor.C
