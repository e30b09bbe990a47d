/-
  Contracts of codec.Named and of the document's: the number of a name. No condition.
-/
import Derived.Test.YtijlecfjgcohhaaDoorCdcM
import Derived.Lib.SlicesS
namespace Go.Proofs.YtijlecfjgcohhaaDoor.C
open Go.RowKit

def nm8 : ByteArray := ⟨#[117, 116, 102, 45, 56]⟩
def nm16 : ByteArray := ⟨#[117, 116, 102, 45, 49, 54]⟩
def nmL : ByteArray := ⟨#[108, 97, 116, 105, 110, 49]⟩
/-- the number of a name -/
def namedZ (s : ByteArray) : Int := if s = nm8 then 1 else if s = nm16 then 2 else if s = nmL then 3 else 0
theorem beq_no {a b : ByteArray} (h : a ≠ b) : (a == b) = false := by
  cases h2 : a == b with
  | false => rfl
  | true => exact absurd ((MapKept.bytes_beq a b).1 h2) h
theorem beq_yes (a : ByteArray) : (a == a) = true := (MapKept.bytes_beq a a).2 rfl
theorem findNamed (s : ByteArray) : Instr.findNow .string (.string s) [{ key := .string nm8, val := .int .u8 1, born := 0 }, { key := .string nm16, val := .int .u8 2, born := 1 }, { key := .string nmL, val := .int .u8 3, born := 2 }] 0 =
    some (if s = nm8 then some (0, .int .u8 1) else if s = nm16 then some (1, .int .u8 2) else if s = nmL then some (2, .int .u8 3) else none) := by
  unfold Instr.findNow
  simp only [Instr.sameNow]
  by_cases h1 : s = nm8
  · subst h1
    rw [if_pos rfl, beq_yes nm8]
  rw [if_neg h1, beq_no h1]
  unfold Instr.findNow
  simp only [Instr.sameNow]
  by_cases h2 : s = nm16
  · subst h2
    rw [if_pos rfl, beq_yes nm16]
  rw [if_neg h2, beq_no h2]
  unfold Instr.findNow
  simp only [Instr.sameNow]
  by_cases h3 : s = nmL
  · subst h3
    rw [if_pos rfl, beq_yes nmL]
  rw [if_neg h3, beq_no h3]
  rfl

set_option maxRecDepth 100000 in
set_option maxHeartbeats 1000000 in
theorem named_any (s : ByteArray) (w : World) :
    Calls Tryd.prog 19 #[.string s] w fun e w' => e = .returned (.int .u8 (namedZ s)) ∧ Below w.heap.size w w' := by
  have hmm := @run_makeMap Tryd.prog
  have hins := fun (w : World) b es clock key val => run_insert (P := Tryd.prog) 61 9 5 .string Tryd.underlying61 Tryd.underlying9 w b es clock key val
  obtain ⟨w0, hw0⟩ : ∃ w0, w0 = w.alloc (.map #[] 0) := ⟨_, rfl⟩
  have hm0 : w0.heap[w.heap.size]? = some (.map #[] 0) := by rw [hw0]; exact heap_alloc_new w _
  have hz : w.heap.size < w0.heap.size := by rw [hw0]; simp
  have hb0 : Below w.heap.size w w0 := by rw [hw0]; exact (Below.refl _ _).alloc (Nat.le_refl _) _
  obtain ⟨w1, hw1⟩ : ∃ w1, w1 = putObj w0 w.heap.size (.map #[{ key := .string nm8, val := .int .u8 1, born := 0 }] 1) := ⟨_, rfl⟩
  have hi1 : (Instr.mapUpdate 61 (.map (some w.heap.size)) (.string ⟨#[117, 116, 102, 45, 56]⟩) (.int .u8 1)).run Tryd.prog (w.alloc (.map #[] 0)) = .ok () w1 := by rw [← hw0, hw1]; exact hins w0 w.heap.size #[] 0 (.string nm8) _ hm0 trivial rfl
  have hm1 : w1.heap[w.heap.size]? = some (.map #[{ key := .string nm8, val := .int .u8 1, born := 0 }] 1) := by rw [hw1]; exact putObj_at _ hz
  have hz1 : w.heap.size < w1.heap.size := by rw [hw1, putObj_size]; exact hz
  have hb1 : Below w.heap.size w w1 := by rw [hw1]; exact putObj_below hb0 (Nat.le_refl _) _
  obtain ⟨w2, hw2⟩ : ∃ w2, w2 = putObj w1 w.heap.size (.map #[{ key := .string nm8, val := .int .u8 1, born := 0 }, { key := .string nm16, val := .int .u8 2, born := 1 }] 2) := ⟨_, rfl⟩
  have hi2 : (Instr.mapUpdate 61 (.map (some w.heap.size)) (.string ⟨#[117, 116, 102, 45, 49, 54]⟩) (.int .u8 2)).run Tryd.prog w1 = .ok () w2 := by rw [hw2]; exact hins w1 w.heap.size _ 1 (.string nm16) _ hm1 trivial (by simp [Instr.findNow, Instr.sameNow, beq_no (show nm16 ≠ nm8 by decide +kernel)])
  have hm2 : w2.heap[w.heap.size]? = some (.map #[{ key := .string nm8, val := .int .u8 1, born := 0 }, { key := .string nm16, val := .int .u8 2, born := 1 }] 2) := by rw [hw2]; exact putObj_at _ hz1
  have hz2 : w.heap.size < w2.heap.size := by rw [hw2, putObj_size]; exact hz1
  have hb2 : Below w.heap.size w w2 := by rw [hw2]; exact putObj_below hb1 (Nat.le_refl _) _
  obtain ⟨w3, hw3⟩ : ∃ w3, w3 = putObj w2 w.heap.size (.map #[{ key := .string nm8, val := .int .u8 1, born := 0 }, { key := .string nm16, val := .int .u8 2, born := 1 }, { key := .string nmL, val := .int .u8 3, born := 2 }] 3) := ⟨_, rfl⟩
  have hi3 : (Instr.mapUpdate 61 (.map (some w.heap.size)) (.string ⟨#[108, 97, 116, 105, 110, 49]⟩) (.int .u8 3)).run Tryd.prog w2 = .ok () w3 := by rw [hw3]; exact hins w2 w.heap.size _ 2 (.string nmL) _ hm2 trivial (by simp [Instr.findNow, Instr.sameNow, beq_no (show nmL ≠ nm8 by decide +kernel), beq_no (show nmL ≠ nm16 by decide +kernel)])
  have hm3 : w3.heap[w.heap.size]? = some (.map #[{ key := .string nm8, val := .int .u8 1, born := 0 }, { key := .string nm16, val := .int .u8 2, born := 1 }, { key := .string nmL, val := .int .u8 3, born := 2 }] 3) := by rw [hw3]; exact putObj_at _ hz2
  have hb3 : Below w.heap.size w w3 := by rw [hw3]; exact putObj_below hb2 (Nat.le_refl _) _
  have hlk : (Instr.lookup 61 (.map (some w.heap.size)) (.string s) false).run Tryd.prog w3 = .ok (.int .u8 (namedZ s)) w3 := by
    have hf := findNamed s
    unfold namedZ
    by_cases h1 : s = nm8
    · rw [if_pos h1] at hf ⊢
      exact run_look_yes (P := Tryd.prog) 61 9 5 .string Tryd.underlying61 Tryd.underlying9 w3 _ _ 3 (.string s) _ 0 hm3 trivial hf false
    rw [if_neg h1] at hf ⊢
    by_cases h2 : s = nm16
    · rw [if_pos h2] at hf ⊢
      exact run_look_yes (P := Tryd.prog) 61 9 5 .string Tryd.underlying61 Tryd.underlying9 w3 _ _ 3 (.string s) _ 1 hm3 trivial hf false
    rw [if_neg h2] at hf ⊢
    by_cases h3 : s = nmL
    · rw [if_pos h3] at hf ⊢
      exact run_look_yes (P := Tryd.prog) 61 9 5 .string Tryd.underlying61 Tryd.underlying9 w3 _ _ 3 (.string s) _ 2 hm3 trivial hf false
    rw [if_neg h3] at hf ⊢
    exact run_look_no (P := Tryd.prog) 61 9 5 .string Tryd.underlying61 Tryd.underlying9 w3 _ _ 3 (.string s) (.int .u8 0) (by kernel_rfl) hm3 trivial hf false
  clear hm0 hz hb0 hw0 hw1 hm1 hz1 hb1 hw2 hm2 hz2 hb2 hw3 hm3 hins
  go_enter Tryd.func19, Tryd.ntmps19
  go_wp2
  go_ret
  exact ⟨rfl, hb3⟩

theorem tol_no {a b : ByteArray} (h : a ≠ b) : (a.toList == b.toList) = false := (Lib.bytes_beq_false_iff _ _).2 h
set_option maxRecDepth 100000 in
set_option maxHeartbeats 1000000 in
theorem refNamed_any (s : ByteArray) (w : World) :
    Calls Tryd.prog 20 #[.string s] w fun e w' => e = .returned (.int .u8 (namedZ s)) ∧ w = w' := by
  unfold namedZ
  by_cases h1 : s = nm8
  · subst h1
    unfold nm8
    go_enter Tryd.func20, Tryd.ntmps20
    go_wp2
    go_ret
    exact ⟨rfl, rfl⟩
  have t1 : (s.toList == [117, 116, 102, 45, 56]) = false := by have h := tol_no h1; rwa [show nm8.toList = [117, 116, 102, 45, 56] from by decide +kernel] at h
  rw [if_neg h1]
  by_cases h2 : s = nm16
  · clear h1
    subst h2
    unfold nm16
    go_enter Tryd.func20, Tryd.ntmps20
    go_wp2
    go_ret
    exact ⟨rfl, rfl⟩
  have t2 : (s.toList == [117, 116, 102, 45, 49, 54]) = false := by have h := tol_no h2; rwa [show nm16.toList = [117, 116, 102, 45, 49, 54] from by decide +kernel] at h
  rw [if_neg h2]
  by_cases h3 : s = nmL
  · clear h1 h2
    subst h3
    unfold nmL
    go_enter Tryd.func20, Tryd.ntmps20
    go_wp2
    go_ret
    exact ⟨rfl, rfl⟩
  have t3 : (s.toList == [108, 97, 116, 105, 110, 49]) = false := by have h := tol_no h3; rwa [show nmL.toList = [108, 97, 116, 105, 110, 49] from by decide +kernel] at h
  rw [if_neg h3]
  clear h1 h2 h3
  go_enter Tryd.func20, Tryd.ntmps20
  go_wp2
  go_ret
  exact ⟨rfl, rfl⟩
end Go.Proofs.YtijlecfjgcohhaaDoor.C
