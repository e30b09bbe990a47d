/-
  Trees of literals in memory; what the small statements compare. No condition.
-/
import Derived.Test.YtcpjcepeiplfgaaDoorTdA
namespace Go.Proofs.YtcpjcepeiplfgaaDoor.C
open Go.RowKit

theorem lit_nds {w W : World} {t : TypeId} {ns : List Nd} {xs : List (List Value)} {P : Nat → Prop} (hW : W = w.alloc (.cells xs.flatten.toArray t)) (hl : xs.length = ns.length) (hP : P w.heap.size) (h : ∀ (i : Nat) (x : Nd), ns[i]? = some x → ∃ vR vT vK, xs[i]? = some (ndRow x vR vT vK) ∧ NdP W P x vR vT vK) : NdsP W P (some ⟨w.heap.size, 0, none⟩) ns xs := by
  have hnine : ∀ x ∈ xs, x.length = 9 := by
    intro x hx
    obtain ⟨i, hi⟩ := List.mem_iff_getElem?.1 hx
    obtain ⟨y, hy⟩ : ∃ y, ns[i]? = some y := ⟨_, List.getElem?_eq_getElem (by have := (List.getElem?_eq_some_iff.1 hi).1; omega)⟩
    obtain ⟨a, b, d, e, _⟩ := h i y hy
    rw [hi] at e
    injection e with e
    subst e
    rfl
  refine ⟨⟨hl, hnine, fun _ => ⟨_, rfl, hP, fun j x hx i u hu => ?_⟩⟩, h⟩
  rw [hW]
  exact nine_new w xs.flatten t w.heap.size rfl _ _ (flat_at hnine hx hu)
theorem lit_one {w W : World} {t : TypeId} {x : Nd} {vR vT vK : Value} {P : Nat → Prop} (hW : W = w.alloc (.cells (ndRow x vR vT vK).toArray t)) (hP : P w.heap.size) (hx : NdP W P x vR vT vK) : NdsP W P (some ⟨w.heap.size, 0, none⟩) [x] [ndRow x vR vT vK] := by
  refine lit_nds (t := t) (by rw [hW]; simp) rfl hP fun i y hy => ?_
  rcases i with _ | i
  · obtain rfl : x = y := by simpa using hy
    exact ⟨vR, vT, vK, rfl, hx⟩
  · simp at hy
theorem right_cell (c : Int) : rightT ⟨[{ nd 1 with c := c }], 0⟩ = celOk c := by
  simp [rightT, nodeAt, nodeB, nd, bareB, useN, grpN]
theorem right_kind (k : Int) : rightT ⟨[nd k], 0⟩ = (decide (k = 2 ∨ k = 4 ∨ k = 5 ∨ k = 11 ∨ k = 3) || decide (k = 1)) := by
  by_cases h1 : k = 1
  · subst h1; decide
  by_cases h2 : k = 2
  · subst h2; decide
  by_cases h3 : k = 3
  · subst h3; decide
  by_cases h4 : k = 4
  · subst h4; decide
  by_cases h5 : k = 5
  · subst h5; decide
  by_cases h11 : k = 11
  · subst h11; decide
  by_cases h6 : k = 6
  · subst h6; decide
  by_cases h7 : k = 7
  · subst h7; decide
  by_cases h8 : k = 8
  · subst h8; decide
  by_cases h9 : k = 9
  · subst h9; decide
  by_cases h10 : k = 10
  · subst h10; decide
  simp [rightT, nodeAt, nodeB, nd, h1, h2, h3, h4, h5, h6, h7, h8, h9, h10, h11]
end Go.Proofs.YtcpjcepeiplfgaaDoor.C
