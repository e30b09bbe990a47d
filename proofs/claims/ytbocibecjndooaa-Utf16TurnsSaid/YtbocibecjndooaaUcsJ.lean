/-
  Words for the laws of layer 3: the front of a row of one's own; known in a statement that draws its order. No condition.
-/
import Derived.Test.YtbocibecjndooaaUcsI
namespace Go.Proofs.Ytbocibecjndooaa.C
open Go.RowKit

theorem own_front {w : World} {base : Nat} {e : TypeId} {A : Option Addr} {n c m : Nat} {xs : List Value} (h : w.ownsRow base e 1 (.slice A n c) n xs) (hm : m ≤ n) : w.ownsRow base e 1 (.slice A m c) m (xs.take m) := by
  refine ⟨by have := h.1; simp; omega, ?_⟩
  rcases h.2 with ⟨h1, h2⟩ | ⟨g, cap, cur, h1, h2, h3, h4, h5, h6, h7⟩
  · injection h1 with hA _ hc
    subst hA hc
    obtain rfl : m = 0 := by omega
    exact .inl ⟨rfl, rfl⟩
  · injection h1 with hA _ hc
    subst hA hc
    refine .inr ⟨g, c, cur, rfl, h2, h3, by omega, h5, h6, ?_⟩
    rw [← h7, List.take_take]
    congr 1
    omega

theorem below_undrew {B : Nat} {a w : World} (h : Below B a.drew w) : Below B a w := ⟨h.os, h.tape, h.output, h.size, h.block⟩
theorem known_drew (w : World) : Calls Try.prog 12 #[] w.drew fun e w' => e = .returned (.bool true) ∧ Below w.heap.size w w' :=
  (known_any w.drew).mono fun _ _ ⟨h1, h2⟩ => ⟨h1, below_undrew h2⟩

end Go.Proofs.Ytbocibecjndooaa.C
