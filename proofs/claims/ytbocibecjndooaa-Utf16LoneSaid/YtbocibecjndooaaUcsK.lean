/-
  A statement that draws its order, whose loads read what lay there already and whose callees make new memory alone: walked once, in the order of the text, in the class of all worlds that keep what was there. No condition.
-/
import Derived.Test.YtbocibecjndooaaUcsJ
import Derived.Deep.Quiet
import Derived.Deep.QuietTactic
namespace Go.Proofs.Ytbocibecjndooaa.C
open Go.RowKit

/-- a world that keeps what was there -/
structure Kept (w0 : World) where
  w : World
  below : Below w0.heap.size w0 w
instance (w0 : World) : Nonempty (Kept w0) := ⟨⟨w0, Below.refl _ _⟩⟩
theorem wp_region_kept {P : Program} {id : Nat} {Q : Exit → Act → World → Prop} {a : Act} {w : World} {l : List Oper} (hm : P.follows .mixedOrders = true) (hB : Region.lexB .any l.toArray = true)
    (h : wpQuiet P l.toArray (fun w' => ∃ z : Kept w, w' = z.w) (fun a' => ∀ w', (∃ z : Kept w, w' = z.w) → Q .normal a' w') l a) : (Code.region id l.toArray true).wp P Q a w :=
  wp_region_quiet (C := fun w' => ∃ z : Kept w, w' = z.w) hm hB ⟨⟨w.drewN 1, below_drewN (Below.refl _ _) 1⟩, rfl⟩ (by simpa using h)
theorem Kept.of_calls {P : Program} {f : FuncId} {args : Array Value} {w0 : World} {z : Kept w0} {v : Value} (h : Calls P f args z.w fun e w' => e = .returned v ∧ Below z.w.heap.size z.w w') :
    Calls P f args z.w fun e w'' => e = .returned v ∧ ∃ z' : Kept w0, w'' = z'.w :=
  h.mono fun _ w' ⟨he, hb⟩ => ⟨he, ⟨w', z.below.trans (hb.mono z.below.size)⟩, rfl⟩
theorem Kept.of_still {P : Program} {f : FuncId} {args : Array Value} {w0 : World} {z : Kept w0} {v : Value} (h : Calls P f args z.w fun e w' => e = .returned v ∧ w' = z.w) :
    Calls P f args z.w fun e w'' => e = .returned v ∧ ∃ z' : Kept w0, w'' = z'.w :=
  h.mono fun _ _ ⟨he, hw⟩ => ⟨he, z, hw⟩
theorem Kept.cell {w0 : World} (z : Kept w0) {p : Addr} {v : Value} (hp : p.block < w0.heap.size) (h : w0.cell? p = some v) : z.w.cell? p = some v := (z.below.cell (p := p) hp).trans h
end Go.Proofs.Ytbocibecjndooaa.C
