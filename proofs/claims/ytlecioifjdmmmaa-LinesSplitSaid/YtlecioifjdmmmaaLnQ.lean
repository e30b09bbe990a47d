/-
  Words for laws: the cells of choices, as a slice. No condition.
-/
import Derived.Test.YtlecioifjdmmmaaLnO
import Derived.Test.YtlecioifjdmmmaaLnL
namespace Go.Proofs.Ytlecioifjdmmmaa.C
open Go.RowKit

theorem cells_rowv (w0 w : World) (a : Option Addr) (len cap : Nat) (z : List Int) (h : L.IsRow .u8 w0 a len cap z) (hb : Below w0.heap.size w0 w) :
    Calls Try.prog 8 #[.slice a len cap] w fun e w' => ∃ v n, e = .returned v ∧ n = (cellsL (z.take len)).length ∧ n ≤ 60 ∧ w'.ownsRow w.heap.size 25 1 v n ((cellsL (z.take len)).map (Value.int .i32)) ∧ Below w.heap.size w w' := by
  have hl := row_len h
  refine (cells_any w w0.heap.size a len cap (z.take len) ((RI.of_row h).below hb) hb.size (by omega) (row_u8 h)).mono ?_
  rintro e w' ⟨v, rfl, hown, hb'⟩
  exact ⟨v, _, rfl, rfl, cellsL_len _, hown, hb'⟩
theorem own_slice3 {w : World} {base : Nat} {e : TypeId} {ki : IntKind} {v : Value} {n : Nat} {zs : List Int} (h : w.ownsRow base e 1 v n (zs.map (Value.int ki))) : ∃ A c, v = .slice A n c ∧ n ≤ c ∧ c ≤ maxLen ∧ RI ki w w.heap.size A n zs := own_slice2 h
end Go.Proofs.Ytlecioifjdmmmaa.C
