/-
  What is asked of the listed variables; strconv.Itoa. Condition: what the listed variables hold.
-/
import Derived.Test.YtcpjcepeiplfgaaDoorTaX
import Derived.Test.YtcpjcepeiplfgaaDoorShelf9
import Derived.Lib.SmallJoins
namespace Go.Proofs.YtcpjcepeiplfgaaDoor.C
open Go.RowKit

/-- what the walks ask of the listed variables -/
def Gt (w : World) : Prop := w.cell? ⟨2, 15, none⟩ = some (.int .u8 4) ∧ Lib.TabIs Tryd.prog w "internal/strconv.uint64pow10" .u64 Lib.pow10Tab
theorem gPow : Tryd.prog.globalNamed "internal/strconv.uint64pow10" = some 0 := by kernel_rfl
theorem Gt.next {w w' : World} {B : Nat} (h : Gt w) (hb : Below B w w') (hB : 3 ≤ B) : Gt w' := by
  refine ⟨(hb.cell (p := ⟨2, 15, none⟩) (by show 2 < B; omega)).trans h.1, ?_⟩
  have h2 := h.2
  unfold Lib.TabIs World.var? at h2 ⊢
  rw [gPow] at h2 ⊢
  simp only [Option.bind_some] at h2 ⊢
  rw [hb.block 0 (by omega)]
  exact h2
theorem Gt.lt {w : World} (h : Gt w) : 3 ≤ w.heap.size := World.block_lt_of_cell? w _ h.1
theorem below_grow (w : World) (k : Nat) (os : Array Obj) : Below w.heap.size w (Go.Sort.grow (w.drewN k) os) :=
  ⟨rfl, rfl, rfl, by show w.heap.size ≤ (w.heap ++ os).size; simp, fun j hj => by show (w.heap ++ os)[j]? = _; rw [Array.getElem?_append_left hj]⟩
theorem itoa_any (n : Int) (h0 : -9223372036854775808 ≤ n) (h1 : n ≤ 9223372036854775807) (w : World) (hG : Gt w) : Calls Tryd.prog 64 #[.int .i64 n] w fun e w' => e = .returned (.string (str (Lib.itoa n))) ∧ Below w.heap.size w w' := by
  refine (Tryd.strconv_Itoa n h0 h1 w hG.2).mono ?_
  rintro e w' ⟨rfl, k, os, rfl⟩
  exact ⟨rfl, below_grow w k os⟩
theorem decDigits_len : ∀ (f u : Nat), u < 10 ^ f → (Lib.decDigits u).length ≤ f + 1
  | 0, u, h => by
    have h : u < 1 := by simpa using h
    rw [Lib.decDigits, dif_pos (by omega)]
    simp
  | f + 1, u, h => by
    rw [Lib.decDigits]
    split
    · simp
    · rw [List.length_append, List.length_singleton]
      have := decDigits_len f (u / 10) (by rw [Nat.pow_succ] at h; omega)
      omega
theorem itoa_len (n : Int) (h0 : -1000 < n) (h1 : n < 1000) : (Lib.itoa n).length ≤ 5 := by
  unfold Lib.itoa
  split
  · have := decDigits_len 3 n.natAbs (by omega)
    rw [List.length_cons]
    omega
  · have := decDigits_len 3 n.toNat (by omega)
    omega
end Go.Proofs.YtcpjcepeiplfgaaDoor.C
