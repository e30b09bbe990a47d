/-
  The contract of cell.Text: it returns the text that shows the cells, for at most 2^30 cells; nothing that was there changes.
-/
import Derived.Test.YtkijkkhjlfllnaaDoorCellI
import Derived.Laws.IdiomStrings
import Derived.Lib.BufferRead
namespace Go.Proofs.YtkijkkhjlfllnaaDoor.C
open Go.RowKit

/-- a text out of bytes -/
def str (l : List UInt8) : ByteArray := ⟨l.toArray⟩

theorem conv_own {w : World} {B : Nat} {v : Value} {n : Nat} {xs : List UInt8} (h : w.ownsRow B 5 1 v n (Lib.byteCells xs)) : (convert 22 9 v).run Tryd.prog w = .ok (.string (str xs)) w := by
  have hl : xs.length = n := by have := h.1; rw [Lib.byteCells_length] at this; omega
  rcases h.2 with ⟨rfl, rfl⟩ | ⟨g, cap, cur, rfl, h2, h3, h4⟩
  · obtain rfl : xs = [] := List.eq_nil_of_length_eq_zero hl
    exact Lib.run_convert_nil_bytes w 22 9 5 0 Tryd.underlying22 Tryd.underlying5 Tryd.underlying9
  · subst hl
    refine run_convert_bytes_back w 22 9 5 ⟨g, 0, none⟩ cap xs Tryd.underlying22 Tryd.underlying5 Tryd.underlying9 ?_
    intro j hj
    refine h.cells (g := g) rfl j _ ?_
    simp [Lib.byteCells, hj]

theorem textL_snoc (l : List Int) (c : Int) : textL (l ++ [c]) = textL l ++ shown c := by simp [textL]
theorem textL_le (l : List Int) : (textL l).length ≤ 10 * l.length := by
  induction l with
  | nil => simp [textL]
  | cons c l ih =>
    have := shown_le c
    simp only [textL, List.flatMap_cons, List.length_append, List.length_cons] at *
    omega
theorem take_snoc {α : Type} {l : List α} {k : Nat} {a : α} (h : l[k]? = some a) : l.take (k + 1) = l.take k ++ [a] := by
  rw [List.take_add_one, h]; rfl

set_option maxHeartbeats 1000000 in
theorem text_any (w : World) (Bx : Nat) (Ax : Option Addr) (n cx : Nat) (xs : List Int) (hx : RI .i32 w Bx Ax n xs) (hBx : Bx ≤ w.heap.size) (hn : n ≤ 1073741824) (hT : w.cell? ⟨2, 15, none⟩ = some (.int .u8 4)) :
    Calls Tryd.prog 17 #[.slice Ax n cx] w fun e w' => e = .returned (.string (str (textL xs))) ∧ Below w.heap.size w w' := by
  have HX := Lib.hid hx
  have hTB := World.block_lt_of_cell? w _ hT
  have HT := Lib.hid hT
  clear hx hT
  go_enter Tryd.func17, Tryd.ntmps17
  go_wp2
  go_loopw [3, 8] (fun v i wr => ∃ k : Nat, k ≤ n ∧ i = .int .i64 k ∧ Hid (wr.ownsRow w.heap.size 5 1 v (textL (xs.take k)).length (Lib.byteCells (textL (xs.take k)))) ∧ Below w.heap.size w wr) (fun _ i _ => n - (intOf i).toNat)
  case atStart => exact ⟨0, Nat.zero_le _, rfl, World.ownsRow_nil _ _ _ _, Below.refl _ _⟩
  case round =>
    obtain ⟨k, hk, rfl, HW, hb⟩ := hrel
    by_cases hlt : k < n
    · obtain ⟨ad, c, rfl, hbl, hc, hcell⟩ := HX.out.at_ hlt
      have hcr : wr.cell? (ad.add k) = some (.int .i32 c) := (hb.cell (p := ad.add k) (by rw [block_of_add]; omega)).trans hcell
      have hle := textL_le (xs.take k)
      have hlk : (xs.take k).length ≤ k := List.length_take_le _ _
      have HC := Lib.hid hc
      clear hc hcell
      go_wp2_with fail
      refine (appendShown_any wr w.heap.size _ (textL (xs.take k)).length (textL (xs.take k)) c ((hb.cell (p := ⟨2, 15, none⟩) hTB).trans HT.out) hTB hb.size HW.out (by omega)).mono ?_
      rintro e w1 ⟨v1, rfl, hown1, hb1⟩
      have hown2 : Hid (w1.ownsRow w.heap.size 5 1 v1 (textL (xs.take (k + 1))).length (Lib.byteCells (textL (xs.take (k + 1))))) := by
        rw [take_snoc HC.out, textL_snoc, List.length_append]
        exact hown1
      clear hown1
      have hb2 := hb.trans hb1
      go_wp2
      go_roundw
      case rel => exact ⟨k + 1, by omega, by go_num, hown2, hb2⟩
      case measure => simp [intOf]; omega
    · have hkn : k = n := by omega
      have hcv := conv_own HW.out
      have HK := Lib.hid hkn
      clear hkn
      go_wp2
      go_ret
      refine ⟨?_, hb⟩
      have e1 : xs.take k = xs := List.take_of_length_le (by rw [HX.out.len, HK.out]; exact Nat.le_refl _)
      rw [e1]
      rfl
end Go.Proofs.YtkijkkhjlfllnaaDoor.C
