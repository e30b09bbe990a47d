/-
  Contract of codec.With, in the words of rows that a call owns. No condition.
-/
import Derived.Test.YtijlecfjgcohhaaDoorCdcZ
namespace Go.Proofs.YtijlecfjgcohhaaDoor.C
open Go.RowKit

set_option maxRecDepth 100000 in
set_option maxHeartbeats 1000000 in
theorem with_own (w : World) (k : Int) (big bom : Bool) (v3 : Value) (B : Nat) (A : Option Addr) (n c : Nat) (xs : List Int) (h3 : ∃ A c m, v3 = .slice A m c) (hx : RI .i32 w B A n xs) (hB : B ≤ w.heap.size) (hn : n ≤ 1073741824) :
    Calls Tryd.prog 12 #[.agg #[.int .u8 k, .bool big, .bool bom, v3], .slice A n c] w fun e w' => ∃ A' c', e = .returned (.agg #[.int .u8 k, .bool big, .bool bom, .slice A' n c']) ∧ n ≤ c' ∧ c' ≤ maxLen ∧ w'.ownsRow w.heap.size 35 1 (.slice A' n c') n (xs.map (Value.int .i32)) ∧ Below w.heap.size w w' := by
  obtain ⟨i0, hi, hz0, hz1, hz2⟩ := info_parts info33
  obtain ⟨A3, cc3, m3, rfl⟩ := h3
  obtain ⟨W, hW⟩ : ∃ W, W = (w.alloc (.cells #[.int .u8 k, .bool big, .bool bom, .slice A3 m3 cc3] 26)).alloc (.cells #[.int .u8 0, .bool false, .bool false, .slice none 0 0] 26) := ⟨_, rfl⟩
  have hbW : Below w.heap.size w W := by rw [hW]; exact ((Below.refl _ w).alloc (Nat.le_refl _) _).alloc (by simp) _
  have hsW : W.heap.size = w.heap.size + 2 := by rw [hW]; simp
  have hblk : W.heap[w.heap.size]? = (w.alloc (.cells #[.int .u8 k, .bool big, .bool bom, .slice A3 m3 cc3] 26)).heap[w.heap.size]? := by rw [hW]; exact Below.heap_alloc _ _ _ (by simp)
  have hc : ∀ j, W.cell? ⟨w.heap.size, j, none⟩ = (#[Value.int .u8 k, .bool big, .bool bom, .slice A3 m3 cc3] : Array Value)[j]? := fun j => (World.cell?_of_block (a := ⟨w.heap.size, j, none⟩) hblk).trans (World.cell?_alloc_new _ _ _ _)
  have hf : W.frozen? ⟨w.heap.size, 3, none⟩ = false := (World.frozen?_of_block (a := ⟨w.heap.size, 3, none⟩) hblk).trans (World.frozen?_alloc_at (w := w) _ _ _ _ rfl)
  have hdW : Doc4 W (w.heap.size + 1) := by
    rw [hW]
    have := Doc4.new (w.alloc (.cells #[.int .u8 k, .bool big, .bool bom, .slice A3 m3 cc3] 26)) 26
    simpa using this
  have HX := Lib.hid (hx.on hbW hB)
  clear hx
  go_enter Tryd.func12, Tryd.ntmps12
  clear hblk
  go_wp2_with (at_builtin; rw [← hW]; clear hW; (refine wpList_append_ri _ rfl _ _ 24 rfl W.heap.size 35 i0 (.int .i32 0) 4 Tryd.underlying24 hi hz0 hz1 hz2 rfl (.slice none 0 0) 0 [] rfl (World.ownsRow_nil _ _ _ _) .i32 B A n c xs rfl HX.out (by unfold maxLen; omega) (by omega) (Nat.le_refl _) ?_); intro v' w2 hown hgrow; have hb2 : Below W.heap.size W w2 := (Below.refl _ _).grown hgrow (Nat.le_refl _) (fun _ h => by cases h); obtain ⟨A2, c2, rfl, h2c, h2m, _⟩ := own_slice2 hown; have HO := Lib.hid hown; clear hown hgrow; have e0 := (hb2.cell (p := ⟨w.heap.size, 0, none⟩) (by show w.heap.size < _; omega)).trans (hc 0); have e1 := (hb2.cell (p := ⟨w.heap.size, 1, none⟩) (by show w.heap.size < _; omega)).trans (hc 1); have e2 := (hb2.cell (p := ⟨w.heap.size, 2, none⟩) (by show w.heap.size < _; omega)).trans (hc 2); have e3 := (hb2.cell (p := ⟨w.heap.size, 3, none⟩) (by show w.heap.size < _; omega)).trans (hc 3); have ef := (hb2.frozen (p := ⟨w.heap.size, 3, none⟩) (by show w.heap.size < _; omega)).trans hf; obtain ⟨d0, d1, d2, d3, df⟩ := hdW.keep (w' := w2) (hb2.block _ (by omega)); have f0 := df 0; have f1 := df 1; have f2 := df 2; have f3 := df 3; clear df)
  refine bodyPost_ret (v := .agg #[.int .u8 k, .bool big, .bool bom, .slice A2 n c2]) ?_ rfl ?_
  · simp [results, Tryd.results12, go_sem, *]
  · have ho := putDoc_own (b := w.heap.size + 1) (ownsRow_setCell_below HO.out (a := ⟨w.heap.size, 3, none⟩) (by show w.heap.size < _; omega) (.slice A2 n c2)) (by omega) (.int .u8 k) (.bool big) (.bool bom) (.slice A2 n c2)
    rw [show 0 + n = n by omega, List.nil_append] at ho
    obtain ⟨A', c', hv, h1, h2, h3⟩ := own_slice2 ho
    injection hv with q1 _ q2
    subst q1 q2
    clear h3
    exact ⟨A2, c2, rfl, h1, h2, own_less ho (by omega), putDoc_below ((hbW.trans (hb2.mono (by omega))).setCell (p := ⟨w.heap.size, 3, none⟩) (Nat.le_refl _) _) (by omega) _ _ _ _⟩
end Go.Proofs.YtijlecfjgcohhaaDoor.C
