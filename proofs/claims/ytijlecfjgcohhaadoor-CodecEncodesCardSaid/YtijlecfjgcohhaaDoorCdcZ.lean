/-
  Contract of the statements' encodes: what Encode answers is what the document's answers. No condition.
-/
import Derived.Test.YtijlecfjgcohhaaDoorCdcY
namespace Go.Proofs.YtijlecfjgcohhaaDoor.C
open Go.RowKit

theorem err_four (k : Int) (big bom : Bool) (xs : List Int) : errE k big bom xs = 0 ∨ errE k big bom xs = 1 ∨ errE k big bom xs = 10 ∨ errE k big bom xs = 11 := by
  unfold errE
  split
  · omega
  split
  · omega
  split
  · omega
  · omega

set_option maxRecDepth 100000 in
set_option maxHeartbeats 4000000 in
theorem encodes_any (w : World) (k : Int) (B : Nat) (A : Option Addr) (n c : Nat) (xs : List Int) (big bom : Bool) (hx : RI .i32 w B A n xs) (hB : B ≤ w.heap.size) (hn : n ≤ 1073741824) :
    Calls Tryd.prog 17 #[.agg #[.int .u8 k, .bool big, .bool bom, .slice A n c]] w fun e w' => e = .returned (.bool true) ∧ Below w.heap.size w w' := by
  obtain ⟨W, hW⟩ : ∃ W, W = w.alloc (.cells #[.int .u8 k, .bool big, .bool bom, .slice A n c] 26) := ⟨_, rfl⟩
  have hbW : Below w.heap.size w W := by rw [hW]; exact (Below.refl _ w).alloc (Nat.le_refl _) _
  have hsW : W.heap.size = w.heap.size + 1 := by rw [hW]; simp
  have hcV : ∀ j, W.cell? ⟨w.heap.size, j, none⟩ = (#[Value.int .u8 k, .bool big, .bool bom, .slice A n c] : Array Value)[j]? := fun j => by rw [hW]; exact World.cell?_alloc_new _ _ _ _
  have HX := Lib.hid (hx.on hbW hB)
  clear hx
  go_enter Tryd.func17, Tryd.ntmps17
  go_wp2_with fail
  rw [← hW]
  clear hW
  with_reducible refine (encodeC_any W k B A n c xs big bom HX.out (by omega) hn).mono ?_
  rintro e w2 ⟨A2, m2, c2, rfl, h2c, h2m, hr2, hb2⟩
  have hs2 := hb2.size
  have e0 := (hb2.cell (p := ⟨w.heap.size, 0, none⟩) (by show w.heap.size < _; omega)).trans (hcV 0)
  have e1 := (hb2.cell (p := ⟨w.heap.size, 1, none⟩) (by show w.heap.size < _; omega)).trans (hcV 1)
  have e2 := (hb2.cell (p := ⟨w.heap.size, 2, none⟩) (by show w.heap.size < _; omega)).trans (hcV 2)
  have e3 := (hb2.cell (p := ⟨w.heap.size, 3, none⟩) (by show w.heap.size < _; omega)).trans (hcV 3)
  have HR2 := Lib.hid hr2
  clear hr2 hcV
  go_wp2_with fail
  with_reducible refine (renc_any w2 k B A n c xs big bom (HX.out.on hb2 (by omega)) (by omega) hn).mono ?_
  rintro e w3 ⟨A3, m3, c3, rfl, h3c, h3m, hr3, hb3⟩
  have B3 : Below w.heap.size w w3 := (hbW.trans (hb2.mono (by omega))).trans (hb3.mono (by omega))
  have k2 := conv_ri (HR2.out.on hb3 (Nat.le_refl _)) c2
  have k3 := conv_ri hr3 c3
  clear hr3
  rcases err_four k big bom xs with he | he | he | he
  all_goals
    rw [he]
    clear he
    go_wp2
    go_ret
    exact ⟨rfl, B3⟩
end Go.Proofs.YtijlecfjgcohhaaDoor.C
