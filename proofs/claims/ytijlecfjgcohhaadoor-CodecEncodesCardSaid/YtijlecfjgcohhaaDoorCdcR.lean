/-
  Contract of the document's Decode of layer 4: a document of bytes, of each encoding, is what the plain function says, in new memory, or the error; nothing that was there changes. No condition.
-/
import Derived.Test.YtijlecfjgcohhaaDoorCdcT
namespace Go.Proofs.YtijlecfjgcohhaaDoor.C
open Go.RowKit

/-- what the document's Decode answers -/
def RDecTold (k : Int) (zs : List Int) (w : World) (e : Ending) (w' : World) : Prop :=
  ∃ A' m c', e = .returned (.tuple #[.agg #[.int .u8 k, .bool (bigB k zs), .bool (bomB k zs), .slice A' m c'], .int .i64 0]) ∧ m ≤ zs.length ∧ m ≤ c' ∧ c' ≤ maxLen ∧ RI .i32 w' w'.heap.size A' m (cellsD k zs) ∧ Below w.heap.size w w'
/-- the two variables of it: what is told, and the document -/
structure Two (w : World) (W : World) (k : Int) (big bom : Bool) : Prop where
  below : Below w.heap.size w W
  size : W.heap.size = w.heap.size + 2
  d : Doc4 W w.heap.size
  c0 : W.cell? ⟨w.heap.size + 1, 0, none⟩ = some (.int .u8 k)
  c1 : W.cell? ⟨w.heap.size + 1, 1, none⟩ = some (.bool big)
  c2 : W.cell? ⟨w.heap.size + 1, 2, none⟩ = some (.bool bom)
  c3 : W.cell? ⟨w.heap.size + 1, 3, none⟩ = some (.slice none 0 0)
  fr : ∀ j, W.frozen? ⟨w.heap.size + 1, j, none⟩ = false
theorem Two.new (w : World) (k : Int) (big bom : Bool) (t : TypeId) : Two w ((w.alloc (.cells #[.int .u8 0, .bool false, .bool false, .slice none 0 0] t)).alloc (.cells #[.int .u8 k, .bool big, .bool bom, .slice none 0 0] t)) k big bom := by
  have hs : (w.alloc (.cells #[.int .u8 0, .bool false, .bool false, .slice none 0 0] t)).heap.size = w.heap.size + 1 := by simp
  have hc : ∀ j, ((w.alloc (.cells #[.int .u8 0, .bool false, .bool false, .slice none 0 0] t)).alloc (.cells #[.int .u8 k, .bool big, .bool bom, .slice none 0 0] t)).cell? ⟨w.heap.size + 1, j, none⟩ = (#[Value.int .u8 k, .bool big, .bool bom, .slice none 0 0] : Array Value)[j]? := fun j => by
    rw [← hs]
    exact World.cell?_alloc_new _ _ _ _
  exact ⟨((Below.refl _ w).alloc (Nat.le_refl _) _).alloc (by simp) _, by simp, (Doc4.new w t).keep (Below.heap_alloc _ _ _ (by simp)), hc 0, hc 1, hc 2, hc 3, fun j => by rw [← hs]; exact World.frozen?_alloc_at _ _ _ _ rfl⟩
theorem putDoc_rdec {k : Int} {zs : List Int} {w w2 : World} {base b : Nat} {A : Option Addr} {m c : Nat} (hm : m ≤ zs.length) (hown : w2.ownsRow base 35 1 (.slice A m c) m ((cellsD k zs).map (Value.int .i32))) (hb : b < base) (hB : w.heap.size ≤ b) (hbe : Below w.heap.size w w2) (bg bm : Bool) (h1 : bigB k zs = bg) (h2 : bomB k zs = bm) (v0 v1 v2 v3 : Value) :
    RDecTold k zs w (.returned (.tuple #[.agg #[.int .u8 k, .bool bg, .bool bm, .slice A m c], .int .i64 0])) (putDoc w2 b v0 v1 v2 v3) := by
  subst h1 h2
  obtain ⟨A', c', hv, h1, h2, h3⟩ := own_slice2 (putDoc_own hown hb v0 v1 v2 v3)
  injection hv with e1 _ e2
  subst e1 e2
  exact ⟨A, m, c, rfl, hm, h1, h2, h3, putDoc_below hbe hB _ _ _ _⟩

set_option maxRecDepth 100000 in
set_option maxHeartbeats 1000000 in
theorem rdec_none (w : World) (k : Int) (v : Value) (h1 : k ≠ 1) (h2 : k ≠ 2) (h3 : k ≠ 3) :
    Calls Tryd.prog 23 #[.int .u8 k, v] w fun e w' => e = .returned (.tuple #[.agg #[.int .u8 0, .bool false, .bool false, .slice none 0 0], .int .i64 1]) ∧ Below w.heap.size w w' := by
  have b1 : (k == 1) = false := by simp [h1]
  have b2 : (k == 2) = false := by simp [h2]
  have b3 : (k == 3) = false := by simp [h3]
  go_enter Tryd.func23, Tryd.ntmps23
  go_wp2
  refine bodyPost_ret (v := .tuple #[.agg #[.int .u8 0, .bool false, .bool false, .slice none 0 0], .int .i64 1]) ?_ rfl ?_
  · simp [results, Tryd.results23, go_sem]
  · exact ⟨rfl, ((Below.refl _ w).alloc (Nat.le_refl _) _).alloc (by simp) _⟩

set_option maxRecDepth 100000 in
set_option maxHeartbeats 1000000 in
theorem rdec_one (w : World) (B : Nat) (A : Option Addr) (n c : Nat) (zs : List Int) (hx : RI .u8 w B A n zs) (hB : B ≤ w.heap.size) (hn : n ≤ 1073741824) :
    Calls Tryd.prog 23 #[.int .u8 1, .slice A n c] w (RDecTold 1 zs w) := by
  obtain ⟨W, hW⟩ : ∃ W, W = (w.alloc (.cells #[.int .u8 0, .bool false, .bool false, .slice none 0 0] 26)).alloc (.cells #[.int .u8 1, .bool false, .bool false, .slice none 0 0] 26) := ⟨_, rfl⟩
  have h2 := Two.new w 1 false false 26
  rw [← hW] at h2
  obtain ⟨hbW, hsW, hdW, k0, k1, k2, k3, kf⟩ := h2
  have HX := Lib.hid (hx.on hbW hB)
  have hlen := hx.len
  clear hx
  go_enter Tryd.func23, Tryd.ntmps23
  go_wp2_with fail
  rw [← hW]
  clear hW
  with_reducible refine (refDecode_any W B A n c zs HX.out (by omega)).mono ?_
  rintro e w2 ⟨v2, rfl, hown2, hb2⟩
  obtain ⟨A2, c2, rfl, h2c, h2m, _⟩ := own_slice2 hown2
  obtain ⟨d0, d1, d2, d3, df⟩ := hdW.keep (w' := w2) (hb2.block _ (by omega))
  have e0 := (hb2.cell (p := ⟨w.heap.size + 1, 0, none⟩) (by show w.heap.size + 1 < _; omega)).trans k0
  have e1 := (hb2.cell (p := ⟨w.heap.size + 1, 1, none⟩) (by show w.heap.size + 1 < _; omega)).trans k1
  have e2 := (hb2.cell (p := ⟨w.heap.size + 1, 2, none⟩) (by show w.heap.size + 1 < _; omega)).trans k2
  have e3 := (hb2.cell (p := ⟨w.heap.size + 1, 3, none⟩) (by show w.heap.size + 1 < _; omega)).trans k3
  have ef := (hb2.frozen (p := ⟨w.heap.size + 1, 3, none⟩) (by show w.heap.size + 1 < _; omega)).trans (kf 3)
  have hle := ofL_le (sb zs)
  rw [sb_size] at hle
  have HO2 := Lib.hid hown2
  have f0 := df 0
  have f1 := df 1
  have f2 := df 2
  have f3 := df 3
  clear hown2 hdW df kf
  go_wp2
  refine bodyPost_ret (v := .tuple #[.agg #[.int .u8 1, .bool false, .bool false, .slice A2 (ofL (sb zs)).length c2], .int .i64 0]) ?_ rfl ?_
  · simp [results, Tryd.results23, go_sem, *]
  · exact putDoc_rdec (base := W.heap.size) hle (ownsRow_setCell_below (by rw [cellsD_one]; exact HO2.out) (a := ⟨w.heap.size + 1, 3, none⟩) (by show w.heap.size + 1 < _; omega) _) (by omega) (Nat.le_refl _) ((hbW.trans (hb2.mono (by omega))).setCell (p := ⟨w.heap.size + 1, 3, none⟩) (by show w.heap.size ≤ w.heap.size + 1; omega) _) false false (bigB_one zs) (bomB_one zs) _ _ _ _
end Go.Proofs.YtijlecfjgcohhaaDoor.C
