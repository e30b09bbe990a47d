/-
  Contract of the document's Decode of layer 4, Latin-1: the cells of bytes, in new memory; nothing that was there changes. No condition.
-/
import Derived.Test.YtijlecfjgcohhaaDoorCdcQ
import Derived.Deep.AppendLies
import Derived.Deep.RegionLaw
import Derived.Laws.DeepBits32
namespace Go.Proofs.YtijlecfjgcohhaaDoor.C
open Go.RowKit

/-- what the loop keeps: the two variables, the cells so far in a row of its own -/
structure Kp (w : World) (wr : World) (k : Nat) (v : Value) (zs : List Int) : Prop where
  below : Below w.heap.size w wr
  size : w.heap.size + 2 ≤ wr.heap.size
  d : Doc4 wr w.heap.size
  c0 : wr.cell? ⟨w.heap.size + 1, 0, none⟩ = some (.int .u8 3)
  c1 : wr.cell? ⟨w.heap.size + 1, 1, none⟩ = some (.bool false)
  c2 : wr.cell? ⟨w.heap.size + 1, 2, none⟩ = some (.bool false)
  c3 : wr.cell? ⟨w.heap.size + 1, 3, none⟩ = some v
  fr : ∀ j, wr.frozen? ⟨w.heap.size + 1, j, none⟩ = false
  own : wr.ownsRow (w.heap.size + 2) 35 1 v k ((zs.take k).map (Value.int .i32))
theorem Kp.far {w wr : World} {k : Nat} {v : Value} {zs : List Int} (h : Kp w wr k v zs) {p : Nat} (hp : p < w.heap.size + 2) : some p ≠ v.ownBlock := fun e => by
  have := (h.own.lt p e.symm).1
  omega
theorem Kp.more {w wr w3 : World} {k : Nat} {v v' : Value} {zs : List Int} {u : Int} {o : Obj} (h : Kp w wr k v zs) (hu : zs[k]? = some u)
    (hown : w3.ownsRow (w.heap.size + 2) 35 1 v' (k + 1) ((zs.take k).map (Value.int .i32) ++ [.int .i32 u])) (hg : ((wr.alloc o).drew).grownBy w3 v.ownBlock) :
    Kp w (w3.setCell ⟨w.heap.size + 1, 3, none⟩ v') (k + 1) v' zs := by
  have hs := h.size
  have hal : ∀ p, p < w.heap.size + 2 → w3.heap[p]? = wr.heap[p]? := fun p hp =>
    (hg.block p (by show p < (wr.alloc o).heap.size; simp; omega) (h.far hp)).trans (Below.heap_alloc wr o p (by omega))
  have hb : Below w.heap.size w w3 := ((h.below.alloc (by omega) o).drew).grown hg (by show _ ≤ (wr.alloc o).heap.size; simp; omega) (fun q hq => by have := (h.own.lt q hq).1; omega)
  have hsz : w.heap.size + 2 ≤ w3.heap.size := by
    have : (wr.alloc o).heap.size ≤ w3.heap.size := hg.size
    simp at this
    omega
  have hne : ∀ j q, (⟨w.heap.size + 1, 3, none⟩ : Addr) ≠ ⟨q, j, none⟩ ∨ (q = w.heap.size + 1 ∧ j = 3) := fun j q => by
    by_cases e : q = w.heap.size + 1 ∧ j = 3
    · exact .inr e
    · refine .inl fun e' => e ?_
      injection e' with e1 e2
      exact ⟨e1.symm, e2.symm⟩
  have hc : ∀ q j, q < w.heap.size + 2 → ¬ (q = w.heap.size + 1 ∧ j = 3) → (w3.setCell ⟨w.heap.size + 1, 3, none⟩ v').cell? ⟨q, j, none⟩ = wr.cell? ⟨q, j, none⟩ := fun q j hq hn => by
    rw [World.cell?_setCell_other (h := (hne j q).resolve_right hn)]
    exact World.cell?_of_block (a := ⟨q, j, none⟩) (hal q hq)
  have hf : ∀ q j, q < w.heap.size + 2 → (w3.setCell ⟨w.heap.size + 1, 3, none⟩ v').frozen? ⟨q, j, none⟩ = wr.frozen? ⟨q, j, none⟩ := fun q j hq => by
    rw [World.frozen?_setCell]
    exact World.frozen?_of_block (a := ⟨q, j, none⟩) (hal q hq)
  refine ⟨hb.setCell (p := ⟨w.heap.size + 1, 3, none⟩) (by show w.heap.size ≤ w.heap.size + 1; omega) _, by simpa [World.setCell] using hsz, ⟨?_, ?_, ?_, ?_, fun j => ?_⟩, ?_, ?_, ?_, ?_, fun j => ?_, ?_⟩
  · rw [hc _ _ (by omega) (by omega)]; exact h.d.c0
  · rw [hc _ _ (by omega) (by omega)]; exact h.d.c1
  · rw [hc _ _ (by omega) (by omega)]; exact h.d.c2
  · rw [hc _ _ (by omega) (by omega)]; exact h.d.c3
  · rw [hf _ _ (by omega)]; exact h.d.fr j
  · rw [hc _ _ (by omega) (by omega)]; exact h.c0
  · rw [hc _ _ (by omega) (by omega)]; exact h.c1
  · rw [hc _ _ (by omega) (by omega)]; exact h.c2
  · exact World.cell?_setCell_same _ _ _ ((World.cell?_of_block (a := ⟨w.heap.size + 1, 3, none⟩) (hal (w.heap.size + 1) (by omega))).trans h.c3)
  · rw [hf _ _ (by omega)]; exact h.fr j
  · refine ownsRow_setCell_below ?_ (a := ⟨w.heap.size + 1, 3, none⟩) (by show w.heap.size + 1 < _; omega) _
    rw [take_snoc hu]
    simpa using hown

set_option maxRecDepth 100000 in
set_option maxHeartbeats 4000000 in
theorem rdec_three (w : World) (B : Nat) (A : Option Addr) (n c : Nat) (zs : List Int) (hx : RI .u8 w B A n zs) (hB : B ≤ w.heap.size) (hz : Bd zs) (hn : n ≤ 1073741824) :
    Calls Tryd.prog 23 #[.int .u8 3, .slice A n c] w (RDecTold 3 zs w) := by
  obtain ⟨i0, hi, hz0, hz1, hz2⟩ := info_parts info33
  have HX := Lib.hid hx
  have HZ := Lib.hid hz
  have hlen := hx.len
  clear hx hz
  go_enter Tryd.func23, Tryd.ntmps23
  go_wp2
  go_loopw [7] (fun iv wr => ∃ (k : Nat) (v : Value), k ≤ n ∧ iv = .int .i64 k ∧ Hid (Kp w wr k v zs)) (fun iv _ => n - (intOf iv).toNat)
  case atStart =>
    have h2 := Two.new w 3 false false 26
    exact ⟨0, .slice none 0 0, Nat.zero_le _, rfl, ⟨h2.below, by rw [h2.size]; exact Nat.le_refl _, h2.d, h2.c0, h2.c1, h2.c2, h2.c3, h2.fr, World.ownsRow_nil _ _ _ _⟩⟩
  case round =>
    obtain ⟨k, v, hk, rfl, HK⟩ := hrel
    by_cases hlt : k < n
    · obtain ⟨ad, u, rfl, hbl, hu, hcell⟩ := HX.out.at_ hlt
      have hsz := HK.out.size
      have hcr : wr.cell? (ad.add k) = some (.int .u8 u) := (HK.out.below.cell (p := ad.add k) (by rw [block_of_add]; omega)).trans hcell
      obtain ⟨u0, u1⟩ := HZ.out u (List.mem_of_getElem? hu)
      have k0 : (0 : Int) ≤ (k : Int) := by omega
      have k1 : (k : Int) < (n : Int) := by omega
      have c3 := HK.out.c3
      have hwr : IntKind.i32.wrap u = u := wrap_i32_small u u0 (by omega)
      have hlt1 : w.heap.size + 1 < wr.heap.size := by omega
      have HU := Lib.hid hu
      clear hu hcell
      go_wp2_with fail
      go_region_law ((refine step_append_lies _ rfl (.tmp 26) (.tmp 32) 24 rfl (w.heap.size + 2) 35 i0 (.int .i32 0) 1 4 Tryd.underlying24 hi hz0 hz1 hz2 rfl (by decide) v k ((zs.take k).map (Value.int .i32)) (by simp [Act.eval]) ((HK.out.own.alloc _).drew) _ 1 1 [.int .i32 u] (by simp [Act.eval]) rfl (cell_one_new _ _ _) (by intro u hu; simp at hu; subst hu; rfl) (by decide) (by unfold maxLen; omega) (by omega) (by simp; omega) _ rfl ?_); intro g3 cap3 w3 hown' hgrow _ _; have q3 : w3.cell? ⟨w.heap.size + 1, 3, none⟩ = some v := ((hgrow.cell_far ⟨w.heap.size + 1, 3, none⟩ (by show w.heap.size + 1 < (wr.alloc (.cells #[.int .i32 u] 35)).heap.size; simp; omega) (HK.out.far (p := w.heap.size + 1) (by omega))).trans (World.cell?_alloc_lt wr _ _ (by show w.heap.size + 1 < wr.heap.size; omega))).trans c3; have qf : w3.frozen? ⟨w.heap.size + 1, 3, none⟩ = false := ((hgrow.frozen_far ⟨w.heap.size + 1, 3, none⟩ (by show w.heap.size + 1 < (wr.alloc (.cells #[.int .i32 u] 35)).heap.size; simp; omega) (HK.out.far (p := w.heap.size + 1) (by omega))).trans (World.frozen?_of_block (a := ⟨w.heap.size + 1, 3, none⟩) (Below.heap_alloc wr _ (w.heap.size + 1) (by omega)))).trans (HK.out.fr 3))
      all_goals
        have hkp := HK.out.more HU.out hown' hgrow
        have HKP := Lib.hid hkp
        clear hkp hown' hgrow q3 qf c3
        go_wp2
        go_roundw
        case rel => exact ⟨k + 1, _, by omega, by go_num, HKP.out⟩
        case measure => simp [intOf]; omega
    · have hkn : k = n := by omega
      subst hkn
      obtain ⟨hb, hsz, ⟨d0, d1, d2, d3, df⟩, c0, c1, c2, c3, _, own⟩ := HK.out
      rw [List.take_of_length_le (by omega)] at own
      obtain ⟨A2, cc2, rfl, h2c, h2m, _⟩ := own_slice2 own
      have f0 := df 0
      have f1 := df 1
      have f2 := df 2
      have f3 := df 3
      have HO := Lib.hid own
      clear own df HK
      go_wp2
      refine bodyPost_ret (v := .tuple #[.agg #[.int .u8 3, .bool false, .bool false, .slice A2 k cc2], .int .i64 0]) ?_ rfl ?_
      · simp [results, Tryd.results23, go_sem, *]
      · exact putDoc_rdec (base := w.heap.size + 2) (by omega) (by rw [cellsD_three]; exact HO.out) (by omega) (Nat.le_refl _) hb false false (bigB_three zs) (bomB_three zs) _ _ _ _
theorem rdec_any (k : Int) (hk : k = 1 ∨ k = 2 ∨ k = 3) (w : World) (B : Nat) (A : Option Addr) (n c : Nat) (zs : List Int) (hx : RI .u8 w B A n zs) (hB : B ≤ w.heap.size) (hz : Bd zs) (hnc : n ≤ c) (hn : n ≤ 1073741824) (hc : c ≤ maxLen) :
    Calls Tryd.prog 23 #[.int .u8 k, .slice A n c] w (RDecTold k zs w) := by
  rcases hk with rfl | rfl | rfl
  · exact rdec_one w B A n c zs hx hB hn
  · exact rdec_two w B A n c zs hx hB hz hnc hn hc
  · exact rdec_three w B A n c zs hx hB hz hn
end Go.Proofs.YtijlecfjgcohhaaDoor.C
