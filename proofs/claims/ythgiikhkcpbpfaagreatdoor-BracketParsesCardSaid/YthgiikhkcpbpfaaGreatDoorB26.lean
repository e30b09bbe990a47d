/-
  Joined: KpF. Each with what its own head says.
-/
import Derived.Test.YthgiikhkcpbpfaaGreatDoorB21
import Derived.Test.YthgiikhkcpbpfaaGreatDoorB22


namespace Go.Proofs.YthgiikhkcpbpfaaGreatDoor.C
open Go.RowKit
variable {F : Nat}
def alikeL (o : List Elm) (cs : List Int) : List (List Int) := match o[(placeV o cs).toNat]? with
 | some x => if placeV o cs < 0 then [cs] else (placesL o x.same).map (cellsJ o)
 | none => [cs]
theorem placesL_lt {o : List Elm} {s : Int} : ∀ x ∈ placesL o s, x < o.length := fun _ hx => List.mem_range.1 (List.mem_filter.1 hx).1
theorem placesL_len (o : List Elm) (s : Int) : (placesL o s).length ≤ o.length := by
 unfold placesL
 exact Nat.le_trans (List.length_filter_le _ _) (by rw [List.length_range]; exact Nat.le_refl _)
theorem placesL_mem {o : List Elm} {s : Int} {i : Nat} {x : Elm} (hx : o[i]? = some x) : i ∈ placesL o s ↔ x.same = s := by
 unfold placesL
 rw [List.mem_filter, List.mem_range, hx]
 have := (List.getElem?_eq_some_iff.1 hx).1
 simp [this]
set_option maxRecDepth 100000 in
set_option maxHeartbeats 8000000 in
theorem alike_any (w : World) (T : Nat) (L : Loc) (n : Int) (Bx : Nat) (Ax : Option Addr) (m cx : Nat) (cs : List Int) (h : TabG F w T L n) (h0 : 0 ≤ n) (h1 : n < 4611686018427387904) (hR : rightL L = true)
  (hx : RI .i32 w Bx Ax m cs) (hm : m ≤ 1073741824) (hBx : Bx ≤ w.heap.size) (hxT : 0 < m → ∀ ad, Ax = some ad → ad.block ≠ T) (hG : Gl w) (hgT : (5 : Nat) < T) :
  Calls Tryz.prog 67 #[.pointer (some ⟨T, 0, none⟩), .slice Ax m cx] w fun e w' => ∃ v, e = .returned v ∧ RowsAt w' w.heap.size v (alikeL L.ord cs) ∧ TabG F w' T L (n + 1) ∧ Fr w w' (· = T) := by
 have hc := count_any w T L n h h0 h1
 have HT0 : Hid (T < w.heap.size) := Lib.hid h.lt
 have HX := Lib.hid hx
 have HXT := Lib.hid hxT
 have HG := Lib.hid hG
 clear h hx hxT hG
 go_enter Tryz.func67, Tryz.ntmps67
 go_wp2_with fail
 refine hc.mono ?_
 rintro e w1 ⟨rfl, ht, hf⟩
 have hs1 := hf.size
 have hra := rankO_any w1 T L (n + 1) Bx Ax m cx cs ht hR (HX.out.fr hf hBx HXT.out) (by omega) HXT.out (((hf.belowT (Nat.le_of_lt HT0.out)).cell (p := ⟨5, 15, none⟩) hgT).trans HG.out) hgT
 have HF1 := Lib.hid hf
 clear hc ht hf
 go_wp2_with fail
 refine hra.mono ?_
 rintro e w2 ⟨rfl, ht, hf⟩
 have HT2 := Lib.hid ht
 have HF2 := Lib.hid (HF1.out.trans hf)
 have hs2 := HF2.out.size
 clear hra ht hf
 rcases place_is (o := L.ord) (cs := cs) with ⟨i, x, he, hcx, hp⟩ | ⟨hno, hp⟩
 ·have hal : alikeL L.ord cs = (placesL L.ord x.same).map (cellsJ L.ord) := by
   unfold alikeL
   rw [hp]
   simp only [Int.toNat_natCast, he]
   exact if_neg (by omega)
  have HAL := Lib.hid hal
  have hpl := placesAlike_any w2.drew T L (n + 1) i x HT2.out.drew hR he
  have HIN : Hid (i ∈ placesL L.ord x.same) := Lib.hid ((placesL_mem he).2 rfl)
  have hord := right_ord hR
  have h500 : L.ord.length ≤ 500 := by unfold ordB at hord; simp only [Bool.and_eq_true, decide_eq_true_eq] at hord; exact hord.1
  have HORD := Lib.hid hord
  have i0 : ¬ (i : Int) < 0 := by omega
  rw [hp]
  clear he hcx hp hal hord
  go_wp2
  refine wp_region_held (S := fun _ : World => True) (by kernel_rfl) ?_
  change wpAnyH _ _ _ _ _ _ _ _ w2.drew
  have hS1 : (fun _ : World => True) w2.drew := trivial
  iterate 7 (refine wpH rfl rfl ?_; try simp only [Act.put, g1, g2, g3, g4, g5, g6])
  refine wpAnyH_one (i := 7) (by kernel_rfl) rfl (fun K hK => ?_)
  simp only [g4, g5, g6]
  go_simp
  go_at_call 101
  refine hpl.mono ?_
  rintro e w3 ⟨v, rfl, ht, hf, ho⟩
  have hpos : 0 < (placesL L.ord x.same).length := List.length_pos_of_mem HIN.out
  obtain ⟨gb, cap, hv, hg1, hg2⟩ := ho.form hpos
  subst hv
  have hcells := fun (j : Nat) (y : Nat) (hy : (placesL L.ord x.same)[j]? = some y) => ho.cells (g := gb) rfl j (.int .i64 (y : Int)) (by rw [List.getElem?_map, hy]; rfl)
  have hva := values_any (some ⟨gb, 0, none⟩) (placesL L.ord x.same).length cap w3
  have HT3 := Lib.hid ht
  have HF3 := Lib.hid ((HF2.out.drew).trans hf)
  have HC3 := Lib.hid hcells
  clear hpl ht hf ho hcells hg1
  refine hK.out _ _ trivial (fun hS2 => ?_)
  try simp only [Act.put, g1, g2, g3, g4, g5, g6]
  refine wpAnyH_one (i := 8) (by kernel_rfl) rfl (fun K hK => ?_)
  simp only [g4, g5, g6]
  go_simp
  go_at_call 100
  refine hva.mono ?_
  rintro e w4 ⟨rfl, hw4⟩
  have hb4 : Below w3.heap.size w3 w4 := by rw [hw4]; exact (Below.refl _ _).alloc (Nat.le_refl _) _
  have hcs : w4.cell? ⟨w3.heap.size, 0, none⟩ = some (.slice (some ⟨gb, 0, none⟩) (placesL L.ord x.same).length cap) := by rw [hw4]; simp
  have hc4 : ∀ (j y : Nat), (placesL L.ord x.same)[j]? = some y → w4.cell? ((⟨gb, 0, none⟩ : Addr).add j) = some (.int .i64 (y : Int)) := fun j y hy => (hb4.cell (p := (⟨gb, 0, none⟩ : Addr).add j) (by rw [block_of_add]; exact hg2)).trans (HC3.out j y hy)
  have hs4 : w4.heap.size = w3.heap.size + 1 := by rw [hw4]; simp
  have ht4 := HT3.out.keep hb4
  obtain ⟨l, v1, v2, v3, v4, hr, _, _, hl1, _, _, _, hloc, _⟩ := id ht4
  have hle := placesL_len L.ord x.same
  have hca := cellsAt_any w4 T T v4 L.ord 144 #[.pointer (some ⟨w3.heap.size, 0, none⟩)] (placesL L.ord x.same) (hr.cell hl1) hloc.2.2.2.1 (Nat.le_of_lt hr.lt) (by omega) (fun e he => len4 HORD.out he)
   (fun args w => run_enter Tryz.func144 (by kernel_rfl) rfl args w)
   (fun W hW => vs_stops 4 L.ord.length (by omega) w3.heap.size (w4.heap.size + 1) ⟨gb, 0, none⟩ cap (placesL L.ord x.same) W placesL_lt (by omega) (belowS_cell hW hcs) (fun j y hy => belowS_cell hW (hc4 j y hy)) (by simp only; omega))
  have HT4 := Lib.hid ht4
  have HB4 := Lib.hid hb4
  clear hva hw4 hcs hc4 ht4 hr hl1 hloc hb4
  refine hK.out _ _ trivial (fun hS3 => ?_)
  try simp only [Act.put, g1, g2, g3, g4, g5, g6]
  refine wpAnyH_one (i := 9) (by kernel_rfl) rfl (fun K hK => ?_)
  simp only [g4, g5, g6]
  go_simp
  go_at_call 99
  refine hca.mono ?_
  rintro e w5 ⟨v, rfl, hrow, hb5⟩
  have HEND : Hid (RowsAt w5 w.heap.size v ((placesL L.ord x.same).map (cellsJ L.ord)) ∧ TabG F w5 T L (n + 1) ∧ Fr w w5 (· = T)) := Lib.hid ⟨hrow.low (by have := HF3.out.size; have := HB4.out.size; omega), HT4.out.keep hb5, (HF3.out.trans (.of_below HB4.out)).trans (.of_below hb5)⟩
  clear hca hrow hb5
  refine hK.out _ _ trivial (fun hS4 => ?_)
  try simp only [Act.put, g1, g2, g3, g4, g5, g6]
  refine wpH rfl rfl ?_; try simp only [Act.put, g1, g2, g3, g4, g5, g6]
  refine wpAnyH_done (by kernel_rfl) ?_ _
  clear hK
  go_wp2
  go_ret
  exact ⟨_, rfl, by rw [HAL.out]; exact HEND.out.1, HEND.out.2⟩
 ·have hal : alikeL L.ord cs = [cs] := by
   unfold alikeL
   rw [hp]
   split
   ·exact if_pos (by omega)
   ·rfl
  have HAL := Lib.hid hal
  have hcl := cloneC_any w2 Bx Ax m cx cs (HX.out.fr HF2.out hBx HXT.out) hm
  have hlc : cs.length = m := HX.out.len
  rw [hp]
  clear hno hp hal
  go_wp2_with fail
  refine hcl.mono ?_
  rintro e w3 ⟨v, rfl, ho, hb⟩
  obtain ⟨A3, c3, rfl⟩ := row_form ho
  obtain ⟨w4, hw4⟩ : ∃ w4, w4 = w3.alloc (.cells #[.slice A3 m c3] 39) := ⟨_, rfl⟩
  have hb4 : Below w3.heap.size w3 w4 := by rw [hw4]; exact (Below.refl _ _).alloc (Nat.le_refl _) _
  have HEND : Hid (RowsAt w4 w.heap.size (.slice (some ⟨w3.heap.size, 0, none⟩) 1 1) [cs] ∧ TabG F w4 T L (n + 1) ∧ Fr w w4 (· = T)) := Lib.hid ⟨⟨[.slice A3 m c3], rfl, ⟨rfl, .inr ⟨w3.heap.size, 1, #[.slice A3 m c3], rfl, by have := hb.size; omega, by rw [hw4]; exact heap_alloc_new w3 _, Nat.le_refl _, by unfold maxLen; omega, rfl, rfl⟩⟩, fun i r u hr hu => by
    rcases i with _ | i
    ·simp at hr hu
     subst hr hu
     rw [hlc]
     exact own_low (own_next ho hb4) hs2
    ·simp at hr⟩, (HT2.out.keep hb).keep hb4, (HF2.out.trans (.of_below hb)).trans (.of_below hb4)⟩
  clear hcl ho hb hb4
  subst hw4
  go_wp2
  go_ret
  exact ⟨_, rfl, by rw [HAL.out]; exact HEND.out.1, HEND.out.2⟩
end Go.Proofs.YthgiikhkcpbpfaaGreatDoor.C
