/-
  The walk of CodecEncodes: for all documents, choices, encodings and names it returns true; nothing that was there changes. Condition: the decoder's two tables stand as they were laid.
-/
import Derived.Test.YtijlecfjgcohhaaDoorCdcS
import Derived.Test.YtijlecfjgcohhaaDoorCdcH2
import Derived.Test.YtijlecfjgcohhaaDoorUtfL
namespace Go.Proofs.YtijlecfjgcohhaaDoor.C
open Go.RowKit

/-- a document's variable: four cells that may be written -/
structure Box (w : World) (b : Nat) (k : Int) (big bom : Bool) (v : Value) : Prop where
  c0 : w.cell? ⟨b, 0, none⟩ = some (.int .u8 k)
  c1 : w.cell? ⟨b, 1, none⟩ = some (.bool big)
  c2 : w.cell? ⟨b, 2, none⟩ = some (.bool bom)
  c3 : w.cell? ⟨b, 3, none⟩ = some v
  fr : ∀ j, w.frozen? ⟨b, j, none⟩ = false
theorem Box.new (w : World) (k : Int) (big bom : Bool) (v : Value) (t : TypeId) : Box (w.alloc (.cells #[.int .u8 k, .bool big, .bool bom, v] t)) w.heap.size k big bom v := by
  refine ⟨?_, ?_, ?_, ?_, fun j => ?_⟩
  · rw [World.cell?_alloc_new]; rfl
  · rw [World.cell?_alloc_new]; rfl
  · rw [World.cell?_alloc_new]; rfl
  · rw [World.cell?_alloc_new]; rfl
  · exact World.frozen?_alloc_at _ _ _ _ rfl
theorem Box.keep {w w' : World} {b : Nat} {k : Int} {big bom : Bool} {v : Value} (h : Box w b k big bom v) (hk : w'.heap[b]? = w.heap[b]?) : Box w' b k big bom v :=
  ⟨by rw [World.cell?_of_block (w := w) hk]; exact h.c0, by rw [World.cell?_of_block (w := w) hk]; exact h.c1, by rw [World.cell?_of_block (w := w) hk]; exact h.c2, by rw [World.cell?_of_block (w := w) hk]; exact h.c3, fun j => by rw [World.frozen?_of_block (w := w) hk]; exact h.fr j⟩
theorem Box.on {w w' : World} {B b : Nat} {k : Int} {big bom : Bool} {v : Value} (h : Box w b k big bom v) (hb : Below B w w') (hB : b < B) : Box w' b k big bom v := h.keep (hb.block b hB)

set_option maxRecDepth 100000 in
set_option maxHeartbeats 8000000 in
theorem codecEncodesWalk (k : Int) (bg bm : Bool) (a0 : Option Addr) (len0 cap0 : Nat) (z0 : List Int) (a1 : Option Addr) (len1 cap1 : Nat) (z1 : List Int) (e2 : Int) (big bom : Bool) (s : ByteArray) (w : World) (hT : Lib.Utf8Tabs 0 1 w) (w0 : L.IsRow .i32 w a0 len0 cap0 z0) (w1 : L.IsRow .u8 w a1 len1 cap1 z1) (we : (Lit.int .u8 e2).wf = true) (hss : s.size ≤ 140737488351232) :
    Calls Tryd.prog 6 #[.agg #[.int .u8 k, .bool bg, .bool bm, .slice a0 len0 cap0], .slice a1 len1 cap1, .int .u8 e2, .bool big, .bool bom, .string s] w fun e w' => e = .returned (.bool true) ∧ Below w.heap.size w w' := by
  obtain ⟨e20, e21⟩ := bounds_u8 we
  have hr0 := RI.of_row w0
  obtain ⟨_, hcm⟩ := row_len w0
  unfold maxLen at hcm
  generalize z0.take len0 = zs at *
  have hr1 := RI.of_row w1
  have hb1' : Bd (z1.take len1) := row_u8 w1
  have hlen1 := row_len w1
  generalize z1.take len1 = ys at *
  have HR0 := Lib.hid hr0
  have HR1 := Lib.hid hr1
  have HBB : Hid (∀ z ∈ ys, 0 ≤ z ∧ z ≤ 255) := hb1'
  obtain ⟨W, hW⟩ : ∃ W, W = w.alloc (.cells #[.int .u8 k, .bool bg, .bool bm, .slice a0 len0 cap0] 26) := ⟨_, rfl⟩
  have hbW : Below w.heap.size w W := by rw [hW]; exact (Below.refl _ w).alloc (Nat.le_refl _) _
  have hsW : W.heap.size = w.heap.size + 1 := by rw [hW]; simp
  have HBX : Hid (Box W w.heap.size k bg bm (.slice a0 len0 cap0)) := by rw [hW]; exact Box.new w _ _ _ _ _
  have HT := Lib.hid (tabs_below hT hbW)
  clear w0 w1 hr0 hr1 hb1' hT
  by_cases hbig : 200 < len0
  · have tb : ((200 : Int) < (len0 : Int)) := by omega
    go_enter Tryd.func6, Tryd.ntmps6
    go_wp2_with fail
    rw [← hW]
    clear hW
    with_reducible refine (known_any W HT.out).mono ?_
    rintro e w1 ⟨rfl, hb1⟩
    go_wp2
    go_ret
    exact ⟨rfl, hbW.trans (hb1.mono (by omega))⟩
  by_cases hbs : 100 < s.size
  · have tb : ((100 : Int) < (s.size : Int)) := by omega
    go_enter Tryd.func6, Tryd.ntmps6
    go_wp2_with fail
    rw [← hW]
    clear hW
    with_reducible refine (known_any W HT.out).mono ?_
    rintro e w1 ⟨rfl, hb1⟩
    go_wp2
    go_ret
    exact ⟨rfl, hbW.trans (hb1.mono (by omega))⟩
  go_enter Tryd.func6, Tryd.ntmps6
  go_wp2_with fail
  rw [← hW]
  clear hW
  with_reducible refine (known_any W HT.out).mono ?_
  rintro e w1 ⟨rfl, hb1⟩
  have hs1 := hb1.size
  have B1 : Below w.heap.size w w1 := hbW.trans (hb1.mono (by omega))
  go_wp2_with fail
  with_reducible refine (cells_any w1 w.heap.size a1 len1 cap1 ys (HR1.out.below B1) (by omega) (Nat.le_trans hlen1.1 hlen1.2) HBB.out).mono ?_
  rintro e w2 ⟨v2, rfl, hown2, hb2⟩
  obtain ⟨A2, c2, rfl, h2c, h2m, _⟩ := own_slice2 hown2
  have hl2 := cellsL_len ys
  generalize cellsL ys = xs at *
  generalize hn2 : xs.length = n2 at *
  have hs2 := hb2.size
  have B2 : Below w.heap.size w w2 := B1.trans (hb2.mono (by omega))
  have HO2 := Lib.hid hown2
  obtain ⟨V2, hV2⟩ : ∃ V, V = w2.alloc (.cells #[.int .u8 (e2 % 5), .bool big, .bool bom, .slice A2 n2 c2] 26) := ⟨_, rfl⟩
  have hbV2 : Below w2.heap.size w2 V2 := by rw [hV2]; exact (Below.refl _ _).alloc (Nat.le_refl _) _
  have hsV2 : V2.heap.size = w2.heap.size + 1 := by rw [hV2]; simp
  have HXB : Hid (Box V2 w2.heap.size (e2 % 5) big bom (.slice A2 n2 c2)) := by rw [hV2]; exact Box.new w2 _ _ _ _ _
  have BV2 : Below w.heap.size w V2 := B2.trans (hbV2.mono (by omega))
  have bxw2 := (HBX.out.on hb1 (by omega)).on hb2 (by omega)
  obtain ⟨x0, x1, x2, x3, _⟩ := bxw2
  have lx : w.heap.size < w2.heap.size := by omega
  clear hown2
  go_wp2_with fail
  rw [← hV2]
  clear hV2
  with_reducible refine (encodes_any V2 k w.heap.size a0 len0 cap0 zs bg bm (HR0.out.below BV2) (by omega) (by omega)).mono ?_
  rintro e w3 ⟨rfl, hb3⟩
  have hs3 := hb3.size
  have B3 : Below w.heap.size w w3 := BV2.trans (hb3.mono (by omega))
  have HB3 := Lib.hid ((((HBX.out.on hb1 (by omega)).on hb2 (by omega)).on hbV2 (by omega)).on hb3 (by omega))
  have HX3 := Lib.hid (HXB.out.on hb3 (by omega))
  have HO3 := Lib.hid (own_keep HO2.out (hbV2.trans (hb3.mono (by omega))))
  obtain ⟨y0, y1, y2, y3, _⟩ := HB3.out
  obtain ⟨_, _, _, z3, _⟩ := HX3.out
  clear x0 x1 x2 x3 lx
  go_wp2_with fail
  obtain ⟨A2', c2', hv2, _, _, hr3⟩ := own_slice2 HO3.out
  injection hv2 with q1 _ q2
  subst q1 q2
  with_reducible refine (with_own w3 k bg bm (.slice a0 len0 cap0) w3.heap.size A2 n2 c2 xs ⟨_, _, _, rfl⟩ hr3 (Nat.le_refl _) (by omega)).mono ?_
  rintro e w4 ⟨A4, c4, rfl, h4c, h4m, hown4, hb4⟩
  have hs4 := hb4.size
  have B4 : Below w.heap.size w w4 := B3.trans (hb4.mono (by omega))
  have HB4 := Lib.hid (HB3.out.on hb4 (by omega))
  have HX4 := Lib.hid (HX3.out.on hb4 (by omega))
  obtain ⟨t0, t1, t2, t3, tf⟩ := HB4.out
  obtain ⟨_, _, _, u3, _⟩ := HX4.out
  have tf3 := tf 3
  have l1 : w.heap.size < w4.heap.size := by omega
  have l2 : w2.heap.size < w4.heap.size := by omega
  have HO4 := Lib.hid hown4
  have HO4' := Lib.hid (own_keep HO3.out hb4)
  clear hown4 y0 y1 y2 y3 z3 tf hr3
  -- REGION 8
  go_wp2_with fail
  obtain ⟨V5, hV5⟩ : ∃ V, V = (w4.setCell ⟨w.heap.size, 3, none⟩ (.slice A2 n2 c2)).alloc (.cells #[.int .u8 k, .bool bg, .bool bm, .slice A4 n2 c4] 26) := ⟨_, rfl⟩
  have hV5s : V5.heap.size = w4.heap.size + 1 := by rw [hV5]; simp
  have hV5o : ∀ j, j < w4.heap.size → j ≠ w.heap.size → V5.heap[j]? = w4.heap[j]? := fun j hj hn => by
    rw [hV5, Below.heap_alloc _ _ _ (by simpa using hj), Below.heap_setCell _ _ _ _ hn]
  have BV5 : Below w.heap.size w V5 := by rw [hV5]; exact (B4.setCell (p := ⟨w.heap.size, 3, none⟩) (Nat.le_refl _) _).alloc (by simp; omega) _
  have HX5 := Lib.hid (HX4.out.keep (w' := V5) (hV5o _ l2 (by omega)))
  have ho2 : V5.ownsRow w1.heap.size 35 1 (.slice A2 n2 c2) n2 (xs.map (Value.int .i32)) := by rw [hV5]; exact (ownsRow_setCell_below HO4'.out (a := ⟨w.heap.size, 3, none⟩) (by show w.heap.size < _; omega) _).alloc _
  have ho4 : V5.ownsRow w3.heap.size 35 1 (.slice A4 n2 c4) n2 (xs.map (Value.int .i32)) := by rw [hV5]; exact (ownsRow_setCell_below HO4.out (a := ⟨w.heap.size, 3, none⟩) (by show w.heap.size < _; omega) _).alloc _
  obtain ⟨_, _, hv2, _, _, r2⟩ := own_slice2 ho2
  injection hv2 with q1 _ q2
  subst q1 q2
  obtain ⟨_, _, hv4, _, _, r4⟩ := own_slice2 ho4
  injection hv4 with q1 _ q2
  subst q1 q2
  rw [← hV5]
  clear hV5
  with_reducible refine (docSame_yes V5 k bg bm V5.heap.size V5.heap.size A4 A2 n2 c4 n2 c2 xs r4 r2 (Nat.le_refl _) (Nat.le_refl _) (by omega) (by omega)).mono ?_
  rintro e w6 ⟨rfl, hb6⟩
  have hs6 := hb6.size
  have B6 : Below w.heap.size w w6 := BV5.trans (hb6.mono (by omega))
  obtain ⟨d0, d1, d2, d3, _⟩ := HX5.out.on hb6 (by omega)
  have HRX := Lib.hid (r2.on hb6 (Nat.le_refl _))
  obtain ⟨T, hTT⟩ : ∃ T, (#[.string ⟨#[117, 116, 102, 45, 56]⟩, .string ⟨#[117, 116, 102, 45, 49, 54]⟩, .string ⟨#[108, 97, 116, 105, 110, 49]⟩, .string ⟨#[]⟩] : Array Value)[(e2 % 4).toNat]? = some (.string T) := by
    rcases (show (e2 % 4).toNat = 0 ∨ (e2 % 4).toNat = 1 ∨ (e2 % 4).toNat = 2 ∨ (e2 % 4).toNat = 3 by omega) with h | h | h | h <;> (rw [h]; exact ⟨_, rfl⟩)
  have m0 : (0 : Int) ≤ e2 % 4 := by omega
  have m4 : e2 % 4 < 4 := by omega
  have keepS0 : ∀ {B : Nat} {x y : World}, Below B x y → w2.heap.size < B → (fun x : World => (x.cell? ⟨w2.heap.size, 0, none⟩ = some (.int .u8 (e2 % 5)) ∧ x.cell? ⟨w2.heap.size, 1, none⟩ = some (.bool big) ∧ x.cell? ⟨w2.heap.size, 2, none⟩ = some (.bool bom) ∧ x.cell? ⟨w2.heap.size, 3, none⟩ = some (.slice A2 n2 c2))) x → (fun x : World => (x.cell? ⟨w2.heap.size, 0, none⟩ = some (.int .u8 (e2 % 5)) ∧ x.cell? ⟨w2.heap.size, 1, none⟩ = some (.bool big) ∧ x.cell? ⟨w2.heap.size, 2, none⟩ = some (.bool bom) ∧ x.cell? ⟨w2.heap.size, 3, none⟩ = some (.slice A2 n2 c2))) y := fun hb h hx =>
    ⟨(hb.cell (p := ⟨w2.heap.size, 0, none⟩) h).trans hx.1, (hb.cell (p := ⟨w2.heap.size, 1, none⟩) h).trans hx.2.1, (hb.cell (p := ⟨w2.heap.size, 2, none⟩) h).trans hx.2.2.1, (hb.cell (p := ⟨w2.heap.size, 3, none⟩) h).trans hx.2.2.2⟩
  have keepS1 : ∀ {B b : Nat} {x y : World}, Below B x y → w2.heap.size < B → b < B → ((x.cell? ⟨w2.heap.size, 0, none⟩ = some (.int .u8 (e2 % 5)) ∧ x.cell? ⟨w2.heap.size, 1, none⟩ = some (.bool big) ∧ x.cell? ⟨w2.heap.size, 2, none⟩ = some (.bool bom) ∧ x.cell? ⟨w2.heap.size, 3, none⟩ = some (.slice A2 n2 c2)) ∧ x.cell? ⟨b, (e2 % 4).toNat, none⟩ = some (.string T)) → ((y.cell? ⟨w2.heap.size, 0, none⟩ = some (.int .u8 (e2 % 5)) ∧ y.cell? ⟨w2.heap.size, 1, none⟩ = some (.bool big) ∧ y.cell? ⟨w2.heap.size, 2, none⟩ = some (.bool bom) ∧ y.cell? ⟨w2.heap.size, 3, none⟩ = some (.slice A2 n2 c2)) ∧ y.cell? ⟨b, (e2 % 4).toNat, none⟩ = some (.string T)) := fun {B b x y} hb h h' hx =>
    ⟨keepS0 hb h hx.1, (hb.cell (p := ⟨b, (e2 % 4).toNat, none⟩) h').trans hx.2⟩
  have keepS2 : ∀ {B b b' : Nat} {x y : World}, Below B x y → w2.heap.size < B → b < B → b' < B → ((x.cell? ⟨w2.heap.size, 0, none⟩ = some (.int .u8 (e2 % 5)) ∧ x.cell? ⟨w2.heap.size, 1, none⟩ = some (.bool big) ∧ x.cell? ⟨w2.heap.size, 2, none⟩ = some (.bool bom) ∧ x.cell? ⟨w2.heap.size, 3, none⟩ = some (.slice A2 n2 c2)) ∧ x.cell? ⟨b, (e2 % 4).toNat, none⟩ = some (.string T) ∧ x.cell? ⟨b', (e2 % 4).toNat, none⟩ = some (.string T)) → ((y.cell? ⟨w2.heap.size, 0, none⟩ = some (.int .u8 (e2 % 5)) ∧ y.cell? ⟨w2.heap.size, 1, none⟩ = some (.bool big) ∧ y.cell? ⟨w2.heap.size, 2, none⟩ = some (.bool bom) ∧ y.cell? ⟨w2.heap.size, 3, none⟩ = some (.slice A2 n2 c2)) ∧ y.cell? ⟨b, (e2 % 4).toNat, none⟩ = some (.string T) ∧ y.cell? ⟨b', (e2 % 4).toNat, none⟩ = some (.string T)) := fun {B b b' x y} hb h h' h'' hx =>
    ⟨keepS0 hb h hx.1, (hb.cell (p := ⟨b, (e2 % 4).toNat, none⟩) h').trans hx.2.1, (hb.cell (p := ⟨b', (e2 % 4).toNat, none⟩) h'').trans hx.2.2⟩
  have lw : w2.heap.size < w6.heap.size := by omega
  have HRD : Hid (RI .i32 w6.drew V5.heap.size A2 n2 xs) := HRX.out.drew
  have hB6 : V5.heap.size ≤ w6.drew.heap.size := hs6
  have htm : e2.tmod 4 = e2 % 4 := Int.tmod_eq_emod_of_nonneg e20
  clear ho2 ho4 r2 r4 t0 t1 t2 t3 tf3 u3
  go_wp2_with fail
  refine wp_region_held_drew (S := (fun x : World => (x.cell? ⟨w2.heap.size, 0, none⟩ = some (.int .u8 (e2 % 5)) ∧ x.cell? ⟨w2.heap.size, 1, none⟩ = some (.bool big) ∧ x.cell? ⟨w2.heap.size, 2, none⟩ = some (.bool bom) ∧ x.cell? ⟨w2.heap.size, 3, none⟩ = some (.slice A2 n2 c2)))) (by kernel_rfl) ⟨d0, d1, d2, d3⟩ (fun hHeld => ?_)
  clear d0 d1 d2 d3
  refine wpAnyH_take (i := 0) (oi := ?oi0z) (v := ?v0z) ?hi0z (by kernel_rfl) (by kernel_rfl) (by kernel_rfl) ?hq0z (Or.inl ⟨?hw0z, ?hy0z⟩) (by assumption) ?rest0z
  case hi0z => exact rfl
  case hq0z => exact fun _ _ _ h => h
  case hw0z => rfl
  case hy0z => (intro x hx; (try dsimp only at hx); simp only [List.getElem_toArray, List.getElem_cons_zero]; go_simp; try with_reducible rfl)
  try simp only [Act.put, List.setIfInBounds_toArray, List.set_cons_zero, List.set_cons_succ, List.getElem_toArray, List.getElem_cons_zero]
  refine wpAnyH_take (i := 1) (oi := ?oi1z) (v := ?v1z) ?hi1z (by kernel_rfl) (by kernel_rfl) (by kernel_rfl) ?hq1z (Or.inl ⟨?hw1z, ?hy1z⟩) (by assumption) ?rest1z
  case hi1z => exact rfl
  case hq1z => exact fun _ _ _ h => h
  case hw1z => rfl
  case hy1z => (intro x hx; (try dsimp only at hx); simp only [List.getElem_toArray, List.getElem_cons_succ, List.getElem_cons_zero]; go_simp; try with_reducible rfl)
  try simp only [Act.put, List.setIfInBounds_toArray, List.set_cons_zero, List.set_cons_succ, List.getElem_toArray, List.getElem_cons_succ, List.getElem_cons_zero]
  refine wpAnyH_take (i := 2) (oi := ?oi2z) (v := ?v2z) ?hi2z (by kernel_rfl) (by kernel_rfl) (by kernel_rfl) ?hq2z (Or.inl ⟨?hw2z, ?hy2z⟩) (by assumption) ?rest2z
  case hi2z => exact rfl
  case hq2z => exact fun _ _ _ h => h
  case hw2z => rfl
  case hy2z => (intro x hx; (try dsimp only at hx); simp only [List.getElem_toArray, List.getElem_cons_succ, List.getElem_cons_zero]; go_simp; try with_reducible rfl)
  try simp only [Act.put, List.setIfInBounds_toArray, List.set_cons_zero, List.set_cons_succ, List.getElem_toArray, List.getElem_cons_succ, List.getElem_cons_zero]
  refine wpAnyH_take (i := 3) (oi := ?oi3z) (v := ?v3z) ?hi3z (by kernel_rfl) (by kernel_rfl) (by kernel_rfl) ?hq3z (Or.inl ⟨?hw3z, ?hy3z⟩) (by assumption) ?rest3z
  case hi3z => exact rfl
  case hq3z => exact fun _ _ _ h => h
  case hw3z => rfl
  case hy3z => (intro x hx; (try dsimp only at hx); simp only [List.getElem_toArray, List.getElem_cons_succ, List.getElem_cons_zero]; go_simp; try with_reducible rfl)
  try simp only [Act.put, List.setIfInBounds_toArray, List.set_cons_zero, List.set_cons_succ, List.getElem_toArray, List.getElem_cons_succ, List.getElem_cons_zero]
  refine wpAnyH_take (i := 4) (oi := ?oi4z) (v := ?v4z) ?hi4z (by kernel_rfl) (by kernel_rfl) (by kernel_rfl) ?hq4z (Or.inl ⟨?hw4z, ?hy4z⟩) (by assumption) ?rest4z
  case hi4z => exact rfl
  case hq4z => exact fun _ _ _ h => h
  case hw4z => rfl
  case hy4z => (intro x hx; (try dsimp only at hx); simp only [List.getElem_toArray, List.getElem_cons_succ, List.getElem_cons_zero]; go_simp; try with_reducible rfl)
  try simp only [Act.put, List.setIfInBounds_toArray, List.set_cons_zero, List.set_cons_succ, List.getElem_toArray, List.getElem_cons_succ, List.getElem_cons_zero]
  refine wpAnyH_take (i := 5) (oi := ?oi5z) (v := ?v5z) ?hi5z (by kernel_rfl) (by kernel_rfl) (by kernel_rfl) ?hq5z (Or.inl ⟨?hw5z, ?hy5z⟩) (by assumption) ?rest5z
  case hi5z => exact rfl
  case hq5z => exact fun _ _ _ h => h
  case hw5z => rfl
  case hy5z => (intro x hx; (try dsimp only at hx); simp only [List.getElem_toArray, List.getElem_cons_succ, List.getElem_cons_zero]; go_simp; try with_reducible rfl)
  try simp only [Act.put, List.setIfInBounds_toArray, List.set_cons_zero, List.set_cons_succ, List.getElem_toArray, List.getElem_cons_succ, List.getElem_cons_zero]
  refine wpAnyH_ready (rs := [6]) (by kernel_rfl) (by simp) ?_
  refine AllReadyH.cons (o := ?oc6z) ?ho6z (fun K hK => ?_) AllReadyH.nil
  case ho6z => exact rfl
  rw [if_pos (by rfl)]
  go_simp
  with_reducible refine (encodes_any w6.drew (e2 % 5) V5.heap.size A2 n2 c2 xs big bom HRD.out hB6 (by omega)).mono ?_
  rintro e w7 ⟨rfl, hb7⟩
  have BB_w7 : Below w6.heap.size w6 w7 := below_undrew hb7
  have hs_w7 := BB_w7.size
  have HS_w7 : (fun x : World => (x.cell? ⟨w2.heap.size, 0, none⟩ = some (.int .u8 (e2 % 5)) ∧ x.cell? ⟨w2.heap.size, 1, none⟩ = some (.bool big) ∧ x.cell? ⟨w2.heap.size, 2, none⟩ = some (.bool bom) ∧ x.cell? ⟨w2.heap.size, 3, none⟩ = some (.slice A2 n2 c2))) w7 := keepS0 BB_w7 lw hHeld
  refine hK.out _ _ HS_w7 (fun _ => ?_)
  clear hK K hHeld
  try simp only [Act.put, List.setIfInBounds_toArray, List.set_cons_zero, List.set_cons_succ]
  refine wpAnyH_take (i := 7) (oi := ?oi7z) (v := ?v7z) ?hi7z (by kernel_rfl) (by kernel_rfl) (by kernel_rfl) ?hq7z (Or.inl ⟨?hw7z, ?hy7z⟩) (by assumption) ?rest7z
  case hi7z => exact rfl
  case hq7z => exact fun _ _ _ h => h
  case hw7z => rfl
  case hy7z => (intro x hx; (try dsimp only at hx); simp only [List.getElem_toArray, List.getElem_cons_succ, List.getElem_cons_zero]; go_simp; try with_reducible rfl)
  try simp only [Act.put, List.setIfInBounds_toArray, List.set_cons_zero, List.set_cons_succ, List.getElem_toArray, List.getElem_cons_succ, List.getElem_cons_zero]
  refine wpAnyH_take (i := 8) (oi := ?oi8z) (v := ?v8z) ?hi8z (by kernel_rfl) (by kernel_rfl) (by kernel_rfl) ?hq8z (Or.inl ⟨?hw8z, ?hy8z⟩) (by assumption) ?rest8z
  case hi8z => exact rfl
  case hq8z => exact fun _ _ _ h => h
  case hw8z => rfl
  case hy8z => (intro x hx; (try dsimp only at hx); simp only [List.getElem_toArray, List.getElem_cons_succ, List.getElem_cons_zero]; go_simp; try with_reducible rfl)
  try simp only [Act.put, List.setIfInBounds_toArray, List.set_cons_zero, List.set_cons_succ, List.getElem_toArray, List.getElem_cons_succ, List.getElem_cons_zero]
  refine wpAnyH_take (i := 9) (oi := ?oi9z) (v := ?v9z) ?hi9z (by kernel_rfl) (by kernel_rfl) (by kernel_rfl) ?hq9z (Or.inl ⟨?hw9z, ?hy9z⟩) (by assumption) ?rest9z
  case hi9z => exact rfl
  case hq9z => exact fun _ _ _ h => h
  case hw9z => rfl
  case hy9z => (intro x hx; (try dsimp only at hx); simp only [List.getElem_toArray, List.getElem_cons_succ, List.getElem_cons_zero]; go_simp; try with_reducible rfl)
  try simp only [Act.put, List.setIfInBounds_toArray, List.set_cons_zero, List.set_cons_succ, List.getElem_toArray, List.getElem_cons_succ, List.getElem_cons_zero]
  refine wpAnyH_take (i := 11) (oi := ?oi11z) (v := ?v11z) ?hi11z (by kernel_rfl) (by kernel_rfl) (by kernel_rfl) ?hq11z (Or.inl ⟨?hw11z, ?hy11z⟩) (by assumption) ?rest11z
  case hi11z => exact rfl
  case hq11z => exact fun _ _ _ h => h
  case hw11z => rfl
  case hy11z => (intro x hx; (try dsimp only at hx); simp only [List.getElem_toArray, List.getElem_cons_succ, List.getElem_cons_zero]; go_simp; try with_reducible rfl)
  try simp only [Act.put, List.setIfInBounds_toArray, List.set_cons_zero, List.set_cons_succ, List.getElem_toArray, List.getElem_cons_succ, List.getElem_cons_zero]
  refine wpAnyH_ready (rs := [10]) (by kernel_rfl) (by simp) ?_
  refine AllReadyH.cons (o := ?oc10z) ?ho10z (fun K hK => ?_) AllReadyH.nil
  case ho10z => exact rfl
  rw [if_pos (by rfl)]
  go_simp
  with_reducible refine (named_any s w7).mono ?_
  rintro e w8 ⟨rfl, hb_w8⟩
  have hs_w8 := hb_w8.size
  have BB_w8 : Below w6.heap.size w6 w8 := BB_w7.trans (hb_w8.mono (by omega))
  have HS_w8 : (fun x : World => (x.cell? ⟨w2.heap.size, 0, none⟩ = some (.int .u8 (e2 % 5)) ∧ x.cell? ⟨w2.heap.size, 1, none⟩ = some (.bool big) ∧ x.cell? ⟨w2.heap.size, 2, none⟩ = some (.bool bom) ∧ x.cell? ⟨w2.heap.size, 3, none⟩ = some (.slice A2 n2 c2))) w8 := keepS0 hb_w8 (by omega) HS_w7
  refine hK.out _ _ HS_w8 (fun _ => ?_)
  clear hK K
  try simp only [Act.put, List.setIfInBounds_toArray, List.set_cons_zero, List.set_cons_succ]
  refine wpAnyH_ready (rs := [12]) (by kernel_rfl) (by simp) ?_
  refine AllReadyH.cons (o := ?oc12z) ?ho12z (fun K hK => ?_) AllReadyH.nil
  case ho12z => exact rfl
  rw [if_pos (by rfl)]
  go_simp
  with_reducible refine (refNamed_any s w8).mono ?_
  rintro e wq ⟨rfl, rfl⟩
  refine hK.out _ _ HS_w8 (fun _ => ?_)
  clear hK K
  try simp only [Act.put, List.setIfInBounds_toArray, List.set_cons_zero, List.set_cons_succ]
  refine wpAnyH_take (i := 13) (oi := ?oi13z) (v := ?v13z) ?hi13z (by kernel_rfl) (by kernel_rfl) (by kernel_rfl) ?hq13z (Or.inl ⟨?hw13z, ?hy13z⟩) (by assumption) ?rest13z
  case hi13z => exact rfl
  case hq13z => exact fun _ _ _ h => h
  case hw13z => rfl
  case hy13z => (intro x hx; (try dsimp only at hx); simp only [List.getElem_toArray, List.getElem_cons_succ, List.getElem_cons_zero]; go_simp; try with_reducible rfl)
  try simp only [Act.put, List.setIfInBounds_toArray, List.set_cons_zero, List.set_cons_succ, List.getElem_toArray, List.getElem_cons_succ, List.getElem_cons_zero]
  refine wpAnyH_take (i := 14) (oi := ?oi14z) (v := ?v14z) ?hi14z (by kernel_rfl) (by kernel_rfl) (by kernel_rfl) ?hq14z (Or.inl ⟨?hw14z, ?hy14z⟩) (by assumption) ?rest14z
  case hi14z => exact rfl
  case hq14z => exact fun _ _ _ h => h
  case hw14z => rfl
  case hy14z => (intro x hx; (try dsimp only at hx); simp only [List.getElem_toArray, List.getElem_cons_succ, List.getElem_cons_zero]; go_simp; try with_reducible rfl)
  try simp only [Act.put, List.setIfInBounds_toArray, List.set_cons_zero, List.set_cons_succ, List.getElem_toArray, List.getElem_cons_succ, List.getElem_cons_zero]
  refine wpAnyH_take (i := 15) (oi := ?oi15z) (v := ?v15z) ?hi15z (by kernel_rfl) (by kernel_rfl) (by kernel_rfl) ?hq15z (Or.inl ⟨?hw15z, ?hy15z⟩) (by assumption) ?rest15z
  case hi15z => exact rfl
  case hq15z => exact fun _ _ _ h => h
  case hw15z => rfl
  case hy15z => (intro x hx; (try dsimp only at hx); simp only [List.getElem_toArray, List.getElem_cons_succ, List.getElem_cons_zero]; go_simp; try with_reducible rfl)
  try simp only [Act.put, List.setIfInBounds_toArray, List.set_cons_zero, List.set_cons_succ, List.getElem_toArray, List.getElem_cons_succ, List.getElem_cons_zero]
  refine wpAnyH_take (i := 17) (oi := ?oi17z) (v := ?v17z) ?hi17z (by kernel_rfl) (by kernel_rfl) (by kernel_rfl) ?hq17z (Or.inl ⟨?hw17z, ?hy17z⟩) (by assumption) ?rest17z
  case hi17z => exact rfl
  case hq17z => exact fun _ _ _ h => h
  case hw17z => rfl
  case hy17z => (intro x hx; (try dsimp only at hx); simp only [List.getElem_toArray, List.getElem_cons_succ, List.getElem_cons_zero]; go_simp; try with_reducible rfl)
  try simp only [Act.put, List.setIfInBounds_toArray, List.set_cons_zero, List.set_cons_succ, List.getElem_toArray, List.getElem_cons_succ, List.getElem_cons_zero]
  refine wpAnyH_take (i := 18) (oi := ?oi18z) (v := ?v18z) ?hi18z (by kernel_rfl) (by kernel_rfl) (by kernel_rfl) ?hq18z (Or.inl ⟨?hw18z, ?hy18z⟩) (by assumption) ?rest18z
  case hi18z => exact rfl
  case hq18z => exact fun _ _ _ h => h
  case hw18z => rfl
  case hy18z => (intro x hx; (try dsimp only at hx); simp only [List.getElem_toArray, List.getElem_cons_succ, List.getElem_cons_zero]; go_simp; try with_reducible rfl)
  try simp only [Act.put, List.setIfInBounds_toArray, List.set_cons_zero, List.set_cons_succ, List.getElem_toArray, List.getElem_cons_succ, List.getElem_cons_zero]
  refine wpAnyH_take (i := 23) (oi := ?oi23z) (v := ?v23z) ?hi23z (by kernel_rfl) (by kernel_rfl) (by kernel_rfl) ?hq23z (Or.inl ⟨?hw23z, ?hy23z⟩) (by assumption) ?rest23z
  case hi23z => exact rfl
  case hq23z => exact fun _ _ _ h => h
  case hw23z => rfl
  case hy23z => (intro x hx; (try dsimp only at hx); simp only [List.getElem_toArray, List.getElem_cons_succ, List.getElem_cons_zero]; go_simp; try with_reducible rfl)
  try simp only [Act.put, List.setIfInBounds_toArray, List.set_cons_zero, List.set_cons_succ, List.getElem_toArray, List.getElem_cons_succ, List.getElem_cons_zero]
  refine wpAnyH_take (i := 24) (oi := ?oi24z) (v := ?v24z) ?hi24z (by kernel_rfl) (by kernel_rfl) (by kernel_rfl) ?hq24z (Or.inl ⟨?hw24z, ?hy24z⟩) (by assumption) ?rest24z
  case hi24z => exact rfl
  case hq24z => exact fun _ _ _ h => h
  case hw24z => rfl
  case hy24z => (intro x hx; (try dsimp only at hx); simp only [List.getElem_toArray, List.getElem_cons_succ, List.getElem_cons_zero]; go_simp; try with_reducible rfl)
  try simp only [Act.put, List.setIfInBounds_toArray, List.set_cons_zero, List.set_cons_succ, List.getElem_toArray, List.getElem_cons_succ, List.getElem_cons_zero]
  refine wpAnyH_ready (rs := [16, 22]) (by kernel_rfl) (by simp) ?_
  refine AllReadyH.cons (o := ?oa16z) ?hoa16z (fun K hK => ?ga16z) (AllReadyH.cons (o := ?ob16z) ?hob16z (fun K hK => ?gb16z) AllReadyH.nil)
  case hoa16z => exact rfl
  case hob16z => exact rfl
  case ga16z =>
    rw [if_pos (by rfl)]
    go_simp
    obtain ⟨w9, hw_w9⟩ : ∃ y, y = w8.alloc (.cells #[.string ⟨#[117, 116, 102, 45, 56]⟩, .string ⟨#[117, 116, 102, 45, 49, 54]⟩, .string ⟨#[108, 97, 116, 105, 110, 49]⟩, .string ⟨#[]⟩] 9) := ⟨_, rfl⟩
    have hb_w9 : Below w8.heap.size w8 w9 := by rw [hw_w9]; exact (Below.refl _ _).alloc (Nat.le_refl _) _
    have hs_w9 : w8.heap.size < w9.heap.size := by rw [hw_w9]; simp
    have BB_w9 : Below w6.heap.size w6 w9 := BB_w8.trans (hb_w9.mono (by omega))
    have hn_w9 : w9.cell? ⟨w8.heap.size, (e2 % 4).toNat, none⟩ = some (.string T) := by rw [hw_w9]; exact (World.cell?_alloc_new _ _ _ _).trans hTT
    have HT_w9 : (fun x : World => (x.cell? ⟨w2.heap.size, 0, none⟩ = some (.int .u8 (e2 % 5)) ∧ x.cell? ⟨w2.heap.size, 1, none⟩ = some (.bool big) ∧ x.cell? ⟨w2.heap.size, 2, none⟩ = some (.bool bom) ∧ x.cell? ⟨w2.heap.size, 3, none⟩ = some (.slice A2 n2 c2))) w9 := keepS0 hb_w9 (by omega) HS_w8
    have HS_w9 : (fun x : World => (x.cell? ⟨w2.heap.size, 0, none⟩ = some (.int .u8 (e2 % 5)) ∧ x.cell? ⟨w2.heap.size, 1, none⟩ = some (.bool big) ∧ x.cell? ⟨w2.heap.size, 2, none⟩ = some (.bool bom) ∧ x.cell? ⟨w2.heap.size, 3, none⟩ = some (.slice A2 n2 c2)) ∧ x.cell? ⟨w8.heap.size, (e2 % 4).toNat, none⟩ = some (.string T)) w9 := ⟨HT_w9, hn_w9⟩
    rw [← hw_w9]
    clear hw_w9
    refine hK.out _ _ HT_w9 (fun _ => ?_)
    clear hK K
    try simp only [Act.put, List.setIfInBounds_toArray, List.set_cons_zero, List.set_cons_succ]
    refine wpAnyH_weaken (S' := (fun x : World => (x.cell? ⟨w2.heap.size, 0, none⟩ = some (.int .u8 (e2 % 5)) ∧ x.cell? ⟨w2.heap.size, 1, none⟩ = some (.bool big) ∧ x.cell? ⟨w2.heap.size, 2, none⟩ = some (.bool bom) ∧ x.cell? ⟨w2.heap.size, 3, none⟩ = some (.slice A2 n2 c2)) ∧ x.cell? ⟨w8.heap.size, (e2 % 4).toNat, none⟩ = some (.string T))) (fun x hx => hx.1) _ _ _ _ ?_
    refine wpAnyH_take (i := 19) (oi := ?oi19a) (v := ?v19a) ?hi19a (by kernel_rfl) (by kernel_rfl) (by kernel_rfl) ?hq19a (Or.inl ⟨?hw19a, ?hy19a⟩) (by assumption) ?rest19a
    case hi19a => exact rfl
    case hq19a => exact fun _ _ _ h => h
    case hw19a => rfl
    case hy19a => (intro x hx; (try dsimp only at hx); simp only [List.getElem_toArray, List.getElem_cons_succ, List.getElem_cons_zero]; go_simp; try with_reducible rfl)
    try simp only [Act.put, List.setIfInBounds_toArray, List.set_cons_zero, List.set_cons_succ, List.getElem_toArray, List.getElem_cons_succ, List.getElem_cons_zero]
    refine wpAnyH_take (i := 20) (oi := ?oi20a) (v := ?v20a) ?hi20a (by kernel_rfl) (by kernel_rfl) (by kernel_rfl) ?hq20a (Or.inl ⟨?hw20a, ?hy20a⟩) (by assumption) ?rest20a
    case hi20a => exact rfl
    case hq20a => exact fun _ _ _ h => h
    case hw20a => rfl
    case hy20a => (intro x hx; (try dsimp only at hx); simp only [List.getElem_toArray, List.getElem_cons_succ, List.getElem_cons_zero]; go_simp; try with_reducible rfl)
    try simp only [Act.put, List.setIfInBounds_toArray, List.set_cons_zero, List.set_cons_succ, List.getElem_toArray, List.getElem_cons_succ, List.getElem_cons_zero]
    refine wpAnyH_ready (rs := [21, 22]) (by kernel_rfl) (by simp) ?_
    refine AllReadyH.cons (o := ?oa21a) ?hoa21a (fun K hK => ?ga21a) (AllReadyH.cons (o := ?ob21a) ?hob21a (fun K hK => ?gb21a) AllReadyH.nil)
    case hoa21a => exact rfl
    case hob21a => exact rfl
    case ga21a =>
      rw [if_pos (by rfl)]
      go_simp
      with_reducible refine (named_any T w9).mono ?_
      rintro e w10 ⟨rfl, hb_w10⟩
      have hs_w10 := hb_w10.size
      have BB_w10 : Below w6.heap.size w6 w10 := BB_w9.trans (hb_w10.mono (by omega))
      have HS_w10 : (fun x : World => (x.cell? ⟨w2.heap.size, 0, none⟩ = some (.int .u8 (e2 % 5)) ∧ x.cell? ⟨w2.heap.size, 1, none⟩ = some (.bool big) ∧ x.cell? ⟨w2.heap.size, 2, none⟩ = some (.bool bom) ∧ x.cell? ⟨w2.heap.size, 3, none⟩ = some (.slice A2 n2 c2)) ∧ x.cell? ⟨w8.heap.size, (e2 % 4).toNat, none⟩ = some (.string T)) w10 := keepS1 hb_w10 (by omega) (by omega) HS_w9
      refine hK.out _ _ HS_w10 (fun _ => ?_)
      clear hK K
      try simp only [Act.put, List.setIfInBounds_toArray, List.set_cons_zero, List.set_cons_succ]
      refine wpAnyH_ready (rs := [22]) (by kernel_rfl) (by simp) ?_
      refine AllReadyH.cons (o := ?oc22a1) ?ho22a1 (fun K hK => ?_) AllReadyH.nil
      case ho22a1 => exact rfl
      rw [if_pos (by rfl)]
      go_simp
      obtain ⟨w11, hw_w11⟩ : ∃ y, y = w10.alloc (.cells #[.string ⟨#[117, 116, 102, 45, 56]⟩, .string ⟨#[117, 116, 102, 45, 49, 54]⟩, .string ⟨#[108, 97, 116, 105, 110, 49]⟩, .string ⟨#[]⟩] 9) := ⟨_, rfl⟩
      have hb_w11 : Below w10.heap.size w10 w11 := by rw [hw_w11]; exact (Below.refl _ _).alloc (Nat.le_refl _) _
      have hs_w11 : w10.heap.size < w11.heap.size := by rw [hw_w11]; simp
      have BB_w11 : Below w6.heap.size w6 w11 := BB_w10.trans (hb_w11.mono (by omega))
      have hn_w11 : w11.cell? ⟨w10.heap.size, (e2 % 4).toNat, none⟩ = some (.string T) := by rw [hw_w11]; exact (World.cell?_alloc_new _ _ _ _).trans hTT
      have HT_w11 : (fun x : World => (x.cell? ⟨w2.heap.size, 0, none⟩ = some (.int .u8 (e2 % 5)) ∧ x.cell? ⟨w2.heap.size, 1, none⟩ = some (.bool big) ∧ x.cell? ⟨w2.heap.size, 2, none⟩ = some (.bool bom) ∧ x.cell? ⟨w2.heap.size, 3, none⟩ = some (.slice A2 n2 c2)) ∧ x.cell? ⟨w8.heap.size, (e2 % 4).toNat, none⟩ = some (.string T)) w11 := keepS1 hb_w11 (by omega) (by omega) HS_w10
      have HS_w11 : (fun x : World => (x.cell? ⟨w2.heap.size, 0, none⟩ = some (.int .u8 (e2 % 5)) ∧ x.cell? ⟨w2.heap.size, 1, none⟩ = some (.bool big) ∧ x.cell? ⟨w2.heap.size, 2, none⟩ = some (.bool bom) ∧ x.cell? ⟨w2.heap.size, 3, none⟩ = some (.slice A2 n2 c2)) ∧ x.cell? ⟨w8.heap.size, (e2 % 4).toNat, none⟩ = some (.string T) ∧ x.cell? ⟨w10.heap.size, (e2 % 4).toNat, none⟩ = some (.string T)) w11 := ⟨HT_w11.1, HT_w11.2, hn_w11⟩
      rw [← hw_w11]
      clear hw_w11
      refine hK.out _ _ HT_w11 (fun _ => ?_)
      clear hK K
      try simp only [Act.put, List.setIfInBounds_toArray, List.set_cons_zero, List.set_cons_succ]
      refine wpAnyH_weaken (S' := (fun x : World => (x.cell? ⟨w2.heap.size, 0, none⟩ = some (.int .u8 (e2 % 5)) ∧ x.cell? ⟨w2.heap.size, 1, none⟩ = some (.bool big) ∧ x.cell? ⟨w2.heap.size, 2, none⟩ = some (.bool bom) ∧ x.cell? ⟨w2.heap.size, 3, none⟩ = some (.slice A2 n2 c2)) ∧ x.cell? ⟨w8.heap.size, (e2 % 4).toNat, none⟩ = some (.string T) ∧ x.cell? ⟨w10.heap.size, (e2 % 4).toNat, none⟩ = some (.string T))) (fun x hx => ⟨hx.1, hx.2.1⟩) _ _ _ _ ?_
      refine wpAnyH_take (i := 25) (oi := ?oi25a1) (v := ?v25a1) ?hi25a1 (by kernel_rfl) (by kernel_rfl) (by kernel_rfl) ?hq25a1 (Or.inl ⟨?hw25a1, ?hy25a1⟩) (by assumption) ?rest25a1
      case hi25a1 => exact rfl
      case hq25a1 => exact fun _ _ _ h => h
      case hw25a1 => rfl
      case hy25a1 => (intro x hx; (try dsimp only at hx); simp only [List.getElem_toArray, List.getElem_cons_succ, List.getElem_cons_zero]; go_simp; try with_reducible rfl)
      try simp only [Act.put, List.setIfInBounds_toArray, List.set_cons_zero, List.set_cons_succ, List.getElem_toArray, List.getElem_cons_succ, List.getElem_cons_zero]
      refine wpAnyH_take (i := 26) (oi := ?oi26a1) (v := ?v26a1) ?hi26a1 (by kernel_rfl) (by kernel_rfl) (by kernel_rfl) ?hq26a1 (Or.inl ⟨?hw26a1, ?hy26a1⟩) (by assumption) ?rest26a1
      case hi26a1 => exact rfl
      case hq26a1 => exact fun _ _ _ h => h
      case hw26a1 => rfl
      case hy26a1 => (intro x hx; (try dsimp only at hx); simp only [List.getElem_toArray, List.getElem_cons_succ, List.getElem_cons_zero]; go_simp; try with_reducible rfl)
      try simp only [Act.put, List.setIfInBounds_toArray, List.set_cons_zero, List.set_cons_succ, List.getElem_toArray, List.getElem_cons_succ, List.getElem_cons_zero]
      refine wpAnyH_ready (rs := [27]) (by kernel_rfl) (by simp) ?_
      refine AllReadyH.cons (o := ?oc27a1) ?ho27a1 (fun K hK => ?_) AllReadyH.nil
      case ho27a1 => exact rfl
      rw [if_pos (by rfl)]
      go_simp
      with_reducible refine (refNamed_any T w11).mono ?_
      rintro e wq ⟨rfl, rfl⟩
      refine hK.out _ _ HS_w11 (fun _ => ?_)
      clear hK K
      try simp only [Act.put, List.setIfInBounds_toArray, List.set_cons_zero, List.set_cons_succ]
      refine wpAnyH_take (i := 28) (oi := ?oi28a1) (v := ?v28a1) ?hi28a1 (by kernel_rfl) (by kernel_rfl) (by kernel_rfl) ?hq28a1 (Or.inl ⟨?hw28a1, ?hy28a1⟩) (by assumption) ?rest28a1
      case hi28a1 => exact rfl
      case hq28a1 => exact fun _ _ _ h => h
      case hw28a1 => rfl
      case hy28a1 => (intro x hx; (try dsimp only at hx); simp only [List.getElem_toArray, List.getElem_cons_succ, List.getElem_cons_zero]; go_simp; try with_reducible rfl)
      try simp only [Act.put, List.setIfInBounds_toArray, List.set_cons_zero, List.set_cons_succ, List.getElem_toArray, List.getElem_cons_succ, List.getElem_cons_zero]
      refine wpAnyH_take (i := 29) (oi := ?oi29a1) (v := ?v29a1) ?hi29a1 (by kernel_rfl) (by kernel_rfl) (by kernel_rfl) ?hq29a1 (Or.inl ⟨?hw29a1, ?hy29a1⟩) (by assumption) ?rest29a1
      case hi29a1 => exact rfl
      case hq29a1 => exact fun _ _ _ h => h
      case hw29a1 => rfl
      case hy29a1 => (intro x hx; (try dsimp only at hx); simp only [List.getElem_toArray, List.getElem_cons_succ, List.getElem_cons_zero]; go_simp; try with_reducible rfl)
      try simp only [Act.put, List.setIfInBounds_toArray, List.set_cons_zero, List.set_cons_succ, List.getElem_toArray, List.getElem_cons_succ, List.getElem_cons_zero]
      refine wpAnyH_take (i := 30) (oi := ?oi30a1) (v := ?v30a1) ?hi30a1 (by kernel_rfl) (by kernel_rfl) (by kernel_rfl) ?hq30a1 (Or.inl ⟨?hw30a1, ?hy30a1⟩) (by assumption) ?rest30a1
      case hi30a1 => exact rfl
      case hq30a1 => exact fun _ _ _ h => h
      case hw30a1 => rfl
      case hy30a1 => (intro x hx; (try dsimp only at hx); simp only [List.getElem_toArray, List.getElem_cons_succ, List.getElem_cons_zero]; go_simp; try with_reducible rfl)
      try simp only [Act.put, List.setIfInBounds_toArray, List.set_cons_zero, List.set_cons_succ, List.getElem_toArray, List.getElem_cons_succ, List.getElem_cons_zero]
      refine wpAnyH_done (by kernel_rfl) ?_ _
      go_wp2
      go_ret
      exact ⟨rfl, B6.trans (BB_w11.mono (by omega))⟩
    case gb21a =>
      rw [if_pos (by rfl)]
      go_simp
      obtain ⟨w10, hw_w10⟩ : ∃ y, y = w9.alloc (.cells #[.string ⟨#[117, 116, 102, 45, 56]⟩, .string ⟨#[117, 116, 102, 45, 49, 54]⟩, .string ⟨#[108, 97, 116, 105, 110, 49]⟩, .string ⟨#[]⟩] 9) := ⟨_, rfl⟩
      have hb_w10 : Below w9.heap.size w9 w10 := by rw [hw_w10]; exact (Below.refl _ _).alloc (Nat.le_refl _) _
      have hs_w10 : w9.heap.size < w10.heap.size := by rw [hw_w10]; simp
      have BB_w10 : Below w6.heap.size w6 w10 := BB_w9.trans (hb_w10.mono (by omega))
      have hn_w10 : w10.cell? ⟨w9.heap.size, (e2 % 4).toNat, none⟩ = some (.string T) := by rw [hw_w10]; exact (World.cell?_alloc_new _ _ _ _).trans hTT
      have HT_w10 : (fun x : World => (x.cell? ⟨w2.heap.size, 0, none⟩ = some (.int .u8 (e2 % 5)) ∧ x.cell? ⟨w2.heap.size, 1, none⟩ = some (.bool big) ∧ x.cell? ⟨w2.heap.size, 2, none⟩ = some (.bool bom) ∧ x.cell? ⟨w2.heap.size, 3, none⟩ = some (.slice A2 n2 c2)) ∧ x.cell? ⟨w8.heap.size, (e2 % 4).toNat, none⟩ = some (.string T)) w10 := keepS1 hb_w10 (by omega) (by omega) HS_w9
      have HS_w10 : (fun x : World => (x.cell? ⟨w2.heap.size, 0, none⟩ = some (.int .u8 (e2 % 5)) ∧ x.cell? ⟨w2.heap.size, 1, none⟩ = some (.bool big) ∧ x.cell? ⟨w2.heap.size, 2, none⟩ = some (.bool bom) ∧ x.cell? ⟨w2.heap.size, 3, none⟩ = some (.slice A2 n2 c2)) ∧ x.cell? ⟨w8.heap.size, (e2 % 4).toNat, none⟩ = some (.string T) ∧ x.cell? ⟨w9.heap.size, (e2 % 4).toNat, none⟩ = some (.string T)) w10 := ⟨HT_w10.1, HT_w10.2, hn_w10⟩
      rw [← hw_w10]
      clear hw_w10
      refine hK.out _ _ HT_w10 (fun _ => ?_)
      clear hK K
      try simp only [Act.put, List.setIfInBounds_toArray, List.set_cons_zero, List.set_cons_succ]
      refine wpAnyH_weaken (S' := (fun x : World => (x.cell? ⟨w2.heap.size, 0, none⟩ = some (.int .u8 (e2 % 5)) ∧ x.cell? ⟨w2.heap.size, 1, none⟩ = some (.bool big) ∧ x.cell? ⟨w2.heap.size, 2, none⟩ = some (.bool bom) ∧ x.cell? ⟨w2.heap.size, 3, none⟩ = some (.slice A2 n2 c2)) ∧ x.cell? ⟨w8.heap.size, (e2 % 4).toNat, none⟩ = some (.string T) ∧ x.cell? ⟨w9.heap.size, (e2 % 4).toNat, none⟩ = some (.string T))) (fun x hx => ⟨hx.1, hx.2.1⟩) _ _ _ _ ?_
      refine wpAnyH_take (i := 25) (oi := ?oi25a2) (v := ?v25a2) ?hi25a2 (by kernel_rfl) (by kernel_rfl) (by kernel_rfl) ?hq25a2 (Or.inl ⟨?hw25a2, ?hy25a2⟩) (by assumption) ?rest25a2
      case hi25a2 => exact rfl
      case hq25a2 => exact fun _ _ _ h => h
      case hw25a2 => rfl
      case hy25a2 => (intro x hx; (try dsimp only at hx); simp only [List.getElem_toArray, List.getElem_cons_succ, List.getElem_cons_zero]; go_simp; try with_reducible rfl)
      try simp only [Act.put, List.setIfInBounds_toArray, List.set_cons_zero, List.set_cons_succ, List.getElem_toArray, List.getElem_cons_succ, List.getElem_cons_zero]
      refine wpAnyH_take (i := 26) (oi := ?oi26a2) (v := ?v26a2) ?hi26a2 (by kernel_rfl) (by kernel_rfl) (by kernel_rfl) ?hq26a2 (Or.inl ⟨?hw26a2, ?hy26a2⟩) (by assumption) ?rest26a2
      case hi26a2 => exact rfl
      case hq26a2 => exact fun _ _ _ h => h
      case hw26a2 => rfl
      case hy26a2 => (intro x hx; (try dsimp only at hx); simp only [List.getElem_toArray, List.getElem_cons_succ, List.getElem_cons_zero]; go_simp; try with_reducible rfl)
      try simp only [Act.put, List.setIfInBounds_toArray, List.set_cons_zero, List.set_cons_succ, List.getElem_toArray, List.getElem_cons_succ, List.getElem_cons_zero]
      refine wpAnyH_ready (rs := [21]) (by kernel_rfl) (by simp) ?_
      refine AllReadyH.cons (o := ?oc21a2) ?ho21a2 (fun K hK => ?_) AllReadyH.nil
      case ho21a2 => exact rfl
      rw [if_pos (by rfl)]
      go_simp
      with_reducible refine (named_any T w10).mono ?_
      rintro e w11 ⟨rfl, hb_w11⟩
      have hs_w11 := hb_w11.size
      have BB_w11 : Below w6.heap.size w6 w11 := BB_w10.trans (hb_w11.mono (by omega))
      have HS_w11 : (fun x : World => (x.cell? ⟨w2.heap.size, 0, none⟩ = some (.int .u8 (e2 % 5)) ∧ x.cell? ⟨w2.heap.size, 1, none⟩ = some (.bool big) ∧ x.cell? ⟨w2.heap.size, 2, none⟩ = some (.bool bom) ∧ x.cell? ⟨w2.heap.size, 3, none⟩ = some (.slice A2 n2 c2)) ∧ x.cell? ⟨w8.heap.size, (e2 % 4).toNat, none⟩ = some (.string T) ∧ x.cell? ⟨w9.heap.size, (e2 % 4).toNat, none⟩ = some (.string T)) w11 := keepS2 hb_w11 (by omega) (by omega) (by omega) HS_w10
      refine hK.out _ _ HS_w11 (fun _ => ?_)
      clear hK K
      try simp only [Act.put, List.setIfInBounds_toArray, List.set_cons_zero, List.set_cons_succ]
      refine wpAnyH_ready (rs := [27]) (by kernel_rfl) (by simp) ?_
      refine AllReadyH.cons (o := ?oc27a2) ?ho27a2 (fun K hK => ?_) AllReadyH.nil
      case ho27a2 => exact rfl
      rw [if_pos (by rfl)]
      go_simp
      with_reducible refine (refNamed_any T w11).mono ?_
      rintro e wq ⟨rfl, rfl⟩
      refine hK.out _ _ HS_w11 (fun _ => ?_)
      clear hK K
      try simp only [Act.put, List.setIfInBounds_toArray, List.set_cons_zero, List.set_cons_succ]
      refine wpAnyH_take (i := 28) (oi := ?oi28a2) (v := ?v28a2) ?hi28a2 (by kernel_rfl) (by kernel_rfl) (by kernel_rfl) ?hq28a2 (Or.inl ⟨?hw28a2, ?hy28a2⟩) (by assumption) ?rest28a2
      case hi28a2 => exact rfl
      case hq28a2 => exact fun _ _ _ h => h
      case hw28a2 => rfl
      case hy28a2 => (intro x hx; (try dsimp only at hx); simp only [List.getElem_toArray, List.getElem_cons_succ, List.getElem_cons_zero]; go_simp; try with_reducible rfl)
      try simp only [Act.put, List.setIfInBounds_toArray, List.set_cons_zero, List.set_cons_succ, List.getElem_toArray, List.getElem_cons_succ, List.getElem_cons_zero]
      refine wpAnyH_take (i := 29) (oi := ?oi29a2) (v := ?v29a2) ?hi29a2 (by kernel_rfl) (by kernel_rfl) (by kernel_rfl) ?hq29a2 (Or.inl ⟨?hw29a2, ?hy29a2⟩) (by assumption) ?rest29a2
      case hi29a2 => exact rfl
      case hq29a2 => exact fun _ _ _ h => h
      case hw29a2 => rfl
      case hy29a2 => (intro x hx; (try dsimp only at hx); simp only [List.getElem_toArray, List.getElem_cons_succ, List.getElem_cons_zero]; go_simp; try with_reducible rfl)
      try simp only [Act.put, List.setIfInBounds_toArray, List.set_cons_zero, List.set_cons_succ, List.getElem_toArray, List.getElem_cons_succ, List.getElem_cons_zero]
      refine wpAnyH_take (i := 30) (oi := ?oi30a2) (v := ?v30a2) ?hi30a2 (by kernel_rfl) (by kernel_rfl) (by kernel_rfl) ?hq30a2 (Or.inl ⟨?hw30a2, ?hy30a2⟩) (by assumption) ?rest30a2
      case hi30a2 => exact rfl
      case hq30a2 => exact fun _ _ _ h => h
      case hw30a2 => rfl
      case hy30a2 => (intro x hx; (try dsimp only at hx); simp only [List.getElem_toArray, List.getElem_cons_succ, List.getElem_cons_zero]; go_simp; try with_reducible rfl)
      try simp only [Act.put, List.setIfInBounds_toArray, List.set_cons_zero, List.set_cons_succ, List.getElem_toArray, List.getElem_cons_succ, List.getElem_cons_zero]
      refine wpAnyH_done (by kernel_rfl) ?_ _
      go_wp2
      go_ret
      exact ⟨rfl, B6.trans (BB_w11.mono (by omega))⟩
  case gb16z =>
    rw [if_pos (by rfl)]
    go_simp
    obtain ⟨w9, hw_w9⟩ : ∃ y, y = w8.alloc (.cells #[.string ⟨#[117, 116, 102, 45, 56]⟩, .string ⟨#[117, 116, 102, 45, 49, 54]⟩, .string ⟨#[108, 97, 116, 105, 110, 49]⟩, .string ⟨#[]⟩] 9) := ⟨_, rfl⟩
    have hb_w9 : Below w8.heap.size w8 w9 := by rw [hw_w9]; exact (Below.refl _ _).alloc (Nat.le_refl _) _
    have hs_w9 : w8.heap.size < w9.heap.size := by rw [hw_w9]; simp
    have BB_w9 : Below w6.heap.size w6 w9 := BB_w8.trans (hb_w9.mono (by omega))
    have hn_w9 : w9.cell? ⟨w8.heap.size, (e2 % 4).toNat, none⟩ = some (.string T) := by rw [hw_w9]; exact (World.cell?_alloc_new _ _ _ _).trans hTT
    have HT_w9 : (fun x : World => (x.cell? ⟨w2.heap.size, 0, none⟩ = some (.int .u8 (e2 % 5)) ∧ x.cell? ⟨w2.heap.size, 1, none⟩ = some (.bool big) ∧ x.cell? ⟨w2.heap.size, 2, none⟩ = some (.bool bom) ∧ x.cell? ⟨w2.heap.size, 3, none⟩ = some (.slice A2 n2 c2))) w9 := keepS0 hb_w9 (by omega) HS_w8
    have HS_w9 : (fun x : World => (x.cell? ⟨w2.heap.size, 0, none⟩ = some (.int .u8 (e2 % 5)) ∧ x.cell? ⟨w2.heap.size, 1, none⟩ = some (.bool big) ∧ x.cell? ⟨w2.heap.size, 2, none⟩ = some (.bool bom) ∧ x.cell? ⟨w2.heap.size, 3, none⟩ = some (.slice A2 n2 c2)) ∧ x.cell? ⟨w8.heap.size, (e2 % 4).toNat, none⟩ = some (.string T)) w9 := ⟨HT_w9, hn_w9⟩
    rw [← hw_w9]
    clear hw_w9
    refine hK.out _ _ HT_w9 (fun _ => ?_)
    clear hK K
    try simp only [Act.put, List.setIfInBounds_toArray, List.set_cons_zero, List.set_cons_succ]
    refine wpAnyH_weaken (S' := (fun x : World => (x.cell? ⟨w2.heap.size, 0, none⟩ = some (.int .u8 (e2 % 5)) ∧ x.cell? ⟨w2.heap.size, 1, none⟩ = some (.bool big) ∧ x.cell? ⟨w2.heap.size, 2, none⟩ = some (.bool bom) ∧ x.cell? ⟨w2.heap.size, 3, none⟩ = some (.slice A2 n2 c2)) ∧ x.cell? ⟨w8.heap.size, (e2 % 4).toNat, none⟩ = some (.string T))) (fun x hx => hx.1) _ _ _ _ ?_
    refine wpAnyH_take (i := 25) (oi := ?oi25b) (v := ?v25b) ?hi25b (by kernel_rfl) (by kernel_rfl) (by kernel_rfl) ?hq25b (Or.inl ⟨?hw25b, ?hy25b⟩) (by assumption) ?rest25b
    case hi25b => exact rfl
    case hq25b => exact fun _ _ _ h => h
    case hw25b => rfl
    case hy25b => (intro x hx; (try dsimp only at hx); simp only [List.getElem_toArray, List.getElem_cons_succ, List.getElem_cons_zero]; go_simp; try with_reducible rfl)
    try simp only [Act.put, List.setIfInBounds_toArray, List.set_cons_zero, List.set_cons_succ, List.getElem_toArray, List.getElem_cons_succ, List.getElem_cons_zero]
    refine wpAnyH_take (i := 26) (oi := ?oi26b) (v := ?v26b) ?hi26b (by kernel_rfl) (by kernel_rfl) (by kernel_rfl) ?hq26b (Or.inl ⟨?hw26b, ?hy26b⟩) (by assumption) ?rest26b
    case hi26b => exact rfl
    case hq26b => exact fun _ _ _ h => h
    case hw26b => rfl
    case hy26b => (intro x hx; (try dsimp only at hx); simp only [List.getElem_toArray, List.getElem_cons_succ, List.getElem_cons_zero]; go_simp; try with_reducible rfl)
    try simp only [Act.put, List.setIfInBounds_toArray, List.set_cons_zero, List.set_cons_succ, List.getElem_toArray, List.getElem_cons_succ, List.getElem_cons_zero]
    refine wpAnyH_ready (rs := [16]) (by kernel_rfl) (by simp) ?_
    refine AllReadyH.cons (o := ?oc16b) ?ho16b (fun K hK => ?_) AllReadyH.nil
    case ho16b => exact rfl
    rw [if_pos (by rfl)]
    go_simp
    obtain ⟨w10, hw_w10⟩ : ∃ y, y = w9.alloc (.cells #[.string ⟨#[117, 116, 102, 45, 56]⟩, .string ⟨#[117, 116, 102, 45, 49, 54]⟩, .string ⟨#[108, 97, 116, 105, 110, 49]⟩, .string ⟨#[]⟩] 9) := ⟨_, rfl⟩
    have hb_w10 : Below w9.heap.size w9 w10 := by rw [hw_w10]; exact (Below.refl _ _).alloc (Nat.le_refl _) _
    have hs_w10 : w9.heap.size < w10.heap.size := by rw [hw_w10]; simp
    have BB_w10 : Below w6.heap.size w6 w10 := BB_w9.trans (hb_w10.mono (by omega))
    have hn_w10 : w10.cell? ⟨w9.heap.size, (e2 % 4).toNat, none⟩ = some (.string T) := by rw [hw_w10]; exact (World.cell?_alloc_new _ _ _ _).trans hTT
    have HT_w10 : (fun x : World => (x.cell? ⟨w2.heap.size, 0, none⟩ = some (.int .u8 (e2 % 5)) ∧ x.cell? ⟨w2.heap.size, 1, none⟩ = some (.bool big) ∧ x.cell? ⟨w2.heap.size, 2, none⟩ = some (.bool bom) ∧ x.cell? ⟨w2.heap.size, 3, none⟩ = some (.slice A2 n2 c2)) ∧ x.cell? ⟨w8.heap.size, (e2 % 4).toNat, none⟩ = some (.string T)) w10 := keepS1 hb_w10 (by omega) (by omega) HS_w9
    have HS_w10 : (fun x : World => (x.cell? ⟨w2.heap.size, 0, none⟩ = some (.int .u8 (e2 % 5)) ∧ x.cell? ⟨w2.heap.size, 1, none⟩ = some (.bool big) ∧ x.cell? ⟨w2.heap.size, 2, none⟩ = some (.bool bom) ∧ x.cell? ⟨w2.heap.size, 3, none⟩ = some (.slice A2 n2 c2)) ∧ x.cell? ⟨w8.heap.size, (e2 % 4).toNat, none⟩ = some (.string T) ∧ x.cell? ⟨w9.heap.size, (e2 % 4).toNat, none⟩ = some (.string T)) w10 := ⟨HT_w10.1, HT_w10.2, hn_w10⟩
    rw [← hw_w10]
    clear hw_w10
    refine hK.out _ _ HT_w10 (fun _ => ?_)
    clear hK K
    try simp only [Act.put, List.setIfInBounds_toArray, List.set_cons_zero, List.set_cons_succ]
    refine wpAnyH_weaken (S' := (fun x : World => (x.cell? ⟨w2.heap.size, 0, none⟩ = some (.int .u8 (e2 % 5)) ∧ x.cell? ⟨w2.heap.size, 1, none⟩ = some (.bool big) ∧ x.cell? ⟨w2.heap.size, 2, none⟩ = some (.bool bom) ∧ x.cell? ⟨w2.heap.size, 3, none⟩ = some (.slice A2 n2 c2)) ∧ x.cell? ⟨w8.heap.size, (e2 % 4).toNat, none⟩ = some (.string T) ∧ x.cell? ⟨w9.heap.size, (e2 % 4).toNat, none⟩ = some (.string T))) (fun x hx => ⟨hx.1, hx.2.1⟩) _ _ _ _ ?_
    refine wpAnyH_take (i := 19) (oi := ?oi19b) (v := ?v19b) ?hi19b (by kernel_rfl) (by kernel_rfl) (by kernel_rfl) ?hq19b (Or.inl ⟨?hw19b, ?hy19b⟩) (by assumption) ?rest19b
    case hi19b => exact rfl
    case hq19b => exact fun _ _ _ h => h
    case hw19b => rfl
    case hy19b => (intro x hx; (try dsimp only at hx); simp only [List.getElem_toArray, List.getElem_cons_succ, List.getElem_cons_zero]; go_simp; try with_reducible rfl)
    try simp only [Act.put, List.setIfInBounds_toArray, List.set_cons_zero, List.set_cons_succ, List.getElem_toArray, List.getElem_cons_succ, List.getElem_cons_zero]
    refine wpAnyH_take (i := 20) (oi := ?oi20b) (v := ?v20b) ?hi20b (by kernel_rfl) (by kernel_rfl) (by kernel_rfl) ?hq20b (Or.inl ⟨?hw20b, ?hy20b⟩) (by assumption) ?rest20b
    case hi20b => exact rfl
    case hq20b => exact fun _ _ _ h => h
    case hw20b => rfl
    case hy20b => (intro x hx; (try dsimp only at hx); simp only [List.getElem_toArray, List.getElem_cons_succ, List.getElem_cons_zero]; go_simp; try with_reducible rfl)
    try simp only [Act.put, List.setIfInBounds_toArray, List.set_cons_zero, List.set_cons_succ, List.getElem_toArray, List.getElem_cons_succ, List.getElem_cons_zero]
    refine wpAnyH_ready (rs := [21]) (by kernel_rfl) (by simp) ?_
    refine AllReadyH.cons (o := ?oc21b) ?ho21b (fun K hK => ?_) AllReadyH.nil
    case ho21b => exact rfl
    rw [if_pos (by rfl)]
    go_simp
    with_reducible refine (named_any T w10).mono ?_
    rintro e w11 ⟨rfl, hb_w11⟩
    have hs_w11 := hb_w11.size
    have BB_w11 : Below w6.heap.size w6 w11 := BB_w10.trans (hb_w11.mono (by omega))
    have HS_w11 : (fun x : World => (x.cell? ⟨w2.heap.size, 0, none⟩ = some (.int .u8 (e2 % 5)) ∧ x.cell? ⟨w2.heap.size, 1, none⟩ = some (.bool big) ∧ x.cell? ⟨w2.heap.size, 2, none⟩ = some (.bool bom) ∧ x.cell? ⟨w2.heap.size, 3, none⟩ = some (.slice A2 n2 c2)) ∧ x.cell? ⟨w8.heap.size, (e2 % 4).toNat, none⟩ = some (.string T) ∧ x.cell? ⟨w9.heap.size, (e2 % 4).toNat, none⟩ = some (.string T)) w11 := keepS2 hb_w11 (by omega) (by omega) (by omega) HS_w10
    refine hK.out _ _ HS_w11 (fun _ => ?_)
    clear hK K
    try simp only [Act.put, List.setIfInBounds_toArray, List.set_cons_zero, List.set_cons_succ]
    refine wpAnyH_ready (rs := [27]) (by kernel_rfl) (by simp) ?_
    refine AllReadyH.cons (o := ?oc27b) ?ho27b (fun K hK => ?_) AllReadyH.nil
    case ho27b => exact rfl
    rw [if_pos (by rfl)]
    go_simp
    with_reducible refine (refNamed_any T w11).mono ?_
    rintro e wq ⟨rfl, rfl⟩
    refine hK.out _ _ HS_w11 (fun _ => ?_)
    clear hK K
    try simp only [Act.put, List.setIfInBounds_toArray, List.set_cons_zero, List.set_cons_succ]
    refine wpAnyH_take (i := 28) (oi := ?oi28b) (v := ?v28b) ?hi28b (by kernel_rfl) (by kernel_rfl) (by kernel_rfl) ?hq28b (Or.inl ⟨?hw28b, ?hy28b⟩) (by assumption) ?rest28b
    case hi28b => exact rfl
    case hq28b => exact fun _ _ _ h => h
    case hw28b => rfl
    case hy28b => (intro x hx; (try dsimp only at hx); simp only [List.getElem_toArray, List.getElem_cons_succ, List.getElem_cons_zero]; go_simp; try with_reducible rfl)
    try simp only [Act.put, List.setIfInBounds_toArray, List.set_cons_zero, List.set_cons_succ, List.getElem_toArray, List.getElem_cons_succ, List.getElem_cons_zero]
    refine wpAnyH_take (i := 29) (oi := ?oi29b) (v := ?v29b) ?hi29b (by kernel_rfl) (by kernel_rfl) (by kernel_rfl) ?hq29b (Or.inl ⟨?hw29b, ?hy29b⟩) (by assumption) ?rest29b
    case hi29b => exact rfl
    case hq29b => exact fun _ _ _ h => h
    case hw29b => rfl
    case hy29b => (intro x hx; (try dsimp only at hx); simp only [List.getElem_toArray, List.getElem_cons_succ, List.getElem_cons_zero]; go_simp; try with_reducible rfl)
    try simp only [Act.put, List.setIfInBounds_toArray, List.set_cons_zero, List.set_cons_succ, List.getElem_toArray, List.getElem_cons_succ, List.getElem_cons_zero]
    refine wpAnyH_take (i := 30) (oi := ?oi30b) (v := ?v30b) ?hi30b (by kernel_rfl) (by kernel_rfl) (by kernel_rfl) ?hq30b (Or.inl ⟨?hw30b, ?hy30b⟩) (by assumption) ?rest30b
    case hi30b => exact rfl
    case hq30b => exact fun _ _ _ h => h
    case hw30b => rfl
    case hy30b => (intro x hx; (try dsimp only at hx); simp only [List.getElem_toArray, List.getElem_cons_succ, List.getElem_cons_zero]; go_simp; try with_reducible rfl)
    try simp only [Act.put, List.setIfInBounds_toArray, List.set_cons_zero, List.set_cons_succ, List.getElem_toArray, List.getElem_cons_succ, List.getElem_cons_zero]
    refine wpAnyH_done (by kernel_rfl) ?_ _
    go_wp2
    go_ret
    exact ⟨rfl, B6.trans (BB_w11.mono (by omega))⟩
end Go.Proofs.YtijlecfjgcohhaaDoor.C
