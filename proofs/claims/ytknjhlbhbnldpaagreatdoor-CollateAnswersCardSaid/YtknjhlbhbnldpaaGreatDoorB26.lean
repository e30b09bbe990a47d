/-
  Joined: KpJ, KpN. Each with what its own head says.
-/
import Derived.Test.YtknjhlbhbnldpaaGreatDoorB22
import Derived.Test.YtknjhlbhbnldpaaGreatDoorB23

namespace Go.Proofs.YtknjhlbhbnldpaaGreatDoor.C
open Go.RowKit

def NmTold (w w' : World) (xs : List Int) (e : Ending) : Prop := Below w.heap.size w w' ∧ ∃ A c, e = .returned (.slice A xs.length c) ∧ RI .i32 w' w'.heap.size A xs.length xs
theorem namedO_is {o : List Elm} {nm : List UInt8} (h0 : nm ≠ []) : namedO o nm = (o.find? fun e => e.name == nm).map Elm.cells := if_neg h0
set_option maxRecDepth 100000 in
set_option maxHeartbeats 4000000 in
theorem named08_any (w : World) (B : Nat) (v1 v2 v3 v4 : Value) (l : Loc) (nm : List UInt8) (h : LocR w B v1 v2 v3 v4 l) (hB : B ≤ w.heap.size) (h5 : l.ord.length ≤ 500) (hn : nm.length ≤ 1099511627776) :
  Calls Tryz.prog 56 #[.agg #[v1, v2, v3, v4], .string (str nm)] w fun e w' => NmTold w w' (namedT l.ord nm) e := by
 obtain ⟨W, hW⟩ : ∃ W, W = w.alloc (.cells #[v1, v2, v3, v4] 30) := ⟨_, rfl⟩
 have hb : Below w.heap.size w W := by rw [hW]; exact (Below.refl _ _).alloc (Nat.le_refl _) _
 have hrow : Rw W w.heap.size 30 #[v1, v2, v3, v4] := by rw [hW]; exact heap_alloc_new w _
 obtain ⟨-, -, -, r4, -, -, -⟩ := h.on hb hB
 obtain ⟨A, c, xs, rfl, -⟩ := id r4
 have p3 : W.cell? ⟨w.heap.size, 3, none⟩ = some (.slice A l.ord.length c) := hrow.cell rfl
 have HR4 := Lib.hid r4
 have HB := Lib.hid hb
 have HBW : Hid (B ≤ W.heap.size) := Lib.hid (Nat.le_trans hB hb.size)
 have hof := refOf_any (str nm) W (by rw [show (str nm).size = nm.length from List.size_toArray]; exact hn)
 clear r4 hb hrow h
 have HW := Lib.hid hW
 clear hW
 have hW := HW.out
 subst hW
 go_enter Tryz.func56, Tryz.ntmps56
 go_wp2
 go_loop [5] (fun i => ∃ k : Nat, k ≤ l.ord.length ∧ i = .int .i64 k ∧ Hid (nm ≠ [] → ∀ x ∈ l.ord.take k, (x.name == nm) = false)) (fun i => l.ord.length - (intOf i).toNat)
 case atStart => exact ⟨0, Nat.zero_le _, rfl, Lib.hid (by simp)⟩
 case round =>
  obtain ⟨k, hk, rfl, HQ⟩ := hrel
  by_cases hlt : k < l.ord.length
  ·obtain ⟨p, hp⟩ : ∃ p, l.ord[k]? = some p := ⟨_, List.getElem?_eq_getElem hlt⟩
   obtain ⟨ad, cx, Ac, cc, hv, hbl, hc0, hc1, -, hri⟩ := elmR_at HR4.out hp
   injection hv with hA _ hc
   subst hA hc
   have i0 : (0 : Int) ≤ (k : Int) := by omega
   have i1 : (k : Int) < (l.ord.length : Int) := by omega
   have HP := Lib.hid hp
   have HRI := Lib.hid hri
   obtain ⟨pn, pc, ps⟩ := p
   simp only at hc0 hc1
   by_cases h0 : nm = []
   ·have hne : (str nm).toList.isEmpty = true := by rw [Lib.toList_data, h0]; rfl
    have HN : Hid (nm ≠ [] → ∀ x ∈ l.ord.take (k + 1), (x.name == nm) = false) := Lib.hid (fun h => absurd h0 h)
    clear hp hri hbl h0
    go_wp2
    go_round
    case rel => exact ⟨k + 1, by omega, by go_num, HN⟩
    case measure => simp [intOf]; omega
   ·have hne : (str nm).toList.isEmpty = false := by
     rw [Lib.toList_data]
     show nm.isEmpty = false
     cases hl : nm with
     | nil => exact absurd hl h0
     | cons a r => rfl
    by_cases e : pn = nm
    ·have e2 : ((str pn).toList == (str nm).toList) = true := by rw [e]; exact beq_self_eq_true _
     have HV : Hid (namedT l.ord nm = pc) := Lib.hid (by unfold namedT; rw [namedO_is h0, find_at HP.out (by simpa using e) (HQ.out h0)]; rfl)
     have HF := Lib.hid (show NmTold w _ pc (.returned (.slice Ac pc.length cc)) from ⟨HB.out, Ac, cc, rfl, HRI.out.more HBW.out⟩)
     clear hp hri e hbl h0
     go_wp2
     go_ret
     rw [HV.out]
     exact HF.out
    ·have e2 : ((str pn).toList == (str nm).toList) = false := by
      rw [beq_eq_false_iff_ne]
      intro h
      rw [Lib.toList_data, Lib.toList_data] at h
      exact e h
     have HN : Hid (nm ≠ [] → ∀ x ∈ l.ord.take (k + 1), (x.name == nm) = false) := Lib.hid (fun h => take_no (f := fun x : Elm => x.name == nm) HP.out (beq_eq_false_iff_ne.2 e) (HQ.out h))
     clear hp hri e hbl h0
     go_wp2
     go_round
     case rel => exact ⟨k + 1, by omega, by go_num, HN⟩
     case measure => simp [intOf]; omega
  ·obtain rfl : k = l.ord.length := by omega
   have HNO : Hid (namedO l.ord nm = none) := Lib.hid (by
    by_cases h0 : nm = []
    ·rw [h0]; rfl
    ·rw [namedO_is h0, find_out (HQ.out h0)]; rfl)
   go_wp2_with fail
   refine hof.mono ?_
   rintro e w3 ⟨v, rfl, ho, hb3⟩
   obtain ⟨xs2, hxs⟩ : ∃ xs2, xs2 = ofL (str nm) := ⟨_, rfl⟩
   rw [← hxs] at ho
   obtain ⟨A3, c3, rfl⟩ := row_form ho
   have hri := RI.of_own (zs := xs2) ho
   have HRI := Lib.hid hri
   have HE : Hid (Below w.heap.size w w3) := Lib.hid (HB.out.trans (hb3.mono HB.out.size))
   have HX := Lib.hid hxs
   clear hof ho hb3 hxs p3
   by_cases hl1 : xs2.length = 1
   ·obtain ⟨x, rfl⟩ : ∃ x, xs2 = [x] := by
     match xs2, hl1 with
     | [x], _ => exact ⟨x, rfl⟩
    obtain ⟨ad, rfl, _, hcs⟩ := hri.2 (by simp)
    have z0 : w3.cell? ad = some (.int .i32 x) := by have := hcs 0 _ rfl; rwa [Addr.add_zero'] at this
    simp only [List.length_singleton]
    by_cases hx0 : 0 ≤ x
    ·have HV : Hid (namedT l.ord nm = [x]) := Lib.hid (by unfold namedT; rw [HNO.out]; simp only; rw [← HX.out, if_pos ⟨rfl, hx0⟩])
     have HF := Lib.hid (show NmTold w w3 [x] (.returned (.slice (some ad) 1 c3)) from ⟨HE.out, some ad, c3, rfl, HRI.out⟩)
     clear hri hcs hl1
     go_wp2
     go_ret
     rw [HV.out]
     exact HF.out
    ·have HV : Hid (namedT l.ord nm = []) := Lib.hid (by unfold namedT; rw [HNO.out]; simp only; rw [← HX.out, if_neg (fun h => hx0 h.2)])
     clear hri hcs hl1
     have HF := Lib.hid (show NmTold w w3 [] (.returned (.slice none 0 0)) from ⟨HE.out, none, 0, rfl, rfl, fun h => absurd h (by simp)⟩)
     go_wp2
     go_ret
     rw [HV.out]
     exact HF.out
   ·have HV : Hid (namedT l.ord nm = []) := Lib.hid (by unfold namedT; rw [HNO.out]; simp only; rw [← HX.out, if_neg (fun h => hl1 h.1)])
    have hl2 : ¬ (xs2.length : Int) = 1 := by omega
    clear hri
    have HF := Lib.hid (show NmTold w w3 [] (.returned (.slice none 0 0)) from ⟨HE.out, none, 0, rfl, rfl, fun h => absurd h (by simp)⟩)
    go_wp2
    go_ret
    rw [HV.out]
    exact HF.out
end Go.Proofs.YtknjhlbhbnldpaaGreatDoor.C

namespace Go.Proofs.YtknjhlbhbnldpaaGreatDoor.C
open Go.RowKit

set_option maxRecDepth 100000 in
set_option maxHeartbeats 2000000 in
theorem samePairs_yes (w : World) (Ba Bb : Nat) (Aa Ab : Option Addr) (ca cb : Nat) (l : List (Int × Int)) (ha : SI 2 w Ba Aa l.length (l.map prRow)) (hb : SI 2 w Bb Ab l.length (l.map prRow)) (hn : l.length ≤ maxLen) :
  Calls Tryz.prog 47 #[.slice Aa l.length ca, .slice Ab l.length cb] w fun e w' => e = .returned (.bool true) ∧ ∃ q, w' = w.drewN q := by
 unfold maxLen at hn
 have HA := Lib.hid ha
 have HB := Lib.hid hb
 have hl0 : ((l.length : Int) == (l.length : Int)) = true := by simp
 clear ha hb
 go_enter Tryz.func47, Tryz.ntmps47
 go_wp2
 go_loopw [5] (fun iv wr => ∃ i : Nat, i ≤ l.length ∧ iv = .int .i64 i ∧ Hid (∃ q, wr = w.drewN q)) (fun iv _ => l.length - (intOf iv).toNat)
 case atStart => exact ⟨0, Nat.zero_le _, rfl, Lib.hid ⟨0, rfl⟩⟩
 case round =>
  obtain ⟨i, hin, rfl, HQ⟩ := hrel
  by_cases hlt : i < l.length
  rotate_left
  ·obtain rfl : i = l.length := by omega
   go_wp2
   go_ret
   exact ⟨rfl, HQ.out⟩
  obtain ⟨r, hri⟩ : ∃ r, l[i]? = some r := ⟨_, List.getElem?_eq_getElem hlt⟩
  have hA2 : SI 2 wr Ba Aa l.length (l.map prRow) := by obtain ⟨q, rfl⟩ := HQ.out; exact HA.out.drewN q
  have hB2 : SI 2 wr Bb Ab l.length (l.map prRow) := by obtain ⟨q, rfl⟩ := HQ.out; exact HB.out.drewN q
  obtain ⟨ad, rfl, _, c0, c1⟩ := prsR_at hA2 hri
  obtain ⟨bd, rfl, _, d0, d1⟩ := prsR_at hB2 hri
  obtain ⟨a, b⟩ := r
  dsimp only at c0 c1 d0 d1
  have i0 : (0 : Int) ≤ (i : Int) := by omega
  have i1 : (i : Int) < (l.length : Int) := by omega
  clear hA2 hB2 hri
  go_wp2
  refine wp_region_held (S := fun W' : World => W'.cell? (ad.add (i * 2)) = some (.int .i32 a) ∧ W'.cell? ⟨(ad.add (i * 2)).block, (ad.add (i * 2)).off + 1, none⟩ = some (.int .i32 b) ∧ W'.cell? (bd.add (i * 2)) = some (.int .i32 a) ∧ W'.cell? ⟨(bd.add (i * 2)).block, (bd.add (i * 2)).off + 1, none⟩ = some (.int .i32 b)) (by kernel_rfl) ?_
  change wpAnyH _ _ _ _ _ _ _ _ wr.drew
  have hS1 : (fun W' : World => W'.cell? (ad.add (i * 2)) = some (.int .i32 a) ∧ W'.cell? ⟨(ad.add (i * 2)).block, (ad.add (i * 2)).off + 1, none⟩ = some (.int .i32 b) ∧ W'.cell? (bd.add (i * 2)) = some (.int .i32 a) ∧ W'.cell? ⟨(bd.add (i * 2)).block, (bd.add (i * 2)).off + 1, none⟩ = some (.int .i32 b)) wr.drew := ⟨c0, c1, d0, d1⟩
  refine wpAnyH_take (i := 0) (oi := ?oi0) (v := ?v0) ?hi0 (by kernel_rfl) (by kernel_rfl) (by kernel_rfl) ?hq0 (Or.inl ⟨?hw0, ?hy0⟩) (by assumption) ?rest0
  case hi0 => exact rfl
  case hq0 => exact fun _ _ _ h => h
  case hw0 => rfl
  case hy0 => (intro x hx; (try dsimp only at hx); simp only [List.getElem_toArray, List.getElem_cons_zero]; go_split_ands; go_simp; try with_reducible rfl)
  try simp only [Act.put, List.setIfInBounds_toArray, List.set_cons_zero, List.set_cons_succ, List.getElem_toArray, List.getElem_cons_zero]
  refine wpAnyH_take (i := 1) (oi := ?oi1) (v := ?v1) ?hi1 (by kernel_rfl) (by kernel_rfl) (by kernel_rfl) ?hq1 (Or.inl ⟨?hw1, ?hy1⟩) (by assumption) ?rest1
  case hi1 => exact rfl
  case hq1 => exact fun _ _ _ h => h
  case hw1 => rfl
  case hy1 => (intro x hx; (try dsimp only at hx); simp only [List.getElem_toArray, List.getElem_cons_succ, List.getElem_cons_zero]; go_split_ands; go_simp; try with_reducible rfl)
  try simp only [Act.put, List.setIfInBounds_toArray, List.set_cons_zero, List.set_cons_succ, List.getElem_toArray, List.getElem_cons_succ, List.getElem_cons_zero]
  refine wpAnyH_take (i := 2) (oi := ?oi2) (v := ?v2) ?hi2 (by kernel_rfl) (by kernel_rfl) (by kernel_rfl) ?hq2 (Or.inl ⟨?hw2, ?hy2⟩) (by assumption) ?rest2
  case hi2 => exact rfl
  case hq2 => exact fun _ _ _ h => h
  case hw2 => rfl
  case hy2 => (intro x hx; (try dsimp only at hx); simp only [List.getElem_toArray, List.getElem_cons_succ, List.getElem_cons_zero]; go_split_ands; go_simp; try with_reducible rfl)
  try simp only [Act.put, List.setIfInBounds_toArray, List.set_cons_zero, List.set_cons_succ, List.getElem_toArray, List.getElem_cons_succ, List.getElem_cons_zero]
  refine wpAnyH_take (i := 3) (oi := ?oi3) (v := ?v3) ?hi3 (by kernel_rfl) (by kernel_rfl) (by kernel_rfl) ?hq3 (Or.inl ⟨?hw3, ?hy3⟩) (by assumption) ?rest3
  case hi3 => exact rfl
  case hq3 => exact fun _ _ _ h => h
  case hw3 => rfl
  case hy3 => (intro x hx; (try dsimp only at hx); simp only [List.getElem_toArray, List.getElem_cons_succ, List.getElem_cons_zero]; go_split_ands; go_simp; try with_reducible rfl)
  try simp only [Act.put, List.setIfInBounds_toArray, List.set_cons_zero, List.set_cons_succ, List.getElem_toArray, List.getElem_cons_succ, List.getElem_cons_zero]
  refine wpAnyH_take (i := 4) (oi := ?oi4) (v := ?v4) ?hi4 (by kernel_rfl) (by kernel_rfl) (by kernel_rfl) ?hq4 (Or.inl ⟨?hw4, ?hy4⟩) (by assumption) ?rest4
  case hi4 => exact rfl
  case hq4 => exact fun _ _ _ h => h
  case hw4 => rfl
  case hy4 => (intro x hx; (try dsimp only at hx); simp only [List.getElem_toArray, List.getElem_cons_succ, List.getElem_cons_zero]; go_split_ands; go_simp; try with_reducible rfl)
  try simp only [Act.put, List.setIfInBounds_toArray, List.set_cons_zero, List.set_cons_succ, List.getElem_toArray, List.getElem_cons_succ, List.getElem_cons_zero]
  refine wpAnyH_take (i := 5) (oi := ?oi5) (v := ?v5) ?hi5 (by kernel_rfl) (by kernel_rfl) (by kernel_rfl) ?hq5 (Or.inl ⟨?hw5, ?hy5⟩) (by assumption) ?rest5
  case hi5 => exact rfl
  case hq5 => exact fun _ _ _ h => h
  case hw5 => rfl
  case hy5 => (intro x hx; (try dsimp only at hx); simp only [List.getElem_toArray, List.getElem_cons_succ, List.getElem_cons_zero]; go_split_ands; go_simp; try with_reducible rfl)
  try simp only [Act.put, List.setIfInBounds_toArray, List.set_cons_zero, List.set_cons_succ, List.getElem_toArray, List.getElem_cons_succ, List.getElem_cons_zero]
  refine wpAnyH_take (i := 6) (oi := ?oi6) (v := ?v6) ?hi6 (by kernel_rfl) (by kernel_rfl) (by kernel_rfl) ?hq6 (Or.inl ⟨?hw6, ?hy6⟩) (by assumption) ?rest6
  case hi6 => exact rfl
  case hq6 => exact fun _ _ _ h => h
  case hw6 => rfl
  case hy6 => (intro x hx; (try dsimp only at hx); simp only [List.getElem_toArray, List.getElem_cons_succ, List.getElem_cons_zero]; go_split_ands; go_simp; try with_reducible rfl)
  try simp only [Act.put, List.setIfInBounds_toArray, List.set_cons_zero, List.set_cons_succ, List.getElem_toArray, List.getElem_cons_succ, List.getElem_cons_zero]
  refine wpAnyH_take (i := 7) (oi := ?oi7) (v := ?v7) ?hi7 (by kernel_rfl) (by kernel_rfl) (by kernel_rfl) ?hq7 (Or.inl ⟨?hw7, ?hy7⟩) (by assumption) ?rest7
  case hi7 => exact rfl
  case hq7 => exact fun _ _ _ h => h
  case hw7 => rfl
  case hy7 => (intro x hx; (try dsimp only at hx); simp only [List.getElem_toArray, List.getElem_cons_succ, List.getElem_cons_zero]; go_split_ands; go_simp; try with_reducible rfl)
  try simp only [Act.put, List.setIfInBounds_toArray, List.set_cons_zero, List.set_cons_succ, List.getElem_toArray, List.getElem_cons_succ, List.getElem_cons_zero]
  refine wpAnyH_take (i := 8) (oi := ?oi8) (v := ?v8) ?hi8 (by kernel_rfl) (by kernel_rfl) (by kernel_rfl) ?hq8 (Or.inl ⟨?hw8, ?hy8⟩) (by assumption) ?rest8
  case hi8 => exact rfl
  case hq8 => exact fun _ _ _ h => h
  case hw8 => rfl
  case hy8 => (intro x hx; (try dsimp only at hx); simp only [List.getElem_toArray, List.getElem_cons_succ, List.getElem_cons_zero]; go_split_ands; go_simp; try with_reducible rfl)
  try simp only [Act.put, List.setIfInBounds_toArray, List.set_cons_zero, List.set_cons_succ, List.getElem_toArray, List.getElem_cons_succ, List.getElem_cons_zero]
  refine wpAnyH_done (by kernel_rfl) ?_ _
  have HQ2 : Hid (∃ q, wr.drew = w.drewN q) := Lib.hid (by obtain ⟨q, rfl⟩ := HQ.out; exact ⟨q + 1, rfl⟩)
  clear hS1 c0 c1 d0 d1
  go_wp2
  go_roundw
  case rel => exact ⟨i + 1, by omega, by go_num, HQ2⟩
  case measure => simp [intOf]; omega
end Go.Proofs.YtknjhlbhbnldpaaGreatDoor.C
namespace Go.Proofs.YtknjhlbhbnldpaaGreatDoor.C
open Go.RowKit

set_option maxRecDepth 100000 in
set_option maxHeartbeats 8000000 in
theorem refSame_yes (w : World) (Ba Bb : Nat) (a1 a2 a3 a4 b1 b2 b3 b4 : Value) (l : Loc) (ha : LocR w Ba a1 a2 a3 a4 l) (hb : LocR w Bb b1 b2 b3 b4 l) (hBa : Ba ≤ w.heap.size) (hBb : Bb ≤ w.heap.size) (hfew : l.ord.length ≤ 500) :
  Calls Tryz.prog 18 #[.agg #[a1, a2, a3, a4], .agg #[b1, b2, b3, b4]] w fun e w' => e = .returned (.bool true) ∧ Below w.heap.size w w' := by
 obtain ⟨⟨A1, c1, x1, rfl, -⟩, ⟨A2, c2, rfl, -⟩, ⟨A3, c3, rfl, -⟩, ⟨A4, c4, x4, rfl, -⟩, -⟩ := id ha
 obtain ⟨⟨B1, d1, y1, rfl, -⟩, ⟨B2, d2, rfl, -⟩, ⟨B3, d3, rfl, -⟩, ⟨B4, d4, y4, rfl, -⟩, -⟩ := id hb
 obtain ⟨W, hW⟩ : ∃ W, W = (w.alloc (.cells #[.slice A1 l.cls.length c1, .slice A2 l.up.length c2, .slice A3 l.lo.length c3, .slice A4 l.ord.length c4] 30)).alloc (.cells #[.slice B1 l.cls.length d1, .slice B2 l.up.length d2, .slice B3 l.lo.length d3, .slice B4 l.ord.length d4] 30) := ⟨_, rfl⟩
 have hs1 : (w.alloc (.cells #[.slice A1 l.cls.length c1, .slice A2 l.up.length c2, .slice A3 l.lo.length c3, .slice A4 l.ord.length c4] 30)).heap.size = w.heap.size + 1 := by simp
 have hbW : Below w.heap.size w W := by rw [hW]; exact ((Below.refl _ _).alloc (Nat.le_refl _) _).alloc (by simp) _
 have hE : LocZ W w.heap.size (.slice A1 l.cls.length c1) (.slice A2 l.up.length c2) (.slice A3 l.lo.length c3) (.slice A4 l.ord.length c4) := by
  unfold LocZ
  rw [hW, heap_lt _ _ (by simp), heap_new]
 have hF : LocZ W (w.heap.size + 1) (.slice B1 l.cls.length d1) (.slice B2 l.up.length d2) (.slice B3 l.lo.length d3) (.slice B4 l.ord.length d4) := by
  show W.heap[w.heap.size + 1]? = _
  rw [hW, ← hs1]
  exact heap_alloc_new _ _
 obtain ⟨p1, p2, p3, p4, n1, n2, n3⟩ := (ha.on hbW hBa).more (Nat.le_trans hBa hbW.size)
 obtain ⟨q1, q2, q3, q4, -⟩ := (hb.on hbW hBb).more (Nat.le_trans hBb hbW.size)
 have hu : ∀ W' : World, (∃ q, W' = W.drewN q) → Calls Tryz.prog 47 #[.slice A2 l.up.length c2, .slice B2 l.up.length d2] W' fun e w' => e = .returned (.bool true) ∧ ∃ q, w' = W'.drewN q := by
  rintro _ ⟨q, rfl⟩
  obtain ⟨_, _, e1, s1⟩ := p2
  obtain ⟨_, _, e2, s2⟩ := q2
  injection e1 with e1 _ e3
  injection e2 with e2 _ e4
  subst e1 e2 e3 e4
  exact samePairs_yes _ _ _ _ _ _ _ _ (s1.drewN q) (s2.drewN q) n2
 have hl : ∀ W' : World, (∃ q, W' = W.drewN q) → Calls Tryz.prog 47 #[.slice A3 l.lo.length c3, .slice B3 l.lo.length d3] W' fun e w' => e = .returned (.bool true) ∧ ∃ q, w' = W'.drewN q := by
  rintro _ ⟨q, rfl⟩
  obtain ⟨_, _, e1, s1⟩ := p3
  obtain ⟨_, _, e2, s2⟩ := q3
  injection e1 with e1 _ e3
  injection e2 with e2 _ e4
  subst e1 e2 e3 e4
  exact samePairs_yes _ _ _ _ _ _ _ _ (s1.drewN q) (s2.drewN q) n3
 obtain ⟨e0, e1, e2, e3⟩ := hE.cells
 obtain ⟨f0, f1, f2, f3⟩ := hF.cells
 have HBW := Lib.hid hbW
 have HE := Lib.hid hE
 have HF := Lib.hid hF
 have HP1 := Lib.hid p1
 have HP4 := Lib.hid p4
 have HQ1 := Lib.hid q1
 have HQ4 := Lib.hid q4
 have HU := Lib.hid (hu W ⟨0, rfl⟩)
 have HL := Lib.hid hl
 have k1 : ((l.cls.length : Int) == (l.cls.length : Int)) = true := by simp
 have k4 : ((l.ord.length : Int) == (l.ord.length : Int)) = true := by simp
 unfold maxLen at n1
 rw [hW] at e0 e1 e2 e3 f0 f1 f2 f3
 clear ha hb hs1 hbW hE hF p1 p2 p3 p4 q1 q2 q3 q4 hu hl n2 n3
 go_enter Tryz.func18, Tryz.ntmps18
 go_wp2_with fail
 rw [← hW]
 with_reducible refine HU.out.mono ?_
 rintro e wu ⟨rfl, hwu⟩
 have hlo := HL.out wu hwu
 have hEu : LocZ wu w.heap.size (.slice A1 l.cls.length c1) (.slice A2 l.up.length c2) (.slice A3 l.lo.length c3) (.slice A4 l.ord.length c4) := by obtain ⟨q, rfl⟩ := hwu; exact HE.out
 have hFu : LocZ wu (w.heap.size + 1) (.slice B1 l.cls.length d1) (.slice B2 l.up.length d2) (.slice B3 l.lo.length d3) (.slice B4 l.ord.length d4) := by obtain ⟨q, rfl⟩ := hwu; exact HF.out
 obtain ⟨g0, g1, g2, g3⟩ := hEu.cells
 obtain ⟨h0, h1, h2, h3⟩ := hFu.cells
 have HWU := Lib.hid hwu
 clear e0 e1 e2 e3 f0 f1 f2 f3 hEu hFu hwu
 go_wp2_with fail
 with_reducible refine hlo.mono ?_
 rintro e wv ⟨rfl, hwv⟩
 have HST0 : Hid (Below W.heap.size W wv) := Lib.hid (by obtain ⟨q, rfl⟩ := HWU.out; obtain ⟨q', rfl⟩ := hwv; exact ⟨rfl, rfl, rfl, Nat.le_refl _, fun _ _ => rfl⟩)
 have HEv : ∀ W' : World, Below W.heap.size W W' → LocZ W' w.heap.size (.slice A1 l.cls.length c1) (.slice A2 l.up.length c2) (.slice A3 l.lo.length c3) (.slice A4 l.ord.length c4) := fun W' h => (h.block _ HE.out.lt).trans HE.out
 have HFv : ∀ W' : World, Below W.heap.size W W' → LocZ W' (w.heap.size + 1) (.slice B1 l.cls.length d1) (.slice B2 l.up.length d2) (.slice B3 l.lo.length d3) (.slice B4 l.ord.length d4) := fun W' h => (h.block _ HF.out.lt).trans HF.out
 have HEV := Lib.hid HEv
 have HFV := Lib.hid HFv
 clear hlo hwv g0 g1 g2 g3 h0 h1 h2 h3 HEv HFv hW
 go_wp2
 go_loopw [5] (fun iv wr => ∃ i : Nat, i ≤ l.cls.length ∧ iv = .int .i64 i ∧ Hid (Below W.heap.size W wr)) (fun iv _ => l.cls.length - (intOf iv).toNat)
 case atStart => exact ⟨0, Nat.zero_le _, rfl, HST0⟩
 case round =>
  obtain ⟨wp, hwp⟩ : ∃ wp, wp = wr := ⟨_, rfl⟩
  subst hwp
  obtain ⟨i, hin, rfl, HST⟩ := hrel
  obtain ⟨e0, -, -, e3⟩ := (HEV.out _ HST.out).cells
  obtain ⟨f0, -, -, f3⟩ := (HFV.out _ HST.out).cells
  by_cases hlt : i < l.cls.length
  ·obtain ⟨k, hki⟩ : ∃ k, l.cls[i]? = some k := ⟨_, List.getElem?_eq_getElem hlt⟩
   obtain ⟨ad, ca, Ax, cx, hA, _, u0, u1, hpx, hnk⟩ := clsR_at (HP1.out.on HST.out (Nat.le_refl _)) hki
   obtain ⟨bd, cb, Ay, cy, hB, _, v0, v1, hpy, _⟩ := clsR_at (HQ1.out.on HST.out (Nat.le_refl _)) hki
   injection hA with hA _ hC
   injection hB with hB _ hD
   subst hA hB hC hD
   obtain ⟨nm, rs⟩ := k
   dsimp only at u0 u1 hpx hnk v0 v1 hpy
   unfold maxLen at hnk
   have i0 : (0 : Int) ≤ (i : Int) := by omega
   have i1 : (i : Int) < (l.cls.length : Int) := by omega
   obtain ⟨W1, hW1⟩ : ∃ W1, W1 = (wp.alloc (.cells #[.string (str nm), .slice Ax rs.length cx] 86)).alloc (.cells #[.string (str nm), .slice Ay rs.length cy] 86) := ⟨_, rfl⟩
   have hs2 : (wp.alloc (.cells #[.string (str nm), .slice Ax rs.length cx] 86)).heap.size = wp.heap.size + 1 := by simp
   have hb1 : Below wp.heap.size wp W1 := by rw [hW1]; exact ((Below.refl _ _).alloc (Nat.le_refl _) _).alloc (by simp) _
   have hX : Rw W1 wp.heap.size 86 #[.string (str nm), .slice Ax rs.length cx] := by
    show W1.heap[wp.heap.size]? = _
    rw [hW1, heap_lt _ _ (by simp), heap_new]
   have hY : Rw W1 (wp.heap.size + 1) 86 #[.string (str nm), .slice Ay rs.length cy] := by
    show W1.heap[wp.heap.size + 1]? = _
    rw [hW1, ← hs2]
    exact heap_alloc_new _ _
   have HX := Lib.hid hX
   have HY := Lib.hid hY
   have HK1 : Hid (Below W.heap.size W W1) := Lib.hid (HST.out.trans (hb1.mono HST.out.size))
   have HPX := Lib.hid (hpx.on (hb1.mono HST.out.size) (Nat.le_refl _))
   have HPY := Lib.hid (hpy.on (hb1.mono HST.out.size) (Nat.le_refl _))
   have z0 : W1.cell? ⟨wp.heap.size, 0, none⟩ = some (.string (str nm)) := hX.cell rfl
   have z1 : W1.cell? ⟨wp.heap.size, 1, none⟩ = some (.slice Ax rs.length cx) := hX.cell rfl
   have z2 : W1.cell? ⟨wp.heap.size + 1, 0, none⟩ = some (.string (str nm)) := hY.cell rfl
   have z3 : W1.cell? ⟨wp.heap.size + 1, 1, none⟩ = some (.slice Ay rs.length cy) := hY.cell rfl
   have k5 : ((rs.length : Int) == (rs.length : Int)) = true := by simp
   have f0' : ∀ o, (wp.alloc o).cell? ⟨w.heap.size + 1, 0, none⟩ = some (.slice (some bd) l.cls.length d1) := fun o => Lib.cell?_alloc_some o f0
   have v0' : ∀ o, (wp.alloc o).cell? (bd.add (i * 2)) = some (.string (str nm)) := fun o => Lib.cell?_alloc_some o v0
   have v1' : ∀ o, (wp.alloc o).cell? ⟨(bd.add (i * 2)).block, (bd.add (i * 2)).off + 1, none⟩ = some (.slice Ay rs.length cy) := fun o => Lib.cell?_alloc_some o v1
   rw [hW1] at z0 z1 z2 z3
   clear hpx hpy hb1 hX hY hki hs2 f0 v0 v1 e3 f3
   go_wp2
   rw [← hW1]
   clear hW1 z0 z1 z2 z3 f0' v0' v1' e0 u0 u1
   obtain ⟨X, hX⟩ : ∃ X, X = wp.heap.size := ⟨_, rfl⟩
   obtain ⟨Y, hY⟩ : ∃ Y, Y = wp.heap.size + 1 := ⟨_, rfl⟩
   rw [← hY] at HY ⊢
   rw [← hX] at HX ⊢
   clear hX hY
   go_loopw [8] (fun jv wr => ∃ j : Nat, j ≤ rs.length ∧ jv = .int .i64 j ∧ Hid (∃ q, wr = W1.drewN q)) (fun jv _ => rs.length - (intOf jv).toNat)
   case atStart => exact ⟨0, Nat.zero_le _, rfl, Lib.hid ⟨0, rfl⟩⟩
   case round =>
    obtain ⟨wi, hwi⟩ : ∃ wi, wi = wr := ⟨_, rfl⟩
    subst hwi
    obtain ⟨j, hjn, rfl, HQ⟩ := hrel
    have x1 : wi.cell? ⟨X, 1, none⟩ = some (.slice Ax rs.length cx) := by obtain ⟨q, rfl⟩ := HQ.out; exact HX.out.cell rfl
    have y1 : wi.cell? ⟨Y, 1, none⟩ = some (.slice Ay rs.length cy) := by obtain ⟨q, rfl⟩ := HQ.out; exact HY.out.cell rfl
    by_cases hjl : j < rs.length
    ·obtain ⟨r, hrj⟩ : ∃ r, rs[j]? = some r := ⟨_, List.getElem?_eq_getElem hjl⟩
     obtain ⟨_, _, g1, hsx⟩ := HPX.out
     obtain ⟨_, _, g2, hsy⟩ := HPY.out
     injection g1 with g1 _ g3
     injection g2 with g2 _ g4
     subst g1 g2 g3 g4
     have hsx2 : SI 2 wi W.heap.size Ax rs.length (rs.map prRow) := by obtain ⟨q, rfl⟩ := HQ.out; exact hsx.drewN q
     have hsy2 : SI 2 wi W.heap.size Ay rs.length (rs.map prRow) := by obtain ⟨q, rfl⟩ := HQ.out; exact hsy.drewN q
     obtain ⟨rd, rfl, _, c0, c1⟩ := prsR_at hsx2 hrj
     obtain ⟨sd, rfl, _, t0, t1⟩ := prsR_at hsy2 hrj
     obtain ⟨a, b⟩ := r
     dsimp only at c0 c1 t0 t1
     have j0 : (0 : Int) ≤ (j : Int) := by omega
     have j1 : (j : Int) < (rs.length : Int) := by omega
     clear hsx hsy hsx2 hsy2 hrj
     go_wp2
     refine wp_region_held (S := fun W' : World => W'.cell? ⟨X, 1, none⟩ = some (.slice (some rd) rs.length cx) ∧ W'.cell? ⟨Y, 1, none⟩ = some (.slice (some sd) rs.length cy) ∧ W'.cell? (rd.add (j * 2)) = some (.int .i32 a) ∧ W'.cell? ⟨(rd.add (j * 2)).block, (rd.add (j * 2)).off + 1, none⟩ = some (.int .i32 b) ∧ W'.cell? (sd.add (j * 2)) = some (.int .i32 a) ∧ W'.cell? ⟨(sd.add (j * 2)).block, (sd.add (j * 2)).off + 1, none⟩ = some (.int .i32 b)) (by kernel_rfl) ?_
     change wpAnyH _ _ _ _ _ _ _ _ wi.drew
     have hS1 : (fun W' : World => W'.cell? ⟨X, 1, none⟩ = some (.slice (some rd) rs.length cx) ∧ W'.cell? ⟨Y, 1, none⟩ = some (.slice (some sd) rs.length cy) ∧ W'.cell? (rd.add (j * 2)) = some (.int .i32 a) ∧ W'.cell? ⟨(rd.add (j * 2)).block, (rd.add (j * 2)).off + 1, none⟩ = some (.int .i32 b) ∧ W'.cell? (sd.add (j * 2)) = some (.int .i32 a) ∧ W'.cell? ⟨(sd.add (j * 2)).block, (sd.add (j * 2)).off + 1, none⟩ = some (.int .i32 b)) wi.drew := ⟨x1, y1, c0, c1, t0, t1⟩
     refine wpAnyH_take (i := 0) (oi := ?oi0) (v := ?v0) ?hi0 (by kernel_rfl) (by kernel_rfl) (by kernel_rfl) ?hq0 (Or.inl ⟨?hw0, ?hy0⟩) (by assumption) ?rest0
     case hi0 => exact rfl
     case hq0 => exact fun _ _ _ h => h
     case hw0 => rfl
     case hy0 => (intro x hx; (try dsimp only at hx); simp only [List.getElem_toArray, List.getElem_cons_zero]; go_split_ands; go_simp; try with_reducible rfl)
     try simp only [Act.put, List.setIfInBounds_toArray, List.set_cons_zero, List.set_cons_succ, List.getElem_toArray, List.getElem_cons_zero]
     refine wpAnyH_take (i := 1) (oi := ?oi1) (v := ?v1) ?hi1 (by kernel_rfl) (by kernel_rfl) (by kernel_rfl) ?hq1 (Or.inl ⟨?hw1, ?hy1⟩) (by assumption) ?rest1
     case hi1 => exact rfl
     case hq1 => exact fun _ _ _ h => h
     case hw1 => rfl
     case hy1 => (intro x hx; (try dsimp only at hx); simp only [List.getElem_toArray, List.getElem_cons_succ, List.getElem_cons_zero]; go_split_ands; go_simp; try with_reducible rfl)
     try simp only [Act.put, List.setIfInBounds_toArray, List.set_cons_zero, List.set_cons_succ, List.getElem_toArray, List.getElem_cons_succ, List.getElem_cons_zero]
     refine wpAnyH_take (i := 2) (oi := ?oi2) (v := ?v2) ?hi2 (by kernel_rfl) (by kernel_rfl) (by kernel_rfl) ?hq2 (Or.inl ⟨?hw2, ?hy2⟩) (by assumption) ?rest2
     case hi2 => exact rfl
     case hq2 => exact fun _ _ _ h => h
     case hw2 => rfl
     case hy2 => (intro x hx; (try dsimp only at hx); simp only [List.getElem_toArray, List.getElem_cons_succ, List.getElem_cons_zero]; go_split_ands; go_simp; try with_reducible rfl)
     try simp only [Act.put, List.setIfInBounds_toArray, List.set_cons_zero, List.set_cons_succ, List.getElem_toArray, List.getElem_cons_succ, List.getElem_cons_zero]
     refine wpAnyH_take (i := 3) (oi := ?oi3) (v := ?v3) ?hi3 (by kernel_rfl) (by kernel_rfl) (by kernel_rfl) ?hq3 (Or.inl ⟨?hw3, ?hy3⟩) (by assumption) ?rest3
     case hi3 => exact rfl
     case hq3 => exact fun _ _ _ h => h
     case hw3 => rfl
     case hy3 => (intro x hx; (try dsimp only at hx); simp only [List.getElem_toArray, List.getElem_cons_succ, List.getElem_cons_zero]; go_split_ands; go_simp; try with_reducible rfl)
     try simp only [Act.put, List.setIfInBounds_toArray, List.set_cons_zero, List.set_cons_succ, List.getElem_toArray, List.getElem_cons_succ, List.getElem_cons_zero]
     refine wpAnyH_take (i := 4) (oi := ?oi4) (v := ?v4) ?hi4 (by kernel_rfl) (by kernel_rfl) (by kernel_rfl) ?hq4 (Or.inl ⟨?hw4, ?hy4⟩) (by assumption) ?rest4
     case hi4 => exact rfl
     case hq4 => exact fun _ _ _ h => h
     case hw4 => rfl
     case hy4 => (intro x hx; (try dsimp only at hx); simp only [List.getElem_toArray, List.getElem_cons_succ, List.getElem_cons_zero]; go_split_ands; go_simp; try with_reducible rfl)
     try simp only [Act.put, List.setIfInBounds_toArray, List.set_cons_zero, List.set_cons_succ, List.getElem_toArray, List.getElem_cons_succ, List.getElem_cons_zero]
     refine wpAnyH_take (i := 5) (oi := ?oi5) (v := ?v5) ?hi5 (by kernel_rfl) (by kernel_rfl) (by kernel_rfl) ?hq5 (Or.inl ⟨?hw5, ?hy5⟩) (by assumption) ?rest5
     case hi5 => exact rfl
     case hq5 => exact fun _ _ _ h => h
     case hw5 => rfl
     case hy5 => (intro x hx; (try dsimp only at hx); simp only [List.getElem_toArray, List.getElem_cons_succ, List.getElem_cons_zero]; go_split_ands; go_simp; try with_reducible rfl)
     try simp only [Act.put, List.setIfInBounds_toArray, List.set_cons_zero, List.set_cons_succ, List.getElem_toArray, List.getElem_cons_succ, List.getElem_cons_zero]
     refine wpAnyH_take (i := 6) (oi := ?oi6) (v := ?v6) ?hi6 (by kernel_rfl) (by kernel_rfl) (by kernel_rfl) ?hq6 (Or.inl ⟨?hw6, ?hy6⟩) (by assumption) ?rest6
     case hi6 => exact rfl
     case hq6 => exact fun _ _ _ h => h
     case hw6 => rfl
     case hy6 => (intro x hx; (try dsimp only at hx); simp only [List.getElem_toArray, List.getElem_cons_succ, List.getElem_cons_zero]; go_split_ands; go_simp; try with_reducible rfl)
     try simp only [Act.put, List.setIfInBounds_toArray, List.set_cons_zero, List.set_cons_succ, List.getElem_toArray, List.getElem_cons_succ, List.getElem_cons_zero]
     refine wpAnyH_take (i := 7) (oi := ?oi7) (v := ?v7) ?hi7 (by kernel_rfl) (by kernel_rfl) (by kernel_rfl) ?hq7 (Or.inl ⟨?hw7, ?hy7⟩) (by assumption) ?rest7
     case hi7 => exact rfl
     case hq7 => exact fun _ _ _ h => h
     case hw7 => rfl
     case hy7 => (intro x hx; (try dsimp only at hx); simp only [List.getElem_toArray, List.getElem_cons_succ, List.getElem_cons_zero]; go_split_ands; go_simp; try with_reducible rfl)
     try simp only [Act.put, List.setIfInBounds_toArray, List.set_cons_zero, List.set_cons_succ, List.getElem_toArray, List.getElem_cons_succ, List.getElem_cons_zero]
     refine wpAnyH_take (i := 8) (oi := ?oi8) (v := ?v8) ?hi8 (by kernel_rfl) (by kernel_rfl) (by kernel_rfl) ?hq8 (Or.inl ⟨?hw8, ?hy8⟩) (by assumption) ?rest8
     case hi8 => exact rfl
     case hq8 => exact fun _ _ _ h => h
     case hw8 => rfl
     case hy8 => (intro x hx; (try dsimp only at hx); simp only [List.getElem_toArray, List.getElem_cons_succ, List.getElem_cons_zero]; go_split_ands; go_simp; try with_reducible rfl)
     try simp only [Act.put, List.setIfInBounds_toArray, List.set_cons_zero, List.set_cons_succ, List.getElem_toArray, List.getElem_cons_succ, List.getElem_cons_zero]
     refine wpAnyH_take (i := 9) (oi := ?oi9) (v := ?v9) ?hi9 (by kernel_rfl) (by kernel_rfl) (by kernel_rfl) ?hq9 (Or.inl ⟨?hw9, ?hy9⟩) (by assumption) ?rest9
     case hi9 => exact rfl
     case hq9 => exact fun _ _ _ h => h
     case hw9 => rfl
     case hy9 => (intro x hx; (try dsimp only at hx); simp only [List.getElem_toArray, List.getElem_cons_succ, List.getElem_cons_zero]; go_split_ands; go_simp; try with_reducible rfl)
     try simp only [Act.put, List.setIfInBounds_toArray, List.set_cons_zero, List.set_cons_succ, List.getElem_toArray, List.getElem_cons_succ, List.getElem_cons_zero]
     refine wpAnyH_take (i := 10) (oi := ?oi10) (v := ?v10) ?hi10 (by kernel_rfl) (by kernel_rfl) (by kernel_rfl) ?hq10 (Or.inl ⟨?hw10, ?hy10⟩) (by assumption) ?rest10
     case hi10 => exact rfl
     case hq10 => exact fun _ _ _ h => h
     case hw10 => rfl
     case hy10 => (intro x hx; (try dsimp only at hx); simp only [List.getElem_toArray, List.getElem_cons_succ, List.getElem_cons_zero]; go_split_ands; go_simp; try with_reducible rfl)
     try simp only [Act.put, List.setIfInBounds_toArray, List.set_cons_zero, List.set_cons_succ, List.getElem_toArray, List.getElem_cons_succ, List.getElem_cons_zero]
     refine wpAnyH_done (by kernel_rfl) ?_ _
     have HQ2 : Hid (∃ q, wi.drew = W1.drewN q) := Lib.hid (by obtain ⟨q, rfl⟩ := HQ.out; exact ⟨q + 1, rfl⟩)
     clear hS1 c0 c1 t0 t1 x1 y1
     go_wp2
     go_roundw
     case rel => exact ⟨j + 1, by omega, by go_num, HQ2⟩
     case measure => simp [intOf]; omega
    ·obtain rfl : j = rs.length := by omega
     have HK2 : Hid (Below W.heap.size W wi) := Lib.hid (by obtain ⟨q, rfl⟩ := HQ.out; exact ⟨HK1.out.os, HK1.out.tape, HK1.out.output, HK1.out.size, HK1.out.block⟩)
     clear y1
     go_wp2
     go_roundw
     case rel => exact ⟨i + 1, by omega, by go_num, HK2⟩
     case measure => simp [intOf]; omega
  ·obtain rfl : i = l.cls.length := by omega
   clear hlt hin f0 f3 e3
   go_wp2
   go_loopw [9] (fun iv wr => ∃ i : Nat, i ≤ l.ord.length ∧ iv = .int .i64 i ∧ Hid (Below W.heap.size W wr)) (fun iv _ => l.ord.length - (intOf iv).toNat)
   case atStart => exact ⟨0, Nat.zero_le _, rfl, HST⟩
   case round =>
    obtain ⟨wo, hwo⟩ : ∃ wo, wo = wr := ⟨_, rfl⟩
    subst hwo
    obtain ⟨i, hin, rfl, HSU⟩ := hrel
    obtain ⟨-, -, -, e3⟩ := (HEV.out _ HSU.out).cells
    obtain ⟨-, -, -, f3⟩ := (HFV.out _ HSU.out).cells
    by_cases hlt : i < l.ord.length
    ·obtain ⟨k, hki⟩ : ∃ k, l.ord[i]? = some k := ⟨_, List.getElem?_eq_getElem hlt⟩
     obtain ⟨ad, ca, Ax, cx, hA, _, u0, u1, u2, hpx⟩ := elmR_at (HP4.out.on HSU.out (Nat.le_refl _)) hki
     obtain ⟨bd, cb, Ay, cy, hB, _, v0, v1, v2, hpy⟩ := elmR_at (HQ4.out.on HSU.out (Nat.le_refl _)) hki
     obtain ⟨_, _, _, hO, _, hOl⟩ := HP4.out
     obtain ⟨_, _, _, _, hnk⟩ := hOl i k hki
     injection hA with hA _ hC
     injection hB with hB _ hD
     subst hA hB hC hD
     obtain ⟨nm, cs, sm⟩ := k
     dsimp only at u0 u1 u2 hpx hnk v0 v1 v2 hpy
     have hnk := hnk.2
     have i0 : (0 : Int) ≤ (i : Int) := by omega
     have i1 : (i : Int) < (l.ord.length : Int) := by omega
     obtain ⟨W1, hW1⟩ : ∃ W1, W1 = (wo.alloc (.cells #[.string (str nm), .slice Ax cs.length cx, .int .i64 sm] 39)).alloc (.cells #[.string (str nm), .slice Ay cs.length cy, .int .i64 sm] 39) := ⟨_, rfl⟩
     have hs2 : (wo.alloc (.cells #[.string (str nm), .slice Ax cs.length cx, .int .i64 sm] 39)).heap.size = wo.heap.size + 1 := by simp
     have hb1 : Below wo.heap.size wo W1 := by rw [hW1]; exact ((Below.refl _ _).alloc (Nat.le_refl _) _).alloc (by simp) _
     have hX : Rw W1 wo.heap.size 39 #[.string (str nm), .slice Ax cs.length cx, .int .i64 sm] := by
      show W1.heap[wo.heap.size]? = _
      rw [hW1, heap_lt _ _ (by simp), heap_new]
     have hY : Rw W1 (wo.heap.size + 1) 39 #[.string (str nm), .slice Ay cs.length cy, .int .i64 sm] := by
      show W1.heap[wo.heap.size + 1]? = _
      rw [hW1, ← hs2]
      exact heap_alloc_new _ _
     have HK1 : Hid (Below W.heap.size W W1) := Lib.hid (HSU.out.trans (hb1.mono HSU.out.size))
     have hsm := same_yes W1 _ _ Ax Ay cs.length cx cs.length cy cs cs rfl (RI.below hpx (hb1.mono HSU.out.size)) (RI.below hpy (hb1.mono HSU.out.size)) hnk hnk
     have z0 : W1.cell? ⟨wo.heap.size, 0, none⟩ = some (.string (str nm)) := hX.cell rfl
     have z1 : W1.cell? ⟨wo.heap.size, 1, none⟩ = some (.slice Ax cs.length cx) := hX.cell rfl
     have z2 : W1.cell? ⟨wo.heap.size, 2, none⟩ = some (.int .i64 sm) := hX.cell rfl
     have z3 : W1.cell? ⟨wo.heap.size + 1, 0, none⟩ = some (.string (str nm)) := hY.cell rfl
     have z4 : W1.cell? ⟨wo.heap.size + 1, 1, none⟩ = some (.slice Ay cs.length cy) := hY.cell rfl
     have z5 : W1.cell? ⟨wo.heap.size + 1, 2, none⟩ = some (.int .i64 sm) := hY.cell rfl
     have f3' : ∀ o, (wo.alloc o).cell? ⟨w.heap.size + 1, 3, none⟩ = some (.slice (some bd) l.ord.length d4) := fun o => Lib.cell?_alloc_some o f3
     have v0' : ∀ o, (wo.alloc o).cell? (bd.add (i * 3)) = some (.string (str nm)) := fun o => Lib.cell?_alloc_some o v0
     have v1' : ∀ o, (wo.alloc o).cell? ⟨(bd.add (i * 3)).block, (bd.add (i * 3)).off + 1, none⟩ = some (.slice Ay cs.length cy) := fun o => Lib.cell?_alloc_some o v1
     have v2' : ∀ o, (wo.alloc o).cell? ⟨(bd.add (i * 3)).block, (bd.add (i * 3)).off + 2, none⟩ = some (.int .i64 sm) := fun o => Lib.cell?_alloc_some o v2
     rw [hW1] at z0 z1 z2 z3 z4 z5
     clear hpx hpy hb1 hX hY hki hs2 f3 v0 v1 v2 hO hOl hnk
     go_wp2_with fail
     rw [← hW1]
     with_reducible refine hsm.mono ?_
     rintro e w9 ⟨rfl, hq⟩
     have HK2 : Hid (Below W.heap.size W w9) := Lib.hid (by obtain ⟨q, rfl⟩ := hq; exact ⟨HK1.out.os, HK1.out.tape, HK1.out.output, HK1.out.size, HK1.out.block⟩)
     clear hq hsm hW1 z0 z1 z2 z3 z4 z5 f3' v0' v1' v2' e3 u0 u1 u2
     go_wp2
     go_roundw
     case rel => exact ⟨i + 1, by omega, by go_num, HK2⟩
     case measure => simp [intOf]; omega
    ·obtain rfl : i = l.ord.length := by omega
     have HZ : Hid (Below w.heap.size w wo) := Lib.hid (HBW.out.trans (HSU.out.mono HBW.out.size))
     clear f3
     go_wp2
     go_ret
     exact ⟨rfl, HZ.out⟩
end Go.Proofs.YtknjhlbhbnldpaaGreatDoor.C
