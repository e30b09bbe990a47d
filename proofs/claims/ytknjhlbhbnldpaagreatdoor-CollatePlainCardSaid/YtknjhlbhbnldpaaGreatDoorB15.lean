/-
  Joined: LeL, LeM, LfO, KoC, KoD, KoE. Each with what its own head says.
-/
import Derived.Test.YtknjhlbhbnldpaaGreatDoorB12
import Derived.Test.YtknjhlbhbnldpaaGreatDoorB11
import Derived.Test.YtknjhlbhbnldpaaGreatDoorB13


namespace Go.Proofs.YtknjhlbhbnldpaaGreatDoor.C
open Go.RowKit
theorem elemB_len {e : Elm} (h : elemB e = true) : e.cells.length ≤ 4 := by
 obtain ⟨nm, xs, s⟩ := e
 by_cases h1 : xs.length = 1
 ·show xs.length ≤ 4
  omega
 ·rw [elemB_more s h1] at h
  exact (quotB_parts (Bool.and_eq_true_iff.1 (Bool.and_eq_true_iff.1 h).1).1).2.1
set_option maxRecDepth 100000 in
set_option maxHeartbeats 8000000 in
theorem rightOrder_any (w : World) (B : Nat) (v : Value) (o : List Elm) (h : OrdR w B v o) (hB : B ≤ w.heap.size) (hG : Gm w) :
  Calls Tryz.prog 70 #[v] w fun e w' => e = .returned (.bool (ordB o)) ∧ Below w.heap.size w w' := by
 obtain ⟨A, c, xs, rfl, hsi, hel⟩ := h
 by_cases h5 : 500 < o.length
 ·have hr : ordB o = false := by unfold ordB; rw [decide_eq_false (by omega)]; rfl
  have i5 : (500 : Int) < (o.length : Int) := by omega
  rw [hr]
  clear hsi hel hG hr
  go_enter Tryz.func70, Tryz.ntmps70
  go_wp2
  go_ret
  exact ⟨rfl, Below.refl _ _⟩
 have i5 : ¬ (500 : Int) < (o.length : Int) := by omega
 have hmf : ∀ (fn : Fn) (first cap : Array Value) (w : World), (Instr.makeFunc fn first cap).run Tryz.prog w = .ok (.func fn first cap) w := fun _ _ _ _ => rfl
 have HSI := Lib.hid hsi
 have HEL := Lib.hid hel
 have HG := Lib.hid hG
 have HO : Hid (∀ b, (∀ j, j < o.length → elemAt o j = true) → b = true → ordB o = b) := Lib.hid (fun b hb e => by
  subst e
  unfold ordB
  rw [decide_eq_true (by omega), Bool.true_and]
  exact List.all_eq_true.2 fun j hj => hb j (List.mem_range.1 hj))
 have HN : Hid (∀ j, j < o.length → elemAt o j = false → ordB o = false) := Lib.hid (fun j hj hb => by
  unfold ordB
  rw [range_all_false (f := elemAt o) hj (by rw [hb]; rfl), Bool.and_false])
 clear hsi hel hG h5
 go_enter Tryz.func70, Tryz.ntmps70
 go_wp2_with fail
 refine (firstS_any _).mono ?_
 rintro e w1 ⟨rfl, hf1, hb1, hs1⟩
 have HF1 := Lib.hid hf1
 have HB1 := Lib.hid hb1
 have HS1 := Lib.hid hs1
 clear hf1 hb1 hs1
 go_wp2_with fail
 refine (firstS_any _).mono ?_
 rintro e w2 ⟨rfl, hf2, hb2, hs2⟩
 obtain ⟨An, hAn⟩ : ∃ An, An = w.heap.size + 1 := ⟨_, rfl⟩
 obtain ⟨At, hAt⟩ : ∃ At, At = w1.heap.size + 1 := ⟨_, rfl⟩
 obtain ⟨Mt, hMt⟩ : ∃ Mt, Mt = w1.heap.size := ⟨_, rfl⟩
 have HI0 : Hid (RoI w o An w.heap.size At Mt 0 0 w2) := Lib.hid (by
  rw [hAn, hAt, hMt]
  exact ⟨HB1.out.trans (hb2.mono HB1.out.size), HF1.out.next (hb2.block _ HF1.out.lt) (hb2.block _ HF1.out.2.lt), hf2⟩)
 have hne : w.heap.size ≠ Mt := by have := HS1.out; omega
 have hMt2 : w.heap.size ≤ Mt := by have := HB1.out.size; omega
 rw [← hAn, ← hAt]
 have HNE := Lib.hid hne
 have HMT := Lib.hid hMt2
 clear hf2 hb2 hs2 hAn hAt hMt HF1 HB1 HS1 hne hMt2
 go_wp2
 go_loopw [14] (fun iv wr => ∃ i : Nat, i ≤ o.length ∧ iv = .int .i64 i ∧ Hid (RoI w o An w.heap.size At Mt i i wr) ∧ Hid (∀ j, j < i → elemAt o j = true)) (fun iv _ => o.length - (intOf iv).toNat)
 case atStart => exact ⟨0, Nat.zero_le _, rfl, HI0, Lib.hid (fun j hj => absurd hj (by omega))⟩
 case round =>
  obtain ⟨i, hin, rfl, HI, HOK⟩ := hrel
  by_cases hlt : i < o.length
  rotate_left
  ·obtain rfl : i = o.length := by omega
   go_wp2
   go_ret
   exact ⟨by rw [HO.out true HOK.out rfl]; rfl, HI.out.bel⟩
  obtain ⟨e, he⟩ : ∃ e, o[i]? = some e := ⟨_, List.getElem?_eq_getElem hlt⟩
  obtain ⟨Ac, cc, hx1, hri, hnl, -⟩ := HEL.out i e he
  obtain ⟨ad, a1, a2, a3, rfl, hbl, hx2, c0, c1, c2⟩ := (HSI.out.on HI.out.bel hB).at3 hlt
  rw [hx1] at hx2
  simp at hx2
  obtain ⟨rfl, rfl, rfl⟩ := hx2
  obtain ⟨W1, hW1⟩ : ∃ W1, W1 = wr.alloc (.cells #[.string (str e.name), .slice Ac e.cells.length cc, .int .i64 e.same] 39) := ⟨_, rfl⟩
  have hb1 : Below wr.heap.size wr W1 := by rw [hW1]; exact (Below.refl _ _).alloc (Nat.le_refl _) _
  have hI1 := HI.out.below hb1
  have hX1 : Three W1 wr.heap.size 39 (.string (str e.name)) (.slice Ac e.cells.length cc) (.int .i64 e.same) := by rw [hW1]; exact Three.new wr _ _ _ _
  have hs0 := hI1.bel.size
  have hG1 : Gm W1 := HG.out.next hI1.bel
  have hri1 : RI .i32 W1 B Ac e.cells.length e.cells := hri.keep fun p hp => hI1.bel.cell (by omega)
  have hie := isElem_any W1 B Ac e.cells.length cc e.name e.cells e.same hri1 (by omega) hG1 hnl
  rw [show (⟨e.name, e.cells, e.same⟩ : Elm) = e from rfl] at hie
  obtain ⟨q0, q1, q2⟩ := hX1.cells
  rw [hW1] at q0 q1 q2
  have HI1 := Lib.hid hI1
  have HX1 := Lib.hid hX1
  have HR1 := Lib.hid hri1
  have HG1 := Lib.hid hG1
  have HE := Lib.hid he
  have HRI := Lib.hid hri
  have i0 : (0 : Int) ≤ (i : Int) := by omega
  have i1 : (i : Int) < (o.length : Int) := by omega
  clear hI1 hX1 hri1 hG1 hri hb1 hx1 he
  cases heb : elemB e with
  | false =>
   rw [heb] at hie
   have hno := HN.out i hlt (by rw [elemAt_is HE.out, heb]; rfl)
   have HNO := Lib.hid hno
   clear heb hno
   go_wp2_with fail
   rw [← hW1]
   refine hie.mono ?_
   rintro r w3 ⟨rfl, hb3⟩
   have HB3 := Lib.hid (HI1.out.below hb3).bel
   clear hb3 hie
   go_wp2
   go_ret
   exact ⟨by rw [HNO.out]; rfl, HB3.out⟩
  | true =>
   rw [heb] at hie
   have HEB := Lib.hid heb
   clear heb
   go_wp2_with fail
   rw [← hW1]
   refine hie.mono ?_
   rintro r w3 ⟨rfl, hb3⟩
   have hI3 := HI1.out.below hb3
   have hX3 := HX1.out.below hb3
   have hs3 := hI3.bel.size
   have htx := text_any w3 B Ac e.cells.length cc e.cells (HRI.out.keep fun p hp => hI3.bel.cell (by omega)) (by omega) (by have := (elemB_len HEB.out); omega) ((HG.out.next hI3.bel).1)
   obtain ⟨p0, p1, p2⟩ := hX3.cells
   have HI3 := Lib.hid hI3
   have HX3 := Lib.hid hX3
   clear hb3 hI3 hX3 hie q0 q1 q2 c0 c1 c2 hW1
   go_wp2_with fail
   refine htx.mono ?_
   rintro r w4 ⟨rfl, hb4⟩
   have hI4 := HI3.out.below hb4
   have hX4 := HX3.out.below hb4
   have HI4 := Lib.hid hI4
   have HX4 := Lib.hid hX4
   clear hb4 hI4 hX4 htx p0 p1 p2
   by_cases hti : textL e.cells ∈ textsK o i
   ·have hno := HN.out i hlt (by rw [elemAt_is HE.out, (texts_in HOK.out HEB.out).1 hti]; simp)
    have hnew := isNewS_no w4 At Mt (strV (textsK o i)) (str (textL e.cells)) HI4.out.ft (strV_in.2 hti)
    have HNO := Lib.hid hno
    clear hti hno
    go_wp2_with fail
    refine hnew.mono ?_
    rintro r w5 ⟨rfl, hg5⟩
    have HB5 := Lib.hid (HI4.out.end_ hg5 HMT.out)
    clear hg5 hnew
    go_wp2
    go_ret
    exact ⟨by rw [HNO.out]; rfl, HB5.out⟩
   have hnew := isNewS_yes w4 At Mt (strV (textsK o i)) (str (textL e.cells)) HI4.out.ft (fun h => hti (strV_in.1 h))
   have HTI : Hid (((o.take i).any fun x => decide (x.cells = e.cells)) = false) := Lib.hid (by
    cases hq : ((o.take i).any fun x => decide (x.cells = e.cells)) with
    | false => rfl
    | true => exact absurd ((texts_in HOK.out HEB.out).2 hq) hti)
   clear hti
   go_wp2_with fail
   refine hnew.mono ?_
   rintro r w5 ⟨rfl, hf5, hg5⟩
   rw [strV_snoc, ← texts_next HE.out] at hf5
   have hI5 := HI4.out.text hf5 hg5 HNE.out HMT.out
   have hX5 := HX4.out.grown HI4.out.ft.2 hg5
   have hs5 := hI5.bel.size
   have hrs := rightSame_any w5 B (.slice (some ad) o.length c) o ⟨_, c, xs, rfl, HSI.out.on hI5.bel hB, fun j x hj => by
    obtain ⟨u1, u2, u3, u4, u5⟩ := HEL.out j x hj
    exact ⟨u1, u2, u3, u4.keep fun p hp => hI5.bel.cell (by omega), u5⟩⟩ i e HE.out
   have HI5 := Lib.hid hI5
   have HX5 := Lib.hid hX5
   clear hf5 hg5 hI5 hX5 hnew
   cases hsm : sameAt o i e with
   | false =>
    rw [hsm] at hrs
    have hno := HN.out i hlt (by rw [elemAt_is HE.out, hsm]; simp)
    have HNO := Lib.hid hno
    clear hsm hno
    go_wp2_with fail
    refine hrs.mono ?_
    rintro r w6 ⟨rfl, rfl⟩
    clear hrs
    go_wp2
    go_ret
    exact ⟨by rw [HNO.out]; rfl, HI5.out.bel⟩
   | true =>
    rw [hsm] at hrs
    have HSM := Lib.hid hsm
    clear hsm
    go_wp2_with fail
    refine hrs.mono ?_
    rintro r w6 ⟨rfl, rfl⟩
    obtain ⟨p0, p1, p2⟩ := HX5.out.cells
    have hem := str_empty e.name
    clear hrs
    by_cases hnm : e.name = []
    ·have hem2 : (str e.name).toList.isEmpty = true := by rw [hem, hnm]; rfl
     have hI7 : RoI w o An w.heap.size At Mt (i + 1) (i + 1) w6 := by
      have := HI5.out
      refine ⟨this.bel, ?_, this.ft⟩
      rw [names_next HE.out, if_pos hnm]
      exact this.fn
     have hok : ∀ j, j < i + 1 → elemAt o j = true := by
      intro j hj
      rcases Nat.lt_or_ge j i with h | h
      ·exact HOK.out j h
      ·obtain rfl : j = i := by omega
       rw [elemAt_is HE.out, HEB.out, HTI.out, HSM.out, hnm]
       rfl
     have HI7 := Lib.hid hI7
     have HOK7 := Lib.hid hok
     clear hem hnm hI7 hok
     go_wp2
     go_roundw
     case rel => exact ⟨i + 1, by omega, by go_num, HI7, HOK7⟩
     case measure => simp [intOf]; omega
    ·have hem2 : (str e.name).toList.isEmpty = false := by
      rw [hem]
      cases hq : e.name with
      | nil => exact absurd hq hnm
      | cons => rfl
     by_cases hni : e.name ∈ namesK o i
     ·have hno := HN.out i hlt (by
       rw [elemAt_is HE.out, (names_at hnm).1 hni]
       cases hq : e.name with
       | nil => exact absurd hq hnm
       | cons => simp)
      have hnew := isNewS_no w6 An w.heap.size (strV (namesK o i)) (str e.name) HI5.out.fn (strV_in.2 hni)
      have HNO := Lib.hid hno
      clear hem hnm hni hno
      go_wp2_with fail
      refine hnew.mono ?_
      rintro r w7 ⟨rfl, hg7⟩
      have HB7 := Lib.hid (HI5.out.end_ hg7 (Nat.le_refl _))
      clear hg7 hnew
      go_wp2
      go_ret
      exact ⟨by rw [HNO.out]; rfl, HB7.out⟩
     ·have hnew := isNewS_yes w6 An w.heap.size (strV (namesK o i)) (str e.name) HI5.out.fn (fun h => hni (strV_in.1 h))
      have hok : ∀ j, j < i + 1 → elemAt o j = true := by
       intro j hj
       rcases Nat.lt_or_ge j i with h | h
       ·exact HOK.out j h
       ·obtain rfl : j = i := by omega
        have hq : ((o.take j).any fun x => decide (x.name = e.name)) = false := by
         cases hq : ((o.take j).any fun x => decide (x.name = e.name)) with
         | false => rfl
         | true => exact absurd ((names_at hnm).2 hq) hni
        rw [elemAt_is HE.out, HEB.out, HTI.out, HSM.out, hq]
        simp
      have HOK7 := Lib.hid hok
      have HNM := Lib.hid hnm
      clear hem hnm hni hok
      go_wp2_with fail
      refine hnew.mono ?_
      rintro r w7 ⟨rfl, hf7, hg7⟩
      rw [strV_snoc] at hf7
      have HI7 : Hid (RoI w o An w.heap.size At Mt (i + 1) (i + 1) w7) := Lib.hid (HI5.out.name (by rw [names_next HE.out, if_neg HNM.out]; exact hf7) hg7 HNE.out (Nat.le_refl _))
      clear hf7 hg7 hnew
      go_wp2
      go_roundw
      case rel => exact ⟨i + 1, by omega, by go_num, HI7, HOK7⟩
      case measure => simp [intOf]; omega
end Go.Proofs.YtknjhlbhbnldpaaGreatDoor.C


namespace Go.Proofs.YtknjhlbhbnldpaaGreatDoor.C
open Go.RowKit
def LocR (w : World) (B : Nat) (v1 v2 v3 v4 : Value) (l : Loc) : Prop :=
 ClsR w B v1 l.cls ∧ PrsR w B v2 l.up ∧ PrsR w B v3 l.lo ∧ OrdR w B v4 l.ord ∧ l.cls.length ≤ maxLen ∧ l.up.length ≤ maxLen ∧ l.lo.length ≤ maxLen
theorem LocR.on {w w' : World} {B B' : Nat} {v1 v2 v3 v4 : Value} {l : Loc} (h : LocR w B v1 v2 v3 v4 l) (hb : Below B' w w') (hB : B ≤ B') : LocR w' B v1 v2 v3 v4 l :=
 ⟨h.1.on hb hB, h.2.1.on hb hB, h.2.2.1.on hb hB, h.2.2.2.1.on hb hB, h.2.2.2.2⟩
theorem own_len {w : World} {lo n sz : Nat} {v : Value} {xs : List Value} {e : TypeId} (h : w.ownsRow lo e sz v n xs) : n ≤ maxLen := by
 rcases h.2 with ⟨_, h0⟩ | ⟨g, cap, cur, _, _, _, h1, h2, _⟩
 ·rw [h0]; exact Nat.zero_le _
 ·omega
theorem prsC_flat (l : List (Int × Int)) : prsC l = (l.map prRow).flatten := by
 induction l with
 | nil => rfl
 | cons a r ih =>
  have h : prsC (a :: r) = prRow a ++ prsC r := rfl
  rw [h, ih]
  rfl
theorem PrsR.of {w : World} {lo : Nat} {v : Value} {l : List (Int × Int)} {e : TypeId} (h : w.ownsRow lo e 2 v l.length (prsC l)) : PrsR w w.heap.size v l := by
 obtain ⟨A, c, rfl⟩ := row_form h
 rw [prsC_flat] at h
 exact ⟨A, c, rfl, SI.of_own h (by simp) (by intro x hx; obtain ⟨y, _, rfl⟩ := List.mem_map.1 hx; rfl)⟩
theorem clsC_flat (cs : List Cls) (vs : List Value) : clsC cs vs = ((cs.zip vs).map fun x => [Value.string (str x.1.name), x.2]).flatten := by
 unfold clsC
 rw [List.flatMap_def]
theorem ClsR.of {w : World} {lo : Nat} {v : Value} {cs : List Cls} (h : ClsAt w lo v cs) (hn : ∀ c ∈ cs, c.name.length ≤ maxLen) : ClsR w w.heap.size v cs := by
 obtain ⟨vs, h1, h2, h3⟩ := h
 obtain ⟨A, c, rfl⟩ := row_form h2
 rw [clsC_flat] at h2
 refine ⟨A, c, _, rfl, SI.of_own h2 (by simp [h1]) (by intro x hx; obtain ⟨y, _, rfl⟩ := List.mem_map.1 hx; rfl), fun i k hi => ?_⟩
 have hk : i < cs.length := (List.getElem?_eq_some_iff.1 hi).1
 have hv : vs[i]? = some (vs[i]'(by omega)) := List.getElem?_eq_getElem (by omega)
 refine ⟨vs[i]'(by omega), ?_, PrsR.of (h3 i k _ hi hv), hn k (List.mem_of_getElem? hi), own_len (h3 i k _ hi hv)⟩
 have hz : (cs.zip vs)[i]? = some (k, vs[i]'(by omega)) := by rw [List.getElem?_zip_eq_some]; exact ⟨hi, hv⟩
 rw [List.getElem?_map, hz]
 rfl
theorem OrdR.of {w : World} {lo : Nat} {v : Value} {o : List Elm} (h : OrdAt w lo v o) (hn : ∀ e ∈ o, e.name.length ≤ maxLen) : OrdR w w.heap.size v o := by
 obtain ⟨vs, h1, h2, h3⟩ := h
 obtain ⟨A, c, rfl⟩ := row_form h2
 refine ⟨A, c, _, rfl, SI.of_own h2 (ordR_len h1) ordR_each, fun i e hi => ?_⟩
 have hk : i < o.length := (List.getElem?_eq_some_iff.1 hi).1
 have hv : vs[i]? = some (vs[i]'(by omega)) := List.getElem?_eq_getElem (by omega)
 have ho := h3 i e _ hi hv
 obtain ⟨Ac, cc, he⟩ := row_form ho
 refine ⟨Ac, cc, ?_, RI.of_own (e := 23) (by rw [← he]; exact ho), hn e (List.mem_of_getElem? hi), own_len ho⟩
 unfold ordR
 have hz : (o.zip vs)[i]? = some (e, vs[i]'(by omega)) := by rw [List.getElem?_zip_eq_some]; exact ⟨hi, hv⟩
 rw [List.getElem?_map, hz, ← he]
 rfl
theorem LocR.of {w : World} {lo : Nat} {v1 v2 v3 v4 : Value} {l : Loc} (h : LocAt w lo v1 v2 v3 v4 l) (h1 : ∀ c ∈ l.cls, c.name.length ≤ maxLen) (h2 : ∀ e ∈ l.ord, e.name.length ≤ maxLen) : LocR w w.heap.size v1 v2 v3 v4 l := by
 obtain ⟨a1, a2, a3, a4⟩ := h
 have a0 := a1
 obtain ⟨vs, _, b, _⟩ := a0
 exact ⟨ClsR.of a1 h1, PrsR.of a2, PrsR.of a3, OrdR.of a4 h2, own_len b, own_len a2, own_len a3⟩
def Rw (w : World) (b : Nat) (t : TypeId) (xs : Array Value) : Prop := w.heap[b]? = some (.cells xs t (0, 0))
theorem Rw.lt {w : World} {b : Nat} {t : TypeId} {xs : Array Value} (h : Rw w b t xs) : b < w.heap.size := (Array.getElem?_eq_some_iff.1 h).1
theorem Rw.cell {w : World} {b : Nat} {t : TypeId} {xs : Array Value} (h : Rw w b t xs) {i : Nat} {v : Value} (hi : xs[i]? = some v) : w.cell? ⟨b, i, none⟩ = some v := by simp [World.cell?, show w.heap[b]? = _ from h, hi]
theorem Rw.on {w w' : World} {b B : Nat} {t : TypeId} {xs : Array Value} (h : Rw w b t xs) (hb : Below B w w') (hB : b < B) : Rw w' b t xs := (hb.block b hB).trans h
set_option maxRecDepth 100000 in
set_option maxHeartbeats 4000000 in
theorem locRight_any (w : World) (B : Nat) (v1 v2 v3 v4 : Value) (l : Loc) (h : LocR w B v1 v2 v3 v4 l) (hB : B ≤ w.heap.size) (hG : Gm w) :
  Calls Tryz.prog 27 #[.agg #[v1, v2, v3, v4]] w fun e w' => e = .returned (.bool (rightL l)) ∧ Below w.heap.size w w' := by
 obtain ⟨W, hW⟩ : ∃ W, W = w.alloc (.cells #[v1, v2, v3, v4] 30) := ⟨_, rfl⟩
 have hb : Below w.heap.size w W := by rw [hW]; exact (Below.refl _ _).alloc (Nat.le_refl _) _
 have hGW := hG.next hb
 have hR := h.on hb hB
 have hsz := hb.size
 obtain ⟨r1, r2, r3, r4, n1, n2, n3⟩ := hR
 have hrow : Rw W w.heap.size 30 #[v1, v2, v3, v4] := by rw [hW]; exact heap_alloc_new w _
 obtain ⟨⟨A1, c1, x1, rfl, -⟩, ⟨A2, c2, rfl, -⟩, ⟨A3, c3, rfl, -⟩, ⟨A4, c4, x4, rfl, -⟩, -⟩ := h
 have d1 := rightClasses_any W B _ l.cls r1 (by omega) n1
 have HG := Lib.hid hGW
 have HR2 := Lib.hid r2
 have HR3 := Lib.hid r3
 have HR4 := Lib.hid r4
 have HB := Lib.hid hb
 have HW := Lib.hid hrow
 have HN2 := Lib.hid n2
 have HN3 := Lib.hid n3
 have HBW : Hid (B ≤ W.heap.size) := Lib.hid (by omega)
 clear r1 r2 r3 r4 hG hGW hb hrow n1 n2 n3 hsz hB
 go_enter Tryz.func27, Tryz.ntmps27
 go_wp2_with fail
 rw [← hW]
 refine d1.mono ?_
 rintro e w1 ⟨rfl, hb1⟩
 have HB1 := Lib.hid hb1
 clear hb1 d1
 cases k1 : clsB l.cls with
 | false =>
  have hr : rightL l = false := by unfold rightL; rw [k1]; rfl
  go_wp2
  go_ret
  exact ⟨by rw [hr]; rfl, HB.out.trans (HB1.out.mono HB.out.size)⟩
 | true =>
  have d2 := rightPairs_any w1 B _ l.up (HR2.out.on HB1.out HBW.out) (Nat.le_trans HBW.out HB1.out.size) HN2.out
  have p1 := (HW.out.on HB1.out HW.out.lt).cell (i := 1) rfl
  go_wp2_with fail
  refine d2.mono ?_
  rintro e w2 ⟨rfl, hb2⟩
  have HB2 := Lib.hid (HB1.out.trans (hb2.mono HB1.out.size))
  clear hb2 d2 p1
  cases k2 : pairsB l.up with
  | false =>
   have hr : rightL l = false := by unfold rightL; rw [k1, k2]; rfl
   go_wp2
   go_ret
   exact ⟨by rw [hr]; rfl, HB.out.trans (HB2.out.mono HB.out.size)⟩
  | true =>
   have d3 := rightPairs_any w2 B _ l.lo (HR3.out.on HB2.out HBW.out) (Nat.le_trans HBW.out HB2.out.size) HN3.out
   have p2 := (HW.out.on HB2.out HW.out.lt).cell (i := 2) rfl
   go_wp2_with fail
   refine d3.mono ?_
   rintro e w3 ⟨rfl, hb3⟩
   have HB3 := Lib.hid (HB2.out.trans (hb3.mono HB2.out.size))
   clear hb3 d3 p2
   cases k3 : pairsB l.lo with
   | false =>
    have hr : rightL l = false := by unfold rightL; rw [k1, k2, k3]; rfl
    go_wp2
    go_ret
    exact ⟨by rw [hr]; rfl, HB.out.trans (HB3.out.mono HB.out.size)⟩
   | true =>
    have d4 := rightOrder_any w3 B _ l.ord (HR4.out.on HB3.out HBW.out) (Nat.le_trans HBW.out HB3.out.size) (HG.out.next HB3.out)
    have p3 := (HW.out.on HB3.out HW.out.lt).cell (i := 3) rfl
    have hr : rightL l = ordB l.ord := by unfold rightL; rw [k1, k2, k3]; rfl
    go_wp2_with fail
    refine d4.mono ?_
    rintro e w4 ⟨rfl, hb4⟩
    have HB4 := Lib.hid (HB3.out.trans (hb4.mono HB3.out.size))
    clear hb4 d4 p3
    go_wp2
    go_ret
    exact ⟨by rw [hr]; rfl, HB.out.trans (HB4.out.mono HB.out.size)⟩
end Go.Proofs.YtknjhlbhbnldpaaGreatDoor.C


namespace Go.Proofs.YtknjhlbhbnldpaaGreatDoor.C
open Go.RowKit
theorem PrsR.more {w : World} {B B' : Nat} {v : Value} {l : List (Int × Int)} (h : PrsR w B v l) (hB : B ≤ B') : PrsR w B' v l := by
 obtain ⟨A, c, e, h1⟩ := h
 exact ⟨A, c, e, h1.more hB⟩
theorem ClsR.more {w : World} {B B' : Nat} {v : Value} {l : List Cls} (h : ClsR w B v l) (hB : B ≤ B') : ClsR w B' v l := by
 obtain ⟨A, c, xs, e, h1, h2⟩ := h
 refine ⟨A, c, xs, e, h1.more hB, fun i k hi => ?_⟩
 obtain ⟨u, a1, a2, a3⟩ := h2 i k hi
 exact ⟨u, a1, a2.more hB, a3⟩
theorem OrdR.more {w : World} {B B' : Nat} {v : Value} {l : List Elm} (h : OrdR w B v l) (hB : B ≤ B') : OrdR w B' v l := by
 obtain ⟨A, c, xs, e, h1, h2⟩ := h
 refine ⟨A, c, xs, e, h1.more hB, fun i k hi => ?_⟩
 obtain ⟨a, b, a1, a2, a3⟩ := h2 i k hi
 exact ⟨a, b, a1, a2.more hB, a3⟩
theorem LocR.more {w : World} {B B' : Nat} {v1 v2 v3 v4 : Value} {l : Loc} (h : LocR w B v1 v2 v3 v4 l) (hB : B ≤ B') : LocR w B' v1 v2 v3 v4 l := ⟨h.1.more hB, h.2.1.more hB, h.2.2.1.more hB, h.2.2.2.1.more hB, h.2.2.2.2⟩
end Go.Proofs.YtknjhlbhbnldpaaGreatDoor.C

namespace Go.Proofs.YtknjhlbhbnldpaaGreatDoor.C
open Go.RowKit

def PPair (T : Nat) (ps : List (Int × Int)) (w : World) (M : Nat) : Prop := T < M ∧ MapIs w M (.int .i32) (ps.map fun p => (.int .i32 p.1, .int .i32 p.2))
def rankKV : Nat → List Elm → List (Value × Value)
 | _, [] => []
 | i, e :: r => (.string (str (textL e.cells)), .int .i64 (i : Nat)) :: rankKV (i + 1) r
def PRank (T : Nat) (o : List Elm) (w : World) (M : Nat) : Prop := T < M ∧ MapIs w M .string (rankKV 0 o)
def PCls (T : Nat) (cs : List Cls) (w : World) (M : Nat) : Prop := T < M ∧ ∃ vs, vs.length = cs.length ∧ MapIs w M .string ((cs.zip vs).map fun x => (.string (str x.1.name), x.2)) ∧ ∀ (i : Nat) (k : Cls) (u : Value), cs[i]? = some k → vs[i]? = some u → PrsR w T u k.rs
def PName (T : Nat) (o : List Elm) (w : World) (M : Nat) : Prop := T < M ∧ ∃ vs, vs.length = o.length ∧ MapIs w M .string (((o.zip vs).filter fun x => !x.1.name.isEmpty).map fun x => (.string (str x.1.name), x.2)) ∧ ∀ (i : Nat) (e : Elm) (u : Value), o[i]? = some e → vs[i]? = some u → ∃ Ac cc, u = .slice Ac e.cells.length cc ∧ RI .i32 w T Ac e.cells.length e.cells
def placesL (o : List Elm) (s : Int) : List Nat := (List.range o.length).filter fun i => (o[i]?.map Elm.same) == some s
def PAlike (T : Nat) (o : List Elm) (w : World) (M : Nat) : Prop := T < M ∧ ∃ kv : List (Int × Value), MapIs w M (.int .i64) (kv.map fun x => (.int .i64 x.1, x.2)) ∧ (∀ e ∈ o, e.same ∈ kv.map Prod.fst) ∧ ∀ x ∈ kv, w.ownsRow (T + 1) 3 1 x.2 (placesL o x.1).length ((placesL o x.1).map fun i => .int .i64 (i : Nat))
section
variable {T M : Nat} {w w' : World}
theorem Fr.belowT (hf : Fr w w' (· = T)) (hT : T ≤ w.heap.size) : Below T w w' := hf.below (by rintro j _ rfl; exact Nat.le_refl _) hT
theorem MapIs.le {kd : TypeDesc} {l : List (Value × Value)} (h : MapIs w M kd l) (hT : T < M) : T ≤ w.heap.size := by have := h.lt; omega
theorem PPair.fr {ps : List (Int × Int)} (h : PPair T ps w M) (hf : Fr w w' (· = T)) : PPair T ps w' M := ⟨h.1, h.2.fr hf (by have := h.1; omega)⟩
theorem PRank.fr {o : List Elm} (h : PRank T o w M) (hf : Fr w w' (· = T)) : PRank T o w' M := ⟨h.1, h.2.fr hf (by have := h.1; omega)⟩
theorem PCls.fr {cs : List Cls} (h : PCls T cs w M) (hf : Fr w w' (· = T)) : PCls T cs w' M := by
 obtain ⟨h0, vs, h1, h2, h3⟩ := h
 exact ⟨h0, vs, h1, h2.fr hf (by omega), fun i k u a b => (h3 i k u a b).on (hf.belowT (h2.le h0)) (Nat.le_refl _)⟩
theorem PName.fr {o : List Elm} (h : PName T o w M) (hf : Fr w w' (· = T)) : PName T o w' M := by
 obtain ⟨h0, vs, h1, h2, h3⟩ := h
 refine ⟨h0, vs, h1, h2.fr hf (by omega), fun i e u a b => ?_⟩
 obtain ⟨Ac, cc, k1, k2⟩ := h3 i e u a b
 have hb := hf.belowT (h2.le h0)
 exact ⟨Ac, cc, k1, k2.keep fun p hp => hb.cell (p := p) hp⟩
theorem PAlike.fr {o : List Elm} (h : PAlike T o w M) (hf : Fr w w' (· = T)) : PAlike T o w' M := by
 obtain ⟨h0, kv, h1, h2, h3⟩ := h
 exact ⟨h0, kv, h1.fr hf (by omega), h2, fun x hx => ownsRow_fr (h3 x hx) hf fun g hg e => by have := ((h3 x hx).lt g hg).1; omega⟩
end
def TabAt (w : World) (T : Nat) (L : Loc) (n : Int) : Prop := ∃ (l : List Value) (v1 v2 v3 v4 : Value), Row w T 107 l ∧ l.length = 29 ∧ l[0]? = some (.int .i64 n) ∧ l[1]? = some v4 ∧ l[18]? = some v1 ∧ l[23]? = some v2 ∧ l[28]? = some v3 ∧ LocR w T v1 v2 v3 v4 L ∧
 Lk l 2 (PRank T L.ord w) ∧ Lk l 6 (PName T L.ord w) ∧ Lk l 10 (PAlike T L.ord w) ∧ Lk l 14 (PCls T L.cls w) ∧ Lk l 19 (PPair T L.up w) ∧ Lk l 24 (PPair T L.lo w)
theorem TabAt.lt {w : World} {T : Nat} {L : Loc} {n : Int} (h : TabAt w T L n) : T < w.heap.size := by obtain ⟨l, _, _, _, _, h, _⟩ := h; exact h.lt
theorem TabAt.keep {w w' : World} {T : Nat} {L : Loc} {n : Int} (h : TabAt w T L n) (hb : Below w.heap.size w w') : TabAt w' T L n := by
 have hT := h.lt
 obtain ⟨l, v1, v2, v3, v4, hr, h1, h2, h3, h4, h5, h6, h7, k1, k2, k3, k4, k5, k6⟩ := h
 have hf : Fr w w' (· = T) := .of_below hb
 exact ⟨l, v1, v2, v3, v4, hr.below hb, h1, h2, h3, h4, h5, h6, h7.on hb (by omega), k1.mono fun M h => h.fr hf, k2.mono fun M h => h.fr hf, k3.mono fun M h => h.fr hf, k4.mono fun M h => h.fr hf, k5.mono fun M h => h.fr hf, k6.mono fun M h => h.fr hf⟩
theorem TabAt.step {w w' : World} {T : Nat} {L : Loc} {n : Int} {l l' : List Value} {v1 v2 v3 v4 : Value} (hf : Fr w w' (· = T)) (hr : Row w T 107 l) (hr' : Row w' T 107 l') (o : Nat) (ho : o ∈ [2, 6, 10, 14, 19, 24]) (he : Else l l' o)
  (h : l.length = 29 ∧ l[0]? = some (.int .i64 n) ∧ l[1]? = some v4 ∧ l[18]? = some v1 ∧ l[23]? = some v2 ∧ l[28]? = some v3 ∧ LocR w T v1 v2 v3 v4 L)
  (k1 : Lk l' 2 (PRank T L.ord w') ∨ (o ≠ 2 ∧ Lk l 2 (PRank T L.ord w))) (k2 : Lk l' 6 (PName T L.ord w') ∨ (o ≠ 6 ∧ Lk l 6 (PName T L.ord w))) (k3 : Lk l' 10 (PAlike T L.ord w') ∨ (o ≠ 10 ∧ Lk l 10 (PAlike T L.ord w)))
  (k4 : Lk l' 14 (PCls T L.cls w') ∨ (o ≠ 14 ∧ Lk l 14 (PCls T L.cls w))) (k5 : Lk l' 19 (PPair T L.up w') ∨ (o ≠ 19 ∧ Lk l 19 (PPair T L.up w))) (k6 : Lk l' 24 (PPair T L.lo w') ∨ (o ≠ 24 ∧ Lk l 24 (PPair T L.lo w))) : TabAt w' T L n := by
 obtain ⟨h1, h2, h3, h4, h5, h6, h7⟩ := h
 obtain ⟨e1, e2⟩ := he
 have hb := hf.belowT (Nat.le_of_lt hr.lt)
 have ho' : o = 2 ∨ o = 6 ∨ o = 10 ∨ o = 14 ∨ o = 19 ∨ o = 24 := by simpa using ho
 refine ⟨l', v1, v2, v3, v4, hr', e1.trans h1, (e2 0 (by omega) (by omega) (by omega)).trans h2, (e2 1 (by omega) (by omega) (by omega)).trans h3, (e2 18 (by omega) (by omega) (by omega)).trans h4, (e2 23 (by omega) (by omega) (by omega)).trans h5, (e2 28 (by omega) (by omega) (by omega)).trans h6, h7.on hb (Nat.le_refl _), ?_, ?_, ?_, ?_, ?_, ?_⟩
 ·exact k1.elim id fun ⟨a, b⟩ => (b.mono fun M h => h.fr hf).same (e2 _ (by omega) (by omega) (by omega)) (e2 _ (by omega) (by omega) (by omega)) (e2 _ (by omega) (by omega) (by omega))
 ·exact k2.elim id fun ⟨a, b⟩ => (b.mono fun M h => h.fr hf).same (e2 _ (by omega) (by omega) (by omega)) (e2 _ (by omega) (by omega) (by omega)) (e2 _ (by omega) (by omega) (by omega))
 ·exact k3.elim id fun ⟨a, b⟩ => (b.mono fun M h => h.fr hf).same (e2 _ (by omega) (by omega) (by omega)) (e2 _ (by omega) (by omega) (by omega)) (e2 _ (by omega) (by omega) (by omega))
 ·exact k4.elim id fun ⟨a, b⟩ => (b.mono fun M h => h.fr hf).same (e2 _ (by omega) (by omega) (by omega)) (e2 _ (by omega) (by omega) (by omega)) (e2 _ (by omega) (by omega) (by omega))
 ·exact k5.elim id fun ⟨a, b⟩ => (b.mono fun M h => h.fr hf).same (e2 _ (by omega) (by omega) (by omega)) (e2 _ (by omega) (by omega) (by omega)) (e2 _ (by omega) (by omega) (by omega))
 ·exact k6.elim id fun ⟨a, b⟩ => (b.mono fun M h => h.fr hf).same (e2 _ (by omega) (by omega) (by omega)) (e2 _ (by omega) (by omega) (by omega)) (e2 _ (by omega) (by omega) (by omega))
theorem TabAt.count {w : World} {T : Nat} {L : Loc} {n m : Int} (h : TabAt w T L n) : TabAt (w.setCell ⟨T, 0, none⟩ (.int .i64 m)) T L m := by
 obtain ⟨l, v1, v2, v3, v4, hr, h1, h2, h3, h4, h5, h6, h7, k1, k2, k3, k4, k5, k6⟩ := h
 have hf : Fr w (w.setCell ⟨T, 0, none⟩ (.int .i64 m)) (· = T) := (Fr.refl w _).setT _ _
 have hb := hf.belowT (Nat.le_of_lt hr.lt)
 exact ⟨l.set 0 (.int .i64 m), v1, v2, v3, v4, hr.set _ _, by simp [h1], set_eq h2, (set_ne (by omega)).trans h3, (set_ne (by omega)).trans h4, (set_ne (by omega)).trans h5, (set_ne (by omega)).trans h6, h7.on hb (Nat.le_refl _),
  (k1.mono fun M h => h.fr hf).same (set_ne (by omega)) (set_ne (by omega)) (set_ne (by omega)), (k2.mono fun M h => h.fr hf).same (set_ne (by omega)) (set_ne (by omega)) (set_ne (by omega)), (k3.mono fun M h => h.fr hf).same (set_ne (by omega)) (set_ne (by omega)) (set_ne (by omega)),
  (k4.mono fun M h => h.fr hf).same (set_ne (by omega)) (set_ne (by omega)) (set_ne (by omega)), (k5.mono fun M h => h.fr hf).same (set_ne (by omega)) (set_ne (by omega)) (set_ne (by omega)), (k6.mono fun M h => h.fr hf).same (set_ne (by omega)) (set_ne (by omega)) (set_ne (by omega))⟩
theorem TabAt.cell0 {w : World} {T : Nat} {L : Loc} {n : Int} (h : TabAt w T L n) : w.cell? ⟨T, 0, none⟩ = some (.int .i64 n) ∧ w.frozen? ⟨T, 0, none⟩ = false := by
 obtain ⟨l, _, _, _, _, hr, _, h0, _⟩ := h
 exact ⟨hr.cell h0, hr.frozen _⟩
end Go.Proofs.YtknjhlbhbnldpaaGreatDoor.C

namespace Go.Proofs.YtknjhlbhbnldpaaGreatDoor.C
open Go.RowKit

theorem keep_map {w w' : World} {M T : Nat} (hf : Fr w w' (· = M)) (hT : T ≤ w.heap.size) (hM : T ≤ M) : Below T w w' := hf.below (by rintro j _ rfl; exact hM) hT
theorem map_fst_pair (ps : List (Int × Int)) : (ps.map fun p => ((Value.int .i32 p.1, Value.int .i32 p.2) : Value × Value)).map Prod.fst = (ps.map Prod.fst).map (Value.int .i32) := by simp
set_option maxRecDepth 100000 in
set_option maxHeartbeats 2000000 in
theorem fillPair (T o : Nat) (t : TypeId) (l : List Value) (w : World) (v : Value) (ps : List (Int × Int)) (hl : l[o + 4]? = some v) (hps : PrsR w T v ps) (hn : ps.length ≤ maxLen) (hnd : (ps.map Prod.fst).Nodup) (hT : T < w.heap.size) :
  Fills 77 (.pointer (some ⟨T, o, none⟩)) (.int .i32) T o t w l (PPair T ps) := by
 intro W M hf hr hM hm
 have hb := hf.belowT (Nat.le_of_lt hT)
 have hWT : T < W.heap.size := by have := hf.size; omega
 have c4 : W.cell? ⟨T, o + 4, none⟩ = some v := hr.cell (by rw [set_ne (by omega), set_ne (by omega)]; exact hl)
 obtain ⟨A, c, rfl, hsi⟩ := hps.on hb (Nat.le_refl _)
 unfold maxLen at hn
 have HSI := Lib.hid hsi
 have HND := Lib.hid hnd
 have HTM : Hid (T < M ∧ T ≤ W.heap.size) := Lib.hid ⟨by omega, by omega⟩
 have HM := Lib.hid hm
 clear hf hr hps hnd hb hsi hl hm hM hT hWT
 go_enter Tryz.func77, Tryz.ntmps77
 go_wp2
 go_loopw [11] (fun iv wr => ∃ k : Nat, k ≤ ps.length ∧ iv = .int .i64 k ∧ Hid (Fr W wr (· = M) ∧ MapIs wr M (.int .i32) ((ps.take k).map fun p => (.int .i32 p.1, .int .i32 p.2)))) (fun iv _ => ps.length - (intOf iv).toNat)
 case atStart => exact ⟨0, Nat.zero_le _, rfl, Lib.hid ⟨Fr.refl _ _, HM.out⟩⟩
 case round =>
  obtain ⟨k, hk, rfl, HQ⟩ := hrel
  by_cases hlt : k < ps.length
  ·obtain ⟨p, hp⟩ : ∃ p, ps[k]? = some p := ⟨_, List.getElem?_eq_getElem hlt⟩
   have hB := keep_map HQ.out.1 HTM.out.2 (Nat.le_of_lt HTM.out.1)
   obtain ⟨ad, rfl, hbl, hc0, hc1⟩ := prsR_at (HSI.out.on hB (Nat.le_refl _)) hp
   obtain ⟨a, b⟩ := p
   obtain ⟨w2, hw2⟩ : ∃ w2, w2 = wr.alloc (.cells #[.int .i32 a, .int .i32 b] 95) := ⟨_, rfl⟩
   have hb2 : Below wr.heap.size wr w2 := by rw [hw2]; exact (Below.refl _ _).alloc (Nat.le_refl _) _
   have hm2 : MapIs w2 M (.int .i32) ((ps.take k).map fun p => (.int .i32 p.1, .int .i32 p.2)) := HQ.out.2.at_ (hb2.block M HQ.out.2.lt)
   have hnot : (Value.int .i32 a) ∉ ((ps.take k).map fun p => ((Value.int .i32 p.1, Value.int .i32 p.2) : Value × Value)).map Prod.fst := by
    rw [map_fst_pair]
    intro h
    obtain ⟨x, hx, e⟩ := List.mem_map.1 h
    injection e with _ e
    subst e
    rw [List.map_take] at hx
    have h1 : (ps.map Prod.fst)[k]? = some x := by rw [List.getElem?_map, hp]; rfl
    obtain ⟨j, hj, e⟩ := List.mem_take_iff_getElem.1 hx
    have hk' := (List.getElem?_eq_some_iff.1 h1)
    have := (List.pairwise_iff_getElem.1 HND.out) j k (by omega) hk'.1 (by omega)
    exact this (e.trans hk'.2.symm)
   obtain ⟨ob, hput, hm3⟩ := hm2.put_new (P := Tryz.prog) Tryz.underlying96 Tryz.underlying23 (key := .int .i32 a) (by first | trivial | rfl) hnot (.int .i32 b)
   have HEND : Hid (Fr W (putObj w2 M ob) (· = M) ∧ MapIs (putObj w2 M ob) M (.int .i32) ((ps.take (k + 1)).map fun p => (.int .i32 p.1, .int .i32 p.2))) := Lib.hid ⟨(HQ.out.1.trans (.of_below hb2)).next (.of_grown (putObj_only ob)) (by intro j _ e; injection e with e; exact e.symm), by rw [take_one hp, List.map_append]; exact hm3⟩
   have x0 : w2.cell? ⟨wr.heap.size, 0, none⟩ = some (.int .i32 a) := by rw [hw2]; simp
   have x1 : w2.cell? ⟨wr.heap.size, 1, none⟩ = some (.int .i32 b) := by rw [hw2]; simp
   have i0 : (0 : Int) ≤ (k : Int) := by omega
   have i1 : (k : Int) < (ps.length : Int) := by omega
   clear hm2 hm3 hnot hb2 hbl hB hp
   subst hw2
   go_wp2
   go_roundw
   case rel => exact ⟨k + 1, by omega, by go_num, HEND⟩
   case measure => simp [intOf]; omega
  ·obtain rfl : k = ps.length := by omega
   have HE : Hid (Fr W wr (· = M) ∧ PPair T ps wr M) := Lib.hid ⟨HQ.out.1, HTM.out.1, by have := HQ.out.2; rwa [List.take_length] at this⟩
   go_wp2
   go_end0
   exact ⟨rfl, HE.out⟩
def sndV (xs : List (List Value)) : List Value := xs.map fun x => x.getD 1 .nilIface
theorem sndV_at {xs : List (List Value)} {i : Nat} {u v : Value} (h : xs[i]? = some [u, v]) : (sndV xs)[i]? = some v := by
 unfold sndV
 rw [List.getElem?_map, h]
 rfl
theorem not_taken {α β : Type} {f : α → β} {l : List α} (h : (l.map f).Nodup) {k : Nat} {x : α} (hx : l[k]? = some x) : f x ∉ (l.take k).map f := by
 intro hm
 rw [List.map_take] at hm
 have h1 : (l.map f)[k]? = some (f x) := by rw [List.getElem?_map, hx]; rfl
 obtain ⟨j, hj, e⟩ := List.mem_take_iff_getElem.1 hm
 have hk' := (List.getElem?_eq_some_iff.1 h1)
 exact (List.pairwise_iff_getElem.1 h) j k (by omega) hk'.1 (by omega) (e.trans hk'.2.symm)
theorem str_nodup {l : List (List UInt8)} (h : l.Nodup) : (l.map fun x => Value.string (str x)).Nodup := nodup_map (fun _ _ _ _ e => strV_inj e) h
set_option maxRecDepth 100000 in
set_option maxHeartbeats 2000000 in
theorem fillCls (T o : Nat) (t : TypeId) (l : List Value) (w : World) (v : Value) (cs : List Cls) (hl : l[o + 4]? = some v) (hcs : ClsR w T v cs) (hn : cs.length ≤ maxLen) (hnd : (cs.map Cls.name).Nodup) (hT : T < w.heap.size) :
  Fills 118 (.pointer (some ⟨T, o, none⟩)) .string T o t w l (PCls T cs) := by
 intro W M hf hr hM hm
 have hb := hf.belowT (Nat.le_of_lt hT)
 have hWT : T < W.heap.size := by have := hf.size; omega
 have c4 : W.cell? ⟨T, o + 4, none⟩ = some v := hr.cell (by rw [set_ne (by omega), set_ne (by omega)]; exact hl)
 obtain ⟨A, c, xs, rfl, hsi, hel⟩ := hcs.on hb (Nat.le_refl _)
 obtain ⟨vs, hvs⟩ : ∃ vs, vs = sndV xs := ⟨_, rfl⟩
 have hlen : vs.length = cs.length := by rw [hvs, sndV, List.length_map, hsi.len]
 have hev : ∀ (i : Nat) (k : Cls) (u : Value), cs[i]? = some k → vs[i]? = some u → PrsR W T u k.rs := by
  intro i k u hi hu
  obtain ⟨u', hx, hp, _⟩ := hel i k hi
  rw [hvs, sndV_at hx] at hu
  exact Option.some.inj hu ▸ hp
 unfold maxLen at hn
 have HSI := Lib.hid hsi
 have HEL := Lib.hid hel
 have HEV := Lib.hid hev
 have HLEN := Lib.hid hlen
 have HVS := Lib.hid hvs
 have hkn : (((cs.zip vs).map fun x => ((Value.string (str x.1.name), x.2) : Value × Value)).map Prod.fst).Nodup := by
  have e : ((cs.zip vs).map fun x => ((Value.string (str x.1.name), x.2) : Value × Value)).map Prod.fst = (cs.map Cls.name).map fun x => Value.string (str x) := by
   rw [List.map_map, List.map_map]
   show (cs.zip vs).map ((fun k : Cls => Value.string (str k.name)) ∘ Prod.fst) = _
   rw [← List.map_map, List.map_fst_zip (by omega)]
   rfl
  rw [e]
  exact str_nodup hnd
 have HND := Lib.hid hkn
 have HTM : Hid (T < M ∧ T ≤ W.heap.size) := Lib.hid ⟨by omega, by omega⟩
 have HM := Lib.hid hm
 clear hf hr hcs hnd hb hsi hl hm hM hT hWT hel hev hvs hkn hlen
 go_enter Tryz.func118, Tryz.ntmps118
 go_wp2
 go_loopw [11] (fun iv wr => ∃ k : Nat, k ≤ cs.length ∧ iv = .int .i64 k ∧ Hid (Fr W wr (· = M) ∧ MapIs wr M .string (((cs.zip vs).take k).map fun x => (.string (str x.1.name), x.2)))) (fun iv _ => cs.length - (intOf iv).toNat)
 case atStart => exact ⟨0, Nat.zero_le _, rfl, Lib.hid ⟨Fr.refl _ _, HM.out⟩⟩
 case round =>
  obtain ⟨k, hk, rfl, HQ⟩ := hrel
  by_cases hlt : k < cs.length
  ·obtain ⟨p, hp⟩ : ∃ p, cs[k]? = some p := ⟨_, List.getElem?_eq_getElem hlt⟩
   have hB := keep_map HQ.out.1 HTM.out.2 (Nat.le_of_lt HTM.out.1)
   obtain ⟨ad, a, b, rfl, hbl, hx, hc0, hc1⟩ := (HSI.out.on hB (Nat.le_refl _)).at2 hlt
   obtain ⟨u', hx', _⟩ := HEL.out k p hp
   obtain ⟨rfl, rfl⟩ : a = .string (str p.name) ∧ b = u' := by rw [hx] at hx'; simpa using hx'
   obtain ⟨bA, bn, bc, rfl⟩ : ∃ bA bn bc, b = .slice bA bn bc := by
    obtain ⟨A', c', e, _⟩ := HEV.out k p b hp (by rw [HVS.out]; exact sndV_at hx)
    exact ⟨A', _, c', e⟩
   obtain ⟨nm, rs⟩ := p
   have hz : (cs.zip vs)[k]? = some (⟨nm, rs⟩, .slice bA bn bc) := by rw [List.getElem?_zip_eq_some]; exact ⟨hp, by rw [HVS.out]; exact sndV_at hx⟩
   obtain ⟨w2, hw2⟩ : ∃ w2, w2 = wr.alloc (.cells #[.string (str nm), .slice bA bn bc] 86) := ⟨_, rfl⟩
   have hb2 : Below wr.heap.size wr w2 := by rw [hw2]; exact (Below.refl _ _).alloc (Nat.le_refl _) _
   have hm2 := HQ.out.2.at_ (hb2.block M HQ.out.2.lt)
   have hnot : (Value.string (str nm)) ∉ (((cs.zip vs).take k).map fun x => ((Value.string (str x.1.name), x.2) : Value × Value)).map Prod.fst := by
    have h1 := HND.out
    rw [List.map_map] at h1
    have h2 := not_taken h1 hz
    rw [List.map_map]
    exact h2
   obtain ⟨ob, hput, hm3⟩ := hm2.put_new (P := Tryz.prog) Tryz.underlying88 Tryz.underlying9 (key := .string (str nm)) (by first | trivial | rfl) hnot (.slice bA bn bc)
   have HEND : Hid (Fr W (putObj w2 M ob) (· = M) ∧ MapIs (putObj w2 M ob) M .string (((cs.zip vs).take (k + 1)).map fun x => (.string (str x.1.name), x.2))) := Lib.hid ⟨(HQ.out.1.trans (.of_below hb2)).next (.of_grown (putObj_only ob)) (by intro j _ e; injection e with e; exact e.symm), by rw [take_one hz, List.map_append]; exact hm3⟩
   have x0 : w2.cell? ⟨wr.heap.size, 0, none⟩ = some (.string (str nm)) := by rw [hw2]; simp
   have x1 : w2.cell? ⟨wr.heap.size, 1, none⟩ = some (.slice bA bn bc) := by rw [hw2]; simp
   have i0 : (0 : Int) ≤ (k : Int) := by omega
   have i1 : (k : Int) < (cs.length : Int) := by omega
   clear hm2 hm3 hnot hb2 hbl hB hp hx hx' hz
   subst hw2
   go_wp2
   go_roundw
   case rel => exact ⟨k + 1, by omega, by go_num, HEND⟩
   case measure => simp [intOf]; omega
  ·obtain rfl : k = cs.length := by omega
   have HE : Hid (Fr W wr (· = M) ∧ PCls T cs wr M) := Lib.hid ⟨HQ.out.1, HTM.out.1, vs, HLEN.out, by
    have := HQ.out.2
    rwa [List.take_of_length_le (by rw [List.length_zip]; omega)] at this, fun i k u a b => (HEV.out i k u a b).on (keep_map HQ.out.1 HTM.out.2 (Nat.le_of_lt HTM.out.1)) (Nat.le_refl _)⟩
   go_wp2
   go_end0
   exact ⟨rfl, HE.out⟩
end Go.Proofs.YtknjhlbhbnldpaaGreatDoor.C

namespace Go.Proofs.YtknjhlbhbnldpaaGreatDoor.C
open Go.RowKit

theorem rank_keys : ∀ (o : List Elm) (i : Nat), (rankKV i o).map Prod.fst = o.map fun e => Value.string (str (textL e.cells))
 | [], _ => rfl
 | e :: r, i => by
  show _ :: (rankKV (i + 1) r).map Prod.fst = _
  rw [rank_keys r (i + 1)]
  rfl
theorem rank_snoc : ∀ (o : List Elm) (i : Nat) (e : Elm), rankKV i (o ++ [e]) = rankKV i o ++ [(.string (str (textL e.cells)), .int .i64 ((i + o.length : Nat) : Int))]
 | [], i, e => by simp [rankKV]
 | x :: r, i, e => by
  show _ :: rankKV (i + 1) (r ++ [e]) = _ :: (rankKV (i + 1) r ++ _)
  rw [rank_snoc r (i + 1) e, List.length_cons, show i + 1 + r.length = i + (r.length + 1) by omega]
theorem texts_nodup {o : List Elm} (h : ordB o = true) : (o.map fun e => Value.string (str (textL e.cells))).Nodup := by
 have h1 : ((o.map Elm.cells).map fun c => Value.string (str (textL c))).Nodup := nodup_map (fun a ha b _ e => by
  obtain ⟨x, hx, rfl⟩ := List.mem_map.1 ha
  exact textL_any (elemB_right (ord_elem h hx)) (strV_inj e)) (cells_nodup h)
 rwa [List.map_map] at h1
theorem len4 {o : List Elm} (h : ordB o = true) {e : Elm} (he : e ∈ o) : e.cells.length ≤ 4 := elemB_len (ord_elem h he)
set_option maxRecDepth 100000 in
set_option maxHeartbeats 2000000 in
theorem fillRank (T : Nat) (t : TypeId) (l : List Value) (w : World) (v : Value) (es : List Elm) (hl : l[1]? = some v) (hes : OrdR w T v es) (ho : ordB es = true) (hT : T < w.heap.size) (hG : Gl w) (hgT : (5 : Nat) < T) :
  Fills 93 (.pointer (some ⟨T, 1, none⟩)) .string T 2 t w l (PRank T es) := by
 intro W M hf hr hM hm
 have hn : es.length ≤ 500 := by unfold ordB at ho; simp only [Bool.and_eq_true, decide_eq_true_eq] at ho; exact ho.1
 have hb := hf.belowT (Nat.le_of_lt hT)
 have hWT : T < W.heap.size := by have := hf.size; omega
 have c4 : W.cell? ⟨T, 1, none⟩ = some v := hr.cell (by rw [set_ne (by omega), set_ne (by omega)]; exact hl)
 have hGW : W.cell? ⟨5, 15, none⟩ = some (.int .u8 4) := (hb.cell (p := ⟨5, 15, none⟩) hgT).trans hG
 have hO := hes.on hb (Nat.le_refl _)
 obtain ⟨A, c, xs, rfl, _⟩ := id hO
 have HO := Lib.hid hO
 have HGW := Lib.hid hGW
 have HOK := Lib.hid ho
 have HTM : Hid (T < M ∧ T ≤ W.heap.size) := Lib.hid ⟨by omega, by omega⟩
 have HM := Lib.hid hm
 clear hf hr hes hb hO hl hm hM hT hWT hG hGW ho
 go_enter Tryz.func93, Tryz.ntmps93
 go_wp2
 go_loopw [11] (fun iv wr => ∃ k : Nat, k ≤ es.length ∧ iv = .int .i64 k ∧ Hid (Fr W wr (· = M) ∧ MapIs wr M .string (rankKV 0 (es.take k)))) (fun iv _ => es.length - (intOf iv).toNat)
 case atStart => exact ⟨0, Nat.zero_le _, rfl, Lib.hid ⟨Fr.refl _ _, HM.out⟩⟩
 case round =>
  obtain ⟨k, hk, rfl, HQ⟩ := hrel
  by_cases hlt : k < es.length
  ·obtain ⟨p, hp⟩ : ∃ p, es[k]? = some p := ⟨_, List.getElem?_eq_getElem hlt⟩
   have hB := keep_map HQ.out.1 HTM.out.2 (Nat.le_of_lt HTM.out.1)
   have hOr : OrdR wr T (.slice A es.length c) es := HO.out.on hB (Nat.le_refl _)
   obtain ⟨ad, c', Ac, cc, hv, hbl, hc0, hc1, hc2, hri⟩ := elmR_at hOr hp
   injection hv with hv _ hcc
   subst hv hcc
   have hl4 := len4 HOK.out (List.mem_of_getElem? hp)
   obtain ⟨nm, cl, sm⟩ := p
   obtain ⟨w2, hw2⟩ : ∃ w2, w2 = wr.alloc (.cells #[.string (str nm), .slice Ac cl.length cc, .int .i64 sm] 39) := ⟨_, rfl⟩
   have hb2 : Below wr.heap.size wr w2 := by rw [hw2]; exact (Below.refl _ _).alloc (Nat.le_refl _) _
   have hsz := hB.size
   have hTr : T ≤ wr.heap.size := by have := HTM.out; omega
   have htx := text_any w2 T Ac cl.length cc cl (hri.keep fun p hp => hb2.cell (p := p) (by omega)) (by have := hb2.size; omega) (by simp only at hl4; omega) ((hb2.cell (p := ⟨5, 15, none⟩) (by show (5 : Nat) < _; omega)).trans ((hB.cell (p := ⟨5, 15, none⟩) hgT).trans HGW.out))
   have hm2 := HQ.out.2.at_ (hb2.block M HQ.out.2.lt)
   have hnot : (Value.string (str (textL cl))) ∉ (rankKV 0 (es.take k)).map Prod.fst := by
    rw [rank_keys]
    exact not_taken (f := fun e : Elm => Value.string (str (textL e.cells))) (texts_nodup HOK.out) hp
   have HM2 := Lib.hid hm2
   have HNOT := Lib.hid hnot
   have HB2 := Lib.hid hb2
   have HP := Lib.hid hp
   have x0 : w2.cell? ⟨wr.heap.size, 0, none⟩ = some (.string (str nm)) := by rw [hw2]; simp
   have x1 : w2.cell? ⟨wr.heap.size, 1, none⟩ = some (.slice Ac cl.length cc) := by rw [hw2]; simp
   have x2 : w2.cell? ⟨wr.heap.size, 2, none⟩ = some (.int .i64 sm) := by rw [hw2]; simp
   have i0 : (0 : Int) ≤ (k : Int) := by omega
   have i1 : (k : Int) < (es.length : Int) := by omega
   clear hm2 hnot hb2 hB hp hri hOr hsz hTr
   subst hw2
   go_wp2_with fail
   refine htx.mono ?_
   rintro e w3 ⟨rfl, hb3⟩
   have hm3 := HM2.out.at_ (hb3.block M HM2.out.lt)
   obtain ⟨ob, hput, hm4⟩ := hm3.put_new (P := Tryz.prog) Tryz.underlying72 Tryz.underlying9 (key := .string (str (textL cl))) (by first | trivial | rfl) HNOT.out (.int .i64 (k : Int))
   have HEND : Hid (Fr W (putObj w3 M ob) (· = M) ∧ MapIs (putObj w3 M ob) M .string (rankKV 0 (es.take (k + 1)))) := Lib.hid ⟨((HQ.out.1.trans (.of_below HB2.out)).trans (.of_below hb3)).next (.of_grown (putObj_only ob)) (by intro j _ e; injection e with e; exact e.symm), by
    rw [take_one HP.out, rank_snoc, List.length_take, Nat.min_eq_left (by omega), Nat.zero_add]
    exact hm4⟩
   clear hm3 hm4 hb3 htx
   go_wp2
   go_roundw
   case rel => exact ⟨k + 1, by omega, by go_num, HEND⟩
   case measure => simp [intOf]; omega
  ·obtain rfl : k = es.length := by omega
   have HE : Hid (Fr W wr (· = M) ∧ PRank T es wr M) := Lib.hid ⟨HQ.out.1, HTM.out.1, by have := HQ.out.2; rwa [List.take_length] at this⟩
   go_wp2
   go_end0
   exact ⟨rfl, HE.out⟩
end Go.Proofs.YtknjhlbhbnldpaaGreatDoor.C
