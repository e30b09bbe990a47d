/-
  A bracket's reader: an element, or all from one to another one; an item; items till what shuts. Condition: what is asked of sizes (BOk, SzB).
-/
import Derived.Test.YthgiikhkcpbpfaaGreatDoorQBaH
namespace Go.Proofs.YthgiikhkcpbpfaaGreatDoor.C
open Go.RowKit

theorem rows_one (w : World) (lo : Nat) (u : Value) (r : List Int) (hl : lo ≤ w.heap.size) (h : w.ownsRow lo 30 1 u r.length (celC r)) : RowsAt (w.alloc (.cells #[u] 39)) lo (.slice (some ⟨w.heap.size, 0, none⟩) 1 1) [r] :=
 ⟨[u], rfl, own_newK (l := [u]) hl rfl (by decide), fun i d y hd hy => by
  rcases i with _ | i
  ·simp at hd hy
   subst hd hy
   exact own_next h (below_new w _)
  ·simp at hd⟩
set_option maxRecDepth 100000 in
set_option maxHeartbeats 8000000 in
theorem elementsB_any (w : World) (q : BSit) (m : Nat) (hi : Value → Value → Prop) (k : Nat) (s : BSet) (h : RdB w q m hi k s) (hq : BOk q (m + 7)) (hs : SzB s 1000000) :
  Calls Tryz.prog 69 #[.pointer (some ⟨q.R, 0, none⟩)] w (BOut w q (m + 7) (elemsB q.L q.l s k) fun p e w' => e = .returned (.tuple #[]) ∧ RdB w' q (m + 7) (fun _ _ => True) p.2 p.1 ∧ Fr w w' (BY q)) := by
 have hel := elementB_any w q m hi k s h ⟨hq.l, hq.r, hq.c, by have := hq.m; omega⟩
 have HQ := Lib.hid hq
 have HS := Lib.hid hs
 have hRl := h.rlt
 have htr := h.tr
 clear h hq hs
 cases hu : elemB10 q.L q.l k with
 | error er =>
  rw [hu] at hel
  have HV : Hid (elemsB q.L q.l s k = .error er) := Lib.hid (by unfold elemsB; rw [hu])
  clear hu
  unfold BOut at hel
  simp only at hel
  go_enter Tryz.func69, Tryz.ntmps69
  go_wp2_with fail
  refine hel.mono ?_
  rintro e w1 ⟨rfl, hb⟩
  have HB := Lib.hid hb
  clear hel hb
  go_wp2
  exact ⟨rfl, BOut.bad HV.out ⟨rfl, HB.out.up (by omega)⟩⟩
 | ok p =>
  obtain ⟨a, k1⟩ := p
  rw [hu] at hel
  unfold BOut at hel
  simp only at hel
  have HV : Hid (elemsB q.L q.l s k = if thruL q.l k1 then (match elemB10 q.L q.l (k1 + 1) with | .error e => .error e | .ok (b, k2) => match betwB q.L s a b k1 with | .error e => .error e | .ok s' => .ok (s', k2)) else .ok (put1 s a, k1)) := Lib.hid (by unfold elemsB; rw [hu]; rfl)
  clear hu
  go_enter Tryz.func69, Tryz.ntmps69
  go_wp2_with fail
  refine hel.mono ?_
  rintro e w1 ⟨⟨v, rfl, ho1⟩, h1, hf1⟩
  obtain ⟨Aa, ca, rfl⟩ := row_form ho1
  have hth := throughB_any w1 q (m + 2) hi k1 s h1 HQ.out.l
  have p1 := h1.cell1
  have HO1 := Lib.hid (own_low ho1 (Nat.succ_le_of_lt hRl))
  have HF1 := Lib.hid hf1
  obtain ⟨b, hb⟩ : ∃ b, b = thruL q.l k1 := ⟨_, rfl⟩
  rw [← hb] at hth HV
  clear hel ho1 h1 hf1 hb
  go_wp2_with fail
  refine hth.mono ?_
  rintro e w2 ⟨rfl, h2, hf2⟩
  have hs2 := hf2.size
  have hs1 := HF1.out.size
  have HO2 := Lib.hid (ownsRow_fr HO1.out hf2 (fun g hg => BX.up q htr g (own_ge HO1.out hg)))
  have HF2 := Lib.hid (HF1.out.trans hf2)
  clear hth p1
  cases b with
  | false =>
   change RdB w2 q (m + 2) hi k1 s at h2
   have HV1 : Hid (elemsB q.L q.l s k = .ok (put1 s a, k1)) := Lib.hid (by rw [HV.out, if_neg (by decide)])
   have hadd := addB_any (w2.alloc (.cells #[.slice Aa a.length ca] 39)) q (m + 2) _ k1 s (.slice (some ⟨w2.heap.size, 0, none⟩) 1 1) [a] (h2.top.below (below_new w2 _)) (rows_one w2 (q.R + 1) _ a (by omega) HO2.out) (fun _ b hb g hg e => by
    have e2 : w2.heap.size = g := by injection e
    have := hb g hg
    omega) (by have := HS.out.1; simp; omega) (by have := HS.out.2; simp; omega)
   clear h2 hf2
   go_wp2_with fail
   refine hadd.mono ?_
   rintro e w3 ⟨rfl, h3, hf3⟩
   have HE : Hid (RdB w3 q (m + 2) (fun _ _ => True) k1 (put1 s a) ∧ Fr w w3 (BY q)) := Lib.hid ⟨h3, ((BX.all q HF2.out).trans (.of_below (below_new w2 _))).trans hf3⟩
   clear hadd h3 hf3
   go_wp2
   go_end0
   exact BOut.ok HV1.out ⟨rfl, HE.out.1.up (by omega), HE.out.2⟩
  | true =>
   change RdB w2 q (m + 2) hi (k1 + 1) s at h2
   have hel2 := elementB_any w2 q (m + 2) hi (k1 + 1) s h2 ⟨HQ.out.l, HQ.out.r, HQ.out.c, by have := HQ.out.m; omega⟩
   have HV1 : Hid (elemsB q.L q.l s k = match elemB10 q.L q.l (k1 + 1) with | .error e => .error e | .ok (b, k2) => match betwB q.L s a b k1 with | .error e => .error e | .ok s' => .ok (s', k2)) := Lib.hid (by rw [HV.out, if_pos rfl])
   clear h2 hf2 HV
   cases hu : elemB10 q.L q.l (k1 + 1) with
   | error er =>
    rw [hu] at hel2 HV1
    clear hu
    unfold BOut at hel2
    simp only at hel2
    go_wp2_with fail
    refine hel2.mono ?_
    rintro e w3 ⟨rfl, hb⟩
    have HB := Lib.hid (hb.behind (BX.all q HF2.out))
    clear hel2 hb
    go_wp2
    exact ⟨rfl, BOut.bad HV1.out ⟨rfl, HB.out.up (by omega)⟩⟩
   | ok p =>
    obtain ⟨b, k2⟩ := p
    rw [hu] at hel2 HV1
    clear hu
    unfold BOut at hel2
    simp only at hel2
    go_wp2_with fail
    refine hel2.mono ?_
    rintro e w3 ⟨⟨v, rfl, ho3⟩, h3, hf3⟩
    obtain ⟨Ab, cb, rfl⟩ := row_form ho3
    have ha3 := ownsRow_fr HO2.out hf3 (fun g hg => BX.up q htr g (own_ge HO2.out hg))
    have hbt := addBetweenB_any w3 q (m + 4) hi k2 s Aa Ab ca cb a b k1 h3 ⟨HQ.out.l, HQ.out.r, HQ.out.c, by have := HQ.out.m; omega⟩ ha3 (own_low ho3 (by omega)) HS.out
    have HF3 := Lib.hid (HF2.out.trans hf3)
    clear hel2 ho3 h3 hf3 ha3
    cases hv : betwB q.L s a b k1 with
    | error er =>
     rw [hv] at hbt
     have HV2 : Hid (elemsB q.L q.l s k = .error er) := Lib.hid (by rw [HV1.out]; simp only [hv])
     clear hv
     unfold BOut at hbt
     simp only at hbt
     go_wp2_with fail
     refine hbt.mono ?_
     rintro e w4 ⟨rfl, hb⟩
     have HB := Lib.hid (hb.behind (BX.all q HF3.out))
     clear hbt hb
     go_wp2
     exact ⟨rfl, BOut.bad HV2.out ⟨rfl, HB.out⟩⟩
    | ok s' =>
     rw [hv] at hbt
     have HV2 : Hid (elemsB q.L q.l s k = .ok (s', k2)) := Lib.hid (by rw [HV1.out]; simp only [hv])
     clear hv
     unfold BOut at hbt
     simp only at hbt
     go_wp2_with fail
     refine hbt.mono ?_
     rintro e w4 ⟨rfl, h4, hf4⟩
     have HE : Hid (RdB w4 q (m + 7) (fun _ _ => True) k2 s' ∧ Fr w w4 (BY q)) := Lib.hid ⟨h4, (BX.all q HF3.out).trans hf4⟩
     clear hbt h4 hf4
     go_wp2
     go_end0
     exact BOut.ok HV2.out ⟨rfl, HE.out⟩
theorem item_class {L : Loc} {l : List Int} {s : BSet} {k : Nat} (h : atS l k [91, 58] = true) : itemB L l s k = match classB L l k (k + 2) with | .error e => .error e | .ok (rs, k') => .ok (⟨s.no, s.rs ++ rs, s.ts⟩, k') := by
 unfold itemB classB
 rw [if_pos h]
 cases upToL l (k + 2) 58 with
 | error e => rfl
 | ok p =>
  obtain ⟨cs, k'⟩ := p
  simp only
  cases rangesL L.cls (textL cs) <;> rfl
theorem item_alike {L : Loc} {l : List Int} {s : BSet} {k : Nat} (h0 : atS l k [91, 58] = false) (h : atS l k [91, 61] = true) : itemB L l s k = match namedB L l k (k + 2) 61 with | .error e => .error e | .ok (cs, k') => .ok (putL s (alikeL L.ord cs), k') := by
 unfold itemB
 rw [if_neg (by rw [h0]; decide), if_pos h]
 rfl
theorem item_elems {L : Loc} {l : List Int} {s : BSet} {k : Nat} (h0 : atS l k [91, 58] = false) (h : atS l k [91, 61] = false) : itemB L l s k = elemsB L l s k := by
 unfold itemB
 rw [if_neg (by rw [h0]; decide), if_neg (by rw [h]; decide)]
theorem classB_len {L : Loc} {l : List Int} {b k : Nat} {rs : List (Int × Int)} {k' : Nat} (h : classB L l b k = .ok (rs, k')) (hc : ∀ c ∈ L.cls, c.rs.length ≤ 1000) : rs.length ≤ 1000 := by
 unfold classB at h
 cases hu : upToL l k 58 with
 | error e => rw [hu] at h; cases h
 | ok p =>
  obtain ⟨cs, k2⟩ := p
  rw [hu] at h
  simp only at h
  cases hr : rangesL L.cls (textL cs) with
  | none => rw [hr] at h; cases h
  | some r =>
   rw [hr] at h
   simp only at h
   injection h with h
   injection h with h _
   obtain ⟨i, c, hi, _, hrs⟩ := rangesL_some hr
   rw [← h, ← hrs]
   exact hc c (List.mem_of_getElem? hi)
theorem alikeL_len {o : List Elm} {cs : List Int} (h : o.length ≤ 500) : (alikeL o cs).length ≤ 500 := by
 unfold alikeL
 split
 ·split
  ·simp
  ·rw [List.length_map]
   exact Nat.le_trans (placesL_len o _) h
 ·simp
end Go.Proofs.YthgiikhkcpbpfaaGreatDoor.C
