/-
  Joined: KpG, KpK. Each with what its own head says.
-/
import Derived.Test.YthgiikhkcpbpfaaGreatDoorB21
import Derived.Test.YthgiikhkcpbpfaaGreatDoorB23


namespace Go.Proofs.YthgiikhkcpbpfaaGreatDoor.C
open Go.RowKit
def RowsR (w : World) (B : Nat) (A : Option Addr) (rs : List (List Int)) : Prop := 0 < rs.length → ∃ ad, A = some ad ∧ ad.block < B ∧ ∀ (i : Nat) (r : List Int), rs[i]? = some r → ∃ a c, w.cell? (ad.add i) = some (.slice a r.length c) ∧ RI .i32 w B a r.length r ∧ r.length ≤ maxLen
theorem RowsR.on {w w' : World} {B B' : Nat} {A : Option Addr} {rs : List (List Int)} (h : RowsR w B A rs) (hb : Below B' w w') (hB : B ≤ B') : RowsR w' B A rs := fun h0 => by
 obtain ⟨ad, e, h1, h2⟩ := h h0
 refine ⟨ad, e, h1, fun i r hr => ?_⟩
 obtain ⟨a, c, h3, h4, h5⟩ := h2 i r hr
 exact ⟨a, c, (hb.cell (p := ad.add i) (by rw [block_of_add]; omega)).trans h3, h4.on hb hB, h5⟩
theorem RowsAt.reads {w : World} {lo : Nat} {v : Value} {rs : List (List Int)} (h : RowsAt w lo v rs) : ∃ A c, v = .slice A rs.length c ∧ RowsR w w.heap.size A rs := by
 obtain ⟨vs, h1, h2, h3⟩ := h
 obtain ⟨A, c, rfl⟩ := row_form h2
 refine ⟨A, c, rfl, fun h0 => ?_⟩
 obtain ⟨g, cap, hv, hg, hlt⟩ := h2.form h0
 injection hv with hA _ _
 subst hA
 refine ⟨_, rfl, hlt, fun i r hi => ?_⟩
 have hl : i < rs.length := (List.getElem?_eq_some_iff.1 hi).1
 have hv : vs[i]? = some (vs[i]'(by omega)) := List.getElem?_eq_getElem (by omega)
 have ho := h3 i r _ hi hv
 obtain ⟨a, d, hA⟩ := row_form ho
 rw [hA] at ho hv
 exact ⟨a, d, h2.cells (g := g) rfl i _ hv, RI.of_own (zs := r) ho, own_len ho⟩
end Go.Proofs.YthgiikhkcpbpfaaGreatDoor.C


namespace Go.Proofs.YthgiikhkcpbpfaaGreatDoor.C
open Go.RowKit
def RowsV (w : World) (B : Nat) (vs : List Value) (rs : List (List Int)) : Prop := vs.length = rs.length ∧ ∀ (i : Nat) (r : List Int) (u : Value), rs[i]? = some r → vs[i]? = some u → ∃ a c, u = .slice a r.length c ∧ RI .i32 w B a r.length r ∧ r.length ≤ maxLen
theorem RowsV.on {w w' : World} {B B' : Nat} {vs : List Value} {rs : List (List Int)} (h : RowsV w B vs rs) (hb : Below B' w w') (hB : B ≤ B') : RowsV w' B vs rs :=
 ⟨h.1, fun i r u a b => by
  obtain ⟨x, c, h1, h2, h3⟩ := h.2 i r u a b
  exact ⟨x, c, h1, h2.on hb hB, h3⟩⟩
theorem RowsV.snoc {w : World} {B : Nat} {vs : List Value} {rs : List (List Int)} {a : Option Addr} {r : List Int} {c : Nat} (h : RowsV w B vs rs) (hr : RI .i32 w B a r.length r) (hl : r.length ≤ maxLen) : RowsV w B (vs ++ [.slice a r.length c]) (rs ++ [r]) := by
 refine ⟨by rw [List.length_append, List.length_append, h.1]; rfl, fun i x u hx hu => ?_⟩
 rcases Nat.lt_or_ge i rs.length with hi | hi
 ·rw [List.getElem?_append_left hi] at hx
  rw [List.getElem?_append_left (by rw [h.1]; exact hi)] at hu
  exact h.2 i x u hx hu
 ·rw [List.getElem?_append_right hi] at hx
  rw [List.getElem?_append_right (by rw [h.1]; exact hi), h.1] at hu
  have e0 : i - rs.length = 0 := by
   rcases hq : i - rs.length with _ | q
   ·rfl
   ·rw [hq] at hx
    simp at hx
  rw [e0] at hx hu
  simp at hx hu
  subst hx hu
  exact ⟨a, c, rfl, hr, hl⟩
theorem RowsV.reads {w : World} {B S n : Nat} {v : Value} {vs : List Value} {rs : List (List Int)} (h : RowsV w B vs rs) (hB : B ≤ w.heap.size) (hn : n = rs.length) (ho : w.ownsRow S 39 1 v n vs) : ∃ A c, v = .slice A rs.length c ∧ RowsR w w.heap.size A rs := by
 subst hn
 obtain ⟨A, c, rfl⟩ := row_form ho
 refine ⟨A, c, rfl, fun h0 => ?_⟩
 obtain ⟨g, cap, hv, hg, hlt⟩ := ho.form h0
 injection hv with hA _ _
 subst hA
 refine ⟨_, rfl, hlt, fun i r hi => ?_⟩
 have hl : i < rs.length := (List.getElem?_eq_some_iff.1 hi).1
 have hv : vs[i]? = some (vs[i]'(by rw [h.1]; exact hl)) := List.getElem?_eq_getElem (by rw [h.1]; exact hl)
 obtain ⟨a, d, hA, h2, h3⟩ := h.2 i r _ hi hv
 rw [hA] at hv
 exact ⟨a, d, ho.cells (g := g) rfl i _ hv, h2.more hB, h3⟩
def RowsQ (w : World) (B S : Nat) (A : Option Addr) (rs : List (List Int)) : Prop := 0 < rs.length → ∃ ad, A = some ad ∧ S ≤ ad.block ∧ ad.block < w.heap.size ∧ ∀ (i : Nat) (r : List Int), rs[i]? = some r → ∃ a c, w.cell? (ad.add i) = some (.slice a r.length c) ∧ RI .i32 w B a r.length r ∧ r.length ≤ maxLen
theorem RowsQ.toR {w : World} {B S : Nat} {A : Option Addr} {rs : List (List Int)} (h : RowsQ w B S A rs) (hB : B ≤ w.heap.size) : RowsR w w.heap.size A rs := fun h0 => by
 obtain ⟨ad, e, _, h2, h3⟩ := h h0
 refine ⟨ad, e, h2, fun i r hr => ?_⟩
 obtain ⟨a, c, k1, k2, k3⟩ := h3 i r hr
 exact ⟨a, c, k1, k2.more hB, k3⟩
theorem RowsQ.fr {w w' : World} {B S T : Nat} {A : Option Addr} {rs : List (List Int)} (h : RowsQ w B S A rs) (hf : Fr w w' (· = T)) (hB : B ≤ T) (hS : T < S) (hT : T ≤ w.heap.size) : RowsQ w' B S A rs := fun h0 => by
 obtain ⟨ad, e, h1, h2, h3⟩ := h h0
 refine ⟨ad, e, h1, Nat.lt_of_lt_of_le h2 hf.size, fun i r hr => ?_⟩
 obtain ⟨a, c, k1, k2, k3⟩ := h3 i r hr
 exact ⟨a, c, (World.cell?_of_block (hf.block (ad.add i).block (by rw [block_of_add]; exact h2) (by rw [block_of_add]; omega))).trans k1, k2.on (hf.belowT hT) hB, k3⟩
theorem RowsV.readsQ {w : World} {B S n : Nat} {v : Value} {vs : List Value} {rs : List (List Int)} (h : RowsV w B vs rs) (hn : n = rs.length) (ho : w.ownsRow S 39 1 v n vs) : ∃ A c, v = .slice A rs.length c ∧ RowsQ w B S A rs := by
 subst hn
 obtain ⟨A, c, rfl⟩ := row_form ho
 refine ⟨A, c, rfl, fun h0 => ?_⟩
 obtain ⟨g, cap, hv, hg, hlt⟩ := ho.form h0
 injection hv with hA _ _
 subst hA
 refine ⟨_, rfl, hg, hlt, fun i r hi => ?_⟩
 have hl : i < rs.length := (List.getElem?_eq_some_iff.1 hi).1
 have hv : vs[i]? = some (vs[i]'(by rw [h.1]; exact hl)) := List.getElem?_eq_getElem (by rw [h.1]; exact hl)
 obtain ⟨a, d, hA, h2, h3⟩ := h.2 i r _ hi hv
 rw [hA] at hv
 exact ⟨a, d, ho.cells (g := g) rfl i _ hv, h2, h3⟩
def BtTold (w w' : World) (B : Nat) (o : List Elm) (xs ys : List Int) (e : Ending) : Prop := Below w.heap.size w w' ∧
 ((placeV o xs < 0 ∨ placeV o ys < placeV o xs) → e = .returned (.tuple #[.slice none 0 0, .int .i64 40])) ∧
 (∀ i k : Nat, placeV o xs = (i : Int) → placeV o ys = (k : Int) → i ≤ k → ∃ A c, e = .returned (.tuple #[.slice A ((runN i (k - i + 1)).map (cellsJ o)).length c, .int .i64 0]) ∧ RowsQ w' B (w.heap.size + 1) A ((runN i (k - i + 1)).map (cellsJ o)))
set_option maxRecDepth 100000 in
set_option maxHeartbeats 8000000 in
theorem between08_any (w : World) (B Ba Bb : Nat) (v1 v2 v3 v4 : Value) (l : Loc) (Aa Ab : Option Addr) (ma ca mb cb : Nat) (xs ys : List Int) (h : LocR w B v1 v2 v3 v4 l) (hB : B ≤ w.heap.size) (h5 : l.ord.length ≤ 500) (hx : RI .i32 w Ba Aa ma xs) (hBa : Ba ≤ w.heap.size) (hm : ma ≤ maxLen) (hy : RI .i32 w Bb Ab mb ys) (hBb : Bb ≤ w.heap.size) (hmb : mb ≤ maxLen) :
  Calls Tryz.prog 128 #[.agg #[v1, v2, v3, v4], .slice Aa ma ca, .slice Ab mb cb] w fun e w' => BtTold w w' B l.ord xs ys e := by
 obtain ⟨W, hW⟩ : ∃ W, W = w.alloc (.cells #[v1, v2, v3, v4] 27) := ⟨_, rfl⟩
 have hb : Below w.heap.size w W := by rw [hW]; exact (Below.refl _ _).alloc (Nat.le_refl _) _
 have hrow : Rw W w.heap.size 27 #[v1, v2, v3, v4] := by rw [hW]; exact heap_alloc_new w _
 have hsW : W.heap.size = w.heap.size + 1 := by rw [hW]; simp
 obtain ⟨-, -, -, r4, -, -, -⟩ := h.on hb hB
 obtain ⟨A, c, xx, rfl, -⟩ := id r4
 have p3 : W.cell? ⟨w.heap.size, 3, none⟩ = some (.slice A l.ord.length c) := hrow.cell rfl
 have hpa := place07_any W B Ba _ l.ord Aa ma ca xs r4 (hx.on hb hBa) h5 hm
 have hpb := fun q => place07_any (W.drewN q) B Bb (.slice A l.ord.length c) l.ord Ab mb cb ys (r4.on (below_drewN (Below.refl W.heap.size W) q) (by omega)) (hy.on (below_drewN hb q) hBb) h5 hmb
 obtain ⟨i0, hi, hz0, hz1, hz2⟩ := info_parts infoRowC
 have HR4 := Lib.hid r4
 have HB := Lib.hid hb
 have HROW := Lib.hid hrow
 have HSW := Lib.hid hsW
 clear r4 hb hrow h hx hy hsW
 obtain ⟨p, hp⟩ : ∃ p, p = placeV l.ord xs := ⟨_, rfl⟩
 obtain ⟨q, hq⟩ : ∃ q, q = placeV l.ord ys := ⟨_, rfl⟩
 rw [← hp] at hpa
 rw [← hq] at hpb
 have HP := Lib.hid hp
 have HQ := Lib.hid hq
 clear hp hq
 have HW := Lib.hid hW
 clear hW
 have hW := HW.out
 subst hW
 go_enter Tryz.func128, Tryz.ntmps128
 go_wp2_with fail
 refine hpa.mono ?_
 rintro e w2 ⟨rfl, q1, rfl⟩
 have hpc := hpb q1
 clear hpa hpb
 go_wp2_with fail
 refine hpc.mono ?_
 rintro e w3 ⟨rfl, q2, rfl⟩
 clear hpc
 have HB2 : Hid (∀ qq, Below w.heap.size w ((w.alloc (.cells #[v1, v2, v3, .slice A l.ord.length c] 27)).drewN qq)) := Lib.hid (fun qq => below_drewN HB.out qq)
 by_cases hno : p < 0 ∨ q < p
 ·have HE : Hid (∀ qq, BtTold w ((w.alloc (.cells #[v1, v2, v3, .slice A l.ord.length c] 27)).drewN qq) B l.ord xs ys (.returned (.tuple #[.slice none 0 0, .int .i64 40]))) := Lib.hid (fun qq => ⟨HB2.out qq, fun _ => rfl, fun i k h1 h2 h3 => by rw [← HP.out] at h1; rw [← HQ.out] at h2; omega⟩)
  by_cases hp0 : p < 0
  ·clear p3 hno
   go_wp2
   go_ret2
   exact HE.out _
  ·have hqp : q < p := by omega
   by_cases hq0 : q < 0
   ·clear p3 hno
    go_wp2
    go_ret2
    exact HE.out _
   ·clear p3 hno
    go_wp2
    go_ret2
    exact HE.out _
 ·obtain ⟨i, hi'⟩ : ∃ i : Nat, p = (i : Int) := ⟨p.toNat, by omega⟩
  obtain ⟨k, hk'⟩ : ∃ k : Nat, q = (k : Int) := ⟨q.toNat, by omega⟩
  subst hi' hk'
  obtain ⟨d, hd⟩ : ∃ d, k = i + d := ⟨k - i, by omega⟩
  have hkl : k < l.ord.length := by
   rcases place_is (o := l.ord) (cs := ys) with ⟨j, e, he, _, hpj⟩ | ⟨_, hpj⟩
   ·have := (List.getElem?_eq_some_iff.1 he).1
    have := HQ.out
    omega
   ·have := HQ.out
    omega
  have hp0 : ¬ (i : Int) < 0 := by omega
  have hq0 : ¬ (k : Int) < 0 := by omega
  have hqp : ¬ (k : Int) < (i : Int) := by omega
  have hd5 : d ≤ 500 := by omega
  have HD := Lib.hid hd
  clear hno hd
  go_wp2
  go_loopw [10, 11] (fun v jv wr => ∃ m : Nat, m ≤ d + 1 ∧ jv = .int .i64 ((i + m : Nat) : Int) ∧ Hid (∃ vs, wr.ownsRow (w.heap.size + 1) 39 1 v m vs ∧ RowsV wr B vs ((runN i m).map (cellsJ l.ord)) ∧ Below (w.heap.size + 1) (w.alloc (.cells #[v1, v2, v3, .slice A l.ord.length c] 27)) wr)) (fun _ jv _ => i + d + 1 - (intOf jv).toNat)
  case atStart => exact ⟨0, Nat.zero_le _, rfl, Lib.hid ⟨[], World.ownsRow_nil _ _ _ _, ⟨rfl, fun i r u h => by simp [runN] at h⟩, below_drewN (Below.refl _ _) _⟩⟩
  case round =>
   obtain ⟨m, hm', rfl, HV⟩ := hrel
   by_cases hlt : m < d + 1
   ·obtain ⟨vs, hown, hrv, hbw⟩ := HV.out
    have hjl : i + m < l.ord.length := by have := HD.out; omega
    obtain ⟨e, he⟩ : ∃ e, l.ord[i + m]? = some e := ⟨_, List.getElem?_eq_getElem hjl⟩
    have hr4 := HR4.out.on hbw (by omega)
    have hcl : e.cells.length ≤ maxLen := by
     obtain ⟨_, _, _, _, _, hel⟩ := id hr4
     obtain ⟨_, _, _, _, _, qq⟩ := hel _ e he
     exact qq
    obtain ⟨ad, cx, Ac, cc, hv, hbl, -, hc1, -, hri⟩ := elmR_at hr4 he
    injection hv with hA _ hcc
    subst hA hcc
    have p3' : wr.cell? ⟨w.heap.size, 3, none⟩ = some (.slice (some ad) l.ord.length c) := (hbw.cell (p := ⟨w.heap.size, 3, none⟩) (Nat.lt_succ_self _)).trans p3
    have hsz := hbw.size
    have i0' : (0 : Int) ≤ ((i + m : Nat) : Int) := by omega
    have i1' : ((i + m : Nat) : Int) < (l.ord.length : Int) := by omega
    have hle : ((i + m : Nat) : Int) ≤ (k : Int) := by have := HD.out; omega
    have HOWN := Lib.hid hown
    have HRV := Lib.hid hrv
    have HBW := Lib.hid hbw
    have HE := Lib.hid he
    have HRI := Lib.hid hri
    have HCL := Lib.hid hcl
    have HSZ := Lib.hid hsz
    obtain ⟨j, hj⟩ : ∃ j, j = i + m := ⟨_, rfl⟩
    rw [← hj] at i0' i1' hle hc1 ⊢
    have HJ := Lib.hid hj
    clear hown hrv hbw he hri hr4 hcl hsz hj hbl hjl
    go_wp2_with (at_builtin; (refine wpList_append_own _ rfl _ _ 32 rfl (w.heap.size + 1) 39 i0 (.slice none 0 0) 1 24 Tryz.underlying32 hi hz0 hz1 hz2 rfl (by decide) _ m vs rfl (HOWN.out.alloc _) _ 1 1 [.slice Ac e.cells.length cc] rfl rfl (cell_one_new _ _ _) (by intro u hu; simp at hu; subst hu; rfl) (by unfold maxLen; omega) (by omega) (by simp; have := HSZ.out; have := HSW.out; omega) ?_); intro v' w3 hown' hgrow _)
    have HEND : Hid (∃ vs, w3.ownsRow (w.heap.size + 1) 39 1 v' (m + 1) vs ∧ RowsV w3 B vs ((runN i (m + 1)).map (cellsJ l.ord)) ∧ Below (w.heap.size + 1) (w.alloc (.cells #[v1, v2, v3, .slice (some ad) l.ord.length c] 27)) w3) := Lib.hid (by
     have hb3 : Below (w.heap.size + 1) wr w3 := ((Below.refl _ _).alloc (by have := HSZ.out; have := HSW.out; omega) _).grown hgrow (by simp; have := HSZ.out; have := HSW.out; omega) (fun b hb => (HOWN.out.lt b hb).1)
     refine ⟨_, hown', ?_, HBW.out.trans hb3⟩
     have hce : cellsJ l.ord (i + m) = e.cells := by unfold cellsJ; rw [HE.out]; rfl
     rw [runN_next, List.map_append, List.map_cons, List.map_nil, hce]
     exact (HRV.out.on hb3 (by omega)).snoc (HRI.out.on hb3 (by omega)) HCL.out)
    clear hown' hgrow
    go_roundw
    case rel => exact ⟨m + 1, by omega, by have := HJ.out; go_num, HEND⟩
    case measure => simp [intOf]; have := HJ.out; have := HD.out; omega
   ·obtain rfl : m = d + 1 := by omega
    obtain ⟨vs, hown, hrv, hbw⟩ := HV.out
    have hgt : ¬ ((i + (d + 1) : Nat) : Int) ≤ (k : Int) := by have := HD.out; omega
    obtain ⟨Ae, ce, hve, hre⟩ := hrv.readsQ (by rw [List.length_map, runN_len]) hown
    subst hve
    have HF : Hid (BtTold w wr B l.ord xs ys (.returned (.tuple #[.slice Ae (runN i (d + 1)).length ce, .int .i64 0]))) := Lib.hid ⟨HB.out.trans (hbw.mono (by omega)), fun hh => by rw [← HP.out, ← HQ.out] at hh; have := HD.out; omega, fun i' k' h1 h2 h3 => by
     rw [← HP.out] at h1
     rw [← HQ.out] at h2
     obtain rfl : i = i' := by omega
     obtain rfl : k = k' := by omega
     rw [show k - i + 1 = d + 1 by have := HD.out; omega]
     exact ⟨Ae, ce, by rw [List.length_map], hre⟩⟩
    clear hown hrv hbw hre
    go_wp2
    go_ret2
    exact HF.out
end Go.Proofs.YthgiikhkcpbpfaaGreatDoor.C
