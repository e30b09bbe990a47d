/-
  Joined: LdJ. Each with what its own head says.
-/
import Derived.Test.YthaibekbefndlaaGreatDoorH19

namespace Go.Proofs.YthaibekbefndlaaGreatDoor.C
open Go.RowKit

theorem wpAnyH_one {P : Program} {ops : Array Oper} {Q : Exit → Act → World → Prop} {md : Region.Mode} {S : World → Prop} {i : Nat} {o : Oper} {fuel : Nat} {listed : Array Bool} {a : Act} {w : World} (hr : Region.ready md ops listed = [i]) (ho : ops[i]? = some o)
  (h : ∀ K : Act → World → Prop, Hid (∀ a' w', S w' → (S w' → wpAnyH P md ops Q S fuel (listed.setIfInBounds i true) a' w') → K a' w') →
   if Region.wanted o (yielded ops a.tmps) = true then Oper.wp P o a w K Q else K (a.put o.dst undef) w) : wpAnyH P md ops Q S (fuel + 1) listed a w := by
 refine ⟨fun h0 => (by rw [hr] at h0; cases h0), fun j hj => ?_⟩
 rw [hr, List.mem_singleton] at hj
 subst hj
 have h1 := h (fun a' w' => S w' ∧ wpAnyH P md ops Q S fuel (listed.setIfInBounds j true) a' w') (Lib.hid fun a' w' hs hh => ⟨hs, hh hs⟩)
 unfold wpOp
 simp only [ho]
 split
 ·rename_i hw
  rw [if_pos hw] at h1
  exact .inl h1
 ·rename_i hw
  rw [if_neg hw] at h1
  exact h1
set_option maxRecDepth 100000 in
set_option maxHeartbeats 1000000 in
theorem order_any (w : World) (lo R : Nat) (T : TV) (k : Nat) (v1 v2 v3 v4 : Value) (M : Nat) (d : List (List UInt8 × List Int)) (o : List Elm) (h : CU w R T k v1 v2 v3 v4 (.map (some M))) (hd : DeAt w lo M d) (ho : OrdAt w lo v4 o) (hN : NumOk T) (hE : Ended (T.ts.drop k)) (hn : o.length ≤ 500) (hlo : R < lo) (hlw : lo ≤ w.heap.size) :
  Calls Tryz.prog 79 #[.pointer (some ⟨R, 0, none⟩)] w (OdTold w lo R T v1 v2 v3 v4 (.map (some M)) (ordL d o (T.ts.drop k))) := by
 obtain ⟨x0, r0, hx0⟩ := hE.some_
 have hR := h.lt
 obtain ⟨X, hX⟩ : ∃ X, X = ordL d o (T.ts.drop k) := ⟨_, rfl⟩
 rw [← hX]
 rw [hx0] at hX
 unfold ordL at hX
 by_cases c0 : x0.k = 3 ∨ x0.k = 5
 rotate_left
 ·have hta := take2_no w R T k v1 v2 v3 v4 (.map (some M)) x0 r0 _ rfl 3 5 h hx0 c0
  rw [takeK, if_neg (by simpa using c0)] at hX
  simp only at hX
  subst hX
  clear h hN hE hd ho c0 hx0
  go_enter Tryz.func79, Tryz.ntmps79
  go_wp2_with fail
  refine hta.mono ?_
  rintro e w1 ⟨rfl, hm1⟩
  exact ⟨rfl, rfl, (Fr.of_moved hm1).mono fun _ _ e => .inl e⟩
 have hta := take2_yes w R T k v1 v2 v3 v4 (.map (some M)) x0 r0 _ rfl 3 5 h hx0 c0
 rw [takeK, if_pos (by simpa using c0)] at hX
 simp only at hX
 have hnx := hN.at_ hx0
 have hDr := drop_next hx0
 have hE1 : Ended (T.ts.drop (k + 1)) := by
  rw [hDr]
  rw [hx0] at hE
  exact hE.cons (by omega)
 obtain ⟨y, r1, hy⟩ := hE1.some_
 rw [hy] at hDr
 subst hDr
 have HY := Lib.hid hy
 have HE1 := Lib.hid hE1
 have HX := Lib.hid hX
 have HCU := Lib.hid h
 have HDE := Lib.hid hd
 have HO := Lib.hid ho
 have HN := Lib.hid hN
 clear h hN hE hd ho hX
 by_cases c3 : x0.k = 3
 ·have i3 : (x0.k : Int) = 3 := by omega
  cases hs : isSign sThru (y :: r1) with
  | true =>
   have hsk := fun W hc => skips_yes W R T (k + 1) v1 v2 v3 v4 (.map (some M)) y r1 sThru hc HY.out hs
   have HXa : Hid (X = match notBelow x0 r1 with
    | .error e => .error e
    | .ok (b, r') => match addAllL o x0 b with
     | .error e => .error e
     | .ok o' => .ok (o', r')) := Lib.hid (by have := HX.out; rw [if_pos ⟨c3, hs⟩] at this; exact this)
   have hL := sign_left (ts := T.ts.drop (k + 1)) HE1.out (by rw [HY.out]; exact hs)
   rw [List.drop_drop] at hL
   have hE2 := hL.1
   have hd2 : T.ts.drop (k + 1 + 1) = r1 := drop_next HY.out
   obtain ⟨z, r2, hz⟩ := hE2.some_
   rw [hz] at hd2
   subst hd2
   have hzn := HN.out.at_ hz
   have HSK := Lib.hid hsk
   have HZ := Lib.hid hz
   clear hs hsk hL hE2 hz hx0 c3 c0
   go_enter Tryz.func79, Tryz.ntmps79
   go_wp2_with fail
   refine hta.mono ?_
   rintro e w1 ⟨rfl, hc1, hm1⟩
   obtain ⟨W1, hW1⟩ : ∃ W1, W1 = w1.alloc (.cells #[.int .u8 x0.k, .string (str x0.t), .int .i64 x0.n, .int .i64 x0.at_] 92) := ⟨_, rfl⟩
   have HT1 : Hid (LTk W1 w1.heap.size x0) := Lib.hid (by rw [hW1]; exact LTk.new w1 x0)
   have HC1 : Hid (CU W1 R T (k + 1) v1 v2 v3 v4 (.map (some M))) := Lib.hid (by rw [hW1]; exact hc1.alloc _)
   have HF1 : Hid (Fr w W1 (· = R)) := Lib.hid (by rw [hW1]; exact (Fr.of_moved hm1).alloc _)
   have HD1 := Lib.hid (HDE.out.frR HCU.out HF1.out)
   have HO1 := Lib.hid (HO.out.frR HCU.out HF1.out)
   have hs1 := HF1.out.size
   have hsz1 : w.heap.size ≤ w1.heap.size := hm1.size
   have hbR : w1.heap.size ≠ R := by omega
   clear hc1 hm1 hta
   obtain ⟨t0, t1, t2, t3⟩ := HT1.out.cells
   rw [hW1] at t0 t1 t2 t3
   unfold tkV
   go_wp2_with fail
   rw [i3] at hW1
   rw [← hW1]
   clear hW1 t0 t1 t2 t3 i3
   refine (HSK.out _ HC1.out).mono ?_
   rintro e w2 ⟨rfl, hc2, hm2⟩
   have HC2 := Lib.hid hc2
   have HM2 := Lib.hid hm2
   have HT2 := Lib.hid (HT1.out.moved hm2 hbR)
   have hf2 := Fr.of_moved hm2
   have HF2 : Hid (Fr w w2 (· = R)) := Lib.hid (HF1.out.next hf2 (fun j _ e => e))
   have HO2 := Lib.hid (HO1.out.frR HC1.out hf2)
   clear hc2 hm2 hf2
   go_wp2_with fail
   by_cases hzk : z.k = 3
   rotate_left
   ·have hmm : notBelow x0 (z :: r2) = .error (30, z.at_) := by
     unfold notBelow
     simp only [takeK]
     rw [if_neg (by simpa using hzk)]
    have HXb : Hid (X = .error (30, z.at_)) := Lib.hid (by have := HXa.out; rw [hmm] at this; exact this)
    have hnb := notBelow_kind w2.drew R T (k + 1 + 1) v1 v2 v3 v4 (.map (some M)) z r2 x0 HC2.out.drew HZ.out hzk
    unfold tkV at hnb
    clear hmm hzk
    refine wp_region_held (S := fun W : World => W.cell? ⟨w1.heap.size, 0, none⟩ = some (.int .u8 x0.k) ∧ W.cell? ⟨w1.heap.size, 1, none⟩ = some (.string (str x0.t)) ∧ W.cell? ⟨w1.heap.size, 2, none⟩ = some (.int .i64 x0.n) ∧ W.cell? ⟨w1.heap.size, 3, none⟩ = some (.int .i64 x0.at_)) (by kernel_rfl) ?_
    change wpAnyH _ _ _ _ _ _ _ _ w2.drew
    have hS := (show (fun W : World => W.cell? ⟨w1.heap.size, 0, none⟩ = some (.int .u8 x0.k) ∧ W.cell? ⟨w1.heap.size, 1, none⟩ = some (.string (str x0.t)) ∧ W.cell? ⟨w1.heap.size, 2, none⟩ = some (.int .i64 x0.n) ∧ W.cell? ⟨w1.heap.size, 3, none⟩ = some (.int .i64 x0.at_)) w2.drew from HT2.out.drew.cells)
    refine wpAnyH_take (i := 0) (oi := ?oiA0) (v := ?vA0) ?hiA0 (by kernel_rfl) (by kernel_rfl) (by kernel_rfl) ?hqA0 (Or.inl ⟨?hwA0, ?hyA0⟩) (by assumption) ?restA0
    case hiA0 => exact rfl
    case hqA0 => exact fun _ _ _ h => h
    case hwA0 => rfl
    case hyA0 => (intro x hx; (try dsimp only at hx); simp only [List.getElem_toArray, List.getElem_cons_zero]; go_split_ands; go_simp; try with_reducible rfl)
    try simp only [Act.put, List.setIfInBounds_toArray, List.set_cons_zero, List.set_cons_succ, List.getElem_toArray, List.getElem_cons_zero]
    refine wpAnyH_take (i := 1) (oi := ?oiA1) (v := ?vA1) ?hiA1 (by kernel_rfl) (by kernel_rfl) (by kernel_rfl) ?hqA1 (Or.inl ⟨?hwA1, ?hyA1⟩) (by assumption) ?restA1
    case hiA1 => exact rfl
    case hqA1 => exact fun _ _ _ h => h
    case hwA1 => rfl
    case hyA1 => (intro x hx; (try dsimp only at hx); simp only [List.getElem_toArray, List.getElem_cons_succ, List.getElem_cons_zero]; go_split_ands; go_simp; try with_reducible rfl)
    try simp only [Act.put, List.setIfInBounds_toArray, List.set_cons_zero, List.set_cons_succ, List.getElem_toArray, List.getElem_cons_succ, List.getElem_cons_zero]
    refine wpAnyH_take (i := 2) (oi := ?oiA2) (v := ?vA2) ?hiA2 (by kernel_rfl) (by kernel_rfl) (by kernel_rfl) ?hqA2 (Or.inl ⟨?hwA2, ?hyA2⟩) (by assumption) ?restA2
    case hiA2 => exact rfl
    case hqA2 => exact fun _ _ _ h => h
    case hwA2 => rfl
    case hyA2 => (intro x hx; (try dsimp only at hx); simp only [List.getElem_toArray, List.getElem_cons_succ, List.getElem_cons_zero]; go_split_ands; go_simp; try with_reducible rfl)
    try simp only [Act.put, List.setIfInBounds_toArray, List.set_cons_zero, List.set_cons_succ, List.getElem_toArray, List.getElem_cons_succ, List.getElem_cons_zero]
    refine wpAnyH_take (i := 3) (oi := ?oiA3) (v := ?vA3) ?hiA3 (by kernel_rfl) (by kernel_rfl) (by kernel_rfl) ?hqA3 (Or.inl ⟨?hwA3, ?hyA3⟩) (by assumption) ?restA3
    case hiA3 => exact rfl
    case hqA3 => exact fun _ _ _ h => h
    case hwA3 => rfl
    case hyA3 => (intro x hx; (try dsimp only at hx); simp only [List.getElem_toArray, List.getElem_cons_succ, List.getElem_cons_zero]; go_split_ands; go_simp; try with_reducible rfl)
    try simp only [Act.put, List.setIfInBounds_toArray, List.set_cons_zero, List.set_cons_succ, List.getElem_toArray, List.getElem_cons_succ, List.getElem_cons_zero]
    refine wpAnyH_take (i := 4) (oi := ?oiA4) (v := ?vA4) ?hiA4 (by kernel_rfl) (by kernel_rfl) (by kernel_rfl) ?hqA4 (Or.inl ⟨?hwA4, ?hyA4⟩) (by assumption) ?restA4
    case hiA4 => exact rfl
    case hqA4 => exact fun _ _ _ h => h
    case hwA4 => rfl
    case hyA4 => (intro x hx; (try dsimp only at hx); simp only [List.getElem_toArray, List.getElem_cons_succ, List.getElem_cons_zero]; go_split_ands; go_simp; try with_reducible rfl)
    try simp only [Act.put, List.setIfInBounds_toArray, List.set_cons_zero, List.set_cons_succ, List.getElem_toArray, List.getElem_cons_succ, List.getElem_cons_zero]
    refine wpAnyH_take (i := 5) (oi := ?oiA5) (v := ?vA5) ?hiA5 (by kernel_rfl) (by kernel_rfl) (by kernel_rfl) ?hqA5 (Or.inl ⟨?hwA5, ?hyA5⟩) (by assumption) ?restA5
    case hiA5 => exact rfl
    case hqA5 => exact fun _ _ _ h => h
    case hwA5 => rfl
    case hyA5 => (intro x hx; (try dsimp only at hx); simp only [List.getElem_toArray, List.getElem_cons_succ, List.getElem_cons_zero]; go_split_ands; go_simp; try with_reducible rfl)
    try simp only [Act.put, List.setIfInBounds_toArray, List.set_cons_zero, List.set_cons_succ, List.getElem_toArray, List.getElem_cons_succ, List.getElem_cons_zero]
    refine wpAnyH_one (i := 6) (by kernel_rfl) rfl (fun K hK => ?_)
    simp only [List.getElem_toArray, List.getElem_cons_succ, List.getElem_cons_zero]
    go_simp
    go_at_call 132
    with_reducible refine hnb.mono ?_
    rintro e w3 ⟨rfl, hm3⟩
    have eX := HXb.out
    subst eX
    exact ⟨rfl, rfl, (HF2.out.drew.next (Fr.of_moved hm3) (fun j _ e => e)).mono fun _ _ e => .inl e⟩
   by_cases hlz : z.n < x0.n
   ·have hmm : notBelow x0 (z :: r2) = .error (30, z.at_) := by
     unfold notBelow
     simp only [takeK]
     rw [if_pos (by simpa using hzk)]
     simp only
     rw [if_pos hlz]
    have HXb : Hid (X = .error (30, z.at_)) := Lib.hid (by have := HXa.out; rw [hmm] at this; exact this)
    have hnb := notBelow_less w2.drew R T (k + 1 + 1) v1 v2 v3 v4 (.map (some M)) z r2 x0 HC2.out.drew HZ.out hzk hlz
    unfold tkV at hnb
    clear hmm hzk hlz
    refine wp_region_held (S := fun W : World => W.cell? ⟨w1.heap.size, 0, none⟩ = some (.int .u8 x0.k) ∧ W.cell? ⟨w1.heap.size, 1, none⟩ = some (.string (str x0.t)) ∧ W.cell? ⟨w1.heap.size, 2, none⟩ = some (.int .i64 x0.n) ∧ W.cell? ⟨w1.heap.size, 3, none⟩ = some (.int .i64 x0.at_)) (by kernel_rfl) ?_
    change wpAnyH _ _ _ _ _ _ _ _ w2.drew
    have hS := (show (fun W : World => W.cell? ⟨w1.heap.size, 0, none⟩ = some (.int .u8 x0.k) ∧ W.cell? ⟨w1.heap.size, 1, none⟩ = some (.string (str x0.t)) ∧ W.cell? ⟨w1.heap.size, 2, none⟩ = some (.int .i64 x0.n) ∧ W.cell? ⟨w1.heap.size, 3, none⟩ = some (.int .i64 x0.at_)) w2.drew from HT2.out.drew.cells)
    refine wpAnyH_take (i := 0) (oi := ?oiB0) (v := ?vB0) ?hiB0 (by kernel_rfl) (by kernel_rfl) (by kernel_rfl) ?hqB0 (Or.inl ⟨?hwB0, ?hyB0⟩) (by assumption) ?restB0
    case hiB0 => exact rfl
    case hqB0 => exact fun _ _ _ h => h
    case hwB0 => rfl
    case hyB0 => (intro x hx; (try dsimp only at hx); simp only [List.getElem_toArray, List.getElem_cons_zero]; go_split_ands; go_simp; try with_reducible rfl)
    try simp only [Act.put, List.setIfInBounds_toArray, List.set_cons_zero, List.set_cons_succ, List.getElem_toArray, List.getElem_cons_zero]
    refine wpAnyH_take (i := 1) (oi := ?oiB1) (v := ?vB1) ?hiB1 (by kernel_rfl) (by kernel_rfl) (by kernel_rfl) ?hqB1 (Or.inl ⟨?hwB1, ?hyB1⟩) (by assumption) ?restB1
    case hiB1 => exact rfl
    case hqB1 => exact fun _ _ _ h => h
    case hwB1 => rfl
    case hyB1 => (intro x hx; (try dsimp only at hx); simp only [List.getElem_toArray, List.getElem_cons_succ, List.getElem_cons_zero]; go_split_ands; go_simp; try with_reducible rfl)
    try simp only [Act.put, List.setIfInBounds_toArray, List.set_cons_zero, List.set_cons_succ, List.getElem_toArray, List.getElem_cons_succ, List.getElem_cons_zero]
    refine wpAnyH_take (i := 2) (oi := ?oiB2) (v := ?vB2) ?hiB2 (by kernel_rfl) (by kernel_rfl) (by kernel_rfl) ?hqB2 (Or.inl ⟨?hwB2, ?hyB2⟩) (by assumption) ?restB2
    case hiB2 => exact rfl
    case hqB2 => exact fun _ _ _ h => h
    case hwB2 => rfl
    case hyB2 => (intro x hx; (try dsimp only at hx); simp only [List.getElem_toArray, List.getElem_cons_succ, List.getElem_cons_zero]; go_split_ands; go_simp; try with_reducible rfl)
    try simp only [Act.put, List.setIfInBounds_toArray, List.set_cons_zero, List.set_cons_succ, List.getElem_toArray, List.getElem_cons_succ, List.getElem_cons_zero]
    refine wpAnyH_take (i := 3) (oi := ?oiB3) (v := ?vB3) ?hiB3 (by kernel_rfl) (by kernel_rfl) (by kernel_rfl) ?hqB3 (Or.inl ⟨?hwB3, ?hyB3⟩) (by assumption) ?restB3
    case hiB3 => exact rfl
    case hqB3 => exact fun _ _ _ h => h
    case hwB3 => rfl
    case hyB3 => (intro x hx; (try dsimp only at hx); simp only [List.getElem_toArray, List.getElem_cons_succ, List.getElem_cons_zero]; go_split_ands; go_simp; try with_reducible rfl)
    try simp only [Act.put, List.setIfInBounds_toArray, List.set_cons_zero, List.set_cons_succ, List.getElem_toArray, List.getElem_cons_succ, List.getElem_cons_zero]
    refine wpAnyH_take (i := 4) (oi := ?oiB4) (v := ?vB4) ?hiB4 (by kernel_rfl) (by kernel_rfl) (by kernel_rfl) ?hqB4 (Or.inl ⟨?hwB4, ?hyB4⟩) (by assumption) ?restB4
    case hiB4 => exact rfl
    case hqB4 => exact fun _ _ _ h => h
    case hwB4 => rfl
    case hyB4 => (intro x hx; (try dsimp only at hx); simp only [List.getElem_toArray, List.getElem_cons_succ, List.getElem_cons_zero]; go_split_ands; go_simp; try with_reducible rfl)
    try simp only [Act.put, List.setIfInBounds_toArray, List.set_cons_zero, List.set_cons_succ, List.getElem_toArray, List.getElem_cons_succ, List.getElem_cons_zero]
    refine wpAnyH_take (i := 5) (oi := ?oiB5) (v := ?vB5) ?hiB5 (by kernel_rfl) (by kernel_rfl) (by kernel_rfl) ?hqB5 (Or.inl ⟨?hwB5, ?hyB5⟩) (by assumption) ?restB5
    case hiB5 => exact rfl
    case hqB5 => exact fun _ _ _ h => h
    case hwB5 => rfl
    case hyB5 => (intro x hx; (try dsimp only at hx); simp only [List.getElem_toArray, List.getElem_cons_succ, List.getElem_cons_zero]; go_split_ands; go_simp; try with_reducible rfl)
    try simp only [Act.put, List.setIfInBounds_toArray, List.set_cons_zero, List.set_cons_succ, List.getElem_toArray, List.getElem_cons_succ, List.getElem_cons_zero]
    refine wpAnyH_one (i := 6) (by kernel_rfl) rfl (fun K hK => ?_)
    simp only [List.getElem_toArray, List.getElem_cons_succ, List.getElem_cons_zero]
    go_simp
    go_at_call 132
    with_reducible refine hnb.mono ?_
    rintro e w3 ⟨rfl, hm3⟩
    have eX := HXb.out
    subst eX
    exact ⟨rfl, rfl, (HF2.out.drew.next (Fr.of_moved hm3) (fun j _ e => e)).mono fun _ _ e => .inl e⟩
   have hmm : notBelow x0 (z :: r2) = .ok (z, r2) := by
    unfold notBelow
    simp only [takeK]
    rw [if_pos (by simpa using hzk)]
    simp only
    rw [if_neg hlz]
   have HXb : Hid (X = match addAllL o x0 z with
     | .error e => .error e
     | .ok o' => .ok (o', r2)) := Lib.hid (by have := HXa.out; rw [hmm] at this; exact this)
   have hnb := notBelow_yes w2.drew R T (k + 1 + 1) v1 v2 v3 v4 (.map (some M)) z r2 x0 HC2.out.drew HZ.out hzk (by omega)
   unfold tkV at hnb
   clear hmm hzk hlz
   refine wp_region_held (S := fun W : World => W.cell? ⟨w1.heap.size, 0, none⟩ = some (.int .u8 x0.k) ∧ W.cell? ⟨w1.heap.size, 1, none⟩ = some (.string (str x0.t)) ∧ W.cell? ⟨w1.heap.size, 2, none⟩ = some (.int .i64 x0.n) ∧ W.cell? ⟨w1.heap.size, 3, none⟩ = some (.int .i64 x0.at_)) (by kernel_rfl) ?_
   change wpAnyH _ _ _ _ _ _ _ _ w2.drew
   have hS := (show (fun W : World => W.cell? ⟨w1.heap.size, 0, none⟩ = some (.int .u8 x0.k) ∧ W.cell? ⟨w1.heap.size, 1, none⟩ = some (.string (str x0.t)) ∧ W.cell? ⟨w1.heap.size, 2, none⟩ = some (.int .i64 x0.n) ∧ W.cell? ⟨w1.heap.size, 3, none⟩ = some (.int .i64 x0.at_)) w2.drew from HT2.out.drew.cells)
   refine wpAnyH_take (i := 0) (oi := ?oiC0) (v := ?vC0) ?hiC0 (by kernel_rfl) (by kernel_rfl) (by kernel_rfl) ?hqC0 (Or.inl ⟨?hwC0, ?hyC0⟩) (by assumption) ?restC0
   case hiC0 => exact rfl
   case hqC0 => exact fun _ _ _ h => h
   case hwC0 => rfl
   case hyC0 => (intro x hx; (try dsimp only at hx); simp only [List.getElem_toArray, List.getElem_cons_zero]; go_split_ands; go_simp; try with_reducible rfl)
   try simp only [Act.put, List.setIfInBounds_toArray, List.set_cons_zero, List.set_cons_succ, List.getElem_toArray, List.getElem_cons_zero]
   refine wpAnyH_take (i := 1) (oi := ?oiC1) (v := ?vC1) ?hiC1 (by kernel_rfl) (by kernel_rfl) (by kernel_rfl) ?hqC1 (Or.inl ⟨?hwC1, ?hyC1⟩) (by assumption) ?restC1
   case hiC1 => exact rfl
   case hqC1 => exact fun _ _ _ h => h
   case hwC1 => rfl
   case hyC1 => (intro x hx; (try dsimp only at hx); simp only [List.getElem_toArray, List.getElem_cons_succ, List.getElem_cons_zero]; go_split_ands; go_simp; try with_reducible rfl)
   try simp only [Act.put, List.setIfInBounds_toArray, List.set_cons_zero, List.set_cons_succ, List.getElem_toArray, List.getElem_cons_succ, List.getElem_cons_zero]
   refine wpAnyH_take (i := 2) (oi := ?oiC2) (v := ?vC2) ?hiC2 (by kernel_rfl) (by kernel_rfl) (by kernel_rfl) ?hqC2 (Or.inl ⟨?hwC2, ?hyC2⟩) (by assumption) ?restC2
   case hiC2 => exact rfl
   case hqC2 => exact fun _ _ _ h => h
   case hwC2 => rfl
   case hyC2 => (intro x hx; (try dsimp only at hx); simp only [List.getElem_toArray, List.getElem_cons_succ, List.getElem_cons_zero]; go_split_ands; go_simp; try with_reducible rfl)
   try simp only [Act.put, List.setIfInBounds_toArray, List.set_cons_zero, List.set_cons_succ, List.getElem_toArray, List.getElem_cons_succ, List.getElem_cons_zero]
   refine wpAnyH_take (i := 3) (oi := ?oiC3) (v := ?vC3) ?hiC3 (by kernel_rfl) (by kernel_rfl) (by kernel_rfl) ?hqC3 (Or.inl ⟨?hwC3, ?hyC3⟩) (by assumption) ?restC3
   case hiC3 => exact rfl
   case hqC3 => exact fun _ _ _ h => h
   case hwC3 => rfl
   case hyC3 => (intro x hx; (try dsimp only at hx); simp only [List.getElem_toArray, List.getElem_cons_succ, List.getElem_cons_zero]; go_split_ands; go_simp; try with_reducible rfl)
   try simp only [Act.put, List.setIfInBounds_toArray, List.set_cons_zero, List.set_cons_succ, List.getElem_toArray, List.getElem_cons_succ, List.getElem_cons_zero]
   refine wpAnyH_take (i := 4) (oi := ?oiC4) (v := ?vC4) ?hiC4 (by kernel_rfl) (by kernel_rfl) (by kernel_rfl) ?hqC4 (Or.inl ⟨?hwC4, ?hyC4⟩) (by assumption) ?restC4
   case hiC4 => exact rfl
   case hqC4 => exact fun _ _ _ h => h
   case hwC4 => rfl
   case hyC4 => (intro x hx; (try dsimp only at hx); simp only [List.getElem_toArray, List.getElem_cons_succ, List.getElem_cons_zero]; go_split_ands; go_simp; try with_reducible rfl)
   try simp only [Act.put, List.setIfInBounds_toArray, List.set_cons_zero, List.set_cons_succ, List.getElem_toArray, List.getElem_cons_succ, List.getElem_cons_zero]
   refine wpAnyH_take (i := 5) (oi := ?oiC5) (v := ?vC5) ?hiC5 (by kernel_rfl) (by kernel_rfl) (by kernel_rfl) ?hqC5 (Or.inl ⟨?hwC5, ?hyC5⟩) (by assumption) ?restC5
   case hiC5 => exact rfl
   case hqC5 => exact fun _ _ _ h => h
   case hwC5 => rfl
   case hyC5 => (intro x hx; (try dsimp only at hx); simp only [List.getElem_toArray, List.getElem_cons_succ, List.getElem_cons_zero]; go_split_ands; go_simp; try with_reducible rfl)
   try simp only [Act.put, List.setIfInBounds_toArray, List.set_cons_zero, List.set_cons_succ, List.getElem_toArray, List.getElem_cons_succ, List.getElem_cons_zero]
   refine wpAnyH_one (i := 6) (by kernel_rfl) rfl (fun K hK => ?_)
   simp only [List.getElem_toArray, List.getElem_cons_succ, List.getElem_cons_zero]
   go_simp
   go_at_call 132
   with_reducible refine hnb.mono ?_
   rintro e w3 ⟨rfl, hc3, hm3⟩
   have HT3 := Lib.hid (HT2.out.drew.moved hm3 hbR)
   have HC3 := Lib.hid hc3
   have hf3 := Fr.of_moved hm3
   have HO3 := Lib.hid (HO2.out.drew.frR HC2.out.drew hf3)
   have HF3 : Hid (Fr w w3 (· = R)) := Lib.hid (HF2.out.drew.next hf3 (fun j _ e => e))
   have hl3 := HF3.out.size
   clear hc3 hm3 hf3
   go_simp
   refine hK.out _ _ HT3.out.cells (fun hS => ?_)
   refine wpAnyH_one (i := 7) (by kernel_rfl) rfl (fun K hK => ?_)
   simp only [List.getElem_toArray, List.getElem_cons_succ, List.getElem_cons_zero]
   go_simp
   go_at_call 131
   have haa := addAll_any w3 lo R T (k + 1 + 1 + 1) v1 v2 v3 v4 (.map (some M)) x0 z o HC3.out HO3.out hn hnx hzn hlo (by omega)
   unfold tkV at haa
   with_reducible refine haa.mono ?_
   intro e w4 h4
   cases ha : addAllL o x0 z with
   | error er =>
    rw [ha] at h4
    obtain ⟨rfl, hf4⟩ := h4
    have HXc : Hid (X = .error er) := Lib.hid (by have := HXb.out; rw [ha] at this; exact this)
    have eX := HXc.out
    subst eX
    exact ⟨rfl, rfl, (HF3.out.mono fun _ _ e => .inl e).next hf4 (fun j _ e => e)⟩
   | ok o' =>
    rw [ha] at h4
    obtain ⟨u4, rfl, hc4, ho4, hw4, hf4⟩ := h4
    have HXc : Hid (X = .ok (o', r2)) := Lib.hid (by have := HXb.out; rw [ha] at this; exact this)
    have eX := HXc.out
    subst eX
    have HT4 : Hid (LTk w4 w1.heap.size x0) := Lib.hid ((hf4.block _ HT3.out.lt (by
     rintro (e | e)
     ·exact hbR e
     ·obtain ⟨vs, hvs, hrow, hrr⟩ := HO3.out
      exact row_ne hrow HT3.out (by decide) e)).trans HT3.out)
    have HEND : Hid (CU w4 R T (k + 1 + 1 + 1) v1 v2 v3 u4 (.map (some M)) ∧ OrdAt w4 lo u4 o' ∧ (∀ g, u4.ownBlock = some g → v4.ownBlock = some g ∨ w.heap.size ≤ g) ∧ Fr w w4 (fun j => j = R ∨ v4.ownBlock = some j)) := Lib.hid ⟨hc4, ho4, fun g e => (hw4 g e).imp id (fun h => by omega), (HF3.out.mono fun _ _ e => .inl e).next hf4 (fun j _ e => e)⟩
    clear hc4 ho4 hw4 hf4 ha
    go_simp
    refine hK.out _ _ HT4.out.cells (fun hS => ?_)
    refine wpAnyH_done (by kernel_rfl) ?_ _
    go_wp2
    go_end0
    exact ⟨k + 1 + 1 + 1, u4, rfl, HEND.out.1, drop_next HZ.out, HEND.out.2.1, HEND.out.2.2.1, HEND.out.2.2.2⟩
  | false =>
   have hsk := fun W hc => skips_no W R T (k + 1) v1 v2 v3 v4 (.map (some M)) y r1 sThru hc HY.out hs
   have HXn : Hid (X = match itemL d x0 with
    | .error e => .error e
    | .ok c => if (placeL o c).isSome then .error (32, x0.at_) else
     if o.length = 500 then .error (3, x0.at_) else
     if isSign sSemi (y :: r1) then likeL d (o ++ [⟨x0.t, c, o.length⟩]) o.length r1
     else .ok (o ++ [⟨x0.t, c, o.length⟩], y :: r1)) := Lib.hid (by have := HX.out; rw [if_neg (by simp [hs])] at this; exact this)
   have HSK := Lib.hid hsk
   clear hs hsk hx0 c3 c0
   go_enter Tryz.func79, Tryz.ntmps79
   go_wp2_with fail
   refine hta.mono ?_
   rintro e w1 ⟨rfl, hc1, hm1⟩
   obtain ⟨W1, hW1⟩ : ∃ W1, W1 = w1.alloc (.cells #[.int .u8 x0.k, .string (str x0.t), .int .i64 x0.n, .int .i64 x0.at_] 92) := ⟨_, rfl⟩
   have HT1 : Hid (LTk W1 w1.heap.size x0) := Lib.hid (by rw [hW1]; exact LTk.new w1 x0)
   have HC1 : Hid (CU W1 R T (k + 1) v1 v2 v3 v4 (.map (some M))) := Lib.hid (by rw [hW1]; exact hc1.alloc _)
   have HF1 : Hid (Fr w W1 (· = R)) := Lib.hid (by rw [hW1]; exact (Fr.of_moved hm1).alloc _)
   have HD1 := Lib.hid (HDE.out.frR HCU.out HF1.out)
   have HO1 := Lib.hid (HO.out.frR HCU.out HF1.out)
   have hs1 := HF1.out.size
   have hsz1 : w.heap.size ≤ w1.heap.size := hm1.size
   have hbR : w1.heap.size ≠ R := by omega
   clear hc1 hm1 hta
   obtain ⟨t0, t1, t2, t3⟩ := HT1.out.cells
   rw [hW1] at t0 t1 t2 t3
   unfold tkV
   go_wp2_with fail
   rw [i3] at hW1
   rw [← hW1]
   clear hW1 t0 t1 t2 t3 i3
   refine (HSK.out _ HC1.out).mono ?_
   rintro e Wa ⟨rfl, hba⟩
   have HCa := Lib.hid (HC1.out.next hba)
   have HTa : Hid (LTk Wa w1.heap.size x0) := Lib.hid ((hba.block _ HT1.out.lt).trans HT1.out)
   have HDa := Lib.hid (HD1.out.next hba)
   have HOa := Lib.hid (HO1.out.next hba)
   have HFa := Lib.hid (HF1.out.trans (.of_below hba))
   have hsa := hba.size
   have hloa : lo ≤ Wa.heap.size := by omega
   clear hba
   have hco := cellsOf_any Wa lo R T (k + 1) v1 v2 v3 v4 M d x0 HCa.out HDa.out hnx hloa
   unfold tkV at hco
   obtain ⟨t0, t1, t2, t3⟩ := HTa.out.cells
   go_wp2_with fail
   cases hi : itemL d x0 with
   | error er =>
    rw [hi] at hco
    have HX2 : Hid (X = .error er) := Lib.hid (by have := HXn.out; rw [hi] at this; exact this)
    refine hco.mono ?_
    rintro e w2 ⟨rfl, hb2⟩
    have eX := HX2.out
    subst eX
    exact ⟨rfl, rfl, (HFa.out.mono fun _ _ e => .inl e).trans (.of_below hb2)⟩
   | ok c =>
    rw [hi] at hco
    have HX2 : Hid (X = if (placeL o c).isSome then .error (32, x0.at_) else
      if o.length = 500 then .error (3, x0.at_) else
      if isSign sSemi (y :: r1) then likeL d (o ++ [⟨x0.t, c, o.length⟩]) o.length r1
      else .ok (o ++ [⟨x0.t, c, o.length⟩], y :: r1)) := Lib.hid (by have := HXn.out; rw [hi] at this; exact this)
    clear hi
    refine hco.mono ?_
    rintro e w2 ⟨⟨v, rfl, hv2⟩, hb2⟩
    have HC2 := Lib.hid (HCa.out.next hb2)
    have HO2 := Lib.hid (HOa.out.next hb2)
    have HD2 := Lib.hid (HDa.out.next hb2)
    have HF2 := Lib.hid (HFa.out.trans (.of_below hb2))
    have HT2 : Hid (LTk w2 w1.heap.size x0) := Lib.hid ((hb2.block _ HTa.out.lt).trans HTa.out)
    have hpl := placeOf_any w2 lo R T (k + 1) v1 v2 v3 v4 (.map (some M)) v o c HC2.out HO2.out hv2 (by omega)
    have HV2 := Lib.hid hv2
    clear hv2 hb2 hco
    go_wp2_with fail
    refine hpl.mono ?_
    rintro e w3 ⟨rfl, hb3⟩
    have HC3 := Lib.hid (HC2.out.next hb3)
    have HO3 := Lib.hid (HO2.out.next hb3)
    have HD3 := Lib.hid (HD2.out.next hb3)
    have HF3 := Lib.hid (HF2.out.trans (.of_below hb3))
    have HT3 : Hid (LTk w3 w1.heap.size x0) := Lib.hid ((hb3.block _ HT2.out.lt).trans HT2.out)
    have HV3 : Hid (w3.ownsRow lo 35 1 v c.length (celC c)) := Lib.hid (ownsRow_fr HV2.out (Fr.of_below (X := fun _ => False) hb3) (fun _ _ => id))
    clear hb3 hpl
    have hrf := fun W => refuse_any 32 x0 W
    unfold tkV at hrf
    obtain ⟨t0, t1, t2, t3⟩ := HT3.out.cells
    cases hp : placeL o c with
    | some j =>
     have hpv : placeV o c = j := by unfold placeV; rw [hp]
     have j0 : (0 : Int) ≤ (j : Int) := by omega
     have HX3 : Hid (X = .error (32, x0.at_)) := Lib.hid (by have := HX2.out; rw [hp] at this; exact this)
     rw [hpv]
     clear hp
     go_wp2_with fail
     refine (hrf _).mono ?_
     rintro e w4 ⟨rfl, hb4⟩
     have eX := HX3.out
     subst eX
     exact ⟨rfl, rfl, (HF3.out.mono fun _ _ e => .inl e).trans (.of_below hb4)⟩
    | none =>
     have hpv : placeV o c = -1 := by unfold placeV; rw [hp]
     have HX3 : Hid (X = if o.length = 500 then .error (3, x0.at_) else
      if isSign sSemi (y :: r1) then likeL d (o ++ [⟨x0.t, c, o.length⟩]) o.length r1
      else .ok (o ++ [⟨x0.t, c, o.length⟩], y :: r1)) := Lib.hid (by have := HX2.out; rw [hp] at this; exact this)
     rw [hpv]
     have hl3 := HF3.out.size
     have had := addElem_any w3 lo R T (k + 1) v1 v2 v3 v4 (.map (some M)) v x0 o c HC3.out HO3.out HV3.out (by omega) hlo (by omega)
     unfold tkV at had
     clear hp hrf
     go_wp2_with fail
     refine had.mono ?_
     rintro e w4 (⟨h5, rfl, hb4⟩ | ⟨h5, rfl, ⟨u4, hc4, ho4, hw4⟩, hf4⟩)
     ·have HX4 : Hid (X = .error (3, x0.at_)) := Lib.hid (by have := HX3.out; rw [if_pos h5] at this; exact this)
      have eX := HX4.out
      subst eX
      exact ⟨rfl, rfl, (HF3.out.mono fun _ _ e => .inl e).trans (.of_below hb4)⟩
     have HX4 : Hid (X = if isSign sSemi (y :: r1) then likeL d (o ++ [⟨x0.t, c, o.length⟩]) o.length r1
      else .ok (o ++ [⟨x0.t, c, o.length⟩], y :: r1)) := Lib.hid (by have := HX3.out; rw [if_neg h5] at this; exact this)
     have HC4 := Lib.hid hc4
     have HO4 := Lib.hid ho4
     have HF4 : Hid (Fr w w4 (fun j => j = R ∨ v4.ownBlock = some j)) := Lib.hid ((HF3.out.mono fun _ _ e => .inl e).trans (hf4.mono fun _ _ e => e))
     have HW4 : Hid (∀ g, u4.ownBlock = some g → v4.ownBlock = some g ∨ w.heap.size ≤ g) := Lib.hid fun g e => (hw4 g e).imp id (fun h => by omega)
     have HD4 : Hid (DeAt w4 lo M d) := Lib.hid (by
      obtain ⟨vs, hvs, hrow, hrr⟩ := HO3.out
      refine HD3.out.fr hf4 ?_ ?_
      ·rintro (e | e)
       ·subst e
        obtain ⟨l, es, q, h1, _⟩ := HD3.out.map
        have e := h1.symm.trans HC3.out.1
        simp at e
       ·obtain ⟨l, hl⟩ := HD3.out.map
        exact row_nomap hrow hl e
      ·rintro g cc z t (e | e) hg
       ·subst e
        rw [HC3.out.1] at hg
        simp at hg
        obtain ⟨-, rfl, -⟩ := hg
        decide
       ·obtain ⟨c', hc'⟩ := ownsRow_ty hrow e
        rw [hg] at hc'
        simp at hc'
        obtain ⟨-, rfl, -⟩ := hc'
        decide)
     have hl4 := HF4.out.size
     clear hc4 ho4 hw4 hf4 had t0 t1 t2 t3
     cases hs2 : isSign sSemi (y :: r1) with
     | false =>
      have hsk := skips_no w4 R T (k + 1) v1 v2 v3 u4 (.map (some M)) y r1 sSemi HC4.out HY.out hs2
      have HX5 : Hid (X = .ok (o ++ [⟨x0.t, c, o.length⟩], y :: r1)) := Lib.hid (by have := HX4.out; rw [hs2, if_neg (by simp)] at this; exact this)
      clear hs2
      go_wp2_with (go_at_call 130; refine hsk.mono ?_; rintro e w5 ⟨rfl, hb5⟩)
      have eX := HX5.out
      subst eX
      go_end0
      exact ⟨k + 1, u4, rfl, HC4.out.next hb5, HY.out, HO4.out.next hb5, HW4.out, HF4.out.trans (.of_below hb5)⟩
     | true =>
      have hsk := skips_yes w4 R T (k + 1) v1 v2 v3 u4 (.map (some M)) y r1 sSemi HC4.out HY.out hs2
      have hL := sign_left (ts := T.ts.drop (k + 1)) HE1.out (by rw [HY.out]; exact hs2)
      rw [List.drop_drop] at hL
      have HE2 := Lib.hid hL.1
      have hd2 : T.ts.drop (k + 1 + 1) = r1 := drop_next HY.out
      have HX5 : Hid (X = likeL d (o ++ [⟨x0.t, c, o.length⟩]) o.length (T.ts.drop (k + 1 + 1))) := Lib.hid (by have := HX4.out; rw [hs2, if_pos rfl] at this; rw [hd2]; exact this)
      clear hs2 hL hd2
      go_wp2_with fail
      refine hsk.mono ?_
      rintro e w5 ⟨rfl, hc5, hm5⟩
      have HC5 := Lib.hid hc5
      have hf5 := Fr.of_moved hm5
      have HO5 := Lib.hid (HO4.out.frR HC4.out hf5)
      have HD5 := Lib.hid (HD4.out.frR HC4.out hf5)
      have HF5 : Hid (Fr w w5 (fun j => j = R ∨ v4.ownBlock = some j)) := Lib.hid (HF4.out.next hf5 (fun j _ e => .inl e))
      have hl5 := HF5.out.size
      have hs5 := hm5.size
      obtain ⟨Ao, co, hu4⟩ := HO5.out.form
      have hlen1 : (o ++ [(⟨x0.t, c, o.length⟩ : Elm)]).length = o.length + 1 := by simp
      rw [hlen1] at hu4
      have q5 := HC5.out.more.2.2.2.1
      rw [hu4] at q5
      have hlk := like_any w5 lo R T (k + 1 + 1) v1 v2 v3 u4 M d (o ++ [⟨x0.t, c, o.length⟩]) o.length HC5.out HD5.out HO5.out HN.out HE2.out (by omega) (by omega) hlo (by omega)
      have isub : ((o.length + 1 : Nat) : Int) - 1 = (o.length : Int) := by omega
      have isub2 : (o.length : Int) + 1 - 1 = (o.length : Int) := by omega
      have HU4 := Lib.hid hu4
      clear hc5 hm5 hf5 hsk hu4 hlen1
      go_wp2_with fail
      refine hlk.mono ?_
      intro e w6 h6
      have eX := HX5.out
      rw [← eX] at h6
      clear eX
      cases X with
      | error er =>
       obtain ⟨rfl, hf6⟩ := h6
       refine ⟨rfl, rfl, HF5.out.next hf6 ?_⟩
       rintro j hj (e | e)
       ·exact .inl e
       ·rcases HW4.out j e with e | e
        ·exact .inr e
        ·omega
      | ok z =>
       obtain ⟨o', r'⟩ := z
       obtain ⟨k', u6, rfl, hc6, hr6, ho6, hw6, hf6⟩ := h6
       have H6 := Lib.hid (And.intro hc6 (And.intro hr6 (And.intro ho6 (And.intro hw6 hf6))))
       clear hc6 hr6 ho6 hw6 hf6
       go_wp2
       go_end0
       obtain ⟨hc6, hr6, ho6, hw6, hf6⟩ := H6.out
       refine ⟨k', u6, rfl, hc6, hr6, ho6, ?_, HF5.out.next hf6 ?_⟩
       ·intro g e
        rcases hw6 g e with e | e
        ·exact HW4.out g e
        ·exact .inr (by omega)
       ·rintro j hj (e | e)
        ·exact .inl e
        ·rcases HW4.out j e with e | e
         ·exact .inr e
         ·omega
 ·have i3 : ¬ (x0.k : Int) = 3 := by omega
  have HXn : Hid (X = match itemL d x0 with
    | .error e => .error e
    | .ok c => if (placeL o c).isSome then .error (32, x0.at_) else
     if o.length = 500 then .error (3, x0.at_) else
     if isSign sSemi (y :: r1) then likeL d (o ++ [⟨x0.t, c, o.length⟩]) o.length r1
     else .ok (o ++ [⟨x0.t, c, o.length⟩], y :: r1)) := Lib.hid (by have := HX.out; rw [if_neg (by simp [c3])] at this; exact this)
  clear hx0
  go_enter Tryz.func79, Tryz.ntmps79
  go_wp2_with fail
  refine hta.mono ?_
  rintro e w1 ⟨rfl, hc1, hm1⟩
  obtain ⟨W1, hW1⟩ : ∃ W1, W1 = w1.alloc (.cells #[.int .u8 x0.k, .string (str x0.t), .int .i64 x0.n, .int .i64 x0.at_] 92) := ⟨_, rfl⟩
  have HT1 : Hid (LTk W1 w1.heap.size x0) := Lib.hid (by rw [hW1]; exact LTk.new w1 x0)
  have HC1 : Hid (CU W1 R T (k + 1) v1 v2 v3 v4 (.map (some M))) := Lib.hid (by rw [hW1]; exact hc1.alloc _)
  have HF1 : Hid (Fr w W1 (· = R)) := Lib.hid (by rw [hW1]; exact (Fr.of_moved hm1).alloc _)
  have HD1 := Lib.hid (HDE.out.frR HCU.out HF1.out)
  have HO1 := Lib.hid (HO.out.frR HCU.out HF1.out)
  have hs1 := HF1.out.size
  have hsz1 : w.heap.size ≤ w1.heap.size := hm1.size
  have hbR : w1.heap.size ≠ R := by omega
  clear hc1 hm1 hta
  obtain ⟨t0, t1, t2, t3⟩ := HT1.out.cells
  rw [hW1] at t0 t1 t2 t3
  unfold tkV
  have hloa : lo ≤ W1.heap.size := by omega
  have hco := cellsOf_any W1 lo R T (k + 1) v1 v2 v3 v4 M d x0 HC1.out HD1.out hnx hloa
  unfold tkV at hco
  go_wp2_with fail
  rw [← hW1]
  clear hW1 t0 t1 t2 t3
  cases hi : itemL d x0 with
  | error er =>
   rw [hi] at hco
   have HX2 : Hid (X = .error er) := Lib.hid (by have := HXn.out; rw [hi] at this; exact this)
   refine hco.mono ?_
   rintro e w2 ⟨rfl, hb2⟩
   have eX := HX2.out
   subst eX
   exact ⟨rfl, rfl, (HF1.out.mono fun _ _ e => .inl e).trans (.of_below hb2)⟩
  | ok c =>
   rw [hi] at hco
   have HX2 : Hid (X = if (placeL o c).isSome then .error (32, x0.at_) else
     if o.length = 500 then .error (3, x0.at_) else
     if isSign sSemi (y :: r1) then likeL d (o ++ [⟨x0.t, c, o.length⟩]) o.length r1
     else .ok (o ++ [⟨x0.t, c, o.length⟩], y :: r1)) := Lib.hid (by have := HXn.out; rw [hi] at this; exact this)
   clear hi
   refine hco.mono ?_
   rintro e w2 ⟨⟨v, rfl, hv2⟩, hb2⟩
   have HC2 := Lib.hid (HC1.out.next hb2)
   have HO2 := Lib.hid (HO1.out.next hb2)
   have HD2 := Lib.hid (HD1.out.next hb2)
   have HF2 := Lib.hid (HF1.out.trans (.of_below hb2))
   have HT2 : Hid (LTk w2 w1.heap.size x0) := Lib.hid ((hb2.block _ HT1.out.lt).trans HT1.out)
   have hpl := placeOf_any w2 lo R T (k + 1) v1 v2 v3 v4 (.map (some M)) v o c HC2.out HO2.out hv2 (by omega)
   have HV2 := Lib.hid hv2
   clear hv2 hb2 hco
   go_wp2_with fail
   refine hpl.mono ?_
   rintro e w3 ⟨rfl, hb3⟩
   have HC3 := Lib.hid (HC2.out.next hb3)
   have HO3 := Lib.hid (HO2.out.next hb3)
   have HD3 := Lib.hid (HD2.out.next hb3)
   have HF3 := Lib.hid (HF2.out.trans (.of_below hb3))
   have HT3 : Hid (LTk w3 w1.heap.size x0) := Lib.hid ((hb3.block _ HT2.out.lt).trans HT2.out)
   have HV3 : Hid (w3.ownsRow lo 35 1 v c.length (celC c)) := Lib.hid (ownsRow_fr HV2.out (Fr.of_below (X := fun _ => False) hb3) (fun _ _ => id))
   clear hb3 hpl
   have hrf := fun W => refuse_any 32 x0 W
   unfold tkV at hrf
   obtain ⟨t0, t1, t2, t3⟩ := HT3.out.cells
   cases hp : placeL o c with
   | some j =>
    have hpv : placeV o c = j := by unfold placeV; rw [hp]
    have j0 : (0 : Int) ≤ (j : Int) := by omega
    have HX3 : Hid (X = .error (32, x0.at_)) := Lib.hid (by have := HX2.out; rw [hp] at this; exact this)
    rw [hpv]
    clear hp
    go_wp2_with fail
    refine (hrf _).mono ?_
    rintro e w4 ⟨rfl, hb4⟩
    have eX := HX3.out
    subst eX
    exact ⟨rfl, rfl, (HF3.out.mono fun _ _ e => .inl e).trans (.of_below hb4)⟩
   | none =>
    have hpv : placeV o c = -1 := by unfold placeV; rw [hp]
    have HX3 : Hid (X = if o.length = 500 then .error (3, x0.at_) else
     if isSign sSemi (y :: r1) then likeL d (o ++ [⟨x0.t, c, o.length⟩]) o.length r1
     else .ok (o ++ [⟨x0.t, c, o.length⟩], y :: r1)) := Lib.hid (by have := HX2.out; rw [hp] at this; exact this)
    rw [hpv]
    have hl3 := HF3.out.size
    have had := addElem_any w3 lo R T (k + 1) v1 v2 v3 v4 (.map (some M)) v x0 o c HC3.out HO3.out HV3.out (by omega) hlo (by omega)
    unfold tkV at had
    clear hp hrf
    go_wp2_with fail
    refine had.mono ?_
    rintro e w4 (⟨h5, rfl, hb4⟩ | ⟨h5, rfl, ⟨u4, hc4, ho4, hw4⟩, hf4⟩)
    ·have HX4 : Hid (X = .error (3, x0.at_)) := Lib.hid (by have := HX3.out; rw [if_pos h5] at this; exact this)
     have eX := HX4.out
     subst eX
     exact ⟨rfl, rfl, (HF3.out.mono fun _ _ e => .inl e).trans (.of_below hb4)⟩
    have HX4 : Hid (X = if isSign sSemi (y :: r1) then likeL d (o ++ [⟨x0.t, c, o.length⟩]) o.length r1
     else .ok (o ++ [⟨x0.t, c, o.length⟩], y :: r1)) := Lib.hid (by have := HX3.out; rw [if_neg h5] at this; exact this)
    have HC4 := Lib.hid hc4
    have HO4 := Lib.hid ho4
    have HF4 : Hid (Fr w w4 (fun j => j = R ∨ v4.ownBlock = some j)) := Lib.hid ((HF3.out.mono fun _ _ e => .inl e).trans (hf4.mono fun _ _ e => e))
    have HW4 : Hid (∀ g, u4.ownBlock = some g → v4.ownBlock = some g ∨ w.heap.size ≤ g) := Lib.hid fun g e => (hw4 g e).imp id (fun h => by omega)
    have HD4 : Hid (DeAt w4 lo M d) := Lib.hid (by
     obtain ⟨vs, hvs, hrow, hrr⟩ := HO3.out
     refine HD3.out.fr hf4 ?_ ?_
     ·rintro (e | e)
      ·subst e
       obtain ⟨l, es, q, h1, _⟩ := HD3.out.map
       have e := h1.symm.trans HC3.out.1
       simp at e
      ·obtain ⟨l, hl⟩ := HD3.out.map
       exact row_nomap hrow hl e
     ·rintro g cc z t (e | e) hg
      ·subst e
       rw [HC3.out.1] at hg
       simp at hg
       obtain ⟨-, rfl, -⟩ := hg
       decide
      ·obtain ⟨c', hc'⟩ := ownsRow_ty hrow e
       rw [hg] at hc'
       simp at hc'
       obtain ⟨-, rfl, -⟩ := hc'
       decide)
    have hl4 := HF4.out.size
    clear hc4 ho4 hw4 hf4 had t0 t1 t2 t3
    cases hs2 : isSign sSemi (y :: r1) with
    | false =>
     have hsk := skips_no w4 R T (k + 1) v1 v2 v3 u4 (.map (some M)) y r1 sSemi HC4.out HY.out hs2
     have HX5 : Hid (X = .ok (o ++ [⟨x0.t, c, o.length⟩], y :: r1)) := Lib.hid (by have := HX4.out; rw [hs2, if_neg (by simp)] at this; exact this)
     clear hs2
     go_wp2_with (go_at_call 130; refine hsk.mono ?_; rintro e w5 ⟨rfl, hb5⟩)
     have eX := HX5.out
     subst eX
     go_end0
     exact ⟨k + 1, u4, rfl, HC4.out.next hb5, HY.out, HO4.out.next hb5, HW4.out, HF4.out.trans (.of_below hb5)⟩
    | true =>
     have hsk := skips_yes w4 R T (k + 1) v1 v2 v3 u4 (.map (some M)) y r1 sSemi HC4.out HY.out hs2
     have hL := sign_left (ts := T.ts.drop (k + 1)) HE1.out (by rw [HY.out]; exact hs2)
     rw [List.drop_drop] at hL
     have HE2 := Lib.hid hL.1
     have hd2 : T.ts.drop (k + 1 + 1) = r1 := drop_next HY.out
     have HX5 : Hid (X = likeL d (o ++ [⟨x0.t, c, o.length⟩]) o.length (T.ts.drop (k + 1 + 1))) := Lib.hid (by have := HX4.out; rw [hs2, if_pos rfl] at this; rw [hd2]; exact this)
     clear hs2 hL hd2
     go_wp2_with fail
     refine hsk.mono ?_
     rintro e w5 ⟨rfl, hc5, hm5⟩
     have HC5 := Lib.hid hc5
     have hf5 := Fr.of_moved hm5
     have HO5 := Lib.hid (HO4.out.frR HC4.out hf5)
     have HD5 := Lib.hid (HD4.out.frR HC4.out hf5)
     have HF5 : Hid (Fr w w5 (fun j => j = R ∨ v4.ownBlock = some j)) := Lib.hid (HF4.out.next hf5 (fun j _ e => .inl e))
     have hl5 := HF5.out.size
     have hs5 := hm5.size
     obtain ⟨Ao, co, hu4⟩ := HO5.out.form
     have hlen1 : (o ++ [(⟨x0.t, c, o.length⟩ : Elm)]).length = o.length + 1 := by simp
     rw [hlen1] at hu4
     have q5 := HC5.out.more.2.2.2.1
     rw [hu4] at q5
     have hlk := like_any w5 lo R T (k + 1 + 1) v1 v2 v3 u4 M d (o ++ [⟨x0.t, c, o.length⟩]) o.length HC5.out HD5.out HO5.out HN.out HE2.out (by omega) (by omega) hlo (by omega)
     have isub : ((o.length + 1 : Nat) : Int) - 1 = (o.length : Int) := by omega
     have isub2 : (o.length : Int) + 1 - 1 = (o.length : Int) := by omega
     have HU4 := Lib.hid hu4
     clear hc5 hm5 hf5 hsk hu4 hlen1
     go_wp2_with fail
     refine hlk.mono ?_
     intro e w6 h6
     have eX := HX5.out
     rw [← eX] at h6
     clear eX
     cases X with
     | error er =>
      obtain ⟨rfl, hf6⟩ := h6
      refine ⟨rfl, rfl, HF5.out.next hf6 ?_⟩
      rintro j hj (e | e)
      ·exact .inl e
      ·rcases HW4.out j e with e | e
       ·exact .inr e
       ·omega
     | ok z =>
      obtain ⟨o', r'⟩ := z
      obtain ⟨k', u6, rfl, hc6, hr6, ho6, hw6, hf6⟩ := h6
      have H6 := Lib.hid (And.intro hc6 (And.intro hr6 (And.intro ho6 (And.intro hw6 hf6))))
      clear hc6 hr6 ho6 hw6 hf6
      go_wp2
      go_end0
      obtain ⟨hc6, hr6, ho6, hw6, hf6⟩ := H6.out
      refine ⟨k', u6, rfl, hc6, hr6, ho6, ?_, HF5.out.next hf6 ?_⟩
      ·intro g e
       rcases hw6 g e with e | e
       ·exact HW4.out g e
       ·exact .inr (by omega)
      ·rintro j hj (e | e)
       ·exact .inl e
       ·rcases HW4.out j e with e | e
        ·exact .inr e
        ·omega
end Go.Proofs.YthaibekbefndlaaGreatDoor.C
