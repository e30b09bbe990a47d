/-
  Joined: LjA, KoF, KoV. Each with what its own head says.
-/
import Derived.Test.YtknjhlbhbnldpaaGreatDoorB15
import Derived.Test.YtknjhlbhbnldpaaGreatDoorB14


namespace Go.Proofs.YtknjhlbhbnldpaaGreatDoor.C
open Go.ChangeShapes Go.WideShapes Go.ChangeAt Go.RowKit Go.Deep
section
variable {H : Type} {enc : TypeId × Value → H} {W : World}
theorem weights_mem_all {P : Program} {e : TypeId} : ∀ {ds : List (DataW H)} {i : Nat} {d : DataW H}, ds[i]? = some d → ∀ n ∈ d.weights P e, n ∈ DataW.weightsAll P e ds
 | d0 :: ds, 0, d, h, n, hn => by
  simp only [List.getElem?_cons_zero, Option.some.injEq] at h
  subst h
  simp only [DataW.weightsAll, List.mem_append]
  exact Or.inl hn
 | d0 :: ds, i + 1, d, h, n, hn => by
  simp only [List.getElem?_cons_succ] at h
  simp only [DataW.weightsAll, List.mem_append]
  exact Or.inr (weights_mem_all h n hn)
 | [], _, _, h, _, _ => by simp at h
theorem str_back (s : ByteArray) : str s.data.toList = s := by
 show (⟨s.data.toList.toArray⟩ : ByteArray) = s
 rw [Array.toArray_toList]
theorem lt_of_some {α : Type} {len : Nat} {f : Nat → α} {j : Nat} {y : α} (h : ((List.range len).map f)[j]? = some y) : j < len ∧ y = f j := by
 have hj : j < len := by
  rcases Nat.lt_or_ge j len with h1 | h1
  ·exact h1
  ·rw [List.getElem?_eq_none (by simp; omega)] at h; cases h
 rw [List.getElem?_map, List.getElem?_range hj] at h
 simp at h
 exact ⟨hj, h.symm⟩
theorem prs_open {t e : TypeId} {f0 f1 : Field} {fuel : Nat} {v : Value} {x : DataW H × List MemPlace} (ht : Tryz.prog.underlying t = some (.slice e)) (he : Tryz.prog.underlying e = some (.struct #[f0, f1])) (ce : Tryz.prog.cellsOf e = 2) (o0 : f0.offset = 0) (o1 : f1.offset = 1) (k0 : f0.type = 23) (k1 : f1.type = 23) (hB : Tryz.prog.bytesOf e = 8)
  (h : DataW.trod enc Tryz.prog W 0 (fun _ => true) true fuel t [v] = some x) (hw : ∀ n ∈ x.1.weights Tryz.prog t, n ≤ reachBytes) : ∃ l, PrsR W W.heap.size v l ∧ l.length ≤ 17592186044416 := by
 rcases open_slice_pairs ht he ce o0 o1 (by rw [k0]; kernel_rfl) (by rw [k1]; kernel_rfl) h with ⟨hcs, _⟩ | ⟨a, len, cap, m, n, V0, V1, D0, D1, P0, P1, hcs, _, hl, hm, hmm, hx, hi⟩
 ·simp at hcs
  subst hcs
  exact ⟨[], ⟨none, 0, rfl, SI.nil _ _ _ _⟩, by simp⟩
 ·simp at hcs
  subst hcs
  have hmc : m = cap := by simpa using hmm
  subst hmc
  subst hx
  have each : ∀ i, i < len → ∃ q : Int × Int, V0 i = .int .i32 q.1 ∧ V1 i = .int .i32 q.2 := by
   intro i hil
   obtain ⟨_, _, t0, t1⟩ := hi i (by omega)
   rw [k0] at t0
   rw [k1] at t1
   obtain ⟨p, hp, _⟩ := DataW.trod_int Tryz.underlying23 t0
   obtain ⟨q, hq, _⟩ := DataW.trod_int Tryz.underlying23 t1
   exact ⟨(p, q), by simpa using hp, by simpa using hq⟩
  obtain ⟨q, hq⟩ := choose_lt each
  have hwt : (len + (m - len)) * 8 ≤ reachBytes := by
   refine hw _ ?_
   simp only [DataW.weights, ht, List.mem_cons, List.length_map, List.length_range, hB]
   exact .inl trivial
  refine ⟨(List.range len).map q, ⟨some a, m, by simp, by simp, ?_, fun h0 => ⟨a, rfl, ?_, fun j y hy i u hu => ?_⟩⟩, by simp only [List.length_map, List.length_range]; unfold reachBytes at hwt; omega⟩
  ·intro y hy
   obtain ⟨p, _, rfl⟩ := List.mem_map.1 hy
   rfl
  ·have := World.block_lt_of_cell? W _ (hi 0 (by simp at h0; omega)).1
   rwa [block_of_add] at this
  ·rw [List.map_map] at hy
   obtain ⟨hj, rfl⟩ := lt_of_some hy
   obtain ⟨e0, e1, _, _⟩ := hi j (by omega)
   obtain ⟨g0, g1⟩ := hq j hj
   match i, hu with
   | 0, hu =>
    obtain rfl := Option.some.inj hu
    rw [← g0]
    exact e0
   | 1, hu =>
    obtain rfl := Option.some.inj hu
    rw [← g1]
    exact e1
theorem cls_open {fuel : Nat} {v : Value} {x : DataW H × List MemPlace} (h : DataW.trod enc Tryz.prog W 0 (fun _ => true) true fuel 26 [v] = some x) (hw : ∀ n ∈ x.1.weights Tryz.prog 26, n ≤ reachBytes) :
  ∃ cs, ClsR W W.heap.size v cs ∧ cs.length ≤ 140737488351232 ∧ ∀ c ∈ cs, c.name.length ≤ 140737488351232 ∧ c.rs.length ≤ 17592186044416 := by
 rcases open_slice_pairs Tryz.underlying26 Tryz.underlying86 (by kernel_rfl) rfl rfl (by kernel_rfl) (by kernel_rfl) h with ⟨hcs, _⟩ | ⟨a, len, cap, m, n, V0, V1, D0, D1, P0, P1, hcs, _, hl, hm, hmm, hx, hi⟩
 ·simp at hcs
  subst hcs
  exact ⟨[], ⟨none, 0, [], rfl, SI.nil _ _ _ _, by simp⟩, Nat.zero_le _, by simp⟩
 ·simp at hcs
  subst hcs
  have hmc : m = cap := by simpa using hmm
  subst hmc
  subst hx
  have each : ∀ i, i < len → ∃ q : Cls, V0 i = .string (str q.name) ∧ PrsR W W.heap.size (V1 i) q.rs ∧ q.name.length ≤ 140737488351232 ∧ q.rs.length ≤ 17592186044416 := by
   intro i hil
   obtain ⟨_, _, t0, t1⟩ := hi i (by omega)
   have hwi : ∀ n ∈ DataW.weightsEach Tryz.prog [9, 84] [D0 i, D1 i], n ≤ reachBytes := by
    intro n hn
    refine hw n ?_
    simp only [DataW.weights, Tryz.underlying26, List.mem_cons, List.mem_append]
    refine .inr (.inl (weights_mem_all (i := i) (d := .agg [D0 i, D1 i]) (by rw [List.getElem?_map, List.getElem?_range hil]; rfl) _ ?_))
    simp only [DataW.weights, Tryz.underlying86]
    exact hn
   obtain ⟨s, hs, hs2, _⟩ := DataW.trod_string Tryz.underlying9 t0
   obtain ⟨l, hl1, hl2⟩ := prs_open Tryz.underlying84 Tryz.underlying109 (by kernel_rfl) rfl rfl rfl rfl (by kernel_rfl) t1 (fun n hn => hwi n (DataW.weights_mem_each (j := 1) rfl rfl _ hn))
   simp only [Prod.mk.injEq] at hs2
   have hb := hwi s.data.toList.length (DataW.weights_mem_each (j := 0) rfl rfl _ (by rw [hs2.1]; simp [DataW.weights]))
   unfold reachBytes at hb
   exact ⟨⟨s.data.toList, l⟩, by rw [str_back]; simpa using hs, hl1, hb, hl2⟩
  have hwt : (len + (m - len)) * 40 ≤ reachBytes := by
   refine hw _ ?_
   simp only [DataW.weights, Tryz.underlying26, List.mem_cons, List.length_map, List.length_range, show Tryz.prog.bytesOf 86 = 40 from by kernel_rfl]
   exact .inl trivial
  unfold reachBytes at hwt
  haveI : Inhabited Cls := ⟨⟨[], []⟩⟩
  obtain ⟨q, hq⟩ := choose_lt each
  refine ⟨(List.range len).map q, ⟨some a, m, (List.range len).map fun i => [V0 i, V1 i], by simp, ⟨by simp, ?_, fun h0 => ⟨a, rfl, ?_, fun j y hy i u hu => ?_⟩⟩, fun i k hk => ?_⟩, by simp; omega, ?_⟩
  ·intro y hy
   obtain ⟨p, _, rfl⟩ := List.mem_map.1 hy
   rfl
  ·have := World.block_lt_of_cell? W _ (hi 0 (by simp at h0; omega)).1
   rwa [block_of_add] at this
  ·obtain ⟨hj, rfl⟩ := lt_of_some hy
   obtain ⟨e0, e1, _, _⟩ := hi j (by omega)
   match i, hu with
   | 0, hu =>
    obtain rfl := Option.some.inj hu
    exact e0
   | 1, hu =>
    obtain rfl := Option.some.inj hu
    exact e1
  ·obtain ⟨hj, rfl⟩ := lt_of_some hk
   obtain ⟨g0, g1, g2, g3⟩ := hq i hj
   refine ⟨V1 i, ?_, g1, by unfold maxLen; omega, by unfold maxLen; omega⟩
   rw [List.getElem?_map, List.getElem?_range hj, ← g0]
   rfl
  ·intro c hc
   obtain ⟨i, hi', rfl⟩ := List.mem_map.1 hc
   obtain ⟨_, _, g2, g3⟩ := hq i (List.mem_range.1 hi')
   exact ⟨g2, g3⟩
set_option maxRecDepth 100000 in
theorem ord_open {fuel : Nat} {v : Value} {x : DataW H × List MemPlace} (h : DataW.trod enc Tryz.prog W 0 (fun _ => true) true fuel 28 [v] = some x) (hw : ∀ n ∈ x.1.weights Tryz.prog 28, n ≤ reachBytes) :
  ∃ o, OrdR W W.heap.size v o ∧ o.length ≤ 140737488351232 ∧ ∀ e ∈ o, e.name.length ≤ 140737488351232 := by
 rcases open_slice Tryz.underlying28 h with ⟨hcs, _⟩ | ⟨a, len, cap, m, n, D, Pl, hcs, _, hl, hm, hmm, hx0, hx⟩
 ·simp at hcs
  subst hcs
  exact ⟨[], ⟨none, 0, [], rfl, SI.nil _ _ _ _, by simp⟩, Nat.zero_le _, by simp⟩
 ·simp at hcs
  subst hcs
  have hmc : m = cap := by simpa using hmm
  subst hmc
  subst hx0
  have ce : Tryz.prog.cellsOf 39 = 3 := by kernel_rfl
  have c1 : Tryz.prog.cellsOf 9 = 1 := by kernel_rfl
  have c2 : Tryz.prog.cellsOf 33 = 1 := by kernel_rfl
  have c3 : Tryz.prog.cellsOf 3 = 1 := by kernel_rfl
  have each : ∀ i, i < len → ∃ q : Elm × Option Addr × Nat, W.cell? (a.add (i * 3)) = some (.string (str q.1.name)) ∧ W.cell? (a.add (i * 3 + 1)) = some (.slice q.2.1 q.1.cells.length q.2.2) ∧ W.cell? (a.add (i * 3 + 2)) = some (.int .i64 q.1.same) ∧ RI .i32 W W.heap.size q.2.1 q.1.cells.length q.1.cells ∧ q.1.name.length ≤ 140737488351232 ∧ q.1.cells.length ≤ maxLen := by
   intro i hil
   obtain ⟨cs', h1, h2⟩ := hx i (by omega)
   rw [ce] at h1
   obtain ⟨_, hlen, hcell⟩ := World.cells?_some h1
   obtain ⟨y0, y1, y2, k, hxy, _, u0, u1, u2⟩ := trod_struct3 Tryz.underlying39 h2
   match cs', hlen with
   | [v0, v1, v2], _ =>
    simp only [c1, c2, c3, List.drop, List.take] at u0 u1 u2
    simp only [Prod.mk.injEq] at hxy
    have hwi : ∀ n ∈ DataW.weights Tryz.prog 9 y0.1, n ≤ reachBytes := by
     intro n hn
     refine hw n ?_
     simp only [DataW.weights, Tryz.underlying28, List.mem_cons, List.mem_append]
     refine .inr (.inl (weights_mem_all (i := i) (d := D i) (by rw [List.getElem?_map, List.getElem?_range hil]; rfl) _ ?_))
     rw [hxy.1]
     simp only [DataW.weights, Tryz.underlying39]
     exact DataW.weights_mem_each (j := 0) rfl rfl _ hn
    obtain ⟨s, e0, d0, _⟩ := DataW.trod_string Tryz.underlying9 u0
    obtain ⟨sm, e2, _, _⟩ := DataW.trod_int Tryz.underlying3 u2
    have hb := hwi s.data.toList.length (by rw [d0]; simp [DataW.weights])
    unfold reachBytes at hb
    have g0 := hcell 0 (by omega)
    have g1 := hcell 1 (by omega)
    have g2 := hcell 2 (by omega)
    rw [add_add] at g0 g1 g2
    simp only [List.cons.injEq, and_true] at e0 e2
    subst e0
    subst e2
    rcases open_ints Tryz.underlying33 Tryz.underlying23 (by kernel_rfl) u1 with ⟨hcs, _⟩ | ⟨y, l', c', zs, hcs, _, hl', hm', hz, hxx, hcell', hwz⟩
    ·simp at hcs
     subst hcs
     exact ⟨(⟨s.data.toList, [], sm⟩, none, 0), by rw [str_back]; simpa using g0, by simpa using g1, by simpa using g2, RI.none_, hb, Nat.zero_le _⟩
    ·simp at hcs
     subst hcs
     have hz' : zs.length = c' := by simpa using hz
     have hrow : L.IsRow .i32 W (some y) l' c' zs := .inr ⟨_, rfl, hl', hm', hz', hcell', hwz⟩
     have htl : (zs.take l').length = l' := by rw [List.length_take]; omega
     exact ⟨(⟨s.data.toList, zs.take l', sm⟩, some y, c'), by rw [str_back]; simpa using g0, by rw [htl]; simpa using g1, by simpa using g2, by rw [htl]; exact RI.of_row hrow, hb, by rw [htl]; omega⟩
  have hwt : (len + (m - len)) * 48 ≤ reachBytes := by
   refine hw _ ?_
   simp only [DataW.weights, Tryz.underlying28, List.mem_cons, List.length_map, List.length_range, show Tryz.prog.bytesOf 39 = 48 from by kernel_rfl]
   exact .inl trivial
  unfold reachBytes at hwt
  haveI : Inhabited (Elm × Option Addr × Nat) := ⟨(⟨[], [], 0⟩, none, 0)⟩
  obtain ⟨q, hq⟩ := choose_lt each
  refine ⟨(List.range len).map fun i => (q i).1, ⟨some a, m, (List.range len).map fun i => [.string (str (q i).1.name), .slice (q i).2.1 (q i).1.cells.length (q i).2.2, .int .i64 (q i).1.same], by simp, ⟨by simp, ?_, fun h0 => ⟨a, rfl, ?_, fun j y hy i u hu => ?_⟩⟩, fun i k hk => ?_⟩, by simp; omega, ?_⟩
  ·intro y hy
   obtain ⟨p, _, rfl⟩ := List.mem_map.1 hy
   rfl
  ·have := World.block_lt_of_cell? W _ (hq 0 (by simp at h0; omega)).1
   rwa [block_of_add] at this
  ·obtain ⟨hj, rfl⟩ := lt_of_some hy
   obtain ⟨g0, g1, g2, _⟩ := hq j hj
   match i, hu with
   | 0, hu =>
    obtain rfl := Option.some.inj hu
    exact g0
   | 1, hu =>
    obtain rfl := Option.some.inj hu
    exact g1
   | 2, hu =>
    obtain rfl := Option.some.inj hu
    exact g2
  ·obtain ⟨hj, rfl⟩ := lt_of_some hk
   obtain ⟨_, _, _, g3, g4, g5⟩ := hq i hj
   refine ⟨(q i).2.1, (q i).2.2, ?_, g3, by unfold maxLen; omega, g5⟩
   rw [List.getElem?_map, List.getElem?_range hj]
   rfl
  ·intro e he
   obtain ⟨i, hi', rfl⟩ := List.mem_map.1 he
   exact (hq i (List.mem_range.1 hi')).2.2.2.2.1
structure LocIn (l : Loc) : Prop where
 fc : l.cls.length ≤ 140737488351232
 fu : l.up.length ≤ 140737488351232
 fl : l.lo.length ≤ 140737488351232
 fo : l.ord.length ≤ 140737488351232
 n1 : ∀ c ∈ l.cls, c.name.length ≤ 140737488351232 ∧ c.rs.length ≤ 17592186044416
 n2 : ∀ e ∈ l.ord, e.name.length ≤ 140737488351232
theorem locale_open {v0 v1 v2 v3 : Value} {y0 y1 y2 y3 : DataW H × List MemPlace} {n : Nat} (h0 : DataW.trod enc Tryz.prog W 0 (fun _ => true) true n 26 [v0] = some y0) (h1 : DataW.trod enc Tryz.prog W 0 (fun _ => true) true n 27 [v1] = some y1) (h2 : DataW.trod enc Tryz.prog W 0 (fun _ => true) true n 27 [v2] = some y2) (h3 : DataW.trod enc Tryz.prog W 0 (fun _ => true) true n 28 [v3] = some y3)
  (hw : ∀ n ∈ (DataW.agg [y0.1, y1.1, y2.1, y3.1]).weights Tryz.prog 30, n ≤ reachBytes) :
  ∃ l, LocR W W.heap.size v0 v1 v2 v3 l ∧ LocIn l := by
 have hw' : ∀ n ∈ DataW.weightsEach Tryz.prog [26, 27, 27, 28] [y0.1, y1.1, y2.1, y3.1], n ≤ reachBytes := by
  intro n hn
  refine hw n ?_
  simp only [DataW.weights, Tryz.underlying30]
  exact hn
 obtain ⟨cs, a1, a2, a3⟩ := cls_open h0 (fun n hn => hw' n (DataW.weights_mem_each (j := 0) rfl rfl _ hn))
 obtain ⟨up, b1, b2⟩ := prs_open Tryz.underlying27 Tryz.underlying95 (by kernel_rfl) rfl rfl rfl rfl (by kernel_rfl) h1 (fun n hn => hw' n (DataW.weights_mem_each (j := 1) rfl rfl _ hn))
 obtain ⟨lo, c1, c2⟩ := prs_open Tryz.underlying27 Tryz.underlying95 (by kernel_rfl) rfl rfl rfl rfl (by kernel_rfl) h2 (fun n hn => hw' n (DataW.weights_mem_each (j := 2) rfl rfl _ hn))
 obtain ⟨o, d1, d0, d2⟩ := ord_open h3 (fun n hn => hw' n (DataW.weights_mem_each (j := 3) rfl rfl _ hn))
 exact ⟨⟨cs, up, lo, o⟩, ⟨a1, b1, c1, d1, by unfold maxLen; show cs.length ≤ _; omega, by unfold maxLen; show up.length ≤ _; omega, by unfold maxLen; show lo.length ≤ _; omega⟩, ⟨a2, by show up.length ≤ _; omega, by show lo.length ≤ _; omega, d0, a3, d2⟩⟩
end
end Go.Proofs.YtknjhlbhbnldpaaGreatDoor.C

namespace Go.Proofs.YtknjhlbhbnldpaaGreatDoor.C
open Go.RowKit

theorem right_up {L : Loc} (h : rightL L = true) : (L.up.map Prod.fst).Nodup := by unfold rightL at h; simp only [Bool.and_eq_true] at h; exact pairs_nodup h.1.1.2
theorem right_lo {L : Loc} (h : rightL L = true) : (L.lo.map Prod.fst).Nodup := by unfold rightL at h; simp only [Bool.and_eq_true] at h; exact pairs_nodup h.1.2
theorem right_cls {L : Loc} (h : rightL L = true) : (L.cls.map Cls.name).Nodup := by unfold rightL at h; simp only [Bool.and_eq_true] at h; exact cls_nodup h.1.1.1
theorem right_ord {L : Loc} (h : rightL L = true) : ordB L.ord = true := by unfold rightL at h; simp only [Bool.and_eq_true] at h; exact h.2
set_option maxRecDepth 100000 in
set_option maxHeartbeats 1000000 in
theorem count_any (w : World) (T : Nat) (L : Loc) (n : Int) (h : TabAt w T L n) (h0 : 0 ≤ n) (h1 : n < 4611686018427387904) :
  Calls Tryz.prog 35 #[.pointer (some ⟨T, 0, none⟩)] w fun e w' => e = .returned (.tuple #[]) ∧ TabAt w' T L (n + 1) ∧ Fr w w' (· = T) := by
 obtain ⟨hc, hz⟩ := h.cell0
 have hadd := run_call_add (P := Tryz.prog) Tryz.func112 (by kernel_rfl) (by kernel_rfl) (by kernel_rfl) .i64 (by kernel_rfl) (y := 1) (s := n + 1) hc hz (by simp [go_sem]; rw [IntKind.wrap_i64]; omega)
 have HT : Hid (TabAt (w.setCell ⟨T, 0, none⟩ (.int .i64 (n + 1))) T L (n + 1) ∧ Fr w (w.setCell ⟨T, 0, none⟩ (.int .i64 (n + 1))) (· = T)) := Lib.hid ⟨h.count, (Fr.refl w _).setT _ _⟩
 clear h hc hz
 go_enter Tryz.func35, Tryz.ntmps35
 go_wp2
 go_end0
 exact ⟨rfl, HT.out⟩
set_option maxRecDepth 100000 in
set_option maxHeartbeats 1000000 in
theorem asked_any (w : World) (T : Nat) (L : Loc) (n : Int) (h : TabAt w T L n) :
  Calls Tryz.prog 22 #[.pointer (some ⟨T, 0, none⟩)] w fun e w' => e = .returned (.int .i64 n) ∧ w' = w := by
 obtain ⟨hc, hz⟩ := h.cell0
 have hl := run_call_load (P := Tryz.prog) Tryz.func124 (by kernel_rfl) (by kernel_rfl) (by kernel_rfl) .i64 (by kernel_rfl) hc
 clear h hz
 go_enter Tryz.func22, Tryz.ntmps22
 go_wp2
 go_ret
 exact ⟨rfl, rfl⟩
theorem zeroCell32 (w : World) : (zeroValue 23).run Tryz.prog w = .ok (.int .i32 0) w := by kernel_rfl
theorem zeroInt64 (w : World) : (zeroValue 3).run Tryz.prog w = .ok (.int .i64 0) w := by kernel_rfl
set_option maxRecDepth 100000 in
set_option maxHeartbeats 2000000 in
theorem ofP_any (T o : Nat) (t : TypeId) (l : List Value) (w : World) (v : Value) (ps : List (Int × Int)) (c : Int) (hr : Row w T t l) (hk : Lk l o (PPair T ps w)) (hl : l[o + 4]? = some v) (hps : PrsR w T v ps) (hn : ps.length ≤ maxLen) (hnd : (ps.map Prod.fst).Nodup) :
  Calls Tryz.prog 36 #[.pointer (some ⟨T, o, none⟩), .int .i32 c] w fun e w' => e = .returned (.int .i32 (toL ps c)) ∧ Fr w w' (· = T) ∧ ∃ l', Row w' T t l' ∧ Lk l' o (PPair T ps w') ∧ Else l l' o := by
 have hget := getCC_any T o t l w 77 (.pointer (some ⟨T, o, none⟩)) (PPair T ps) hr hk (fun W W' M h hf => h.fr hf) (fun args w => run_enter Tryz.func77 (by kernel_rfl) rfl args w) (fillPair T o t l w v ps hl hps hn hnd hr.lt)
 have hmf : ∀ (fn : Fn) (first cap : Array Value) (w : World), (Instr.makeFunc fn first cap).run Tryz.prog w = .ok (.func fn first cap) w := fun _ _ _ _ => rfl
 have HND := Lib.hid hnd
 clear hr hk hl hps hn hnd
 go_enter Tryz.func36, Tryz.ntmps36
 go_wp2_with fail
 refine hget.mono ?_
 rintro e w1 ⟨M, rfl, hp, hf, l', hr', hk', he⟩
 have HQ : Hid (Fr w w1 (· = T) ∧ ∃ l', Row w1 T t l' ∧ Lk l' o (PPair T ps w1) ∧ Else l l' o) := Lib.hid ⟨hf, l', hr', hk', he⟩
 have hm := hp.2
 clear hget hp hf hr' hk' he
 by_cases hc : c ∈ ps.map Prod.fst
 ·obtain ⟨p, hp, e⟩ := List.mem_map.1 hc
  have q := hm.look_yes (P := Tryz.prog) Tryz.underlying96 Tryz.underlying23 (key := .int .i32 c) (v := .int .i32 p.2) (by first | trivial | rfl) (by rw [← e]; exact List.mem_map.2 ⟨p, hp, rfl⟩) true
  have HV : Hid (toL ps c = p.2) := Lib.hid (by rw [← e]; exact toL_in HND.out hp)
  clear hm hp
  go_wp2
  go_ret
  exact ⟨by rw [HV.out]; rfl, HQ.out⟩
 ·have q := hm.look_no (P := Tryz.prog) Tryz.underlying96 Tryz.underlying23 (key := .int .i32 c) (by first | trivial | rfl) (by
   rw [map_fst_pair]
   intro h
   obtain ⟨x, hx, e⟩ := List.mem_map.1 h
   injection e with _ e
   exact hc (e ▸ hx)) (zeroCell32 w1) true
  have HV : Hid (toL ps c = c) := Lib.hid (toL_out hc)
  clear hm
  go_wp2
  go_ret
  exact ⟨by rw [HV.out]; rfl, HQ.out⟩
theorem up_any (w : World) (T : Nat) (L : Loc) (n c : Int) (h : TabAt w T L n) (hR : rightL L = true) :
  Calls Tryz.prog 36 #[.pointer (some ⟨T, 19, none⟩), .int .i32 c] w fun e w' => e = .returned (.int .i32 (toL L.up c)) ∧ TabAt w' T L n ∧ Fr w w' (· = T) := by
 obtain ⟨l, v1, v2, v3, v4, hr, h1, h2, h3, h4, h5, h6, h7, k1, k2, k3, k4, k5, k6⟩ := h
 refine (ofP_any T 19 _ l w v2 L.up c hr k5 h5 h7.2.1 h7.2.2.2.2.2.1 (right_up hR)).mono ?_
 rintro e w' ⟨rfl, hf, l', hr', hk', he⟩
 exact ⟨rfl, TabAt.step hf hr hr' 19 (by simp) he ⟨h1, h2, h3, h4, h5, h6, h7⟩ (.inr ⟨by omega, k1⟩) (.inr ⟨by omega, k2⟩) (.inr ⟨by omega, k3⟩) (.inr ⟨by omega, k4⟩) (.inl hk') (.inr ⟨by omega, k6⟩), hf⟩
theorem lo_any (w : World) (T : Nat) (L : Loc) (n c : Int) (h : TabAt w T L n) (hR : rightL L = true) :
  Calls Tryz.prog 36 #[.pointer (some ⟨T, 24, none⟩), .int .i32 c] w fun e w' => e = .returned (.int .i32 (toL L.lo c)) ∧ TabAt w' T L n ∧ Fr w w' (· = T) := by
 obtain ⟨l, v1, v2, v3, v4, hr, h1, h2, h3, h4, h5, h6, h7, k1, k2, k3, k4, k5, k6⟩ := h
 refine (ofP_any T 24 _ l w v3 L.lo c hr k6 h6 h7.2.2.1 h7.2.2.2.2.2.2 (right_lo hR)).mono ?_
 rintro e w' ⟨rfl, hf, l', hr', hk', he⟩
 exact ⟨rfl, TabAt.step hf hr hr' 24 (by simp) he ⟨h1, h2, h3, h4, h5, h6, h7⟩ (.inr ⟨by omega, k1⟩) (.inr ⟨by omega, k2⟩) (.inr ⟨by omega, k3⟩) (.inr ⟨by omega, k4⟩) (.inr ⟨by omega, k5⟩) (.inl hk'), hf⟩
set_option maxRecDepth 100000 in
set_option maxHeartbeats 1000000 in
theorem upper_any (w : World) (T : Nat) (L : Loc) (n c : Int) (h : TabAt w T L n) (h0 : 0 ≤ n) (h1 : n < 4611686018427387904) (hR : rightL L = true) :
  Calls Tryz.prog 39 #[.pointer (some ⟨T, 0, none⟩), .int .i32 c] w fun e w' => e = .returned (.int .i32 (toL L.up c)) ∧ TabAt w' T L (n + 1) ∧ Fr w w' (· = T) := by
 have hc := count_any w T L n h h0 h1
 clear h
 go_enter Tryz.func39, Tryz.ntmps39
 go_wp2_with fail
 refine hc.mono ?_
 rintro e w1 ⟨rfl, ht, hf⟩
 have hu := up_any w1 T L (n + 1) c ht hR
 have HF := Lib.hid hf
 clear hc ht hf
 go_wp2_with fail
 refine hu.mono ?_
 rintro e w2 ⟨rfl, ht, hf⟩
 have HE : Hid (TabAt w2 T L (n + 1) ∧ Fr w w2 (· = T)) := Lib.hid ⟨ht, HF.out.trans hf⟩
 clear hu ht hf
 go_wp2
 go_ret
 exact ⟨rfl, HE.out⟩
theorem RI.fr {ki : IntKind} {w w' : World} {B n : Nat} {A : Option Addr} {zs : List Int} {X : Nat → Prop} (h : RI ki w B A n zs) (hf : Fr w w' X) (hB : B ≤ w.heap.size) (hx : 0 < n → ∀ ad, A = some ad → ¬ X ad.block) : RI ki w' B A n zs :=
 ⟨h.1, fun hn => by
  obtain ⟨ad, e, hb, hc⟩ := h.2 hn
  exact ⟨ad, e, hb, fun j u hu => (World.cell?_of_block (hf.block (ad.add j).block (by rw [block_of_add]; omega) (by rw [block_of_add]; exact hx hn ad e))).trans (hc j u hu)⟩⟩
theorem rank_at {o : List Elm} {i : Nat} {e : Elm} (he : o[i]? = some e) : ((Value.string (str (textL e.cells)), Value.int .i64 (i : Int)) : Value × Value) ∈ rankKV 0 o := by
 have h : ∀ (o : List Elm) (k i : Nat), o[i]? = some e → ((Value.string (str (textL e.cells)), Value.int .i64 ((k + i : Nat) : Int)) : Value × Value) ∈ rankKV k o := by
  intro o
  induction o with
  | nil => intro k i h; cases h
  | cons x r ih =>
   intro k i h
   cases i with
   | zero =>
    obtain rfl : x = e := by simpa using h
    exact List.mem_cons_self
   | succ j =>
    have := ih (k + 1) j (by simpa using h)
    rw [show k + (j + 1) = k + 1 + j by omega]
    exact List.mem_cons_of_mem _ this
 have := h o 0 i he
 rwa [Nat.zero_add] at this
theorem first_at : ∀ {o : List Elm} {cs : List Int}, (∃ e ∈ o, e.cells = cs) → ∃ (i : Nat) (e : Elm), o[i]? = some e ∧ e.cells = cs ∧ ∀ x ∈ o.take i, x.cells ≠ cs
 | [], _, h => by obtain ⟨e, he, _⟩ := h; cases he
 | x :: r, cs, h => by
  by_cases hx : x.cells = cs
  ·exact ⟨0, x, rfl, hx, by simp⟩
  ·obtain ⟨i, e, h1, h2, h3⟩ := first_at (o := r) (cs := cs) (by
    obtain ⟨e, he, hc⟩ := h
    rcases List.mem_cons.1 he with rfl | he
    ·exact absurd hc hx
    ·exact ⟨e, he, hc⟩)
   refine ⟨i + 1, e, by simpa using h1, h2, fun y hy => ?_⟩
   rw [List.take_succ_cons] at hy
   rcases List.mem_cons.1 hy with rfl | hy
   ·exact hx
   ·exact h3 y hy
theorem place_is {o : List Elm} {cs : List Int} : (∃ (i : Nat) (e : Elm), o[i]? = some e ∧ e.cells = cs ∧ placeV o cs = (i : Int)) ∨ ((∀ e ∈ o, e.cells ≠ cs) ∧ placeV o cs = -1) := by
 by_cases h : ∃ e ∈ o, e.cells = cs
 ·obtain ⟨i, e, he, hc, hx⟩ := first_at h
  exact .inl ⟨i, e, he, hc, placeV_at he hc hx⟩
 ·have h' : ∀ e ∈ o, e.cells ≠ cs := fun e he hc => h ⟨e, he, hc⟩
  exact .inr ⟨h', placeV_none h'⟩
set_option maxRecDepth 100000 in
set_option maxHeartbeats 2000000 in
theorem rankO_any (w : World) (T : Nat) (L : Loc) (n : Int) (Bx : Nat) (Ax : Option Addr) (m cx : Nat) (cs : List Int) (h : TabAt w T L n) (hR : rightL L = true) (hx : RI .i32 w Bx Ax m cs) (hBx : Bx ≤ w.heap.size) (hxT : 0 < m → ∀ ad, Ax = some ad → ad.block ≠ T) (hG : Gl w) (hgT : (5 : Nat) < T) :
  Calls Tryz.prog 63 #[.pointer (some ⟨T, 1, none⟩), .slice Ax m cx] w fun e w' => e = .returned (.int .i64 (placeV L.ord cs)) ∧ TabAt w' T L n ∧ Fr w w' (· = T) := by
 have hord := right_ord hR
 by_cases hm : 4 < m
 ·have hp : placeV L.ord cs = -1 := placeV_none (fun e he hc => by
   have := len4 hord he
   rw [hc, hx.len] at this
   omega)
  have hm' : (4 : Int) < (m : Int) := by omega
  have HE : Hid (TabAt w T L n ∧ Fr w w (· = T)) := Lib.hid ⟨h, Fr.refl _ _⟩
  clear h hx hxT hG
  rw [hp]
  go_enter Tryz.func63, Tryz.ntmps63
  go_wp2
  go_ret
  exact ⟨rfl, HE.out⟩
 ·have hm' : ¬ (4 : Int) < (m : Int) := by omega
  obtain ⟨l, v1, v2, v3, v4, hr, h1, h2, h3, h4, h5, h6, h7, k1, k2, k3, k4, k5, k6⟩ := h
  have hget := getSI_any T 2 _ l w 93 (.pointer (some ⟨T, 1, none⟩)) (PRank T L.ord) hr k1 (fun W W' M h hf => h.fr hf) (fun args w => run_enter Tryz.func93 (by kernel_rfl) rfl args w) (fillRank T _ l w v4 L.ord h3 h7.2.2.2.1 hord hr.lt hG hgT)
  have hmf : ∀ (fn : Fn) (first cap : Array Value) (w : World), (Instr.makeFunc fn first cap).run Tryz.prog w = .ok (.func fn first cap) w := fun _ _ _ _ => rfl
  have HS : Hid (∀ w' l', Fr w w' (· = T) → Row w' T 107 l' → Lk l' 2 (PRank T L.ord w') → Else l l' 2 → TabAt w' T L n) := Lib.hid (fun w' l' hf hr' hk' he => TabAt.step hf hr hr' 2 (by simp) he ⟨h1, h2, h3, h4, h5, h6, h7⟩ (.inl hk') (.inr ⟨by omega, k2⟩) (.inr ⟨by omega, k3⟩) (.inr ⟨by omega, k4⟩) (.inr ⟨by omega, k5⟩) (.inr ⟨by omega, k6⟩))
  have HX := Lib.hid hx
  have HXT := Lib.hid hxT
  have HG := Lib.hid hG
  have HTl : Hid (T ≤ w.heap.size) := Lib.hid (Nat.le_of_lt hr.lt)
  have HORD := Lib.hid hord
  clear hr h1 h2 h3 h4 h5 h6 h7 k1 k2 k3 k4 k5 k6 hx hxT hG hord
  go_enter Tryz.func63, Tryz.ntmps63
  go_wp2_with fail
  refine hget.mono ?_
  rintro e w1 ⟨M, rfl, hp, hf, l', hr', hk', he⟩
  have hs := hf.size
  have htx := text_any w1 Bx Ax m cx cs (HX.out.fr hf hBx HXT.out) (by omega) (by omega) (((hf.belowT HTl.out).cell (p := ⟨5, 15, none⟩) hgT).trans HG.out)
  have HQ : Hid (TabAt w1 T L n ∧ Fr w w1 (· = T)) := Lib.hid ⟨HS.out _ _ hf hr' hk' he, hf⟩
  have HM := Lib.hid hp.2
  clear hget hp hf hr' hk' he hs
  go_wp2_with fail
  refine htx.mono ?_
  rintro e w2 ⟨rfl, hb2⟩
  have HQ2 : Hid (TabAt w2 T L n ∧ Fr w w2 (· = T)) := Lib.hid ⟨HQ.out.1.keep hb2, HQ.out.2.trans (.of_below hb2)⟩
  have hm2 := HM.out.at_ (hb2.block M HM.out.lt)
  clear htx hb2
  rcases place_is (o := L.ord) (cs := cs) with ⟨i, e, he, hc, hp⟩ | ⟨hno, hp⟩
  ·have q := hm2.look_yes (P := Tryz.prog) Tryz.underlying72 Tryz.underlying9 (key := .string (str (textL cs))) (v := .int .i64 (i : Int)) (by first | trivial | rfl) (by rw [← hc]; exact rank_at he) true
   have HP := Lib.hid hp
   clear hm2 he hp hc
   go_wp2
   go_ret
   exact ⟨by rw [HP.out]; rfl, HQ2.out⟩
  ·have q := hm2.look_no (P := Tryz.prog) Tryz.underlying72 Tryz.underlying9 (key := .string (str (textL cs))) (by first | trivial | rfl) (by
    rw [rank_keys]
    intro h
    obtain ⟨x, hx, e⟩ := List.mem_map.1 h
    exact hno x hx (textL_any (elemB_right (ord_elem HORD.out hx)) (strV_inj e))) (zeroInt64 w2) true
   have HP := Lib.hid hp
   clear hm2 hno hp
   go_wp2
   go_ret
   exact ⟨by rw [HP.out]; rfl, HQ2.out⟩
set_option maxRecDepth 100000 in
set_option maxHeartbeats 1000000 in
theorem rank_any (w : World) (T : Nat) (L : Loc) (n : Int) (Bx : Nat) (Ax : Option Addr) (m cx : Nat) (cs : List Int) (h : TabAt w T L n) (h0 : 0 ≤ n) (h1 : n < 4611686018427387904) (hR : rightL L = true) (hx : RI .i32 w Bx Ax m cs) (hBx : Bx ≤ w.heap.size) (hxT : 0 < m → ∀ ad, Ax = some ad → ad.block ≠ T) (hG : Gl w) (hgT : (5 : Nat) < T) :
  Calls Tryz.prog 38 #[.pointer (some ⟨T, 0, none⟩), .slice Ax m cx] w fun e w' => e = .returned (.int .i64 (placeV L.ord cs)) ∧ TabAt w' T L (n + 1) ∧ Fr w w' (· = T) := by
 have hc := count_any w T L n h h0 h1
 have HTl : Hid (T ≤ w.heap.size) := Lib.hid (Nat.le_of_lt h.lt)
 have HX := Lib.hid hx
 have HXT := Lib.hid hxT
 have HG := Lib.hid hG
 clear h hx hxT hG
 go_enter Tryz.func38, Tryz.ntmps38
 go_wp2_with fail
 refine hc.mono ?_
 rintro e w1 ⟨rfl, ht, hf⟩
 have hs := hf.size
 have hu := rankO_any w1 T L (n + 1) Bx Ax m cx cs ht hR (HX.out.fr hf hBx HXT.out) (by omega) HXT.out (((hf.belowT HTl.out).cell (p := ⟨5, 15, none⟩) hgT).trans HG.out) hgT
 have HF := Lib.hid hf
 clear hc ht hf
 go_wp2_with fail
 refine hu.mono ?_
 rintro e w2 ⟨rfl, ht, hf⟩
 have HE : Hid (TabAt w2 T L (n + 1) ∧ Fr w w2 (· = T)) := Lib.hid ⟨ht, HF.out.trans hf⟩
 clear hu ht hf
 go_wp2
 go_ret
 exact ⟨rfl, HE.out⟩
end Go.Proofs.YtknjhlbhbnldpaaGreatDoor.C

namespace Go.Proofs.YtknjhlbhbnldpaaGreatDoor.C
open Go.RowKit

def rangesL (cs : List Cls) (nm : List UInt8) : Option (List (Int × Int)) := (cs.find? fun k => k.name == nm).map Cls.rs
def inR (c : Int) (r : Int × Int) : Bool := decide (r.1 ≤ c ∧ c ≤ r.2)
def isL (cs : List Cls) (nm : List UInt8) (c : Int) : Bool := ((rangesL cs nm).getD []).any (inR c)
theorem rangesL_some {cs : List Cls} {nm : List UInt8} {rs : List (Int × Int)} (h : rangesL cs nm = some rs) : ∃ (i : Nat) (k : Cls), cs[i]? = some k ∧ k.name = nm ∧ k.rs = rs := by
 unfold rangesL at h
 cases hf : cs.find? fun k => k.name == nm with
 | none => rw [hf] at h; cases h
 | some k =>
  rw [hf] at h
  have hm := List.mem_of_find?_eq_some hf
  have hn := List.find?_some hf
  obtain ⟨i, hi⟩ := List.mem_iff_getElem?.1 hm
  exact ⟨i, k, hi, by simpa using hn, by simpa using h⟩
theorem rangesL_none {cs : List Cls} {nm : List UInt8} (h : rangesL cs nm = none) : ∀ k ∈ cs, k.name ≠ nm := by
 intro k hk e
 unfold rangesL at h
 cases hf : cs.find? fun k => k.name == nm with
 | none =>
  have := List.find?_eq_none.1 hf k hk
  simp [e] at this
 | some k => rw [hf] at h; cases h
theorem zeroRngs (w : World) : (zeroValue 84).run Tryz.prog w = .ok (.slice none 0 0) w := by kernel_rfl
set_option maxRecDepth 100000 in
set_option maxHeartbeats 2000000 in
theorem ranges_any (w : World) (T : Nat) (L : Loc) (n : Int) (nm : List UInt8) (h : TabAt w T L n) (hR : rightL L = true) :
  Calls Tryz.prog 80 #[.pointer (some ⟨T, 14, none⟩), .string (str nm)] w fun e w' => TabAt w' T L n ∧ Fr w w' (· = T) ∧
   ∃ v, e = .returned (.tuple #[v, .bool (rangesL L.cls nm).isSome]) ∧ PrsR w' T v ((rangesL L.cls nm).getD []) ∧ ((rangesL L.cls nm).getD []).length ≤ maxLen := by
 have HML : Hid (∀ k ∈ L.cls, k.rs.length ≤ maxLen) := Lib.hid (by
  obtain ⟨l, v1, v2, v3, v4, _, _, _, _, _, _, _, h7, _⟩ := id h
  obtain ⟨A, c, xs, _, _, hel⟩ := h7.1
  intro k hk
  obtain ⟨i, hi⟩ := List.mem_iff_getElem?.1 hk
  obtain ⟨_, _, _, _, q⟩ := hel i k hi
  exact q)
 have hnd := right_cls hR
 obtain ⟨l, v1, v2, v3, v4, hr, h1, h2, h3, h4, h5, h6, h7, k1, k2, k3, k4, k5, k6⟩ := h
 have hget := getSR_any T 14 _ l w 118 (.pointer (some ⟨T, 14, none⟩)) (PCls T L.cls) hr k4 (fun W W' M h hf => h.fr hf) (fun args w => run_enter Tryz.func118 (by kernel_rfl) rfl args w) (fillCls T 14 _ l w v1 L.cls h4 h7.1 h7.2.2.2.2.1 hnd hr.lt)
 have hmf : ∀ (fn : Fn) (first cap : Array Value) (w : World), (Instr.makeFunc fn first cap).run Tryz.prog w = .ok (.func fn first cap) w := fun _ _ _ _ => rfl
 have HS : Hid (∀ w' l', Fr w w' (· = T) → Row w' T 107 l' → Lk l' 14 (PCls T L.cls w') → Else l l' 14 → TabAt w' T L n) := Lib.hid (fun w' l' hf hr' hk' he => TabAt.step hf hr hr' 14 (by simp) he ⟨h1, h2, h3, h4, h5, h6, h7⟩ (.inr ⟨by omega, k1⟩) (.inr ⟨by omega, k2⟩) (.inr ⟨by omega, k3⟩) (.inl hk') (.inr ⟨by omega, k5⟩) (.inr ⟨by omega, k6⟩))
 have HND := Lib.hid hnd
 clear hr h1 h2 h3 h4 h5 h6 h7 k1 k2 k3 k4 k5 k6 hnd
 go_enter Tryz.func80, Tryz.ntmps80
 go_wp2_with fail
 refine hget.mono ?_
 rintro e w1 ⟨M, rfl, hp, hf, l', hr', hk', he⟩
 have HQ : Hid (TabAt w1 T L n ∧ Fr w w1 (· = T)) := Lib.hid ⟨HS.out _ _ hf hr' hk' he, hf⟩
 obtain ⟨_, vs, hlen, hm, hev⟩ := hp
 clear hget hf hr' hk' he
 cases hl : rangesL L.cls nm with
 | some rs =>
  have HL := Lib.hid hl
  obtain ⟨i, k, hi, hn, hrs⟩ := rangesL_some hl
  have hml := HML.out k (List.mem_of_getElem? hi)
  rw [hrs] at hml
  have hv : vs[i]? = some (vs[i]'(by rw [hlen]; exact (List.getElem?_eq_some_iff.1 hi).1)) := List.getElem?_eq_getElem _
  generalize vs[i]'(by rw [hlen]; exact (List.getElem?_eq_some_iff.1 hi).1) = u at hv
  have hz : (L.cls.zip vs)[i]? = some (k, u) := by rw [List.getElem?_zip_eq_some]; exact ⟨hi, hv⟩
  have hpr := hev i k u hi hv
  rw [hrs] at hpr
  have q := hm.look_yes (P := Tryz.prog) Tryz.underlying88 Tryz.underlying9 (key := .string (str nm)) (v := u) (by first | trivial | rfl) (by rw [← hn]; exact List.mem_map.2 ⟨_, List.mem_of_getElem? hz, rfl⟩) true
  have HE : Hid (TabAt w1 T L n ∧ Fr w w1 (· = T) ∧ PrsR w1 T u rs ∧ rs.length ≤ maxLen) := Lib.hid ⟨HQ.out.1, HQ.out.2, hpr, hml⟩
  obtain ⟨uA, uc, rfl, _⟩ := id hpr
  clear hm hpr hev hz hv hi hl hml
  go_wp2
  go_ret2
  exact ⟨HE.out.1, HE.out.2.1, _, by rw [HL.out]; rfl, by rw [HL.out]; exact HE.out.2.2⟩
 | none =>
  have HL := Lib.hid hl
  have hno := rangesL_none hl
  have q := hm.look_no (P := Tryz.prog) Tryz.underlying88 Tryz.underlying9 (key := .string (str nm)) (by first | trivial | rfl) (by
   intro h
   rw [List.map_map] at h
   obtain ⟨x, hx, e⟩ := List.mem_map.1 h
   have e' := strV_inj e
   exact hno x.1 (List.of_mem_zip hx).1 e') (zeroRngs w1) true
  have HE : Hid (TabAt w1 T L n ∧ Fr w w1 (· = T) ∧ PrsR w1 T (.slice none 0 0) []) := Lib.hid ⟨HQ.out.1, HQ.out.2, none, 0, rfl, SI.nil 2 w1 T none⟩
  clear hm hev hl hno
  go_wp2
  go_ret2
  exact ⟨HE.out.1, HE.out.2.1, _, by rw [HL.out]; rfl, by rw [HL.out]; exact ⟨HE.out.2.2, Nat.zero_le _⟩⟩
set_option maxRecDepth 100000 in
set_option maxHeartbeats 1000000 in
theorem inR_any (w : World) (a b c : Int) (P : Nat) (hc : w.cell? ⟨P, 0, none⟩ = some (.int .i32 c)) :
  Calls Tryz.prog 82 #[.agg #[.int .i32 a, .int .i32 b], .pointer (some ⟨P, 0, none⟩)] w fun e w' => e = .returned (.bool (inR c (a, b))) ∧ Below w.heap.size w w' := by
 have hP := World.block_lt_of_cell? _ _ hc
 simp only at hP
 obtain ⟨w2, hw2⟩ : ∃ w2, w2 = w.alloc (.cells #[.int .i32 a, .int .i32 b] 109) := ⟨_, rfl⟩
 have HB : Hid (Below w.heap.size w w2) := Lib.hid (by rw [hw2]; exact (Below.refl _ _).alloc (Nat.le_refl _) _)
 have x0 : w2.cell? ⟨w.heap.size, 0, none⟩ = some (.int .i32 a) := by rw [hw2]; simp
 have x1 : w2.cell? ⟨w.heap.size, 1, none⟩ = some (.int .i32 b) := by rw [hw2]; simp
 have x2 : w2.cell? ⟨P, 0, none⟩ = some (.int .i32 c) := (HB.out.cell (p := ⟨P, 0, none⟩) hP).trans hc
 clear hc
 subst hw2
 by_cases h1 : a ≤ c
 ·by_cases h2 : c ≤ b
  ·have HV : Hid (inR c (a, b) = true) := Lib.hid (by simp [inR, h1, h2])
   go_enter Tryz.func82, Tryz.ntmps82
   go_wp2
   go_ret
   exact ⟨by rw [HV.out]; rfl, HB.out⟩
  ·have HV : Hid (inR c (a, b) = false) := Lib.hid (by simp [inR, h2])
   go_enter Tryz.func82, Tryz.ntmps82
   go_wp2
   go_ret
   exact ⟨by rw [HV.out]; rfl, HB.out⟩
 ·have HV : Hid (inR c (a, b) = false) := Lib.hid (by simp [inR, h1])
  go_enter Tryz.func82, Tryz.ntmps82
  go_wp2
  go_ret
  exact ⟨by rw [HV.out]; rfl, HB.out⟩
set_option maxRecDepth 100000 in
set_option maxHeartbeats 2000000 in
theorem findIn_any (w : World) (B P : Nat) (v : Value) (c : Int) (rs : List (Int × Int)) (h : PrsR w B v rs) (hn : rs.length ≤ maxLen) (hB : B ≤ w.heap.size) (hc : w.cell? ⟨P, 0, none⟩ = some (.int .i32 c)) :
  Calls Tryz.prog 119 #[v, .func (.func 82) #[] #[.pointer (some ⟨P, 0, none⟩)]] w fun e w' => Below w.heap.size w w' ∧ ∃ k : Int, e = .returned (.int .i64 k) ∧ (rs.any (inR c) = decide (0 ≤ k)) := by
 obtain ⟨A, cA, rfl, hsi⟩ := h
 unfold maxLen at hn
 have HSI := Lib.hid hsi
 have HP : Hid (P < w.heap.size ∧ B ≤ w.heap.size) := Lib.hid ⟨World.block_lt_of_cell? _ _ hc, hB⟩
 have HC := Lib.hid hc
 clear hsi hc hB
 have eg : ∀ args w, (callFunc 82 args).run Tryz.prog w = .ok (.enter 82 args) w := fun args w => run_enter Tryz.func82 (by kernel_rfl) rfl args w
 go_enter Tryz.func119, Tryz.ntmps119
 go_wp2
 go_loopw [8] (fun iv wr => ∃ k : Nat, k ≤ rs.length ∧ iv = .int .i64 k ∧ Hid (Below w.heap.size w wr ∧ ∀ r ∈ rs.take k, inR c r = false)) (fun iv _ => rs.length - (intOf iv).toNat)
 case atStart => exact ⟨0, Nat.zero_le _, rfl, Lib.hid ⟨Below.refl _ _, by simp⟩⟩
 case round =>
  obtain ⟨k, hkn, rfl, HI⟩ := hrel
  by_cases hlt : k < rs.length
  ·obtain ⟨r, hr⟩ : ∃ r, rs[k]? = some r := ⟨_, List.getElem?_eq_getElem hlt⟩
   obtain ⟨ad, rfl, hbl, hc0, hc1⟩ := prsR_at (HSI.out.on HI.out.1 HP.out.2) hr
   obtain ⟨a, b⟩ := r
   have hcl := inR_any wr a b c P ((HI.out.1.cell (p := ⟨P, 0, none⟩) HP.out.1).trans HC.out)
   have HR := Lib.hid hr
   clear hr hbl
   cases hq : inR c (a, b) with
   | true =>
    have HY : Hid (rs.any (inR c) = true) := Lib.hid (List.any_eq_true.2 ⟨_, List.mem_of_getElem? HR.out, hq⟩)
    rw [hq] at hcl
    clear hq
    go_wp2_with (go_at_call 82; refine hcl.mono ?_; rintro e w2 ⟨rfl, hf⟩; have HF : Hid (Below w.heap.size w w2) := Lib.hid (HI.out.1.trans (hf.mono HI.out.1.size)); clear hf hcl)
    go_ret
    exact ⟨HF.out, _, rfl, by rw [HY.out]; simp⟩
   | false =>
    rw [hq] at hcl
    have HQ := Lib.hid hq
    clear hq
    go_wp2_with (go_at_call 82; refine hcl.mono ?_; rintro e w2 ⟨rfl, hf⟩; have HF : Hid (Below w.heap.size w w2) := Lib.hid (HI.out.1.trans (hf.mono HI.out.1.size)); clear hf hcl)
    go_roundw
    case rel => exact ⟨k + 1, by omega, by go_num, Lib.hid ⟨HF.out, by
     rw [take_one HR.out]
     intro r hr
     rcases List.mem_append.1 hr with hr | hr
     ·exact HI.out.2 r hr
     ·rw [List.mem_singleton.1 hr]; exact HQ.out⟩⟩
    case measure => simp [intOf]; omega
  ·obtain rfl : k = rs.length := by omega
   have HY : Hid (Below w.heap.size w wr ∧ rs.any (inR c) = false) := Lib.hid ⟨HI.out.1, by
    rw [List.any_eq_false]
    intro r hr
    rw [HI.out.2 r (by rw [List.take_length]; exact hr)]
    decide⟩
   go_wp2
   go_ret
   exact ⟨HY.out.1, _, rfl, by rw [HY.out.2]; decide⟩
set_option maxRecDepth 100000 in
set_option maxHeartbeats 1000000 in
theorem hasIn_any (w : World) (B P : Nat) (v : Value) (c : Int) (rs : List (Int × Int)) (h : PrsR w B v rs) (hn : rs.length ≤ maxLen) (hB : B ≤ w.heap.size) (hc : w.cell? ⟨P, 0, none⟩ = some (.int .i32 c)) :
  Calls Tryz.prog 81 #[v, .func (.func 82) #[] #[.pointer (some ⟨P, 0, none⟩)]] w fun e w' => Below w.heap.size w w' ∧ e = .returned (.bool (rs.any (inR c))) := by
 have hf := findIn_any w B P v c rs h hn hB hc
 obtain ⟨A, cA, rfl, _⟩ := h
 clear hn hB hc
 go_enter Tryz.func81, Tryz.ntmps81
 go_wp2_with fail
 refine hf.mono ?_
 rintro e w2 ⟨hb, k, rfl, hk⟩
 have HB := Lib.hid hb
 have HK := Lib.hid hk
 clear hf hb hk
 go_wp2
 go_ret
 exact ⟨HB.out, by rw [HK.out]; rfl⟩
set_option maxRecDepth 100000 in
set_option maxHeartbeats 2000000 in
theorem is_any (w : World) (T : Nat) (L : Loc) (n c : Int) (nm : List UInt8) (h : TabAt w T L n) (h0 : 0 ≤ n) (h1 : n < 4611686018427387904) (hR : rightL L = true) :
  Calls Tryz.prog 40 #[.pointer (some ⟨T, 0, none⟩), .string (str nm), .int .i32 c] w fun e w' => e = .returned (.bool (isL L.cls nm c)) ∧ TabAt w' T L (n + 1) ∧ Fr w w' (· = T) := by
 obtain ⟨w1, hw1⟩ : ∃ w1, w1 = w.alloc (.cells #[.int .i32 c] 23) := ⟨_, rfl⟩
 have hb1 : Below w.heap.size w w1 := by rw [hw1]; exact (Below.refl _ _).alloc (Nat.le_refl _) _
 have x0 : w1.cell? ⟨w.heap.size, 0, none⟩ = some (.int .i32 c) := by rw [hw1]; simp
 have hs1 : w1.heap.size = w.heap.size + 1 := by rw [hw1]; simp
 have hc := count_any w1 T L n (h.keep hb1) h0 h1
 have HTl : Hid (T < w.heap.size) := Lib.hid h.lt
 have HB1 := Lib.hid hb1
 have HX := Lib.hid x0
 clear h hb1 x0
 subst hw1
 have hmf : ∀ (fn : Fn) (first cap : Array Value) (w : World), (Instr.makeFunc fn first cap).run Tryz.prog w = .ok (.func fn first cap) w := fun _ _ _ _ => rfl
 go_enter Tryz.func40, Tryz.ntmps40
 go_wp2_with fail
 refine hc.mono ?_
 rintro e w2 ⟨rfl, ht, hf⟩
 have HF2 := Lib.hid hf
 have hrg := ranges_any w2 T L (n + 1) nm ht hR
 clear hc ht hf
 go_wp2_with fail
 refine hrg.mono ?_
 rintro e w3 ⟨ht, hf, v, rfl, hv, hm⟩
 have HF3 := Lib.hid (HF2.out.trans hf)
 have HT3 := Lib.hid ht
 have hx3 : w3.cell? ⟨w.heap.size, 0, none⟩ = some (.int .i32 c) := (World.cell?_of_block (HF3.out.block w.heap.size (by rw [hs1]; omega) (by have := HTl.out; omega))).trans HX.out
 have hin := hasIn_any w3 T w.heap.size v c _ hv hm (Nat.le_of_lt ht.lt) hx3
 obtain ⟨A, cA, rfl, _⟩ := id hv
 clear hrg ht hf hx3 hv hm
 go_wp2_with fail
 refine hin.mono ?_
 rintro e w4 ⟨hb, rfl⟩
 have HE : Hid (TabAt w4 T L (n + 1) ∧ Fr w w4 (· = T)) := Lib.hid ⟨HT3.out.keep hb, ((Fr.of_below HB1.out).trans HF3.out).trans (.of_below hb)⟩
 clear hin hb
 go_wp2
 go_ret
 exact ⟨rfl, HE.out⟩
end Go.Proofs.YtknjhlbhbnldpaaGreatDoor.C
