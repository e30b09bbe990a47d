/-
  Joined: LjA, KoG, KoI. Each with what its own head says.
-/
import Derived.Test.YtknjhlbhbnldpaaGreatDoorB14
import Derived.Test.YtknjhlbhbnldpaaGreatDoorB15


namespace Go.Proofs.YtknjhlbhbnldpaaGreatDoor.C
open Go.ChangeShapes Go.WideShapes Go.ChangeAt Go.RowKit Go.Deep
section
variable {H : Type} {enc : TypeId × Value → H} {W : World}
theorem weights_mem_all {P : Program} {e : TypeId} : ∀ {ds : List (DataW H)} {i : Nat} {d : DataW H}, ds[i]? = some d → ∀ n ∈ d.weights P e, n ∈ DataW.weightsAll P e ds
 | d0 :: ds, 0, d, h, n, hn => by
  simp only [List.getElem?_cons_zero, Option.some.injEq] at h
  subst h
  simp only [DataW.weightsAll, List.mem_append]
  exact Or.inl hn
 | d0 :: ds, i + 1, d, h, n, hn => by
  simp only [List.getElem?_cons_succ] at h
  simp only [DataW.weightsAll, List.mem_append]
  exact Or.inr (weights_mem_all h n hn)
 | [], _, _, h, _, _ => by simp at h
theorem str_back (s : ByteArray) : str s.data.toList = s := by
 show (⟨s.data.toList.toArray⟩ : ByteArray) = s
 rw [Array.toArray_toList]
theorem lt_of_some {α : Type} {len : Nat} {f : Nat → α} {j : Nat} {y : α} (h : ((List.range len).map f)[j]? = some y) : j < len ∧ y = f j := by
 have hj : j < len := by
  rcases Nat.lt_or_ge j len with h1 | h1
  ·exact h1
  ·rw [List.getElem?_eq_none (by simp; omega)] at h; cases h
 rw [List.getElem?_map, List.getElem?_range hj] at h
 simp at h
 exact ⟨hj, h.symm⟩
theorem prs_open {t e : TypeId} {f0 f1 : Field} {fuel : Nat} {v : Value} {x : DataW H × List MemPlace} (ht : Tryz.prog.underlying t = some (.slice e)) (he : Tryz.prog.underlying e = some (.struct #[f0, f1])) (ce : Tryz.prog.cellsOf e = 2) (o0 : f0.offset = 0) (o1 : f1.offset = 1) (k0 : f0.type = 23) (k1 : f1.type = 23) (hB : Tryz.prog.bytesOf e = 8)
  (h : DataW.trod enc Tryz.prog W 0 (fun _ => true) true fuel t [v] = some x) (hw : ∀ n ∈ x.1.weights Tryz.prog t, n ≤ reachBytes) : ∃ l, PrsR W W.heap.size v l ∧ l.length ≤ 17592186044416 := by
 rcases open_slice_pairs ht he ce o0 o1 (by rw [k0]; kernel_rfl) (by rw [k1]; kernel_rfl) h with ⟨hcs, _⟩ | ⟨a, len, cap, m, n, V0, V1, D0, D1, P0, P1, hcs, _, hl, hm, hmm, hx, hi⟩
 ·simp at hcs
  subst hcs
  exact ⟨[], ⟨none, 0, rfl, SI.nil _ _ _ _⟩, by simp⟩
 ·simp at hcs
  subst hcs
  have hmc : m = cap := by simpa using hmm
  subst hmc
  subst hx
  have each : ∀ i, i < len → ∃ q : Int × Int, V0 i = .int .i32 q.1 ∧ V1 i = .int .i32 q.2 := by
   intro i hil
   obtain ⟨_, _, t0, t1⟩ := hi i (by omega)
   rw [k0] at t0
   rw [k1] at t1
   obtain ⟨p, hp, _⟩ := DataW.trod_int Tryz.underlying23 t0
   obtain ⟨q, hq, _⟩ := DataW.trod_int Tryz.underlying23 t1
   exact ⟨(p, q), by simpa using hp, by simpa using hq⟩
  obtain ⟨q, hq⟩ := choose_lt each
  have hwt : (len + (m - len)) * 8 ≤ reachBytes := by
   refine hw _ ?_
   simp only [DataW.weights, ht, List.mem_cons, List.length_map, List.length_range, hB]
   exact .inl trivial
  refine ⟨(List.range len).map q, ⟨some a, m, by simp, by simp, ?_, fun h0 => ⟨a, rfl, ?_, fun j y hy i u hu => ?_⟩⟩, by simp only [List.length_map, List.length_range]; unfold reachBytes at hwt; omega⟩
  ·intro y hy
   obtain ⟨p, _, rfl⟩ := List.mem_map.1 hy
   rfl
  ·have := World.block_lt_of_cell? W _ (hi 0 (by simp at h0; omega)).1
   rwa [block_of_add] at this
  ·rw [List.map_map] at hy
   obtain ⟨hj, rfl⟩ := lt_of_some hy
   obtain ⟨e0, e1, _, _⟩ := hi j (by omega)
   obtain ⟨g0, g1⟩ := hq j hj
   match i, hu with
   | 0, hu =>
    obtain rfl := Option.some.inj hu
    rw [← g0]
    exact e0
   | 1, hu =>
    obtain rfl := Option.some.inj hu
    rw [← g1]
    exact e1
theorem cls_open {fuel : Nat} {v : Value} {x : DataW H × List MemPlace} (h : DataW.trod enc Tryz.prog W 0 (fun _ => true) true fuel 26 [v] = some x) (hw : ∀ n ∈ x.1.weights Tryz.prog 26, n ≤ reachBytes) :
  ∃ cs, ClsR W W.heap.size v cs ∧ cs.length ≤ 140737488351232 ∧ ∀ c ∈ cs, c.name.length ≤ 140737488351232 ∧ c.rs.length ≤ 17592186044416 := by
 rcases open_slice_pairs Tryz.underlying26 Tryz.underlying86 (by kernel_rfl) rfl rfl (by kernel_rfl) (by kernel_rfl) h with ⟨hcs, _⟩ | ⟨a, len, cap, m, n, V0, V1, D0, D1, P0, P1, hcs, _, hl, hm, hmm, hx, hi⟩
 ·simp at hcs
  subst hcs
  exact ⟨[], ⟨none, 0, [], rfl, SI.nil _ _ _ _, by simp⟩, Nat.zero_le _, by simp⟩
 ·simp at hcs
  subst hcs
  have hmc : m = cap := by simpa using hmm
  subst hmc
  subst hx
  have each : ∀ i, i < len → ∃ q : Cls, V0 i = .string (str q.name) ∧ PrsR W W.heap.size (V1 i) q.rs ∧ q.name.length ≤ 140737488351232 ∧ q.rs.length ≤ 17592186044416 := by
   intro i hil
   obtain ⟨_, _, t0, t1⟩ := hi i (by omega)
   have hwi : ∀ n ∈ DataW.weightsEach Tryz.prog [9, 84] [D0 i, D1 i], n ≤ reachBytes := by
    intro n hn
    refine hw n ?_
    simp only [DataW.weights, Tryz.underlying26, List.mem_cons, List.mem_append]
    refine .inr (.inl (weights_mem_all (i := i) (d := .agg [D0 i, D1 i]) (by rw [List.getElem?_map, List.getElem?_range hil]; rfl) _ ?_))
    simp only [DataW.weights, Tryz.underlying86]
    exact hn
   obtain ⟨s, hs, hs2, _⟩ := DataW.trod_string Tryz.underlying9 t0
   obtain ⟨l, hl1, hl2⟩ := prs_open Tryz.underlying84 Tryz.underlying109 (by kernel_rfl) rfl rfl rfl rfl (by kernel_rfl) t1 (fun n hn => hwi n (DataW.weights_mem_each (j := 1) rfl rfl _ hn))
   simp only [Prod.mk.injEq] at hs2
   have hb := hwi s.data.toList.length (DataW.weights_mem_each (j := 0) rfl rfl _ (by rw [hs2.1]; simp [DataW.weights]))
   unfold reachBytes at hb
   exact ⟨⟨s.data.toList, l⟩, by rw [str_back]; simpa using hs, hl1, hb, hl2⟩
  have hwt : (len + (m - len)) * 40 ≤ reachBytes := by
   refine hw _ ?_
   simp only [DataW.weights, Tryz.underlying26, List.mem_cons, List.length_map, List.length_range, show Tryz.prog.bytesOf 86 = 40 from by kernel_rfl]
   exact .inl trivial
  unfold reachBytes at hwt
  haveI : Inhabited Cls := ⟨⟨[], []⟩⟩
  obtain ⟨q, hq⟩ := choose_lt each
  refine ⟨(List.range len).map q, ⟨some a, m, (List.range len).map fun i => [V0 i, V1 i], by simp, ⟨by simp, ?_, fun h0 => ⟨a, rfl, ?_, fun j y hy i u hu => ?_⟩⟩, fun i k hk => ?_⟩, by simp; omega, ?_⟩
  ·intro y hy
   obtain ⟨p, _, rfl⟩ := List.mem_map.1 hy
   rfl
  ·have := World.block_lt_of_cell? W _ (hi 0 (by simp at h0; omega)).1
   rwa [block_of_add] at this
  ·obtain ⟨hj, rfl⟩ := lt_of_some hy
   obtain ⟨e0, e1, _, _⟩ := hi j (by omega)
   match i, hu with
   | 0, hu =>
    obtain rfl := Option.some.inj hu
    exact e0
   | 1, hu =>
    obtain rfl := Option.some.inj hu
    exact e1
  ·obtain ⟨hj, rfl⟩ := lt_of_some hk
   obtain ⟨g0, g1, g2, g3⟩ := hq i hj
   refine ⟨V1 i, ?_, g1, by unfold maxLen; omega, by unfold maxLen; omega⟩
   rw [List.getElem?_map, List.getElem?_range hj, ← g0]
   rfl
  ·intro c hc
   obtain ⟨i, hi', rfl⟩ := List.mem_map.1 hc
   obtain ⟨_, _, g2, g3⟩ := hq i (List.mem_range.1 hi')
   exact ⟨g2, g3⟩
set_option maxRecDepth 100000 in
theorem ord_open {fuel : Nat} {v : Value} {x : DataW H × List MemPlace} (h : DataW.trod enc Tryz.prog W 0 (fun _ => true) true fuel 28 [v] = some x) (hw : ∀ n ∈ x.1.weights Tryz.prog 28, n ≤ reachBytes) :
  ∃ o, OrdR W W.heap.size v o ∧ o.length ≤ 140737488351232 ∧ ∀ e ∈ o, e.name.length ≤ 140737488351232 := by
 rcases open_slice Tryz.underlying28 h with ⟨hcs, _⟩ | ⟨a, len, cap, m, n, D, Pl, hcs, _, hl, hm, hmm, hx0, hx⟩
 ·simp at hcs
  subst hcs
  exact ⟨[], ⟨none, 0, [], rfl, SI.nil _ _ _ _, by simp⟩, Nat.zero_le _, by simp⟩
 ·simp at hcs
  subst hcs
  have hmc : m = cap := by simpa using hmm
  subst hmc
  subst hx0
  have ce : Tryz.prog.cellsOf 39 = 3 := by kernel_rfl
  have c1 : Tryz.prog.cellsOf 9 = 1 := by kernel_rfl
  have c2 : Tryz.prog.cellsOf 33 = 1 := by kernel_rfl
  have c3 : Tryz.prog.cellsOf 3 = 1 := by kernel_rfl
  have each : ∀ i, i < len → ∃ q : Elm × Option Addr × Nat, W.cell? (a.add (i * 3)) = some (.string (str q.1.name)) ∧ W.cell? (a.add (i * 3 + 1)) = some (.slice q.2.1 q.1.cells.length q.2.2) ∧ W.cell? (a.add (i * 3 + 2)) = some (.int .i64 q.1.same) ∧ RI .i32 W W.heap.size q.2.1 q.1.cells.length q.1.cells ∧ q.1.name.length ≤ 140737488351232 ∧ q.1.cells.length ≤ maxLen := by
   intro i hil
   obtain ⟨cs', h1, h2⟩ := hx i (by omega)
   rw [ce] at h1
   obtain ⟨_, hlen, hcell⟩ := World.cells?_some h1
   obtain ⟨y0, y1, y2, k, hxy, _, u0, u1, u2⟩ := trod_struct3 Tryz.underlying39 h2
   match cs', hlen with
   | [v0, v1, v2], _ =>
    simp only [c1, c2, c3, List.drop, List.take] at u0 u1 u2
    simp only [Prod.mk.injEq] at hxy
    have hwi : ∀ n ∈ DataW.weights Tryz.prog 9 y0.1, n ≤ reachBytes := by
     intro n hn
     refine hw n ?_
     simp only [DataW.weights, Tryz.underlying28, List.mem_cons, List.mem_append]
     refine .inr (.inl (weights_mem_all (i := i) (d := D i) (by rw [List.getElem?_map, List.getElem?_range hil]; rfl) _ ?_))
     rw [hxy.1]
     simp only [DataW.weights, Tryz.underlying39]
     exact DataW.weights_mem_each (j := 0) rfl rfl _ hn
    obtain ⟨s, e0, d0, _⟩ := DataW.trod_string Tryz.underlying9 u0
    obtain ⟨sm, e2, _, _⟩ := DataW.trod_int Tryz.underlying3 u2
    have hb := hwi s.data.toList.length (by rw [d0]; simp [DataW.weights])
    unfold reachBytes at hb
    have g0 := hcell 0 (by omega)
    have g1 := hcell 1 (by omega)
    have g2 := hcell 2 (by omega)
    rw [add_add] at g0 g1 g2
    simp only [List.cons.injEq, and_true] at e0 e2
    subst e0
    subst e2
    rcases open_ints Tryz.underlying33 Tryz.underlying23 (by kernel_rfl) u1 with ⟨hcs, _⟩ | ⟨y, l', c', zs, hcs, _, hl', hm', hz, hxx, hcell', hwz⟩
    ·simp at hcs
     subst hcs
     exact ⟨(⟨s.data.toList, [], sm⟩, none, 0), by rw [str_back]; simpa using g0, by simpa using g1, by simpa using g2, RI.none_, hb, Nat.zero_le _⟩
    ·simp at hcs
     subst hcs
     have hz' : zs.length = c' := by simpa using hz
     have hrow : L.IsRow .i32 W (some y) l' c' zs := .inr ⟨_, rfl, hl', hm', hz', hcell', hwz⟩
     have htl : (zs.take l').length = l' := by rw [List.length_take]; omega
     exact ⟨(⟨s.data.toList, zs.take l', sm⟩, some y, c'), by rw [str_back]; simpa using g0, by rw [htl]; simpa using g1, by simpa using g2, by rw [htl]; exact RI.of_row hrow, hb, by rw [htl]; omega⟩
  have hwt : (len + (m - len)) * 48 ≤ reachBytes := by
   refine hw _ ?_
   simp only [DataW.weights, Tryz.underlying28, List.mem_cons, List.length_map, List.length_range, show Tryz.prog.bytesOf 39 = 48 from by kernel_rfl]
   exact .inl trivial
  unfold reachBytes at hwt
  haveI : Inhabited (Elm × Option Addr × Nat) := ⟨(⟨[], [], 0⟩, none, 0)⟩
  obtain ⟨q, hq⟩ := choose_lt each
  refine ⟨(List.range len).map fun i => (q i).1, ⟨some a, m, (List.range len).map fun i => [.string (str (q i).1.name), .slice (q i).2.1 (q i).1.cells.length (q i).2.2, .int .i64 (q i).1.same], by simp, ⟨by simp, ?_, fun h0 => ⟨a, rfl, ?_, fun j y hy i u hu => ?_⟩⟩, fun i k hk => ?_⟩, by simp; omega, ?_⟩
  ·intro y hy
   obtain ⟨p, _, rfl⟩ := List.mem_map.1 hy
   rfl
  ·have := World.block_lt_of_cell? W _ (hq 0 (by simp at h0; omega)).1
   rwa [block_of_add] at this
  ·obtain ⟨hj, rfl⟩ := lt_of_some hy
   obtain ⟨g0, g1, g2, _⟩ := hq j hj
   match i, hu with
   | 0, hu =>
    obtain rfl := Option.some.inj hu
    exact g0
   | 1, hu =>
    obtain rfl := Option.some.inj hu
    exact g1
   | 2, hu =>
    obtain rfl := Option.some.inj hu
    exact g2
  ·obtain ⟨hj, rfl⟩ := lt_of_some hk
   obtain ⟨_, _, _, g3, g4, g5⟩ := hq i hj
   refine ⟨(q i).2.1, (q i).2.2, ?_, g3, by unfold maxLen; omega, g5⟩
   rw [List.getElem?_map, List.getElem?_range hj]
   rfl
  ·intro e he
   obtain ⟨i, hi', rfl⟩ := List.mem_map.1 he
   exact (hq i (List.mem_range.1 hi')).2.2.2.2.1
structure LocIn (l : Loc) : Prop where
 fc : l.cls.length ≤ 140737488351232
 fu : l.up.length ≤ 140737488351232
 fl : l.lo.length ≤ 140737488351232
 fo : l.ord.length ≤ 140737488351232
 n1 : ∀ c ∈ l.cls, c.name.length ≤ 140737488351232 ∧ c.rs.length ≤ 17592186044416
 n2 : ∀ e ∈ l.ord, e.name.length ≤ 140737488351232
theorem locale_open {v0 v1 v2 v3 : Value} {y0 y1 y2 y3 : DataW H × List MemPlace} {n : Nat} (h0 : DataW.trod enc Tryz.prog W 0 (fun _ => true) true n 26 [v0] = some y0) (h1 : DataW.trod enc Tryz.prog W 0 (fun _ => true) true n 27 [v1] = some y1) (h2 : DataW.trod enc Tryz.prog W 0 (fun _ => true) true n 27 [v2] = some y2) (h3 : DataW.trod enc Tryz.prog W 0 (fun _ => true) true n 28 [v3] = some y3)
  (hw : ∀ n ∈ (DataW.agg [y0.1, y1.1, y2.1, y3.1]).weights Tryz.prog 30, n ≤ reachBytes) :
  ∃ l, LocR W W.heap.size v0 v1 v2 v3 l ∧ LocIn l := by
 have hw' : ∀ n ∈ DataW.weightsEach Tryz.prog [26, 27, 27, 28] [y0.1, y1.1, y2.1, y3.1], n ≤ reachBytes := by
  intro n hn
  refine hw n ?_
  simp only [DataW.weights, Tryz.underlying30]
  exact hn
 obtain ⟨cs, a1, a2, a3⟩ := cls_open h0 (fun n hn => hw' n (DataW.weights_mem_each (j := 0) rfl rfl _ hn))
 obtain ⟨up, b1, b2⟩ := prs_open Tryz.underlying27 Tryz.underlying95 (by kernel_rfl) rfl rfl rfl rfl (by kernel_rfl) h1 (fun n hn => hw' n (DataW.weights_mem_each (j := 1) rfl rfl _ hn))
 obtain ⟨lo, c1, c2⟩ := prs_open Tryz.underlying27 Tryz.underlying95 (by kernel_rfl) rfl rfl rfl rfl (by kernel_rfl) h2 (fun n hn => hw' n (DataW.weights_mem_each (j := 2) rfl rfl _ hn))
 obtain ⟨o, d1, d0, d2⟩ := ord_open h3 (fun n hn => hw' n (DataW.weights_mem_each (j := 3) rfl rfl _ hn))
 exact ⟨⟨cs, up, lo, o⟩, ⟨a1, b1, c1, d1, by unfold maxLen; show cs.length ≤ _; omega, by unfold maxLen; show up.length ≤ _; omega, by unfold maxLen; show lo.length ≤ _; omega⟩, ⟨a2, by show up.length ≤ _; omega, by show lo.length ≤ _; omega, d0, a3, d2⟩⟩
end
end Go.Proofs.YtknjhlbhbnldpaaGreatDoor.C

namespace Go.Proofs.YtknjhlbhbnldpaaGreatDoor.C
open Go.RowKit

theorem flat_lenK {sz : Nat} : ∀ {xs : List (List Value)}, (∀ x ∈ xs, x.length = sz) → xs.flatten.length = xs.length * sz
 | [], _ => by simp
 | x :: r, h => by
  rw [List.flatten_cons, List.length_append, h x (by simp), flat_lenK (fun y hy => h y (by simp [hy])), List.length_cons, Nat.add_mul]
  omega
theorem prs_cells {w : World} {B n : Nat} {ad : Addr} {l : List (Int × Int)} (h : SI 2 w B (some ad) n (l.map prRow)) : ∀ (j : Nat) (u : Value), (prsC l)[j]? = some u → w.cell? (ad.add j) = some u := by
 intro j u hj
 have hx2 : ∀ x ∈ l.map prRow, x.length = 2 := by intro x hx; obtain ⟨y, _, rfl⟩ := List.mem_map.1 hx; rfl
 have hfl : (prsC l).length = n * 2 := by rw [prsC_flat, flat_lenK hx2, h.len]
 have hjl : j < (prsC l).length := (List.getElem?_eq_some_iff.1 hj).1
 obtain ⟨ad', x, e, _, hx, hxl, hc⟩ := h.at_ (k := j / 2) (by omega)
 injection e with e
 subst e
 have hi : x[j % 2]? = some (x[j % 2]'(by rw [hxl]; omega)) := List.getElem?_eq_getElem _
 have h1 := flat_at hx2 hx hi
 rw [← prsC_flat, show j / 2 * 2 + j % 2 = j by omega] at h1
 rw [hj] at h1
 have h2 := hc _ _ hi
 rw [show j / 2 * 2 + j % 2 = j by omega] at h2
 rw [h2, ← h1]
theorem prs_one (l : List (Int × Int)) : ∀ u ∈ prsC l, u.oneCell' = true := by
 intro u hu
 unfold prsC at hu
 obtain ⟨x, _, hx⟩ := List.mem_flatMap.1 hu
 simp at hx
 rcases hx with rfl | rfl <;> rfl
theorem cel_one (l : List Int) : ∀ u ∈ celC l, u.oneCell' = true := by
 intro u hu
 obtain ⟨x, _, rfl⟩ := List.mem_map.1 hu
 rfl

set_option maxRecDepth 100000 in
set_option maxHeartbeats 2000000 in
theorem cloneC_raw (w : World) (ad : Addr) (n c : Nat) (news : List Value) (hl : news.length = n * 1) (hn : n ≤ 1073741824) (hc : ∀ (j : Nat) (u : Value), news[j]? = some u → w.cell? (ad.add j) = some u) (h1 : ∀ u ∈ news, u.oneCell' = true) :
  Calls Tryz.prog 43 #[.slice (some ad) n c] w fun e w' => ∃ v, e = .returned v ∧ w'.ownsRow w.heap.size 23 1 v n news ∧ Below w.heap.size w w' := by
 have q22 : ∀ (w : World) (a : Option Addr) (n c n' c' : Nat), (binOp .eql 33 (.slice a n c) (.slice none n' c')).run Tryz.prog w = .ok (.bool a.isNone) w := fun w a n c n' c' => Lib.run_eql_slice_nil w _ _ a n c n' c' Tryz.underlying33
 obtain ⟨i0, hi, hz0, hz1, hz2⟩ := info_parts info33
 have HC := Lib.hid hc
 have HL := Lib.hid hl
 clear hc hl
 go_enter Tryz.func43, Tryz.ntmps43
 go_wp2_with (at_builtin; refine wpList_append_own _ rfl _ _ 33 rfl w.heap.size 23 i0 (.int .i32 0) 1 4 Tryz.underlying33 hi hz0 hz1 hz2 rfl (by decide) _ _ _ rfl (World.ownsRow_made w #[] 0 (Nat.le_refl _) (Nat.zero_le _) (by simp)) ad n c news rfl ?qc1 ?qc2 ?qc3 ?qc4 ?qc5 ?qc6 ?_)
 case qc1 => exact HL.out
 case qc2 =>
  intro j u hj
  exact Lib.cell?_alloc_some _ (HC.out j u hj)
 case qc3 => exact h1
 case qc4 => rw [Nat.zero_add]; unfold maxLen; omega
 case qc5 => rw [Nat.zero_add]; omega
 case qc6 => simp
 intro v' w1 hown hgrow hnil
 have HE : Hid (w1.ownsRow w.heap.size 23 1 v' n news ∧ Below w.heap.size w w1) := Lib.hid ⟨by simpa using hown, ((Below.refl _ w).alloc (Nat.le_refl _) _).grown hgrow (by simp) (fun k hk => by simp [Value.ownBlock] at hk; omega)⟩
 clear hown hgrow hnil
 go_wp2
 go_ret
 exact ⟨_, rfl, HE.out⟩
set_option maxRecDepth 100000 in
set_option maxHeartbeats 1000000 in
theorem cloneC_nil (w : World) (n c : Nat) : Calls Tryz.prog 43 #[.slice none n c] w fun e w' => e = .returned (.slice none 0 0) ∧ w' = w := by
 have q22 : ∀ (w : World) (a : Option Addr) (n c n' c' : Nat), (binOp .eql 33 (.slice a n c) (.slice none n' c')).run Tryz.prog w = .ok (.bool a.isNone) w := fun w a n c n' c' => Lib.run_eql_slice_nil w _ _ a n c n' c' Tryz.underlying33
 go_enter Tryz.func43, Tryz.ntmps43
 go_wp2
 go_ret
 exact ⟨rfl, rfl⟩

theorem cloneC_any (w : World) (B : Nat) (A : Option Addr) (n c : Nat) (xs : List Int) (h : RI .i32 w B A n xs) (hn : n ≤ 1073741824) :
  Calls Tryz.prog 43 #[.slice A n c] w fun e w' => ∃ v', e = .returned v' ∧ w'.ownsRow w.heap.size 23 1 v' n (celC xs) ∧ Below w.heap.size w w' := by
 have hlen := h.len
 cases A with
 | none =>
  obtain rfl : n = 0 := by
   rcases Nat.eq_zero_or_pos n with h1 | h1
   ·exact h1
   ·obtain ⟨_, _, e, _⟩ := h.at_ h1
    cases e
  obtain rfl : xs = [] := List.length_eq_zero_iff.1 hlen
  refine (cloneC_nil w 0 c).mono ?_
  rintro e w' ⟨rfl, rfl⟩
  exact ⟨_, rfl, World.ownsRow_nil _ _ _ _, Below.refl _ _⟩
 | some ad =>
  refine cloneC_raw w ad n c (celC xs) (by simp [celC, hlen]) hn (fun j u hj => ?_) (cel_one xs)
  unfold celC at hj
  rw [List.getElem?_map] at hj
  obtain ⟨x, hx, rfl⟩ := Option.map_eq_some_iff.1 hj
  have hjl := (List.getElem?_eq_some_iff.1 hx).1
  obtain ⟨ad', u, e, _, hu, hc⟩ := h.at_ (k := j) (by omega)
  injection e with e
  subst e
  rw [hx] at hu
  injection hu with hu
  rw [hc, hu]

set_option maxRecDepth 100000 in
set_option maxHeartbeats 2000000 in
theorem cloneP_raw (w : World) (ad : Addr) (n c : Nat) (news : List Value) (hl : news.length = n * 2) (hn : n ≤ 1073741824) (hc : ∀ (j : Nat) (u : Value), news[j]? = some u → w.cell? (ad.add j) = some u) (h1 : ∀ u ∈ news, u.oneCell' = true) :
  Calls Tryz.prog 32 #[.slice (some ad) n c] w fun e w' => ∃ v, e = .returned v ∧ w'.ownsRow w.heap.size 95 2 v n news ∧ Below w.heap.size w w' := by
 have q22 : ∀ (w : World) (a : Option Addr) (n c n' c' : Nat), (binOp .eql 27 (.slice a n c) (.slice none n' c')).run Tryz.prog w = .ok (.bool a.isNone) w := fun w a n c n' c' => Lib.run_eql_slice_nil w _ _ a n c n' c' Tryz.underlying27
 obtain ⟨i0, hi, hz0, hz1, hz2⟩ := info_parts infoPair
 have HC := Lib.hid hc
 have HL := Lib.hid hl
 clear hc hl
 go_enter Tryz.func32, Tryz.ntmps32
 go_wp2_with (at_builtin; refine wpList_append_own _ rfl _ _ 27 rfl w.heap.size 95 i0 (.agg #[.int .i32 0, .int .i32 0]) 2 8 Tryz.underlying27 hi hz0 hz1 hz2 rfl (by decide) _ _ _ rfl (World.ownsRow_made w #[] 0 (Nat.le_refl _) (Nat.zero_le _) (by simp)) ad n c news rfl ?qc1 ?qc2 ?qc3 ?qc4 ?qc5 ?qc6 ?_)
 case qc1 => exact HL.out
 case qc2 =>
  intro j u hj
  exact Lib.cell?_alloc_some _ (HC.out j u hj)
 case qc3 => exact h1
 case qc4 => rw [Nat.zero_add]; unfold maxLen; omega
 case qc5 => rw [Nat.zero_add]; omega
 case qc6 => simp
 intro v' w1 hown hgrow hnil
 have HE : Hid (w1.ownsRow w.heap.size 95 2 v' n news ∧ Below w.heap.size w w1) := Lib.hid ⟨by simpa using hown, ((Below.refl _ w).alloc (Nat.le_refl _) _).grown hgrow (by simp) (fun k hk => by simp [Value.ownBlock] at hk; omega)⟩
 clear hown hgrow hnil
 go_wp2
 go_ret
 exact ⟨_, rfl, HE.out⟩
set_option maxRecDepth 100000 in
set_option maxHeartbeats 1000000 in
theorem cloneP_nil (w : World) (n c : Nat) : Calls Tryz.prog 32 #[.slice none n c] w fun e w' => e = .returned (.slice none 0 0) ∧ w' = w := by
 have q22 : ∀ (w : World) (a : Option Addr) (n c n' c' : Nat), (binOp .eql 27 (.slice a n c) (.slice none n' c')).run Tryz.prog w = .ok (.bool a.isNone) w := fun w a n c n' c' => Lib.run_eql_slice_nil w _ _ a n c n' c' Tryz.underlying27
 go_enter Tryz.func32, Tryz.ntmps32
 go_wp2
 go_ret
 exact ⟨rfl, rfl⟩

theorem cloneP_any (w : World) (B : Nat) (v : Value) (l : List (Int × Int)) (h : PrsR w B v l) (hn : l.length ≤ 1073741824) :
  Calls Tryz.prog 32 #[v] w fun e w' => ∃ v', e = .returned v' ∧ w'.ownsRow w.heap.size 95 2 v' l.length (prsC l) ∧ Below w.heap.size w w' := by
 obtain ⟨A, c, rfl, hsi⟩ := h
 cases A with
 | none =>
  have h0 : l = [] := by
   rcases Nat.eq_zero_or_pos l.length with h | h
   ·exact List.length_eq_zero_iff.1 h
   ·obtain ⟨_, _, e, _⟩ := hsi.at_ h
    cases e
  subst h0
  refine (cloneP_nil w 0 c).mono ?_
  rintro e w' ⟨rfl, rfl⟩
  exact ⟨_, rfl, World.ownsRow_nil _ _ _ _, Below.refl _ _⟩
 | some ad =>
  have hx2 : ∀ x ∈ l.map prRow, x.length = 2 := by intro x hx; obtain ⟨y, _, rfl⟩ := List.mem_map.1 hx; rfl
  exact cloneP_raw w ad l.length c (prsC l) (by rw [prsC_flat, flat_lenK hx2, List.length_map]) hn (prs_cells hsi) (prs_one l)

set_option maxRecDepth 100000 in
set_option maxHeartbeats 2000000 in
theorem cloneR_raw (w : World) (ad : Addr) (n c : Nat) (news : List Value) (hl : news.length = n * 2) (hn : n ≤ 1073741824) (hc : ∀ (j : Nat) (u : Value), news[j]? = some u → w.cell? (ad.add j) = some u) (h1 : ∀ u ∈ news, u.oneCell' = true) :
  Calls Tryz.prog 72 #[.slice (some ad) n c] w fun e w' => ∃ v, e = .returned v ∧ w'.ownsRow w.heap.size 109 2 v n news ∧ Below w.heap.size w w' := by
 have q22 : ∀ (w : World) (a : Option Addr) (n c n' c' : Nat), (binOp .eql 84 (.slice a n c) (.slice none n' c')).run Tryz.prog w = .ok (.bool a.isNone) w := fun w a n c n' c' => Lib.run_eql_slice_nil w _ _ a n c n' c' Tryz.underlying84
 obtain ⟨i0, hi, hz0, hz1, hz2⟩ := info_parts infoRange
 have HC := Lib.hid hc
 have HL := Lib.hid hl
 clear hc hl
 go_enter Tryz.func72, Tryz.ntmps72
 go_wp2_with (at_builtin; refine wpList_append_own _ rfl _ _ 84 rfl w.heap.size 109 i0 (.agg #[.int .i32 0, .int .i32 0]) 2 8 Tryz.underlying84 hi hz0 hz1 hz2 rfl (by decide) _ _ _ rfl (World.ownsRow_made w #[] 0 (Nat.le_refl _) (Nat.zero_le _) (by simp)) ad n c news rfl ?qc1 ?qc2 ?qc3 ?qc4 ?qc5 ?qc6 ?_)
 case qc1 => exact HL.out
 case qc2 =>
  intro j u hj
  exact Lib.cell?_alloc_some _ (HC.out j u hj)
 case qc3 => exact h1
 case qc4 => rw [Nat.zero_add]; unfold maxLen; omega
 case qc5 => rw [Nat.zero_add]; omega
 case qc6 => simp
 intro v' w1 hown hgrow hnil
 have HE : Hid (w1.ownsRow w.heap.size 109 2 v' n news ∧ Below w.heap.size w w1) := Lib.hid ⟨by simpa using hown, ((Below.refl _ w).alloc (Nat.le_refl _) _).grown hgrow (by simp) (fun k hk => by simp [Value.ownBlock] at hk; omega)⟩
 clear hown hgrow hnil
 go_wp2
 go_ret
 exact ⟨_, rfl, HE.out⟩
set_option maxRecDepth 100000 in
set_option maxHeartbeats 1000000 in
theorem cloneR_nil (w : World) (n c : Nat) : Calls Tryz.prog 72 #[.slice none n c] w fun e w' => e = .returned (.slice none 0 0) ∧ w' = w := by
 have q22 : ∀ (w : World) (a : Option Addr) (n c n' c' : Nat), (binOp .eql 84 (.slice a n c) (.slice none n' c')).run Tryz.prog w = .ok (.bool a.isNone) w := fun w a n c n' c' => Lib.run_eql_slice_nil w _ _ a n c n' c' Tryz.underlying84
 go_enter Tryz.func72, Tryz.ntmps72
 go_wp2
 go_ret
 exact ⟨rfl, rfl⟩

theorem cloneR_any (w : World) (B : Nat) (v : Value) (l : List (Int × Int)) (h : PrsR w B v l) (hn : l.length ≤ 1073741824) :
  Calls Tryz.prog 72 #[v] w fun e w' => ∃ v', e = .returned v' ∧ w'.ownsRow w.heap.size 109 2 v' l.length (prsC l) ∧ Below w.heap.size w w' := by
 obtain ⟨A, c, rfl, hsi⟩ := h
 cases A with
 | none =>
  have h0 : l = [] := by
   rcases Nat.eq_zero_or_pos l.length with h | h
   ·exact List.length_eq_zero_iff.1 h
   ·obtain ⟨_, _, e, _⟩ := hsi.at_ h
    cases e
  subst h0
  refine (cloneR_nil w 0 c).mono ?_
  rintro e w' ⟨rfl, rfl⟩
  exact ⟨_, rfl, World.ownsRow_nil _ _ _ _, Below.refl _ _⟩
 | some ad =>
  have hx2 : ∀ x ∈ l.map prRow, x.length = 2 := by intro x hx; obtain ⟨y, _, rfl⟩ := List.mem_map.1 hx; rfl
  exact cloneR_raw w ad l.length c (prsC l) (by rw [prsC_flat, flat_lenK hx2, List.length_map]) hn (prs_cells hsi) (prs_one l)
end Go.Proofs.YtknjhlbhbnldpaaGreatDoor.C

namespace Go.Proofs.YtknjhlbhbnldpaaGreatDoor.C
open Go.RowKit Go.Shelf Go.Sort Go.Lib

theorem getBang {ys : List Int} {k : Nat} : ys.toArray[k]! = ys.getD k 0 := by
 rw [List.getElem!_toArray, List.getElem!_eq_getElem?_getD, List.getD_eq_getElem?_getD]
 rfl
theorem compact_mem {ys : List Int} {z : Int} : z ∈ compactUpTo ys.toArray ys.length ↔ z ∈ ys := by
 have step : ∀ j, j < ys.length → ys.getD j 0 ∈ compactUpTo ys.toArray ys.length := by
  intro j
  induction j with
  | zero =>
   intro h
   unfold compactUpTo
   exact List.mem_map.2 ⟨0, List.mem_filter.2 ⟨List.mem_range.2 h, by simp [keeps]⟩, getBang⟩
  | succ j ih =>
   intro h
   cases hk : keeps ys.toArray (j + 1) with
   | true =>
    unfold compactUpTo
    exact List.mem_map.2 ⟨j + 1, List.mem_filter.2 ⟨List.mem_range.2 h, hk⟩, getBang⟩
   | false =>
    have e : ys.toArray[j + 1]! = ys.toArray[j]! := by
     unfold keeps at hk
     simpa using hk
    rw [getBang, getBang] at e
    rw [e]
    exact ih (by omega)
 constructor
 ·intro h
  unfold compactUpTo at h
  obtain ⟨j, hj, rfl⟩ := List.mem_map.1 h
  have hj := List.mem_range.1 (List.mem_filter.1 hj).1
  rw [getBang, List.getD_eq_getElem?_getD, List.getElem?_eq_getElem hj]
  exact List.getElem_mem hj
 ·intro h
  obtain ⟨j, hj, rfl⟩ := List.mem_iff_getElem.1 h
  have := step j hj
  rwa [List.getD_eq_getElem?_getD, List.getElem?_eq_getElem hj] at this
theorem compact_up {ys : List Int} (h : ys.Pairwise (· ≤ ·)) : (compactUpTo ys.toArray ys.length).Pairwise (· < ·) := by
 have hle : ∀ i j, i ≤ j → j < ys.length → ys.getD i 0 ≤ ys.getD j 0 := by
  intro i j hij hj
  rcases Nat.lt_or_eq_of_le hij with h1 | rfl
  ·have := List.pairwise_iff_getElem.1 h i j (by omega) hj h1
   rwa [List.getD_eq_getElem?_getD, List.getElem?_eq_getElem (by omega), List.getD_eq_getElem?_getD, List.getElem?_eq_getElem hj]
  ·exact Int.le_refl _
 unfold compactUpTo
 rw [List.pairwise_map]
 have hr : ((List.range ys.length).filter (keeps ys.toArray)).Pairwise (· < ·) := List.Pairwise.filter _ List.pairwise_lt_range
 refine hr.imp_of_mem fun {i j} hi hj hij => ?_
 have hj1 := List.mem_filter.1 hj
 have hjl := List.mem_range.1 hj1.1
 have hk := hj1.2
 unfold keeps at hk
 have hne : ys.toArray[j]! ≠ ys.toArray[j - 1]! := by
  have : j = 0 ∨ ys.toArray[j]! ≠ ys.toArray[j - 1]! := by simpa using hk
  exact this.resolve_left (by omega)
 rw [getBang, getBang] at hne
 show ys.toArray[i]! < ys.toArray[j]!
 rw [getBang, getBang]
 have h1 := hle i (j - 1) (by omega) (by omega)
 have h2 := hle (j - 1) j (by omega) hjl
 omega
theorem compact_rise {ys zs : List Int} (hp : ys.Perm zs) (h : ys.Pairwise (· ≤ ·)) : compactUpTo ys.toArray ys.length = riseL zs :=
 up_one (compact_up h) (rise_up zs) fun z => by rw [compact_mem, rise_mem, hp.mem_iff]
theorem row_holds {w : World} {g : Nat} {t : TypeId} {ys : List Int} {rest : List Value} (h : Row w g t (celC ys ++ rest)) : Holds (Value.int .i32) w g 0 ys.toArray := by
 intro j hj
 rw [Nat.zero_add]
 have hj' : j < ys.length := by simpa using hj
 exact ⟨by rw [getBang]; exact h.cell (getD_at hj' rest), h.frozen j⟩
theorem row_put {w : World} {g q : Nat} {t : TypeId} {ys ds : List Int} {rest : List Value} (h : Row w g t (celC ys ++ rest)) (hl : ds.length = ys.length) : Row (putRow (Value.int .i32) (Sort.ahead w q) g 0 ds.toArray) g t (celC ds ++ rest) := by
 have hg := (Array.getElem?_eq_some_iff.1 h)
 unfold Row putRow mapBlock
 show (w.heap.modify g _)[g]? = _
 rw [Array.getElem?_modify, if_pos rfl, show w.heap[g]? = _ from h]
 show some (Obj.cells (putCells (Value.int .i32) 0 ds.toArray (celC ys ++ rest).toArray) t (0, 0)) = _
 congr 2
 apply Array.ext_getElem?
 intro k
 unfold putCells
 rw [Array.getElem?_mapIdx]
 by_cases hk : k < ds.length
 ·have e1 : (celC ys ++ rest).toArray[k]? = some (.int .i32 (ys.getD k 0)) := by simpa using getD_at (by omega) rest
  have e2 : (celC ds ++ rest).toArray[k]? = some (.int .i32 (ds.getD k 0)) := by simpa using getD_at hk rest
  rw [e1, e2, Option.map_some, if_pos ⟨Nat.zero_le _, by simpa using hk⟩, Nat.sub_zero, getBang]
 ·have e1 : (celC ys ++ rest).toArray[k]? = rest[k - ds.length]? := by
   rw [List.getElem?_toArray, List.getElem?_append_right (by simp [celC]; omega)]
   simp [celC, hl]
  have e2 : (celC ds ++ rest).toArray[k]? = rest[k - ds.length]? := by
   rw [List.getElem?_toArray, List.getElem?_append_right (by simp [celC]; omega)]
   simp [celC]
  rw [e1, e2]
  cases rest[k - ds.length]? with
  | none => rfl
  | some x => rw [Option.map_some, if_neg (by rintro ⟨_, h2⟩; simp at h2; omega)]
theorem fr_put (w : World) (g q : Nat) (d : Array Int) : Fr w (putRow (Value.int .i32) (Sort.ahead w q) g 0 d) (· = g) :=
 ⟨rfl, rfl, rfl, by rw [size_putRow]; exact Nat.le_refl _, fun b _ hne => by
  show (w.heap.modify g _)[b]? = _
  rw [Array.getElem?_modify, if_neg (fun e => hne e.symm)]⟩
theorem own_open {w : World} {lo n : Nat} {v : Value} {zs : List Int} {e : TypeId} (h : w.ownsRow lo e 1 v n (celC zs)) (hn : 0 < n) : ∃ (g cap : Nat) (rest : List Value), v = .slice (some ⟨g, 0, none⟩) n cap ∧ lo ≤ g ∧ Row w g e (celC zs ++ rest) ∧ n ≤ cap ∧ cap ≤ maxLen ∧ n + rest.length = cap := by
 have hl := h.1
 rcases h.2 with ⟨_, h0⟩ | ⟨g, cap, cur, h1, h2, h3, h4, h5, h6, h7⟩
 ·omega
 ·refine ⟨g, cap, cur.toList.drop (n * 1), h1, h2, ?_, h4, h5, ?_⟩
  ·unfold Row
   rw [h3, ← h7, List.take_append_drop]
  ·rw [List.length_drop, Array.length_toList, h6]
   omega
theorem own_shut {w : World} {lo g n cap : Nat} {zs : List Int} {rest : List Value} {e : TypeId} (h : Row w g e (celC zs ++ rest)) (hg : lo ≤ g) (hl : n ≤ zs.length) (hc : zs.length + rest.length = cap) (hm : cap ≤ maxLen) : w.ownsRow lo e 1 (.slice (some ⟨g, 0, none⟩) n cap) n (celC (zs.take n)) := by
 refine ⟨by simp [celC]; omega, .inr ⟨g, cap, _, rfl, hg, h, by omega, hm, by simp [celC]; omega, ?_⟩⟩
 rw [List.toList_toArray, Nat.mul_one, List.take_append_of_le_length (by simp [celC]; exact hl)]
 unfold celC
 rw [List.map_take]
set_option maxRecDepth 100000 in
set_option maxHeartbeats 2000000 in
theorem pdq5_any (w : World) (g c : Nat) (t : TypeId) (zs : List Int) (rest : List Value) (k : Int) (hr : Row w g t (celC zs ++ rest)) (hlen : zs.length = 5) :
  Calls Tryz.prog 115 #[.slice (some ⟨g, 0, none⟩) 5 c, .int .i64 0, .int .i64 5, .int .i64 k] w fun e w' => e = .returned (.tuple #[]) ∧ ∃ ys, Row w' g t (celC ys ++ rest) ∧ ys.Perm zs ∧ ys.Pairwise (· ≤ ·) ∧ Fr w w' (· = g) := by
 have hi := insert_any w g c 5 t zs rest hr hlen (by omega) (by omega)
 clear hr hlen
 go_enter Tryz.func115, Tryz.ntmps115
 go_wp2
 go_loopw [1, 2] (fun a b wr => a = .int .i64 0 ∧ b = .int .i64 5 ∧ wr = w) (fun _ _ _ => 0)
 case atStart => exact ⟨rfl, rfl, rfl⟩
 case round =>
  obtain ⟨rfl, rfl, rfl⟩ := hrel
  go_wp2_with (go_at_call 141; refine hi.mono ?_; rintro e w' ⟨rfl, hw⟩)
  first | refine bodyPost_ret (results_none rfl _ _ _) rfl ?_ | (simp only [Exit.inBlock, Exit.then]; refine bodyPost_ret (results_none rfl _ _ _) rfl ?_) | (trace_state; fail)
  exact ⟨rfl, hw⟩
set_option maxRecDepth 100000 in
set_option maxHeartbeats 2000000 in
theorem sort5_any (w : World) (g c : Nat) (t : TypeId) (zs : List Int) (rest : List Value) (hr : Row w g t (celC zs ++ rest)) (hlen : zs.length = 5) :
  Calls Tryz.prog 78 #[.slice (some ⟨g, 0, none⟩) 5 c] w fun e w' => e = .returned (.tuple #[]) ∧ ∃ ys, Row w' g t (celC ys ++ rest) ∧ ys.Perm zs ∧ ys.Pairwise (· ≤ ·) ∧ Fr w w' (· = g) := by
 have hi := fun k => pdq5_any w g c t zs rest k hr hlen
 clear hr hlen
 go_enter Tryz.func78, Tryz.ntmps78
 go_wp2_with (first | (go_at_call 115; refine (hi _).mono ?_; rintro e w' ⟨rfl, hw⟩) | (go_at_call 116; go_in) | (go_at_call 151; go_in))
 go_end0
 exact ⟨rfl, hw⟩
set_option maxRecDepth 100000 in
set_option maxHeartbeats 2000000 in
theorem rising_any (w : World) (Bx : Nat) (Ax : Option Addr) (c : Nat) (zs : List Int) (hx : RI .i32 w Bx Ax 5 zs) :
  Calls Tryz.prog 37 #[.slice Ax 5 c] w fun e w' => ∃ v, e = .returned v ∧ w'.ownsRow w.heap.size 23 1 v (riseL zs).length (celC (riseL zs)) ∧ Below w.heap.size w w' := by
 have hlen := hx.len
 have hcl := cloneC_any w Bx Ax 5 c zs hx (by omega)
 clear hx
 go_enter Tryz.func37, Tryz.ntmps37
 go_wp2_with fail
 refine hcl.mono ?_
 rintro e w1 ⟨v, rfl, hown, hb1⟩
 obtain ⟨g, cap, rest, rfl, hg, hr1, hc1, hc2, hc3⟩ := own_open hown (by omega)
 have hs1 := hr1.lt
 have hso := sort5_any w1 g cap _ zs rest hr1 hlen
 have HB1 := Lib.hid hb1
 clear hcl hown hb1 hr1
 go_wp2_with fail
 refine hso.mono ?_
 rintro e w2 ⟨rfl, ys, hr2, hp, hup, hf2⟩
 have hyl : ys.length = 5 := by rw [hp.length_eq, hlen]
 have hco := AnyE.slices_Compact Tryz.laysCm (Value.int .i32) (fun _ => rfl) (EqlAt.intD _ _ .i32) (NeqAt.intD _ _ .i32) 0 Tryz.zeroValue23 g 0 cap ys.toArray w2 (row_holds hr2) (by simp; omega) (by simp; omega)
 have e5 : ys.toArray.size = 5 := by simpa using hyl
 have hrise : compactUpTo ys.toArray 5 = riseL zs := by rw [← hyl]; exact compact_rise hp hup
 rw [e5, hrise] at hco
 have hrl : (riseL zs).length ≤ 5 := by rw [← hlen]; exact rise_len zs
 have hdl : (riseL zs ++ List.replicate (5 - (riseL zs).length) (0 : Int)).length = ys.length := by rw [List.length_append, List.length_replicate, hyl]; omega
 have HEND : Hid (∀ q, (putRow (Value.int .i32) (Sort.ahead w2 q) g 0 (riseL zs ++ List.replicate (5 - (riseL zs).length) (0 : Int)).toArray).ownsRow w.heap.size 23 1 (.slice (some ⟨g, 0, none⟩) (riseL zs).length cap) (riseL zs).length (celC (riseL zs)) ∧ Below w.heap.size w (putRow (Value.int .i32) (Sort.ahead w2 q) g 0 (riseL zs ++ List.replicate (5 - (riseL zs).length) (0 : Int)).toArray)) := Lib.hid fun q => by
  have h1 := own_shut (lo := w.heap.size) (n := (riseL zs).length) (cap := cap) (row_put (q := q) hr2 hdl) hg (by rw [List.length_append]; omega) (by rw [hdl, hyl]; omega) hc2
  rw [List.take_left' rfl] at h1
  refine ⟨h1, HB1.out.trans ?_⟩
  exact ((hf2.trans (fr_put w2 g q _)).below (by rintro j _ rfl; exact hg) HB1.out.size)
 clear hso hr2 hp hup hf2 hyl hrise hdl e5
 go_wp2_with fail
 refine hco.mono ?_
 rintro e w3 ⟨rfl, q, rfl⟩
 clear hco
 go_wp2
 go_ret
 exact ⟨_, rfl, HEND.out q⟩
end Go.Proofs.YtknjhlbhbnldpaaGreatDoor.C
