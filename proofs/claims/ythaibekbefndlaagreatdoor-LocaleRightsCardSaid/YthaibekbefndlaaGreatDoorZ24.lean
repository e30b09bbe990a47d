/-
  Joined: LjA, LjB. Each with what its own head says.
-/
import Derived.Deep.SlicePairs
import Derived.Deep.Strs
import Derived.SizedLaws
import Derived.Test.YthaibekbefndlaaGreatDoorZ22

namespace Go.Proofs.YthaibekbefndlaaGreatDoor.C
open Go.ChangeShapes Go.WideShapes Go.ChangeAt Go.RowKit Go.Deep

section
variable {H : Type} {enc : TypeId × Value → H} {W : World}
theorem weights_mem_all {P : Program} {e : TypeId} : ∀ {ds : List (DataW H)} {i : Nat} {d : DataW H}, ds[i]? = some d → ∀ n ∈ d.weights P e, n ∈ DataW.weightsAll P e ds
 | d0 :: ds, 0, d, h, n, hn => by
  simp only [List.getElem?_cons_zero, Option.some.injEq] at h
  subst h
  simp only [DataW.weightsAll, List.mem_append]
  exact Or.inl hn
 | d0 :: ds, i + 1, d, h, n, hn => by
  simp only [List.getElem?_cons_succ] at h
  simp only [DataW.weightsAll, List.mem_append]
  exact Or.inr (weights_mem_all h n hn)
 | [], _, _, h, _, _ => by simp at h
theorem str_back (s : ByteArray) : str s.data.toList = s := by
 show (⟨s.data.toList.toArray⟩ : ByteArray) = s
 rw [Array.toArray_toList]
theorem lt_of_some {α : Type} {len : Nat} {f : Nat → α} {j : Nat} {y : α} (h : ((List.range len).map f)[j]? = some y) : j < len ∧ y = f j := by
 have hj : j < len := by
  rcases Nat.lt_or_ge j len with h1 | h1
  ·exact h1
  ·rw [List.getElem?_eq_none (by simp; omega)] at h; cases h
 rw [List.getElem?_map, List.getElem?_range hj] at h
 simp at h
 exact ⟨hj, h.symm⟩
theorem prs_open {t e : TypeId} {f0 f1 : Field} {fuel : Nat} {v : Value} {x : DataW H × List MemPlace} (ht : Tryz.prog.underlying t = some (.slice e)) (he : Tryz.prog.underlying e = some (.struct #[f0, f1])) (ce : Tryz.prog.cellsOf e = 2) (o0 : f0.offset = 0) (o1 : f1.offset = 1) (k0 : f0.type = 35) (k1 : f1.type = 35) (hB : Tryz.prog.bytesOf e = 8)
  (h : DataW.trod enc Tryz.prog W 0 (fun _ => true) true fuel t [v] = some x) (hw : ∀ n ∈ x.1.weights Tryz.prog t, n ≤ reachBytes) : ∃ l, PrsR W W.heap.size v l ∧ l.length ≤ 17592186044416 := by
 rcases open_slice_pairs ht he ce o0 o1 (by rw [k0]; kernel_rfl) (by rw [k1]; kernel_rfl) h with ⟨hcs, _⟩ | ⟨a, len, cap, m, n, V0, V1, D0, D1, P0, P1, hcs, _, hl, hm, hmm, hx, hi⟩
 ·simp at hcs
  subst hcs
  exact ⟨[], ⟨none, 0, rfl, SI.nil _ _ _ _⟩, by simp⟩
 ·simp at hcs
  subst hcs
  have hmc : m = cap := by simpa using hmm
  subst hmc
  subst hx
  have each : ∀ i, i < len → ∃ q : Int × Int, V0 i = .int .i32 q.1 ∧ V1 i = .int .i32 q.2 := by
   intro i hil
   obtain ⟨_, _, t0, t1⟩ := hi i (by omega)
   rw [k0] at t0
   rw [k1] at t1
   obtain ⟨p, hp, _⟩ := DataW.trod_int Tryz.underlying35 t0
   obtain ⟨q, hq, _⟩ := DataW.trod_int Tryz.underlying35 t1
   exact ⟨(p, q), by simpa using hp, by simpa using hq⟩
  obtain ⟨q, hq⟩ := choose_lt each
  have hwt : (len + (m - len)) * 8 ≤ reachBytes := by
   refine hw _ ?_
   simp only [DataW.weights, ht, List.mem_cons, List.length_map, List.length_range, hB]
   exact .inl trivial
  refine ⟨(List.range len).map q, ⟨some a, m, by simp, by simp, ?_, fun h0 => ⟨a, rfl, ?_, fun j y hy i u hu => ?_⟩⟩, by simp only [List.length_map, List.length_range]; unfold reachBytes at hwt; omega⟩
  ·intro y hy
   obtain ⟨p, _, rfl⟩ := List.mem_map.1 hy
   rfl
  ·have := World.block_lt_of_cell? W _ (hi 0 (by simp at h0; omega)).1
   rwa [block_of_add] at this
  ·rw [List.map_map] at hy
   obtain ⟨hj, rfl⟩ := lt_of_some hy
   obtain ⟨e0, e1, _, _⟩ := hi j (by omega)
   obtain ⟨g0, g1⟩ := hq j hj
   match i, hu with
   | 0, hu =>
    obtain rfl := Option.some.inj hu
    rw [← g0]
    exact e0
   | 1, hu =>
    obtain rfl := Option.some.inj hu
    rw [← g1]
    exact e1
theorem cls_open {fuel : Nat} {v : Value} {x : DataW H × List MemPlace} (h : DataW.trod enc Tryz.prog W 0 (fun _ => true) true fuel 22 [v] = some x) (hw : ∀ n ∈ x.1.weights Tryz.prog 22, n ≤ reachBytes) :
  ∃ cs, ClsR W W.heap.size v cs ∧ cs.length ≤ 140737488351232 ∧ ∀ c ∈ cs, c.name.length ≤ 140737488351232 ∧ c.rs.length ≤ 17592186044416 := by
 rcases open_slice_pairs Tryz.underlying22 Tryz.underlying47 (by kernel_rfl) rfl rfl (by kernel_rfl) (by kernel_rfl) h with ⟨hcs, _⟩ | ⟨a, len, cap, m, n, V0, V1, D0, D1, P0, P1, hcs, _, hl, hm, hmm, hx, hi⟩
 ·simp at hcs
  subst hcs
  exact ⟨[], ⟨none, 0, [], rfl, SI.nil _ _ _ _, by simp⟩, Nat.zero_le _, by simp⟩
 ·simp at hcs
  subst hcs
  have hmc : m = cap := by simpa using hmm
  subst hmc
  subst hx
  have each : ∀ i, i < len → ∃ q : Cls, V0 i = .string (str q.name) ∧ PrsR W W.heap.size (V1 i) q.rs ∧ q.name.length ≤ 140737488351232 ∧ q.rs.length ≤ 17592186044416 := by
   intro i hil
   obtain ⟨_, _, t0, t1⟩ := hi i (by omega)
   have hwi : ∀ n ∈ DataW.weightsEach Tryz.prog [9, 45] [D0 i, D1 i], n ≤ reachBytes := by
    intro n hn
    refine hw n ?_
    simp only [DataW.weights, Tryz.underlying22, List.mem_cons, List.mem_append]
    refine .inr (.inl (weights_mem_all (i := i) (d := .agg [D0 i, D1 i]) (by rw [List.getElem?_map, List.getElem?_range hil]; rfl) _ ?_))
    simp only [DataW.weights, Tryz.underlying47]
    exact hn
   obtain ⟨s, hs, hs2, _⟩ := DataW.trod_string Tryz.underlying9 t0
   obtain ⟨l, hl1, hl2⟩ := prs_open Tryz.underlying45 Tryz.underlying51 (by kernel_rfl) rfl rfl rfl rfl (by kernel_rfl) t1 (fun n hn => hwi n (DataW.weights_mem_each (j := 1) rfl rfl _ hn))
   simp only [Prod.mk.injEq] at hs2
   have hb := hwi s.data.toList.length (DataW.weights_mem_each (j := 0) rfl rfl _ (by rw [hs2.1]; simp [DataW.weights]))
   unfold reachBytes at hb
   exact ⟨⟨s.data.toList, l⟩, by rw [str_back]; simpa using hs, hl1, hb, hl2⟩
  have hwt : (len + (m - len)) * 40 ≤ reachBytes := by
   refine hw _ ?_
   simp only [DataW.weights, Tryz.underlying22, List.mem_cons, List.length_map, List.length_range, show Tryz.prog.bytesOf 47 = 40 from by kernel_rfl]
   exact .inl trivial
  unfold reachBytes at hwt
  haveI : Inhabited Cls := ⟨⟨[], []⟩⟩
  obtain ⟨q, hq⟩ := choose_lt each
  refine ⟨(List.range len).map q, ⟨some a, m, (List.range len).map fun i => [V0 i, V1 i], by simp, ⟨by simp, ?_, fun h0 => ⟨a, rfl, ?_, fun j y hy i u hu => ?_⟩⟩, fun i k hk => ?_⟩, by simp; omega, ?_⟩
  ·intro y hy
   obtain ⟨p, _, rfl⟩ := List.mem_map.1 hy
   rfl
  ·have := World.block_lt_of_cell? W _ (hi 0 (by simp at h0; omega)).1
   rwa [block_of_add] at this
  ·obtain ⟨hj, rfl⟩ := lt_of_some hy
   obtain ⟨e0, e1, _, _⟩ := hi j (by omega)
   match i, hu with
   | 0, hu =>
    obtain rfl := Option.some.inj hu
    exact e0
   | 1, hu =>
    obtain rfl := Option.some.inj hu
    exact e1
  ·obtain ⟨hj, rfl⟩ := lt_of_some hk
   obtain ⟨g0, g1, g2, g3⟩ := hq i hj
   refine ⟨V1 i, ?_, g1, by unfold maxLen; omega, by unfold maxLen; omega⟩
   rw [List.getElem?_map, List.getElem?_range hj, ← g0]
   rfl
  ·intro c hc
   obtain ⟨i, hi', rfl⟩ := List.mem_map.1 hc
   obtain ⟨_, _, g2, g3⟩ := hq i (List.mem_range.1 hi')
   exact ⟨g2, g3⟩
set_option maxRecDepth 100000 in
theorem ord_open {fuel : Nat} {v : Value} {x : DataW H × List MemPlace} (h : DataW.trod enc Tryz.prog W 0 (fun _ => true) true fuel 24 [v] = some x) (hw : ∀ n ∈ x.1.weights Tryz.prog 24, n ≤ reachBytes) :
  ∃ o, OrdR W W.heap.size v o ∧ o.length ≤ 140737488351232 ∧ ∀ e ∈ o, e.name.length ≤ 140737488351232 := by
 rcases open_slice Tryz.underlying24 h with ⟨hcs, _⟩ | ⟨a, len, cap, m, n, D, Pl, hcs, _, hl, hm, hmm, hx0, hx⟩
 ·simp at hcs
  subst hcs
  exact ⟨[], ⟨none, 0, [], rfl, SI.nil _ _ _ _, by simp⟩, Nat.zero_le _, by simp⟩
 ·simp at hcs
  subst hcs
  have hmc : m = cap := by simpa using hmm
  subst hmc
  subst hx0
  have ce : Tryz.prog.cellsOf 34 = 3 := by kernel_rfl
  have c1 : Tryz.prog.cellsOf 9 = 1 := by kernel_rfl
  have c2 : Tryz.prog.cellsOf 32 = 1 := by kernel_rfl
  have c3 : Tryz.prog.cellsOf 3 = 1 := by kernel_rfl
  have each : ∀ i, i < len → ∃ q : Elm × Option Addr × Nat, W.cell? (a.add (i * 3)) = some (.string (str q.1.name)) ∧ W.cell? (a.add (i * 3 + 1)) = some (.slice q.2.1 q.1.cells.length q.2.2) ∧ W.cell? (a.add (i * 3 + 2)) = some (.int .i64 q.1.same) ∧ RI .i32 W W.heap.size q.2.1 q.1.cells.length q.1.cells ∧ q.1.name.length ≤ 140737488351232 ∧ q.1.cells.length ≤ maxLen := by
   intro i hil
   obtain ⟨cs', h1, h2⟩ := hx i (by omega)
   rw [ce] at h1
   obtain ⟨_, hlen, hcell⟩ := World.cells?_some h1
   obtain ⟨y0, y1, y2, k, hxy, _, u0, u1, u2⟩ := trod_struct3 Tryz.underlying34 h2
   match cs', hlen with
   | [v0, v1, v2], _ =>
    simp only [c1, c2, c3, List.drop, List.take] at u0 u1 u2
    simp only [Prod.mk.injEq] at hxy
    have hwi : ∀ n ∈ DataW.weights Tryz.prog 9 y0.1, n ≤ reachBytes := by
     intro n hn
     refine hw n ?_
     simp only [DataW.weights, Tryz.underlying24, List.mem_cons, List.mem_append]
     refine .inr (.inl (weights_mem_all (i := i) (d := D i) (by rw [List.getElem?_map, List.getElem?_range hil]; rfl) _ ?_))
     rw [hxy.1]
     simp only [DataW.weights, Tryz.underlying34]
     exact DataW.weights_mem_each (j := 0) rfl rfl _ hn
    obtain ⟨s, e0, d0, _⟩ := DataW.trod_string Tryz.underlying9 u0
    obtain ⟨sm, e2, _, _⟩ := DataW.trod_int Tryz.underlying3 u2
    have hb := hwi s.data.toList.length (by rw [d0]; simp [DataW.weights])
    unfold reachBytes at hb
    have g0 := hcell 0 (by omega)
    have g1 := hcell 1 (by omega)
    have g2 := hcell 2 (by omega)
    rw [add_add] at g0 g1 g2
    simp only [List.cons.injEq, and_true] at e0 e2
    subst e0
    subst e2
    rcases open_ints Tryz.underlying32 Tryz.underlying35 (by kernel_rfl) u1 with ⟨hcs, _⟩ | ⟨y, l', c', zs, hcs, _, hl', hm', hz, hxx, hcell', hwz⟩
    ·simp at hcs
     subst hcs
     exact ⟨(⟨s.data.toList, [], sm⟩, none, 0), by rw [str_back]; simpa using g0, by simpa using g1, by simpa using g2, RI.none_, hb, Nat.zero_le _⟩
    ·simp at hcs
     subst hcs
     have hz' : zs.length = c' := by simpa using hz
     have hrow : L.IsRow .i32 W (some y) l' c' zs := .inr ⟨_, rfl, hl', hm', hz', hcell', hwz⟩
     have htl : (zs.take l').length = l' := by rw [List.length_take]; omega
     exact ⟨(⟨s.data.toList, zs.take l', sm⟩, some y, c'), by rw [str_back]; simpa using g0, by rw [htl]; simpa using g1, by simpa using g2, by rw [htl]; exact RI.of_row hrow, hb, by rw [htl]; omega⟩
  have hwt : (len + (m - len)) * 48 ≤ reachBytes := by
   refine hw _ ?_
   simp only [DataW.weights, Tryz.underlying24, List.mem_cons, List.length_map, List.length_range, show Tryz.prog.bytesOf 34 = 48 from by kernel_rfl]
   exact .inl trivial
  unfold reachBytes at hwt
  haveI : Inhabited (Elm × Option Addr × Nat) := ⟨(⟨[], [], 0⟩, none, 0)⟩
  obtain ⟨q, hq⟩ := choose_lt each
  refine ⟨(List.range len).map fun i => (q i).1, ⟨some a, m, (List.range len).map fun i => [.string (str (q i).1.name), .slice (q i).2.1 (q i).1.cells.length (q i).2.2, .int .i64 (q i).1.same], by simp, ⟨by simp, ?_, fun h0 => ⟨a, rfl, ?_, fun j y hy i u hu => ?_⟩⟩, fun i k hk => ?_⟩, by simp; omega, ?_⟩
  ·intro y hy
   obtain ⟨p, _, rfl⟩ := List.mem_map.1 hy
   rfl
  ·have := World.block_lt_of_cell? W _ (hq 0 (by simp at h0; omega)).1
   rwa [block_of_add] at this
  ·obtain ⟨hj, rfl⟩ := lt_of_some hy
   obtain ⟨g0, g1, g2, _⟩ := hq j hj
   match i, hu with
   | 0, hu =>
    obtain rfl := Option.some.inj hu
    exact g0
   | 1, hu =>
    obtain rfl := Option.some.inj hu
    exact g1
   | 2, hu =>
    obtain rfl := Option.some.inj hu
    exact g2
  ·obtain ⟨hj, rfl⟩ := lt_of_some hk
   obtain ⟨_, _, _, g3, g4, g5⟩ := hq i hj
   refine ⟨(q i).2.1, (q i).2.2, ?_, g3, by unfold maxLen; omega, g5⟩
   rw [List.getElem?_map, List.getElem?_range hj]
   rfl
  ·intro e he
   obtain ⟨i, hi', rfl⟩ := List.mem_map.1 he
   exact (hq i (List.mem_range.1 hi')).2.2.2.2.1
structure LocIn (l : Loc) : Prop where
 fc : l.cls.length ≤ 140737488351232
 fu : l.up.length ≤ 140737488351232
 fl : l.lo.length ≤ 140737488351232
 fo : l.ord.length ≤ 140737488351232
 n1 : ∀ c ∈ l.cls, c.name.length ≤ 140737488351232 ∧ c.rs.length ≤ 17592186044416
 n2 : ∀ e ∈ l.ord, e.name.length ≤ 140737488351232
theorem locale_open {v0 v1 v2 v3 : Value} {y0 y1 y2 y3 : DataW H × List MemPlace} {n : Nat} (h0 : DataW.trod enc Tryz.prog W 0 (fun _ => true) true n 22 [v0] = some y0) (h1 : DataW.trod enc Tryz.prog W 0 (fun _ => true) true n 23 [v1] = some y1) (h2 : DataW.trod enc Tryz.prog W 0 (fun _ => true) true n 23 [v2] = some y2) (h3 : DataW.trod enc Tryz.prog W 0 (fun _ => true) true n 24 [v3] = some y3)
  (hw : ∀ n ∈ (DataW.agg [y0.1, y1.1, y2.1, y3.1]).weights Tryz.prog 26, n ≤ reachBytes) :
  ∃ l, LocR W W.heap.size v0 v1 v2 v3 l ∧ LocIn l := by
 have hw' : ∀ n ∈ DataW.weightsEach Tryz.prog [22, 23, 23, 24] [y0.1, y1.1, y2.1, y3.1], n ≤ reachBytes := by
  intro n hn
  refine hw n ?_
  simp only [DataW.weights, Tryz.underlying26]
  exact hn
 obtain ⟨cs, a1, a2, a3⟩ := cls_open h0 (fun n hn => hw' n (DataW.weights_mem_each (j := 0) rfl rfl _ hn))
 obtain ⟨up, b1, b2⟩ := prs_open Tryz.underlying23 Tryz.underlying49 (by kernel_rfl) rfl rfl rfl rfl (by kernel_rfl) h1 (fun n hn => hw' n (DataW.weights_mem_each (j := 1) rfl rfl _ hn))
 obtain ⟨lo, c1, c2⟩ := prs_open Tryz.underlying23 Tryz.underlying49 (by kernel_rfl) rfl rfl rfl rfl (by kernel_rfl) h2 (fun n hn => hw' n (DataW.weights_mem_each (j := 2) rfl rfl _ hn))
 obtain ⟨o, d1, d0, d2⟩ := ord_open h3 (fun n hn => hw' n (DataW.weights_mem_each (j := 3) rfl rfl _ hn))
 exact ⟨⟨cs, up, lo, o⟩, ⟨a1, b1, c1, d1, by unfold maxLen; show cs.length ≤ _; omega, by unfold maxLen; show up.length ≤ _; omega, by unfold maxLen; show lo.length ≤ _; omega⟩, ⟨a2, by show up.length ≤ _; omega, by show lo.length ≤ _; omega, d0, a3, d2⟩⟩
end
end Go.Proofs.YthaibekbefndlaaGreatDoor.C

namespace Go.Proofs.YthaibekbefndlaaGreatDoor.C
open Go.RowKit Go.Deep

def SameKind (a b : Value) : Prop := (∃ s t : ByteArray, a = .string s ∧ b = .string t ∧ t.size ≤ 140737488351232) ∨ (∃ (k : IntKind) (m n : Int), a = .int k m ∧ b = .int k n)
section
variable {w : World} {p : Addr} {old u : Value}
theorem kind_str (ho : w.cell? p = some old) (hk : SameKind old u) {q : Addr} {s : List UInt8} (hq : w.cell? q = some (.string (str s))) (hs : s.length ≤ 140737488351232) : ∃ s', (w.setCell p u).cell? q = some (.string (str s')) ∧ s'.length ≤ 140737488351232 := by
 by_cases e : p = q
 ·subst e
  rw [ho] at hq
  injection hq with hq
  rcases hk with ⟨a, b, h1, h2, h3⟩ | ⟨k, m, n, h1, h2⟩
  ·exact ⟨b.data.toList, by rw [World.cell?_setCell_same _ _ _ ho, h2, str_back], h3⟩
  ·rw [hq] at h1; cases h1
 ·exact ⟨s, by rw [World.cell?_setCell_other _ _ _ _ e]; exact hq, hs⟩
theorem kind_int (ho : w.cell? p = some old) (hk : SameKind old u) {q : Addr} {k : IntKind} {a : Int} (hq : w.cell? q = some (.int k a)) : ∃ a', (w.setCell p u).cell? q = some (.int k a') := by
 by_cases e : p = q
 ·subst e
  rw [ho] at hq
  injection hq with hq
  rcases hk with ⟨a, b, h1, h2, h3⟩ | ⟨k', m, n, h1, h2⟩
  ·rw [hq] at h1; cases h1
  ·rw [hq] at h1
   injection h1 with h1 _
   exact ⟨n, by rw [World.cell?_setCell_same _ _ _ ho, h2, h1]⟩
 ·exact ⟨a, by rw [World.cell?_setCell_other _ _ _ _ e]; exact hq⟩
theorem kind_slice (ho : w.cell? p = some old) (hk : SameKind old u) {q : Addr} {A : Option Addr} {n c : Nat} (hq : w.cell? q = some (.slice A n c)) : (w.setCell p u).cell? q = some (.slice A n c) := by
 by_cases e : p = q
 ·subst e
  rw [ho] at hq
  injection hq with hq
  rcases hk with ⟨a, b, h1, h2, h3⟩ | ⟨k', m, n, h1, h2⟩
  ·rw [hq] at h1; cases h1
  ·rw [hq] at h1; cases h1
 ·rw [World.cell?_setCell_other _ _ _ _ e]; exact hq
theorem RI.kind (ho : w.cell? p = some old) (hk : SameKind old u) {B n : Nat} {A : Option Addr} {zs : List Int} (h : RI .i32 w B A n zs) : ∃ zs', RI .i32 (w.setCell p u) B A n zs' := by
 have each : ∀ i, i < n → ∃ a : Int, ∀ ad, A = some ad → (w.setCell p u).cell? (ad.add i) = some (.int .i32 a) := by
  intro i hi
  obtain ⟨ad, rfl, hb, hc⟩ := h.2 (by omega)
  obtain ⟨a, ha⟩ := kind_int ho hk (hc i _ (List.getElem?_eq_getElem (by rw [h.1]; exact hi)))
  exact ⟨a, fun ad' e => by injection e with e; subst e; exact ha⟩
 obtain ⟨q, hq⟩ := choose_lt each
 refine ⟨(List.range n).map q, by simp, fun h0 => ?_⟩
 obtain ⟨ad, rfl, hb, _⟩ := h.2 h0
 refine ⟨ad, rfl, hb, fun j x hx => ?_⟩
 obtain ⟨hj, rfl⟩ := lt_of_some hx
 exact hq j hj ad rfl
theorem PrsR.kind (ho : w.cell? p = some old) (hk : SameKind old u) {B : Nat} {v : Value} {l : List (Int × Int)} (h : PrsR w B v l) : ∃ l', PrsR (w.setCell p u) B v l' ∧ l'.length = l.length := by
 obtain ⟨A, c, rfl, hsi⟩ := h
 have each : ∀ i, i < l.length → ∃ q : Int × Int, ∀ ad, A = some ad → (w.setCell p u).cell? (ad.add (i * 2)) = some (.int .i32 q.1) ∧ (w.setCell p u).cell? (ad.add (i * 2 + 1)) = some (.int .i32 q.2) := by
  intro i hi
  obtain ⟨ad, rfl, hb, hc⟩ := hsi.2.2 (by omega)
  have hx : (l.map prRow)[i]? = some (prRow l[i]) := by rw [List.getElem?_map, List.getElem?_eq_getElem hi]; rfl
  obtain ⟨a, ha⟩ := kind_int ho hk (hc i _ hx 0 _ rfl)
  obtain ⟨b, hb'⟩ := kind_int ho hk (hc i _ hx 1 _ rfl)
  exact ⟨(a, b), fun ad' e => by injection e with e; subst e; exact ⟨ha, hb'⟩⟩
 obtain ⟨q, hq⟩ := choose_lt each
 refine ⟨(List.range l.length).map q, ⟨A, c, by simp, by simp, ?_, fun h0 => ?_⟩, by simp⟩
 ·intro y hy
  obtain ⟨r, _, rfl⟩ := List.mem_map.1 hy
  rfl
 ·obtain ⟨ad, rfl, hb, _⟩ := hsi.2.2 (by simpa using h0)
  refine ⟨ad, rfl, hb, fun j y hy i x hx => ?_⟩
  rw [List.map_map] at hy
  obtain ⟨hj, rfl⟩ := lt_of_some hy
  obtain ⟨g0, g1⟩ := hq j hj ad rfl
  match i, hx with
  | 0, hx =>
   obtain rfl := Option.some.inj hx
   exact g0
  | 1, hx =>
   obtain rfl := Option.some.inj hx
   exact g1
theorem ClsR.kind (ho : w.cell? p = some old) (hk : SameKind old u) {B : Nat} {v : Value} {cs : List Cls} (h : ClsR w B v cs) (hn : ∀ c ∈ cs, c.name.length ≤ 140737488351232 ∧ c.rs.length ≤ 17592186044416) : ∃ cs', ClsR (w.setCell p u) B v cs' ∧ cs'.length = cs.length ∧ ∀ c ∈ cs', c.name.length ≤ 140737488351232 ∧ c.rs.length ≤ 17592186044416 := by
 obtain ⟨A, c, xs, rfl, hsi, hel⟩ := h
 have each : ∀ i, i < cs.length → ∃ q : Cls × Value, (∀ ad, A = some ad → (w.setCell p u).cell? (ad.add (i * 2)) = some (.string (str q.1.name)) ∧ (w.setCell p u).cell? (ad.add (i * 2 + 1)) = some q.2) ∧ PrsR (w.setCell p u) B q.2 q.1.rs ∧ q.1.name.length ≤ 140737488351232 ∧ q.1.rs.length ≤ 17592186044416 := by
  intro i hi
  obtain ⟨ad, rfl, hb, hc⟩ := hsi.2.2 (by omega)
  obtain ⟨x, hx, hpr, _, _⟩ := hel i _ (List.getElem?_eq_getElem hi)
  obtain ⟨b1, b2⟩ := hn _ (List.getElem_mem hi)
  obtain ⟨s, hs, hs2⟩ := kind_str ho hk (hc i _ hx 0 _ rfl) b1
  obtain ⟨Ap, cp, rfl, _⟩ := id hpr
  have hsl := kind_slice ho hk (hc i _ hx 1 _ rfl)
  obtain ⟨rs, h1, h2⟩ := hpr.kind ho hk
  exact ⟨(⟨s, rs⟩, _), fun ad' e => by injection e with e; subst e; exact ⟨hs, hsl⟩, h1, hs2, by show rs.length ≤ _; rw [h2]; exact b2⟩
 haveI : Inhabited (Cls × Value) := ⟨(⟨[], []⟩, .slice none 0 0)⟩
 obtain ⟨q, hq⟩ := choose_lt each
 refine ⟨(List.range cs.length).map fun i => (q i).1, ⟨A, c, (List.range cs.length).map fun i => [.string (str (q i).1.name), (q i).2], by simp, ⟨by simp, ?_, fun h0 => ?_⟩, fun i k hk' => ?_⟩, by simp, ?_⟩
 ·intro y hy
  obtain ⟨r, _, rfl⟩ := List.mem_map.1 hy
  rfl
 ·obtain ⟨ad, rfl, hb, _⟩ := hsi.2.2 (by simpa using h0)
  refine ⟨ad, rfl, hb, fun j y hy i x hx => ?_⟩
  obtain ⟨hj, rfl⟩ := lt_of_some hy
  obtain ⟨g0, g1⟩ := (hq j hj).1 ad rfl
  match i, hx with
  | 0, hx =>
   obtain rfl := Option.some.inj hx
   exact g0
  | 1, hx =>
   obtain rfl := Option.some.inj hx
   exact g1
 ·obtain ⟨hj, rfl⟩ := lt_of_some hk'
  obtain ⟨_, g1, g2, g3⟩ := hq i hj
  refine ⟨(q i).2, ?_, g1, by unfold maxLen; omega, by unfold maxLen; omega⟩
  rw [List.getElem?_map, List.getElem?_range hj]
  rfl
 ·intro k hk'
  obtain ⟨i, hi, rfl⟩ := List.mem_map.1 hk'
  exact (hq i (List.mem_range.1 hi)).2.2
theorem OrdR.kind (ho : w.cell? p = some old) (hk : SameKind old u) {B : Nat} {v : Value} {o : List Elm} (h : OrdR w B v o) (hn : ∀ e ∈ o, e.name.length ≤ 140737488351232) : ∃ o', OrdR (w.setCell p u) B v o' ∧ o'.length = o.length ∧ ∀ e ∈ o', e.name.length ≤ 140737488351232 := by
 obtain ⟨A, c, xs, rfl, hsi, hel⟩ := h
 have each : ∀ i, i < o.length → ∃ q : Elm × Option Addr × Nat, (∀ ad, A = some ad → (w.setCell p u).cell? (ad.add (i * 3)) = some (.string (str q.1.name)) ∧ (w.setCell p u).cell? (ad.add (i * 3 + 1)) = some (.slice q.2.1 q.1.cells.length q.2.2) ∧ (w.setCell p u).cell? (ad.add (i * 3 + 2)) = some (.int .i64 q.1.same)) ∧ RI .i32 (w.setCell p u) B q.2.1 q.1.cells.length q.1.cells ∧ q.1.name.length ≤ 140737488351232 ∧ q.1.cells.length ≤ maxLen := by
  intro i hi
  obtain ⟨ad, rfl, hb, hc⟩ := hsi.2.2 (by omega)
  obtain ⟨Ac, cc, hx, hri, _, hl⟩ := hel i _ (List.getElem?_eq_getElem hi)
  have b1 := hn _ (List.getElem_mem hi)
  obtain ⟨s, hs, hs2⟩ := kind_str ho hk (hc i _ hx 0 _ rfl) b1
  have hsl := kind_slice ho hk (hc i _ hx 1 _ rfl)
  obtain ⟨sm, hsm⟩ := kind_int ho hk (hc i _ hx 2 _ rfl)
  obtain ⟨zs, h1⟩ := RI.kind ho hk hri
  have hz : zs.length = o[i].cells.length := h1.1
  exact ⟨(⟨s, zs, sm⟩, Ac, cc), fun ad' e => by injection e with e; subst e; exact ⟨hs, by rw [hz]; exact hsl, hsm⟩, by show RI .i32 _ B Ac zs.length zs; rw [hz]; exact h1, hs2, by show zs.length ≤ _; rw [hz]; exact hl⟩
 haveI : Inhabited (Elm × Option Addr × Nat) := ⟨(⟨[], [], 0⟩, none, 0)⟩
 obtain ⟨q, hq⟩ := choose_lt each
 refine ⟨(List.range o.length).map fun i => (q i).1, ⟨A, c, (List.range o.length).map fun i => [.string (str (q i).1.name), .slice (q i).2.1 (q i).1.cells.length (q i).2.2, .int .i64 (q i).1.same], by simp, ⟨by simp, ?_, fun h0 => ?_⟩, fun i k hk' => ?_⟩, by simp, ?_⟩
 ·intro y hy
  obtain ⟨r, _, rfl⟩ := List.mem_map.1 hy
  rfl
 ·obtain ⟨ad, rfl, hb, _⟩ := hsi.2.2 (by simpa using h0)
  refine ⟨ad, rfl, hb, fun j y hy i x hx => ?_⟩
  obtain ⟨hj, rfl⟩ := lt_of_some hy
  obtain ⟨g0, g1, g2⟩ := (hq j hj).1 ad rfl
  match i, hx with
  | 0, hx =>
   obtain rfl := Option.some.inj hx
   exact g0
  | 1, hx =>
   obtain rfl := Option.some.inj hx
   exact g1
  | 2, hx =>
   obtain rfl := Option.some.inj hx
   exact g2
 ·obtain ⟨hj, rfl⟩ := lt_of_some hk'
  obtain ⟨_, g1, g2, g3⟩ := hq i hj
  refine ⟨(q i).2.1, (q i).2.2, ?_, g1, by unfold maxLen; omega, g3⟩
  rw [List.getElem?_map, List.getElem?_range hj]
  rfl
 ·intro k hk'
  obtain ⟨i, hi, rfl⟩ := List.mem_map.1 hk'
  exact (hq i (List.mem_range.1 hi)).2.2.1
structure Small (l : Loc) : Prop where
 fc : l.cls.length ≤ 500
 fu : l.up.length ≤ 500
 fl : l.lo.length ≤ 500
 fo : l.ord.length ≤ 500
 n1 : ∀ c ∈ l.cls, c.name.length ≤ 140737488351232 ∧ c.rs.length ≤ 17592186044416
 n2 : ∀ e ∈ l.ord, e.name.length ≤ 140737488351232
theorem LocR.kind (ho : w.cell? p = some old) (hk : SameKind old u) {B : Nat} {v1 v2 v3 v4 : Value} {l : Loc} (h : LocR w B v1 v2 v3 v4 l) (hs : Small l) : ∃ l', LocR (w.setCell p u) B v1 v2 v3 v4 l' ∧ Small l' := by
 obtain ⟨r1, r2, r3, r4, n1, n2, n3⟩ := h
 obtain ⟨cs, a1, a2, a3⟩ := r1.kind ho hk hs.n1
 obtain ⟨up, b1, b2⟩ := r2.kind ho hk
 obtain ⟨lo, c1, c2⟩ := r3.kind ho hk
 obtain ⟨o, d1, d2, d3⟩ := r4.kind ho hk hs.n2
 exact ⟨⟨cs, up, lo, o⟩, ⟨a1, b1, c1, d1, by rw [a2]; exact n1, by show up.length ≤ _; rw [b2]; exact n2, by show lo.length ≤ _; rw [c2]; exact n3⟩, ⟨by rw [a2]; exact hs.fc, by show up.length ≤ _; rw [b2]; exact hs.fu, by show lo.length ≤ _; rw [c2]; exact hs.fl, by show o.length ≤ _; rw [d2]; exact hs.fo, a3, d3⟩⟩
end
end Go.Proofs.YthaibekbefndlaaGreatDoor.C
