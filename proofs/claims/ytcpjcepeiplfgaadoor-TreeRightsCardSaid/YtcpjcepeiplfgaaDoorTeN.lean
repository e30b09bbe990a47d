/-
  A tree that came in reads as one; one cell of a node turns; how much a tree has; a tree of choices, bent. No condition.
-/
import Derived.Test.YtcpjcepeiplfgaaDoorTeI
import Derived.Test.YtcpjcepeiplfgaaDoorTdP
import Derived.Test.YtcpjcepeiplfgaaDoorTaC
import Derived.Deep.SlicePairs
import Derived.Deep.Strs
import Derived.SizedLaws
namespace Go.Proofs.YtcpjcepeiplfgaaDoor.C
open Go.RowKit

section
open Go.ChangeShapes Go.WideShapes Go.ChangeAt Go.RowKit Go.Deep
section
variable {H : Type} {enc : TypeId × Value → H} {W : World}
theorem lt_of_some {α : Type} {len : Nat} {f : Nat → α} {j : Nat} {y : α} (h : ((List.range len).map f)[j]? = some y) : j < len ∧ y = f j := by
  have hj : j < len := by
    rcases Nat.lt_or_ge j len with h1 | h1
    · exact h1
    · rw [List.getElem?_eq_none (by simp; omega)] at h; cases h
  rw [List.getElem?_map, List.getElem?_range hj] at h
  simp at h
  exact ⟨hj, h.symm⟩
theorem weights_mem_all {P : Program} {e : TypeId} : ∀ {ds : List (DataW H)} {i : Nat} {d : DataW H}, ds[i]? = some d → ∀ n ∈ d.weights P e, n ∈ DataW.weightsAll P e ds
  | d0 :: ds, 0, d, h, n, hn => by
    simp only [List.getElem?_cons_zero, Option.some.injEq] at h
    subst h
    simp only [DataW.weightsAll, List.mem_append]
    exact Or.inl hn
  | d0 :: ds, i + 1, d, h, n, hn => by
    simp only [List.getElem?_cons_succ] at h
    simp only [DataW.weightsAll, List.mem_append]
    exact Or.inr (weights_mem_all h n hn)
  | [], _, _, h, _, _ => by simp at h
theorem slice_few {t e : TypeId} {k l : Nat} {ds es : List (DataW H)} (ht : Tryd.prog.underlying t = some (.slice e)) (hB : Tryd.prog.bytesOf e = k) (h8 : 8 ≤ k) (hw : ∀ n ∈ (DataW.slice ds es).weights Tryd.prog t, n ≤ reachBytes) (hl : ds.length = l) : l ≤ 17592186044416 := by
  have h1 : (ds.length + es.length) * k ≤ reachBytes := by
    refine hw _ ?_
    simp only [DataW.weights, ht, List.mem_cons, hB]
    exact .inl trivial
  unfold reachBytes at h1
  have h2 : (ds.length + es.length) * 8 ≤ (ds.length + es.length) * k := Nat.mul_le_mul_left _ h8
  omega
theorem ints_open {ki : IntKind} {t e : TypeId} {fuel : Nat} {v : Value} {x : DataW H × List MemPlace} (ht : Tryd.prog.underlying t = some (.slice e)) (he : Tryd.prog.underlying e = some (.int ki)) (ce : Tryd.prog.cellsOf e = 1) (h : DataW.trod enc Tryd.prog W 0 (fun _ => true) true fuel t [v] = some x) : ∃ A c zs, v = .slice A zs.length c ∧ RIp ki W (· < W.heap.size) A zs.length zs ∧ zs.length ≤ maxLen ∧ (8 ≤ Tryd.prog.bytesOf e → (∀ n ∈ x.1.weights Tryd.prog t, n ≤ reachBytes) → zs.length ≤ 17592186044416) := by
  rcases open_ints ht he ce h with ⟨hcs, _⟩ | ⟨y, l, c, zs, hcs, _, hl, hm, hz, hxx, hcell, hwz⟩
  · simp at hcs
    subst hcs
    exact ⟨none, 0, [], rfl, ⟨rfl, fun h => absurd h (by simp)⟩, by simp, fun _ _ => by simp⟩
  · simp at hcs
    subst hcs
    have hz' : zs.length = c := by simpa using hz
    have hrow : L.IsRow ki W (some y) l c zs := .inr ⟨_, rfl, hl, hm, hz', hcell, hwz⟩
    have htl : (zs.take l).length = l := by rw [List.length_take]; omega
    have hri := RI.of_row hrow
    exact ⟨some y, c, zs.take l, by rw [htl], ⟨rfl, fun h0 => by rw [htl] at h0; exact hri.2 h0⟩, by rw [htl]; omega, fun h8 hw => by
      rw [hxx] at hw
      exact slice_few ht rfl h8 hw (by simp [lits])⟩
theorem rgs_open {fuel : Nat} {v : Value} {x : DataW H × List MemPlace} (h : DataW.trod enc Tryd.prog W 0 (fun _ => true) true fuel 25 [v] = some x) (hw : ∀ n ∈ x.1.weights Tryd.prog 25, n ≤ reachBytes) : ∃ l, PrsP W (· < W.heap.size) v l ∧ l.length ≤ 17592186044416 := by
  rcases open_slice_pairs Tryd.underlying25 Tryd.underlying62 (by kernel_rfl) rfl rfl (by kernel_rfl) (by kernel_rfl) h with ⟨hcs, _⟩ | ⟨a, len, cap, m, n, V0, V1, D0, D1, P0, P1, hcs, _, hl, hm, hmm, hx, hi⟩
  · simp at hcs
    subst hcs
    exact ⟨[], ⟨none, 0, rfl, ⟨rfl, by simp, fun h => absurd h (by simp)⟩, by simp⟩, by simp⟩
  · simp at hcs
    subst hcs
    have hmc : m = cap := by simpa using hmm
    subst hmc
    have each : ∀ i, i < len → ∃ q : Int × Int, V0 i = .int .i32 q.1 ∧ V1 i = .int .i32 q.2 := by
      intro i hil
      obtain ⟨_, _, t0, t1⟩ := hi i (by omega)
      obtain ⟨p, hp, _⟩ := DataW.trod_int Tryd.underlying22 t0
      obtain ⟨q, hq, _⟩ := DataW.trod_int Tryd.underlying22 t1
      exact ⟨(p, q), by simpa using hp, by simpa using hq⟩
    obtain ⟨q, hq⟩ := choose_lt each
    refine ⟨(List.range len).map q, ⟨some a, m, by simp, ⟨by simp, ?_, fun h0 => ⟨a, rfl, ?_, fun j y hy i u hu => ?_⟩⟩, by simp; omega⟩, by rw [hx] at hw; exact slice_few (k := 8) Tryd.underlying25 (by kernel_rfl) (by omega) hw (by simp)⟩
    · intro y hy
      obtain ⟨p, _, rfl⟩ := List.mem_map.1 hy
      rfl
    · have := World.block_lt_of_cell? W _ (hi 0 (by simp at h0; omega)).1
      rwa [block_of_add] at this
    · rw [List.map_map] at hy
      obtain ⟨hj, rfl⟩ := lt_of_some hy
      obtain ⟨e0, e1, _, _⟩ := hi j (by omega)
      obtain ⟨g0, g1⟩ := hq j hj
      match i, hu with
      | 0, hu =>
        obtain rfl := Option.some.inj hu
        rw [← g0]
        exact e0
      | 1, hu =>
        obtain rfl := Option.some.inj hu
        rw [← g1]
        exact e1
theorem txs_open {fuel : Nat} {v : Value} {x : DataW H × List MemPlace} (h : DataW.trod enc Tryd.prog W 0 (fun _ => true) true fuel 26 [v] = some x) (hw : ∀ n ∈ x.1.weights Tryd.prog 26, n ≤ reachBytes) : ∃ l, TxsP W (· < W.heap.size) v l ∧ l.length ≤ 17592186044416 := by
  rcases open_slice1 Tryd.underlying26 (by kernel_rfl) h with ⟨hcs, _⟩ | ⟨a, len, cap, m, n, V, D, Pl, hcs, _, hl, hm, hmm, hx, hi⟩
  · simp at hcs
    subst hcs
    exact ⟨[], ⟨none, 0, [], rfl, ⟨rfl, by simp, fun h => absurd h (by simp)⟩, by simp, by simp⟩, by simp⟩
  · simp at hcs
    subst hcs
    have hmc : m = cap := by simpa using hmm
    subst hmc
    have each : ∀ i, i < len → ∃ q : List Int × Option Addr × Nat, V i = .slice q.2.1 q.1.length q.2.2 ∧ RIp .i32 W (· < W.heap.size) q.2.1 q.1.length q.1 ∧ q.1.length ≤ maxLen := by
      intro i hil
      obtain ⟨_, t0⟩ := hi i (by omega)
      obtain ⟨A, c, zs, h1, h2, h3, -⟩ := ints_open Tryd.underlying93 Tryd.underlying22 (by kernel_rfl) t0
      exact ⟨(zs, A, c), h1, h2, h3⟩
    obtain ⟨q, hq⟩ := choose_lt each
    refine ⟨(List.range len).map fun i => (q i).1, ⟨some a, m, (List.range len).map fun i => [V i], by simp, ⟨by simp, ?_, fun h0 => ⟨a, rfl, ?_, fun j y hy i u hu => ?_⟩⟩, by simp; omega, fun i t ht => ?_⟩, by rw [hx] at hw; exact slice_few (k := 24) Tryd.underlying26 (by kernel_rfl) (by omega) hw (by simp)⟩
    · intro y hy
      obtain ⟨p, _, rfl⟩ := List.mem_map.1 hy
      rfl
    · have := World.block_lt_of_cell? W _ (hi 0 (by simp at h0; omega)).1
      rwa [block_of_add] at this
    · obtain ⟨hj, rfl⟩ := lt_of_some hy
      match i, hu with
      | 0, hu =>
        obtain rfl := Option.some.inj hu
        rw [Nat.mul_one]
        exact (hi j (by omega)).1
    · obtain ⟨hj, rfl⟩ := lt_of_some ht
      obtain ⟨g0, g1, g2⟩ := hq i hj
      exact ⟨(q i).2.1, (q i).2.2, by rw [List.getElem?_map, List.getElem?_range hj, ← g0]; rfl, g1, g2⟩
theorem trod_struct7 {P : Program} {t : TypeId} {f0 f1 f2 f3 f4 f5 f6 : Field} {base fuel : Nat} {spare : Nat → Bool} {held : Bool} {cs : List Value} {x : DataW H × List MemPlace} (ht : P.underlying t = some (.struct #[f0, f1, f2, f3, f4, f5, f6])) (h : DataW.trod enc P W base spare held fuel t cs = some x) :
    ∃ y0 y1 y2 y3 y4 y5 y6 n, x.1 = .agg [y0.1, y1.1, y2.1, y3.1, y4.1, y5.1, y6.1] ∧ DataW.trod enc P W base spare held n f0.type ((cs.drop f0.offset).take (P.cellsOf f0.type)) = some y0 ∧ DataW.trod enc P W base spare held n f1.type ((cs.drop f1.offset).take (P.cellsOf f1.type)) = some y1 ∧ DataW.trod enc P W base spare held n f2.type ((cs.drop f2.offset).take (P.cellsOf f2.type)) = some y2 ∧ DataW.trod enc P W base spare held n f3.type ((cs.drop f3.offset).take (P.cellsOf f3.type)) = some y3 ∧ DataW.trod enc P W base spare held n f4.type ((cs.drop f4.offset).take (P.cellsOf f4.type)) = some y4 ∧ DataW.trod enc P W base spare held n f5.type ((cs.drop f5.offset).take (P.cellsOf f5.type)) = some y5 ∧ DataW.trod enc P W base spare held n f6.type ((cs.drop f6.offset).take (P.cellsOf f6.type)) = some y6 := by
  obtain ⟨xs, n, _, rfl, hl, hlen, hf⟩ := DataW.trod_struct ht h
  match xs, hlen with
  | [y0, y1, y2, y3, y4, y5, y6], _ => exact ⟨y0, y1, y2, y3, y4, y5, y6, n, by simp, by simpa using hf 0 f0 rfl, by simpa using hf 1 f1 rfl, by simpa using hf 2 f2 rfl, by simpa using hf 3 f3 rfl, by simpa using hf 4 f4 rfl, by simpa using hf 5 f5 rfl, by simpa using hf 6 f6 rfl⟩
set_option maxRecDepth 100000 in
theorem tree_open {fuel : Nat} {v : Value} {x : DataW H × List MemPlace} (h : DataW.trod enc Tryd.prog W 0 (fun _ => true) true fuel 32 [v] = some x) (hw : ∀ n ∈ x.1.weights Tryd.prog 32, n ≤ reachBytes) : ∃ A c ns xs, v = .slice A ns.length c ∧ NdsP W (· < W.heap.size) A ns xs ∧ ns.length ≤ maxLen ∧ ∀ y ∈ ns, y.ks.length ≤ 17592186044416 ∧ y.rs.length ≤ 17592186044416 ∧ y.ts.length ≤ 17592186044416 := by
  rcases open_slice Tryd.underlying32 h with ⟨hcs, _⟩ | ⟨a, len, cap, m, n, D, Pl, hcs, _, hl, hm, hmm, hx0, hx⟩
  · simp at hcs
    subst hcs
    exact ⟨none, 0, [], [], rfl, ⟨⟨rfl, by simp, fun h => absurd h (by simp)⟩, by simp⟩, by simp, by simp⟩
  · simp at hcs
    subst hcs
    have hmc : m = cap := by simpa using hmm
    subst hmc
    have ce : Tryd.prog.cellsOf 31 = 9 := by kernel_rfl
    have h8 : Tryd.prog.bytesOf 3 = 8 := by kernel_rfl
    have cu : Tryd.prog.cellsOf 5 = 1 := by kernel_rfl
    have cc : Tryd.prog.cellsOf 22 = 1 := by kernel_rfl
    have cb : Tryd.prog.cellsOf 28 = 3 := by kernel_rfl
    have ci : Tryd.prog.cellsOf 3 = 1 := by kernel_rfl
    have ck : Tryd.prog.cellsOf 29 = 1 := by kernel_rfl
    have co : Tryd.prog.cellsOf 4 = 1 := by kernel_rfl
    have cr : Tryd.prog.cellsOf 25 = 1 := by kernel_rfl
    have ct : Tryd.prog.cellsOf 26 = 1 := by kernel_rfl
    have each : ∀ i, i < len → ∃ q : Nd × Value × Value × Value, (∀ k u, (ndRow q.1 q.2.1 q.2.2.1 q.2.2.2)[k]? = some u → W.cell? (a.add (i * 9 + k)) = some u) ∧ NdP W (· < W.heap.size) q.1 q.2.1 q.2.2.1 q.2.2.2 ∧ q.1.ks.length ≤ 17592186044416 ∧ q.1.rs.length ≤ 17592186044416 ∧ q.1.ts.length ≤ 17592186044416 := by
      intro i hil
      obtain ⟨cs', h1, h2⟩ := hx i (by omega)
      rw [ce] at h1
      obtain ⟨_, hlen, hcell⟩ := World.cells?_some h1
      obtain ⟨y0, y1, y2, y3, y4, y5, y6, k, hxy, u0, u1, u2, u3, u4, u5, u6⟩ := trod_struct7 Tryd.underlying31 h2
      match cs', hlen with
      | [v0, v1, v2, v3, v4, v5, v6, v7, v8], _ =>
        simp only [cu, cc, cb, ci, ck, List.drop, List.take] at u0 u1 u2 u3 u4 u5 u6
        have hwi : ∀ n ∈ (D i).weights Tryd.prog 31, n ≤ reachBytes := by
          intro n hn
          refine hw n ?_
          rw [hx0]
          simp only [DataW.weights, Tryd.underlying32, List.mem_cons, List.mem_append]
          exact .inr (.inl (weights_mem_all (i := i) (d := D i) (by rw [List.getElem?_map, List.getElem?_range hil]; rfl) _ hn))
        have hwj : ∀ n ∈ DataW.weightsEach Tryd.prog [5, 22, 28, 3, 3, 3, 29] [y0.1, y1.1, y2.1, y3.1, y4.1, y5.1, y6.1], n ≤ reachBytes := by
          intro n hn
          refine hwi n ?_
          rw [show D i = _ from hxy]
          simp only [DataW.weights, Tryd.underlying31]
          exact hn
        obtain ⟨z0, z1, z2, k2, hzz, _, b0, b1, b2⟩ := trod_struct3 Tryd.underlying28 u2
        have hwb : ∀ n ∈ DataW.weightsEach Tryd.prog [4, 25, 26] [z0.1, z1.1, z2.1], n ≤ reachBytes := by
          intro n hn
          refine hwj n (DataW.weights_mem_each (j := 2) rfl rfl _ ?_)
          rw [hzz]
          simp only [DataW.weights, Tryd.underlying28]
          exact hn
        simp only [co, cr, ct, List.drop, List.take] at b0 b1 b2
        obtain ⟨q0, e0, _, _⟩ := DataW.trod_int Tryd.underlying5 u0
        obtain ⟨q1, e1, _, _⟩ := DataW.trod_int Tryd.underlying22 u1
        obtain ⟨q2, e2, _⟩ := DataW.trod_bool Tryd.underlying4 b0
        obtain ⟨rs, hrs, hrb⟩ := rgs_open b1 (fun n hn => hwb n (DataW.weights_mem_each (j := 1) rfl rfl _ hn))
        obtain ⟨ts, hts, htb⟩ := txs_open b2 (fun n hn => hwb n (DataW.weights_mem_each (j := 2) rfl rfl _ hn))
        obtain ⟨q5, e5, _, _⟩ := DataW.trod_int Tryd.underlying3 u3
        obtain ⟨q6, e6, _, _⟩ := DataW.trod_int Tryd.underlying3 u4
        obtain ⟨q7, e7, _, _⟩ := DataW.trod_int Tryd.underlying3 u5
        obtain ⟨A8, c8, ks, e8, hks, hkl, hkb⟩ := ints_open Tryd.underlying29 Tryd.underlying3 (by kernel_rfl) u6
        simp only [List.cons.injEq, and_true] at e0 e1 e2 e5 e6 e7
        subst e0 e1 e2 e5 e6 e7
        refine ⟨(⟨q0, q1, q2, rs, ts, q5, q6, q7, ks⟩, v3, v4, v8), fun k u hu => ?_, ⟨hrs, hts, A8, c8, e8, hks, hkl⟩, hkb (by omega) (fun n hn => hwj n (DataW.weights_mem_each (j := 6) rfl rfl _ hn)), hrb, htb⟩
        have hk : k < 9 := by
          have := (List.getElem?_eq_some_iff.1 hu).1
          simpa [ndRow] using this
        have g := hcell k hk
        rw [add_add] at g
        exact g.trans hu
    haveI : Inhabited (Nd × Value × Value × Value) := ⟨(⟨0, 0, false, [], [], 0, 0, 0, []⟩, .bool false, .bool false, .bool false)⟩
    obtain ⟨q, hq⟩ := choose_lt each
    refine ⟨some a, m, (List.range len).map fun i => (q i).1, (List.range len).map fun i => ndRow (q i).1 (q i).2.1 (q i).2.2.1 (q i).2.2.2, by simp, ⟨⟨by simp, ?_, fun h0 => ⟨a, rfl, ?_, fun j y hy i u hu => ?_⟩⟩, fun i y hy => ?_⟩, by simp; omega, fun y hy => ?_⟩
    · intro y hy
      obtain ⟨p, _, rfl⟩ := List.mem_map.1 hy
      rfl
    · have := World.block_lt_of_cell? W _ ((hq 0 (by simp at h0; omega)).1 0 _ rfl)
      rwa [block_of_add] at this
    · obtain ⟨hj, rfl⟩ := lt_of_some hy
      exact (hq j hj).1 i u hu
    · obtain ⟨hj, rfl⟩ := lt_of_some hy
      exact ⟨_, _, _, by rw [List.getElem?_map, List.getElem?_range hj]; rfl, (hq i hj).2.1⟩
    · obtain ⟨i, hi', rfl⟩ := List.mem_map.1 hy
      exact (hq i (List.mem_range.1 hi')).2.2
end
end
theorem add_ne {ad : Addr} {n m : Nat} (h : n ≠ m) : ad.add n ≠ ad.add m := fun e => by
  have h1 := congrArg Addr.off e
  have h2 : ∀ k, (ad.add k).off = ad.off + k := fun k => by
    unfold Addr.add
    split
    · omega
    · rfl
  rw [h2, h2] at h1
  omega
section
variable {w : World} {P : Nat → Prop} {a : Addr} {u v : Value}
theorem PrsP.far {l : List (Int × Int)} (h : PrsP w P v l) (hv : ∀ b n c, v = .slice (some b) n c → 0 < n → b.block ≠ a.block) : PrsP (w.setCell a u) P v l := by
  obtain ⟨A, c, rfl, ⟨h1, h2, h3⟩, hm⟩ := h
  refine ⟨A, c, rfl, ⟨h1, h2, fun h0 => ?_⟩, hm⟩
  obtain ⟨b, rfl, hP, hc⟩ := h3 h0
  exact ⟨b, rfl, hP, fun j y hy i z hz => (World.cell?_setCell_far _ _ _ _ (by rw [block_of_add]; exact (hv b _ _ rfl h0).symm)).trans (hc j y hy i z hz)⟩
theorem KsP.far {l : List Int} (h : KsP w P v l) (hv : ∀ b n c, v = .slice (some b) n c → 0 < n → b.block ≠ a.block) : KsP (w.setCell a u) P v l := by
  obtain ⟨A, c, rfl, ⟨h1, h3⟩, hm⟩ := h
  refine ⟨A, c, rfl, ⟨h1, fun h0 => ?_⟩, hm⟩
  obtain ⟨b, rfl, hP, hc⟩ := h3 h0
  exact ⟨b, rfl, hP, fun j z hz => (World.cell?_setCell_far _ _ _ _ (by rw [block_of_add]; exact (hv b _ _ rfl h0).symm)).trans (hc j z hz)⟩
theorem TxsP.far (h : TxsP w P v []) : TxsP (w.setCell a u) P v [] := by
  obtain ⟨A, c, us, rfl, ⟨h1, h2, -⟩, hm, -⟩ := h
  exact ⟨A, c, us, rfl, ⟨h1, h2, fun h0 => absurd h0 (by simp)⟩, hm, by simp⟩
end
theorem nds_turn {w : World} {P : Nat → Prop} {ad : Addr} {ns : List Nd} {xs : List (List Value)} (h : NdsP w P (some ad) ns xs) (hap : Apt (some ad) xs) (hts : ∀ y ∈ ns, y.ts = []) {i : Nat} {x x' : Nd} (hx : ns[i]? = some x) {f : Nat} {u : Value} (hr : ∀ vR vT vK, (ndRow x vR vT vK).set f u = ndRow x' vR vT vK) (hs : x'.rs = x.rs ∧ x'.ts = x.ts ∧ x'.ks = x.ks) (hf : f < 9) : ∃ xs', NdsP (w.setCell (ad.add (i * 9 + f)) u) P (some ad) (ns.set i x') xs' := by
  obtain ⟨⟨h1, h2, h3⟩, h4⟩ := h
  obtain ⟨vR, vT, vK, hxi, hnd⟩ := h4 i x hx
  have hil := (List.getElem?_eq_some_iff.1 hx).1
  have hixl := (List.getElem?_eq_some_iff.1 hxi).1
  have hfar : ∀ (y : Nd) (wR wT wK : Value), ndRow y wR wT wK ∈ xs → y ∈ ns → NdP w P y wR wT wK → NdP (w.setCell (ad.add (i * 9 + f)) u) P y wR wT wK := fun y wR wT wK hm hy hn => by
    obtain ⟨n1, n2, n3⟩ := hn
    refine ⟨n1.far fun b n c e h0 => ?_, ?_, n3.far fun b n c e h0 => ?_⟩
    · rw [block_of_add]
      exact hap _ hm 3 b n c (by rw [← e]; rfl) h0 ad rfl
    · rw [hts y hy] at n2 ⊢
      exact n2.far
    · rw [block_of_add]
      exact hap _ hm 8 b n c (by rw [← e]; rfl) h0 ad rfl
  refine ⟨xs.set i (ndRow x' vR vT vK), ⟨by rw [List.length_set, List.length_set]; exact h1, fun y hy => ?_, fun h0 => ?_⟩, fun k y hy => ?_⟩
  · rcases List.mem_or_eq_of_mem_set hy with hy | hy
    · exact h2 y hy
    · rw [hy]; rfl
  · rw [List.length_set] at h0
    obtain ⟨ad', e, hP, hc⟩ := h3 h0
    injection e with e
    subst e
    refine ⟨ad, rfl, hP, fun j y hy q z hz => ?_⟩
    rw [List.getElem?_set] at hy
    by_cases hij : i = j
    · subst hij
      rw [if_pos rfl, if_pos hixl] at hy
      injection hy with hy
      subst hy
      rw [← hr] at hz
      rw [List.getElem?_set] at hz
      by_cases hfq : f = q
      · subst hfq
        rw [if_pos rfl] at hz
        split at hz
        · injection hz with hz
          subst hz
          obtain ⟨o, ho⟩ : ∃ o, (ndRow x vR vT vK)[f]? = some o := ⟨_, List.getElem?_eq_getElem (by simp [ndRow]; omega)⟩
          exact World.cell?_setCell_same _ _ _ (hc i _ hxi f o ho)
        · cases hz
      · rw [if_neg hfq] at hz
        exact (World.cell?_setCell_other _ _ _ _ (add_ne (by omega))).trans (hc i _ hxi q z hz)
    · rw [if_neg hij] at hy
      have hq : q < 9 := by
        have := h2 y (List.mem_of_getElem? hy)
        have := (List.getElem?_eq_some_iff.1 hz).1
        omega
      exact (World.cell?_setCell_other _ _ _ _ (add_ne (by omega))).trans (hc j y hy q z hz)
  · rw [List.getElem?_set] at hy
    by_cases hik : i = k
    · subst hik
      rw [if_pos rfl, if_pos hil] at hy
      injection hy with hy
      subst hy
      refine ⟨vR, vT, vK, by rw [List.getElem?_set, if_pos rfl, if_pos hixl], ?_⟩
      have := hfar x vR vT vK (List.mem_of_getElem? hxi) (List.mem_of_getElem? hx) hnd
      unfold NdP at this ⊢
      rw [hs.1, hs.2.1, hs.2.2]
      exact this
    · rw [if_neg hik] at hy
      obtain ⟨wR, wT, wK, e1, e2⟩ := h4 k y hy
      exact ⟨wR, wT, wK, by rw [List.getElem?_set, if_neg hik]; exact e1, hfar y wR wT wK (List.mem_of_getElem? e1) (List.mem_of_getElem? hy) e2⟩
theorem nds_take {w : World} {P : Nat → Prop} {A : Option Addr} {ns : List Nd} {xs : List (List Value)} (h : NdsP w P A ns xs) (k : Nat) : NdsP w P A (ns.take k) (xs.take k) := by
  obtain ⟨⟨h1, h2, h3⟩, h4⟩ := h
  have hget : ∀ {α : Type} {l : List α} {j : Nat} {y : α}, (l.take k)[j]? = some y → l[j]? = some y ∧ j < k := fun {α l j y} hy => by
    rw [List.getElem?_take] at hy
    split at hy
    · exact ⟨hy, by assumption⟩
    · cases hy
  refine ⟨⟨by rw [List.length_take, List.length_take, h1], fun y hy => h2 y (List.mem_of_mem_take hy), fun h0 => ?_⟩, fun j y hy => ?_⟩
  · rw [List.length_take] at h0
    obtain ⟨ad, e, hP, hc⟩ := h3 (by omega)
    exact ⟨ad, e, hP, fun j y hy q z hz => hc j y (hget hy).1 q z hz⟩
  · obtain ⟨wR, wT, wK, e1, e2⟩ := h4 j y (hget hy).1
    exact ⟨wR, wT, wK, by rw [List.getElem?_take, if_pos (hget hy).2]; exact e1, e2⟩
def wgt (x : Nd) : Nat := 1 + x.ks.length + x.rs.length + x.ts.length
def sumM (ns : List Nd) : Nat := (ns.map wgt).sum
theorem sumM_next {ns : List Nd} {i : Nat} {x : Nd} (hx : ns[i]? = some x) : sumM (ns.take (i + 1)) = sumM (ns.take i) + wgt x := by
  unfold sumM
  rw [take_nd hx, List.map_append, List.sum_append]
  simp
theorem wgt_le {x : Nd} : ∀ {ns : List Nd}, x ∈ ns → wgt x ≤ sumM ns
  | [], h => by cases h
  | y :: ns, h => by
    have e : sumM (y :: ns) = wgt y + sumM ns := by simp [sumM]
    rw [e]
    rcases List.mem_cons.1 h with h | h
    · subst h
      omega
    · have := wgt_le h
      omega
theorem kids_sum : ∀ (ns : List Nd), (kidsOf ns).length ≤ sumM ns
  | [] => by simp [kidsOf]
  | y :: ns => by
    have e : sumM (y :: ns) = wgt y + sumM ns := by simp [sumM]
    have e2 : (kidsOf (y :: ns)).length = y.ks.length + (kidsOf ns).length := by simp [kidsOf]
    have := kids_sum ns
    have : wgt y = 1 + y.ks.length + y.rs.length + y.ts.length := rfl
    omega
theorem few_sum {B : Nat} : ∀ {ns : List Nd}, (∀ x ∈ ns, wgt x ≤ B) → sumM ns ≤ ns.length * B
  | [], _ => by simp [sumM]
  | y :: ns, h => by
    have e : sumM (y :: ns) = wgt y + sumM ns := by simp [sumM]
    have h1 := few_sum fun x hx => h x (List.mem_cons_of_mem _ hx)
    have h2 := h y (List.mem_cons_self ..)
    rw [e, List.length_cons, Nat.succ_mul]
    omega
/-- bounds of what came in -/
def FewN (ns : List Nd) : Prop := ∀ x ∈ ns, x.ks.length ≤ 17592186044416 ∧ x.rs.length ≤ 17592186044416 ∧ x.ts.length ≤ 17592186044416
theorem wrap_add (s : Nat) (d : Nat) : IntKind.i64.wrap (IntKind.i64.wrap (s : Int) + (d : Int)) = IntKind.i64.wrap ((s + d : Nat) : Int) := by
  simp only [IntKind.wrap_i64]
  omega
/-- few nodes, and not more than 60 in all that wraps: not more than 60 -/
theorem sum_few {ns : List Nd} (h : FewN ns) (hm : IntKind.i64.wrap (sumM ns : Nat) ≤ 60) (hl : ns.length ≤ 200) : sumM ns ≤ 60 := by
  have h1 : sumM ns ≤ ns.length * 52776558133249 := few_sum fun x hx => by
    have := h x hx
    unfold wgt
    omega
  rw [IntKind.wrap_i64] at hm
  omega
theorem sum_tells {t : Tr} (h : FewN t.ns) (hm : IntKind.i64.wrap (sumM t.ns : Nat) ≤ 60) : (t.ns.length ≤ 200 → (kidsOf t.ns).length ≤ maxLen) ∧ (rightT t = true → ∀ x ∈ t.ns, Sized x) := by
  refine ⟨fun hl => ?_, fun hr x hx => ?_⟩
  · have h1 := sum_few h hm hl
    have h2 := kids_sum t.ns
    unfold maxLen
    omega
  · have h1 := sum_few h hm (right_parts hr).1.2.1
    have h2 := wgt_le hx
    have h3 : wgt x = 1 + x.ks.length + x.rs.length + x.ts.length := rfl
    exact ⟨by omega, by omega⟩
/-- what stands in a tree of choices, bent or not -/
def BentN (ns : List Nd) : Prop := (∀ x ∈ ns, x.ts = [] ∧ x.rs.length ≤ 1) ∧ (kidsOf ns).length ≤ 200 ∧ ns.length ≤ 200
theorem bent_tree (zs : List Int) : BentN (treeG zs).ns := by
  have h := (treeG_ok zs).1
  obtain ⟨⟨-, h2, -, -⟩, -, -, hk, -, -⟩ := right_parts h
  exact ⟨plain_tree zs, by omega, h2⟩
theorem kids_set {x' : Nd} : ∀ {ns : List Nd} {i : Nat} {x : Nd}, ns[i]? = some x → x'.ks = x.ks → kidsOf (ns.set i x') = kidsOf ns
  | [], _, _, h, _ => by cases h
  | y :: ns, 0, x, h, e => by
    obtain rfl : y = x := by simpa using h
    simp [kidsOf, e]
  | y :: ns, i + 1, x, h, e => by
    have := kids_set (ns := ns) (i := i) (x := x) (by simpa using h) e
    unfold kidsOf at this ⊢
    simp [this]
theorem BentN.turn {ns : List Nd} {i : Nat} {x x' : Nd} (h : BentN ns) (hx : ns[i]? = some x) (hs : x'.rs = x.rs ∧ x'.ts = x.ts ∧ x'.ks = x.ks) : BentN (ns.set i x') := by
  refine ⟨fun y hy => ?_, by rw [kids_set hx hs.2.2]; exact h.2.1, by rw [List.length_set]; exact h.2.2⟩
  rcases List.mem_or_eq_of_mem_set hy with hy | hy
  · exact h.1 y hy
  · rw [hy, hs.1, hs.2.1]
    exact h.1 x (List.mem_of_getElem? hx)
theorem BentN.take {ns : List Nd} (h : BentN ns) (k : Nat) : BentN (ns.take k) := by
  refine ⟨fun y hy => h.1 y (List.mem_of_mem_take hy), ?_, by rw [List.length_take]; have := h.2.2; omega⟩
  have : (kidsOf ns).length = (kidsOf (ns.take k)).length + (kidsOf (ns.drop k)).length := by
    unfold kidsOf
    rw [← List.length_append, ← List.flatMap_append, List.take_append_drop]
  have := h.2.1
  omega
theorem BentN.tells {t : Tr} (h : BentN t.ns) : (t.ns.length ≤ 200 → (kidsOf t.ns).length ≤ maxLen) ∧ (rightT t = true → ∀ x ∈ t.ns, Sized x) :=
  ⟨fun _ => by have := h.2.1; unfold maxLen; omega, fun _ x hx => by
    obtain ⟨h1, h2⟩ := h.1 x hx
    exact ⟨by omega, by rw [h1]; simp⟩⟩
/-- what stands where the tree was bent, or was not: D its box, nodes from E on -/
def BentAt (E D : Nat) (w wx : World) : Prop := Below E w wx ∧ ∃ (A : Option Addr) (c : Nat) (t : Tr) (xs : List (List Value)), Rw wx D 34 #[.slice A t.ns.length c, .int .i64 t.g] ∧ NdsP wx (fun b => E ≤ b ∧ b < D) A t.ns xs ∧ BentN t.ns
section
variable {w : World} {E D c : Nat} {ad : Addr} {t : Tr} {xs : List (List Value)} {x : Nd}
theorem bend_no {A : Option Addr} (hN : NdsP w (fun b => E ≤ b ∧ b < D) A t.ns xs) (hb : BentN t.ns) (hr : Rw w D 34 #[.slice A t.ns.length c, .int .i64 t.g]) : BentAt E D w w := ⟨Below.refl _ _, A, c, t, xs, hr, hN, hb⟩
theorem bend_cell (hN : NdsP w (fun b => E ≤ b ∧ b < D) (some ad) t.ns xs) (hap : Apt (some ad) xs) (hb : BentN t.ns) (hr : Rw w D 34 #[.slice (some ad) t.ns.length c, .int .i64 t.g]) (hE : E ≤ ad.block ∧ ad.block < D) {j : Nat} (hx : t.ns[j]? = some x) {x' : Nd} {f : Nat} {u : Value} (hrow : ∀ vR vT vK, (ndRow x vR vT vK).set f u = ndRow x' vR vT vK) (hs : x'.rs = x.rs ∧ x'.ts = x.ts ∧ x'.ks = x.ks) (hf : f < 9) {p : Addr} (hp : p = ad.add (j * 9 + f)) : BentAt E D w (w.setCell p u) := by
  subst hp
  obtain ⟨xs', h⟩ := nds_turn hN hap (fun y hy => (hb.1 y hy).1) hx hrow hs hf
  refine ⟨(Below.refl E w).setCell (p := ad.add (j * 9 + f)) (by rw [block_of_add]; exact hE.1) u, some ad, c, ⟨t.ns.set j x', t.g⟩, xs', ?_, h, hb.turn hx hs⟩
  rw [List.length_set]
  exact (Below.heap_setCell w (ad.add (j * 9 + f)) u D (by rw [block_of_add]; omega)).trans hr
theorem bend_groups {A : Option Addr} (hN : NdsP w (fun b => E ≤ b ∧ b < D) A t.ns xs) (hb : BentN t.ns) (hr : Rw w D 34 #[.slice A t.ns.length c, .int .i64 t.g]) (hE : E ≤ D) (g : Int) : BentAt E D w (w.setCell ⟨D, 1, none⟩ (.int .i64 g)) :=
  ⟨(Below.refl E w).setCell (p := ⟨D, 1, none⟩) hE _, A, c, ⟨t.ns, g⟩, xs, set_row (i := 1) (l := [_, _]) hr _, hN.keep fun p hp => World.cell?_of_block (Below.heap_setCell w ⟨D, 1, none⟩ _ p.block (by show p.block ≠ D; omega)), hb⟩
theorem bend_take {A : Option Addr} (hN : NdsP w (fun b => E ≤ b ∧ b < D) A t.ns xs) (hb : BentN t.ns) (hr : Rw w D 34 #[.slice A t.ns.length c, .int .i64 t.g]) (hE : E ≤ D) {j : Nat} (hj : j ≤ t.ns.length) : BentAt E D w (w.setCell ⟨D, 0, none⟩ (.slice A j c)) :=
  ⟨(Below.refl E w).setCell (p := ⟨D, 0, none⟩) hE _, A, c, ⟨t.ns.take j, t.g⟩, xs.take j, by
    rw [show (t.ns.take j).length = j from by rw [List.length_take]; omega]
    exact set_row (i := 0) (l := [_, _]) hr _, nds_take (hN.keep fun p hp => World.cell?_of_block (Below.heap_setCell w ⟨D, 0, none⟩ _ p.block (by show p.block ≠ D; omega))) j, hb.take j⟩
end
theorem add_more9 (ad : Addr) (k f : Nat) (hf : 0 < f) : (⟨(ad.add k).block, (ad.add k).off + f, none⟩ : Addr) = ad.add (k + f) := by
  unfold Addr.add
  rw [if_neg (show ¬ k + f = 0 by omega)]
  split
  · subst_vars
    simp
  · simp [Nat.add_assoc]
end Go.Proofs.YtcpjcepeiplfgaaDoor.C
