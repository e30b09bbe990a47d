/-
  A slice of lines that came in reads as lines, each of at most 2^45 cells, as the form's own reach says. No condition but that reach.
-/
import Derived.Test.YtlecioifjdmmmaaLnQ
import Derived.Deep.SlicePairs
import Derived.SizedLaws
namespace Go.Proofs.Ytlecioifjdmmmaa.C
open Go.ChangeShapes Go.WideShapes Go.ChangeAt Go.RowKit

theorem weights_mem_all {H : Type} {P : Program} {e : TypeId} : ∀ {ds : List (DataW H)} {i : Nat} {d : DataW H}, ds[i]? = some d → ∀ n ∈ d.weights P e, n ∈ DataW.weightsAll P e ds
  | d0 :: ds, 0, d, h, n, hn => by
    simp only [List.getElem?_cons_zero, Option.some.injEq] at h
    subst h
    simp only [DataW.weightsAll, List.mem_append]
    exact Or.inl hn
  | d0 :: ds, i + 1, d, h, n, hn => by
    simp only [List.getElem?_cons_succ] at h
    simp only [DataW.weightsAll, List.mem_append]
    exact Or.inr (weights_mem_all h n hn)
  | [], _, _, h, _, _ => by simp at h
theorem line_weight {H : Type} {elems spare es sp : List (DataW H)} {d1 : DataW H} {i : Nat} (hw : ∀ n ∈ (DataW.slice elems spare).weights Try.prog 28, n ≤ reachBytes) (he : elems[i]? = some (.agg [.slice es sp, d1])) : (es.length + sp.length) * 4 ≤ reachBytes := by
  refine hw _ ?_
  simp only [DataW.weights, Try.underlying28, List.mem_cons, List.mem_append]
  refine .inr (.inl (weights_mem_all he _ ?_))
  simp only [DataW.weights, Try.underlying32]
  refine DataW.weights_mem_each (j := 0) (t := 23) (d := .slice es sp) rfl rfl _ ?_
  simp only [DataW.weights, Try.underlying23, List.mem_cons]
  exact .inl (by rw [show Try.prog.bytesOf 25 = 4 from by kernel_rfl])

theorem lines_open {H : Type} {enc : TypeId × Value → H} {W : World} {a : Option Addr} {len cap : Nat} {d : DataW H} {p : List MemPlace} (h : DataW.Trod enc Try.prog W 0 (fun _ => true) true 28 (.slice a len cap) d p)
    (hw : ∀ n ∈ d.weights Try.prog 28, n ≤ reachBytes) : ∃ ms, LI W W.heap.size a len ms ∧ (∀ x ∈ ms, x.1.length ≤ 35184372088832) ∧ len ≤ maxLen := by
  obtain ⟨fuel, hf⟩ := h
  rcases Go.Deep.open_slice_pairs Try.underlying28 Try.underlying32 (by kernel_rfl) rfl rfl (by kernel_rfl) (by kernel_rfl) hf with ⟨hcs, _⟩ | ⟨x, l, c, m, n, V0, V1, D0, D1, P0, P1, hcs, _, hl, hm, hmm, hx, hi⟩
  · simp [Value.cells] at hcs
    obtain ⟨rfl, rfl, rfl⟩ := hcs
    exact ⟨[], LI.nil _ _ _, by simp, Nat.zero_le _⟩
  · simp [Value.cells] at hcs
    obtain ⟨rfl, rfl, rfl⟩ := hcs
    have hmc : m = cap := by simpa using hmm
    subst hmc
    simp only [Prod.mk.injEq] at hx
    obtain ⟨hd, _⟩ := hx
    subst hd
    have each : ∀ i, i < len → ∃ q : List Int × Bool, (∃ Aj nj cj, V0 i = .slice Aj nj cj ∧ nj ≤ cj ∧ cj ≤ maxLen ∧ RI .i32 W W.heap.size Aj nj q.1) ∧ V1 i = .bool q.2 ∧ q.1.length ≤ 35184372088832 := by
      intro i hil
      obtain ⟨e0, e1, t0, t1⟩ := hi i (by omega)
      obtain ⟨b, hb, _⟩ := DataW.trod_bool Try.underlying4 t1
      rcases open_ints Try.underlying23 Try.underlying25 (by kernel_rfl) t0 with ⟨hcs, _⟩ | ⟨y, l', c', zs, hcs, _, hl', hm', hz, hxx, hcell, hwz⟩
      · exact ⟨([], b), ⟨none, 0, 0, by simpa using hcs, Nat.le_refl _, Nat.zero_le _, RI.none_⟩, by simpa using hb, by simp⟩
      · simp only [Prod.mk.injEq] at hxx
        have hz' : zs.length = c' := by simpa using hz
        have hrow : L.IsRow .i32 W (some y) l' c' zs := .inr ⟨_, rfl, hl', hm', hz', hcell, hwz⟩
        have hwt := line_weight (i := i) (es := lits .i32 (zs.take l')) (sp := lits .i32 (zs.drop l')) (d1 := D1 i) hw (by
          rw [List.getElem?_map, List.getElem?_range hil]
          simp [hxx.1])
        simp only [lits, List.length_map, List.length_take, List.length_drop, reachBytes] at hwt
        exact ⟨(zs.take l', b), ⟨_, _, _, by simpa using hcs, hl', hm', RI.of_row hrow⟩, by simpa using hb, by simp; omega⟩
    obtain ⟨q, hq⟩ := Go.Deep.choose_lt each
    refine ⟨(List.range len).map q, ⟨by simp, fun h0 => ⟨x, rfl, ?_, fun j y hy => ?_⟩⟩, ?_, by omega⟩
    · have := World.block_lt_of_cell? W _ (hi 0 (by omega)).1
      rwa [block_of_add] at this
    · have hj : j < len := by
        rcases Nat.lt_or_ge j len with h1 | h1
        · exact h1
        · rw [List.getElem?_eq_none (by simp; omega)] at hy; cases hy
      rw [List.getElem?_map, List.getElem?_range hj] at hy
      simp at hy
      subst hy
      obtain ⟨⟨Aj, nj, cj, h1, h2, h3, h4⟩, h5, _⟩ := hq j hj
      obtain ⟨e0, e1, _, _⟩ := hi j (by omega)
      exact ⟨Aj, nj, cj, e0.trans (by rw [h1]), e1.trans (by rw [h5]), h2, h3, h4⟩
    · intro y hy
      obtain ⟨j, hj, rfl⟩ := List.mem_map.1 hy
      exact (hq j (List.mem_range.1 hj)).2.2
end Go.Proofs.Ytlecioifjdmmmaa.C
