/-
  Rows of counts: how many groups have each number, how often each node is a kid. No condition.
-/
import Derived.Test.YtcpjcepeiplfgaaDoorTbH
namespace Go.Proofs.YtcpjcepeiplfgaaDoor.C
open Go.RowKit

def cntRow (ns : List Nd) : List Value := (List.range 10).map fun g : Nat => Value.int .i64 ((grpN ns (g : Int) : Nat) : Int)
theorem cnt_at {ns : List Nd} {k : Nat} (hk : k < 10) : (cntRow ns).toArray[k]? = some (.int .i64 ((grpN ns (k : Int) : Nat) : Int)) := by
  unfold cntRow
  rw [List.getElem?_toArray, List.getElem?_map, List.getElem?_range hk]
  rfl
theorem cnt_set {ns : List Nd} {x : Nd} {k : Nat} (h7 : x.k = 7) (hn : x.n = (k : Int)) : (cntRow ns).set k (.int .i64 (((grpN ns (k : Int) : Nat) : Int) + 1)) = cntRow (ns ++ [x]) := by
  unfold cntRow
  apply List.ext_getElem?
  intro j
  rw [List.getElem?_set]
  by_cases hkj : k = j
  · subst hkj
    by_cases hk : k < 10
    · rw [if_pos rfl, if_pos (by simpa using hk), List.getElem?_map, List.getElem?_range hk, Option.map_some, grpN_snoc, if_pos ⟨h7, hn⟩]
      simp
    · rw [if_pos rfl, if_neg (by simpa using hk), List.getElem?_eq_none (by simp; omega)]
  · rw [if_neg hkj, List.getElem?_map, List.getElem?_map]
    by_cases hj : j < 10
    · rw [List.getElem?_range hj, Option.map_some, Option.map_some, grpN_snoc, if_neg (by rintro ⟨-, h⟩; omega), Nat.add_zero]
    · rw [List.getElem?_eq_none (by simp; omega)]
      rfl
theorem cnt_same {ns : List Nd} {x : Nd} (h7 : x.k ≠ 7) : cntRow (ns ++ [x]) = cntRow ns := by
  unfold cntRow
  refine List.map_congr_left fun g _ => ?_
  rw [grpN_snoc, if_neg (fun h => h7 h.1), Nat.add_zero]
def cntU (n : Nat) (L : List Int) : List Value := (List.range n).map fun j : Nat => Value.int .i64 ((L.count (j : Int) : Nat) : Int)
theorem cntU_at {n : Nat} {L : List Int} {k : Nat} (hk : k < n) : (cntU n L).toArray[k]? = some (.int .i64 ((L.count (k : Int) : Nat) : Int)) := by
  unfold cntU
  rw [List.getElem?_toArray, List.getElem?_map, List.getElem?_range hk]
  rfl
theorem cntU_set {n : Nat} {L : List Int} {k : Nat} : (cntU n L).set k (.int .i64 (((L.count (k : Int) : Nat) : Int) + 1)) = cntU n (L ++ [(k : Int)]) := by
  unfold cntU
  apply List.ext_getElem?
  intro j
  rw [List.getElem?_set]
  by_cases hkj : k = j
  · subst hkj
    by_cases hk : k < n
    · rw [if_pos rfl, if_pos (by simpa using hk), List.getElem?_map, List.getElem?_range hk, Option.map_some, List.count_append]
      simp
    · rw [if_pos rfl, if_neg (by simpa using hk), List.getElem?_eq_none (by simp; omega)]
  · rw [if_neg hkj, List.getElem?_map, List.getElem?_map]
    by_cases hj : j < n
    · rw [List.getElem?_range hj, Option.map_some, Option.map_some, List.count_append, List.count_cons, if_neg (by simp; omega)]
      simp
    · rw [List.getElem?_eq_none (by simp; omega)]
      rfl
/-- what stands while Right counts: block U the kids, block G the groups -/
structure RiSt (W : World) (U G n : Nat) (L : List Int) (ns : List Nd) (wr : World) : Prop where
  b : Below U W wr
  u : Rw wr U 3 (cntU n L).toArray
  g : Rw wr G 3 (cntRow ns).toArray
  e : U + 1 = G
section
variable {W wr w2 : World} {U G n : Nat} {L : List Int} {ns : List Nd}
theorem RiSt.next (h : RiSt W U G n L ns wr) (hb : Below wr.heap.size wr w2) : RiSt W U G n L ns w2 :=
  ⟨h.b.trans (hb.mono (Nat.le_of_lt h.u.lt)), h.u.on hb h.u.lt, h.g.on hb h.g.lt, h.e⟩
theorem RiSt.use (h : RiSt W U G n L ns wr) (k : Nat) : RiSt W U G n (L ++ [(k : Int)]) ns (wr.setCell ⟨U, k, none⟩ (.int .i64 (((L.count (k : Int) : Nat) : Int) + 1))) := by
  refine ⟨h.b.setCell (p := ⟨U, k, none⟩) (Nat.le_refl _) _, ?_, (Below.heap_setCell wr ⟨U, k, none⟩ _ G (by show G ≠ U; have := h.e; omega)).trans h.g, h.e⟩
  have h1 := set_row (i := k) (l := cntU n L) h.u (.int .i64 (((L.count (k : Int) : Nat) : Int) + 1))
  rw [cntU_set] at h1
  exact h1
theorem RiSt.grp {x : Nd} (h : RiSt W U G n L ns wr) {k : Nat} (h7 : x.k = 7) (hn : x.n = (k : Int)) : RiSt W U G n L (ns ++ [x]) (wr.setCell ⟨G, k, none⟩ (.int .i64 (((grpN ns (k : Int) : Nat) : Int) + 1))) := by
  refine ⟨h.b.setCell (p := ⟨G, k, none⟩) (by show U ≤ G; have := h.e; omega) _, (Below.heap_setCell wr ⟨G, k, none⟩ _ U (by show U ≠ G; have := h.e; omega)).trans h.u, ?_, h.e⟩
  have h1 := set_row (i := k) (l := cntRow ns) h.g (.int .i64 (((grpN ns (k : Int) : Nat) : Int) + 1))
  rw [cnt_set h7 hn] at h1
  exact h1
theorem RiSt.same {x : Nd} (h : RiSt W U G n L ns wr) (h7 : x.k ≠ 7) : RiSt W U G n L (ns ++ [x]) wr := ⟨h.b, h.u, by rw [cnt_same h7]; exact h.g, h.e⟩
end
theorem made_rep (z : Value) (n : Nat) : madeCells #[z] n = (List.replicate n z).toArray := by
  apply Array.ext'
  rw [toList_madeCells_one]
theorem ri_start {W W3 : World} {U G n : Nat} (hs : W.heap.size = U) (he : U + 1 = G) (hW3 : W3 = (W.alloc (.cells (madeCells #[.int .i64 0] n) 3)).alloc (.cells (madeCells #[.int .i64 0] 10) 3)) : RiSt W U G n [] [] W3 := by
  have hb1 : Below W.heap.size W (W.alloc (.cells (madeCells #[.int .i64 0] n) 3)) := (Below.refl _ _).alloc (Nat.le_refl _) _
  have hb2 : Below (W.alloc (.cells (madeCells #[.int .i64 0] n) 3)).heap.size (W.alloc (.cells (madeCells #[.int .i64 0] n) 3)) W3 := by rw [hW3]; exact (Below.refl _ _).alloc (Nat.le_refl _) _
  have hs1 : (W.alloc (.cells (madeCells #[.int .i64 0] n) 3)).heap.size = G := by rw [World.size_alloc, hs, he]
  have hu : Rw (W.alloc (.cells (madeCells #[.int .i64 0] n) 3)) U 3 (madeCells #[.int .i64 0] n) := by rw [← hs]; exact heap_alloc_new W _
  have hg : Rw W3 G 3 (madeCells #[.int .i64 0] 10) := by rw [hW3, ← hs1]; exact heap_alloc_new _ _
  have e1 : madeCells #[.int .i64 0] n = (cntU n []).toArray := by
    rw [made_rep]
    congr 1
    unfold cntU
    simp [List.map_const']
  have e2 : madeCells #[.int .i64 0] 10 = (cntRow []).toArray := by
    rw [made_rep]
    rfl
  rw [e1] at hu
  rw [e2] at hg
  exact ⟨by rw [← hs]; exact hb1.trans (hb2.mono (by simp)), by rw [← e1]; rw [← e1] at hu; exact hu.on hb2 (by omega), hg, he⟩
theorem right_all {t : Tr} : rightT t = true ↔ ((1 ≤ t.ns.length ∧ t.ns.length ≤ 200) ∧ (0 ≤ t.g ∧ t.g ≤ 9)) ∧ (∀ i, i < t.ns.length → nodeAt t i = true) ∧ (∀ i, i < t.ns.length - 1 → useN t.ns i = 1) ∧ (∀ i, i < t.g.toNat → grpN t.ns ((i : Int) + 1) = 1) := by
  unfold rightT
  simp only [Bool.and_eq_true, decide_eq_true_eq, List.all_eq_true, List.mem_range, beq_iff_eq]
  constructor
  · rintro ⟨⟨⟨⟨⟨⟨a, b⟩, c⟩, d⟩, e⟩, f⟩, g⟩
    exact ⟨⟨⟨a, b⟩, c, d⟩, e, f, g⟩
  · rintro ⟨⟨⟨a, b⟩, c, d⟩, e, f, g⟩
    exact ⟨⟨⟨⟨⟨⟨a, b⟩, c⟩, d⟩, e⟩, f⟩, g⟩
theorem right_no {t : Tr} (h : rightT t = true → False) : rightT t = false := by
  cases hh : rightT t with
  | false => rfl
  | true => exact (h hh).elim
end Go.Proofs.YtcpjcepeiplfgaaDoor.C
