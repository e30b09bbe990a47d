/-
  The tree of choices has no texts in a node; what the nodes of a tree that may be look like. No condition.
-/
import Derived.Test.YtcpjcepeiplfgaaDoorTaQ
import Derived.Test.YtcpjcepeiplfgaaDoorTbP
namespace Go.Proofs.YtcpjcepeiplfgaaDoor.C

def PlainT (t : Tr) : Prop := ∀ x ∈ t.ns, x.ts = [] ∧ x.rs.length ≤ 1
theorem PlainT.lay {t : Tr} {x : Nd} (h : PlainT t) (hx : x.ts = [] ∧ x.rs.length ≤ 1) : PlainT (layT t x) := by
  intro y hy
  rcases List.mem_append.1 hy with hy | hy
  · exact h y hy
  · rw [List.mem_singleton] at hy
    subst hy
    exact hx
theorem plain_back (g a b : Int) : (backG g a b).ts = [] ∧ (backG g a b).rs.length ≤ 1 := by
  unfold backG leafG
  repeat' split
  all_goals simp [nd]
theorem PlainT.grp {t : Tr} (h : PlainT t) (a : Int) : PlainT (grpG t a) := by
  unfold grpG
  split
  · exact h.lay (by simp [nd])
  · exact h
theorem PlainT.tim {t : Tr} (h : PlainT t) (a b : Int) : PlainT (timG t a b) := by
  unfold timG
  split
  · exact h.lay (by simp [nd])
  · exact h
theorem PlainT.step {s : TS} (h : PlainT s.t) (a b : Int) : PlainT (stepG s a b).t := by
  unfold stepG joinG
  split
  · exact ((h.lay (plain_back _ a b)).grp a).tim a b |>.lay (by simp [nd])
  · exact ((h.lay (plain_back _ a b)).grp a).tim a b
theorem PlainT.run : ∀ (l : List (Int × Int)) (s : TS), PlainT s.t → PlainT (l.foldl (fun s p => stepG s p.1 p.2) s).t
  | [], _, h => h
  | p :: l, s, h => PlainT.run l (stepG s p.1 p.2) (h.step p.1 p.2)
theorem plain_tree (zs : List Int) : PlainT (treeG zs) := by
  have h : PlainT (runG zs 20).t := PlainT.run _ _ (by intro x hx; simp at hx)
  unfold treeG doneG
  split
  · exact h.lay (by simp [nd])
  · exact h
  · exact h.lay (by simp [nd])
theorem nodeB_bare {x : Nd} {g : Int} (h : nodeB x g = true) : (x.k = 7 → x = { nd 7 with n := x.n, ks := x.ks } ∧ x.ks.length = 1) ∧ ((x.k = 8 ∨ x.k = 9) → x = { nd x.k with ks := x.ks } ∧ 2 ≤ x.ks.length) ∧ (x.k = 10 → x = { nd 10 with mn := x.mn, mx := x.mx, ks := x.ks } ∧ x.ks.length = 1) := by
  obtain ⟨k, c, nt, rs, ts, n, mn, mx, ks⟩ := x
  refine ⟨?_, ?_, ?_⟩
  · intro hk
    simp only at hk
    subst hk
    simp [nodeB, bareB] at h
    simp [nd]
    grind
  · rintro (hk | hk)
    · simp only at hk
      subst hk
      simp [nodeB, bareB] at h
      simp [nd]
      grind
    · simp only at hk
      subst hk
      simp [nodeB, bareB] at h
      simp [nd]
      grind
  · intro hk
    simp only at hk
    subst hk
    simp [nodeB, bareB] at h
    simp [nd]
    grind
/-- what was laid of a tree till a place -/
def prefT (t : Tr) (i : Nat) : Tr := ⟨t.ns.take i, ((gsOf (t.ns.take i)).length : Nat)⟩
theorem prefT_next {t : Tr} {i : Nat} {x : Nd} (hx : t.ns[i]? = some x) : layT (prefT t i) x = prefT t (i + 1) := by
  unfold prefT layT
  rw [take_nd hx, gsOf_snoc]
  congr 1
  simp only
  split <;> simp
theorem prefT_all {t : Tr} (h : rightT t = true) : prefT t t.ns.length = t := by
  obtain ⟨⟨g1, g2, g3, g4⟩, hn, -, -, hg, hgi⟩ := right_parts h
  have h1 := len_sub (r := (List.range t.g.toNat).map fun i : Nat => (1 : Int) + (i : Int)) hg (fun k hk => mem_from (by have := gsOf_mem hn k hk; omega))
  have h2 := len_sub (r := gsOf t.ns) (nodup_from 1 t.g.toNat) (fun k hk => by
    obtain ⟨i, hi, rfl⟩ := List.mem_map.1 hk
    exact hgi i (List.mem_range.1 hi))
  rw [List.length_map, List.length_range] at h1 h2
  unfold prefT
  rw [List.take_length]
  have : ((gsOf t.ns).length : Int) = t.g := by omega
  rw [this]
theorem kids_few {t : Tr} (h : rightT t = true) {x : Nd} (hx : x ∈ t.ns) : x.ks.length ≤ 200 := by
  obtain ⟨⟨g1, g2, g3, g4⟩, hn, -, hl, -⟩ := right_parts h
  have : x.ks.length ≤ (kidsOf t.ns).length := by
    obtain ⟨a, b, e⟩ := List.append_of_mem hx
    rw [e]
    unfold kidsOf
    rw [List.flatMap_append, List.flatMap_cons, List.length_append, List.length_append]
    omega
  omega
end Go.Proofs.YtcpjcepeiplfgaaDoor.C
