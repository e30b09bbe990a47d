/-
  Trees, plain: what may be one; the tree of choices, and that it may be. No condition.
-/
namespace Go.Proofs.YtcpjcepeiplfgaaDoor.C

structure Nd where
  k : Int
  c : Int
  nt : Bool
  rs : List (Int × Int)
  ts : List (List Int)
  n : Int
  mn : Int
  mx : Int
  ks : List Int
structure Tr where
  ns : List Nd
  g : Int
def celOk (c : Int) : Bool := decide (-256 ≤ c ∧ c < 55296 ∨ 57343 < c ∧ c ≤ 1114111)
def bareB (x : Nd) (cell set num times : Bool) : Bool := (cell || decide (x.c = 0)) && (set || (!x.nt && decide (x.rs.length = 0) && decide (x.ts.length = 0))) && (num || decide (x.n = 0)) && (times || (decide (x.mn = 0) && decide (x.mx = 0)))
def rngOk (r : Int × Int) : Bool := celOk r.1 && celOk r.2 && decide (r.1 ≤ r.2)
def txtOk (t : List Int) : Bool := decide (2 ≤ t.length) && decide (t.length ≤ 4) && t.all celOk
def setB (x : Nd) : Bool := x.rs.all rngOk && x.ts.all txtOk
def nodeB (x : Nd) (g : Int) : Bool :=
  if x.k = 1 then decide (x.ks.length = 0) && celOk x.c && bareB x true false false false
  else if x.k = 2 ∨ x.k = 4 ∨ x.k = 5 ∨ x.k = 11 then decide (x.ks.length = 0) && bareB x false false false false
  else if x.k = 3 then decide (x.ks.length = 0) && setB x && bareB x false true false false
  else if x.k = 6 then decide (x.ks.length = 0) && decide (1 ≤ x.n) && decide (x.n ≤ g) && bareB x false false true false
  else if x.k = 7 then decide (x.ks.length = 1) && decide (1 ≤ x.n) && decide (x.n ≤ g) && bareB x false false true false
  else if x.k = 8 ∨ x.k = 9 then decide (2 ≤ x.ks.length) && bareB x false false false false
  else if x.k = 10 then decide (x.ks.length = 1) && decide (0 ≤ x.mn) && decide (x.mn ≤ 255) && (decide (x.mx = -1) || (decide (x.mn ≤ x.mx) && decide (x.mx ≤ 255))) && bareB x false false false true
  else false
def useN (ns : List Nd) (i : Int) : Nat := (ns.flatMap Nd.ks).count i
def grpN (ns : List Nd) (g : Int) : Nat := (ns.filter fun x => decide (x.k = 7) && decide (x.n = g)).length
def nodeAt (t : Tr) (i : Nat) : Bool := match t.ns[i]? with
  | none => true
  | some x => nodeB x t.g && x.ks.all fun k => decide (0 ≤ k) && decide (k < (i : Int))
def rightT (t : Tr) : Bool := decide (1 ≤ t.ns.length) && decide (t.ns.length ≤ 200) && decide (0 ≤ t.g) && decide (t.g ≤ 9) && (List.range t.ns.length).all (nodeAt t) && (List.range (t.ns.length - 1)).all (fun i => useN t.ns i == 1) && (List.range t.g.toNat).all (fun i => grpN t.ns ((i : Int) + 1) == 1)

theorem count_one {a : Int} : ∀ {l : List Int}, l.Nodup → a ∈ l → l.count a = 1
  | [], _, h => by cases h
  | b :: l, hn, h => by
    obtain ⟨h1, h2⟩ := List.nodup_cons.1 hn
    rw [List.count_cons]
    by_cases e : b = a
    · subst e
      rw [List.count_eq_zero.2 h1]; simp
    · rw [count_one h2 ((List.mem_cons.1 h).resolve_left fun x => e x.symm)]
      simp [e]
theorem useN_snoc (ns : List Nd) (x : Nd) (i : Int) : useN (ns ++ [x]) i = useN ns i + x.ks.count i := by
  unfold useN
  rw [List.flatMap_append, List.count_append]
  simp
theorem grpN_snoc (ns : List Nd) (x : Nd) (g : Int) : grpN (ns ++ [x]) g = grpN ns g + if x.k = 7 ∧ x.n = g then 1 else 0 := by
  unfold grpN
  rw [List.filter_append, List.length_append]
  by_cases h : x.k = 7 ∧ x.n = g
  · rw [if_pos h]; simp [h.1, h.2]
  · rw [if_neg h]
    have : (decide (x.k = 7) && decide (x.n = g)) = false := by simpa using h
    simp [this]
theorem nodeB_mono {x : Nd} {g g' : Int} (h : nodeB x g = true) (hg : g ≤ g') : nodeB x g' = true := by
  unfold nodeB at h ⊢
  repeat' split at h
  all_goals (first | (simp_all; done) | (simp only [Bool.and_eq_true, decide_eq_true_eq] at h; simp_all; omega))
/-- what was laid so far: the tree, and the places that are no kid's yet -/
structure TS where
  t : Tr
  o : List Int
structure InvG (s : TS) (m : Nat) : Prop where
  len : s.t.ns.length ≤ m
  g0 : 0 ≤ s.t.g
  g9 : s.t.g ≤ 9
  nodes : ∀ (i : Nat) (x : Nd), s.t.ns[i]? = some x → nodeB x s.t.g = true ∧ ∀ k ∈ x.ks, 0 ≤ k ∧ k < (i : Int)
  use : ∀ i : Int, 0 ≤ i → i < s.t.ns.length → useN s.t.ns i = if i ∈ s.o then 0 else 1
  od : s.o.Nodup
  ob : ∀ k ∈ s.o, 0 ≤ k ∧ k < s.t.ns.length
  grp : ∀ g : Int, 1 ≤ g → grpN s.t.ns g = if g ≤ s.t.g then 1 else 0
  last : s.o = [] ∨ ∃ p, s.o = p ++ [(s.t.ns.length : Int) - 1]
def layT (t : Tr) (x : Nd) : Tr := ⟨t.ns ++ [x], if x.k = 7 then t.g + 1 else t.g⟩
theorem useN_out {s : TS} {m : Nat} (h : InvG s m) : useN s.t.ns s.t.ns.length = 0 := by
  unfold useN
  refine List.count_eq_zero.2 fun hm => ?_
  obtain ⟨x, hx, hk⟩ := List.mem_flatMap.1 hm
  obtain ⟨i, hi⟩ := List.mem_iff_getElem?.1 hx
  have h1 := ((h.nodes i x hi).2 _ hk).2
  have h2 := (List.getElem?_eq_some_iff.1 hi).1
  omega
theorem InvG.lay {s : TS} {m : Nat} {x : Nd} {p q : List Int} (h : InvG s m) (ho : s.o = p ++ q) (hks : x.ks = q) (hx : nodeB x (layT s.t x).g = true) (hg : x.k = 7 → x.n = s.t.g + 1 ∧ s.t.g < 9) : InvG ⟨layT s.t x, p ++ [(s.t.ns.length : Int)]⟩ (m + 1) := by
  have hnd := h.od
  rw [ho] at hnd
  obtain ⟨np, nq, npq⟩ := List.nodup_append.1 hnd
  have hgm : s.t.g ≤ (layT s.t x).g := by unfold layT; simp only; split <;> omega
  have hpb : ∀ k ∈ p, 0 ≤ k ∧ k < s.t.ns.length := fun k hk => h.ob k (by rw [ho]; exact List.mem_append_left _ hk)
  have hqb : ∀ k ∈ q, 0 ≤ k ∧ k < s.t.ns.length := fun k hk => h.ob k (by rw [ho]; exact List.mem_append_right _ hk)
  have hg0 := h.g0
  have hg9 := h.g9
  have hl : (layT s.t x).ns.length = s.t.ns.length + 1 := by simp [layT]
  refine ⟨by have := h.len; simp only [hl]; omega, by simp only; omega, ?_, ?_, ?_, ?_, ?_, ?_, ?_⟩
  · simp only [layT]
    split
    · have := (hg (by assumption)).2; omega
    · exact hg9
  · intro i y hy
    simp only [layT] at hy
    by_cases hi : i < s.t.ns.length
    · rw [List.getElem?_append_left hi] at hy
      obtain ⟨a, b⟩ := h.nodes i y hy
      exact ⟨nodeB_mono a hgm, b⟩
    · rw [List.getElem?_append_right (by omega)] at hy
      have hi0 : i - s.t.ns.length = 0 := by
        rcases hq : i - s.t.ns.length with _ | j
        · rfl
        · rw [hq] at hy; simp at hy
      rw [hi0] at hy
      obtain rfl : x = y := by simpa using hy
      refine ⟨hx, fun k hk => ?_⟩
      have := hqb k (by rw [← hks]; exact hk)
      omega
  · intro i i0 i1
    simp only [layT] at i1 ⊢
    rw [List.length_append, List.length_singleton] at i1
    rw [useN_snoc, hks]
    by_cases hi : i = s.t.ns.length
    · subst hi
      rw [useN_out h, if_pos (by simp), List.count_eq_zero.2 (fun hm => by have := (hqb _ hm).2; omega)]
    · have hu := h.use i i0 (by omega)
      rw [ho] at hu
      rw [hu]
      by_cases hp : i ∈ p
      · rw [if_pos (List.mem_append_left _ hp), if_pos (List.mem_append_left _ hp), List.count_eq_zero.2 (fun hm => npq i hp i hm rfl)]
      · by_cases hq : i ∈ q
        · rw [if_pos (List.mem_append_right _ hq), if_neg (by simp [hp, hi]), count_one nq hq]
        · rw [if_neg (by simp [hp, hq]), if_neg (by simp [hp, hi]), List.count_eq_zero.2 hq]
  · refine List.nodup_append.2 ⟨np, by simp, fun a ha b hb => ?_⟩
    rw [List.mem_singleton] at hb
    have := (hpb a ha).2
    omega
  · intro k hk
    simp only [hl]
    rcases List.mem_append.1 hk with hk | hk
    · have := hpb k hk; omega
    · rw [List.mem_singleton] at hk; omega
  · intro g h1
    have e0 : grpN (layT s.t x).ns g = grpN s.t.ns g + if x.k = 7 ∧ x.n = g then 1 else 0 := grpN_snoc _ _ _
    have e1 : (layT s.t x).g = if x.k = 7 then s.t.g + 1 else s.t.g := rfl
    simp only
    rw [e0, h.grp g h1]
    by_cases hk : x.k = 7
    · obtain ⟨hn, _⟩ := hg hk
      rw [if_pos hk] at e1
      rw [hn]
      by_cases e : s.t.g + 1 = g
      · rw [if_neg (by omega), if_pos ⟨hk, e⟩, if_pos (by omega)]
      · rw [if_neg (fun h : x.k = 7 ∧ s.t.g + 1 = g => e h.2)]
        by_cases e2 : g ≤ s.t.g
        · rw [if_pos e2, if_pos (by omega)]
        · rw [if_neg e2, if_neg (by omega)]
    · rw [if_neg hk] at e1
      rw [if_neg (fun h : x.k = 7 ∧ x.n = g => hk h.1)]
      by_cases e2 : g ≤ s.t.g
      · rw [if_pos e2, if_pos (by omega)]
      · rw [if_neg e2, if_neg (by omega)]
  · exact .inr ⟨p, by simp only [hl]; rw [show ((s.t.ns.length + 1 : Nat) : Int) - 1 = (s.t.ns.length : Int) from by omega]⟩
/-- one open place, the last one: the tree may be -/
theorem InvG.right {s : TS} {m : Nat} (h : InvG s m) (hm : m ≤ 200) (h1 : 1 ≤ s.t.ns.length) (ho : s.o = [(s.t.ns.length : Int) - 1]) : rightT s.t = true := by
  unfold rightT
  simp only [Bool.and_eq_true, decide_eq_true_eq, List.all_eq_true, List.mem_range, beq_iff_eq]
  have hlen := h.len
  refine ⟨⟨⟨⟨⟨⟨h1, by omega⟩, h.g0⟩, h.g9⟩, fun i hi => ?_⟩, fun i hi => ?_⟩, fun i hi => ?_⟩
  · unfold nodeAt
    rw [List.getElem?_eq_getElem hi]
    obtain ⟨a, b⟩ := h.nodes i _ (List.getElem?_eq_getElem hi)
    simp only [Bool.and_eq_true, List.all_eq_true, decide_eq_true_eq]
    exact ⟨a, b⟩
  · rw [h.use i (by omega) (by omega), if_neg]
    rw [ho, List.mem_singleton]
    omega
  · rw [h.grp _ (by omega), if_pos (by omega)]
/-- of a tree that may be: how many kids there are in all -/
theorem right_kids {t : Tr} (h : rightT t = true) : (t.ns.flatMap Nd.ks).length = t.ns.length - 1 := by
  unfold rightT at h
  simp only [Bool.and_eq_true, decide_eq_true_eq, List.all_eq_true, List.mem_range, beq_iff_eq] at h
  obtain ⟨⟨⟨⟨⟨⟨h1, h2⟩, h3⟩, h4⟩, hn⟩, hu⟩, hgp⟩ := h
  have hb : ∀ k ∈ t.ns.flatMap Nd.ks, 0 ≤ k ∧ k < (t.ns.length : Int) - 1 := by
    intro k hk
    obtain ⟨x, hx, hk⟩ := List.mem_flatMap.1 hk
    obtain ⟨i, hi⟩ := List.mem_iff_getElem?.1 hx
    have hil := (List.getElem?_eq_some_iff.1 hi).1
    have := hn i hil
    unfold nodeAt at this
    rw [hi] at this
    simp only [Bool.and_eq_true, List.all_eq_true, decide_eq_true_eq] at this
    have := this.2 k hk
    omega
  have hp : (t.ns.flatMap Nd.ks).Perm ((List.range (t.ns.length - 1)).map fun i : Nat => (i : Int)) := by
    rw [List.perm_iff_count]
    intro a
    by_cases ha : 0 ≤ a ∧ a < (t.ns.length : Int) - 1
    · obtain ⟨i, rfl⟩ : ∃ i : Nat, a = (i : Int) := ⟨a.toNat, by omega⟩
      have e1 : (t.ns.flatMap Nd.ks).count (i : Int) = 1 := hu i (by omega)
      rw [e1]
      refine (count_one ?_ ?_).symm
      · rw [List.nodup_iff_pairwise_ne, List.pairwise_map]
        exact (List.nodup_iff_pairwise_ne.1 List.nodup_range).imp fun h e => h (by omega)
      · exact List.mem_map.2 ⟨i, List.mem_range.2 (by omega), rfl⟩
    · rw [List.count_eq_zero.2 (fun hm => ha (hb a hm)), List.count_eq_zero.2 (fun hm => ?_)]
      obtain ⟨i, hi, rfl⟩ := List.mem_map.1 hm
      have := List.mem_range.1 hi
      omega
  have := hp.length_eq
  rwa [List.length_map, List.length_range] at this
end Go.Proofs.YtcpjcepeiplfgaaDoor.C
