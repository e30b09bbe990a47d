/-
  What a walk through a tree keeps that asks whether it may be, plain; what it says at the end, and where it stops. No condition.
-/
import Derived.Test.YtcpjcepeiplfgaaDoorTaP
namespace Go.Proofs.YtcpjcepeiplfgaaDoor.C

theorem len_sub {α : Type} [BEq α] [LawfulBEq α] : ∀ {l r : List α}, l.Nodup → (∀ a ∈ l, a ∈ r) → l.length ≤ r.length
  | [], _, _, _ => Nat.zero_le _
  | a :: l, r, hn, h => by
    obtain ⟨h1, h2⟩ := List.nodup_cons.1 hn
    have ha := h a List.mem_cons_self
    have := len_sub (r := r.erase a) h2 (fun b hb => (List.mem_erase_of_ne (fun e : b = a => h1 (e ▸ hb))).2 (h b (List.mem_cons_of_mem _ hb)))
    rw [List.length_erase_of_mem ha] at this
    have h0 := List.length_pos_of_mem ha
    rw [List.length_cons]
    omega
theorem nodup_from (c : Int) (m : Nat) : ((List.range m).map fun i : Nat => c + (i : Int)).Nodup := by
  rw [List.nodup_iff_pairwise_ne, List.pairwise_map]
  exact (List.nodup_iff_pairwise_ne.1 List.nodup_range).imp fun h e => h (by omega)
theorem mem_from {c k : Int} {m : Nat} (h : c ≤ k ∧ k < c + m) : k ∈ (List.range m).map fun i : Nat => c + (i : Int) := List.mem_map.2 ⟨(k - c).toNat, List.mem_range.2 (by omega), by omega⟩
theorem perm_from {l : List Int} {m : Nat} {c : Int} (hb : ∀ k ∈ l, c ≤ k ∧ k < c + m) (hc : ∀ i : Nat, i < m → l.count (c + i) = 1) : l.Perm ((List.range m).map fun i : Nat => c + (i : Int)) := by
  rw [List.perm_iff_count]
  intro a
  by_cases ha : c ≤ a ∧ a < c + m
  · obtain ⟨i, rfl⟩ : ∃ i : Nat, a = c + i := ⟨(a - c).toNat, by omega⟩
    rw [hc i (by omega)]
    exact (count_one (nodup_from c m) (mem_from ha)).symm
  · rw [List.count_eq_zero.2 (fun hm => ha (hb a hm)), List.count_eq_zero.2 (fun hm => ?_)]
    obtain ⟨i, hi, rfl⟩ := List.mem_map.1 hm
    have := List.mem_range.1 hi
    omega
theorem all_from {l : List Int} {m : Nat} {c : Int} (hn : l.Nodup) (hb : ∀ k ∈ l, c ≤ k ∧ k < c + m) (hl : l.length = m) (i : Nat) (hi : i < m) : c + (i : Int) ∈ l := by
  by_cases h : c + (i : Int) ∈ l
  · exact h
  · exfalso
    have hm : c + (i : Int) ∈ (List.range m).map fun i : Nat => c + (i : Int) := mem_from (by omega)
    have := len_sub (r := ((List.range m).map fun i : Nat => c + (i : Int)).erase (c + (i : Int))) hn (fun k hk => (List.mem_erase_of_ne (fun e : k = c + (i : Int) => h (e ▸ hk))).2 (mem_from (hb k hk)))
    rw [List.length_erase_of_mem hm, List.length_map, List.length_range] at this
    omega
def kidsOf (ns : List Nd) : List Int := ns.flatMap Nd.ks
def gsOf (ns : List Nd) : List Int := (ns.filter fun x => decide (x.k = 7)).map Nd.n
theorem grpN_count (ns : List Nd) (g : Int) : grpN ns g = (gsOf ns).count g := by
  unfold grpN gsOf
  induction ns with
  | nil => rfl
  | cons x r ih =>
    by_cases h : x.k = 7
    · by_cases hn : x.n = g
      · rw [List.filter_cons_of_pos (by simp [h, hn]), List.filter_cons_of_pos (by simp [h]), List.length_cons, ih, List.map_cons, List.count_cons, if_pos (by simp [hn])]
      · rw [List.filter_cons_of_neg (by simp [hn]), List.filter_cons_of_pos (by simp [h]), ih, List.map_cons, List.count_cons, if_neg (by simp [hn])]
        rfl
    · rw [List.filter_cons_of_neg (by simp [h]), List.filter_cons_of_neg (by simp [h]), ih]
theorem kidsOf_snoc (ns : List Nd) (x : Nd) : kidsOf (ns ++ [x]) = kidsOf ns ++ x.ks := by simp [kidsOf]
theorem gsOf_snoc (ns : List Nd) (x : Nd) : gsOf (ns ++ [x]) = gsOf ns ++ if x.k = 7 then [x.n] else [] := by
  unfold gsOf
  rw [List.filter_append, List.map_append]
  by_cases h : x.k = 7 <;> simp [h]
theorem take_nd {ns : List Nd} {i : Nat} {x : Nd} (h : ns[i]? = some x) : ns.take (i + 1) = ns.take i ++ [x] := by rw [List.take_add_one, h]; rfl
structure OkTo (t : Tr) (i : Nat) : Prop where
  node : ∀ j, j < i → nodeAt t j = true
  kids : (kidsOf (t.ns.take i)).Nodup
  grps : (gsOf (t.ns.take i)).Nodup
theorem OkTo.zero (t : Tr) : OkTo t 0 := ⟨fun j h => absurd h (by omega), by simp [kidsOf], by simp [gsOf]⟩
theorem OkTo.step {t : Tr} {i : Nat} {x : Nd} (h : OkTo t i) (hx : t.ns[i]? = some x) (hn : nodeB x t.g = true) (hk : ∀ k ∈ x.ks, 0 ≤ k ∧ k < (i : Int)) (hd : (kidsOf (t.ns.take i) ++ x.ks).Nodup) (hg : x.k = 7 → x.n ∉ gsOf (t.ns.take i)) : OkTo t (i + 1) := by
  refine ⟨fun j hj => ?_, by rw [take_nd hx, kidsOf_snoc]; exact hd, ?_⟩
  · by_cases e : j = i
    · subst e
      unfold nodeAt
      rw [hx]
      simp only [hn, Bool.true_and, List.all_eq_true, Bool.and_eq_true, decide_eq_true_eq]
      exact hk
    · exact h.node j (by omega)
  · rw [take_nd hx, gsOf_snoc]
    by_cases e : x.k = 7
    · rw [if_pos e]
      refine List.nodup_append.2 ⟨h.grps, by simp, fun a ha b hb => ?_⟩
      rw [List.mem_singleton] at hb
      rintro rfl
      exact hg e (hb ▸ ha)
    · rw [if_neg e, List.append_nil]
      exact h.grps
theorem kidsOf_mem {t : Tr} (hn : ∀ i, i < t.ns.length → nodeAt t i = true) : ∀ k ∈ kidsOf t.ns, 0 ≤ k ∧ k < (t.ns.length : Int) - 1 := by
  intro k hk
  obtain ⟨x, hx, hk⟩ := List.mem_flatMap.1 hk
  obtain ⟨i, hi⟩ := List.mem_iff_getElem?.1 hx
  have hil := (List.getElem?_eq_some_iff.1 hi).1
  have := hn i hil
  unfold nodeAt at this
  rw [hi] at this
  simp only [Bool.and_eq_true, List.all_eq_true, decide_eq_true_eq] at this
  have := this.2 k hk
  omega
theorem nodeB_7 {x : Nd} {g : Int} (h : nodeB x g = true) (hk : x.k = 7) : 1 ≤ x.n ∧ x.n ≤ g := by
  unfold nodeB at h
  rw [hk] at h
  simp only [show ¬ (7 : Int) = 1 from by decide, show ¬ ((7 : Int) = 2 ∨ (7 : Int) = 4 ∨ (7 : Int) = 5 ∨ (7 : Int) = 11) from by decide, show ¬ (7 : Int) = 3 from by decide, show ¬ (7 : Int) = 6 from by decide, if_false, if_true, Bool.and_eq_true, decide_eq_true_eq] at h
  exact ⟨h.1.1.2, h.1.2⟩
theorem gsOf_mem {t : Tr} (hn : ∀ i, i < t.ns.length → nodeAt t i = true) : ∀ k ∈ gsOf t.ns, 1 ≤ k ∧ k ≤ t.g := by
  intro k hk
  obtain ⟨x, hx, rfl⟩ := List.mem_map.1 hk
  obtain ⟨hx, h7⟩ := List.mem_filter.1 hx
  obtain ⟨i, hi⟩ := List.mem_iff_getElem?.1 hx
  have hil := (List.getElem?_eq_some_iff.1 hi).1
  have := hn i hil
  unfold nodeAt at this
  rw [hi] at this
  simp only [Bool.and_eq_true, List.all_eq_true, decide_eq_true_eq] at this
  exact nodeB_7 this.1 (by simpa using h7)
theorem right_parts {t : Tr} (h : rightT t = true) : (1 ≤ t.ns.length ∧ t.ns.length ≤ 200 ∧ 0 ≤ t.g ∧ t.g ≤ 9) ∧ (∀ i, i < t.ns.length → nodeAt t i = true) ∧ (kidsOf t.ns).Nodup ∧ (kidsOf t.ns).length = t.ns.length - 1 ∧ (gsOf t.ns).Nodup ∧ ∀ i : Nat, i < t.g.toNat → (1 : Int) + i ∈ gsOf t.ns := by
  have h0 := h
  unfold rightT at h
  simp only [Bool.and_eq_true, decide_eq_true_eq, List.all_eq_true, List.mem_range, beq_iff_eq] at h
  obtain ⟨⟨⟨⟨⟨⟨h1, h2⟩, h3⟩, h4⟩, hn⟩, hu⟩, hgp⟩ := h
  have hp : (kidsOf t.ns).Perm ((List.range (t.ns.length - 1)).map fun i : Nat => (0 : Int) + (i : Int)) := perm_from (fun k hk => by have := kidsOf_mem hn k hk; omega) (fun i hi => by rw [Int.zero_add]; exact hu i hi)
  have hq : (gsOf t.ns).Perm ((List.range t.g.toNat).map fun i : Nat => (1 : Int) + (i : Int)) := perm_from (fun k hk => by have := gsOf_mem hn k hk; omega) (fun i hi => by rw [← grpN_count, Int.add_comm]; exact hgp i hi)
  exact ⟨⟨h1, h2, h3, h4⟩, hn, hp.nodup_iff.2 (nodup_from _ _), right_kids h0, hq.nodup_iff.2 (nodup_from _ _), fun i hi => hq.mem_iff.2 (mem_from (by omega))⟩
theorem right_of {t : Tr} (h1 : 1 ≤ t.ns.length) (h2 : t.ns.length ≤ 200) (h3 : 0 ≤ t.g) (h4 : t.g ≤ 9) (h : OkTo t t.ns.length) (hl : (kidsOf t.ns).length = t.ns.length - 1) (hg : ∀ i : Nat, i < t.g.toNat → (1 : Int) + i ∈ gsOf t.ns) : rightT t = true := by
  have hk := h.kids
  have hgr := h.grps
  rw [List.take_of_length_le (Nat.le_refl _)] at hk hgr
  unfold rightT
  simp only [Bool.and_eq_true, decide_eq_true_eq, List.all_eq_true, List.mem_range, beq_iff_eq]
  refine ⟨⟨⟨⟨⟨⟨h1, h2⟩, h3⟩, h4⟩, h.node⟩, fun i hi => ?_⟩, fun i hi => ?_⟩
  · have := all_from (c := 0) hk (fun k hk => by have := kidsOf_mem h.node k hk; omega) hl i hi
    rw [Int.zero_add] at this
    exact count_one hk this
  · rw [grpN_count, Int.add_comm]
    exact count_one hgr (hg i hi)
theorem bad_node {t : Tr} {i : Nat} {x : Nd} (hx : t.ns[i]? = some x) (h : nodeB x t.g = false) : rightT t = false := by
  cases hr : rightT t with
  | false => rfl
  | true =>
    have := (right_parts hr).2.1 i (List.getElem?_eq_some_iff.1 hx).1
    unfold nodeAt at this
    rw [hx] at this
    simp [h] at this
theorem bad_group {t : Tr} {i : Nat} {x : Nd} (hx : t.ns[i]? = some x) (h7 : x.k = 7) (h : x.n ∈ gsOf (t.ns.take i)) : rightT t = false := by
  cases hr : rightT t with
  | false => rfl
  | true =>
    have hn := (right_parts hr).2.2.2.2.1
    rw [← List.take_append_drop (i + 1) t.ns, take_nd hx] at hn
    unfold gsOf at hn
    rw [List.filter_append, List.map_append] at hn
    have hn := (List.nodup_append.1 hn).1
    rw [show ((t.ns.take i ++ [x]).filter fun x => decide (x.k = 7)).map Nd.n = gsOf (t.ns.take i ++ [x]) from rfl, gsOf_snoc, if_pos h7] at hn
    exact absurd rfl ((List.nodup_append.1 hn).2.2 x.n h x.n (by simp))
theorem bad_kid {t : Tr} {i j : Nat} {x : Nd} {k : Int} (hx : t.ns[i]? = some x) (hk : x.ks[j]? = some k) (h : k < 0 ∨ (i : Int) ≤ k ∨ k ∈ kidsOf (t.ns.take i) ++ x.ks.take j) : rightT t = false := by
  cases hr : rightT t with
  | false => rfl
  | true =>
    exfalso
    obtain ⟨-, hn, hd, -⟩ := right_parts hr
    have h1 := hn i (List.getElem?_eq_some_iff.1 hx).1
    unfold nodeAt at h1
    rw [hx] at h1
    simp only [Bool.and_eq_true, List.all_eq_true, decide_eq_true_eq] at h1
    have h2 := h1.2 k (List.mem_of_getElem? hk)
    rcases h with h | h | h
    · omega
    · omega
    · rw [← List.take_append_drop (i + 1) t.ns, take_nd hx] at hd
      unfold kidsOf at hd
      rw [List.flatMap_append] at hd
      have hd := (List.nodup_append.1 hd).1
      rw [show (t.ns.take i ++ [x]).flatMap Nd.ks = kidsOf (t.ns.take i ++ [x]) from rfl, kidsOf_snoc, ← List.take_append_drop j x.ks, ← List.append_assoc] at hd
      have hj := (List.getElem?_eq_some_iff.1 hk)
      rw [List.drop_eq_getElem_cons hj.1, hj.2] at hd
      exact absurd rfl ((List.nodup_append.1 hd).2.2 k h k (by simp))
end Go.Proofs.YtcpjcepeiplfgaaDoor.C
