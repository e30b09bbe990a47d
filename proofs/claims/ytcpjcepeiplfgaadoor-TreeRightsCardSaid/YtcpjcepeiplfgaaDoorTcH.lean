/-
  How long the text of a tree is that may be: plain. Condition: at most 1000 ranges and texts in a node.
-/
import Derived.Test.YtcpjcepeiplfgaaDoorTcG
namespace Go.Proofs.YtcpjcepeiplfgaaDoor.C

theorem nodeB_6 {x : Nd} {g : Int} (h : nodeB x g = true) (hk : x.k = 6) : 1 ≤ x.n ∧ x.n ≤ g := by
  unfold nodeB at h
  rw [hk] at h
  simp only [show ¬ (6 : Int) = 1 from by decide, show ¬ ((6 : Int) = 2 ∨ (6 : Int) = 4 ∨ (6 : Int) = 5 ∨ (6 : Int) = 11) from by decide, show ¬ (6 : Int) = 3 from by decide, if_false, if_true, Bool.and_eq_true, decide_eq_true_eq] at h
  exact ⟨h.1.1.2, h.1.2⟩
theorem nodeB_3 {x : Nd} {g : Int} (h : nodeB x g = true) (hk : x.k = 3) : setB x = true := by
  unfold nodeB at h
  rw [hk] at h
  simp only [show ¬ (3 : Int) = 1 from by decide, show ¬ ((3 : Int) = 2 ∨ (3 : Int) = 4 ∨ (3 : Int) = 5 ∨ (3 : Int) = 11) from by decide, if_false, if_true, Bool.and_eq_true, decide_eq_true_eq] at h
  exact h.1.2
theorem nodeB_10 {x : Nd} {g : Int} (h : nodeB x g = true) (hk : x.k = 10) : 0 ≤ x.mn ∧ x.mn ≤ 255 ∧ -1 ≤ x.mx ∧ x.mx ≤ 255 := by
  unfold nodeB at h
  rw [hk] at h
  simp only [show ¬ (10 : Int) = 1 from by decide, show ¬ ((10 : Int) = 2 ∨ (10 : Int) = 4 ∨ (10 : Int) = 5 ∨ (10 : Int) = 11) from by decide, show ¬ (10 : Int) = 3 from by decide, show ¬ (10 : Int) = 6 from by decide, show ¬ (10 : Int) = 7 from by decide, show ¬ ((10 : Int) = 8 ∨ (10 : Int) = 9) from by decide, if_false, if_true, Bool.and_eq_true, Bool.or_eq_true, decide_eq_true_eq] at h
  omega
theorem flat_le {α : Type} {f : α → List UInt8} {c : Nat} : ∀ {l : List α}, (∀ x ∈ l, (f x).length ≤ c) → (l.flatMap f).length ≤ c * l.length
  | [], _ => by simp
  | a :: r, h => by
    have h1 := h a (by simp)
    have h2 := flat_le (f := f) (c := c) (l := r) (fun x hx => h x (List.mem_cons_of_mem _ hx))
    rw [List.flatMap_cons, List.length_append, List.length_cons, Nat.mul_succ]
    omega
theorem setT_len {x : Nd} (h : setB x = true) (hr : x.rs.length ≤ 1000) (ht : x.ts.length ≤ 1000) : (setT x).length ≤ 70000 := by
  unfold setB at h
  rw [Bool.and_eq_true, List.all_eq_true, List.all_eq_true] at h
  have h1 : (x.rs.flatMap rngT).length ≤ 22 * x.rs.length := flat_le fun r _ => by
    have a := textL_le [r.1]
    have b := textL_le [r.2]
    unfold rngT
    simp only [List.length_append, List.length_cons, List.length_nil] at a b ⊢
    omega
  have h2 : (x.ts.flatMap txtT).length ≤ 42 * x.ts.length := flat_le fun t htt => by
    have a := textL_le t
    have b := h.2 t htt
    unfold txtOk at b
    simp only [Bool.and_eq_true, decide_eq_true_eq] at b
    unfold txtT
    simp only [List.length_append, List.length_cons, List.length_nil]
    omega
  unfold setT
  simp only [List.length_append, List.length_cons, List.length_nil]
  split <;> simp only [List.length_cons, List.length_nil] <;> omega
/-- what may be printed: bounds of a node -/
def Sized (x : Nd) : Prop := x.rs.length ≤ 1000 ∧ x.ts.length ≤ 1000
theorem befT_len {x : Nd} {g : Int} (h : nodeB x g = true) (hg : g ≤ 9) (hs : Sized x) : (befT x).length ≤ 70000 := by
  have h1 := textL_le [x.c]
  rw [List.length_singleton] at h1
  unfold befT
  by_cases k1 : x.k = 1
  · rw [if_pos k1, List.length_cons]; omega
  rw [if_neg k1]
  by_cases k2 : x.k = 2
  · rw [if_pos k2]; simp
  rw [if_neg k2]
  by_cases k3 : x.k = 3
  · rw [if_pos k3]; exact setT_len (nodeB_3 h k3) hs.1 hs.2
  rw [if_neg k3]
  by_cases k4 : x.k = 4
  · rw [if_pos k4]; simp
  rw [if_neg k4]
  by_cases k5 : x.k = 5
  · rw [if_pos k5]; simp
  rw [if_neg k5]
  by_cases k6 : x.k = 6
  · rw [if_pos k6, List.length_cons]
    have := nodeB_6 h k6
    have := itoa_len x.n (by omega) (by omega)
    omega
  rw [if_neg k6]
  by_cases k7 : x.k = 7
  · rw [if_pos k7, List.length_append, List.length_cons]
    have := nodeB_7 h k7
    have := itoa_len x.n (by omega) (by omega)
    simp
    omega
  rw [if_neg k7]
  repeat' split
  all_goals simp
theorem behT_len {x : Nd} {g : Int} (h : nodeB x g = true) : (behT x).length ≤ 20 := by
  unfold behT
  by_cases k7 : x.k = 7
  · rw [if_pos k7]; simp
  rw [if_neg k7]
  by_cases k9 : x.k = 9
  · rw [if_pos k9]; simp
  rw [if_neg k9]
  by_cases k10 : x.k = 10
  · rw [if_pos k10]
    have := nodeB_10 h k10
    have := itoa_len x.mn (by omega) (by omega)
    have := itoa_len x.mx (by omega) (by omega)
    simp only [List.length_append, List.length_cons]
    omega
  rw [if_neg k10]
  simp
def sumP (t : Tr) (l : List Int) : Nat := (l.map fun k => (prI t k).length).sum
theorem sumP_app (t : Tr) (a b : List Int) : sumP t (a ++ b) = sumP t a + sumP t b := by unfold sumP; rw [List.map_append, List.sum_append]
theorem joinP_len (t : Tr) (sep : List UInt8) (hs : sep.length ≤ 1) : ∀ (l : List Int), (joinP sep (prI t) l).length ≤ sumP t l + l.length
  | [] => by simp [joinP]
  | k :: r => by
    have : ∀ l : List Int, (l.flatMap fun j => sep ++ prI t j).length ≤ sumP t l + l.length := by
      intro l
      induction l with
      | nil => simp
      | cons a r ih =>
        rw [List.flatMap_cons, List.length_append, List.length_append]
        unfold sumP at ih ⊢
        rw [List.map_cons, List.sum_cons, List.length_cons]
        omega
    have h := this r
    show (prI t k ++ r.flatMap fun j => sep ++ prI t j).length ≤ _
    unfold sumP at h ⊢
    rw [List.length_append, List.map_cons, List.sum_cons, List.length_cons]
    omega
theorem sum_upto {t : Tr} (hn : ∀ i, i < t.ns.length → nodeAt t i = true) (hg : t.g ≤ 9) (hs : ∀ x ∈ t.ns, Sized x) : ∀ i, i ≤ t.ns.length → sumP t ((List.range i).map fun j : Nat => (j : Int)) ≤ 70020 * i + (kidsOf (t.ns.take i)).length + sumP t (kidsOf (t.ns.take i))
  | 0, _ => by simp [sumP, kidsOf]
  | i + 1, hi => by
    have ih := sum_upto hn hg hs i (by omega)
    obtain ⟨x, hx⟩ : ∃ x, t.ns[i]? = some x := ⟨_, List.getElem?_eq_getElem (by omega)⟩
    have h1 := hn i (by omega)
    unfold nodeAt at h1
    rw [hx] at h1
    simp only [Bool.and_eq_true, List.all_eq_true, decide_eq_true_eq] at h1
    have h2 := prI_eq hx h1.2
    have h3 : (prI t (i : Int)).length ≤ 70020 + x.ks.length + sumP t x.ks := by
      rw [h2, List.length_append, List.length_append]
      have a := befT_len h1.1 hg (hs x (List.mem_of_getElem? hx))
      have b := behT_len h1.1
      have c := joinP_len t (betT x) (by unfold betT; split <;> simp) x.ks
      omega
    rw [List.range_succ, List.map_append, sumP_app, take_nd hx, kidsOf_snoc, sumP_app, List.length_append]
    have : sumP t ([i].map fun j : Nat => (j : Int)) = (prI t (i : Int)).length := by simp [sumP]
    omega
theorem perm_sumP {t : Tr} {a b : List Int} (h : a.Perm b) : sumP t a = sumP t b := by
  unfold sumP
  exact (h.map _).sum_nat
theorem print_len {t : Tr} (h : rightT t = true) (hs : ∀ x ∈ t.ns, Sized x) : (prI t ((t.ns.length : Int) - 1)).length ≤ 20000000 := by
  obtain ⟨⟨h1, h2, h3, h4⟩, hn, hk, hkl, -, -⟩ := right_parts h
  have hp : (kidsOf t.ns).Perm ((List.range (t.ns.length - 1)).map fun i : Nat => (i : Int)) := by
    have := perm_from (c := 0) (l := kidsOf t.ns) (m := t.ns.length - 1) (fun k hk => by have := kidsOf_mem hn k hk; omega) (fun i hi => count_one hk (all_from (c := 0) hk (fun k hk => by have := kidsOf_mem hn k hk; omega) hkl i hi))
    simpa using this
  have hu := sum_upto hn h4 hs t.ns.length (Nat.le_refl _)
  rw [List.take_length, perm_sumP hp, hkl] at hu
  obtain ⟨m, hm⟩ : ∃ m, t.ns.length = m + 1 := ⟨t.ns.length - 1, by omega⟩
  rw [hm, List.range_succ, List.map_append, sumP_app] at hu
  have : sumP t ([m].map fun j : Nat => (j : Int)) = (prI t (m : Int)).length := by simp [sumP]
  rw [hm]
  rw [show ((m + 1 : Nat) : Int) - 1 = (m : Int) from by omega]
  simp only [Nat.add_sub_cancel] at hu
  omega
end Go.Proofs.YtcpjcepeiplfgaaDoor.C
