/-
  Plain facts on the lines of a text: there and back, how many there are, what two texts have, the line of a place. No condition.
-/
import Derived.Test.YtlecioifjdmmmaaLnU
namespace Go.Proofs.Ytlecioifjdmmmaa.C

/-- the lines of a text, each with: is it ended? -/
def splitL : List Int → List (List Int × Bool)
  | [] => []
  | c :: r => if c = 10 then ([], true) :: splitL r else
    match splitL r with
    | [] => [([c], false)]
    | (l, b) :: t => (c :: l, b) :: t
/-- the way back -/
def joinL : List (List Int × Bool) → List Int
  | [] => []
  | (l, b) :: t => l ++ (if b then [10] else []) ++ joinL t

theorem splitL_cons (c : Int) (r : List Int) : splitL (c :: r) = if c = 10 then ([], true) :: splitL r else match splitL r with | [] => [([c], false)] | (l, b) :: t => (c :: l, b) :: t := rfl
theorem splitL_hit : ∀ {f : List Int} (_ : ∀ c ∈ f, c ≠ 10) (r : List Int), splitL (f ++ 10 :: r) = (f, true) :: splitL r
  | [], _, r => by simp [splitL]
  | c :: f, h, r => by
    have h1 : c ≠ 10 := h c (by simp)
    have h2 := splitL_hit (f := f) (fun x hx => h x (by simp [hx])) r
    show splitL (c :: (f ++ 10 :: r)) = _
    simp only [splitL, if_neg h1, h2]
theorem splitL_miss : ∀ {f : List Int} (_ : ∀ c ∈ f, c ≠ 10) (_ : f ≠ []), splitL f = [(f, false)]
  | [], _, h => absurd rfl h
  | [c], h, _ => by
    have h1 : c ≠ 10 := h c (by simp)
    simp [splitL, if_neg h1]
  | c :: d :: f, h, _ => by
    have h1 : c ≠ 10 := h c (by simp)
    have h2 := splitL_miss (f := d :: f) (fun x hx => h x (by simp [hx])) (by simp)
    unfold splitL
    simp only [if_neg h1, h2]
/-- where the first end stands; how many there are where there is none -/
def at10 (zs : List Int) : Nat := (zs.takeWhile (fun c => !decide (c = 10))).length
theorem at10_le (zs : List Int) : at10 zs ≤ zs.length := by
  unfold at10
  induction zs with
  | nil => simp
  | cons c r ih =>
    simp only [List.takeWhile_cons]
    split
    · simp; exact ih
    · simp
theorem at10_front (zs : List Int) : ∀ c ∈ zs.take (at10 zs), c ≠ 10 := by
  unfold at10
  induction zs with
  | nil => simp
  | cons c r ih =>
    simp only [List.takeWhile_cons]
    split
    · rename_i h
      intro x hx
      simp only [List.length_cons, List.take_succ_cons, List.mem_cons] at hx
      rcases hx with rfl | hx
      · simpa using h
      · exact ih x hx
    · simp
theorem at10_hit {zs : List Int} (h : at10 zs < zs.length) : zs = zs.take (at10 zs) ++ 10 :: zs.drop (at10 zs + 1) := by
  unfold at10 at *
  induction zs with
  | nil => simp at h
  | cons c r ih =>
    simp only [List.takeWhile_cons] at h ⊢
    split
    · rename_i hc
      rw [if_pos hc] at h
      simp only [List.length_cons, List.take_succ_cons, List.drop_succ_cons, List.cons_append] at h ⊢
      rw [← ih (by omega)]
    · rename_i hc
      have : c = 10 := by simpa using hc
      subst this
      simp
theorem at10_all {zs : List Int} (h : ¬ at10 zs < zs.length) : ∀ c ∈ zs, c ≠ 10 := by
  have h1 := at10_front zs
  rwa [List.take_of_length_le (by omega)] at h1
theorem at10_eq {zs : List Int} {k : Nat} (h : ∀ c ∈ zs.take k, c ≠ 10) (hk : zs[k]? = some 10) : at10 zs = k := by
  induction zs generalizing k with
  | nil => simp at hk
  | cons c r ih =>
    cases k with
    | zero =>
      simp only [List.getElem?_cons_zero, Option.some.injEq] at hk
      subst hk
      simp [at10]
    | succ k =>
      have h1 : c ≠ 10 := h c (by simp)
      have h2 := ih (k := k) (fun x hx => h x (by simp [hx])) (by simpa using hk)
      unfold at10 at h2 ⊢
      simp only [List.takeWhile_cons]
      rw [if_pos (by simpa using h1)]
      simp [h2]
theorem at10_none {zs : List Int} (h : ∀ c ∈ zs, c ≠ 10) : at10 zs = zs.length := by
  rcases Nat.lt_or_ge (at10 zs) zs.length with h1 | h1
  · exfalso
    have h2 := at10_hit h1
    exact h 10 (by rw [h2]; simp) rfl
  · have := at10_le zs
    omega
theorem splitL_at {zs : List Int} (h : at10 zs < zs.length) : splitL zs = (zs.take (at10 zs), true) :: splitL (zs.drop (at10 zs + 1)) := by
  have := splitL_hit (at10_front zs) (zs.drop (at10 zs + 1))
  rwa [← at10_hit h] at this

theorem split_len (zs : List Int) : (splitL zs).length ≤ zs.length := by
  induction zs with
  | nil => simp [splitL]
  | cons c r ih =>
    unfold splitL
    split
    · simp; exact ih
    · split
      · simp
      · rename_i hs
        rw [hs] at ih
        simp at ih ⊢
        omega

theorem join_split (zs : List Int) : joinL (splitL zs) = zs := by
  induction zs with
  | nil => rfl
  | cons c r ih =>
    unfold splitL
    split
    · rename_i h
      subst h
      simp [joinL, ih]
    · split
      · rename_i hs
        rw [hs] at ih
        simp only [joinL] at ih
        subst ih
        rfl
      · rename_i l b t hs
        rw [hs] at ih
        simp only [joinL] at ih ⊢
        rw [← ih]
        simp

/-- what each line is -/
theorem split_lines (zs : List Int) : ∀ x ∈ splitL zs, (∀ c ∈ x.1, c ≠ 10) ∧ x.1.length ≤ zs.length := by
  induction zs with
  | nil => simp [splitL]
  | cons c r ih =>
    unfold splitL
    split
    · intro x hx
      simp only [List.mem_cons] at hx
      rcases hx with rfl | hx
      · simp
      · exact ⟨(ih x hx).1, by have := (ih x hx).2; simp; omega⟩
    · rename_i hc
      split
      · intro x hx
        simp only [List.mem_singleton] at hx
        subst hx
        simp [hc]
      · rename_i l b t hs
        rw [hs] at ih
        intro x hx
        simp only [List.mem_cons] at hx
        rcases hx with rfl | hx
        · have h1 := ih (l, b) (by simp)
          refine ⟨fun d hd => ?_, by have := h1.2; simp at this ⊢; omega⟩
          simp only [List.mem_cons] at hd
          rcases hd with rfl | hd
          · exact hc
          · exact h1.1 d hd
        · have h1 := ih x (by simp [hx])
          exact ⟨h1.1, by have := h1.2; simp; omega⟩

/-- all but the last one are ended; the last one has something, if it is not -/
theorem split_ended (zs : List Int) : ∀ i x, (splitL zs)[i]? = some x → x.2 = false → i + 1 = (splitL zs).length ∧ x.1 ≠ [] := by
  induction zs with
  | nil => simp [splitL]
  | cons c r ih =>
    unfold splitL
    split
    · intro i x hx hb
      cases i with
      | zero =>
        simp at hx
        subst hx
        simp at hb
      | succ i =>
        simp only [List.getElem?_cons_succ] at hx
        have := ih i x hx hb
        simp
        exact this
    · split
      · intro i x hx hb
        cases i with
        | zero =>
          simp at hx
          subst hx
          simp
        | succ i => simp at hx
      · rename_i l b t hs
        rw [hs] at ih
        intro i x hx hb
        cases i with
        | zero =>
          simp only [List.getElem?_cons_zero, Option.some.injEq] at hx
          subst hx
          have := ih 0 (l, b) (by simp) hb
          simp at this ⊢
          exact this.1
        | succ i =>
          simp only [List.getElem?_cons_succ] at hx
          have := ih (i + 1) x (by simpa using hx) hb
          simp at this ⊢
          exact this

/-- two texts, the first of which ends a line -/
theorem split_two (xs ys : List Int) : splitL (xs ++ 10 :: ys) = splitL (xs ++ [10]) ++ splitL ys := by
  induction xs with
  | nil => simp [splitL]
  | cons c r ih =>
    rw [List.cons_append, List.cons_append, splitL_cons, splitL_cons, ih]
    split
    · rfl
    · cases hs : splitL (r ++ [10]) with
      | nil =>
        exfalso
        have := join_split (r ++ [10])
        rw [hs] at this
        simp [joinL] at this
      | cons p t => rfl

/-- how many lines: as many as ends, and one more, if something stands behind the last -/
def countE (zs : List Int) : Nat := zs.countP (fun c => decide (c = 10)) + (if zs ≠ [] ∧ zs.getLast? ≠ some 10 then 1 else 0)
theorem split_count (zs : List Int) : (splitL zs).length = countE zs := by
  induction zs with
  | nil => simp [splitL, countE]
  | cons c r ih =>
    unfold splitL
    split
    · rename_i h
      subst h
      simp only [List.length_cons, ih, countE]
      cases r with
      | nil => simp
      | cons d t => simp [List.countP_cons, List.getLast?_cons_cons]; omega
    · rename_i h
      split
      · rename_i hs
        rw [hs] at ih
        cases r with
        | nil => simp [countE, h]
        | cons d t =>
          exfalso
          have := join_split (d :: t)
          rw [hs] at this
          simp [joinL] at this
      · rename_i l b t hs
        rw [hs] at ih
        simp only [List.length_cons] at ih ⊢
        rw [ih]
        cases r with
        | nil => simp [splitL] at hs
        | cons d t => simp [countE, List.countP_cons, List.getLast?_cons_cons, h]

/-- line and column of the place behind a text -/
def step10 (s : Nat × Nat) (c : Int) : Nat × Nat := if c = 10 then (s.1 + 1, 1) else (s.1, s.2 + 1)
def numP (zs : List Int) : Nat × Nat := zs.foldl step10 (1, 1)
theorem numP_snoc (zs : List Int) (c : Int) : numP (zs ++ [c]) = step10 (numP zs) c := by simp [numP]
theorem fold_plain : ∀ (l : List Int) (_ : ∀ c ∈ l, c ≠ 10) (p k : Nat), l.foldl step10 (p, k) = (p, k + l.length)
  | [], _, p, k => rfl
  | c :: l, h, p, k => by
    have h1 : c ≠ 10 := h c (by simp)
    have h2 := fold_plain l (fun x hx => h x (by simp [hx])) p (k + 1)
    simp only [List.foldl_cons, step10, if_neg h1, h2, List.length_cons]
    congr 1
    omega
/-- how many cells ended lines are -/
def endL : List (List Int × Bool) → Nat
  | [] => 0
  | (l, _) :: t => l.length + 1 + endL t
theorem endL_snoc (ls : List (List Int × Bool)) (x : List Int × Bool) : endL (ls ++ [x]) = endL ls + (x.1.length + 1) := by
  induction ls with
  | nil => simp [endL]
  | cons y t ih =>
    obtain ⟨l, b⟩ := y
    simp only [List.cons_append, endL, ih]
    omega
theorem fold_lines : ∀ (ls : List (List Int × Bool)) (_ : ∀ x ∈ ls, x.2 = true ∧ ∀ c ∈ x.1, c ≠ 10) (p : Nat), (joinL ls).foldl step10 (p, 1) = (p + ls.length, 1)
  | [], _, p => rfl
  | (l, b) :: t, h, p => by
    have h1 := h (l, b) (by simp)
    have hb : b = true := h1.1
    subst hb
    have h2 := fold_lines t (fun x hx => h x (by simp [hx])) (p + 1)
    simp only [joinL, if_true, List.foldl_append, fold_plain l h1.2, List.foldl_cons, List.foldl_nil, step10, h2, List.length_cons]
    congr 1
    omega
theorem join_len : ∀ (ls : List (List Int × Bool)) (_ : ∀ x ∈ ls, x.2 = true), (joinL ls).length = endL ls
  | [], _ => rfl
  | (l, b) :: t, h => by
    have hb : b = true := h (l, b) (by simp)
    subst hb
    simp only [joinL, endL, if_true, List.length_append, List.length_singleton, join_len t (fun x hx => h x (by simp [hx]))]
theorem join_app (a b : List (List Int × Bool)) : joinL (a ++ b) = joinL a ++ joinL b := by
  induction a with
  | nil => rfl
  | cons y t ih =>
    obtain ⟨l, e⟩ := y
    simp [joinL, ih]
/-- a place in a line that is told -/
theorem num_in {zs : List Int} {pre post : List (List Int × Bool)} {x : List Int × Bool} (h : splitL zs = pre ++ x :: post) {a : Nat} (ha : a ≤ x.1.length) : numP (zs.take (endL pre + a)) = (pre.length + 1, a + 1) := by
  have hpre : ∀ y ∈ pre, y.2 = true := by
    intro y hy
    obtain ⟨i, hi, rfl⟩ := List.getElem_of_mem hy
    cases hb : pre[i].2 with
    | true => rfl
    | false =>
      exfalso
      have := (split_ended zs i pre[i] (by rw [h, List.getElem?_append_left hi, List.getElem?_eq_getElem hi]) hb).1
      rw [h] at this
      simp at this
      omega
  have hall : ∀ y ∈ pre, y.2 = true ∧ ∀ c ∈ y.1, c ≠ 10 := fun y hy => ⟨hpre y hy, (split_lines zs y (by rw [h]; simp [hy])).1⟩
  have hx : ∀ c ∈ x.1, c ≠ 10 := (split_lines zs x (by rw [h]; simp)).1
  have hz : zs = joinL pre ++ (x.1 ++ ((if x.2 then [10] else []) ++ joinL post)) := by
    conv => lhs; rw [← join_split zs, h, join_app]
    obtain ⟨l, b⟩ := x
    simp [joinL]
  have ht : zs.take (endL pre + a) = joinL pre ++ x.1.take a := by
    rw [hz, ← join_len pre hpre, List.take_length_add_append, List.take_append_of_le_length ha]
  rw [ht]
  unfold numP
  rw [List.foldl_append, fold_lines pre hall, fold_plain _ (fun c hc => hx c (List.mem_of_mem_take hc)), List.length_take, Nat.min_eq_left ha, Nat.add_comm 1 pre.length, Nat.add_comm 1 a]
/-- the place behind all lines -/
theorem num_end {zs : List Int} {k : Nat} (hk : k ≤ zs.length) (h : endL (splitL zs) ≤ k) : numP (zs.take k) = ((splitL zs).length + 1, 1) ∧ k = endL (splitL zs) := by
  have hall : ∀ y ∈ splitL zs, y.2 = true := by
    intro y hy
    cases hb : y.2 with
    | true => rfl
    | false =>
      exfalso
      obtain ⟨i, hi, rfl⟩ := List.getElem_of_mem hy
      have h1 := (split_ended zs i _ (List.getElem?_eq_getElem hi) hb).1
      have h2 : splitL zs = (splitL zs).take i ++ [(splitL zs)[i]] := by
        conv => lhs; rw [← List.take_append_drop i (splitL zs), List.drop_eq_getElem_cons hi, List.drop_of_length_le (by omega)]
      generalize hx : (splitL zs)[i] = x at *
      have h3 : ∀ y ∈ (splitL zs).take i, y.2 = true := by
        intro y hy
        obtain ⟨j, hj, rfl⟩ := List.getElem_of_mem hy
        cases hb2 : ((splitL zs).take i)[j].2 with
        | true => rfl
        | false =>
          exfalso
          have hj' : j < i := by simp at hj; omega
          have := (split_ended zs j _ (by rw [List.getElem?_eq_getElem (by omega)]) (by rw [← hb2, List.getElem_take])).1
          omega
      have h4 : zs.length = endL ((splitL zs).take i) + x.1.length := by
        conv => lhs; rw [← join_split zs, h2, join_app, List.length_append, join_len _ h3]
        obtain ⟨l, b⟩ := x
        simp only at hb
        subst hb
        simp [joinL]
      rw [h2, endL_snoc] at h
      omega
  have hlen : zs.length = endL (splitL zs) := by
    conv => lhs; rw [← join_split zs, join_len _ hall]
  have hk' : k = zs.length := by omega
  refine ⟨?_, by omega⟩
  rw [List.take_of_length_le (by omega)]
  conv => lhs; rw [← join_split zs]
  unfold numP
  rw [fold_lines _ (fun y hy => ⟨hall y hy, (split_lines zs y hy).1⟩), Nat.add_comm]
end Go.Proofs.Ytlecioifjdmmmaa.C
