/-
  Plain tokens of a text: what begins a text, step by step; all of them; what is printed. No condition.
-/
namespace Go.Proofs.YtnifcgiajjmogaaGreatDoor.C

/-- a token: its kind, its text, its number, its place -/
structure Tok where
  k : Nat
  t : List UInt8
  n : Nat
  at_ : Nat

def isW (b : UInt8) : Bool := decide (97 ≤ b.toNat ∧ b.toNat ≤ 122 ∨ 65 ≤ b.toNat ∧ b.toNat ≤ 90 ∨ 48 ≤ b.toNat ∧ b.toNat ≤ 57 ∨ b.toNat = 45 ∨ b.toNat = 95)
/-- the word that begins a text -/
def wordL (l : List UInt8) : List UInt8 := l.takeWhile isW
/-- the name that begins a text; nothing: none does -/
def nameL : List UInt8 → List UInt8
  | [] => []
  | c :: r => if c = 60 ∧ (r.drop (wordL r).length).head? = some 62 then wordL r else []
def digV (b : UInt8) : Option Nat :=
  if 48 ≤ b.toNat ∧ b.toNat ≤ 57 then some (b.toNat - 48) else if 97 ≤ b.toNat ∧ b.toNat ≤ 102 then some (b.toNat - 87) else if 65 ≤ b.toNat ∧ b.toNat ≤ 70 then some (b.toNat - 55) else none
/-- digits read behind a number -/
def hexN : List UInt8 → Nat → Option Nat
  | [], n => some n
  | b :: r, n => match digV b with
    | some d => hexN r (16 * n + d)
    | none => none
/-- the number of a name that is a scalar's -/
def numL : List UInt8 → Option Nat
  | [] => none
  | c :: d => if c = 85 ∧ 4 ≤ d.length ∧ d.length ≤ 6 then hexN d 0 else none
def rightN (n : Nat) : Bool := decide (n < 55296 ∨ 57343 < n ∧ n ≤ 1114111)
/-- what stands between quotes that begin a text -/
def quoL : List UInt8 → Option (List UInt8)
  | [] => none
  | c :: r => if c = 34 ∧ (r.takeWhile (· ≠ 34)).length < r.length ∧ 10 ∉ r.takeWhile (· ≠ 34) then some (r.takeWhile (· ≠ 34)) else none
/-- the sign that begins a text -/
def signL : List UInt8 → Option (List UInt8)
  | [] => none
  | c :: r => if c = 59 ∨ c = 44 ∨ c = 40 ∨ c = 41 then some [c] else if c = 46 ∧ r.take 2 = [46, 46] then some [46, 46, 46] else none
/-- an end of the line, if there is something to end -/
def lastK (acc : List Tok) : Nat := match acc.getLast? with
  | some t => t.k
  | none => 6
def endL (acc : List Tok) (at_ : Nat) : List Tok := if lastK acc = 6 then acc else acc ++ [⟨6, [], 0, at_⟩]
/-- the token that begins a text (no blank, no remark, no end of a line), and how many bytes it has -/
def tokL (l : List UInt8) : Option (Nat × List UInt8 × Nat × Nat) :=
  match signL l with
  | some s => some (2, s, 0, s.length)
  | none => match numL (nameL l) with
    | some n => if rightN n then some (3, [], n, 2 + (nameL l).length) else none
    | none => if nameL l ≠ [] then some (5, nameL l, 0, 2 + (nameL l).length) else
      match quoL l with
      | some t => some (4, t, 0, 2 + t.length)
      | none => if wordL l ≠ [] then some (1, wordL l, 0, (wordL l).length) else none
/-- how many bytes of nothing begin a text -/
def blankL : List UInt8 → Nat
  | [] => 0
  | c :: r => if c = 32 ∨ c = 9 then 1 else if c = 37 then 1 + (r.takeWhile (· ≠ 10)).length else 0
/-- one step: the tokens behind it, and how many bytes it takes -/
def stepL (l : List UInt8) (at_ : Nat) (acc : List Tok) : Option (List Tok × Nat) :=
  if blankL l ≠ 0 then some (acc, blankL l)
  else if l.head? = some 10 then some (endL acc at_, 1)
  else match tokL l with
    | some (k, t, n, m) => some (acc ++ [⟨k, t, n, at_⟩], m)
    | none => none
/-- all steps; a number alone: the place of what is no token -/
def runL : List UInt8 → Nat → List Tok → List Tok ⊕ Nat
  | [], at_, acc => .inl (endL acc at_)
  | c :: r, at_, acc => match stepL (c :: r) at_ acc with
    | some (acc', m) => runL (r.drop (m - 1)) (at_ + 1 + (m - 1)) acc'
    | none => .inr at_
termination_by l => l.length
decreasing_by simp; omega
/-- the answer: tokens, what is wrong, where -/
def lexL (l : List UInt8) : List Tok × Nat × Nat :=
  if 4000 < l.length then ([], 3, 0) else
  match runL l 0 [] with
  | .inl ts => if 1000 < ts.length then ([], 3, 0) else (ts, 0, 0)
  | .inr at_ => ([], 20, at_)

theorem runL_nil (at_ : Nat) (acc : List Tok) : runL [] at_ acc = .inl (endL acc at_) := by rw [runL]
theorem runL_none {l : List UInt8} {at_ : Nat} {acc : List Tok} (h0 : l ≠ []) (h : stepL l at_ acc = none) : runL l at_ acc = .inr at_ := by
  cases l with
  | nil => exact absurd rfl h0
  | cons c r => rw [runL, h]
theorem runL_some {l : List UInt8} {at_ m : Nat} {acc acc' : List Tok} (h0 : l ≠ []) (h : stepL l at_ acc = some (acc', m)) (hm : 1 ≤ m) : runL l at_ acc = runL (l.drop m) (at_ + m) acc' := by
  cases l with
  | nil => exact absurd rfl h0
  | cons c r =>
    rw [runL, h]
    obtain ⟨k, rfl⟩ : ∃ k, m = k + 1 := ⟨m - 1, by omega⟩
    simp only [Nat.add_sub_cancel, List.drop_succ_cons]
    rw [show at_ + 1 + k = at_ + (k + 1) by omega]

theorem nameL_cons (c : UInt8) (r : List UInt8) : nameL (c :: r) = if c = 60 ∧ (r.drop (wordL r).length).head? = some 62 then wordL r else [] := rfl
theorem quoL_cons (c : UInt8) (r : List UInt8) : quoL (c :: r) = if c = 34 ∧ (r.takeWhile (· ≠ 34)).length < r.length ∧ 10 ∉ r.takeWhile (· ≠ 34) then some (r.takeWhile (· ≠ 34)) else none := rfl
theorem signL_cons (c : UInt8) (r : List UInt8) : signL (c :: r) = if c = 59 ∨ c = 44 ∨ c = 40 ∨ c = 41 then some [c] else if c = 46 ∧ r.take 2 = [46, 46] then some [46, 46, 46] else none := rfl
theorem blankL_cons (c : UInt8) (r : List UInt8) : blankL (c :: r) = if c = 32 ∨ c = 9 then 1 else if c = 37 then 1 + (r.takeWhile (· ≠ 10)).length else 0 := rfl
theorem numL_cons (c : UInt8) (d : List UInt8) : numL (c :: d) = if c = 85 ∧ 4 ≤ d.length ∧ d.length ≤ 6 then hexN d 0 else none := rfl
theorem wordL_len (l : List UInt8) : (wordL l).length ≤ l.length := by
  unfold wordL
  exact (List.takeWhile_prefix isW).length_le
theorem nameL_len (l : List UInt8) (h : nameL l ≠ []) : (nameL l).length + 2 ≤ l.length := by
  cases l with
  | nil => exact absurd rfl h
  | cons c r =>
    rw [nameL_cons] at h ⊢
    by_cases hc : c = 60 ∧ (r.drop (wordL r).length).head? = some 62
    · rw [if_pos hc]
      have h1 : (wordL r).length < r.length := by
        rcases Nat.lt_or_ge (wordL r).length r.length with h1 | h1
        · exact h1
        · rw [List.drop_eq_nil_of_le h1] at hc
          simp at hc
      simp
      omega
    · rw [if_neg hc] at h
      exact absurd rfl h
theorem quoL_len {l t : List UInt8} (h : quoL l = some t) : t.length + 2 ≤ l.length := by
  cases l with
  | nil => simp [quoL] at h
  | cons c r =>
    rw [quoL_cons] at h
    by_cases hc : c = 34 ∧ (r.takeWhile (· ≠ 34)).length < r.length ∧ 10 ∉ r.takeWhile (· ≠ 34)
    · rw [if_pos hc] at h
      injection h with h
      subst h
      have := hc.2.1
      rw [List.length_cons]
      omega
    · rw [if_neg hc] at h
      cases h
theorem numL_name {l : List UInt8} {n : Nat} (h : numL (nameL l) = some n) : nameL l ≠ [] := fun e => by rw [e] at h; simp [numL] at h
theorem signL_len {l s : List UInt8} (h : signL l = some s) : 1 ≤ s.length ∧ s.length ≤ l.length := by
  cases l with
  | nil => simp [signL] at h
  | cons c r =>
    rw [signL_cons] at h
    by_cases h1 : c = 59 ∨ c = 44 ∨ c = 40 ∨ c = 41
    · rw [if_pos h1] at h
      injection h with h; subst h; simp
    · rw [if_neg h1] at h
      by_cases h2 : c = 46 ∧ r.take 2 = [46, 46]
      · rw [if_pos h2] at h
        injection h with h; subst h
        have := congrArg List.length h2.2
        simp at this ⊢
        omega
      · rw [if_neg h2] at h
        cases h
theorem tokL_len {l t : List UInt8} {k n m : Nat} (h : tokL l = some (k, t, n, m)) : 1 ≤ m ∧ m ≤ l.length := by
  unfold tokL at h
  cases hs : signL l with
  | some s =>
    rw [hs] at h
    simp at h
    have := signL_len hs
    omega
  | none =>
    rw [hs] at h
    simp only at h
    cases hn : numL (nameL l) with
    | some v =>
      rw [hn] at h
      simp only at h
      split at h
      · have := nameL_len l (numL_name hn)
        simp at h
        omega
      · cases h
    | none =>
      rw [hn] at h
      simp only at h
      split at h
      · rename_i h2
        have := nameL_len l h2
        simp at h
        omega
      · cases hq : quoL l with
        | some q =>
          rw [hq] at h
          have := quoL_len hq
          simp at h
          omega
        | none =>
          rw [hq] at h
          simp only at h
          split at h
          · rename_i h2
            have := wordL_len l
            have : (wordL l).length ≠ 0 := fun e => h2 (List.eq_nil_of_length_eq_zero e)
            simp at h
            omega
          · cases h
theorem blankL_len (l : List UInt8) : blankL l ≤ l.length := by
  cases l with
  | nil => simp [blankL]
  | cons c r =>
    rw [blankL_cons]
    have := (List.takeWhile_prefix (l := r) (fun x : UInt8 => decide (x ≠ 10))).length_le
    split
    · simp
    · split
      · rw [List.length_cons]; omega
      · simp
theorem stepL_len {l : List UInt8} {at_ m : Nat} {acc acc' : List Tok} (h0 : l ≠ []) (h : stepL l at_ acc = some (acc', m)) : 1 ≤ m ∧ m ≤ l.length ∧ acc'.length ≤ acc.length + 1 := by
  have hl : 1 ≤ l.length := by cases l with | nil => exact absurd rfl h0 | cons c r => simp
  unfold stepL at h
  split at h
  · rename_i h1
    have := blankL_len l
    simp at h
    obtain ⟨rfl, rfl⟩ := h
    omega
  · split at h
    · simp at h
      obtain ⟨rfl, rfl⟩ := h
      refine ⟨by omega, by omega, ?_⟩
      unfold endL
      split <;> simp
    · cases ht : tokL l with
      | none => rw [ht] at h; cases h
      | some x =>
        obtain ⟨k, t, n, m'⟩ := x
        rw [ht] at h
        have := tokL_len ht
        simp at h
        obtain ⟨rfl, rfl⟩ := h
        exact ⟨this.1, this.2, by simp⟩
end Go.Proofs.YtnifcgiajjmogaaGreatDoor.C
