/-
  Plain facts: where tokens stand; what stands first, and last; how many there are. No condition.
-/
import Derived.Test.YtnifcgiajjmogaaGreatDoorLxG
namespace Go.Proofs.YtnifcgiajjmogaaGreatDoor.C
open Go.RowKit

/-- tokens so far, all ahead of place k: rising places; no end of a line behind another one, or at the beginning -/
def Good (k : Nat) (acc : List Tok) : Prop :=
  (∀ x ∈ acc, x.at_ < k) ∧ (∀ j x y, acc[j]? = some x → acc[j + 1]? = some y → x.at_ < y.at_ ∧ ¬ (x.k = 6 ∧ y.k = 6)) ∧ ∀ x, acc[0]? = some x → x.k ≠ 6
theorem good_nil (k : Nat) : Good k [] := ⟨(fun x hx => by cases hx), (fun j x y hx => by simp at hx), (fun x hx => by simp at hx)⟩
theorem Good.more {k m : Nat} {acc : List Tok} (h : Good k acc) (hm : k ≤ m) : Good m acc := ⟨fun x hx => Nat.lt_of_lt_of_le (h.1 x hx) hm, h.2⟩
theorem last_at {acc : List Tok} {j : Nat} {x : Tok} (h : acc[j]? = some x) (hj : acc.length = j + 1) : lastK acc = x.k := by
  have : acc.getLast? = some x := by rw [List.getLast?_eq_getElem?, hj, Nat.add_sub_cancel]; exact h
  unfold lastK
  rw [this]
theorem Good.snoc {k : Nat} {acc : List Tok} (h : Good k acc) (x : Tok) (hx : x.at_ = k) (h6 : x.k = 6 → lastK acc ≠ 6) : Good (k + 1) (acc ++ [x]) := by
  refine ⟨fun y hy => ?_, fun j y z hy hz => ?_, fun y hy => ?_⟩
  · rcases List.mem_append.1 hy with hy | hy
    · have := h.1 y hy; omega
    · simp at hy; subst hy; omega
  · have hj : j + 1 < (acc ++ [x]).length := (List.getElem?_eq_some_iff.1 hz).1
    rw [List.length_append, List.length_cons, List.length_nil] at hj
    rw [List.getElem?_append_left (by omega)] at hy
    by_cases hlt : j + 1 < acc.length
    · rw [List.getElem?_append_left hlt] at hz
      exact h.2.1 j y z hy hz
    · rw [List.getElem?_append_right (by omega), show j + 1 - acc.length = 0 by omega] at hz
      simp at hz
      subst hz
      refine ⟨by rw [hx]; exact h.1 y (List.mem_of_getElem? hy), fun hh => h6 hh.2 ?_⟩
      rw [last_at hy (by omega)]
      exact hh.1
  · by_cases h0 : acc = []
    · subst h0
      simp at hy
      subst hy
      intro e
      exact h6 e rfl
    · have hpos : 0 < acc.length := by
        rcases Nat.eq_zero_or_pos acc.length with h1 | h1
        · exact absurd (List.eq_nil_of_length_eq_zero h1) h0
        · exact h1
      rw [List.getElem?_append_left hpos] at hy
      exact h.2.2 y hy
theorem Good.endL {k : Nat} {acc : List Tok} (h : Good k acc) : Good (k + 1) (endL acc k) := by
  unfold C.endL
  by_cases h6 : lastK acc = 6
  · rw [if_pos h6]
    exact h.more (by omega)
  · rw [if_neg h6]
    exact h.snoc _ rfl fun _ => h6
theorem tokL_kind {l t : List UInt8} {k n m : Nat} (h : tokL l = some (k, t, n, m)) : k ≠ 6 := by
  unfold tokL at h
  cases hs : signL l with
  | some s =>
    rw [hs] at h
    simp at h
    omega
  | none =>
    rw [hs] at h
    simp only at h
    cases hn : numL (nameL l) with
    | some v =>
      rw [hn] at h
      simp only at h
      split at h
      · simp at h; omega
      · cases h
    | none =>
      rw [hn] at h
      simp only at h
      split at h
      · simp at h; omega
      · cases hq : quoL l with
        | some q =>
          rw [hq] at h
          simp at h
          omega
        | none =>
          rw [hq] at h
          simp only at h
          split at h
          · simp at h; omega
          · cases h
theorem stepL_good {l : List UInt8} {k m : Nat} {acc acc' : List Tok} (hm : 1 ≤ m) (hg : Good k acc) (h : stepL l k acc = some (acc', m)) : Good (k + m) acc' := by
  unfold stepL at h
  split at h
  · simp at h
    obtain ⟨rfl, rfl⟩ := h
    exact hg.more (by omega)
  · split at h
    · simp at h
      obtain ⟨rfl, rfl⟩ := h
      exact hg.endL
    · cases ht : tokL l with
      | none => rw [ht] at h; cases h
      | some x =>
        obtain ⟨kd, t, n, m'⟩ := x
        rw [ht] at h
        simp at h
        obtain ⟨rfl, rfl⟩ := h
        exact (hg.snoc ⟨kd, t, n, k⟩ rfl (fun e => absurd e (tokL_kind ht))).more (by omega)
/-- all tokens of a text that ends at place n -/
def Whole (n : Nat) (ts : List Tok) : Prop :=
  (∀ x ∈ ts, x.at_ ≤ n) ∧ (∀ j x y, ts[j]? = some x → ts[j + 1]? = some y → x.at_ < y.at_ ∧ ¬ (x.k = 6 ∧ y.k = 6)) ∧ (∀ x, ts[0]? = some x → x.k ≠ 6) ∧ lastK ts = 6
theorem endL_last (acc : List Tok) (k : Nat) : lastK (endL acc k) = 6 := by
  unfold endL
  by_cases h : lastK acc = 6
  · rw [if_pos h]; exact h
  · rw [if_neg h, lastK_snoc]
theorem run_facts : ∀ (f : Nat) (l : List UInt8) (k : Nat) (acc : List Tok), l.length ≤ f → Good k acc →
    (∀ ts, runL l k acc = .inl ts → Whole (k + l.length) ts ∧ ts.length ≤ acc.length + l.length + 1) ∧ (∀ a, runL l k acc = .inr a → k ≤ a ∧ a < k + l.length)
  | f, [], k, acc, _, hg => by
    rw [runL_nil]
    refine ⟨fun ts h => ?_, fun a h => by cases h⟩
    injection h with h
    subst h
    have h2 := hg.endL
    refine ⟨⟨fun x hx => ?_, h2.2.1, h2.2.2, endL_last _ _⟩, ?_⟩
    · have := h2.1 x hx
      simp
      omega
    · unfold endL
      split
      · omega
      · simp
  | 0, c :: r, k, acc, hf, _ => by simp at hf
  | f + 1, c :: r, k, acc, hf, hg => by
    cases hs : stepL (c :: r) k acc with
    | none =>
      rw [runL_none (by simp) hs]
      refine ⟨(fun ts h => by cases h), fun a h => ?_⟩
      injection h with h
      subst h
      simp
    | some x =>
      obtain ⟨acc', m⟩ := x
      obtain ⟨hm1, hm2, hl⟩ := stepL_len (by simp) hs
      rw [runL_some (by simp) hs hm1]
      have hlen : ((c :: r).drop m).length + m = (c :: r).length := by rw [List.length_drop]; omega
      have ih := run_facts f ((c :: r).drop m) (k + m) acc' (by omega) (stepL_good hm1 hg hs)
      refine ⟨fun ts h => ?_, fun a h => ?_⟩
      · have := ih.1 ts h
        rw [show k + m + ((c :: r).drop m).length = k + (c :: r).length by omega] at this
        exact ⟨this.1, by omega⟩
      · have := ih.2 a h
        omega
theorem lex_facts (l : List UInt8) (hl : l.length ≤ 900) : (∃ ts, lexL l = (ts, 0, 0) ∧ Whole l.length ts ∧ ts.length ≤ 901) ∨ ∃ a, lexL l = ([], 20, a) ∧ a < l.length := by
  have h := run_facts l.length l 0 [] (Nat.le_refl _) (good_nil 0)
  unfold lexL
  rw [if_neg (by omega)]
  cases hr : runL l 0 [] with
  | inl ts =>
    obtain ⟨h1, h2⟩ := h.1 ts hr
    rw [List.length_nil] at h2
    simp only
    rw [if_neg (by omega)]
    rw [Nat.zero_add] at h1
    exact .inl ⟨ts, rfl, h1, by omega⟩
  | inr a =>
    have := h.2 a hr
    exact .inr ⟨a, rfl, by omega⟩
end Go.Proofs.YtnifcgiajjmogaaGreatDoor.C
