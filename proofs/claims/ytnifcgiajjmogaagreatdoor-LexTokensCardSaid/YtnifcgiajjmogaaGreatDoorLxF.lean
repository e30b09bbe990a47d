/-
  Plain facts: the tokens of words, and of a name between brackets, of signs of a word. No condition.
-/
import Derived.Test.YtnifcgiajjmogaaGreatDoorLxI
namespace Go.Proofs.YtnifcgiajjmogaaGreatDoor.C
open Go.RowKit

theorem isW_not {b : UInt8} (h : isW b = true) : b ≠ 32 ∧ b ≠ 9 ∧ b ≠ 37 ∧ b ≠ 10 ∧ b ≠ 59 ∧ b ≠ 44 ∧ b ≠ 40 ∧ b ≠ 41 ∧ b ≠ 46 ∧ b ≠ 60 ∧ b ≠ 34 := by
  refine ⟨?_, ?_, ?_, ?_, ?_, ?_, ?_, ?_, ?_, ?_, ?_⟩
  all_goals
    intro e
    subst e
    revert h
    decide +kernel
theorem wordL_end {a : List UInt8} (h : ∀ b ∈ a, isW b = true) : wordL a = a := by
  unfold wordL
  have := List.takeWhile_append_of_pos (l₂ := ([] : List UInt8)) h
  simpa using this
theorem step_word {l a : List UInt8} {at_ : Nat} {acc : List Tok} (hw : wordL l = a) (ha : a ≠ []) : stepL l at_ acc = some (acc ++ [⟨1, a, 0, at_⟩], a.length) := by
  cases l with
  | nil => exact absurd hw.symm (by simpa [wordL] using ha)
  | cons b r =>
    have hb : isW b = true := by
      cases h : isW b with
      | true => rfl
      | false =>
        exfalso
        apply ha
        rw [← hw]
        unfold wordL
        rw [List.takeWhile_cons, if_neg (by rw [h]; decide)]
    obtain ⟨h1, h2, h3, h4, h5, h6, h7, h8, h9, h10, h11⟩ := isW_not hb
    have hbl : blankL (b :: r) = 0 := by rw [blankL_cons, if_neg (by simp [h1, h2]), if_neg h3]
    have hs : signL (b :: r) = none := by rw [signL_cons, if_neg (by simp [h5, h6, h7, h8]), if_neg (by simp [h9])]
    have hn : nameL (b :: r) = [] := by rw [nameL_cons, if_neg (by simp [h10])]
    have hq : quoL (b :: r) = none := by rw [quoL_cons, if_neg (by simp [h11])]
    have ht : tokL (b :: r) = some (1, a, 0, a.length) := by
      unfold tokL
      rw [hs, hn]
      simp only
      rw [show numL [] = none from rfl]
      simp only
      rw [if_neg (by simp), hq]
      simp only
      rw [hw, if_pos ha]
    unfold stepL
    rw [hbl, if_neg (by simp), if_neg (by simp [h4]), ht]
theorem lex_names (a : List UInt8) (h : ∀ b ∈ a, isW b = true) (h0 : ∃ r, a = 122 :: r) (hl : a.length ≤ 100) :
    lexL (a ++ [60] ++ a ++ [62] ++ a) = ([⟨1, a, 0, 0⟩, ⟨5, a, 0, a.length⟩, ⟨1, a, 0, 2 * a.length + 2⟩, ⟨6, [], 0, 3 * a.length + 2⟩], 0, 0) := by
  have ha : a ≠ [] := by obtain ⟨r, rfl⟩ := h0; simp
  have hpos : 1 ≤ a.length := by obtain ⟨r, rfl⟩ := h0; simp
  have hnum : numL a = none := by obtain ⟨r, rfl⟩ := h0; rw [numL_cons, if_neg (by simp)]
  have e1 : a ++ [60] ++ a ++ [62] ++ a = a ++ 60 :: (a ++ 62 :: a) := by simp
  have hrun : runL (a ++ [60] ++ a ++ [62] ++ a) 0 [] = .inl [⟨1, a, 0, 0⟩, ⟨5, a, 0, a.length⟩, ⟨1, a, 0, 2 * a.length + 2⟩, ⟨6, [], 0, 3 * a.length + 2⟩] := by
    rw [e1, runL_some (by simp) (step_word (wordL_all h (by decide +kernel) _) ha) hpos, List.drop_left]
    rw [runL_some (by simp) (step_named rfl h hnum ha) (by omega)]
    have hd : (60 :: (a ++ 62 :: a)).drop (2 + a.length) = a := by
      have e : 60 :: (a ++ 62 :: a) = (60 :: (a ++ [62])) ++ a := by simp
      have e2 : 2 + a.length = (60 :: (a ++ [62])).length := by simp; omega
      rw [e, e2, List.drop_left]
    rw [hd, runL_some ha (step_word (wordL_end h) ha) hpos, List.drop_length, runL_nil]
    have p1 : 0 + a.length = a.length := by omega
    have p2 : a.length + (2 + a.length) = 2 * a.length + 2 := by omega
    have p3 : 2 * a.length + 2 + a.length = 3 * a.length + 2 := by omega
    rw [p1, p2, p3]
    rfl
  unfold lexL
  rw [if_neg (by simp; omega), hrun]
  simp
end Go.Proofs.YtnifcgiajjmogaaGreatDoor.C
