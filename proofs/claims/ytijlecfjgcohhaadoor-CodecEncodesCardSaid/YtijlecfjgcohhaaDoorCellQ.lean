/-
  Plain facts on texts: the cells of a text, place by place, over the model's own decoding of one place. No condition.
-/
import Derived.Lib.RuneCount
import Derived.Lib.Strings
namespace Go.Proofs.YtijlecfjgcohhaaDoor.C

/-- do the three bytes of fffd stand there? -/
def hasP (s : ByteArray) (pos : Nat) : Bool := Lib.hasPrefix (s.extract pos s.size).data.toList [239, 191, 189]
/-- the cell at a place -/
def cellAt (s : ByteArray) (pos : Nat) : Int :=
  if (((Utf8.decode s pos).1 : Int) == 65533) = true ∧ hasP s pos = false then -1 - ((s.get! pos).toNat : Int) else ((Utf8.decode s pos).1 : Int)
def ofFrom (s : ByteArray) : Nat → Nat → List Int
  | 0, _ => []
  | f + 1, pos => if pos < s.size then cellAt s pos :: ofFrom s f (pos + (Utf8.decode s pos).2) else []
def ofL (s : ByteArray) : List Int := ofFrom s s.size 0
/-- so far these -/
def OfSt (s : ByteArray) (acc : List Int) (b pos : Nat) : Prop := ofL s = acc ++ ofFrom s b pos ∧ s.size ≤ pos + b ∧ acc.length ≤ pos ∧ acc.length ≤ s.size
theorem ofSt_zero (s : ByteArray) : OfSt s [] s.size 0 := ⟨rfl, by omega, by simp, by simp⟩
theorem ofSt_step {s : ByteArray} {acc : List Int} {b pos : Nat} (h : OfSt s acc b pos) (hp : pos < s.size) : ∃ b', OfSt s (acc ++ [cellAt s pos]) b' (pos + (Utf8.decode s pos).2) := by
  obtain ⟨h1, h2, h3, h4⟩ := h
  have hw := Lib.decode_width_pos s pos hp
  cases b with
  | zero => omega
  | succ b =>
    refine ⟨b, ?_, by omega, by simp; omega, by simp; omega⟩
    rw [h1, ofFrom, if_pos hp]
    simp
theorem ofSt_end {s : ByteArray} {acc : List Int} {b pos : Nat} (h : OfSt s acc b pos) (hp : ¬ pos < s.size) : ofL s = acc := by
  obtain ⟨h1, _⟩ := h
  have : ofFrom s b pos = [] := by cases b <;> simp [ofFrom, hp]
  rw [h1, this, List.append_nil]
theorem ofL_le (s : ByteArray) : (ofL s).length ≤ s.size := by
  have : ∀ f pos, (ofFrom s f pos).length ≤ f := by
    intro f
    induction f with
    | zero => intro pos; simp [ofFrom]
    | succ f ih =>
      intro pos
      rw [ofFrom]
      split
      · have := ih (pos + (Utf8.decode s pos).2)
        simp; omega
      · simp
  exact this _ _
end Go.Proofs.YtijlecfjgcohhaaDoor.C
