/-
  Plain facts on texts for the laws: what shows cells may be seen; letters show as themselves; the cells of a text of letters. No condition.
-/
import Derived.Test.YtkijkkhjlfllnaaDoorCellJ
import Derived.Test.YtkijkkhjlfllnaaDoorCellQ
namespace Go.Proofs.YtkijkkhjlfllnaaDoor.C
open Go.RowKit

theorem str_size (l : List UInt8) : (str l).size = l.length := by simp [str, ByteArray.size]
theorem str_get (l : List UInt8) (i : Nat) (h : i < (str l).size) : (str l)[i]'h = l[i]'(by rw [str_size] at h; exact h) := rfl
theorem str_app (a b : List UInt8) : str a ++ str b = str (a ++ b) := by
  unfold str
  apply ByteArray.ext
  simp

theorem dig_seen (n : Nat) (h : n < 16) : 32 ≤ (dig n).toNat ∧ (dig n).toNat ≤ 126 := by
  have : ∀ n : Fin 16, 32 ≤ (dig n.val).toNat ∧ (dig n.val).toNat ≤ 126 := by decide
  exact this ⟨n, h⟩
theorem hexL_seen (n : Nat) : ∀ b ∈ hexL n, 32 ≤ b.toNat ∧ b.toNat ≤ 126 := by
  induction n using Nat.strongRecOn with
  | ind n ih =>
    by_cases h : n < 16
    · rw [hexL_small h]
      intro b hb
      simp at hb
      subst hb
      exact dig_seen n h
    · rw [hexL_big h]
      intro b hb
      rw [List.mem_append] at hb
      rcases hb with hb | hb
      · exact ih (n / 16) (by omega) b hb
      · simp at hb
        subst hb
        exact dig_seen _ (Nat.mod_lt _ (by decide))
theorem toUInt8_toNat (n : Nat) (h : n < 256) : n.toUInt8.toNat = n := by simp [Nat.toUInt8, UInt8.toNat_ofNat']; omega
theorem shown_seen (c : Int) : ∀ b ∈ shown c, 32 ≤ b.toNat ∧ b.toNat ≤ 126 := by
  intro b hb
  unfold shown at hb
  split at hb
  · rename_i h
    simp only [List.mem_cons, List.not_mem_nil, or_false] at hb
    rcases hb with rfl | rfl | rfl | rfl
    · decide
    · decide
    · exact dig_seen _ (by omega)
    · exact dig_seen _ (Nat.mod_lt _ (by decide))
  split at hb
  · simp only [List.mem_cons, List.not_mem_nil, or_false] at hb
    rcases hb with rfl | rfl <;> decide
  split at hb
  · simp only [List.mem_cons, List.not_mem_nil, or_false] at hb
    rcases hb with rfl | rfl <;> decide
  split at hb
  · simp only [List.mem_cons, List.not_mem_nil, or_false] at hb
    rcases hb with rfl | rfl <;> decide
  split at hb
  · rename_i h
    simp only [List.mem_cons, List.not_mem_nil, or_false] at hb
    subst hb
    rw [toUInt8_toNat _ (by omega)]
    omega
  · simp only [List.mem_append, List.mem_cons, List.not_mem_nil, or_false] at hb
    rcases hb with (hb | hb) | hb
    · rcases hb with rfl | rfl | rfl <;> decide
    · exact hexL_seen _ b hb
    · subst hb; decide
theorem textL_seen (l : List Int) : ∀ b ∈ textL l, 32 ≤ b.toNat ∧ b.toNat ≤ 126 := by
  intro b hb
  simp only [textL, List.mem_flatMap] at hb
  obtain ⟨c, _, hc⟩ := hb
  exact shown_seen c b hc

/-- letters alone -/
def Letters (l : List UInt8) : Prop := ∀ b ∈ l, 97 ≤ b.toNat ∧ b.toNat ≤ 122
theorem shown_letter (b : UInt8) (h : 97 ≤ b.toNat ∧ b.toNat ≤ 122) : shown (b.toNat : Int) = [b] := by
  unfold shown
  rw [if_neg (by omega), if_neg (by omega), if_neg (by omega), if_neg (by omega), if_pos (by omega)]
  simp
theorem textL_letters (l : List UInt8) (h : Letters l) : textL (l.map fun b => (b.toNat : Int)) = l := by
  induction l with
  | nil => rfl
  | cons b l ih =>
    have h1 := shown_letter b (h b (by simp))
    have h2 := ih (fun x hx => h x (by simp [hx]))
    simp only [textL, List.map_cons, List.flatMap_cons] at *
    rw [h1, h2]
    rfl
theorem ofFrom_ascii (l : List UInt8) (h : ∀ b ∈ l, b.toNat < 128) : ∀ f pos, l.length ≤ pos + f → ofFrom (str l) f pos = (l.drop pos).map fun b => (b.toNat : Int)
  | 0, pos, hp => by rw [List.drop_of_length_le (by omega)]; rfl
  | f + 1, pos, hp => by
    rw [ofFrom]
    by_cases hl : pos < l.length
    · have hs : pos < (str l).size := by rw [str_size]; exact hl
      have hb : ((str l)[pos]'hs).toNat < 128 := h _ (by rw [str_get]; exact List.getElem_mem hl)
      have hd := decode_ascii (str l) pos hs hb
      rw [if_pos hs, List.drop_eq_getElem_cons hl, List.map_cons]
      have hc : cellAt (str l) pos = ((l[pos]).toNat : Int) := by
        unfold cellAt
        rw [hd]
        have hne : ¬ ((((str l)[pos]'hs).toNat : Int) == 65533) = true := by
          simp only [beq_iff_eq]
          omega
        rw [if_neg (fun hh => hne hh.1), str_get]
        rfl
      rw [hc, hd, ofFrom_ascii l h f (pos + 1) (by omega)]
      rfl
    · rw [if_neg (by rw [str_size]; exact hl), List.drop_of_length_le (by omega)]
      rfl
theorem ofL_ascii (l : List UInt8) (h : ∀ b ∈ l, b.toNat < 128) : ofL (str l) = l.map fun b => (b.toNat : Int) := by
  unfold ofL
  rw [ofFrom_ascii l h _ 0 (by rw [str_size]; omega)]
  rfl
theorem text_of_letters (l : List UInt8) (h : Letters l) : str (textL (ofL (str l))) = str l := by
  rw [ofL_ascii l (fun b hb => by have := h b hb; omega), textL_letters l h]
end Go.Proofs.YtkijkkhjlfllnaaDoor.C
