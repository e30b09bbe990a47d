/-
  Plain facts on UTF-8: bytes as lists of numbers, their cells, the bytes of cells; there and back. No condition.
-/
import Derived.Test.YtijlecfjgcohhaaDoorUtfU
import Derived.Lib.RuneBytes
import Derived.Laws.BytesArg
namespace Go.Proofs.YtijlecfjgcohhaaDoor.C
open Go.RowKit
open Go.Lib (decodeN)

/-- numbers that are bytes -/
def Bd (zs : List Int) : Prop := ∀ z ∈ zs, 0 ≤ z ∧ z ≤ 255
theorem bd_nil : Bd [] := by intro z hz; simp at hz
theorem bd_cons {z : Int} {zs : List Int} (h0 : 0 ≤ z ∧ z ≤ 255) (h : Bd zs) : Bd (z :: zs) := by
  intro x hx
  rcases List.mem_cons.1 hx with rfl | hx
  · exact h0
  · exact h x hx
theorem bd_app {a b : List Int} (ha : Bd a) (hb : Bd b) : Bd (a ++ b) := by
  intro x hx
  rcases List.mem_append.1 hx with hx | hx
  · exact ha x hx
  · exact hb x hx
theorem bd_left {a b : List Int} (h : Bd (a ++ b)) : Bd a := fun x hx => h x (List.mem_append_left _ hx)
theorem bd_drop {zs : List Int} (h : Bd zs) (k : Nat) : Bd (zs.drop k) := fun x hx => h x (List.mem_of_mem_drop hx)
theorem bd_take {zs : List Int} (h : Bd zs) (k : Nat) : Bd (zs.take k) := fun x hx => h x (List.mem_of_mem_take hx)
/-- their text -/
def sb (zs : List Int) : ByteArray := strOfNums zs
theorem sb_size (zs : List Int) : (sb zs).size = zs.length := strOfNums_size zs
theorem sb_app (a b : List Int) : sb a ++ sb b = sb (a ++ b) := by
  have := str_app (a.map fun n => UInt8.ofNat n.toNat) (b.map fun n => UInt8.ofNat n.toNat)
  unfold sb strOfNums
  unfold str at this
  rw [this, List.map_append]
def nb (zs : List Int) (i : Nat) : Nat := (zs.getD i 0).toNat
theorem nb_drop (zs : List Int) (k i : Nat) : nb (zs.drop k) i = nb zs (k + i) := by
  unfold nb
  simp [List.getD_eq_getElem?_getD]
theorem gb_sb {zs : List Int} (h : Bd zs) (i : Nat) : gb (sb zs) i = nb zs i := by
  rw [gb_list]
  unfold sb nb
  rw [strOfNums_data]
  simp only [List.getD_eq_getElem?_getD, List.getElem?_map]
  rcases Nat.lt_or_ge i zs.length with hi | hi
  · have := h zs[i] (List.getElem_mem hi)
    simp [List.getElem?_eq_getElem hi, UInt8.toNat_ofNat']
    omega
  · simp [List.getElem?_eq_none hi]
theorem sb_inj {a b : List Int} (ha : Bd a) (hb : Bd b) (h : sb a = sb b) : a = b := by
  have hl : a.length = b.length := by rw [← sb_size, ← sb_size, h]
  refine List.ext_getElem hl fun i h1 h2 => ?_
  have e : nb a i = nb b i := by rw [← gb_sb ha, ← gb_sb hb, h]
  have x := ha a[i] (List.getElem_mem h1)
  have y := hb b[i] (List.getElem_mem h2)
  unfold nb at e
  simp [List.getD_eq_getElem?_getD, List.getElem?_eq_getElem h1, List.getElem?_eq_getElem h2] at e
  omega
theorem nb_lt {zs : List Int} (h : Bd zs) (i : Nat) : nb zs i < 256 := by
  rw [← gb_sb h]
  exact gb_lt _ _

/-- the bytes of a cell, and of cells -/
def encC (c : Int) : List Int := if c < 0 then [-1 - c] else Lib.encodeRuneZ c
def encL (l : List Int) : List Int := l.flatMap encC
theorem encL_nil : encL [] = [] := rfl
theorem encL_cons (c : Int) (l : List Int) : encL (c :: l) = encC c ++ encL l := by simp [encL]
theorem encL_snoc (l : List Int) (c : Int) : encL (l ++ [c]) = encL l ++ encC c := by simp [encL]
theorem encC_len (c : Int) : 1 ≤ (encC c).length ∧ (encC c).length ≤ 4 := by
  unfold encC
  split
  · simp
  · exact Lib.encodeRuneZ_length c
theorem encL_len (l : List Int) : l.length ≤ (encL l).length ∧ (encL l).length ≤ 4 * l.length := by
  induction l with
  | nil => simp [encL_nil]
  | cons c l ih =>
    have := encC_len c
    rw [encL_cons]
    simp only [List.length_append, List.length_cons]
    omega
theorem encC_bd {c : Int} (h : rightB c = true) : Bd (encC c) := by
  unfold rightB at h
  simp at h
  unfold encC
  split
  · exact bd_cons (by omega) bd_nil
  · intro x hx
    have := Lib.encodeRuneZ_byte c x hx
    omega
theorem encL_bd {l : List Int} (h : ∀ c ∈ l, rightB c = true) : Bd (encL l) := by
  induction l with
  | nil => exact bd_nil
  | cons c l ih =>
    rw [encL_cons]
    exact bd_app (encC_bd (h c List.mem_cons_self)) (ih fun x hx => h x (List.mem_cons_of_mem _ hx))

/-- the cell at a place, told back -/
theorem enc_cell (m b0 b1 b2 b3 : Nat) (_hm : 1 ≤ m) (h0 : b0 < 256) (h1 : b1 < 256) (_h2 : b2 < 256) (h3 : b3 < 256) :
    encC (cellN m b0 b1 b2 b3) = ([(b0 : Int), (b1 : Int), (b2 : Int), (b3 : Int)]).take (decodeN m b0 b1 b2 b3).2 := by
  unfold cellN
  by_cases hbad : decodeN m b0 b1 b2 b3 = (65533, 1)
  · rw [if_pos hbad, hbad]
    unfold encC
    rw [if_pos (by omega)]
    simp
    omega
  · rw [if_neg hbad]
    unfold encC
    rw [if_neg (by omega)]
    revert hbad
    unfold decodeN
    split
    · intro _
      rw [Lib.encodeRuneZ_one (by simp) (by simp; omega)]
      simp
    · split
      · split
        · intro _
          rw [Lib.encodeRuneZ_two (by simp; omega) (by simp; omega)]
          simp
          omega
        · intro h; exact absurd rfl h
      · split
        · split
          · intro _
            rw [Lib.encodeRuneZ_three (by simp; omega)]
            simp
            omega
          · intro h; exact absurd rfl h
        · split
          · split
            · intro _
              rw [Lib.encodeRuneZ_four (by simp; omega) (by simp; omega)]
              simp
              omega
            · intro h; exact absurd rfl h
          · intro h; exact absurd rfl h
theorem width4 (m b0 b1 b2 b3 : Nat) : (decodeN m b0 b1 b2 b3).2 ≤ 4 := by
  unfold decodeN
  repeat' split
  all_goals simp
theorem take_four {d : List Int} (hd : Bd d) : ∀ w, w ≤ 4 → w ≤ d.length → ([(nb d 0 : Int), (nb d 1 : Int), (nb d 2 : Int), (nb d 3 : Int)]).take w = d.take w := by
  intro w h4 hl
  refine List.ext_getElem (by simp; omega) fun i h1 h2 => ?_
  simp only [List.getElem_take]
  have hi : i < d.length := by simp at h2; omega
  have hb := hd d[i] (List.getElem_mem hi)
  have e : (nb d i : Int) = d[i] := by
    unfold nb
    simp [List.getD_eq_getElem?_getD, List.getElem?_eq_getElem hi]
    omega
  have hi4 : i < 4 := by simp at h1; omega
  match i, hi4 with
  | 0, _ => exact e
  | 1, _ => exact e
  | 2, _ => exact e
  | 3, _ => exact e
theorem cellAt_sb {zs : List Int} (h : Bd zs) (pos : Nat) (hp : pos < zs.length) : cellAt (sb zs) pos = cellN (zs.length - pos) (nb zs pos) (nb zs (pos + 1)) (nb zs (pos + 2)) (nb zs (pos + 3)) := by
  rw [cellAt_eq _ _ (by rw [sb_size]; exact hp), sb_size, gb_sb h, gb_sb h, gb_sb h, gb_sb h]
theorem decode_sb {zs : List Int} (h : Bd zs) (pos : Nat) : Utf8.decode (sb zs) pos = decodeN (zs.length - pos) (nb zs pos) (nb zs (pos + 1)) (nb zs (pos + 2)) (nb zs (pos + 3)) := by
  rw [decode_gb, sb_size, gb_sb h, gb_sb h, gb_sb h, gb_sb h]
theorem enc_ofFrom {zs : List Int} (h : Bd zs) : ∀ f pos, zs.length ≤ pos + f → encL (ofFrom (sb zs) f pos) = zs.drop pos
  | 0, pos, hf => by rw [List.drop_of_length_le (by omega)]; rfl
  | f + 1, pos, hf => by
    rw [ofFrom, sb_size]
    split
    · rename_i hp
      have hw := Lib.decode_width_pos (sb zs) pos (by rw [sb_size]; exact hp)
      rw [encL_cons, enc_ofFrom h f _ (by omega), cellAt_sb h pos hp, enc_cell _ _ _ _ _ (by omega) (nb_lt h _) (nb_lt h _) (nb_lt h _) (nb_lt h _), ← decode_sb h]
      have e := take_four (bd_drop h pos) (Utf8.decode (sb zs) pos).2 (by rw [decode_sb h]; exact width4 _ _ _ _ _) (by
        rw [decode_sb h, List.length_drop]
        exact decodeN_le _ _ _ _ _ (by omega))
      simp only [nb_drop, Nat.add_zero] at e
      rw [e, ← List.drop_drop, List.take_append_drop]
    · rename_i hp
      rw [List.drop_of_length_le (by omega)]
      rfl
theorem enc_of {zs : List Int} (h : Bd zs) : encL (ofL (sb zs)) = zs := by
  unfold ofL
  rw [enc_ofFrom h _ 0 (by rw [sb_size]; omega)]
  rfl

theorem nb_app_left (a b : List Int) (i : Nat) (h : i < a.length) : nb (a ++ b) i = nb a i := by
  unfold nb
  simp [List.getD_eq_getElem?_getD, List.getElem?_append_left h]
/-- a scalar's bytes are decoded to it -/
theorem dec_enc {c : Int} (h : rightB c = true) (h0 : 0 ≤ c) (t : List Int) :
    decodeN (encC c ++ t).length (nb (encC c ++ t) 0) (nb (encC c ++ t) 1) (nb (encC c ++ t) 2) (nb (encC c ++ t) 3) = (c.toNat, (encC c).length) ∧ ¬ (c.toNat, (encC c).length) = (65533, 1) := by
  unfold rightB at h
  simp at h
  have e : encC c = Lib.encodeRuneZ c := by unfold encC; rw [if_neg (by omega)]
  rw [e]
  by_cases c1 : c ≤ 127
  · rw [Lib.encodeRuneZ_one h0 c1]
    refine ⟨?_, by simp; omega⟩
    unfold decodeN nb
    simp
    omega
  by_cases c2 : c ≤ 2047
  · rw [Lib.encodeRuneZ_two (by omega) c2]
    refine ⟨?_, by simp⟩
    unfold decodeN nb
    simp
    rw [if_neg (by omega), if_pos (by omega), if_pos (by omega)]
    simp
    omega
  by_cases c3 : c ≤ 65535
  · rw [Lib.encodeRuneZ_three (by omega)]
    refine ⟨?_, by simp⟩
    unfold decodeN nb
    simp
    rw [if_neg (by omega), if_neg (by omega), if_pos (by omega), if_pos (by omega)]
    simp
    omega
  · rw [Lib.encodeRuneZ_four (by omega) (by omega)]
    refine ⟨?_, by simp⟩
    unfold decodeN nb
    simp
    rw [if_neg (by omega), if_neg (by omega), if_neg (by omega), if_pos (by omega), if_pos (by omega)]
    simp
    omega
theorem of_enc_cons {c : Int} (h : rightB c = true) (h0 : 0 ≤ c) {t : List Int} (ht : Bd t) : ofL (sb (encC c ++ t)) = c :: ofL (sb t) := by
  have hb : Bd (encC c ++ t) := bd_app (encC_bd h) ht
  have hl := encC_len c
  obtain ⟨hd, hne⟩ := dec_enc h h0 t
  unfold ofL
  obtain ⟨f, hf⟩ : ∃ f, (sb (encC c ++ t)).size = f + 1 := ⟨(sb (encC c ++ t)).size - 1, by rw [sb_size]; simp; omega⟩
  rw [hf, ofFrom, if_pos (by omega), cellAt_sb hb 0 (by simp; omega), decode_sb hb 0]
  simp only [Nat.sub_zero, Nat.zero_add]
  rw [hd]
  unfold cellN
  rw [hd, if_neg hne]
  have hs : (encC c).length = (sb (encC c)).size := (sb_size _).symm
  have e := ofFrom_behind (sb (encC c)) (sb t) f 0
  rw [sb_app] at e
  simp only [Nat.add_zero] at e
  rw [hs, e, ofFrom_fuel (sb t) f (sb t).size 0 (by rw [sb_size] at hf ⊢; simp at hf; omega) (by omega)]
  simp
  omega
theorem of_enc {l : List Int} (h : ∀ c ∈ l, rightB c = true ∧ 0 ≤ c) : ofL (sb (encL l)) = l := by
  induction l with
  | nil => rfl
  | cons c l ih =>
    rw [encL_cons, of_enc_cons (h c List.mem_cons_self).1 (h c List.mem_cons_self).2 (encL_bd fun x hx => (h x (List.mem_cons_of_mem _ hx)).1), ih fun x hx => h x (List.mem_cons_of_mem _ hx)]

/-- bytes none of which begins a sequence -/
theorem ofFrom_bad {zs : List Int} (h : Bd zs) (hb : ∀ pos, pos < zs.length → decodeN (zs.length - pos) (nb zs pos) (nb zs (pos + 1)) (nb zs (pos + 2)) (nb zs (pos + 3)) = (65533, 1)) :
    ∀ f pos, zs.length ≤ pos + f → ofFrom (sb zs) f pos = (zs.drop pos).map fun z => -1 - z
  | 0, pos, hf => by rw [List.drop_of_length_le (by omega)]; rfl
  | f + 1, pos, hf => by
    rw [ofFrom, sb_size]
    split
    · rename_i hp
      have hz := h zs[pos] (List.getElem_mem hp)
      rw [cellAt_sb h pos hp, decode_sb h, hb pos hp, ofFrom_bad h hb f _ (by omega), List.drop_eq_getElem_cons hp]
      unfold cellN
      rw [if_pos (hb pos hp)]
      have e : (nb zs pos : Int) = zs[pos] := by
        unfold nb
        simp [List.getD_eq_getElem?_getD, List.getElem?_eq_getElem hp]
        omega
      rw [e]
      rfl
    · rename_i hp
      rw [List.drop_of_length_le (by omega)]
      rfl
theorem of_bad {zs : List Int} (h : Bd zs) (hb : ∀ pos, pos < zs.length → decodeN (zs.length - pos) (nb zs pos) (nb zs (pos + 1)) (nb zs (pos + 2)) (nb zs (pos + 3)) = (65533, 1)) : ofL (sb zs) = zs.map fun z => -1 - z := by
  unfold ofL
  rw [ofFrom_bad h hb _ 0 (by rw [sb_size]; omega)]
  rfl
end Go.Proofs.YtijlecfjgcohhaaDoor.C
