/-
  Plain facts on the decoding of texts. No condition.
-/
import Derived.Test.YtijlecfjgcohhaaDoorUtfB
import Derived.Test.YtijlecfjgcohhaaDoorCellQ
import Derived.Lib.DecodeN
namespace Go.Proofs.YtijlecfjgcohhaaDoor.C
open Go.RowKit
open Go.Lib (decodeN)


theorem str_size (l : List UInt8) : (str l).size = l.length := by simp [str, ByteArray.size]
theorem str_get (l : List UInt8) (i : Nat) (h : i < (str l).size) : (str l)[i]'h = l[i]'(by rw [str_size] at h; exact h) := rfl
theorem str_app (a b : List UInt8) : str a ++ str b = str (a ++ b) := by
  unfold str
  apply ByteArray.ext
  simp

theorem toUInt8_toNat (n : Nat) (h : n < 256) : n.toUInt8.toNat = n := by simp [Nat.toUInt8, UInt8.toNat_ofNat']; omega

set_option maxRecDepth 100000 in
set_option maxHeartbeats 4000000 in
theorem decodeN_cut (m n b0 b1 b2 b3 c1 c2 c3 : Nat) (hm : 1 ≤ m) (hmn : m ≤ n) (h1 : 1 < m → c1 = b1) (h2 : 2 < m → c2 = b2) (h3 : 3 < m → c3 = b3) (e1 : m = 1 → b0 < 128) (e2 : m = 2 → b1 < 128) (e3 : m = 3 → b2 < 128) (e4 : m = 4 → b3 < 128) :
    decodeN n b0 c1 c2 c3 = decodeN m b0 b1 b2 b3 := by
  rcases (show m = 1 ∨ m = 2 ∨ m = 3 ∨ m = 4 ∨ 4 < m by omega) with h | h | h | h | h
  · have := e1 h
    unfold decodeN
    rw [if_pos this, if_pos this]
  · have := h1 (by omega)
    have := e2 h
    subst_vars
    unfold decodeN
    repeat' split
    all_goals first | rfl | (exfalso; omega)
  · have := h1 (by omega)
    have := h2 (by omega)
    have := e3 h
    subst_vars
    unfold decodeN
    repeat' split
    all_goals first | rfl | (exfalso; omega)
  · have := h1 (by omega)
    have := h2 (by omega)
    have := h3 (by omega)
    have := e4 h
    subst_vars
    unfold decodeN
    repeat' split
    all_goals first | rfl | (exfalso; omega)
  · have := h1 (by omega)
    have := h2 (by omega)
    have := h3 (by omega)
    subst_vars
    unfold decodeN
    repeat' split
    all_goals first | rfl | (exfalso; omega)
theorem decodeN_le (m b0 b1 b2 b3 : Nat) (hm : 1 ≤ m) : (decodeN m b0 b1 b2 b3).2 ≤ m := by
  unfold decodeN
  repeat' split
  all_goals simp only
  all_goals omega
theorem decodeN_right (m b0 b1 b2 b3 : Nat) : (decodeN m b0 b1 b2 b3).1 < 55296 ∨ (57344 ≤ (decodeN m b0 b1 b2 b3).1 ∧ (decodeN m b0 b1 b2 b3).1 ≤ 1114111) := by
  unfold decodeN
  repeat' split
  all_goals simp only
  all_goals omega
theorem decodeN_bad (m b0 b1 b2 b3 : Nat) (h : (decodeN m b0 b1 b2 b3).1 = 65533) (hn : ¬ (3 ≤ m ∧ b0 = 239 ∧ b1 = 191 ∧ b2 = 189)) : decodeN m b0 b1 b2 b3 = (65533, 1) := by
  revert h
  unfold decodeN
  repeat' split
  all_goals intro h
  all_goals first | rfl | (exfalso; simp only at h; omega)
theorem decodeN_fffd (m b3 : Nat) (h : 3 ≤ m) : decodeN m 239 191 189 b3 = (65533, 3) := by
  unfold decodeN
  rw [if_neg (by omega), if_neg (by omega), if_pos (by omega), if_pos (by omega)]

/-- the byte at a place, 0 behind the end -/
def gb (s : ByteArray) (i : Nat) : Nat := (s.get! i).toNat
theorem gb_list (s : ByteArray) (i : Nat) : gb s i = (s.data.toList.getD i 0).toNat := by
  unfold gb
  congr 1
  show s.data[i]! = _
  by_cases h : i < s.data.size
  · rw [getElem!_pos s.data i h, List.getD_eq_getElem?_getD, List.getElem?_eq_getElem (by simpa using h)]
    simp
  · rw [getElem!_neg s.data i h, List.getD_eq_getElem?_getD, List.getElem?_eq_none (by simpa using h)]
    rfl
theorem gb_lt (s : ByteArray) (i : Nat) : gb s i < 256 := (s.get! i).toNat_lt
def cellN (n b0 b1 b2 b3 : Nat) : Int := if decodeN n b0 b1 b2 b3 = (65533, 1) then -1 - (b0 : Int) else ((decodeN n b0 b1 b2 b3).1 : Int)
theorem decode_gb (s : ByteArray) (i : Nat) : Utf8.decode s i = decodeN (s.size - i) (gb s i) (gb s (i + 1)) (gb s (i + 2)) (gb s (i + 3)) := Lib.decode_at s i

theorem hasP_iff (s : ByteArray) (pos : Nat) (hp : pos < s.size) : hasP s pos = true ↔ (3 ≤ s.size - pos ∧ gb s pos = 239 ∧ gb s (pos + 1) = 191 ∧ gb s (pos + 2) = 189) := by
  have hl : s.size = s.data.toList.length := (Array.length_toList (xs := s.data)).symm
  have he : (s.extract pos s.size).data.toList = s.data.toList.drop pos := by
    rw [Lib.extract_data]
    exact List.take_of_length_le (by rw [List.length_drop]; omega)
  unfold hasP Lib.hasPrefix
  rw [he, List.isPrefixOf_iff_prefix]
  simp only [gb_list]
  rw [hl]
  generalize s.data.toList = l
  have hg : ∀ k, l.getD (pos + k) 0 = (l.drop pos).getD k 0 := by
    intro k
    simp [List.getD_eq_getElem?_getD]
  have hlen : l.length - pos = (l.drop pos).length := by simp
  have hg0 := hg 0
  rw [Nat.add_zero] at hg0
  rw [hg0, hg 1, hg 2, hlen]
  generalize l.drop pos = d
  constructor
  · rintro ⟨r, rfl⟩
    simp
  · rintro ⟨h3, h0, h1, h2⟩
    match d, h3, h0, h1, h2 with
    | a :: b :: c :: r, _, h0, h1, h2 =>
      simp at h0 h1 h2
      have e0 : a = 239 := UInt8.toNat_inj.1 h0
      have e1 : b = 191 := UInt8.toNat_inj.1 h1
      have e2 : c = 189 := UInt8.toNat_inj.1 h2
      subst e0 e1 e2
      exact ⟨r, rfl⟩
theorem cellAt_eq (s : ByteArray) (pos : Nat) (hp : pos < s.size) : cellAt s pos = cellN (s.size - pos) (gb s pos) (gb s (pos + 1)) (gb s (pos + 2)) (gb s (pos + 3)) := by
  have hd := decode_gb s pos
  unfold cellAt cellN
  rw [hd]
  by_cases hbad : decodeN (s.size - pos) (gb s pos) (gb s (pos + 1)) (gb s (pos + 2)) (gb s (pos + 3)) = (65533, 1)
  · have hh : hasP s pos = false := by
      cases h : hasP s pos with
      | false => rfl
      | true =>
        obtain ⟨h1, h2, h3, h4⟩ := (hasP_iff s pos hp).1 h
        rw [h2, h3, h4, decodeN_fffd _ _ h1] at hbad
        cases hbad
    rw [if_pos hbad, hbad, if_pos ⟨by decide, hh⟩]
    rfl
  · rw [if_neg hbad, if_neg]
    rintro ⟨h1, h2⟩
    have h1' : (decodeN (s.size - pos) (gb s pos) (gb s (pos + 1)) (gb s (pos + 2)) (gb s (pos + 3))).1 = 65533 := by
      simp only [beq_iff_eq] at h1
      omega
    refine hbad (decodeN_bad _ _ _ _ _ h1' ?_)
    intro h3
    rw [(hasP_iff s pos hp).2 h3] at h2
    cases h2
theorem cellN_right (m b0 b1 b2 b3 : Nat) (h : b0 < 256) : rightB (cellN m b0 b1 b2 b3) = true := by
  have hr := decodeN_right m b0 b1 b2 b3
  unfold cellN rightB
  split
  · simp; omega
  · simp; omega
theorem ofFrom_right (s : ByteArray) : ∀ f pos, ∀ c ∈ ofFrom s f pos, rightB c = true
  | 0, _, c, h => by simp [ofFrom] at h
  | f + 1, pos, c, h => by
    rw [ofFrom] at h
    split at h
    · rename_i hp
      rcases List.mem_cons.1 h with rfl | h
      · rw [cellAt_eq s pos hp]
        exact cellN_right _ _ _ _ _ (gb_lt _ _)
      · exact ofFrom_right s f _ c h
    · simp at h
theorem ofL_right (s : ByteArray) : ∀ c ∈ ofL s, rightB c = true := ofFrom_right s _ _
theorem ofFrom_fuel (s : ByteArray) : ∀ f g pos, s.size ≤ pos + f → s.size ≤ pos + g → ofFrom s f pos = ofFrom s g pos
  | 0, 0, _, _, _ => rfl
  | 0, g + 1, pos, hf, _ => by rw [ofFrom, ofFrom, if_neg (by omega)]
  | f + 1, 0, pos, _, hg => by rw [ofFrom, ofFrom, if_neg (by omega)]
  | f + 1, g + 1, pos, hf, hg => by
    rw [ofFrom, ofFrom]
    split
    · rename_i hp
      have hw := Lib.decode_width_pos s pos hp
      rw [ofFrom_fuel s f g _ (by omega) (by omega)]
    · rfl

/-- the bytes of two texts, one behind the other -/
theorem gb_left (u t : ByteArray) (i : Nat) (h : i < u.size) : gb (u ++ t) i = gb u i := by
  simp only [gb_list]
  have hl : u.size = u.data.toList.length := (Array.length_toList (xs := u.data)).symm
  rw [ByteArray.data_append, Array.toList_append, List.getD_eq_getElem?_getD, List.getD_eq_getElem?_getD, List.getElem?_append_left (by omega)]
theorem gb_right (u t : ByteArray) (i : Nat) : gb (u ++ t) (u.size + i) = gb t i := by
  simp only [gb_list]
  have hl : u.size = u.data.toList.length := (Array.length_toList (xs := u.data)).symm
  rw [ByteArray.data_append, Array.toList_append, hl, List.getD_eq_getElem?_getD, List.getD_eq_getElem?_getD, List.getElem?_append_right (by omega), Nat.add_sub_cancel_left]
theorem size_app (u t : ByteArray) : (u ++ t).size = u.size + t.size := ByteArray.size_append

theorem dec_left (u t : ByteArray) (pos : Nat) (hp : pos < u.size) (hend : gb u (u.size - 1) < 128) :
    decodeN ((u ++ t).size - pos) (gb (u ++ t) pos) (gb (u ++ t) (pos + 1)) (gb (u ++ t) (pos + 2)) (gb (u ++ t) (pos + 3)) = decodeN (u.size - pos) (gb u pos) (gb u (pos + 1)) (gb u (pos + 2)) (gb u (pos + 3)) := by
  rw [gb_left u t pos hp, size_app]
  refine decodeN_cut _ _ _ _ _ _ _ _ _ (by omega) (by omega) (fun h => gb_left _ _ _ (by omega)) (fun h => gb_left _ _ _ (by omega)) (fun h => gb_left _ _ _ (by omega)) ?_ ?_ ?_ ?_
  · intro h; rw [show pos = u.size - 1 by omega]; exact hend
  · intro h; rw [show pos + 1 = u.size - 1 by omega]; exact hend
  · intro h; rw [show pos + 2 = u.size - 1 by omega]; exact hend
  · intro h; rw [show pos + 3 = u.size - 1 by omega]; exact hend
theorem dec_right (u t : ByteArray) (q : Nat) :
    decodeN ((u ++ t).size - (u.size + q)) (gb (u ++ t) (u.size + q)) (gb (u ++ t) (u.size + q + 1)) (gb (u ++ t) (u.size + q + 2)) (gb (u ++ t) (u.size + q + 3)) = decodeN (t.size - q) (gb t q) (gb t (q + 1)) (gb t (q + 2)) (gb t (q + 3)) := by
  rw [Nat.add_assoc u.size q 1, Nat.add_assoc u.size q 2, Nat.add_assoc u.size q 3, gb_right, gb_right, gb_right, gb_right, size_app]
  congr 1
  omega
theorem cell_left (u t : ByteArray) (pos : Nat) (hp : pos < u.size) (hend : gb u (u.size - 1) < 128) : cellAt (u ++ t) pos = cellAt u pos := by
  rw [cellAt_eq _ _ (by rw [size_app]; omega), cellAt_eq _ _ hp]
  unfold cellN
  rw [dec_left u t pos hp hend, gb_left u t pos hp]
theorem cell_right (u t : ByteArray) (q : Nat) (hq : q < t.size) : cellAt (u ++ t) (u.size + q) = cellAt t q := by
  rw [cellAt_eq _ _ (by rw [size_app]; omega), cellAt_eq _ _ hq]
  unfold cellN
  rw [dec_right u t q, gb_right u t q]
theorem ofFrom_behind (u t : ByteArray) : ∀ f q, ofFrom (u ++ t) f (u.size + q) = ofFrom t f q
  | 0, _ => rfl
  | f + 1, q => by
    rw [ofFrom, ofFrom]
    by_cases hq : q < t.size
    · rw [if_pos (by rw [size_app]; omega), if_pos hq, cell_right u t q hq, decode_gb, decode_gb, dec_right u t q, Nat.add_assoc, ofFrom_behind u t f]
    · rw [if_neg (by rw [size_app]; omega), if_neg hq]
theorem ofFrom_both (u t : ByteArray) (hend : gb u (u.size - 1) < 128) : ∀ f pos, pos ≤ u.size → u.size + t.size ≤ pos + f → ofFrom (u ++ t) f pos = ofFrom u f pos ++ ofL t
  | 0, pos, hp, hf => by
    have h0 : t.size = 0 := by omega
    unfold ofL
    rw [h0]
    rfl
  | f + 1, pos, hp, hf => by
    by_cases hlt : pos < u.size
    · have hw := Lib.decode_width_pos u pos hlt
      have hle := decodeN_le (u.size - pos) (gb u pos) (gb u (pos + 1)) (gb u (pos + 2)) (gb u (pos + 3)) (by omega)
      rw [ofFrom, ofFrom, if_pos (by rw [size_app]; omega), if_pos hlt, cell_left u t pos hlt hend]
      have hd : Utf8.decode (u ++ t) pos = Utf8.decode u pos := by rw [decode_gb, decode_gb, dec_left u t pos hlt hend]
      rw [hd]
      rw [← decode_gb] at hle
      rw [ofFrom_both u t hend f _ (by omega) (by omega)]
      rfl
    · obtain rfl : pos = u.size := by omega
      have h1 : ofFrom (u ++ t) (f + 1) u.size = ofFrom t (f + 1) 0 := ofFrom_behind u t (f + 1) 0
      rw [h1, show ofFrom u (f + 1) u.size = [] by rw [ofFrom, if_neg (by omega)], List.nil_append]
      exact ofFrom_fuel t _ _ _ (by omega) (by omega)
theorem ofL_both (u t : ByteArray) (hend : gb u (u.size - 1) < 128) : ofL (u ++ t) = ofL u ++ ofL t := by
  unfold ofL
  rw [ofFrom_both u t hend _ 0 (by omega) (by rw [size_app]; omega), ofFrom_fuel u _ u.size 0 (by rw [size_app]; omega) (by omega)]
  rfl
end Go.Proofs.YtijlecfjgcohhaaDoor.C
