/-
  Contracts of the document's own wordly, word, quoted, blank and hex. No condition.
-/
import Derived.Test.YtnifcgiajjmogaaGreatDoorLyB
namespace Go.Proofs.YtnifcgiajjmogaaGreatDoor.C
open Go.RowKit

set_option maxHeartbeats 1000000 in
theorem wordly_any (b : UInt8) (w : World) : Calls Tryz.prog 50 #[.int .u8 b.toNat] w fun e w' => e = .returned (.bool (isW b)) ∧ w' = w := by
  have hlt : b.toNat < 256 := b.toNat_lt
  obtain ⟨n, hn⟩ : ∃ n, b.toNat = n := ⟨_, rfl⟩
  have key : isW b = decide (97 ≤ n ∧ n ≤ 122 ∨ 65 ≤ n ∧ n ≤ 90 ∨ 48 ≤ n ∧ n ≤ 57 ∨ n = 45 ∨ n = 95) := by unfold isW; rw [hn]
  rw [key, hn]
  clear key hn
  have fin : ∀ (x : Bool) (e : Ending), (x = decide (97 ≤ n ∧ n ≤ 122 ∨ 65 ≤ n ∧ n ≤ 90 ∨ 48 ≤ n ∧ n ≤ 57 ∨ n = 45 ∨ n = 95)) → e = .returned (.bool x) → e = .returned (.bool (decide (97 ≤ n ∧ n ≤ 122 ∨ 65 ≤ n ∧ n ≤ 90 ∨ 48 ≤ n ∧ n ≤ 57 ∨ n = 45 ∨ n = 95))) := fun x e h h2 => by rw [h2, h]
  go_enter Tryz.func50, Tryz.ntmps50
  go_wp2
  all_goals go_ret
  all_goals refine ⟨fin _ _ ?_ rfl, rfl⟩
  all_goals first | (rw [eq_comm, decide_eq_true_iff]; omega) | (rw [eq_comm, decide_eq_false_iff_not]; omega) | (rw [Bool.eq_iff_iff]; simp; omega)
theorem wordly_yes (b : UInt8) (w : World) (h : isW b = true) : Calls Tryz.prog 50 #[.int .u8 b.toNat] w fun e w' => e = .returned (.bool true) ∧ w' = w := by
  have := wordly_any b w
  rwa [h] at this
theorem wordly_no (b : UInt8) (w : World) (h : isW b = false) : Calls Tryz.prog 50 #[.int .u8 b.toNat] w fun e w' => e = .returned (.bool false) ∧ w' = w := by
  have := wordly_any b w
  rwa [h] at this
set_option maxHeartbeats 1000000 in
theorem word_ref (s : ByteArray) (w : World) (hs : s.size ≤ 4000) : Calls Tryz.prog 33 #[.string s] w fun e w' => e = .returned (.int .i64 ((wordL s.data.toList).length : Nat)) ∧ w' = w := by
  go_enter Tryz.func33, Tryz.ntmps33
  go_wp2
  go_loop [3] (fun i => ∃ k : Nat, k ≤ s.size ∧ i = .int .i64 k ∧ Hid (wordL s.data.toList = s.data.toList.take k ++ wordL (s.data.toList.drop k))) (fun i => s.size - (intOf i).toNat)
  case atStart => exact ⟨0, Nat.zero_le _, rfl, Lib.hid (by simp)⟩
  case round =>
    obtain ⟨k, hk, rfl, HK⟩ := hrel
    by_cases hlt : k < s.size
    · have hb : s.data.toList[k]? = some (s[k]'hlt) := by
        rw [Array.getElem?_toList]
        exact Array.getElem?_eq_getElem hlt
      have HB := Lib.hid hb
      clear hb
      by_cases hw : isW (s[k]'hlt) = true
      · have HW := Lib.hid hw
        go_wp2_with (go_at_call 50; refine (wordly_yes _ _ HW.out).mono ?_; rintro e w' ⟨rfl, rfl⟩)
        go_round
        case rel => exact ⟨k + 1, by omega, by go_num, Lib.hid (word_step HB.out HW.out HK.out)⟩
        case measure => simp [intOf]; omega
      · have hw' : isW (s[k]'hlt) = false := by simpa using hw
        have HW := Lib.hid hw'
        clear hw hw'
        go_wp2_with (go_at_call 50; refine (wordly_no _ _ HW.out).mono ?_; rintro e w' ⟨rfl, rfl⟩)
        go_ret
        refine ⟨?_, rfl⟩
        rw [word_end HB.out HW.out HK.out, List.length_take, size_list, Nat.min_eq_left hk]
        rfl
    · obtain rfl : k = s.size := by omega
      go_wp2
      go_ret
      refine ⟨?_, rfl⟩
      have h := HK.out
      rw [← size_list, List.drop_length, List.take_length] at h
      have h2 : wordL s.data.toList = s.data.toList := by simpa [wordL] using h
      rw [h2, size_list]
      rfl

/-- how long what stands in quotes is, with them -/
def quoN (r : List UInt8) : Nat := match quoL (34 :: r) with
  | some t => t.length + 2
  | none => 0
theorem while_all {p : UInt8 → Bool} : ∀ a : List UInt8, (∀ x ∈ a, p x = true) → a.takeWhile p = a
  | [], _ => rfl
  | x :: a, h => by
    have hx := h x (by simp)
    have ih := while_all a (fun y hy => h y (by simp [hy]))
    simp [hx, ih]
theorem take_while {p : UInt8 → Bool} : ∀ (a : List UInt8) (b : UInt8) (r : List UInt8), (∀ x ∈ a, p x = true) → p b = false → (a ++ b :: r).takeWhile p = a
  | [], b, r, _, hb => by simp [hb]
  | x :: a, b, r, h, hb => by
    have hx := h x (by simp)
    have ih := take_while a b r (fun y hy => h y (by simp [hy])) hb
    simp [hx, ih]
theorem quo_hit {r : List UInt8} {k : Nat} {b : UInt8} (hb : r[k]? = some b) (h34 : b = 34) (h : ∀ x ∈ r.take k, x ≠ 34 ∧ x ≠ 10) : quoN r = k + 2 := by
  have hk : k < r.length := (List.getElem?_eq_some_iff.1 hb).1
  have hd : r.drop k = b :: r.drop (k + 1) := by
    rw [List.drop_eq_getElem_cons hk]
    congr 1
    exact (List.getElem?_eq_some_iff.1 hb).2
  have e : r = r.take k ++ b :: r.drop (k + 1) := by rw [← hd, List.take_append_drop]
  have ht : r.takeWhile (· ≠ 34) = r.take k := by
    conv => lhs; rw [e]
    exact take_while _ _ _ (fun x hx => decide_eq_true (h x hx).1) (by rw [h34]; rfl)
  have hl : (r.take k).length = k := by rw [List.length_take]; omega
  unfold quoN
  rw [quoL_cons, ht, if_pos ⟨rfl, by omega, fun hm => (h 10 hm).2 rfl⟩]
  show (r.take k).length + 2 = _
  omega
theorem quo_line {r : List UInt8} {k : Nat} {b : UInt8} (hb : r[k]? = some b) (h10 : b = 10) (h : ∀ x ∈ r.take k, x ≠ 34 ∧ x ≠ 10) : quoN r = 0 := by
  have hm : (10 : UInt8) ∈ r.takeWhile (· ≠ 34) := by
    have e : (r.take (k + 1)).takeWhile (· ≠ 34) = r.take (k + 1) := by
      refine while_all _ fun x hx => ?_
      rw [take_snoc hb, List.mem_append] at hx
      rcases hx with hx | hx
      · exact decide_eq_true (h x hx).1
      · simp at hx
        rw [hx, h10]
        rfl
    have h2 : (r.take (k + 1)) <+: r.takeWhile (· ≠ 34) := by
      rw [← e]
      conv => rhs; rw [← List.take_append_drop (k + 1) r]
      rw [List.takeWhile_append, e]
      rw [if_pos rfl]
      exact List.prefix_append _ _
    refine h2.subset ?_
    rw [take_snoc hb, h10]
    simp
  unfold quoN
  rw [quoL_cons, if_neg (fun h => h.2.2 hm)]
theorem quo_end {r : List UInt8} (h : ∀ x ∈ r, x ≠ 34 ∧ x ≠ 10) : quoN r = 0 := by
  have e : r.takeWhile (· ≠ 34) = r := by
    exact while_all _ fun x hx => decide_eq_true (h x hx).1
  unfold quoN
  rw [quoL_cons, e, if_neg (fun h => Nat.lt_irrefl _ h.2.1)]
set_option maxHeartbeats 1000000 in
theorem quoted_ref (s : ByteArray) (r : List UInt8) (w : World) (hr : s.data.toList = 34 :: r) (hs : s.size ≤ 4000) : Calls Tryz.prog 32 #[.string s] w fun e w' => e = .returned (.int .i64 (quoN r : Nat)) ∧ w' = w := by
  have hsz : s.size = r.length + 1 := by rw [← size_list, hr]; rfl
  have hat : ∀ i (h : i < s.size), 1 ≤ i → r[i - 1]? = some (s[i]'h) := fun i h h1 => by
    have h2 : s.data.toList[i]? = some (s[i]'h) := by
      rw [Array.getElem?_toList]
      exact Array.getElem?_eq_getElem h
    obtain ⟨j, rfl⟩ : ∃ j, i = j + 1 := ⟨i - 1, by omega⟩
    rw [hr] at h2
    exact h2
  have HA := Lib.hid hat
  clear hr hat
  go_enter Tryz.func32, Tryz.ntmps32
  go_wp2
  go_loop [3] (fun iv => ∃ i : Nat, 1 ≤ i ∧ i ≤ s.size ∧ iv = .int .i64 i ∧ Hid (∀ x ∈ r.take (i - 1), x ≠ 34 ∧ x ≠ 10)) (fun iv => s.size - (intOf iv).toNat)
  case atStart => exact ⟨1, Nat.le_refl _, by omega, rfl, Lib.hid (by simp)⟩
  case round =>
    obtain ⟨i, h1, hi, rfl, HK⟩ := hrel
    by_cases hlt : i < s.size
    · have hb := HA.out i hlt h1
      have HB := Lib.hid hb
      clear hb
      by_cases h34 : (s[i]'hlt).toNat = 34
      · have e1 : (((s[i]'hlt).toNat : Int) == 34) = true := by simp; omega
        have hq := quo_hit HB.out (ba_eq h34) HK.out
        have hq2 : ((quoN r : Nat) : Int) = (i : Int) + 1 := by omega
        have HQ := Lib.hid hq2
        clear hq hq2 h34
        go_wp2
        go_ret
        exact ⟨by rw [HQ.out]; rfl, rfl⟩
      · have e1 : (((s[i]'hlt).toNat : Int) == 34) = false := by simp; omega
        by_cases h10 : (s[i]'hlt).toNat = 10
        · have e2 : (((s[i]'hlt).toNat : Int) == 10) = true := by simp; omega
          have HQ := Lib.hid (quo_line HB.out (ba_eq h10) HK.out)
          clear h34 h10
          go_wp2
          go_ret
          exact ⟨by rw [HQ.out]; rfl, rfl⟩
        · have e2 : (((s[i]'hlt).toNat : Int) == 10) = false := by simp; omega
          have hn : ∀ x ∈ r.take (i + 1 - 1), x ≠ 34 ∧ x ≠ 10 := by
            intro x hx
            rw [show i + 1 - 1 = i - 1 + 1 by omega, take_snoc HB.out, List.mem_append] at hx
            rcases hx with hx | hx
            · exact HK.out x hx
            · simp at hx
              subst hx
              exact ⟨fun e => h34 (by rw [e]; rfl), fun e => h10 (by rw [e]; rfl)⟩
          have HN := Lib.hid hn
          clear h34 h10 hn
          go_wp2
          go_round
          case rel => exact ⟨i + 1, by omega, by omega, by go_num, HN⟩
          case measure => simp [intOf]; omega
    · obtain rfl : i = s.size := by omega
      go_wp2
      go_ret
      have h := HK.out
      rw [List.take_of_length_le (by omega)] at h
      exact ⟨by rw [quo_end h]; rfl, rfl⟩

theorem blank_one {l : List UInt8} {k : Nat} {b : UInt8} (hb : l[k]? = some b) (h : b ≠ 10) (hk : l.takeWhile (· ≠ 10) = l.take k ++ (l.drop k).takeWhile (· ≠ 10)) :
    l.takeWhile (· ≠ 10) = l.take (k + 1) ++ (l.drop (k + 1)).takeWhile (· ≠ 10) := by
  have hkl : k < l.length := (List.getElem?_eq_some_iff.1 hb).1
  have e : l.drop k = b :: l.drop (k + 1) := by
    rw [List.drop_eq_getElem_cons hkl]
    congr 1
    exact (List.getElem?_eq_some_iff.1 hb).2
  rw [e, List.takeWhile_cons, if_pos (decide_eq_true h)] at hk
  rw [hk, take_snoc hb]
  simp
theorem blank_stop {l : List UInt8} {k : Nat} (h : l.drop k = [] ∨ l[k]? = some 10) (hkl : k ≤ l.length) (hk : l.takeWhile (· ≠ 10) = l.take k ++ (l.drop k).takeWhile (· ≠ 10)) : (l.takeWhile (· ≠ 10)).length = k := by
  have e : (l.drop k).takeWhile (· ≠ 10) = [] := by
    rcases h with h | h
    · rw [h]; rfl
    · have hlt : k < l.length := (List.getElem?_eq_some_iff.1 h).1
      rw [List.drop_eq_getElem_cons hlt, (List.getElem?_eq_some_iff.1 h).2]
      rfl
  rw [hk, e, List.append_nil, List.length_take, Nat.min_eq_left hkl]
set_option maxHeartbeats 1000000 in
theorem blank_ref (s : ByteArray) (w : World) (h0 : 0 < s.size) (hs : s.size ≤ 4000) : Calls Tryz.prog 19 #[.string s] w fun e w' => e = .returned (.int .i64 (blankL s.data.toList : Nat)) ∧ w' = w := by
  have hat : ∀ i (h : i < s.size), s.data.toList[i]? = some (s[i]'h) := fun i h => by
    rw [Array.getElem?_toList]
    exact Array.getElem?_eq_getElem h
  have hl : s.data.toList = s[0]'h0 :: s.data.toList.drop 1 := by
    have := drop_ba h0
    simpa using this
  have hbl : blankL s.data.toList = if (s[0]'h0) = 32 ∨ (s[0]'h0) = 9 then 1 else if (s[0]'h0) = 37 then (s.data.toList.takeWhile (· ≠ 10)).length else 0 := by
    rw [hl, blankL_cons]
    split
    · rfl
    · split
      · rename_i h37
        rw [List.takeWhile_cons, h37]
        simp only [show (decide ((37 : UInt8) ≠ 10)) = true from rfl, if_true, List.length_cons]
        omega
      · rfl
  have HA := Lib.hid hat
  have HBL := Lib.hid hbl
  clear hat hl hbl
  by_cases h32 : (s[0]'h0).toNat = 32
  · have e1 : (((s[0]'h0).toNat : Int) == 32) = true := by simp; omega
    have hf : blankL s.data.toList = 1 := by rw [HBL.out, if_pos (.inl (ba_eq h32))]
    have HF := Lib.hid hf
    clear hf h32
    go_enter Tryz.func19, Tryz.ntmps19
    go_wp2
    go_ret
    exact ⟨by rw [HF.out]; rfl, rfl⟩
  have e1 : (((s[0]'h0).toNat : Int) == 32) = false := by simp; omega
  by_cases h9 : (s[0]'h0).toNat = 9
  · have e2 : (((s[0]'h0).toNat : Int) == 9) = true := by simp; omega
    have hf : blankL s.data.toList = 1 := by rw [HBL.out, if_pos (.inr (ba_eq h9))]
    have HF := Lib.hid hf
    clear hf h32 h9
    go_enter Tryz.func19, Tryz.ntmps19
    go_wp2
    go_ret
    exact ⟨by rw [HF.out]; rfl, rfl⟩
  have e2 : (((s[0]'h0).toNat : Int) == 9) = false := by simp; omega
  have hbl2 : blankL s.data.toList = if (s[0]'h0) = 37 then (s.data.toList.takeWhile (· ≠ 10)).length else 0 := by
    rw [HBL.out, if_neg]
    rintro (h | h)
    · exact h32 (by rw [h]; rfl)
    · exact h9 (by rw [h]; rfl)
  by_cases h37 : (s[0]'h0).toNat = 37
  · have e3 : (((s[0]'h0).toNat : Int) == 37) = true := by simp; omega
    rw [if_pos (show (s[0]'h0) = 37 from ba_eq h37)] at hbl2
    have HF := Lib.hid hbl2
    clear hbl2 h32 h9 h37 HBL
    go_enter Tryz.func19, Tryz.ntmps19
    go_wp2
    go_loop [3] (fun iv => ∃ i : Nat, i ≤ s.size ∧ iv = .int .i64 i ∧ Hid (s.data.toList.takeWhile (· ≠ 10) = s.data.toList.take i ++ (s.data.toList.drop i).takeWhile (· ≠ 10))) (fun iv => s.size - (intOf iv).toNat)
    case atStart => exact ⟨0, Nat.zero_le _, rfl, Lib.hid (by simp)⟩
    case round =>
      obtain ⟨i, hi, rfl, HK⟩ := hrel
      by_cases hlt : i < s.size
      · have HB := Lib.hid (HA.out i hlt)
        by_cases h10 : (s[i]'hlt).toNat = 10
        · have e4 : (((s[i]'hlt).toNat : Int) != 10) = false := by simp; omega
          have hq := blank_stop (.inr (by rw [HB.out, ba_eq h10]; rfl)) (by rw [size_list]; omega) HK.out
          rw [← HF.out] at hq
          have HQ := Lib.hid hq
          clear hq h10
          go_wp2
          go_ret
          exact ⟨by rw [HQ.out]; rfl, rfl⟩
        · have e4 : (((s[i]'hlt).toNat : Int) != 10) = true := by simp; omega
          have HN := Lib.hid (blank_one HB.out (fun e => h10 (by rw [e]; rfl)) HK.out)
          clear h10
          go_wp2
          go_round
          case rel => exact ⟨i + 1, by omega, by go_num, HN⟩
          case measure => simp [intOf]; omega
      · obtain rfl : i = s.size := by omega
        have hq := blank_stop (.inl (by rw [← size_list, List.drop_length])) (by rw [size_list]; omega) HK.out
        rw [← HF.out] at hq
        have HQ := Lib.hid hq
        clear hq
        go_wp2
        go_ret
        exact ⟨by rw [HQ.out]; rfl, rfl⟩
  · have e3 : (((s[0]'h0).toNat : Int) == 37) = false := by simp; omega
    rw [if_neg (fun h => h37 (by rw [h]; rfl))] at hbl2
    have HF := Lib.hid hbl2
    clear hbl2 h32 h9 h37 HBL
    go_enter Tryz.func19, Tryz.ntmps19
    go_wp2
    go_loop [3] (fun iv => iv = .int .i64 0) (fun _ => 0)
    case atStart => rfl
    case round =>
      obtain rfl := hrel
      go_wp2
      go_ret
      exact ⟨by rw [HF.out]; rfl, rfl⟩
end Go.Proofs.YtnifcgiajjmogaaGreatDoor.C
