/-
  The contract of cell.appendShown: it appends the signs that show a cell.
-/
import Derived.Test.YtkijkkhjlfllnaaDoorCellG
import Derived.Lib.AppendStr
import Derived.Lib.QuoteHex
import Derived.Deep.AppendLies
import Derived.Deep.RegionLaw
namespace Go.Proofs.YtkijkkhjlfllnaaDoor.C
open Go.RowKit

set_option maxHeartbeats 2000000 in
theorem shown_wrong (w : World) (B : Nat) (v : Value) (n : Nat) (xs : List UInt8) (c : Int) (hno : ¬ (-256 ≤ c ∧ c < 55296 ∨ 57343 < c ∧ c ≤ 1114111)) (hB : B ≤ w.heap.size) (hown : w.ownsRow B 5 1 v n (Lib.byteCells xs)) (hn : n ≤ 1099511627000) :
    Calls Tryd.prog 32 #[v, .int .i32 c] w fun e w' => ∃ v', e = .returned v' ∧ Grew B w (n + (shown c).length) (xs ++ shown c) v' w' := by
  obtain ⟨i0, hi, hz0, hz1, hz2⟩ := info_parts info5
  have hsh : shown c = [92, 63] := by
    unfold shown
    rw [if_neg (by omega), if_pos hno]
  rw [hsh]
  have HO := Lib.hid hown
  clear hown hsh
  have hr : rightB c = false := by simp [rightB]; omega
  have HR := Lib.hid hr
  clear hr
  go_enter Tryd.func32, Tryd.ntmps32
  go_wp2_with fail
  refine (byte_no c w (by omega)).mono ?_
  rintro e w' ⟨rfl, rfl⟩
  go_wp2_with fail
  refine (right_any _ _).mono ?_
  rintro e w' ⟨rfl, rfl⟩
  rw [HR.out]
  go_wp2_with (at_builtin; (refine Lib.wpList_append_own_string _ rfl _ _ 22 9 rfl B 5 i0 Tryd.underlying22 Tryd.underlying9 hi hz0 hz1 hz2 _ _ _ rfl HO.out _ rfl (by unfold maxLen; show n + 2 ≤ _; omega) (by show n + 2 ≤ _; omega) hB ?_); intro v' w3 hown' hgrow _)
  go_ret
  exact ⟨v', rfl, by rw [Lib.byteCells_append]; exact hown', (Below.refl _ _).grown hgrow hB (fun k hk => (HO.out.lt k hk).1)⟩

set_option maxHeartbeats 2000000 in
theorem shown_92 (w : World) (B : Nat) (v : Value) (n : Nat) (xs : List UInt8) (c : Int) (hc : c = 92) (hB : B ≤ w.heap.size) (hown : w.ownsRow B 5 1 v n (Lib.byteCells xs)) (hn : n ≤ 1099511627000) :
    Calls Tryd.prog 32 #[v, .int .i32 c] w fun e w' => ∃ v', e = .returned v' ∧ Grew B w (n + (shown c).length) (xs ++ shown c) v' w' := by
  obtain ⟨i0, hi, hz0, hz1, hz2⟩ := info_parts info5
  have hsh : shown c = [92, 92] := by
    unfold shown
    subst hc; rfl
  rw [hsh]
  have HO := Lib.hid hown
  clear hown hsh
  subst hc
  have hr : rightB 92 = true := by decide
  have HR := Lib.hid hr
  clear hr
  go_enter Tryd.func32, Tryd.ntmps32
  go_wp2_with fail
  refine (byte_no 92 w (by omega)).mono ?_
  rintro e w' ⟨rfl, rfl⟩
  go_wp2_with fail
  refine (right_any _ _).mono ?_
  rintro e w' ⟨rfl, rfl⟩
  rw [HR.out]
  go_wp2_with (at_builtin; (refine Lib.wpList_append_own_string _ rfl _ _ 22 9 rfl B 5 i0 Tryd.underlying22 Tryd.underlying9 hi hz0 hz1 hz2 _ _ _ rfl HO.out _ rfl (by unfold maxLen; show n + 2 ≤ _; omega) (by show n + 2 ≤ _; omega) hB ?_); intro v' w3 hown' hgrow _)
  go_ret
  exact ⟨v', rfl, by rw [Lib.byteCells_append]; exact hown', (Below.refl _ _).grown hgrow hB (fun k hk => (HO.out.lt k hk).1)⟩

set_option maxHeartbeats 2000000 in
theorem shown_10 (w : World) (B : Nat) (v : Value) (n : Nat) (xs : List UInt8) (c : Int) (hc : c = 10) (hB : B ≤ w.heap.size) (hown : w.ownsRow B 5 1 v n (Lib.byteCells xs)) (hn : n ≤ 1099511627000) :
    Calls Tryd.prog 32 #[v, .int .i32 c] w fun e w' => ∃ v', e = .returned v' ∧ Grew B w (n + (shown c).length) (xs ++ shown c) v' w' := by
  obtain ⟨i0, hi, hz0, hz1, hz2⟩ := info_parts info5
  have hsh : shown c = [92, 110] := by
    unfold shown
    subst hc; rfl
  rw [hsh]
  have HO := Lib.hid hown
  clear hown hsh
  subst hc
  have hr : rightB 10 = true := by decide
  have HR := Lib.hid hr
  clear hr
  go_enter Tryd.func32, Tryd.ntmps32
  go_wp2_with fail
  refine (byte_no 10 w (by omega)).mono ?_
  rintro e w' ⟨rfl, rfl⟩
  go_wp2_with fail
  refine (right_any _ _).mono ?_
  rintro e w' ⟨rfl, rfl⟩
  rw [HR.out]
  go_wp2_with (at_builtin; (refine Lib.wpList_append_own_string _ rfl _ _ 22 9 rfl B 5 i0 Tryd.underlying22 Tryd.underlying9 hi hz0 hz1 hz2 _ _ _ rfl HO.out _ rfl (by unfold maxLen; show n + 2 ≤ _; omega) (by show n + 2 ≤ _; omega) hB ?_); intro v' w3 hown' hgrow _)
  go_ret
  exact ⟨v', rfl, by rw [Lib.byteCells_append]; exact hown', (Below.refl _ _).grown hgrow hB (fun k hk => (HO.out.lt k hk).1)⟩

theorem byteCells_byte (c : Int) (h0 : 0 ≤ c) (h1 : c ≤ 255) : Lib.byteCells [c.toNat.toUInt8] = [.int .u8 c] := by
  have : c.toNat.toUInt8.toNat = c.toNat := by simp [Nat.toUInt8, UInt8.toNat_ofNat']; omega
  simp only [Lib.byteCells, List.map_cons, List.map_nil, this]
  rw [Int.toNat_of_nonneg h0]

set_option maxHeartbeats 2000000 in
theorem shown_plain (w : World) (B : Nat) (v : Value) (n : Nat) (xs : List UInt8) (c : Int) (h1 : 32 ≤ c) (h2 : c ≤ 126) (h3 : c ≠ 92) (hB : B ≤ w.heap.size) (hown : w.ownsRow B 5 1 v n (Lib.byteCells xs)) (hn : n ≤ 1099511627000) :
    Calls Tryd.prog 32 #[v, .int .i32 c] w fun e w' => ∃ v', e = .returned v' ∧ Grew B w (n + (shown c).length) (xs ++ shown c) v' w' := by
  obtain ⟨i0, hi, hz0, hz1, hz2⟩ := info_parts info5
  have hsh : shown c = [c.toNat.toUInt8] := by
    unfold shown
    rw [if_neg (by omega), if_neg (by omega), if_neg h3, if_neg (by omega), if_pos ⟨h1, h2⟩]
  rw [hsh]
  have HO := Lib.hid hown
  have e1 : (c == 92) = false := by simpa using h3
  have e2 : (c == 10) = false := by simp; omega
  clear hown hsh h3
  have hr : rightB c = true := by simp [rightB]; omega
  have HR := Lib.hid hr
  clear hr
  go_enter Tryd.func32, Tryd.ntmps32
  go_wp2_with fail
  refine (byte_no c w (by omega)).mono ?_
  rintro e w' ⟨rfl, rfl⟩
  go_wp2_with fail
  refine (right_any _ _).mono ?_
  rintro e w' ⟨rfl, rfl⟩
  rw [HR.out]
  go_wp2_with (at_builtin; (refine wpList_append_own _ rfl _ _ 22 rfl B 5 i0 (.int .u8 0) 1 1 Tryd.underlying22 hi hz0 hz1 hz2 rfl (by decide) _ _ _ rfl (HO.out.alloc _) _ 1 1 [.int .u8 c] rfl rfl (cell_one_new _ _ _) (by intro u hu; simp at hu; subst hu; rfl) (by unfold maxLen; omega) (by omega) (by simp; omega) ?_); intro v' w3 hown' hgrow _)
  go_ret
  exact ⟨v', rfl, by rw [Lib.byteCells_append, byteCells_byte c (by omega) (by omega)]; exact hown', ((Below.refl _ _).alloc hB _).grown hgrow (by simp; omega) (fun k hk => (HO.out.lt k hk).1)⟩

theorem strconvAppendInt_16z (w : World) (B : Nat) (v : Value) (n : Nat) (xs : List UInt8) (c : Int) (h0 : 0 ≤ c) (h1 : c ≤ 1114111) (hT : w.cell? ⟨2, 15, none⟩ = some (.int .u8 4)) (hB : B ≤ w.heap.size) (hown : w.ownsRow B 5 1 v n (Lib.byteCells xs)) (hn : n ≤ 1099511627776) :
    Calls Tryd.prog 38 #[v, .int .i64 c, .int .i64 16] w fun e w' => ∃ v', e = .returned v' ∧ Grew B w (n + (hexL c.toNat).length) (xs ++ hexL c.toNat) v' w' := by
  obtain ⟨u, rfl⟩ := Int.eq_ofNat_of_zero_le h0
  rw [Int.toNat_natCast]
  exact strconvAppendInt_16 w B v n xs u (by omega) hT hB hown hn

set_option maxHeartbeats 2000000 in
theorem shown_big (w : World) (B : Nat) (v : Value) (n : Nat) (xs : List UInt8) (c : Int) (h0 : 0 ≤ c) (h1 : c < 32 ∨ 126 < c) (h2 : c ≠ 10) (hy : -256 ≤ c ∧ c < 55296 ∨ 57343 < c ∧ c ≤ 1114111) (hT : w.cell? ⟨2, 15, none⟩ = some (.int .u8 4)) (hTB : 2 < B) (hB : B ≤ w.heap.size) (hown : w.ownsRow B 5 1 v n (Lib.byteCells xs)) (hn : n ≤ 1099511627000) :
    Calls Tryd.prog 32 #[v, .int .i32 c] w fun e w' => ∃ v', e = .returned v' ∧ Grew B w (n + (shown c).length) (xs ++ shown c) v' w' := by
  obtain ⟨i0, hi, hz0, hz1, hz2⟩ := info_parts info5
  have hsh : shown c = [92, 117, 123] ++ hexL c.toNat ++ [125] := by
    unfold shown
    rw [if_neg (by omega), if_neg (by omega), if_neg (by omega), if_neg h2, if_neg (by omega)]
  have HSH := Lib.hid hsh
  have HO := Lib.hid hown
  have e1 : (c == 92) = false := by simp; omega
  have e2 : (c == 10) = false := by simpa using h2
  have HT := Lib.hid hT
  have hlen := hexL_len 5 c.toNat (by have : (16 : Nat) ^ (5 + 1) = 16777216 := by decide
                                      omega)
  have HLEN := Lib.hid hlen
  have hr : rightB c = true := by simp [rightB]; omega
  have HR := Lib.hid hr
  clear hr
  have hle : c ≤ 1114111 := by omega
  clear hown hsh h2 hT hlen hy
  go_enter Tryd.func32, Tryd.ntmps32
  go_wp2_with fail
  refine (byte_no c w (by omega)).mono ?_
  rintro e w' ⟨rfl, rfl⟩
  go_wp2_with fail
  refine (right_any _ _).mono ?_
  rintro e w' ⟨rfl, rfl⟩
  rw [HR.out]
  rcases h1 with h1 | h1
  all_goals
    go_wp2_with (at_builtin; (refine Lib.wpList_append_own_string _ rfl _ _ 22 9 rfl B 5 i0 Tryd.underlying22 Tryd.underlying9 hi hz0 hz1 hz2 _ _ _ rfl HO.out _ rfl (by unfold maxLen; show n + 3 ≤ _; omega) (by show n + 3 ≤ _; omega) hB ?_); intro v1 w1 hown1 hgrow1 _; have hb1 : Below B w w1 := (Below.refl _ _).grown hgrow1 hB (fun k hk => (HO.out.lt k hk).1); have HO1 := Lib.hid hown1; clear hown1 hgrow1)
    have hsz1 := hb1.size
    have HO1b : Hid (w1.ownsRow B 5 1 v1 (n + 3) (Lib.byteCells (xs ++ [92, 117, 123]))) := by rw [Lib.byteCells_append]; exact HO1.out
    refine (strconvAppendInt_16z w1 B v1 (n + 3) (xs ++ [92, 117, 123]) c h0 hle ((hb1.cell (p := ⟨2, 15, none⟩) hTB).trans HT.out) (by omega) HO1b.out (by omega)).mono ?_
    rintro e w2 ⟨v2, rfl, hown2, hb2⟩
    have HO2 := Lib.hid hown2
    have hsz2 := hb2.size
    clear hown2
    go_wp2_with (at_builtin; (refine wpList_append_own _ rfl _ _ 22 rfl B 5 i0 (.int .u8 0) 1 1 Tryd.underlying22 hi hz0 hz1 hz2 rfl (by decide) _ _ _ rfl (HO2.out.alloc _) _ 1 1 [.int .u8 125] rfl rfl (cell_one_new _ _ _) (by intro u hu; simp at hu; subst hu; rfl) (by have := HLEN.out; unfold maxLen; omega) (by have := HLEN.out; omega) (by simp; omega) ?_); intro v' w3 hown' hgrow _)
    go_ret
    refine ⟨v', rfl, ?_, ?_⟩
    · have e3 : Lib.byteCells (xs ++ ([92, 117, 123] ++ hexL c.toNat ++ [125])) = Lib.byteCells (xs ++ [92, 117, 123] ++ hexL c.toNat) ++ [Value.int .u8 125] := by simp [Lib.byteCells]
      have e4 : n + ([92, 117, 123] ++ hexL c.toNat ++ [125]).length = n + 3 + (hexL c.toNat).length + 1 := by simp; omega
      rw [HSH.out, e3, e4]
      exact hown'
    · exact (((hb1.trans hb2)).alloc (by omega) _).grown hgrow (by simp; omega) (fun k hk => (HO2.out.lt k hk).1)

theorem hex16_at : ∀ (x : Nat) (h : x < (ByteArray.mk #[48, 49, 50, 51, 52, 53, 54, 55, 56, 57, 97, 98, 99, 100, 101, 102]).size), (ByteArray.mk #[48, 49, 50, 51, 52, 53, 54, 55, 56, 57, 97, 98, 99, 100, 101, 102])[x]'h = dig x
  | 0, _ => rfl
  | 1, _ => rfl
  | 2, _ => rfl
  | 3, _ => rfl
  | 4, _ => rfl
  | 5, _ => rfl
  | 6, _ => rfl
  | 7, _ => rfl
  | 8, _ => rfl
  | 9, _ => rfl
  | 10, _ => rfl
  | 11, _ => rfl
  | 12, _ => rfl
  | 13, _ => rfl
  | 14, _ => rfl
  | 15, _ => rfl
  | (x + 16), h => absurd h (by show ¬ x + 16 < 16; omega)
theorem esc_cells (xs : List UInt8) (p q : Nat) (hp : p < (ByteArray.mk #[48, 49, 50, 51, 52, 53, 54, 55, 56, 57, 97, 98, 99, 100, 101, 102]).size) (hq : q < (ByteArray.mk #[48, 49, 50, 51, 52, 53, 54, 55, 56, 57, 97, 98, 99, 100, 101, 102]).size) :
    Lib.byteCells (xs ++ [92, 120, dig p, dig q]) = Lib.byteCells xs ++ [Value.int .u8 92, Value.int .u8 120, Value.int .u8 ((ByteArray.mk #[48, 49, 50, 51, 52, 53, 54, 55, 56, 57, 97, 98, 99, 100, 101, 102])[p]'hp).toNat, Value.int .u8 ((ByteArray.mk #[48, 49, 50, 51, 52, 53, 54, 55, 56, 57, 97, 98, 99, 100, 101, 102])[q]'hq).toNat] := by
  rw [hex16_at p hp, hex16_at q hq]
  simp [Lib.byteCells]
theorem and15_u8 (b : Nat) (h : b ≤ 255) : bits BinOp.and IntKind.u8 (b : Int) 15 = ((b % 16 : Nat) : Int) := by
  have : ∀ b : Fin 256, bits BinOp.and IntKind.u8 ((b.val : Nat) : Int) 15 = ((b.val % 16 : Nat) : Int) := by decide +kernel
  exact this ⟨b, by omega⟩
theorem cell_four_new (w : World) (a b c d : Value) (t : TypeId) : ∀ j u, [a, b, c, d][j]? = some u → (w.alloc (.cells #[a, b, c, d] t)).cell? ((⟨w.heap.size, 0, none⟩ : Addr).add j) = some u := by
  intro j u h
  match j, h with
  | 0, h => simpa [Addr.add] using h
  | 1, h => simpa [Addr.add] using h
  | 2, h => simpa [Addr.add] using h
  | 3, h => simpa [Addr.add] using h

set_option maxHeartbeats 2000000 in
theorem shown_esc (w : World) (B : Nat) (v : Value) (n : Nat) (xs : List UInt8) (c : Int) (h0 : -256 ≤ c) (h1 : c < 0) (hB : B ≤ w.heap.size) (hown : w.ownsRow B 5 1 v n (Lib.byteCells xs)) (hn : n ≤ 1099511627000) :
    Calls Tryd.prog 32 #[v, .int .i32 c] w fun e w' => ∃ v', e = .returned v' ∧ Grew B w (n + (shown c).length) (xs ++ shown c) v' w' := by
  obtain ⟨i0, hi, hz0, hz1, hz2⟩ := info_parts info5
  have hsh : shown c = [92, 120, dig ((-1 - c).toNat / 16), dig ((-1 - c).toNat % 16)] := by
    unfold shown
    rw [if_pos ⟨h0, h1⟩]
  have HSH := Lib.hid hsh
  have HO := Lib.hid hown
  clear hown hsh
  go_enter Tryd.func32, Tryd.ntmps32
  go_wp2_with fail
  refine (byte_yes c w h0 h1).mono ?_
  rintro e w' ⟨rfl, rfl⟩
  obtain ⟨b, hb⟩ : ∃ b : Nat, -1 - c = b := ⟨(-1 - c).toNat, by omega⟩
  rw [hb]
  have hb2 : b ≤ 255 := by omega
  have HB := Lib.hid hb
  clear hb
  obtain ⟨p, hp⟩ : ∃ p : Nat, p = b / 16 := ⟨_, rfl⟩
  obtain ⟨q, hq⟩ : ∃ q : Nat, q = b % 16 := ⟨_, rfl⟩
  have hp1 : (b : Int) / 16 = (p : Int) := by omega
  have hq1 : (b : Int) % 16 = (q : Int) := by omega
  have hp2 : p < 16 := by omega
  have hq2 : q < 16 := by omega
  have hp3 : (p : Int) < 16 := by omega
  have hq3 : (q : Int) < 16 := by omega
  have hand : bits BinOp.and IntKind.u8 (b : Int) 15 = (q : Int) := by rw [and15_u8 b hb2, hq]
  have HP := Lib.hid hp
  have HQ := Lib.hid hq
  clear hp hq
  go_wp2
  go_region_law ((refine step_append_lies _ rfl (.tmp 14) (.tmp 21) 22 rfl B 5 i0 (.int .u8 0) 1 1 Tryd.underlying22 hi hz0 hz1 hz2 rfl (by decide) v n (Lib.byteCells xs) (by simp [Act.eval]) (HO.out.alloc _) _ 4 4 _ (by simp [Act.eval]) rfl (cell_four_new _ _ _ _ _ _) (by intro u hu; simp at hu; rcases hu with rfl | rfl | rfl | rfl <;> rfl) (by decide) (by unfold maxLen; omega) (by omega) (by simp; omega) _ rfl ?_); intro g cap w1 hown1 hgrow1 _ _)
  all_goals
    have HO1 := Lib.hid hown1
    have HG1 := Lib.hid hgrow1
    clear hown1 hgrow1
    go_wp2
    go_ret
    refine ⟨.slice (some ⟨g, 0, none⟩) (n + 4) cap, rfl, ?_, ?_⟩
    · have e5 : shown c = [92, 120, dig p, dig q] := by rw [HSH.out, HB.out, Int.toNat_natCast, ← HP.out, ← HQ.out]
      rw [e5, esc_cells xs p q hp2 hq2]
      exact HO1.out
    · exact ((Below.refl _ _).alloc hB _).drew.grown HG1.out (by simp; omega) (fun k hk => (HO.out.lt k hk).1)

theorem appendShown_any (w : World) (B : Nat) (v : Value) (n : Nat) (xs : List UInt8) (c : Int) (hT : w.cell? ⟨2, 15, none⟩ = some (.int .u8 4)) (hTB : 2 < B) (hB : B ≤ w.heap.size) (hown : w.ownsRow B 5 1 v n (Lib.byteCells xs)) (hn : n ≤ 1099511627000) :
    Calls Tryd.prog 32 #[v, .int .i32 c] w fun e w' => ∃ v', e = .returned v' ∧ Grew B w (n + (shown c).length) (xs ++ shown c) v' w' := by
  by_cases h1 : -256 ≤ c ∧ c < 0
  · exact shown_esc w B v n xs c h1.1 h1.2 hB hown hn
  by_cases h2 : -256 ≤ c ∧ c < 55296 ∨ 57343 < c ∧ c ≤ 1114111
  · by_cases h3 : c = 92
    · exact shown_92 w B v n xs c h3 hB hown hn
    by_cases h4 : c = 10
    · exact shown_10 w B v n xs c h4 hB hown hn
    by_cases h5 : 32 ≤ c ∧ c ≤ 126
    · exact shown_plain w B v n xs c h5.1 h5.2 h3 hB hown hn
    · exact shown_big w B v n xs c (by omega) (by omega) h4 h2 hT hTB hB hown hn
  · exact shown_wrong w B v n xs c h2 hB hown hn
end Go.Proofs.YtkijkkhjlfllnaaDoor.C
