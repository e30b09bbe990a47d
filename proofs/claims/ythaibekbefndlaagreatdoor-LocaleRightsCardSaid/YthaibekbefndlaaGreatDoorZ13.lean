/-
  Joined: MCellI, MCellJ, LeH, LfK, MLyH, LeN. Each with what its own head says.
-/
import Derived.Test.YthaibekbefndlaaGreatDoorZ10
import Derived.Test.YthaibekbefndlaaGreatDoorZ11

namespace Go.Proofs.YthaibekbefndlaaGreatDoor.C
open Go.RowKit

set_option maxRecDepth 100000 in
set_option maxHeartbeats 2000000 in
theorem shown_wrong (w : World) (B : Nat) (v : Value) (n : Nat) (xs : List UInt8) (c : Int) (hno : ¬ (-256 ≤ c ∧ c < 55296 ∨ 57343 < c ∧ c ≤ 1114111)) (hB : B ≤ w.heap.size) (hown : w.ownsRow B 5 1 v n (Lib.byteCells xs)) (hn : n ≤ 1099511627000) :
  Calls Tryz.prog 111 #[v, .int .i32 c] w fun e w' => ∃ v', e = .returned v' ∧ Grew B w (n + (shown c).length) (xs ++ shown c) v' w' := by
 obtain ⟨i0, hi, hz0, hz1, hz2⟩ := info_parts info5
 have hsh : shown c = [92, 63] := by
  unfold shown
  rw [if_neg (by omega), if_pos hno]
 rw [hsh]
 have HO := Lib.hid hown
 clear hown hsh
 have hr : rightB c = false := by simp [rightB]; omega
 have HR := Lib.hid hr
 clear hr
 go_enter Tryz.func111, Tryz.ntmps111
 go_wp2_with fail
 refine (byte_no c w (by omega)).mono ?_
 rintro e w' ⟨rfl, rfl⟩
 go_wp2_with fail
 refine (right_any _ _).mono ?_
 rintro e w' ⟨rfl, rfl⟩
 rw [HR.out]
 go_wp2_with (at_builtin; (refine Lib.wpList_append_own_string _ rfl _ _ 38 9 rfl B 5 i0 Tryz.underlying38 Tryz.underlying9 hi hz0 hz1 hz2 _ _ _ rfl HO.out _ rfl (by unfold maxLen; show n + 2 ≤ _; omega) (by show n + 2 ≤ _; omega) hB ?_); intro v' w3 hown' hgrow _)
 go_ret
 exact ⟨v', rfl, by rw [Lib.byteCells_append]; exact hown', (Below.refl _ _).grown hgrow hB (fun k hk => (HO.out.lt k hk).1)⟩

set_option maxRecDepth 100000 in
set_option maxHeartbeats 2000000 in
theorem shown_92 (w : World) (B : Nat) (v : Value) (n : Nat) (xs : List UInt8) (c : Int) (hc : c = 92) (hB : B ≤ w.heap.size) (hown : w.ownsRow B 5 1 v n (Lib.byteCells xs)) (hn : n ≤ 1099511627000) :
  Calls Tryz.prog 111 #[v, .int .i32 c] w fun e w' => ∃ v', e = .returned v' ∧ Grew B w (n + (shown c).length) (xs ++ shown c) v' w' := by
 obtain ⟨i0, hi, hz0, hz1, hz2⟩ := info_parts info5
 have hsh : shown c = [92, 92] := by
  unfold shown
  subst hc; rfl
 rw [hsh]
 have HO := Lib.hid hown
 clear hown hsh
 subst hc
 have hr : rightB 92 = true := by decide
 have HR := Lib.hid hr
 clear hr
 go_enter Tryz.func111, Tryz.ntmps111
 go_wp2_with fail
 refine (byte_no 92 w (by omega)).mono ?_
 rintro e w' ⟨rfl, rfl⟩
 go_wp2_with fail
 refine (right_any _ _).mono ?_
 rintro e w' ⟨rfl, rfl⟩
 rw [HR.out]
 go_wp2_with (at_builtin; (refine Lib.wpList_append_own_string _ rfl _ _ 38 9 rfl B 5 i0 Tryz.underlying38 Tryz.underlying9 hi hz0 hz1 hz2 _ _ _ rfl HO.out _ rfl (by unfold maxLen; show n + 2 ≤ _; omega) (by show n + 2 ≤ _; omega) hB ?_); intro v' w3 hown' hgrow _)
 go_ret
 exact ⟨v', rfl, by rw [Lib.byteCells_append]; exact hown', (Below.refl _ _).grown hgrow hB (fun k hk => (HO.out.lt k hk).1)⟩

set_option maxRecDepth 100000 in
set_option maxHeartbeats 2000000 in
theorem shown_10 (w : World) (B : Nat) (v : Value) (n : Nat) (xs : List UInt8) (c : Int) (hc : c = 10) (hB : B ≤ w.heap.size) (hown : w.ownsRow B 5 1 v n (Lib.byteCells xs)) (hn : n ≤ 1099511627000) :
  Calls Tryz.prog 111 #[v, .int .i32 c] w fun e w' => ∃ v', e = .returned v' ∧ Grew B w (n + (shown c).length) (xs ++ shown c) v' w' := by
 obtain ⟨i0, hi, hz0, hz1, hz2⟩ := info_parts info5
 have hsh : shown c = [92, 110] := by
  unfold shown
  subst hc; rfl
 rw [hsh]
 have HO := Lib.hid hown
 clear hown hsh
 subst hc
 have hr : rightB 10 = true := by decide
 have HR := Lib.hid hr
 clear hr
 go_enter Tryz.func111, Tryz.ntmps111
 go_wp2_with fail
 refine (byte_no 10 w (by omega)).mono ?_
 rintro e w' ⟨rfl, rfl⟩
 go_wp2_with fail
 refine (right_any _ _).mono ?_
 rintro e w' ⟨rfl, rfl⟩
 rw [HR.out]
 go_wp2_with (at_builtin; (refine Lib.wpList_append_own_string _ rfl _ _ 38 9 rfl B 5 i0 Tryz.underlying38 Tryz.underlying9 hi hz0 hz1 hz2 _ _ _ rfl HO.out _ rfl (by unfold maxLen; show n + 2 ≤ _; omega) (by show n + 2 ≤ _; omega) hB ?_); intro v' w3 hown' hgrow _)
 go_ret
 exact ⟨v', rfl, by rw [Lib.byteCells_append]; exact hown', (Below.refl _ _).grown hgrow hB (fun k hk => (HO.out.lt k hk).1)⟩

theorem byteCells_byte (c : Int) (h0 : 0 ≤ c) (h1 : c ≤ 255) : Lib.byteCells [c.toNat.toUInt8] = [.int .u8 c] := by
 have : c.toNat.toUInt8.toNat = c.toNat := by simp [Nat.toUInt8, UInt8.toNat_ofNat']; omega
 simp only [Lib.byteCells, List.map_cons, List.map_nil, this]
 rw [Int.toNat_of_nonneg h0]

set_option maxRecDepth 100000 in
set_option maxHeartbeats 2000000 in
theorem shown_plain (w : World) (B : Nat) (v : Value) (n : Nat) (xs : List UInt8) (c : Int) (h1 : 32 ≤ c) (h2 : c ≤ 126) (h3 : c ≠ 92) (hB : B ≤ w.heap.size) (hown : w.ownsRow B 5 1 v n (Lib.byteCells xs)) (hn : n ≤ 1099511627000) :
  Calls Tryz.prog 111 #[v, .int .i32 c] w fun e w' => ∃ v', e = .returned v' ∧ Grew B w (n + (shown c).length) (xs ++ shown c) v' w' := by
 obtain ⟨i0, hi, hz0, hz1, hz2⟩ := info_parts info5
 have hsh : shown c = [c.toNat.toUInt8] := by
  unfold shown
  rw [if_neg (by omega), if_neg (by omega), if_neg h3, if_neg (by omega), if_pos ⟨h1, h2⟩]
 rw [hsh]
 have HO := Lib.hid hown
 have e1 : (c == 92) = false := by simpa using h3
 have e2 : (c == 10) = false := by simp; omega
 clear hown hsh h3
 have hr : rightB c = true := by simp [rightB]; omega
 have HR := Lib.hid hr
 clear hr
 go_enter Tryz.func111, Tryz.ntmps111
 go_wp2_with fail
 refine (byte_no c w (by omega)).mono ?_
 rintro e w' ⟨rfl, rfl⟩
 go_wp2_with fail
 refine (right_any _ _).mono ?_
 rintro e w' ⟨rfl, rfl⟩
 rw [HR.out]
 go_wp2_with (at_builtin; (refine wpList_append_own _ rfl _ _ 38 rfl B 5 i0 (.int .u8 0) 1 1 Tryz.underlying38 hi hz0 hz1 hz2 rfl (by decide) _ _ _ rfl (HO.out.alloc _) _ 1 1 [.int .u8 c] rfl rfl (cell_one_new _ _ _) (by intro u hu; simp at hu; subst hu; rfl) (by unfold maxLen; omega) (by omega) (by simp; omega) ?_); intro v' w3 hown' hgrow _)
 go_ret
 exact ⟨v', rfl, by rw [Lib.byteCells_append, byteCells_byte c (by omega) (by omega)]; exact hown', ((Below.refl _ _).alloc hB _).grown hgrow (by simp; omega) (fun k hk => (HO.out.lt k hk).1)⟩

theorem strconvAppendInt_16z (w : World) (B : Nat) (v : Value) (n : Nat) (xs : List UInt8) (c : Int) (h0 : 0 ≤ c) (h1 : c ≤ 1114111) (hT : w.cell? ⟨10, 15, none⟩ = some (.int .u8 4)) (hB : B ≤ w.heap.size) (hown : w.ownsRow B 5 1 v n (Lib.byteCells xs)) (hn : n ≤ 1099511627776) :
  Calls Tryz.prog 162 #[v, .int .i64 c, .int .i64 16] w fun e w' => ∃ v', e = .returned v' ∧ Grew B w (n + (hexL c.toNat).length) (xs ++ hexL c.toNat) v' w' := by
 obtain ⟨u, rfl⟩ := Int.eq_ofNat_of_zero_le h0
 rw [Int.toNat_natCast]
 exact strconvAppendInt_16 w B v n xs u (by omega) hT hB hown hn

set_option maxRecDepth 100000 in
set_option maxHeartbeats 2000000 in
theorem shown_big (w : World) (B : Nat) (v : Value) (n : Nat) (xs : List UInt8) (c : Int) (h0 : 0 ≤ c) (h1 : c < 32 ∨ 126 < c) (h2 : c ≠ 10) (hy : -256 ≤ c ∧ c < 55296 ∨ 57343 < c ∧ c ≤ 1114111) (hT : w.cell? ⟨10, 15, none⟩ = some (.int .u8 4)) (hTB : 10 < B) (hB : B ≤ w.heap.size) (hown : w.ownsRow B 5 1 v n (Lib.byteCells xs)) (hn : n ≤ 1099511627000) :
  Calls Tryz.prog 111 #[v, .int .i32 c] w fun e w' => ∃ v', e = .returned v' ∧ Grew B w (n + (shown c).length) (xs ++ shown c) v' w' := by
 obtain ⟨i0, hi, hz0, hz1, hz2⟩ := info_parts info5
 have hsh : shown c = [92, 117, 123] ++ hexL c.toNat ++ [125] := by
  unfold shown
  rw [if_neg (by omega), if_neg (by omega), if_neg (by omega), if_neg h2, if_neg (by omega)]
 have HSH := Lib.hid hsh
 have HO := Lib.hid hown
 have e1 : (c == 92) = false := by simp; omega
 have e2 : (c == 10) = false := by simpa using h2
 have HT := Lib.hid hT
 have hlen := hexL_len 5 c.toNat (by have h16 : (16 : Nat) ^ (5 + 1) = 16777216 := (by decide); omega)
 have HLEN := Lib.hid hlen
 have hr : rightB c = true := by simp [rightB]; omega
 have HR := Lib.hid hr
 clear hr
 have hle : c ≤ 1114111 := by omega
 clear hown hsh h2 hT hlen hy
 go_enter Tryz.func111, Tryz.ntmps111
 go_wp2_with fail
 refine (byte_no c w (by omega)).mono ?_
 rintro e w' ⟨rfl, rfl⟩
 go_wp2_with fail
 refine (right_any _ _).mono ?_
 rintro e w' ⟨rfl, rfl⟩
 rw [HR.out]
 rcases h1 with h1 | h1
 all_goals
  go_wp2_with (at_builtin; (refine Lib.wpList_append_own_string _ rfl _ _ 38 9 rfl B 5 i0 Tryz.underlying38 Tryz.underlying9 hi hz0 hz1 hz2 _ _ _ rfl HO.out _ rfl (by unfold maxLen; show n + 3 ≤ _; omega) (by show n + 3 ≤ _; omega) hB ?_); intro v1 w1 hown1 hgrow1 _; have hb1 : Below B w w1 := (Below.refl _ _).grown hgrow1 hB (fun k hk => (HO.out.lt k hk).1); have HO1 := Lib.hid hown1; clear hown1 hgrow1)
  have hsz1 := hb1.size
  have HO1b : Hid (w1.ownsRow B 5 1 v1 (n + 3) (Lib.byteCells (xs ++ [92, 117, 123]))) := by rw [Lib.byteCells_append]; exact HO1.out
  refine (strconvAppendInt_16z w1 B v1 (n + 3) (xs ++ [92, 117, 123]) c h0 hle ((hb1.cell (p := ⟨10, 15, none⟩) hTB).trans HT.out) (by omega) HO1b.out (by omega)).mono ?_
  rintro e w2 ⟨v2, rfl, hown2, hb2⟩
  have HO2 := Lib.hid hown2
  have hsz2 := hb2.size
  clear hown2
  go_wp2_with (at_builtin; (refine wpList_append_own _ rfl _ _ 38 rfl B 5 i0 (.int .u8 0) 1 1 Tryz.underlying38 hi hz0 hz1 hz2 rfl (by decide) _ _ _ rfl (HO2.out.alloc _) _ 1 1 [.int .u8 125] rfl rfl (cell_one_new _ _ _) (by intro u hu; simp at hu; subst hu; rfl) (by have := HLEN.out; unfold maxLen; omega) (by have := HLEN.out; omega) (by simp; omega) ?_); intro v' w3 hown' hgrow _)
  go_ret
  refine ⟨v', rfl, ?_, ?_⟩
  ·have e3 : Lib.byteCells (xs ++ ([92, 117, 123] ++ hexL c.toNat ++ [125])) = Lib.byteCells (xs ++ [92, 117, 123] ++ hexL c.toNat) ++ [Value.int .u8 125] := by simp [Lib.byteCells]
   have e4 : n + ([92, 117, 123] ++ hexL c.toNat ++ [125]).length = n + 3 + (hexL c.toNat).length + 1 := by simp; omega
   rw [HSH.out, e3, e4]
   exact hown'
  ·exact (((hb1.trans hb2)).alloc (by omega) _).grown hgrow (by simp; omega) (fun k hk => (HO2.out.lt k hk).1)

theorem hex16_at : ∀ (x : Nat) (h : x < (ByteArray.mk #[48, 49, 50, 51, 52, 53, 54, 55, 56, 57, 97, 98, 99, 100, 101, 102]).size), (ByteArray.mk #[48, 49, 50, 51, 52, 53, 54, 55, 56, 57, 97, 98, 99, 100, 101, 102])[x]'h = dig x
 | 0, _ => rfl
 | 1, _ => rfl
 | 2, _ => rfl
 | 3, _ => rfl
 | 4, _ => rfl
 | 5, _ => rfl
 | 6, _ => rfl
 | 7, _ => rfl
 | 8, _ => rfl
 | 9, _ => rfl
 | 10, _ => rfl
 | 11, _ => rfl
 | 12, _ => rfl
 | 13, _ => rfl
 | 14, _ => rfl
 | 15, _ => rfl
 | (x + 16), h => absurd h (by show ¬ x + 16 < 16; omega)
theorem esc_cells (xs : List UInt8) (p q : Nat) (hp : p < (ByteArray.mk #[48, 49, 50, 51, 52, 53, 54, 55, 56, 57, 97, 98, 99, 100, 101, 102]).size) (hq : q < (ByteArray.mk #[48, 49, 50, 51, 52, 53, 54, 55, 56, 57, 97, 98, 99, 100, 101, 102]).size) :
  Lib.byteCells (xs ++ [92, 120, dig p, dig q]) = Lib.byteCells xs ++ [Value.int .u8 92, Value.int .u8 120, Value.int .u8 ((ByteArray.mk #[48, 49, 50, 51, 52, 53, 54, 55, 56, 57, 97, 98, 99, 100, 101, 102])[p]'hp).toNat, Value.int .u8 ((ByteArray.mk #[48, 49, 50, 51, 52, 53, 54, 55, 56, 57, 97, 98, 99, 100, 101, 102])[q]'hq).toNat] := by
 rw [hex16_at p hp, hex16_at q hq]
 simp [Lib.byteCells]
theorem and15_u8 (b : Nat) (h : b ≤ 255) : bits BinOp.and IntKind.u8 (b : Int) 15 = ((b % 16 : Nat) : Int) := by
 have : ∀ b : Fin 256, bits BinOp.and IntKind.u8 ((b.val : Nat) : Int) 15 = ((b.val % 16 : Nat) : Int) := by decide +kernel
 exact this ⟨b, by omega⟩
theorem cell_four_new (w : World) (a b c d : Value) (t : TypeId) : ∀ j u, [a, b, c, d][j]? = some u → (w.alloc (.cells #[a, b, c, d] t)).cell? ((⟨w.heap.size, 0, none⟩ : Addr).add j) = some u := by
 intro j u h
 match j, h with
 | 0, h => simpa [Addr.add] using h
 | 1, h => simpa [Addr.add] using h
 | 2, h => simpa [Addr.add] using h
 | 3, h => simpa [Addr.add] using h

set_option maxRecDepth 100000 in
set_option maxHeartbeats 2000000 in
theorem shown_esc (w : World) (B : Nat) (v : Value) (n : Nat) (xs : List UInt8) (c : Int) (h0 : -256 ≤ c) (h1 : c < 0) (hB : B ≤ w.heap.size) (hown : w.ownsRow B 5 1 v n (Lib.byteCells xs)) (hn : n ≤ 1099511627000) :
  Calls Tryz.prog 111 #[v, .int .i32 c] w fun e w' => ∃ v', e = .returned v' ∧ Grew B w (n + (shown c).length) (xs ++ shown c) v' w' := by
 obtain ⟨i0, hi, hz0, hz1, hz2⟩ := info_parts info5
 have hsh : shown c = [92, 120, dig ((-1 - c).toNat / 16), dig ((-1 - c).toNat % 16)] := by
  unfold shown
  rw [if_pos ⟨h0, h1⟩]
 have HSH := Lib.hid hsh
 have HO := Lib.hid hown
 clear hown hsh
 go_enter Tryz.func111, Tryz.ntmps111
 go_wp2_with fail
 refine (byte_yes c w h0 h1).mono ?_
 rintro e w' ⟨rfl, rfl⟩
 obtain ⟨b, hb⟩ : ∃ b : Nat, -1 - c = b := ⟨(-1 - c).toNat, by omega⟩
 rw [hb]
 have hb2 : b ≤ 255 := by omega
 have HB := Lib.hid hb
 clear hb
 obtain ⟨p, hp⟩ : ∃ p : Nat, p = b / 16 := ⟨_, rfl⟩
 obtain ⟨q, hq⟩ : ∃ q : Nat, q = b % 16 := ⟨_, rfl⟩
 have hp1 : (b : Int) / 16 = (p : Int) := by omega
 have hq1 : (b : Int) % 16 = (q : Int) := by omega
 have hp2 : p < 16 := by omega
 have hq2 : q < 16 := by omega
 have hp3 : (p : Int) < 16 := by omega
 have hq3 : (q : Int) < 16 := by omega
 have hand : bits BinOp.and IntKind.u8 (b : Int) 15 = (q : Int) := by rw [and15_u8 b hb2, hq]
 have HP := Lib.hid hp
 have HQ := Lib.hid hq
 clear hp hq
 go_wp2
 go_region_law ((refine step_append_lies _ rfl (.tmp 14) (.tmp 21) 38 rfl B 5 i0 (.int .u8 0) 1 1 Tryz.underlying38 hi hz0 hz1 hz2 rfl (by decide) v n (Lib.byteCells xs) (by simp [Act.eval]) (HO.out.alloc _) _ 4 4 _ (by simp [Act.eval]) rfl (cell_four_new _ _ _ _ _ _) (by intro u hu; simp at hu; rcases hu with rfl | rfl | rfl | rfl <;> rfl) (by decide) (by unfold maxLen; omega) (by omega) (by simp; omega) _ rfl ?_); intro g cap w1 hown1 hgrow1 _ _)
 all_goals
  have HO1 := Lib.hid hown1
  have HG1 := Lib.hid hgrow1
  clear hown1 hgrow1
  go_wp2
  go_ret
  refine ⟨.slice (some ⟨g, 0, none⟩) (n + 4) cap, rfl, ?_, ?_⟩
  ·have e5 : shown c = [92, 120, dig p, dig q] := by rw [HSH.out, HB.out, Int.toNat_natCast, ← HP.out, ← HQ.out]
   rw [e5, esc_cells xs p q hp2 hq2]
   exact HO1.out
  ·exact ((Below.refl _ _).alloc hB _).drew.grown HG1.out (by simp; omega) (fun k hk => (HO.out.lt k hk).1)

theorem appendShown_any (w : World) (B : Nat) (v : Value) (n : Nat) (xs : List UInt8) (c : Int) (hT : w.cell? ⟨10, 15, none⟩ = some (.int .u8 4)) (hTB : 10 < B) (hB : B ≤ w.heap.size) (hown : w.ownsRow B 5 1 v n (Lib.byteCells xs)) (hn : n ≤ 1099511627000) :
  Calls Tryz.prog 111 #[v, .int .i32 c] w fun e w' => ∃ v', e = .returned v' ∧ Grew B w (n + (shown c).length) (xs ++ shown c) v' w' := by
 by_cases h1 : -256 ≤ c ∧ c < 0
 ·exact shown_esc w B v n xs c h1.1 h1.2 hB hown hn
 by_cases h2 : -256 ≤ c ∧ c < 55296 ∨ 57343 < c ∧ c ≤ 1114111
 ·by_cases h3 : c = 92
  ·exact shown_92 w B v n xs c h3 hB hown hn
  by_cases h4 : c = 10
  ·exact shown_10 w B v n xs c h4 hB hown hn
  by_cases h5 : 32 ≤ c ∧ c ≤ 126
  ·exact shown_plain w B v n xs c h5.1 h5.2 h3 hB hown hn
  ·exact shown_big w B v n xs c (by omega) (by omega) h4 h2 hT hTB hB hown hn
 ·exact shown_wrong w B v n xs c h2 hB hown hn
end Go.Proofs.YthaibekbefndlaaGreatDoor.C

namespace Go.Proofs.YthaibekbefndlaaGreatDoor.C
open Go.RowKit

theorem conv_own {w : World} {B : Nat} {v : Value} {n : Nat} {xs : List UInt8} (h : w.ownsRow B 5 1 v n (Lib.byteCells xs)) : (convert 38 9 v).run Tryz.prog w = .ok (.string (str xs)) w := by
 have hl : xs.length = n := by have := h.1; rw [Lib.byteCells_length] at this; omega
 rcases h.2 with ⟨rfl, rfl⟩ | ⟨g, cap, cur, rfl, h2, h3, h4⟩
 ·obtain rfl : xs = [] := List.eq_nil_of_length_eq_zero hl
  exact Lib.run_convert_nil_bytes w 38 9 5 0 Tryz.underlying38 Tryz.underlying5 Tryz.underlying9
 ·subst hl
  refine run_convert_bytes_back w 38 9 5 ⟨g, 0, none⟩ cap xs Tryz.underlying38 Tryz.underlying5 Tryz.underlying9 ?_
  intro j hj
  refine h.cells (g := g) rfl j _ ?_
  simp [Lib.byteCells, hj]

theorem textL_snoc (l : List Int) (c : Int) : textL (l ++ [c]) = textL l ++ shown c := by simp [textL]
theorem textL_le (l : List Int) : (textL l).length ≤ 10 * l.length := by
 induction l with
 | nil => simp [textL]
 | cons c l ih =>
  have := shown_le c
  simp only [textL, List.flatMap_cons, List.length_append, List.length_cons] at *
  omega
set_option maxRecDepth 100000 in
set_option maxHeartbeats 1000000 in
theorem text_any (w : World) (Bx : Nat) (Ax : Option Addr) (n cx : Nat) (xs : List Int) (hx : RI .i32 w Bx Ax n xs) (hBx : Bx ≤ w.heap.size) (hn : n ≤ 1073741824) (hT : w.cell? ⟨10, 15, none⟩ = some (.int .u8 4)) :
  Calls Tryz.prog 65 #[.slice Ax n cx] w fun e w' => e = .returned (.string (str (textL xs))) ∧ Below w.heap.size w w' := by
 have HX := Lib.hid hx
 have hTB := World.block_lt_of_cell? w _ hT
 have HT := Lib.hid hT
 clear hx hT
 go_enter Tryz.func65, Tryz.ntmps65
 go_wp2
 go_loopw [3, 8] (fun v i wr => ∃ k : Nat, k ≤ n ∧ i = .int .i64 k ∧ Hid (wr.ownsRow w.heap.size 5 1 v (textL (xs.take k)).length (Lib.byteCells (textL (xs.take k)))) ∧ Below w.heap.size w wr) (fun _ i _ => n - (intOf i).toNat)
 case atStart => exact ⟨0, Nat.zero_le _, rfl, World.ownsRow_nil _ _ _ _, Below.refl _ _⟩
 case round =>
  obtain ⟨k, hk, rfl, HW, hb⟩ := hrel
  by_cases hlt : k < n
  ·obtain ⟨ad, c, rfl, hbl, hc, hcell⟩ := HX.out.at_ hlt
   have hcr : wr.cell? (ad.add k) = some (.int .i32 c) := (hb.cell (p := ad.add k) (by rw [block_of_add]; omega)).trans hcell
   have hle := textL_le (xs.take k)
   have hlk : (xs.take k).length ≤ k := List.length_take_le _ _
   have HC := Lib.hid hc
   clear hc hcell
   go_wp2_with fail
   refine (appendShown_any wr w.heap.size _ (textL (xs.take k)).length (textL (xs.take k)) c ((hb.cell (p := ⟨10, 15, none⟩) hTB).trans HT.out) hTB hb.size HW.out (by omega)).mono ?_
   rintro e w1 ⟨v1, rfl, hown1, hb1⟩
   have hown2 : Hid (w1.ownsRow w.heap.size 5 1 v1 (textL (xs.take (k + 1))).length (Lib.byteCells (textL (xs.take (k + 1))))) := by
    rw [take_snoc HC.out, textL_snoc, List.length_append]
    exact hown1
   clear hown1
   have hb2 := hb.trans hb1
   go_wp2
   go_roundw
   case rel => exact ⟨k + 1, by omega, by go_num, hown2, hb2⟩
   case measure => simp [intOf]; omega
  ·have hkn : k = n := by omega
   have hcv := conv_own HW.out
   have HK := Lib.hid hkn
   clear hkn
   go_wp2
   go_ret
   refine ⟨?_, hb⟩
   have e1 : xs.take k = xs := List.take_of_length_le (by rw [HX.out.len, HK.out]; exact Nat.le_refl _)
   rw [e1]
   rfl
end Go.Proofs.YthaibekbefndlaaGreatDoor.C

namespace Go.Proofs.YthaibekbefndlaaGreatDoor.C
open Go.RowKit

theorem Gm.next {w w' : World} (h : Gm w) (hb : Below w.heap.size w w') : Gm w' := ⟨h.1.next hb, tabs_below h.2 hb⟩
set_option maxRecDepth 100000 in
set_option maxHeartbeats 1000000 in
theorem index32_any (w : World) (B : Nat) (A : Option Addr) (n c : Nat) (ks : List Int) (v : Int) (h : RI .i32 w B A n ks) (hn : n ≤ 1000) :
  Calls Tryz.prog 191 #[.slice A n c, .int .i32 v] w fun e w' => (∃ i : Int, e = .returned (.int .i64 i) ∧ (decide (0 ≤ i) = inKs ks v)) ∧ w' = w := by
 have H := Lib.hid h
 have hl := h.len
 clear h
 have HL := Lib.hid hl
 clear hl
 go_enter Tryz.func191, Tryz.ntmps191
 go_wp2
 go_loop [8] (fun i => ∃ k : Nat, k ≤ n ∧ i = .int .i64 k ∧ Hid (v ∉ ks.take k)) (fun i => n - (intOf i).toNat)
 case atStart => exact ⟨0, Nat.zero_le _, rfl, Lib.hid (by simp)⟩
 case round =>
  obtain ⟨k, hk, rfl, HN⟩ := hrel
  by_cases hlt : k < n
  ·obtain ⟨ad, u, rfl, hb, hu, hc⟩ := H.out.at_ hlt
   have HU := Lib.hid hu
   clear hu
   by_cases hv : v = u
   ·subst hv
    go_wp2
    go_ret
    refine ⟨⟨_, rfl, ?_⟩, rfl⟩
    have hm : v ∈ ks := List.mem_of_getElem? HU.out
    simp [inKs, hm]
   ·have hv' : (v == u) = false := by simpa using hv
    go_wp2
    go_round
    case rel => exact ⟨k + 1, by omega, by go_num, Lib.hid (by
     rw [List.take_add_one, HU.out]
     simp only [Option.toList_some, List.mem_append, List.mem_singleton, not_or]
     exact ⟨HN.out, hv⟩)⟩
    case measure => simp [intOf]; omega
  ·obtain rfl : k = n := by omega
   go_wp2
   go_ret
   refine ⟨⟨_, rfl, ?_⟩, rfl⟩
   have hm := HN.out
   rw [List.take_of_length_le (by rw [HL.out]; exact Nat.le_refl _)] at hm
   simp [inKs, hm]
set_option maxRecDepth 100000 in
set_option maxHeartbeats 1000000 in
theorem contains32_is (w : World) (B : Nat) (A : Option Addr) (n c : Nat) (ks : List Int) (v : Int) (h : RI .i32 w B A n ks) (hn : n ≤ 1000) (b : Bool) (hb : inKs ks v = b) :
  Calls Tryz.prog 159 #[.slice A n c, .int .i32 v] w fun e w' => e = .returned (.bool b) ∧ w' = w := by
 have hi := index32_any w B A n c ks v h hn
 rw [hb] at hi
 clear h hb
 go_enter Tryz.func159, Tryz.ntmps159
 go_wp2_with fail
 refine hi.mono ?_
 rintro e w' ⟨⟨i, rfl, hi2⟩, rfl⟩
 have HI := Lib.hid hi2
 clear hi2
 cases b with
 | true =>
  have h0 : 0 ≤ i := by simpa using HI.out
  go_wp2
  go_ret
  exact ⟨rfl, rfl⟩
 | false =>
  have h0 : decide (0 ≤ i) = false := HI.out
  go_wp2
  go_ret
  exact ⟨rfl, rfl⟩

set_option maxRecDepth 100000 in
set_option maxHeartbeats 2000000 in
theorem isQuotable_any (w : World) (B : Nat) (A : Option Addr) (n c : Nat) (xs : List Int) (h : RI .i32 w B A n xs) (hB : B ≤ w.heap.size) (hG : Gm w) :
  Calls Tryz.prog 109 #[.slice A n c] w fun e w' => e = .returned (.bool (quotB xs)) ∧ Below w.heap.size w w' := by
 have hl := h.len
 by_cases h2 : n < 2
 ·have hq : quotB xs = false := by
   unfold quotB
   rw [decide_eq_false (by omega)]
   rfl
  have i2 : (n : Int) < 2 := by omega
  rw [hq]
  clear h hG hq hl
  go_enter Tryz.func109, Tryz.ntmps109
  go_wp2
  go_ret
  exact ⟨rfl, Below.refl _ _⟩
 have i2 : ¬ (n : Int) < 2 := by omega
 by_cases h4 : 4 < n
 ·have hq : quotB xs = false := by
   unfold quotB
   rw [decide_eq_false (by omega)]
   rfl
  have i4 : (4 : Int) < (n : Int) := by omega
  rw [hq]
  clear h hG hq hl
  go_enter Tryz.func109, Tryz.ntmps109
  go_wp2
  go_ret
  exact ⟨rfl, Below.refl _ _⟩
 have i4 : ¬ (4 : Int) < (n : Int) := by omega
 have hd : decide (2 ≤ xs.length ∧ xs.length ≤ 4) = true := decide_eq_true (by omega)
 have c34 := fun b hb => contains32_is w B A n c xs 34 h (by omega) b hb
 have c10 := fun b hb => contains32_is w B A n c xs 10 h (by omega) b hb
 have hca := canonical_is w B A n c xs h hB (by omega) hG.2 _ rfl
 cases k34 : inKs xs 34 with
 | true =>
  have hq : quotB xs = false := by
   unfold quotB
   rw [show xs.contains 34 = true from k34]
   simp
  have c34' := c34 true k34
  rw [hq]
  clear h hG hq hl c34 c10 hca hd k34
  go_enter Tryz.func109, Tryz.ntmps109
  go_wp2_with (go_at_call 159; with_reducible refine c34'.mono ?_; rintro e w' ⟨rfl, rfl⟩)
  go_ret
  exact ⟨rfl, Below.refl _ _⟩
 | false =>
  have c34' := c34 false k34
  cases k10 : inKs xs 10 with
  | true =>
   have hq : quotB xs = false := by
    unfold quotB
    rw [show xs.contains 10 = true from k10]
    simp
   have c10' := c10 true k10
   rw [hq]
   clear h hG hq hl c34 c10 hca hd k34 k10
   go_enter Tryz.func109, Tryz.ntmps109
   go_wp2_with (first
    | (go_at_call 159; with_reducible refine c34'.mono ?_; rintro e w' ⟨rfl, rfl⟩)
    | (go_at_call 159; with_reducible refine c10'.mono ?_; rintro e w' ⟨rfl, rfl⟩))
   go_ret
   exact ⟨rfl, Below.refl _ _⟩
  | false =>
   have c10' := c10 false k10
   have hq : quotB xs = canonB xs := by
    unfold quotB
    rw [show xs.contains 10 = false from k10, show xs.contains 34 = false from k34, hd]
    simp
   rw [hq]
   obtain ⟨r, hr⟩ : ∃ r, r = canonB xs := ⟨_, rfl⟩
   rw [← hr] at hca ⊢
   clear h hG hq hl c34 c10 hd k34 k10 hr
   go_enter Tryz.func109, Tryz.ntmps109
   go_wp2_with (first
    | (go_at_call 159; with_reducible refine c34'.mono ?_; rintro e w' ⟨rfl, rfl⟩)
    | (go_at_call 159; with_reducible refine c10'.mono ?_; rintro e w' ⟨rfl, rfl⟩)
    | (go_at_call 160; refine hca.mono ?_; rintro e w' ⟨rfl, hb⟩; (have HB := Lib.hid hb); clear hb))
   go_ret
   exact ⟨rfl, HB.out⟩
end Go.Proofs.YthaibekbefndlaaGreatDoor.C

namespace Go.Proofs.YthaibekbefndlaaGreatDoor.C
open Go.RowKit

section
variable {P : Program} {ops : Array Oper} {Q : Exit → Act → World → Prop} {md : Region.Mode} {S : World → Prop}
def chainB (md : Region.Mode) (ops : Array Oper) : Nat → List Nat → Bool
 | _, [] => true
 | i, j :: r => waitsFor md ops j i && chainB md ops j r
def closedB (md : Region.Mode) (ops : Array Oper) (listed : Array Bool) : Bool :=
 (List.range ops.size).all fun j => !listed.getD j false || ((ops[j]?).map (·.after.all fun e => !Region.binds md e || listed.getD e.on false)).getD true
def Closed (md : Region.Mode) (ops : Array Oper) (listed : Array Bool) : Prop := ∀ (j : Nat) (o : Oper), ops[j]? = some o → listed.getD j false = true → ∀ e ∈ o.after, Region.binds md e = true → listed.getD e.on false = true
theorem closed_of {listed : Array Bool} (h : closedB md ops listed = true) : Closed md ops listed := by
 intro j o ho hl e he hb
 have hlt : j < ops.size := (Array.getElem?_eq_some_iff.1 ho).1
 have h1 := (List.all_eq_true.1 h) j (List.mem_range.2 hlt)
 rw [hl, ho] at h1
 simp only [Bool.not_true, Bool.false_or, Option.map_some, Option.getD_some, Array.all_eq_true_iff_forall_mem, Bool.or_eq_true, Bool.not_eq_true'] at h1
 rcases h1 e he with h2 | h2
 ·rw [hb] at h2; cases h2
 ·exact h2
theorem waits_of {j i : Nat} (h : waitsFor md ops j i = true) : ∃ o, ops[j]? = some o ∧ ∃ e ∈ o.after, Region.binds md e = true ∧ e.on = i := by
 unfold waitsFor at h
 cases ho : ops[j]? with
 | none => rw [ho] at h; cases h
 | some o =>
  rw [ho] at h
  simp only [Array.any_eq_true] at h
  obtain ⟨q, hq, he⟩ := h
  simp only [Bool.and_eq_true, beq_iff_eq] at he
  exact ⟨o, rfl, _, Array.getElem_mem hq, he.1, he.2⟩
theorem closed_waits {listed : Array Bool} (h : Closed md ops listed) {j i : Nat} (hw : waitsFor md ops j i = true) (hj : listed.getD j false = true) : listed.getD i false = true := by
 obtain ⟨o, ho, e, he, hb, rfl⟩ := waits_of hw
 exact h j o ho hj e he hb
theorem ready_waits {listed : Array Bool} {j i : Nat} (hw : waitsFor md ops j i = true) (hj : j ∈ Region.ready md ops listed) : listed.getD i false = true := by
 obtain ⟨o, ho, e, he, hb, rfl⟩ := waits_of hw
 obtain ⟨_, o', ho', hall⟩ := mem_ready.1 hj
 obtain rfl : o = o' := Option.some.inj (ho.symm.trans ho')
 exact hall e he hb
theorem chain_back {listed : Array Bool} (h : Closed md ops listed) {L : Nat} (hL : L ∈ Region.ready md ops listed) : ∀ (c : List Nat) (i : Nat), c ≠ [] → chainB md ops i c = true → c.getLast? = some L → listed.getD i false = true
 | [], _, h0, _, _ => absurd rfl h0
 | [j], i, _, hc, hl => by
  simp only [chainB, Bool.and_true] at hc
  obtain rfl : j = L := by simpa using hl
  exact ready_waits hc hL
 | j :: k :: r, i, _, hc, hl => by
  have hc' : waitsFor md ops j i = true ∧ chainB md ops j (k :: r) = true := by
   rw [← Bool.and_eq_true]; exact hc
  have hl' : (k :: r).getLast? = some L := by rw [← hl, List.getLast?_cons_cons]
  exact closed_waits h hc'.1 (chain_back h hL (k :: r) j (by simp) hc'.2 hl')
theorem getD_set_self {listed : Array Bool} {j : Nat} (h : j < listed.size) (d : Bool) : (listed.setIfInBounds j true).getD j d = true := by
 simp [Array.getD, h]
theorem getD_set_mono {listed : Array Bool} {j k : Nat} (h : listed.getD k false = true) : (listed.setIfInBounds j true).getD k false = true := by
 by_cases hk : k < listed.size
 ·by_cases hjk : j = k
  ·subst hjk; exact getD_set_self hk _
  ·rw [getD_set_ne false hjk]; exact h
 ·simp [Array.getD, hk] at h
theorem Closed.set {listed : Array Bool} (h : Closed md ops listed) {j : Nat} (hj : j ∈ Region.ready md ops listed) : Closed md ops (listed.setIfInBounds j true) := by
 intro k o ho hl e he hb
 by_cases hjk : j = k
 ·subst hjk
  obtain ⟨_, o', ho', hall⟩ := mem_ready.1 hj
  obtain rfl : o = o' := Option.some.inj (ho.symm.trans ho')
  exact getD_set_mono (hall e he hb)
 ·rw [getD_set_ne false hjk] at hl
  exact getD_set_mono (h k o ho hl e he hb)
theorem wpAnyE_first2 {L i : Nat} {oi : Oper} {v : Value} (ch : List Nat) (hch : (chainB md ops i ch && (ch.getLast? == some L)) = true) (hi : ops[i]? = some oi) (hsel : ∀ (j : Nat) (o : Oper) cs b, ops[j]? = some o → o.op ≠ .select cs b)
  (hQ : ∀ c a w, Q (.panic c) (a.put oi.dst v) w → Q (.panic c) a w) :
  ∀ (fuel : Nat) (listed : Array Bool) (a : Act) (w : World), Closed md ops listed →
   (∀ j oj, ops[j]? = some oj → j ≠ i → listed.getD j true = false → (∀ e ∈ oj.after, Region.binds md e = true → e.on ≠ i) → oi.apart ops oj = true) →
   i ∈ Region.ready md ops listed → YieldsIf P ops S oi v a → S w →
   wpAnyE P md ops Q S L fuel (listed.setIfInBounds i true) (a.put oi.dst v) w → wpAnyE P md ops Q S L (fuel + 1) listed a w := by
 intro fuel
 simp only [Bool.and_eq_true, beq_iff_eq] at hch
 induction fuel with
 | zero =>
  intro listed a w _ _ hr hy hS H
  refine ⟨fun h => (by rw [h] at hr; cases hr), fun j hj => ?_⟩
  by_cases hji : j = i
  ·subst hji; exact hy.wpOp hi hS ⟨fun _ => hS, H⟩
  ·have := ready_mono hj hji
   rw [H.1] at this
   cases this
 | succ fuel ih =>
  intro listed a w hcl hfree hr hy hS H
  refine ⟨fun h => (by rw [h] at hr; cases hr), fun j hj => ?_⟩
  by_cases hji : j = i
  ·subst hji; exact hy.wpOp hi hS ⟨fun _ => hS, H⟩
  ·have h1 := H.2 j (ready_mono hj hji)
   obtain ⟨hjun, oj, hoj, hall⟩ := mem_ready.1 hj
   have hun : listed.getD i false ≠ true := by
    have h0 := (mem_ready.1 hr).1
    rcases Nat.lt_or_ge i listed.size with h' | h'
    ·simp [Array.getD, h'] at h0 ⊢; exact h0
    ·simp [Array.getD, Nat.not_lt.2 h']
   have hnot : ∀ e ∈ oj.after, Region.binds md e = true → e.on ≠ i := fun e he hb heq => by
    have h1 := hall e he hb
    rw [heq] at h1
    exact hun h1
   have hjL : j ≠ L := by
    rintro rfl
    exact hun (chain_back hcl hj ch i (by rintro rfl; simp at hch) hch.1 hch.2)
   have h2 := wpOp_putIf hoj (hfree j oj hoj hji hjun hnot) (fun cs b => hsel i oi cs b hi) (fun cs b => hsel j oj cs b hoj) hQ hy h1
   have hfree' : ∀ k ok, ops[k]? = some ok → k ≠ i → (listed.setIfInBounds j true).getD k true = false →
     (∀ e ∈ ok.after, Region.binds md e = true → e.on ≠ i) → oi.apart ops ok = true := fun k ok hk hki hun hno => by
    refine hfree k ok hk hki ?_ hno
    by_cases hjk : j = k
    ·subst hjk; exact hjun
    ·rw [getD_set_ne true hjk] at hun; exact hun
   refine wpOp_mono (fun a' w' h3 => ⟨fun _ => h3.2.1 hjL, ih (listed.setIfInBounds j true) a' w' (hcl.set hj) hfree' (ready_mono hr (Ne.symm hji)) h3.1 (h3.2.1 hjL) ?_⟩) h2
   rw [Array.setIfInBounds_comm _ _ hji]
   exact h3.2.2
theorem wpAnyE_take2 {L i : Nat} {oi : Oper} {v : Value} {fuel : Nat} {listed : Array Bool} {a : Act} {w : World} (ch : List Nat) (hi : ops[i]? = some oi)
  (hs : Region.noSelect ops = true) (hf : Region.free md ops listed i = true) (hr : (Region.ready md ops listed).contains i = true) (hch : (chainB md ops i ch && (ch.getLast? == some L)) = true) (hcl : closedB md ops listed = true)
  (hQ : ∀ c a w, Q (.panic c) (a.put oi.dst v) w → Q (.panic c) a w) (hy : YieldsIf P ops S oi v a) (hS : S w)
  (h : wpAnyE P md ops Q S L fuel (listed.setIfInBounds i true) (a.put oi.dst v) w) : wpAnyE P md ops Q S L (fuel + 1) listed a w :=
 wpAnyE_first2 ch hch hi (Region.noSelect_spec hs) hQ fuel listed a w (closed_of hcl) (Region.free_spec hi hf) (by simpa using hr) hy hS h
end
end Go.Proofs.YthaibekbefndlaaGreatDoor.C

namespace Go.Proofs.YthaibekbefndlaaGreatDoor.C
open Go.RowKit

def hexT : List UInt8 := [48, 49, 50, 51, 52, 53, 54, 55, 56, 57, 97, 98, 99, 100, 101, 102, 65, 66, 67, 68, 69, 70]
def dAt (b : UInt8) : Nat → Int
 | 0 => -1
 | k + 1 => if hexT.getD k 0 = b then (k : Int) else dAt b k
theorem dAt_hit {b : UInt8} {k : Nat} (h : hexT.getD k 0 = b) : dAt b (k + 1) = k := if_pos h
theorem dAt_miss {b : UInt8} {k : Nat} (h : ¬ hexT.getD k 0 = b) : dAt b (k + 1) = dAt b k := if_neg h
theorem dAt_all : ∀ n : Nat, n < 256 → (digV (UInt8.ofNat n) = none ∧ dAt (UInt8.ofNat n) 22 = -1) ∨ ∃ d, d < 16 ∧ digV (UInt8.ofNat n) = some d ∧ (dAt (UInt8.ofNat n) 22 = (d : Int) ∨ dAt (UInt8.ofNat n) 22 = (d : Int) + 6 ∧ 9 < d) := by decide +kernel
theorem dAt_dig (b : UInt8) : (digV b = none ∧ dAt b 22 = -1) ∨ ∃ d, d < 16 ∧ digV b = some d ∧ (dAt b 22 = (d : Int) ∨ dAt b 22 = (d : Int) + 6 ∧ 9 < d) := by
 have h := dAt_all b.toNat b.toNat_lt
 have e : UInt8.ofNat b.toNat = b := by simp
 rw [e] at h
 exact h
theorem hexT_at (W : World) : ∀ k, k < 22 → (Instr.index 9 (.string ⟨#[48, 49, 50, 51, 52, 53, 54, 55, 56, 57, 97, 98, 99, 100, 101, 102, 65, 66, 67, 68, 69, 70]⟩) (.int .i64 (k : Nat))).run Tryz.prog W = .ok (.int .u8 (hexT.getD k 0).toNat) W := by
 intro k hk
 rcases (by omega : k = 0 ∨ k = 1 ∨ k = 2 ∨ k = 3 ∨ k = 4 ∨ k = 5 ∨ k = 6 ∨ k = 7 ∨ k = 8 ∨ k = 9 ∨ k = 10 ∨ k = 11 ∨ k = 12 ∨ k = 13 ∨ k = 14 ∨ k = 15 ∨ k = 16 ∨ k = 17 ∨ k = 18 ∨ k = 19 ∨ k = 20 ∨ k = 21) with rfl | rfl | rfl | rfl | rfl | rfl | rfl | rfl | rfl | rfl | rfl | rfl | rfl | rfl | rfl | rfl | rfl | rfl | rfl | rfl | rfl | rfl <;> kernel_rfl
def hexI (l : List UInt8) : Int := match hexN l 0 with
 | some n => (n : Int)
 | none => -1
theorem hexN_at {s : ByteArray} {i : Nat} (h : i < s.size) (v : Nat) : hexN (s.data.toList.drop i) v = match digV (s[i]'h) with
  | some d => hexN (s.data.toList.drop (i + 1)) (16 * v + d)
  | none => none := by
 rw [drop_ba h, hexN_cons]
 cases digV (s[i]'h) <;> rfl

set_option maxHeartbeats 4000000 in
theorem hex_ref (s : ByteArray) (w : World) (hs : s.size ≤ 6) : Calls Tryz.prog 146 #[.string s] w fun e w' => e = .returned (.int .i64 (hexI s.data.toList)) ∧ ∃ q, w' = w.drewN q := by
 go_enter Tryz.func146, Tryz.ntmps146
 generalize hC : (⟨#[48, 49, 50, 51, 52, 53, 54, 55, 56, 57, 97, 98, 99, 100, 101, 102, 65, 66, 67, 68, 69, 70]⟩ : ByteArray) = C
 have hix : ∀ W k, k < 22 → (Instr.index 9 (.string C) (.int .i64 (k : Nat))).run Tryz.prog W = .ok (.int .u8 (hexT.getD k 0).toNat) W := fun W => by
  rw [← hC]
  exact hexT_at W
 have HC := Lib.hid hix
 clear hix hC
 go_wp2
 go_loopw [3, 4] (fun nv iv wr => ∃ (i v q : Nat), i ≤ s.size ∧ iv = .int .i64 i ∧ nv = .int .i64 v ∧ Hid (hexN s.data.toList 0 = hexN (s.data.toList.drop i) v) ∧ Hid (v < 16 ^ i) ∧ wr = w.drewN q) (fun _ iv _ => s.size - (intOf iv).toNat)
 case atStart => exact ⟨0, 0, 0, Nat.zero_le _, rfl, rfl, Lib.hid rfl, Lib.hid (by decide), rfl⟩
 case round =>
  obtain ⟨i, v, q, hi, rfl, rfl, HN, HV, rfl⟩ := hrel
  have hv : v < 16777216 := Nat.lt_of_lt_of_le HV.out (pow_16 (by omega))
  by_cases hlt : i < s.size
  ·have hat := hexN_at hlt v
   obtain ⟨b, hb⟩ : ∃ b, s[i]'hlt = b := ⟨_, rfl⟩
   rw [hb] at hat
   have HAT := Lib.hid hat
   have hsi : ∀ W, (Instr.index 9 (.string s) (.int .i64 (i : Nat))).run Tryz.prog W = .ok (.int .u8 b.toNat) W := fun W => by
    rw [run_index_string W 9 s .i64 (i : Int) (by kernel_rfl), dif_pos ⟨by omega, by omega⟩, ← hb]
    rfl
   clear hat hb
   go_wp2
   go_loopw [5, 6] (fun dv kv wr => ∃ (k p : Nat) (d : Int), k ≤ 22 ∧ kv = .int .i64 k ∧ dv = .int .i64 d ∧ Hid (d = dAt b k) ∧ wr = w.drewN p) (fun _ kv _ => 22 - (intOf kv).toNat)
   case atStart => exact ⟨0, q, _, Nat.zero_le _, rfl, rfl, Lib.hid rfl, rfl⟩
   case round =>
    obtain ⟨k, p, d, hk, rfl, rfl, HD, rfl⟩ := hrel
    by_cases hkl : k < 22
    ·have hci := fun W => HC.out W k hkl
     have k1 : (k : Int) < 22 := by omega
     obtain ⟨c, hc⟩ : ∃ c, hexT.getD k 0 = c := ⟨_, rfl⟩
     rw [hc] at hci
     by_cases hcb : c = b
     ·have e1 : ((c.toNat : Int) == (b.toNat : Int)) = true := by rw [hcb]; simp
      have HN2 := Lib.hid (dAt_hit (b := b) (hc.trans hcb)).symm
      clear hc hcb
      go_wp2
      go_quiet (fail)
      go_wp2
      go_roundw
      case rel => exact ⟨k + 1, _, _, by omega, by go_num, rfl, HN2, rfl⟩
      case measure => simp [intOf]; omega
     ·have e1 : ((c.toNat : Int) == (b.toNat : Int)) = false := by
       simp
       intro h
       exact hcb (UInt8.toNat_inj.1 (by omega))
      have HN2 := Lib.hid (HD.out.trans (dAt_miss (b := b) (fun e => hcb (hc.symm.trans e))).symm)
      clear hc hcb
      go_wp2
      go_quiet (fail)
      go_wp2
      go_roundw
      case rel => exact ⟨k + 1, _, _, by omega, by go_num, rfl, HN2, rfl⟩
      case measure => simp [intOf]; omega
    ·obtain rfl : k = 22 := by omega
     have hd := dAt_dig b
     rw [← HD.out] at hd
     rcases hd with ⟨h1, h2⟩ | ⟨x, hx, h1, h2⟩
     ·have hh := HAT.out
      rw [h1] at hh
      have hr : hexI s.data.toList = -1 := by unfold hexI; rw [HN.out, hh]
      have HR := Lib.hid hr
      clear h1 hh hr
      subst h2
      go_wp2
      go_ret
      exact ⟨by rw [HR.out]; rfl, _, rfl⟩
     ·have hh := HAT.out
      rw [h1] at hh
      have HN2 := Lib.hid (HN.out.trans hh)
      have HV2 : Hid (16 * v + x < 16 ^ (i + 1)) := Lib.hid (by
       have := HV.out
       rw [Nat.pow_succ]
       omega)
      clear h1 hh
      rcases h2 with rfl | ⟨rfl, h9⟩
      ·go_wp2
       all_goals go_roundw
       case rel => exact ⟨i + 1, 16 * v + x, _, by omega, by go_num, by go_num, HN2, HV2, rfl⟩
       case measure => simp [intOf]; omega
      ·go_wp2
       all_goals go_roundw
       case rel => exact ⟨i + 1, 16 * v + x, _, by omega, by go_num, by go_num, HN2, HV2, rfl⟩
       case measure => simp [intOf]; omega
  ·obtain rfl : i = s.size := by omega
   have hh := HN.out
   rw [← size_list, List.drop_length] at hh
   have hr : hexI s.data.toList = v := by unfold hexI; rw [hh]; rfl
   have HR := Lib.hid hr
   clear hh hr
   go_wp2
   go_ret
   exact ⟨by rw [HR.out]; rfl, _, rfl⟩
end Go.Proofs.YthaibekbefndlaaGreatDoor.C

namespace Go.Proofs.YthaibekbefndlaaGreatDoor.C
open Go.RowKit

def tokC : Tok := ⟨1, [99, 108, 97, 115, 115], 0, 0⟩
def tokX : Tok := ⟨1, [120], 0, 6⟩
def tok41 : Tok := ⟨3, [], 65, 8⟩
def tokD : Tok := ⟨2, [46, 46, 46], 0, 15⟩
def tok43 : Tok := ⟨3, [], 67, 18⟩
def tokI : Tok := ⟨2, [59], 0, 25⟩
def tok61 : Tok := ⟨3, [], 97, 26⟩
def knownL : Loc := ⟨[⟨[120], [(65, 67), (97, 97)]⟩], [], [], []⟩
theorem lex07_kn1 : lexL [99, 108, 97, 115, 115, 32, 120, 32, 60, 85, 48, 48, 52, 49, 62, 46, 46, 46, 60, 85, 48, 48, 52, 51, 62, 59, 60, 85, 48, 48, 54, 49, 62] = ([tokC, tokX, tok41, tokD, tok43, tokI, tok61, ⟨6, [], 0, 33⟩], 0, 0) := by
 have h : runL [99, 108, 97, 115, 115, 32, 120, 32, 60, 85, 48, 48, 52, 49, 62, 46, 46, 46, 60, 85, 48, 48, 52, 51, 62, 59, 60, 85, 48, 48, 54, 49, 62] 0 [] = .inl [tokC, tokX, tok41, tokD, tok43, tokI, tok61, ⟨6, [], 0, 33⟩] :=
  run_step (m := 5) (acc' := [tokC]) (by simp) (by kernel_rfl) (by omega) rfl
  (run_step (m := 1) (acc' := [tokC]) (by simp) (by kernel_rfl) (by omega) rfl
  (run_step (m := 1) (acc' := [tokC, tokX]) (by simp) (by kernel_rfl) (by omega) rfl
  (run_step (m := 1) (acc' := [tokC, tokX]) (by simp) (by kernel_rfl) (by omega) rfl
  (run_step (m := 7) (acc' := [tokC, tokX, tok41]) (by simp) (by kernel_rfl) (by omega) rfl
  (run_step (m := 3) (acc' := [tokC, tokX, tok41, tokD]) (by simp) (by kernel_rfl) (by omega) rfl
  (run_step (m := 7) (acc' := [tokC, tokX, tok41, tokD, tok43]) (by simp) (by kernel_rfl) (by omega) rfl
  (run_step (m := 1) (acc' := [tokC, tokX, tok41, tokD, tok43, tokI]) (by simp) (by kernel_rfl) (by omega) rfl
  (run_step (m := 7) (acc' := [tokC, tokX, tok41, tokD, tok43, tokI, tok61]) (by simp) (by kernel_rfl) (by omega) rfl
  (by show runL [] 33 _ = _; rw [runL_nil]; rfl)))))))))
 unfold lexL
 rw [if_neg (by decide), h]
 rfl
theorem parse_known1 : parseL [99, 108, 97, 115, 115, 32, 120, 32, 60, 85, 48, 48, 52, 49, 62, 46, 46, 46, 60, 85, 48, 48, 52, 51, 62, 59, 60, 85, 48, 48, 54, 49, 62] = (knownL, 0, 0) := by
 have hr : readL [tokC, tokX, tok41, tokD, tok43, tokI, tok61, ⟨6, [], 0, 33⟩] = .ok knownL := by kernel_rfl
 unfold parseL
 rw [lex07_kn1]
 simp only [hr]
theorem lex07_kn2 : lexL [111, 114, 100, 101, 114, 32, 60, 99, 104, 62] = ([⟨1, [111, 114, 100, 101, 114], 0, 0⟩, ⟨5, [99, 104], 0, 6⟩, ⟨6, [], 0, 10⟩], 0, 0) := by
 have h : runL [111, 114, 100, 101, 114, 32, 60, 99, 104, 62] 0 [] = .inl [⟨1, [111, 114, 100, 101, 114], 0, 0⟩, ⟨5, [99, 104], 0, 6⟩, ⟨6, [], 0, 10⟩] :=
  run_step (m := 5) (acc' := [⟨1, [111, 114, 100, 101, 114], 0, 0⟩]) (by simp) (by kernel_rfl) (by omega) rfl
  (run_step (m := 1) (acc' := [⟨1, [111, 114, 100, 101, 114], 0, 0⟩]) (by simp) (by kernel_rfl) (by omega) rfl
  (run_step (m := 4) (acc' := [⟨1, [111, 114, 100, 101, 114], 0, 0⟩, ⟨5, [99, 104], 0, 6⟩]) (by simp) (by kernel_rfl) (by omega) rfl
  (by show runL [] 10 _ = _; rw [runL_nil]; rfl)))
 unfold lexL
 rw [if_neg (by decide), h]
 rfl
theorem parse_known2 : parseL [111, 114, 100, 101, 114, 32, 60, 99, 104, 62] = (noL, 31, 6) := by
 have hr : readL [⟨1, [111, 114, 100, 101, 114], 0, 0⟩, ⟨5, [99, 104], 0, 6⟩, ⟨6, [], 0, 10⟩] = .error (31, 6) := by kernel_rfl
 unfold parseL
 rw [lex07_kn2]
 simp only [hr]
theorem right_known : rightL knownL = true := by kernel_rfl
theorem right_noL : rightL noL = true := by kernel_rfl
end Go.Proofs.YthaibekbefndlaaGreatDoor.C
