/-
  Joined: MCellI, MCellJ, LgG, LhA, LhC, LjC. Each with what its own head says.
-/
import Derived.Test.YtknjhlbhbnldpaaGreatDoorB09
import Derived.Test.YtknjhlbhbnldpaaGreatDoorB10
import Derived.Test.YtknjhlbhbnldpaaGreatDoorB08


namespace Go.Proofs.YtknjhlbhbnldpaaGreatDoor.C
open Go.RowKit
set_option maxRecDepth 100000 in
set_option maxHeartbeats 2000000 in
theorem shown_wrong (w : World) (B : Nat) (v : Value) (n : Nat) (xs : List UInt8) (c : Int) (hno : ¬ (-256 ≤ c ∧ c < 55296 ∨ 57343 < c ∧ c ≤ 1114111)) (hB : B ≤ w.heap.size) (hown : w.ownsRow B 5 1 v n (Lib.byteCells xs)) (hn : n ≤ 1099511627000) :
  Calls Tryz.prog 126 #[v, .int .i32 c] w fun e w' => ∃ v', e = .returned v' ∧ Grew B w (n + (shown c).length) (xs ++ shown c) v' w' := by
 obtain ⟨i0, hi, hz0, hz1, hz2⟩ := info_parts info5
 have hsh : shown c = [92, 63] := by
  unfold shown
  rw [if_neg (by omega), if_pos hno]
 rw [hsh]
 have HO := Lib.hid hown
 clear hown hsh
 have hr : rightB c = false := by simp [rightB]; omega
 have HR := Lib.hid hr
 clear hr
 go_enter Tryz.func126, Tryz.ntmps126
 go_wp2_with fail
 refine (byte_no c w (by omega)).mono ?_
 rintro e w' ⟨rfl, rfl⟩
 go_wp2_with fail
 refine (right_any _ _).mono ?_
 rintro e w' ⟨rfl, rfl⟩
 rw [HR.out]
 go_wp2_with (at_builtin; (refine Lib.wpList_append_own_string _ rfl _ _ 22 9 rfl B 5 i0 Tryz.underlying22 Tryz.underlying9 hi hz0 hz1 hz2 _ _ _ rfl HO.out _ rfl (by unfold maxLen; show n + 2 ≤ _; omega) (by show n + 2 ≤ _; omega) hB ?_); intro v' w3 hown' hgrow _)
 go_ret
 exact ⟨v', rfl, by rw [Lib.byteCells_append]; exact hown', (Below.refl _ _).grown hgrow hB (fun k hk => (HO.out.lt k hk).1)⟩
set_option maxRecDepth 100000 in
set_option maxHeartbeats 2000000 in
theorem shown_92 (w : World) (B : Nat) (v : Value) (n : Nat) (xs : List UInt8) (c : Int) (hc : c = 92) (hB : B ≤ w.heap.size) (hown : w.ownsRow B 5 1 v n (Lib.byteCells xs)) (hn : n ≤ 1099511627000) :
  Calls Tryz.prog 126 #[v, .int .i32 c] w fun e w' => ∃ v', e = .returned v' ∧ Grew B w (n + (shown c).length) (xs ++ shown c) v' w' := by
 obtain ⟨i0, hi, hz0, hz1, hz2⟩ := info_parts info5
 have hsh : shown c = [92, 92] := by
  unfold shown
  subst hc; rfl
 rw [hsh]
 have HO := Lib.hid hown
 clear hown hsh
 subst hc
 have hr : rightB 92 = true := by decide
 have HR := Lib.hid hr
 clear hr
 go_enter Tryz.func126, Tryz.ntmps126
 go_wp2_with fail
 refine (byte_no 92 w (by omega)).mono ?_
 rintro e w' ⟨rfl, rfl⟩
 go_wp2_with fail
 refine (right_any _ _).mono ?_
 rintro e w' ⟨rfl, rfl⟩
 rw [HR.out]
 go_wp2_with (at_builtin; (refine Lib.wpList_append_own_string _ rfl _ _ 22 9 rfl B 5 i0 Tryz.underlying22 Tryz.underlying9 hi hz0 hz1 hz2 _ _ _ rfl HO.out _ rfl (by unfold maxLen; show n + 2 ≤ _; omega) (by show n + 2 ≤ _; omega) hB ?_); intro v' w3 hown' hgrow _)
 go_ret
 exact ⟨v', rfl, by rw [Lib.byteCells_append]; exact hown', (Below.refl _ _).grown hgrow hB (fun k hk => (HO.out.lt k hk).1)⟩
set_option maxRecDepth 100000 in
set_option maxHeartbeats 2000000 in
theorem shown_10 (w : World) (B : Nat) (v : Value) (n : Nat) (xs : List UInt8) (c : Int) (hc : c = 10) (hB : B ≤ w.heap.size) (hown : w.ownsRow B 5 1 v n (Lib.byteCells xs)) (hn : n ≤ 1099511627000) :
  Calls Tryz.prog 126 #[v, .int .i32 c] w fun e w' => ∃ v', e = .returned v' ∧ Grew B w (n + (shown c).length) (xs ++ shown c) v' w' := by
 obtain ⟨i0, hi, hz0, hz1, hz2⟩ := info_parts info5
 have hsh : shown c = [92, 110] := by
  unfold shown
  subst hc; rfl
 rw [hsh]
 have HO := Lib.hid hown
 clear hown hsh
 subst hc
 have hr : rightB 10 = true := by decide
 have HR := Lib.hid hr
 clear hr
 go_enter Tryz.func126, Tryz.ntmps126
 go_wp2_with fail
 refine (byte_no 10 w (by omega)).mono ?_
 rintro e w' ⟨rfl, rfl⟩
 go_wp2_with fail
 refine (right_any _ _).mono ?_
 rintro e w' ⟨rfl, rfl⟩
 rw [HR.out]
 go_wp2_with (at_builtin; (refine Lib.wpList_append_own_string _ rfl _ _ 22 9 rfl B 5 i0 Tryz.underlying22 Tryz.underlying9 hi hz0 hz1 hz2 _ _ _ rfl HO.out _ rfl (by unfold maxLen; show n + 2 ≤ _; omega) (by show n + 2 ≤ _; omega) hB ?_); intro v' w3 hown' hgrow _)
 go_ret
 exact ⟨v', rfl, by rw [Lib.byteCells_append]; exact hown', (Below.refl _ _).grown hgrow hB (fun k hk => (HO.out.lt k hk).1)⟩
theorem byteCells_byte (c : Int) (h0 : 0 ≤ c) (h1 : c ≤ 255) : Lib.byteCells [c.toNat.toUInt8] = [.int .u8 c] := by
 have : c.toNat.toUInt8.toNat = c.toNat := by simp [Nat.toUInt8, UInt8.toNat_ofNat']; omega
 simp only [Lib.byteCells, List.map_cons, List.map_nil, this]
 rw [Int.toNat_of_nonneg h0]
set_option maxRecDepth 100000 in
set_option maxHeartbeats 2000000 in
theorem shown_plain (w : World) (B : Nat) (v : Value) (n : Nat) (xs : List UInt8) (c : Int) (h1 : 32 ≤ c) (h2 : c ≤ 126) (h3 : c ≠ 92) (hB : B ≤ w.heap.size) (hown : w.ownsRow B 5 1 v n (Lib.byteCells xs)) (hn : n ≤ 1099511627000) :
  Calls Tryz.prog 126 #[v, .int .i32 c] w fun e w' => ∃ v', e = .returned v' ∧ Grew B w (n + (shown c).length) (xs ++ shown c) v' w' := by
 obtain ⟨i0, hi, hz0, hz1, hz2⟩ := info_parts info5
 have hsh : shown c = [c.toNat.toUInt8] := by
  unfold shown
  rw [if_neg (by omega), if_neg (by omega), if_neg h3, if_neg (by omega), if_pos ⟨h1, h2⟩]
 rw [hsh]
 have HO := Lib.hid hown
 have e1 : (c == 92) = false := by simpa using h3
 have e2 : (c == 10) = false := by simp; omega
 clear hown hsh h3
 have hr : rightB c = true := by simp [rightB]; omega
 have HR := Lib.hid hr
 clear hr
 go_enter Tryz.func126, Tryz.ntmps126
 go_wp2_with fail
 refine (byte_no c w (by omega)).mono ?_
 rintro e w' ⟨rfl, rfl⟩
 go_wp2_with fail
 refine (right_any _ _).mono ?_
 rintro e w' ⟨rfl, rfl⟩
 rw [HR.out]
 go_wp2_with (at_builtin; (refine wpList_append_own _ rfl _ _ 22 rfl B 5 i0 (.int .u8 0) 1 1 Tryz.underlying22 hi hz0 hz1 hz2 rfl (by decide) _ _ _ rfl (HO.out.alloc _) _ 1 1 [.int .u8 c] rfl rfl (cell_one_new _ _ _) (by intro u hu; simp at hu; subst hu; rfl) (by unfold maxLen; omega) (by omega) (by simp; omega) ?_); intro v' w3 hown' hgrow _)
 go_ret
 exact ⟨v', rfl, by rw [Lib.byteCells_append, byteCells_byte c (by omega) (by omega)]; exact hown', ((Below.refl _ _).alloc hB _).grown hgrow (by simp; omega) (fun k hk => (HO.out.lt k hk).1)⟩
theorem strconvAppendInt_16z (w : World) (B : Nat) (v : Value) (n : Nat) (xs : List UInt8) (c : Int) (h0 : 0 ≤ c) (h1 : c ≤ 1114111) (hT : w.cell? ⟨5, 15, none⟩ = some (.int .u8 4)) (hB : B ≤ w.heap.size) (hown : w.ownsRow B 5 1 v n (Lib.byteCells xs)) (hn : n ≤ 1099511627776) :
  Calls Tryz.prog 156 #[v, .int .i64 c, .int .i64 16] w fun e w' => ∃ v', e = .returned v' ∧ Grew B w (n + (hexL c.toNat).length) (xs ++ hexL c.toNat) v' w' := by
 obtain ⟨u, rfl⟩ := Int.eq_ofNat_of_zero_le h0
 rw [Int.toNat_natCast]
 exact strconvAppendInt_16 w B v n xs u (by omega) hT hB hown hn
set_option maxRecDepth 100000 in
set_option maxHeartbeats 2000000 in
theorem shown_big (w : World) (B : Nat) (v : Value) (n : Nat) (xs : List UInt8) (c : Int) (h0 : 0 ≤ c) (h1 : c < 32 ∨ 126 < c) (h2 : c ≠ 10) (hy : -256 ≤ c ∧ c < 55296 ∨ 57343 < c ∧ c ≤ 1114111) (hT : w.cell? ⟨5, 15, none⟩ = some (.int .u8 4)) (hTB : 5 < B) (hB : B ≤ w.heap.size) (hown : w.ownsRow B 5 1 v n (Lib.byteCells xs)) (hn : n ≤ 1099511627000) :
  Calls Tryz.prog 126 #[v, .int .i32 c] w fun e w' => ∃ v', e = .returned v' ∧ Grew B w (n + (shown c).length) (xs ++ shown c) v' w' := by
 obtain ⟨i0, hi, hz0, hz1, hz2⟩ := info_parts info5
 have hsh : shown c = [92, 117, 123] ++ hexL c.toNat ++ [125] := by
  unfold shown
  rw [if_neg (by omega), if_neg (by omega), if_neg (by omega), if_neg h2, if_neg (by omega)]
 have HSH := Lib.hid hsh
 have HO := Lib.hid hown
 have e1 : (c == 92) = false := by simp; omega
 have e2 : (c == 10) = false := by simpa using h2
 have HT := Lib.hid hT
 have hlen := hexL_len 5 c.toNat (by have h16 : (16 : Nat) ^ (5 + 1) = 16777216 := (by decide); omega)
 have HLEN := Lib.hid hlen
 have hr : rightB c = true := by simp [rightB]; omega
 have HR := Lib.hid hr
 clear hr
 have hle : c ≤ 1114111 := by omega
 clear hown hsh h2 hT hlen hy
 go_enter Tryz.func126, Tryz.ntmps126
 go_wp2_with fail
 refine (byte_no c w (by omega)).mono ?_
 rintro e w' ⟨rfl, rfl⟩
 go_wp2_with fail
 refine (right_any _ _).mono ?_
 rintro e w' ⟨rfl, rfl⟩
 rw [HR.out]
 rcases h1 with h1 | h1
 all_goals
  go_wp2_with (at_builtin; (refine Lib.wpList_append_own_string _ rfl _ _ 22 9 rfl B 5 i0 Tryz.underlying22 Tryz.underlying9 hi hz0 hz1 hz2 _ _ _ rfl HO.out _ rfl (by unfold maxLen; show n + 3 ≤ _; omega) (by show n + 3 ≤ _; omega) hB ?_); intro v1 w1 hown1 hgrow1 _; have hb1 : Below B w w1 := (Below.refl _ _).grown hgrow1 hB (fun k hk => (HO.out.lt k hk).1); have HO1 := Lib.hid hown1; clear hown1 hgrow1)
  have hsz1 := hb1.size
  have HO1b : Hid (w1.ownsRow B 5 1 v1 (n + 3) (Lib.byteCells (xs ++ [92, 117, 123]))) := by rw [Lib.byteCells_append]; exact HO1.out
  refine (strconvAppendInt_16z w1 B v1 (n + 3) (xs ++ [92, 117, 123]) c h0 hle ((hb1.cell (p := ⟨5, 15, none⟩) hTB).trans HT.out) (by omega) HO1b.out (by omega)).mono ?_
  rintro e w2 ⟨v2, rfl, hown2, hb2⟩
  have HO2 := Lib.hid hown2
  have hsz2 := hb2.size
  clear hown2
  go_wp2_with (at_builtin; (refine wpList_append_own _ rfl _ _ 22 rfl B 5 i0 (.int .u8 0) 1 1 Tryz.underlying22 hi hz0 hz1 hz2 rfl (by decide) _ _ _ rfl (HO2.out.alloc _) _ 1 1 [.int .u8 125] rfl rfl (cell_one_new _ _ _) (by intro u hu; simp at hu; subst hu; rfl) (by have := HLEN.out; unfold maxLen; omega) (by have := HLEN.out; omega) (by simp; omega) ?_); intro v' w3 hown' hgrow _)
  go_ret
  refine ⟨v', rfl, ?_, ?_⟩
  ·have e3 : Lib.byteCells (xs ++ ([92, 117, 123] ++ hexL c.toNat ++ [125])) = Lib.byteCells (xs ++ [92, 117, 123] ++ hexL c.toNat) ++ [Value.int .u8 125] := by simp [Lib.byteCells]
   have e4 : n + ([92, 117, 123] ++ hexL c.toNat ++ [125]).length = n + 3 + (hexL c.toNat).length + 1 := by simp; omega
   rw [HSH.out, e3, e4]
   exact hown'
  ·exact (((hb1.trans hb2)).alloc (by omega) _).grown hgrow (by simp; omega) (fun k hk => (HO2.out.lt k hk).1)
theorem hex16_at : ∀ (x : Nat) (h : x < (ByteArray.mk #[48, 49, 50, 51, 52, 53, 54, 55, 56, 57, 97, 98, 99, 100, 101, 102]).size), (ByteArray.mk #[48, 49, 50, 51, 52, 53, 54, 55, 56, 57, 97, 98, 99, 100, 101, 102])[x]'h = dig x
 | 0, _ => rfl
 | 1, _ => rfl
 | 2, _ => rfl
 | 3, _ => rfl
 | 4, _ => rfl
 | 5, _ => rfl
 | 6, _ => rfl
 | 7, _ => rfl
 | 8, _ => rfl
 | 9, _ => rfl
 | 10, _ => rfl
 | 11, _ => rfl
 | 12, _ => rfl
 | 13, _ => rfl
 | 14, _ => rfl
 | 15, _ => rfl
 | (x + 16), h => absurd h (by show ¬ x + 16 < 16; omega)
theorem esc_cells (xs : List UInt8) (p q : Nat) (hp : p < (ByteArray.mk #[48, 49, 50, 51, 52, 53, 54, 55, 56, 57, 97, 98, 99, 100, 101, 102]).size) (hq : q < (ByteArray.mk #[48, 49, 50, 51, 52, 53, 54, 55, 56, 57, 97, 98, 99, 100, 101, 102]).size) :
  Lib.byteCells (xs ++ [92, 120, dig p, dig q]) = Lib.byteCells xs ++ [Value.int .u8 92, Value.int .u8 120, Value.int .u8 ((ByteArray.mk #[48, 49, 50, 51, 52, 53, 54, 55, 56, 57, 97, 98, 99, 100, 101, 102])[p]'hp).toNat, Value.int .u8 ((ByteArray.mk #[48, 49, 50, 51, 52, 53, 54, 55, 56, 57, 97, 98, 99, 100, 101, 102])[q]'hq).toNat] := by
 rw [hex16_at p hp, hex16_at q hq]
 simp [Lib.byteCells]
theorem and15_u8 (b : Nat) (h : b ≤ 255) : bits BinOp.and IntKind.u8 (b : Int) 15 = ((b % 16 : Nat) : Int) := by
 have : ∀ b : Fin 256, bits BinOp.and IntKind.u8 ((b.val : Nat) : Int) 15 = ((b.val % 16 : Nat) : Int) := by decide +kernel
 exact this ⟨b, by omega⟩
theorem cell_four_new (w : World) (a b c d : Value) (t : TypeId) : ∀ j u, [a, b, c, d][j]? = some u → (w.alloc (.cells #[a, b, c, d] t)).cell? ((⟨w.heap.size, 0, none⟩ : Addr).add j) = some u := by
 intro j u h
 match j, h with
 | 0, h => simpa [Addr.add] using h
 | 1, h => simpa [Addr.add] using h
 | 2, h => simpa [Addr.add] using h
 | 3, h => simpa [Addr.add] using h
set_option maxRecDepth 100000 in
set_option maxHeartbeats 2000000 in
theorem shown_esc (w : World) (B : Nat) (v : Value) (n : Nat) (xs : List UInt8) (c : Int) (h0 : -256 ≤ c) (h1 : c < 0) (hB : B ≤ w.heap.size) (hown : w.ownsRow B 5 1 v n (Lib.byteCells xs)) (hn : n ≤ 1099511627000) :
  Calls Tryz.prog 126 #[v, .int .i32 c] w fun e w' => ∃ v', e = .returned v' ∧ Grew B w (n + (shown c).length) (xs ++ shown c) v' w' := by
 obtain ⟨i0, hi, hz0, hz1, hz2⟩ := info_parts info5
 have hsh : shown c = [92, 120, dig ((-1 - c).toNat / 16), dig ((-1 - c).toNat % 16)] := by
  unfold shown
  rw [if_pos ⟨h0, h1⟩]
 have HSH := Lib.hid hsh
 have HO := Lib.hid hown
 clear hown hsh
 go_enter Tryz.func126, Tryz.ntmps126
 go_wp2_with fail
 refine (byte_yes c w h0 h1).mono ?_
 rintro e w' ⟨rfl, rfl⟩
 obtain ⟨b, hb⟩ : ∃ b : Nat, -1 - c = b := ⟨(-1 - c).toNat, by omega⟩
 rw [hb]
 have hb2 : b ≤ 255 := by omega
 have HB := Lib.hid hb
 clear hb
 obtain ⟨p, hp⟩ : ∃ p : Nat, p = b / 16 := ⟨_, rfl⟩
 obtain ⟨q, hq⟩ : ∃ q : Nat, q = b % 16 := ⟨_, rfl⟩
 have hp1 : (b : Int) / 16 = (p : Int) := by omega
 have hq1 : (b : Int) % 16 = (q : Int) := by omega
 have hp2 : p < 16 := by omega
 have hq2 : q < 16 := by omega
 have hp3 : (p : Int) < 16 := by omega
 have hq3 : (q : Int) < 16 := by omega
 have hand : bits BinOp.and IntKind.u8 (b : Int) 15 = (q : Int) := by rw [and15_u8 b hb2, hq]
 have HP := Lib.hid hp
 have HQ := Lib.hid hq
 clear hp hq
 go_wp2
 go_region_law ((refine step_append_lies _ rfl (.tmp 14) (.tmp 21) 22 rfl B 5 i0 (.int .u8 0) 1 1 Tryz.underlying22 hi hz0 hz1 hz2 rfl (by decide) v n (Lib.byteCells xs) (by simp [Act.eval]) (HO.out.alloc _) _ 4 4 _ (by simp [Act.eval]) rfl (cell_four_new _ _ _ _ _ _) (by intro u hu; simp at hu; rcases hu with rfl | rfl | rfl | rfl <;> rfl) (by decide) (by unfold maxLen; omega) (by omega) (by simp; omega) _ rfl ?_); intro g cap w1 hown1 hgrow1 _ _)
 all_goals
  have HO1 := Lib.hid hown1
  have HG1 := Lib.hid hgrow1
  clear hown1 hgrow1
  go_wp2
  go_ret
  refine ⟨.slice (some ⟨g, 0, none⟩) (n + 4) cap, rfl, ?_, ?_⟩
  ·have e5 : shown c = [92, 120, dig p, dig q] := by rw [HSH.out, HB.out, Int.toNat_natCast, ← HP.out, ← HQ.out]
   rw [e5, esc_cells xs p q hp2 hq2]
   exact HO1.out
  ·exact ((Below.refl _ _).alloc hB _).drew.grown HG1.out (by simp; omega) (fun k hk => (HO.out.lt k hk).1)
theorem appendShown_any (w : World) (B : Nat) (v : Value) (n : Nat) (xs : List UInt8) (c : Int) (hT : w.cell? ⟨5, 15, none⟩ = some (.int .u8 4)) (hTB : 5 < B) (hB : B ≤ w.heap.size) (hown : w.ownsRow B 5 1 v n (Lib.byteCells xs)) (hn : n ≤ 1099511627000) :
  Calls Tryz.prog 126 #[v, .int .i32 c] w fun e w' => ∃ v', e = .returned v' ∧ Grew B w (n + (shown c).length) (xs ++ shown c) v' w' := by
 by_cases h1 : -256 ≤ c ∧ c < 0
 ·exact shown_esc w B v n xs c h1.1 h1.2 hB hown hn
 by_cases h2 : -256 ≤ c ∧ c < 55296 ∨ 57343 < c ∧ c ≤ 1114111
 ·by_cases h3 : c = 92
  ·exact shown_92 w B v n xs c h3 hB hown hn
  by_cases h4 : c = 10
  ·exact shown_10 w B v n xs c h4 hB hown hn
  by_cases h5 : 32 ≤ c ∧ c ≤ 126
  ·exact shown_plain w B v n xs c h5.1 h5.2 h3 hB hown hn
  ·exact shown_big w B v n xs c (by omega) (by omega) h4 h2 hT hTB hB hown hn
 ·exact shown_wrong w B v n xs c h2 hB hown hn
end Go.Proofs.YtknjhlbhbnldpaaGreatDoor.C


namespace Go.Proofs.YtknjhlbhbnldpaaGreatDoor.C
open Go.RowKit
theorem conv_own {w : World} {B : Nat} {v : Value} {n : Nat} {xs : List UInt8} (h : w.ownsRow B 5 1 v n (Lib.byteCells xs)) : (convert 22 9 v).run Tryz.prog w = .ok (.string (str xs)) w := by
 have hl : xs.length = n := by have := h.1; rw [Lib.byteCells_length] at this; omega
 rcases h.2 with ⟨rfl, rfl⟩ | ⟨g, cap, cur, rfl, h2, h3, h4⟩
 ·obtain rfl : xs = [] := List.eq_nil_of_length_eq_zero hl
  exact Lib.run_convert_nil_bytes w 22 9 5 0 Tryz.underlying22 Tryz.underlying5 Tryz.underlying9
 ·subst hl
  refine run_convert_bytes_back w 22 9 5 ⟨g, 0, none⟩ cap xs Tryz.underlying22 Tryz.underlying5 Tryz.underlying9 ?_
  intro j hj
  refine h.cells (g := g) rfl j _ ?_
  simp [Lib.byteCells, hj]
theorem textL_snoc (l : List Int) (c : Int) : textL (l ++ [c]) = textL l ++ shown c := by simp [textL]
theorem textL_le (l : List Int) : (textL l).length ≤ 10 * l.length := by
 induction l with
 | nil => simp [textL]
 | cons c l ih =>
  have := shown_le c
  simp only [textL, List.flatMap_cons, List.length_append, List.length_cons] at *
  omega
set_option maxRecDepth 100000 in
set_option maxHeartbeats 1000000 in
theorem text_any (w : World) (Bx : Nat) (Ax : Option Addr) (n cx : Nat) (xs : List Int) (hx : RI .i32 w Bx Ax n xs) (hBx : Bx ≤ w.heap.size) (hn : n ≤ 1073741824) (hT : w.cell? ⟨5, 15, none⟩ = some (.int .u8 4)) :
  Calls Tryz.prog 94 #[.slice Ax n cx] w fun e w' => e = .returned (.string (str (textL xs))) ∧ Below w.heap.size w w' := by
 have HX := Lib.hid hx
 have hTB := World.block_lt_of_cell? w _ hT
 have HT := Lib.hid hT
 clear hx hT
 go_enter Tryz.func94, Tryz.ntmps94
 go_wp2
 go_loopw [3, 8] (fun v i wr => ∃ k : Nat, k ≤ n ∧ i = .int .i64 k ∧ Hid (wr.ownsRow w.heap.size 5 1 v (textL (xs.take k)).length (Lib.byteCells (textL (xs.take k)))) ∧ Below w.heap.size w wr) (fun _ i _ => n - (intOf i).toNat)
 case atStart => exact ⟨0, Nat.zero_le _, rfl, World.ownsRow_nil _ _ _ _, Below.refl _ _⟩
 case round =>
  obtain ⟨k, hk, rfl, HW, hb⟩ := hrel
  by_cases hlt : k < n
  ·obtain ⟨ad, c, rfl, hbl, hc, hcell⟩ := HX.out.at_ hlt
   have hcr : wr.cell? (ad.add k) = some (.int .i32 c) := (hb.cell (p := ad.add k) (by rw [block_of_add]; omega)).trans hcell
   have hle := textL_le (xs.take k)
   have hlk : (xs.take k).length ≤ k := List.length_take_le _ _
   have HC := Lib.hid hc
   clear hc hcell
   go_wp2_with fail
   refine (appendShown_any wr w.heap.size _ (textL (xs.take k)).length (textL (xs.take k)) c ((hb.cell (p := ⟨5, 15, none⟩) hTB).trans HT.out) hTB hb.size HW.out (by omega)).mono ?_
   rintro e w1 ⟨v1, rfl, hown1, hb1⟩
   have hown2 : Hid (w1.ownsRow w.heap.size 5 1 v1 (textL (xs.take (k + 1))).length (Lib.byteCells (textL (xs.take (k + 1))))) := by
    rw [take_snoc HC.out, textL_snoc, List.length_append]
    exact hown1
   clear hown1
   have hb2 := hb.trans hb1
   go_wp2
   go_roundw
   case rel => exact ⟨k + 1, by omega, by go_num, hown2, hb2⟩
   case measure => simp [intOf]; omega
  ·have hkn : k = n := by omega
   have hcv := conv_own HW.out
   have HK := Lib.hid hkn
   clear hkn
   go_wp2
   go_ret
   refine ⟨?_, hb⟩
   have e1 : xs.take k = xs := List.take_of_length_le (by rw [HX.out.len, HK.out]; exact Nat.le_refl _)
   rw [e1]
   rfl
end Go.Proofs.YtknjhlbhbnldpaaGreatDoor.C


namespace Go.Proofs.YtknjhlbhbnldpaaGreatDoor.C
theorem good_tW {t : List UInt8} (h : wordlyB t = true) : GoodT (tW t) := by
 unfold wordlyB at h
 simp only [Bool.and_eq_true, List.all_eq_true] at h
 exact .inl ⟨rfl, by rintro rfl; simp at h, h.2, rfl⟩
theorem good_tC {c : Int} (h : scalB c = true) : GoodT (tC c) := .inr (.inr (.inl ⟨rfl, rfl, scalB_right h⟩))
theorem good_tS {t : List UInt8} (h : t = [59] ∨ t = [44] ∨ t = [40] ∨ t = [41] ∨ t = [46, 46, 46]) : GoodT (tS t) := .inr (.inl ⟨rfl, h, rfl⟩)
theorem good_tQ {t : List UInt8} (h1 : (34 : UInt8) ∉ t) (h2 : (10 : UInt8) ∉ t) : GoodT (tQ t) := .inr (.inr (.inr (.inl ⟨rfl, h1, h2, rfl⟩)))
theorem good_tN {t : List UInt8} (h : wordlyB t = true) (hn : numL t = none) : GoodT (tN t) := by
 unfold wordlyB at h
 simp only [Bool.and_eq_true, List.all_eq_true] at h
 exact .inr (.inr (.inr (.inr ⟨rfl, by rintro rfl; simp at h, h.2, hn, rfl⟩)))
theorem good_item {e : Elm} (h : elemB e = true) : GoodT (itemT e) := by
 unfold itemT
 split
 ·rename_i h0
  obtain ⟨c, hc, hs⟩ := elemB_plain h h0
  rw [hc]
  exact good_tC hs
 ·rename_i h0
  obtain ⟨_, h1, h2⟩ := elemB_named h h0
  exact good_tN h1 h2
theorem good_sep {α : Type} (f : α → List Tok) : ∀ (l : List α), (∀ a ∈ l, ∀ x ∈ f a, GoodT x) → ∀ x ∈ sepT f l, GoodT x
 | [], _, x, hx => by simp [sepT] at hx
 | [a], h, x, hx => h a (by simp) x hx
 | a :: b :: r, h, x, hx => by
  have h' : x ∈ f a ++ tS sSemi :: sepT f (b :: r) := hx
  rcases List.mem_append.1 h' with h1 | h1
  ·exact h a (by simp) x h1
  ·rcases List.mem_cons.1 h1 with rfl | h2
   ·exact good_tS (.inl rfl)
   ·exact good_sep f (b :: r) (fun z hz => h z (by simp at hz ⊢; exact .inr hz)) x h2
theorem good_range {r : Int × Int} (h : rangeB r = true) : ∀ x ∈ rangeT r, GoodT x := by
 unfold rangeB at h
 simp only [Bool.and_eq_true] at h
 intro x hx
 unfold rangeT at hx
 split at hx
 ·simp at hx; subst hx; exact good_tC h.1.1
 ·simp at hx
  rcases hx with rfl | rfl | rfl
  ·exact good_tC h.1.1
  ·exact good_tS (.inr (.inr (.inr (.inr rfl))))
  ·exact good_tC h.1.2
theorem good_pair {r : Int × Int} (h : scalB r.1 = true ∧ scalB r.2 = true) : ∀ x ∈ pairT r, GoodT x := by
 intro x hx
 unfold pairT at hx
 simp at hx
 rcases hx with rfl | rfl | rfl | rfl | rfl
 ·exact good_tS (.inr (.inr (.inl rfl)))
 ·exact good_tC h.1
 ·exact good_tS (.inr (.inl rfl))
 ·exact good_tC h.2
 ·exact good_tS (.inr (.inr (.inr (.inl rfl))))
theorem pairsB_mem {l : List (Int × Int)} (h : pairsB l = true) : ∀ p ∈ l, scalB p.1 = true ∧ scalB p.2 = true := by
 intro r hr
 obtain ⟨i, hi, rfl⟩ := List.mem_iff_getElem.1 hr
 have h1 := all_range h hi
 unfold pairAt at h1
 rw [List.getElem?_eq_getElem hi] at h1
 simp only [Bool.and_eq_true] at h1
 exact ⟨h1.1.1, h1.1.2⟩
theorem good_map {m : List UInt8} {l : List (Int × Int)} (hm : wordlyB m = true) (h : pairsB l = true) : ∀ t ∈ mapT m l, t ≠ [] ∧ ∀ x ∈ t, GoodT x := by
 intro t ht
 unfold mapT at ht
 split at ht
 ·simp at ht
 ·simp at ht
  subst ht
  refine ⟨by simp, fun x hx => ?_⟩
  rcases List.mem_cons.1 hx with rfl | hx
  ·exact good_tW hm
  ·exact good_sep _ _ (fun a ha => good_pair (pairsB_mem h a ha)) x hx
theorem clsB_mem {l : List Cls} (h : clsB l = true) : ∀ c ∈ l, wordlyB c.name = true ∧ c.rs.all rangeB = true := by
 intro c hc
 obtain ⟨i, hi, rfl⟩ := List.mem_iff_getElem.1 hc
 have h1 := all_range h hi
 unfold clsAt at h1
 rw [List.getElem?_eq_getElem hi] at h1
 simp only [Bool.and_eq_true] at h1
 exact ⟨h1.1.1.1, h1.2⟩
theorem ordB_mem {l : List Elm} (h : ordB l = true) : ∀ e ∈ l, elemB e = true := by
 intro e he
 obtain ⟨i, hi, rfl⟩ := List.mem_iff_getElem.1 he
 exact (ordB_elem h (List.getElem?_eq_getElem hi)).1
theorem good_ords (o : List Elm) (ho : ∀ e ∈ o, elemB e = true) : ∀ (r : List Elm) (i : Nat), (∀ e ∈ r, elemB e = true) → ∀ t ∈ ordsT o i r, t ≠ [] ∧ ∀ x ∈ t, GoodT x
 | [], _, _, t, ht => by simp [ordsT] at ht
 | e :: r, i, h, t, ht => by
  have h' : t ∈ ordT o i e :: ordsT o (i + 1) r := ht
  rcases List.mem_cons.1 h' with rfl | h2
  ·refine ⟨by simp [ordT], fun x hx => ?_⟩
   unfold ordT at hx
   rcases List.mem_cons.1 hx with rfl | hx
   ·exact good_tW (by decide +kernel)
   ·rcases List.mem_cons.1 hx with rfl | hx
    ·exact good_item (h e (by simp))
    ·split at hx
     ·simp at hx
     ·split at hx
      ·rename_i y hy
       simp at hx
       rcases hx with rfl | rfl
       ·exact good_tS (.inl rfl)
       ·exact good_item (ho y (List.mem_of_getElem? hy))
      ·simp at hx
  ·exact good_ords o ho r (i + 1) (fun z hz => h z (by simp [hz])) t h2
theorem good_locT {l : Loc} (h : rightL l = true) (hq : ∀ e ∈ l.ord, e.name ≠ [] → (34 : UInt8) ∉ bytesOf e.cells ∧ (10 : UInt8) ∉ bytesOf e.cells) : GoodLs (locT l) := by
 obtain ⟨p1, p2, p3, p4⟩ := right_parts h
 intro t ht
 unfold locT at ht
 simp only [List.mem_append] at ht
 rcases ht with (((ht | ht) | ht) | ht) | ht
 ·obtain ⟨c, hc, rfl⟩ := List.mem_map.1 ht
  obtain ⟨h1, h2⟩ := clsB_mem p1 c hc
  refine ⟨by simp [clsT], fun x hx => ?_⟩
  have hx' : x ∈ tW wClass :: tW c.name :: sepT rangeT c.rs := hx
  rcases List.mem_cons.1 hx' with rfl | hx
  ·exact good_tW (by decide +kernel)
  ·rcases List.mem_cons.1 hx with rfl | hx
   ·exact good_tW h1
   ·exact good_sep _ _ (fun a ha => good_range (List.all_eq_true.1 h2 a ha)) x hx
 ·exact good_map (by decide +kernel) p2 t ht
 ·exact good_map (by decide +kernel) p3 t ht
 ·obtain ⟨e, he, ht⟩ := List.mem_flatMap.1 ht
  unfold elemT at ht
  split at ht
  ·simp at ht
  ·rename_i hne
   simp at ht
   subst ht
   refine ⟨by simp, fun x hx => ?_⟩
   simp at hx
   rcases hx with rfl | rfl | rfl | rfl
   ·exact good_tW (by decide +kernel)
   ·exact good_item (ordB_mem p4 e he)
   ·exact good_tW (by decide +kernel)
   ·exact good_tQ (hq e he hne).1 (hq e he hne).2
 ·exact good_ords l.ord (ordB_mem p4) l.ord 0 (ordB_mem p4) t ht
end Go.Proofs.YtknjhlbhbnldpaaGreatDoor.C


namespace Go.Proofs.YtknjhlbhbnldpaaGreatDoor.C
def nmCls (i : Nat) : List UInt8 := if i = 0 then [97, 108, 112, 104, 97] else if i = 1 then [120] else [108, 111, 119, 45, 49]
def cls1 (i : Nat) (z : Int) : Cls := ⟨nmCls i, (97 + z % 8, 97 + z % 8 + z / 64) :: (if z % 3 = 0 then [(233, 233)] else [])⟩
def clsG : Nat → List Int → List Cls
 | _, [] => []
 | i, z :: r => cls1 i z :: clsG (i + 1) r
def upG : Nat → List Int → List (Int × Int)
 | _, [] => []
 | i, z :: r => ((97 + i : Int), 65 + z % 4) :: upG (i + 1) r
def loG : Nat → List Int → List (Int × Int)
 | _, [] => []
 | i, z :: r => ((65 + i : Int), 97 + z / 4 % 4) :: loG (i + 1) r
def nmElm (j : Int) : List UInt8 := if j = 0 then [99, 104] else if j = 1 then [97, 98] else [101, 115, 122, 101, 116, 116]
def elm0 (z : Int) : List UInt8 × List Int := if z % 11 = 0 then (nmElm (z / 11 % 3), [99 - z / 11 % 3, 104]) else ([], [97 + z % 6])
def samO (o : List Elm) (z : Int) : Int := if 200 < z ∧ 0 < o.length then (match o[(z % (o.length : Int)).toNat]? with
 | some e => e.same
 | none => 0) else o.length
def stepO (o : List Elm) (z : Int) : List Elm := if (placeL o (elm0 z).2).isSome then o else o ++ [⟨(elm0 z).1, (elm0 z).2, samO o z⟩]
def ordG (zs : List Int) : List Elm := zs.foldl stepO []
def genL (zs : List Int) : Loc := ⟨clsG 0 (zs.take 3), upG 0 ((zs.drop 3).take 3), loG 0 ((zs.drop 3).take 3), ordG ((zs.drop 6).take 14)⟩
theorem clsG_snoc : ∀ (l : List Int) (i : Nat) (z : Int), clsG i (l ++ [z]) = clsG i l ++ [cls1 (i + l.length) z]
 | [], i, z => rfl
 | a :: r, i, z => by
  show cls1 i a :: clsG (i + 1) (r ++ [z]) = cls1 i a :: clsG (i + 1) r ++ _
  rw [clsG_snoc r (i + 1) z, show i + 1 + r.length = i + (a :: r).length by simp; omega]
  rfl
theorem upG_snoc : ∀ (l : List Int) (i : Nat) (z : Int), upG i (l ++ [z]) = upG i l ++ [((97 + (i + l.length : Nat) : Int), 65 + z % 4)]
 | [], i, z => rfl
 | a :: r, i, z => by
  show ((97 + i : Int), 65 + a % 4) :: upG (i + 1) (r ++ [z]) = ((97 + i : Int), 65 + a % 4) :: upG (i + 1) r ++ _
  rw [upG_snoc r (i + 1) z, show i + 1 + r.length = i + (a :: r).length by simp; omega]
  rfl
theorem loG_snoc : ∀ (l : List Int) (i : Nat) (z : Int), loG i (l ++ [z]) = loG i l ++ [((65 + (i + l.length : Nat) : Int), 97 + z / 4 % 4)]
 | [], i, z => rfl
 | a :: r, i, z => by
  show ((65 + i : Int), 97 + a / 4 % 4) :: loG (i + 1) (r ++ [z]) = ((65 + i : Int), 97 + a / 4 % 4) :: loG (i + 1) r ++ _
  rw [loG_snoc r (i + 1) z, show i + 1 + r.length = i + (a :: r).length by simp; omega]
  rfl
theorem ordG_snoc (l : List Int) (z : Int) : ordG (l ++ [z]) = stepO (ordG l) z := by unfold ordG; rw [List.foldl_append]; rfl
theorem clsG_len : ∀ (l : List Int) (i : Nat), (clsG i l).length = l.length
 | [], _ => rfl
 | _ :: r, i => by simp [clsG, clsG_len r (i + 1)]
theorem upG_len : ∀ (l : List Int) (i : Nat), (upG i l).length = l.length
 | [], _ => rfl
 | _ :: r, i => by simp [upG, upG_len r (i + 1)]
theorem loG_len : ∀ (l : List Int) (i : Nat), (loG i l).length = l.length
 | [], _ => rfl
 | _ :: r, i => by simp [loG, loG_len r (i + 1)]
theorem clsG_names : ∀ (l : List Int) (i : Nat), ∀ c ∈ clsG i l, ∃ j, i ≤ j ∧ j < i + l.length ∧ c.name = nmCls j
 | [], _, c, h => by simp [clsG] at h
 | z :: r, i, c, h => by
  rcases List.mem_cons.1 h with rfl | h
  ·exact ⟨i, Nat.le_refl _, by simp, rfl⟩
  ·obtain ⟨j, h1, h2, h3⟩ := clsG_names r (i + 1) c h
   exact ⟨j, by omega, by simp; omega, h3⟩
theorem nmCls_ne {i j : Nat} (hi : i < 3) (hj : j < 3) (h : i ≠ j) : nmCls i ≠ nmCls j := by
 rcases (by omega : i = 0 ∨ i = 1 ∨ i = 2) with rfl | rfl | rfl <;> rcases (by omega : j = 0 ∨ j = 1 ∨ j = 2) with rfl | rfl | rfl <;> first | exact absurd rfl h | decide
theorem nmCls_ok {i : Nat} (hi : i < 3) : wordlyB (nmCls i) = true ∧ (nmCls i).length ≤ 16 := by
 rcases (by omega : i = 0 ∨ i = 1 ∨ i = 2) with rfl | rfl | rfl <;> decide +kernel
theorem scalB_small {c : Int} (h0 : 0 ≤ c) (h1 : c < 55296) : scalB c = true := by
 unfold scalB rightB
 simp
 omega
def Byt (zs : List Int) : Prop := ∀ z ∈ zs, 0 ≤ z ∧ z ≤ 255
theorem list_snoc_ind {α : Type} {P : List α → Prop} (h0 : P []) (h1 : ∀ l x, P l → P (l ++ [x])) : ∀ l, P l := fun l => by
 have : ∀ n (l : List α), l.length = n → P l := by
  intro n
  induction n with
  | zero => intro l h; rw [List.eq_nil_of_length_eq_zero h]; exact h0
  | succ n ih =>
   intro l h
   rcases List.eq_nil_or_concat l with h2 | ⟨r, x, h2⟩
   ·rw [h2] at h; simp at h
   ·have h2' : l = r ++ [x] := by simpa using h2
    rw [h2'] at h ⊢
    exact h1 r x (ih r (by simpa using h))
 exact this l.length l rfl
theorem byt_front {l : List Int} {x : Int} (h : Byt (l ++ [x])) : Byt l ∧ 0 ≤ x ∧ x ≤ 255 := ⟨fun z hz => h z (by simp [hz]), h x (by simp)⟩
theorem clsG_right (l : List Int) (hl : l.length ≤ 3) (hb : Byt l) : clsB (clsG 0 l) = true := by
 refine list_snoc_ind (P := fun l => l.length ≤ 3 → Byt l → clsB (clsG 0 l) = true) (fun _ _ => rfl) (fun r x ih hl hb => ?_) l hl hb
 rw [List.length_append, List.length_singleton] at hl
 obtain ⟨hb1, hx0, hx1⟩ := byt_front hb
 rw [clsG_snoc, Nat.zero_add]
 refine clsB_snoc (ih (by omega) hb1) (nmCls_ok (by omega)).1 (fun hm => ?_) (by simp [cls1]) ?_
 ·obtain ⟨c, hc, he⟩ := List.mem_map.1 hm
  obtain ⟨j, _, h2, h3⟩ := clsG_names r 0 c hc
  rw [h3] at he
  exact nmCls_ne (by omega) (by omega) (by omega : j ≠ r.length) he
 ·unfold cls1
  rw [List.all_cons, Bool.and_eq_true]
  refine ⟨?_, ?_⟩
  ·unfold rangeB
   simp only [Bool.and_eq_true, decide_eq_true_eq]
   exact ⟨⟨scalB_small (by omega) (by omega), scalB_small (by omega) (by omega)⟩, by omega⟩
  ·split
   ·decide +kernel
   ·rfl
theorem upG_right (l : List Int) (hl : l.length ≤ 3) : pairsB (upG 0 l) = true ∧ ∀ p ∈ upG 0 l, p.1 < 97 + (l.length : Int) := by
 refine list_snoc_ind (P := fun l => l.length ≤ 3 → pairsB (upG 0 l) = true ∧ ∀ p ∈ upG 0 l, p.1 < 97 + (l.length : Int)) (fun _ => ⟨rfl, by simp [upG]⟩) (fun r x ih hl => ?_) l hl
 rw [List.length_append, List.length_singleton] at hl ⊢
 obtain ⟨h1, h2⟩ := ih (by omega)
 rw [upG_snoc]
 refine ⟨pairsB_snoc h1 (scalB_small (by simp only; omega) (by simp only; omega)) (scalB_small (by simp only; omega) (by simp only; omega)) (fun hm => ?_), fun p hp => ?_⟩
 ·obtain ⟨p, hp, he⟩ := List.mem_map.1 hm
  have := h2 p hp
  simp only at he
  omega
 ·rcases List.mem_append.1 hp with hp | hp
  ·have := h2 p hp
   omega
  ·rw [List.mem_singleton] at hp
   subst hp
   simp only
   omega
theorem loG_right (l : List Int) (hl : l.length ≤ 3) : pairsB (loG 0 l) = true ∧ ∀ p ∈ loG 0 l, p.1 < 65 + (l.length : Int) := by
 refine list_snoc_ind (P := fun l => l.length ≤ 3 → pairsB (loG 0 l) = true ∧ ∀ p ∈ loG 0 l, p.1 < 65 + (l.length : Int)) (fun _ => ⟨rfl, by simp [loG]⟩) (fun r x ih hl => ?_) l hl
 rw [List.length_append, List.length_singleton] at hl ⊢
 obtain ⟨h1, h2⟩ := ih (by omega)
 rw [loG_snoc]
 refine ⟨pairsB_snoc h1 (scalB_small (by simp only; omega) (by simp only; omega)) (scalB_small (by simp only; omega) (by simp only; omega)) (fun hm => ?_), fun p hp => ?_⟩
 ·obtain ⟨p, hp, he⟩ := List.mem_map.1 hm
  have := h2 p hp
  simp only at he
  omega
 ·rcases List.mem_append.1 hp with hp | hp
  ·have := h2 p hp
   omega
  ·rw [List.mem_singleton] at hp
   subst hp
   simp only
   omega
theorem nmElm_ok {j : Int} (h0 : 0 ≤ j) (h1 : j < 3) : elemB ⟨nmElm j, [99 - j, 104], 0⟩ = true ∧ (nmElm j).length ≤ 16 ∧ nmElm j ≠ [] ∧ (34 : UInt8) ∉ bytesOf [99 - j, 104] ∧ (10 : UInt8) ∉ bytesOf [99 - j, 104] := by
 rcases (by omega : j = 0 ∨ j = 1 ∨ j = 2) with rfl | rfl | rfl <;> decide +kernel
theorem nmElm_inj {i j : Int} (h0 : 0 ≤ i) (h1 : i < 3) (h2 : 0 ≤ j) (h3 : j < 3) (h : nmElm i = nmElm j) : i = j := by
 rcases (by omega : i = 0 ∨ i = 1 ∨ i = 2) with rfl | rfl | rfl <;> rcases (by omega : j = 0 ∨ j = 1 ∨ j = 2) with rfl | rfl | rfl <;> first | rfl | (exact absurd h (by decide))
def Chosen (e : Elm) : Prop := (e.name = [] ∧ ∃ c, e.cells = [c] ∧ 0 ≤ c ∧ c < 55296) ∨ ∃ j, 0 ≤ j ∧ j < 3 ∧ e.name = nmElm j ∧ e.cells = [99 - j, 104]
theorem chosen_of {z : Int} (_ : 0 ≤ z) (s : Int) : Chosen ⟨(elm0 z).1, (elm0 z).2, s⟩ := by
 unfold elm0
 split
 ·exact .inr ⟨z / 11 % 3, by omega, by omega, rfl, rfl⟩
 ·exact .inl ⟨rfl, _, rfl, by omega, by omega⟩
theorem placeL_out' {o : List Elm} {c : List Int} (h : (placeL o c).isSome = false) : ∀ x ∈ o, x.cells ≠ c := placeL_out (by simpa using h)
theorem stepO_ok {o : List Elm} {z : Int} (hz : 0 ≤ z) (h : ordB o = true) (hl : o.length < 500) (hc : ∀ e ∈ o, Chosen e) : ordB (stepO o z) = true ∧ (stepO o z).length ≤ o.length + 1 ∧ (∀ e ∈ stepO o z, Chosen e) ∧ mO 0 (stepO o z) ≤ mO 0 o + 10 := by
 unfold stepO
 split
 ·exact ⟨h, by omega, hc, by omega⟩
 ·rename_i hp
  have hch := chosen_of hz (samO o z)
  have hout := placeL_out' (by simpa using hp)
  refine ⟨ordB_snoc h hl ?_ hout ?_ ?_, by simp, ?_, ?_⟩
  ·rcases hch with ⟨h0, c, h1, h2, h3⟩ | ⟨j, h0, h1, h2, h3⟩
   ·unfold elemB
    rw [h1, h0]
    simp [scalB_small h2 h3]
   ·have := (nmElm_ok h0 h1).1
    unfold elemB at this ⊢
    rw [h2, h3]
    exact this
  ·unfold samO
   split
   ·rename_i hs
    have hm : (z % (o.length : Int)).toNat < o.length := by
     have h1 := Int.emod_nonneg z (show (o.length : Int) ≠ 0 by omega)
     have h2 := Int.emod_lt_of_pos z (show (0 : Int) < (o.length : Int) by omega)
     omega
    refine .inr ⟨(z % (o.length : Int)).toNat, o[(z % (o.length : Int)).toNat], List.getElem?_eq_getElem hm, ?_, (ordB_elem h (List.getElem?_eq_getElem hm)).2⟩
    simp only [List.getElem?_eq_getElem hm]
   ·exact .inl rfl
  ·intro h0 x hx hn
   rcases hch with ⟨h1, _⟩ | ⟨j, h1, h2, h3, h4⟩
   ·exact h0 h1
   ·rcases hc x hx with ⟨h5, _⟩ | ⟨i, h5, h6, h7, h8⟩
    ·rw [h5] at hn
     exact h0 hn.symm
    ·rw [h7] at hn
     have hij : i = j := nmElm_inj h5 h6 h1 h2 (hn.trans h3)
     have hcc : (elm0 z).2 = [99 - j, 104] := h4
     rw [hij] at h8
     exact hout x hx (h8.trans hcc.symm)
  ·intro e he
   rcases List.mem_append.1 he with he | he
   ·exact hc e he
   ·rw [List.mem_singleton] at he
    subst he
    exact hch
  ·rw [mO_snoc]
   split <;> split <;> omega
theorem ordG_ok (l : List Int) (hl : l.length ≤ 14) (hb : Byt l) : ordB (ordG l) = true ∧ (ordG l).length ≤ l.length ∧ (∀ e ∈ ordG l, Chosen e) ∧ mO 0 (ordG l) ≤ 10 * l.length := by
 refine list_snoc_ind (P := fun l => l.length ≤ 14 → Byt l → ordB (ordG l) = true ∧ (ordG l).length ≤ l.length ∧ (∀ e ∈ ordG l, Chosen e) ∧ mO 0 (ordG l) ≤ 10 * l.length) (fun _ _ => ⟨rfl, by simp [ordG], by simp [ordG], by simp [ordG, mO]⟩) (fun r x ih hl hb => ?_) l hl hb
 rw [List.length_append, List.length_singleton] at hl ⊢
 obtain ⟨hb1, hx0, _⟩ := byt_front hb
 obtain ⟨h1, h2, h3, h4⟩ := ih (by omega) hb1
 rw [ordG_snoc]
 obtain ⟨h5, h6, h7, h8⟩ := stepO_ok hx0 h1 (by omega) h3
 exact ⟨h5, by omega, h7, by omega⟩
theorem clsG_cost : ∀ (l : List Int) (i : Nat), ((clsG i l).map fun c => (clsT c).length + 1).sum ≤ 8 * l.length
 | [], _ => by simp [clsG]
 | z :: r, i => by
  have h1 := clsG_cost r (i + 1)
  have h2 : (clsT (cls1 i z)).length ≤ 7 := by
   unfold cls1 clsT
   split
   ·simp only [sepT, rangeT]
    split <;> simp
   ·simp only [sepT, rangeT]
    split <;> simp
  show ((cls1 i z :: clsG (i + 1) r).map fun c => (clsT c).length + 1).sum ≤ _
  rw [List.map_cons, List.sum_cons, List.length_cons]
  omega
theorem genL_ok (zs : List Int) (hb : Byt zs) : rightL (genL zs) = true ∧ (∀ c ∈ (genL zs).cls, c.name.length ≤ 16) ∧ (∀ e ∈ (genL zs).ord, e.name.length ≤ 16) ∧ (genL zs).ord.length ≤ 14 ∧ mT (genL zs) + 4 ≤ 208 ∧ (∀ e ∈ (genL zs).ord, e.name ≠ [] → (34 : UInt8) ∉ bytesOf e.cells ∧ (10 : UInt8) ∉ bytesOf e.cells) := by
 have l1 : (zs.take 3).length ≤ 3 := by rw [List.length_take]; omega
 have l2 : ((zs.drop 3).take 3).length ≤ 3 := by rw [List.length_take]; omega
 have l3 : ((zs.drop 6).take 14).length ≤ 14 := by rw [List.length_take]; omega
 have b1 : Byt (zs.take 3) := fun z hz => hb z (List.mem_of_mem_take hz)
 have b3 : Byt ((zs.drop 6).take 14) := fun z hz => hb z (List.mem_of_mem_drop (List.mem_of_mem_take hz))
 obtain ⟨o1, o2, o3, o4⟩ := ordG_ok _ l3 b3
 refine ⟨right_of (clsG_right _ l1 b1) (upG_right _ l2).1 (loG_right _ l2).1 o1, fun c hc => ?_, fun e he => ?_, Nat.le_trans o2 l3, ?_, fun e he h0 => ?_⟩
 ·obtain ⟨j, _, h2, h3⟩ := clsG_names _ 0 c hc
  rw [h3]
  exact (nmCls_ok (by omega)).2
 ·rcases o3 e he with ⟨h0, _⟩ | ⟨j, h0, h1, h2, _⟩
  ·rw [h0]; simp
  ·rw [h2]; exact (nmElm_ok h0 h1).2.1
 ·have c1 := clsG_cost (zs.take 3) 0
  have c2 := upG_len ((zs.drop 3).take 3) 0
  have c3 := loG_len ((zs.drop 3).take 3) 0
  unfold mT
  simp only [genL]
  rw [c2, c3]
  omega
 ·rcases o3 e he with ⟨h1, _⟩ | ⟨j, h1, h2, _, h3⟩
  ·exact absurd h1 h0
  ·rw [h3]
   exact (nmElm_ok h1 h2).2.2.2
end Go.Proofs.YtknjhlbhbnldpaaGreatDoor.C


namespace Go.Proofs.YtknjhlbhbnldpaaGreatDoor.C
open Go.RowKit
theorem placeL_first {o : List Elm} {c : List Int} {i : Nat} {e : Elm} (he : o[i]? = some e) (hc : e.cells = c) : (placeL o c).isSome = true := by
 cases h : placeL o c with
 | some j => rfl
 | none => exact absurd hc (placeL_out h e (List.mem_of_getElem? he))
theorem OrdR.drewN {w : World} {B : Nat} {v : Value} {o : List Elm} (h : OrdR w B v o) (q : Nat) : OrdR (w.drewN q) B v o := h.keep fun _ _ => rfl
set_option maxRecDepth 100000 in
set_option maxHeartbeats 2000000 in
theorem place_any (w : World) (Bo Bc : Nat) (v : Value) (o : List Elm) (Ac : Option Addr) (cc : Nat) (cs : List Int) (h : OrdR w Bo v o) (hc : RI .i32 w Bc Ac cs.length cs) (hn : o.length ≤ 500) (hm : cs.length ≤ maxLen) :
  Calls Tryz.prog 33 #[v, .slice Ac cs.length cc] w fun e w' => (∃ r : Int, e = .returned (.int .i64 r) ∧ decide (0 ≤ r) = (placeL o cs).isSome) ∧ ∃ q, w' = w.drewN q := by
 obtain ⟨A, c, xs, rfl, -⟩ := id h
 have H := Lib.hid h
 have HC := Lib.hid hc
 have HM := Lib.hid hm
 clear h hc hm
 go_enter Tryz.func33, Tryz.ntmps33
 go_wp2
 go_loopw [5] (fun iv wr => ∃ i : Nat, i ≤ o.length ∧ iv = .int .i64 i ∧ Hid ((∃ q, wr = w.drewN q) ∧ ∀ x ∈ o.take i, x.cells ≠ cs)) (fun iv _ => o.length - (intOf iv).toNat)
 case atStart => exact ⟨0, Nat.zero_le _, rfl, Lib.hid ⟨⟨0, rfl⟩, by simp⟩⟩
 case round =>
  obtain ⟨i, hin, rfl, HQ⟩ := hrel
  by_cases hlt : i < o.length
  ·obtain ⟨e, he⟩ : ∃ e, o[i]? = some e := ⟨_, List.getElem?_eq_getElem hlt⟩
   have hO : OrdR wr Bo (.slice A o.length c) o := by obtain ⟨⟨q, rfl⟩, _⟩ := HQ.out; exact H.out.drewN q
   have hC : RI .i32 wr Bc Ac cs.length cs := by obtain ⟨⟨q, rfl⟩, _⟩ := HQ.out; exact HC.out.drewN q
   obtain ⟨ad, ca, Ax, cx, hA, _, u0, u1, u2, hpx⟩ := elmR_at hO he
   obtain ⟨_, _, _, hv, _, hOl⟩ := hO
   obtain ⟨_, _, _, _, hnk⟩ := hOl i e he
   injection hA with hA _ hC'
   subst hA hC'
   have i0 : (0 : Int) ≤ (i : Int) := by omega
   have i1 : (i : Int) < (o.length : Int) := by omega
   by_cases heq : e.cells = cs
   ·have hs := same_yes wr _ _ Ax Ac e.cells.length cx cs.length cc e.cells cs heq hpx hC hnk.2 HM.out
    have HF := Lib.hid (placeL_first he heq)
    have HQ1 : Hid (∃ q, wr = w.drewN q) := Lib.hid HQ.out.1
    clear hpx hC hOl hnk he heq hv u0 u2
    go_wp2_with fail
    with_reducible refine hs.mono ?_
    rintro r w1 ⟨rfl, hq⟩
    have HQ2 : Hid (∃ q, w1 = w.drewN q) := Lib.hid (by obtain ⟨q, rfl⟩ := HQ1.out; obtain ⟨q', rfl⟩ := hq; exact ⟨q + q', by rw [World.drewN_drewN]⟩)
    clear hs hq
    go_wp2
    go_ret
    exact ⟨⟨i, rfl, by rw [HF.out]; simp⟩, HQ2.out⟩
   ·have hs := same_no wr _ _ Ax Ac e.cells.length cx cs.length cc e.cells cs heq hpx hC hnk.2 HM.out
    have HQ1 : Hid (∃ q, wr = w.drewN q) := Lib.hid HQ.out.1
    have HN : Hid (∀ x ∈ o.take (i + 1), x.cells ≠ cs) := Lib.hid (by
     rw [take_one he]
     intro x hx
     rcases List.mem_append.1 hx with hx | hx
     ·exact HQ.out.2 x hx
     ·rw [List.mem_singleton] at hx
      subst hx
      exact heq)
    clear hpx hC hOl hnk he heq hv u0 u2
    go_wp2_with fail
    with_reducible refine hs.mono ?_
    rintro r w1 ⟨rfl, hq⟩
    have HQ2 : Hid ((∃ q, w1 = w.drewN q) ∧ ∀ x ∈ o.take (i + 1), x.cells ≠ cs) := Lib.hid ⟨by obtain ⟨q, rfl⟩ := HQ1.out; obtain ⟨q', rfl⟩ := hq; exact ⟨q + q', by rw [World.drewN_drewN]⟩, HN.out⟩
    clear hs hq
    go_wp2
    go_roundw
    case rel => exact ⟨i + 1, by omega, by go_num, HQ2⟩
    case measure => simp [intOf]; omega
  ·obtain rfl : i = o.length := by omega
   have hp : (placeL o cs).isSome = false := by
    have h1 := HQ.out.2
    rw [List.take_length] at h1
    rw [placeL_noneO h1]
    rfl
   have HP := Lib.hid hp
   have HQ1 : Hid (∃ q, wr = w.drewN q) := Lib.hid HQ.out.1
   clear hp
   go_wp2
   go_ret
   exact ⟨⟨-1, rfl, by rw [HP.out]; rfl⟩, HQ1.out⟩
end Go.Proofs.YtknjhlbhbnldpaaGreatDoor.C


namespace Go.Proofs.YtknjhlbhbnldpaaGreatDoor.C
open Go.RowKit
def BlkAt (w : World) (lo b : Nat) : Prop := lo ≤ b ∧ ∃ cs t, w.heap[b]? = some (.cells cs t (0, 0))
theorem BlkAt.of {w : World} {lo sz n c : Nat} {e : TypeId} {ad : Addr} {k : Nat} {xs : List Value} (h : w.ownsRow lo e sz (.slice (some ad) n c) k xs) : BlkAt w lo ad.block := by
 obtain ⟨cs, hc⟩ := ownsRow_ty h rfl
 exact ⟨(h.lt ad.block rfl).1, cs, e, hc⟩
theorem BlkAt.on {w w' : World} {lo b B : Nat} (h : BlkAt w lo b) (hb : Below B w w') (hB : w.heap.size ≤ B) : BlkAt w' lo b := by
 obtain ⟨h1, cs, t, h2⟩ := h
 exact ⟨h1, cs, t, (hb.block b (by have := (Array.getElem?_eq_some_iff.1 h2).1; omega)).trans h2⟩
theorem BlkAt.lt {w : World} {lo b : Nat} (h : BlkAt w lo b) : b < w.heap.size := by
 obtain ⟨h1, cs, t, h2⟩ := h
 exact (Array.getElem?_eq_some_iff.1 h2).1
theorem BlkAt.frozen {w : World} {lo b : Nat} (h : BlkAt w lo b) (i : Nat) : w.frozen? ⟨b, i, none⟩ = false := by
 obtain ⟨h1, cs, t, h2⟩ := h
 simp [World.frozen?, h2]
theorem clsG_rs : ∀ (l : List Int) (i : Nat), ∀ c ∈ clsG i l, c.rs ≠ [] ∧ c.rs.length ≤ 2
 | [], _, c, h => by simp [clsG] at h
 | z :: r, i, c, h => by
  rcases List.mem_cons.1 (show c ∈ cls1 i z :: clsG (i + 1) r from h) with rfl | h
  ·constructor
   ·simp [cls1]
   ·unfold cls1
    simp only
    split <;> simp
  ·exact clsG_rs r (i + 1) c h
theorem genL_small (zs : List Int) (hb : Byt zs) : Small (genL zs) ∧ ∀ c ∈ (genL zs).cls, c.rs ≠ [] := by
 obtain ⟨_, g1, g2, g3, _⟩ := genL_ok zs hb
 refine ⟨⟨?_, ?_, ?_, by omega, fun c hc => ⟨by have := g1 c hc; omega, by have := (clsG_rs _ _ c hc).2; omega⟩, fun e he => by have := g2 e he; omega⟩, fun c hc => (clsG_rs _ _ c hc).1⟩
 ·show (clsG 0 (zs.take 3)).length ≤ 500
  rw [clsG_len, List.length_take]
  omega
 ·show (upG 0 ((zs.drop 3).take 3)).length ≤ 500
  rw [upG_len, List.length_take]
  omega
 ·show (loG 0 ((zs.drop 3).take 3)).length ≤ 500
  rw [loG_len, List.length_take]
  omega
end Go.Proofs.YtknjhlbhbnldpaaGreatDoor.C
