/-
  Joined: MLxH, LcE, MCellG, MUtfD, MUtfG, LeH. Each with what its own head says.
-/
import Derived.Test.YtknjhlbhbnldpaaGreatDoorB05
import Derived.Test.YtknjhlbhbnldpaaGreatDoorB06
import Derived.Test.YtknjhlbhbnldpaaGreatDoorB07


namespace Go.Proofs.YtknjhlbhbnldpaaGreatDoor.C
open Go.RowKit
set_option maxHeartbeats 1000000 in
theorem tz64_16 (w : World) (h : w.cell? ⟨5, 15, none⟩ = some (.int .u8 4)) : Calls Tryz.prog 236 #[.int .u64 16] w fun e w' => e = .returned (.int .i64 4) ∧ w = w' := by
 have key : IntKind.u64.wrap (bits BinOp.and IntKind.u64 16 (IntKind.u64.wrap (-16)) * 285870213051353865) / 288230376151711744 = 15 := by decide +kernel
 go_enter Tryz.func236, Tryz.ntmps236
 go_wp2_with (simp only [key])
 all_goals go_ret
 all_goals exact ⟨rfl, rfl⟩
set_option maxHeartbeats 1000000 in
theorem isPow_16 (w : World) : Calls Tryz.prog 231 #[.int .i64 16] w fun e w' => e = .returned (.bool true) ∧ w = w' := by
 go_enter Tryz.func231, Tryz.ntmps231
 go_wp2
 all_goals go_ret
 all_goals exact ⟨rfl, rfl⟩
set_option maxHeartbeats 1000000 in
theorem tz_16 (w : World) (h : w.cell? ⟨5, 15, none⟩ = some (.int .u8 4)) : Calls Tryz.prog 232 #[.int .u64 16] w fun e w' => e = .returned (.int .i64 4) ∧ w = w' := by
 go_enter Tryz.func232, Tryz.ntmps232
 go_wp2_with fail
 refine (tz64_16 w h).mono ?_
 rintro e w' ⟨rfl, rfl⟩
 go_wp2
 all_goals go_ret
 all_goals exact ⟨rfl, rfl⟩
def zeros65 : Array Value := (Lib.byteCells (List.replicate 65 0)).toArray
theorem zeroArray (w : World) : (zeroValue 289).run Tryz.prog w = .ok (.agg zeros65) w := by kernel_rfl
def Digits (w : World) (g k : Nat) (d : List UInt8) : Prop := ∃ z : List UInt8, z.length = k ∧ w.heap[g]? = some (.cells (Lib.byteCells (z ++ d)).toArray 289 (0, 0))
theorem digits_start (w : World) : Digits (w.alloc (.cells zeros65 289)) w.heap.size 65 [] :=
 ⟨List.replicate 65 0, by simp, by rw [List.append_nil]; exact heap_alloc_new w _⟩
theorem digits_cell {w : World} {g k : Nat} {d : List UInt8} (h : Digits w g (k + 1) d) : ∃ x, w.cell? ⟨g, k, none⟩ = some (.int .u8 x) := by
 obtain ⟨z, hz, hg⟩ := h
 have hk : k < (z ++ d).length := by simp; omega
 refine ⟨((z ++ d)[k]).toNat, ?_⟩
 rw [cell_of_row w g k _ _ _ hg]
 simp only [Lib.byteCells, List.getElem?_toArray, List.getElem?_map, List.getElem?_eq_getElem hk, Option.map_some]
theorem digits_frozen {w : World} {g k : Nat} {d : List UInt8} (h : Digits w g (k + 1) d) : w.frozen? ⟨g, k, none⟩ = false := by
 obtain ⟨z, hz, hg⟩ := h
 simp [World.frozen?, hg]
theorem digits_set {w : World} {g k : Nat} {d : List UInt8} (h : Digits w g (k + 1) d) (c : UInt8) : Digits (w.setCell ⟨g, k, none⟩ (.int .u8 c.toNat)) g k (c :: d) := by
 obtain ⟨z, hz, hg⟩ := h
 refine ⟨z.take k, by simp; omega, ?_⟩
 simp only [World.setCell, Array.getElem?_modify, hg]
 simp only [if_true, Option.map_some, Option.some.injEq, Obj.cells.injEq, and_true]
 simp only [Lib.byteCells, List.setIfInBounds_toArray]
 congr 1
 rw [← List.map_set (f := fun b : UInt8 => Value.int .u8 b.toNat)]
 congr 1
 obtain ⟨z', y, rfl⟩ : ∃ z' y, z = z' ++ [y] := ⟨z.dropLast, z.getLast (by intro e; subst e; simp at hz), (List.dropLast_concat_getLast _).symm⟩
 simp at hz
 subst hz
 simp
theorem digits_cells {w : World} {g k : Nat} {d : List UInt8} (h : Digits w g k d) : ∀ j u, (Lib.byteCells d)[j]? = some u → w.cell? ((⟨g, k, none⟩ : Addr).add j) = some u := by
 obtain ⟨z, hz, hg⟩ := h
 intro j u hu
 have e : (⟨g, k, none⟩ : Addr).add j = ⟨g, k + j, none⟩ := by
  unfold Addr.add; split
  ·subst_vars; rfl
  ·rfl
 rw [e, cell_of_row w g (k + j) _ _ _ hg, ← hu]
 simp only [Lib.byteCells, List.map_append, List.getElem?_toArray]
 rw [List.getElem?_append_right (by simp; omega)]
 simp [hz]
theorem dig_at : ∀ (x : Nat) (h : x < (ByteArray.mk #[48, 49, 50, 51, 52, 53, 54, 55, 56, 57, 97, 98, 99, 100, 101, 102, 103, 104, 105, 106, 107, 108, 109, 110, 111, 112, 113, 114, 115, 116, 117, 118, 119, 120, 121, 122]).size), x < 16 → (ByteArray.mk #[48, 49, 50, 51, 52, 53, 54, 55, 56, 57, 97, 98, 99, 100, 101, 102, 103, 104, 105, 106, 107, 108, 109, 110, 111, 112, 113, 114, 115, 116, 117, 118, 119, 120, 121, 122])[x]'h = dig x
 | 0, _, _ => rfl
 | 1, _, _ => rfl
 | 2, _, _ => rfl
 | 3, _, _ => rfl
 | 4, _, _ => rfl
 | 5, _, _ => rfl
 | 6, _, _ => rfl
 | 7, _, _ => rfl
 | 8, _, _ => rfl
 | 9, _, _ => rfl
 | 10, _, _ => rfl
 | 11, _, _ => rfl
 | 12, _, _ => rfl
 | 13, _, _ => rfl
 | 14, _, _ => rfl
 | 15, _, _ => rfl
 | (x + 16), _, h => absurd h (by omega)
theorem and15 (u : Nat) (h : u < 18446744073709551616) : bits BinOp.and IntKind.u64 (u : Int) 15 = ((u % 16 : Nat) : Int) := by
 have := bits_and_u64_nat u 15 h (by omega)
 rw [show ((15 : Nat) : Int) = 15 from rfl] at this
 rw [this]
 have e : u &&& 15 = u % 16 := Nat.and_two_pow_sub_one_eq_mod u 4
 rw [e]
theorem arrayLen65 : Tryz.prog.arrayLen 289 = 65 := by kernel_rfl
theorem elem65 : Tryz.prog.elem 289 = 5 := by kernel_rfl
theorem under65 : Tryz.prog.underlying 289 = some (.array (Tryz.prog.arrayLen 289) (Tryz.prog.elem 289)) := by kernel_rfl
theorem sizeOf5 (W : World) : (sizeOf 5).run Tryz.prog W = .ok 1 W := by kernel_rfl
theorem slice65 (g k : Nat) (hk : k < 65) (W : World) : (Instr.sliceAt 289 (.pointer (some ⟨g, 0, none⟩)) (some (.int .i64 k)) none none).run Tryz.prog W = .ok (.slice (some ⟨g, k, none⟩) (65 - k) (65 - k)) W := by
 rw [run_sliceAt_array_l W 289 ⟨g, 0, none⟩ under65 .i64 k (by omega) (by rw [arrayLen65]; omega), elem65, sizeOf5, arrayLen65]
 simp only [Result.andThen, slicedAt, Int.toNat_natCast]
 rw [if_neg (by omega)]
 congr 3
 unfold Addr.add
 split <;> simp_all
end Go.Proofs.YtknjhlbhbnldpaaGreatDoor.C


namespace Go.Proofs.YtknjhlbhbnldpaaGreatDoor.C
open Go.RowKit
theorem Moved.cellAt {w w' : World} {R b : Nat} (h : Moved w w' R) (hb : b < w.heap.size) (hne : b ≠ R) (i : Nat) : w'.cell? ⟨b, i, none⟩ = w.cell? ⟨b, i, none⟩ := World.cell?_of_block (h.block b hb (fun e => by injection e with e; exact hne e))
section
variable (w : World) (R : Nat) (T : TV) (k : Nat) (v1 v2 v3 v4 v5 : Value) (x : Tok) (r : List Tok)
end
end Go.Proofs.YtknjhlbhbnldpaaGreatDoor.C


namespace Go.Proofs.YtknjhlbhbnldpaaGreatDoor.C
open Go.RowKit
theorem info5 : (Tryz.prog.info? 5).map (fun i => (i.zero, i.size, i.bytes)) = some (some (.int .u8 0), 1, 1) := by kernel_rfl
theorem byteCells_one (l : List UInt8) : ∀ v ∈ Lib.byteCells l, v.oneCell' = true := by
 intro v hv
 simp only [Lib.byteCells, List.mem_map] at hv
 obtain ⟨b, _, rfl⟩ := hv
 rfl
def Grew (B : Nat) (w : World) (n : Nat) (xs : List UInt8) (v' : Value) (w' : World) : Prop := w'.ownsRow B 5 1 v' n (Lib.byteCells xs) ∧ Below B w w'
set_option maxRecDepth 100000 in
set_option maxHeartbeats 1000000 in
theorem formatBits_16 (w : World) (B : Nat) (v : Value) (n : Nat) (xs : List UInt8) (u : Nat) (hu : u < 16 ^ 16) (hT : w.cell? ⟨5, 15, none⟩ = some (.int .u8 4)) (hB : B ≤ w.heap.size) (hown : w.ownsRow B 5 1 v n (Lib.byteCells xs)) (hn : n ≤ 1099511627776) :
  Calls Tryz.prog 215 #[v, .int .u64 u, .int .i64 16, .bool false, .bool true] w fun e w' => ∃ v', e = .returned (.tuple #[v', .string ⟨#[]⟩]) ∧ Grew B w (n + (hexL u).length) (xs ++ hexL u) v' w' := by
 obtain ⟨i0, hi, hz0, hz1, hz2⟩ := info_parts info5
 have HO := Lib.hid hown
 have HU := Lib.hid hu
 clear hown hu
 have hz := zeroArray
 have hT1 : ∀ o, (w.alloc o).cell? ⟨5, 15, none⟩ = some (.int .u8 4) := fun o => by rw [World.cell?_alloc_lt w o _ (World.block_lt_of_cell? w _ hT)]; exact hT
 go_enter Tryz.func215, Tryz.ntmps215
 go_wp2_with fail
 refine (isPow_16 _).mono ?_
 rintro e w' ⟨rfl, rfl⟩
 go_wp2_with fail
 refine (tz_16 _ (hT1 _)).mono ?_
 rintro e w' ⟨rfl, rfl⟩
 go_wp2_with fail
 go_loopw [1, 13] (fun uv iv wr => ∃ (uu k : Nat) (d : List UInt8), uv = .int .u64 uu ∧ iv = .int .i64 k ∧ uu < 18446744073709551616 ∧ HexSt u uu d k ∧ Digits wr w.heap.size k d ∧ Below w.heap.size w wr) (fun uv _ _ => (intOf uv).toNat)
 case atStart => exact ⟨u, 65, [], rfl, rfl, by have := HU.out; simpa using this, hexSt_zero HU.out, digits_start w, (Below.refl _ _).alloc (Nat.le_refl _) _⟩
 case round =>
  obtain ⟨uu, k, d, rfl, rfl, huu, hst, hdg, hb⟩ := hrel
  obtain ⟨hk1, hk2⟩ := hexSt_left hst
  obtain ⟨k, rfl⟩ : ∃ k', k = k' + 1 := ⟨k - 1, by omega⟩
  obtain ⟨x, hcell⟩ := digits_cell hdg
  have hfz := digits_frozen hdg
  have HS := Lib.hid hst
  have HD := Lib.hid hdg
  clear hst hdg
  by_cases hlt : uu < 16
  ·have hend := hexSt_end HS.out hlt
   have hlen : (dig uu :: d).length = 65 - k := by have := HS.out.2.1; simp; omega
   have hdg2 : ∀ h, Digits (wr.setCell ⟨w.heap.size, k, none⟩ (.int .u8 ((ByteArray.mk #[48, 49, 50, 51, 52, 53, 54, 55, 56, 57, 97, 98, 99, 100, 101, 102, 103, 104, 105, 106, 107, 108, 109, 110, 111, 112, 113, 114, 115, 116, 117, 118, 119, 120, 121, 122])[uu]'h).toNat)) w.heap.size k (dig uu :: d) := fun h => by rw [dig_at _ _ hlt]; exact digits_set HD.out _
   have HE := Lib.hid hend
   have HL := Lib.hid hlen
   have HD2 := Lib.hid hdg2
   clear hend hlen hdg2
   have hsl := slice65 w.heap.size k (by omega)
   go_wp2_with (at_builtin; (refine wpList_append_own _ rfl _ _ 22 rfl B 5 i0 (.int .u8 0) 1 1 Tryz.underlying22 hi hz0 hz1 hz2 rfl (by decide) v n (Lib.byteCells xs) rfl (own_keep HO.out (hb.setCell (Nat.le_refl _) _)) ⟨w.heap.size, k, none⟩ (65 - k) (65 - k) (Lib.byteCells (dig uu :: d)) rfl (by rw [Lib.byteCells_length, HL.out]; omega) (digits_cells (HD2.out _)) (byteCells_one _) (by unfold maxLen; omega) (by omega) (by have := hb.size; simp [World.setCell]; omega) ?_); intro v' w3 hown' hgrow _)
   go_ret2
   refine ⟨v', rfl, ?_, ?_⟩
   ·rw [HE.out, HL.out, Lib.byteCells_append]
    exact hown'
   ·exact ((hb.mono hB).setCell hB _).grown hgrow (by have := hb.size; simp [World.setCell]; omega) (fun k hk => (HO.out.lt k hk).1)
  ·have hand := and15 uu huu
   have hm : uu % 16 < 16 := Nat.mod_lt _ (by omega)
   go_wp2
   go_roundw
   case rel => exact ⟨uu / 16, k, dig (uu % 16) :: d, by go_num, rfl, by omega, hexSt_step HS.out hlt, by rw [dig_at _ _ hm]; exact digits_set HD.out _, hb.setCell (Nat.le_refl _) _⟩
   case measure => simp [intOf]; omega
set_option maxRecDepth 100000 in
set_option maxHeartbeats 1000000 in
theorem appendUint_16 (w : World) (B : Nat) (v : Value) (n : Nat) (xs : List UInt8) (u : Nat) (hu : u < 1152921504606846976) (hT : w.cell? ⟨5, 15, none⟩ = some (.int .u8 4)) (hB : B ≤ w.heap.size) (hown : w.ownsRow B 5 1 v n (Lib.byteCells xs)) (hn : n ≤ 1099511627776) :
  Calls Tryz.prog 196 #[v, .int .u64 u, .int .i64 16] w fun e w' => ∃ v', e = .returned v' ∧ Grew B w (n + (hexL u).length) (xs ++ hexL u) v' w' := by
 have HO := Lib.hid hown
 clear hown
 go_enter Tryz.func196, Tryz.ntmps196
 go_wp2_with fail
 refine (formatBits_16 w B v n xs u (Nat.lt_of_lt_of_le hu (by decide)) hT hB HO.out hn).mono ?_
 rintro e w1 ⟨v', rfl, hg⟩
 have HG := Lib.hid hg
 clear hg
 go_wp2
 go_ret
 exact ⟨v', rfl, HG.out⟩
set_option maxRecDepth 100000 in
set_option maxHeartbeats 1000000 in
theorem appendInt_16 (w : World) (B : Nat) (v : Value) (n : Nat) (xs : List UInt8) (u : Nat) (hu : u < 1152921504606846976) (hT : w.cell? ⟨5, 15, none⟩ = some (.int .u8 4)) (hB : B ≤ w.heap.size) (hown : w.ownsRow B 5 1 v n (Lib.byteCells xs)) (hn : n ≤ 1099511627776) :
  Calls Tryz.prog 181 #[v, .int .i64 u, .int .i64 16] w fun e w' => ∃ v', e = .returned v' ∧ Grew B w (n + (hexL u).length) (xs ++ hexL u) v' w' := by
 have HO := Lib.hid hown
 clear hown
 go_enter Tryz.func181, Tryz.ntmps181
 go_wp2_with fail
 refine (appendUint_16 w B v n xs u hu hT hB HO.out hn).mono ?_
 rintro e w1 ⟨v', rfl, hg⟩
 have HG := Lib.hid hg
 clear hg
 go_wp2
 go_ret
 exact ⟨v', rfl, HG.out⟩
set_option maxRecDepth 100000 in
set_option maxHeartbeats 1000000 in
theorem strconvAppendInt_16 (w : World) (B : Nat) (v : Value) (n : Nat) (xs : List UInt8) (u : Nat) (hu : u < 1152921504606846976) (hT : w.cell? ⟨5, 15, none⟩ = some (.int .u8 4)) (hB : B ≤ w.heap.size) (hown : w.ownsRow B 5 1 v n (Lib.byteCells xs)) (hn : n ≤ 1099511627776) :
  Calls Tryz.prog 156 #[v, .int .i64 u, .int .i64 16] w fun e w' => ∃ v', e = .returned v' ∧ Grew B w (n + (hexL u).length) (xs ++ hexL u) v' w' := by
 have HO := Lib.hid hown
 clear hown
 go_enter Tryz.func156, Tryz.ntmps156
 go_wp2_with fail
 refine (appendInt_16 w B v n xs u hu hT hB HO.out hn).mono ?_
 rintro e w1 ⟨v', rfl, hg⟩
 have HG := Lib.hid hg
 clear hg
 go_wp2
 go_ret
 exact ⟨v', rfl, HG.out⟩
end Go.Proofs.YtknjhlbhbnldpaaGreatDoor.C


namespace Go.Proofs.YtknjhlbhbnldpaaGreatDoor.C
open Go.RowKit
open Go.Lib (decodeN)
theorem RI.flat {ki : IntKind} {w : World} {B n : Nat} {A : Option Addr} {zs : List Int} (h : RI ki w B A n zs) (hn : 0 < n) :
  ∃ b off, A = some ⟨b, off, none⟩ ∧ b < B ∧ ∀ j u, zs[j]? = some u → w.cell? ⟨b, off + j, none⟩ = some (.int ki u) := by
 obtain ⟨ad, u, rfl, hb, _, hc⟩ := h.at_ hn
 obtain ⟨ad', e, _, hcell⟩ := h.2 hn
 injection e with e
 subst e
 obtain ⟨b, off, sp⟩ := ad
 have hsp : sp = none := by
  have e0 : (⟨b, off, sp⟩ : Addr).add 0 = ⟨b, off, sp⟩ := by simp [Addr.add]
  rw [e0] at hc
  exact cell_spot hc
 subst hsp
 exact ⟨b, off, rfl, hb, fun j u hu => by rw [← add_plain]; exact hcell j u hu⟩
theorem sb_get {zs : List Int} (h : Bd zs) (j : Nat) (hj : j < zs.length) : (((sb zs).get! j).toNat : Int) = zs[j] := by
 have e := gb_sb h j
 have hb := h zs[j] (List.getElem_mem hj)
 unfold gb nb at e
 rw [e]
 simp [List.getD_eq_getElem?_getD, List.getElem?_eq_getElem hj]
 omega
set_option maxHeartbeats 400000 in
theorem runeCount_zero (w : World) (A : Option Addr) (c : Nat) :
  Calls Tryz.prog 201 #[.slice A 0 c] w fun e w' => e = .returned (.int .i64 0) ∧ w = w' := by
 go_enter Tryz.func201, Tryz.ntmps201
 go_wp2
 go_loop [4] (fun i => i = .int .i64 0) (fun _ => 0)
 case atStart => rfl
 case round =>
  subst hrel
  go_wp2
  go_ret
  exact ⟨rfl, rfl⟩
theorem runeCount_ri (w : World) (B : Nat) (A : Option Addr) (n c : Nat) (zs : List Int) (hx : RI .u8 w B A n zs) (hz : Bd zs) (hnc : n ≤ c) (hn : n ≤ 1099511627776) :
  Calls Tryz.prog 201 #[.slice A n c] w fun e w' => ∃ k : Nat, k ≤ n ∧ e = .returned (.int .i64 k) ∧ Below w.heap.size w w' := by
 rcases Nat.eq_zero_or_pos n with h0 | h0
 ·subst h0
  refine (runeCount_zero w A c).mono ?_
  rintro e w' ⟨rfl, rfl⟩
  exact ⟨0, Nat.le_refl _, rfl, Below.refl _ _⟩
 ·obtain ⟨b, off, rfl, _, hc⟩ := hx.flat h0
  have hl : (sb zs).size = n := by rw [sb_size]; exact hx.len
  have := Any7.utf8_RuneCount Tryz.lays31 (sb zs) b off c w (by omega) (fun j hj => by
   have hj' : j < zs.length := by rw [sb_size] at hj; exact hj
   rw [hc j zs[j] (List.getElem?_eq_getElem hj'), sb_get hz j hj']) (by omega)
  rw [hl] at this
  refine this.mono ?_
  rintro e w' ⟨rfl, hw⟩
  have hle := Lib.runeCount_le (sb zs)
  refine ⟨Lib.runeCount (sb zs), by omega, rfl, ?_⟩
  rcases hw with rfl | ⟨t, pos, rfl⟩
  ·exact Below.refl _ _
  ·exact (Below.refl _ _).alloc (Nat.le_refl _) _
theorem decodeRune_ri (w : World) (B : Nat) (A : Option Addr) (n c : Nat) (zs : List Int) (hx : RI .u8 w B A n zs) (hz : Bd zs) (h0 : 0 < n) (hT : Lib.Utf8Tabs 0 1 w) (R K : Nat) (hd : Utf8.decode (sb zs) 0 = (R, K)) :
  Calls Tryz.prog 202 #[.slice A n c] w fun e w' => e = .returned (.tuple #[.int .i32 (R : Int), .int .i64 (K : Int)]) ∧ Below w.heap.size w w' := by
 obtain ⟨b, off, rfl, _, hc⟩ := hx.flat h0
 have hl : (sb zs).size = n := by rw [sb_size]; exact hx.len
 have := Any7.utf8_DecodeRune Tryz.lays32 (sb zs) b off c w hT (fun j hj => by
  have hj' : j < zs.length := by rw [sb_size] at hj; exact hj
  rw [hc j zs[j] (List.getElem?_eq_getElem hj'), sb_get hz j hj'])
 rw [hl] at this
 have e : Lib.decodeGo (sb zs) = (R, K) := by unfold Lib.decodeGo; rw [if_neg (by omega), hd]
 rw [e] at this
 exact this
set_option maxHeartbeats 400000 in
theorem cellOf_bad (b : Int) (w : World) (h0 : 0 ≤ b) (h1 : b ≤ 255) :
  Calls Tryz.prog 203 #[.int .i32 65533, .int .i64 1, .int .u8 b] w fun e w' => e = .returned (.int .i32 (-1 - b)) ∧ w = w' := by
 go_enter Tryz.func203, Tryz.ntmps203
 go_wp2_with (go_at_call 87; refine (escape_any _ _ h0 h1).mono ?_; rintro e w' ⟨rfl, rfl⟩)
 go_ret
 exact ⟨rfl, rfl⟩
set_option maxHeartbeats 400000 in
theorem cellOf_good (r k : Nat) (b : Int) (w : World) (h : ¬ (r, k) = (65533, 1)) :
  Calls Tryz.prog 203 #[.int .i32 (r : Int), .int .i64 (k : Int), .int .u8 b] w fun e w' => e = .returned (.int .i32 (r : Int)) ∧ w = w' := by
 by_cases hr : r = 65533
 ·have hk : ¬ k = 1 := fun e => h (by rw [hr, e])
  have t1 : ((r : Int) == 65533) = true := by simp; omega
  have t2 : ((k : Int) == 1) = false := by simp; omega
  clear h hr hk
  go_enter Tryz.func203, Tryz.ntmps203
  go_wp2
  all_goals go_ret
  all_goals exact ⟨rfl, rfl⟩
 ·have t1 : ((r : Int) == 65533) = false := by simp; omega
  clear h hr
  go_enter Tryz.func203, Tryz.ntmps203
  go_wp2
  all_goals go_ret
  all_goals exact ⟨rfl, rfl⟩
def cellZ (r k : Nat) (b : Int) : Int := if (r, k) = (65533, 1) then -1 - b else (r : Int)
theorem cellOf_any (r k : Nat) (b : Int) (w : World) (h0 : 0 ≤ b) (h1 : b ≤ 255) :
  Calls Tryz.prog 203 #[.int .i32 (r : Int), .int .i64 (k : Int), .int .u8 b] w fun e w' => e = .returned (.int .i32 (cellZ r k b)) ∧ w = w' := by
 unfold cellZ
 split
 ·rename_i h
  injection h with h2 h3
  subst h2 h3
  exact cellOf_bad b w h0 h1
 ·rename_i h
  exact cellOf_good r k b w h
theorem cellZ_at {zs : List Int} (h : Bd zs) (pos : Nat) (hp : pos < zs.length) (R K : Nat) (hd : Utf8.decode (sb zs) pos = (R, K)) : cellZ R K zs[pos] = cellAt (sb zs) pos := by
 rw [cellAt_sb h pos hp]
 rw [decode_sb h] at hd
 unfold cellZ cellN
 rw [hd]
 have hb := h zs[pos] (List.getElem_mem hp)
 have e : (nb zs pos : Int) = zs[pos] := by
  unfold nb
  simp [List.getD_eq_getElem?_getD, List.getElem?_eq_getElem hp]
  omega
 rw [e]
theorem decode_drop {zs : List Int} (h : Bd zs) (pos : Nat) : Utf8.decode (sb (zs.drop pos)) 0 = Utf8.decode (sb zs) pos := by
 rw [decode_sb (bd_drop h pos), decode_sb h]
 simp only [nb_drop, Nat.add_zero, List.length_drop, Nat.sub_zero, Nat.zero_add]
theorem tabs_below {w w' : World} (h : Lib.Utf8Tabs 0 1 w) (hb : Below w.heap.size w w') : Lib.Utf8Tabs 0 1 w' := Utf8Tabs_below h hb
def lenV : Value → Nat
 | .slice _ n _ => n
 | _ => 0
set_option maxHeartbeats 2000000 in
theorem decode_any (w : World) (B : Nat) (A : Option Addr) (n c : Nat) (zs : List Int) (hx : RI .u8 w B A n zs) (hB : B ≤ w.heap.size) (hz : Bd zs) (hnc : n ≤ c) (hn : n ≤ 1099511627776) (hc : c ≤ maxLen) (hT : Lib.Utf8Tabs 0 1 w) :
  Calls Tryz.prog 189 #[.slice A n c] w fun e w' => ∃ v, e = .returned v ∧ w'.ownsRow w.heap.size 23 1 v (ofL (sb zs)).length ((ofL (sb zs)).map (Value.int .i32)) ∧ Below w.heap.size w w' := by
 unfold maxLen at hc
 obtain ⟨i0, hi, hz0, hz1, hz2⟩ := info_parts info33
 have HL := Lib.hid hx.len
 have HX := Lib.hid hx
 have HZ := Lib.hid hz
 have HT := Lib.hid hT
 clear hx hz hT
 go_enter Tryz.func189, Tryz.ntmps189
 go_wp2_with fail
 refine (runeCount_ri w B A n c zs HX.out HZ.out hnc hn).mono ?_
 rintro e w1 ⟨rc, hrc, rfl, hb1⟩
 have hs1 := hb1.size
 go_wp2_with (at_make; (refine wpList_make_own _ rfl _ _ 33 rfl w.heap.size 23 i0 (.int .i32 0) 1 Tryz.underlying33 hi hz0 hz1 .i64 .i64 _ rc rfl rfl (by omega) (by rw [hz2]; omega) (by unfold maxLen; omega) (by omega) ?_); intro w2 hown hgrow; have hb2 : Below w.heap.size w w2 := hb1.grown hgrow (by omega) (fun _ h => by cases h); clear hgrow; have HO := Lib.hid hown; clear hown)
 go_loopw [0, 3] (fun bv v wr => ∃ (pos f m cp : Nat) (A' : Option Addr) (acc : List Int), bv = .slice A' m cp ∧ Hid (m + pos = n) ∧ m ≤ cp ∧ cp ≤ 9223372036854775807 ∧ Hid (OfSt (sb zs) acc f pos) ∧ Hid (RI .u8 w B A' m (zs.drop pos)) ∧ Hid (wr.ownsRow w.heap.size 23 1 v acc.length (acc.map (Value.int .i32))) ∧ Below w.heap.size w wr) (fun bv _ _ => lenV bv)
 case atStart => exact ⟨0, (sb zs).size, n, c, A, [], rfl, rfl, hnc, hc, ofSt_zero _, HX.out, HO.out, hb2⟩
 case round =>
  obtain ⟨pos, f, m, cp, A', acc, rfl, HM, hmc, hcp, HST, HR, HW, hbr⟩ := hrel
  have hsz := hbr.size
  by_cases hm : 0 < m
  ·obtain ⟨ad, z, rfl, hbl, hzp, hcell⟩ := HR.out.at_ hm
   have hp : pos < zs.length := by have := HM.out; have := HL.out; omega
   have hzv : zs[pos] = z := by
    have := hzp
    simp at this
    obtain ⟨_, h⟩ := List.getElem?_eq_some_iff.1 this
    exact h
   have hzb := HZ.out z (by rw [← hzv]; exact List.getElem_mem hp)
   obtain ⟨f', hst'⟩ := ofSt_step HST.out (by rw [sb_size]; exact hp)
   obtain ⟨R, K, hRK⟩ : ∃ R K, Utf8.decode (sb zs) pos = (R, K) := ⟨_, _, rfl⟩
   have hK1 := Lib.decode_width_pos (sb zs) pos (by rw [sb_size]; exact hp)
   have hK2 := decodeN_le (zs.length - pos) (nb zs pos) (nb zs (pos + 1)) (nb zs (pos + 2)) (nb zs (pos + 3)) (by omega)
   rw [← decode_sb HZ.out] at hK2
   have hcv := cellZ_at HZ.out pos hp R K hRK
   rw [hzv] at hcv
   rw [← hcv] at hst'
   rw [hRK] at hK1 hK2 hst'
   have hKm : K ≤ m := by have := HM.out; have := HL.out; simp at hK2; omega
   have hK0 : 0 < K := hK1
   have HRK := Lib.hid hRK
   have HS' := Lib.hid hst'
   have had0 : ad.add 0 = ad := by simp [Addr.add]
   rw [had0] at hcell
   have hcr : wr.cell? ad = some (.int .u8 z) := (hbr.cell (p := ad) (by omega)).trans hcell
   have hrw : RI .u8 wr B (some ad) m (zs.drop pos) := HR.out.keep fun p hp => hbr.cell (p := p) (by omega)
   have HRW := Lib.hid hrw
   clear hrw hst' hcv hRK hK1 hK2 hzp hzv hcell hp had0
   go_wp2_with fail
   refine (decodeRune_ri wr B (some ad) m cp (zs.drop pos) HRW.out (bd_drop HZ.out pos) hm (tabs_below HT.out (hbr.mono (Nat.le_refl _))) R K (by rw [decode_drop HZ.out]; exact HRK.out)).mono ?_
   rintro e w3 ⟨rfl, hb3⟩
   have hs3 := hb3.size
   have HOW := Lib.hid (own_keep HW.out hb3)
   have hbW : Below w.heap.size w w3 := hbr.trans (hb3.mono hsz)
   have hcr3 : w3.cell? ad = some (.int .u8 z) := (hb3.cell (p := ad) (by omega)).trans hcr
   clear hcr
   go_wp2_with fail
   refine (cellOf_any R K z w3 hzb.1 hzb.2).mono ?_
   rintro e w' ⟨rfl, rfl⟩
   generalize cellZ R K z = cv at *
   go_wp2_with (at_builtin; (refine wpList_append_own _ rfl _ _ 33 rfl w.heap.size 23 i0 (.int .i32 0) 1 4 Tryz.underlying33 hi hz0 hz1 hz2 rfl (by decide) _ _ _ rfl (HOW.out.alloc _) _ 1 1 [.int .i32 cv] rfl rfl (cell_one_new _ _ _) (by intro u hu; simp at hu; subst hu; rfl) (by unfold maxLen; have := HST.out.2.2.1; have := HM.out; omega) (by have := HST.out.2.2.1; have := HM.out; omega) (by simp; omega) ?_); intro v' w4 hown' hgrow _; have HO4 := Lib.hid hown'; have HG4 := Lib.hid hgrow; clear hown' hgrow)
   have hcut : RI .u8 w B (if cp = K then some ad else (some ad).map (·.add K)) (m - K) (zs.drop (pos + K)) := by
    have := HR.out.cut (k := K) (m := m - K) (cap := cp) (by omega) hmc
    rw [List.drop_drop, List.take_of_length_le (by rw [List.length_drop, HL.out]; have := HM.out; omega)] at this
    exact this
   go_roundw
   case rel => exact ⟨pos + K, f', m - K, cp - K, _, acc ++ [cv], rfl, by have := HM.out; show m - K + (pos + K) = n; omega, by omega, by omega, HS'.out, hcut, by simpa [Hid] using HO4.out, ((hbW.alloc (by omega) _).grown HG4.out (by simp; omega) (fun k hk => (HOW.out.lt k hk).1))⟩
   case measure => simp [lenV]; omega
  ·have hm0 : m = 0 := by omega
   subst hm0
   have hend := ofSt_end HST.out (by rw [sb_size]; have := HM.out; have := HL.out; omega)
   have HE := Lib.hid hend
   clear hend
   go_wp2
   go_ret
   refine ⟨_, rfl, ?_, hbr⟩
   rw [HE.out]
   exact HW.out
end Go.Proofs.YtknjhlbhbnldpaaGreatDoor.C


namespace Go.Proofs.YtknjhlbhbnldpaaGreatDoor.C
open Go.RowKit
theorem below_drewN {B : Nat} {a w : World} (h : Below B a w) (n : Nat) : Below B a (w.drewN n) := ⟨h.os, h.tape, h.output, h.size, h.block⟩
theorem conv_ri {w : World} {B n : Nat} {A : Option Addr} {zs : List Int} (h : RI .u8 w B A n zs) (c : Nat) : (convert 22 9 (.slice A n c)).run Tryz.prog w = .ok (.string (sb zs)) w := by
 rcases Nat.eq_zero_or_pos n with h0 | h0
 ·subst h0
  obtain rfl : zs = [] := List.eq_nil_of_length_eq_zero h.1
  exact run_convert_bytes_zero w 22 5 Tryz.underlying22 Tryz.underlying5 A c 9 Tryz.underlying9
 ·obtain ⟨b, off, rfl, _, hc⟩ := h.flat h0
  refine run_convert_bytes_arg w 22 5 Tryz.underlying22 Tryz.underlying5 b off n c zs h.1 (fun i hi => ?_) 9 Tryz.underlying9
  have hi' : i < zs.length := by rw [h.1]; exact hi
  rw [hc i zs[i] (List.getElem?_eq_getElem hi')]
  simp [List.getD_eq_getElem?_getD, List.getElem?_eq_getElem hi']
theorem own_slice2 {w : World} {base : Nat} {e : TypeId} {ki : IntKind} {v : Value} {n : Nat} {zs : List Int} (h : w.ownsRow base e 1 v n (zs.map (Value.int ki))) : ∃ A c, v = .slice A n c ∧ n ≤ c ∧ c ≤ maxLen ∧ RI ki w w.heap.size A n zs := by
 rcases h.2 with ⟨rfl, rfl⟩ | ⟨g, c, cur, rfl, _, _, hc, hm, _⟩
 ·have hz : zs = [] := List.eq_nil_of_length_eq_zero (by have := h.1; simpa using this)
  subst hz
  exact ⟨none, 0, rfl, Nat.le_refl _, Nat.zero_le _, RI.none_⟩
 ·exact ⟨_, c, rfl, hc, hm, RI.of_own h⟩
theorem RI.new (w : World) (ki : IntKind) (zs : List Int) (t : TypeId) : RI ki (w.alloc (.cells (zs.map (Value.int ki)).toArray t)) (w.heap.size + 1) (some ⟨w.heap.size, 0, none⟩) zs.length zs :=
 ⟨rfl, fun _ => ⟨_, rfl, Nat.lt_succ_self _, fun j u hu => by
  rw [add_plain, Nat.zero_add, World.cell?_alloc_new]
  simp [hu]⟩⟩
set_option maxHeartbeats 1000000 in
theorem canonical_any (w : World) (B : Nat) (A : Option Addr) (n c : Nat) (xs : List Int) (hx : RI .i32 w B A n xs) (hB : B ≤ w.heap.size) (hn : n ≤ 268435456) (hT : Lib.Utf8Tabs 0 1 w) :
  Calls Tryz.prog 167 #[.slice A n c] w fun e w' => e = .returned (.bool (canonB xs)) ∧ Below w.heap.size w w' := by
 have HX := Lib.hid hx
 have HT := Lib.hid hT
 clear hx hT
 cases ha : xs.all rightB with
 | false =>
  have hcb : canonB xs = false := by simp only [canonB, ha, Bool.false_and]
  have HA := Lib.hid ha
  rw [hcb]
  clear ha hcb
  go_enter Tryz.func167, Tryz.ntmps167
  go_wp2_with fail
  refine (encode_no w B A n c xs HX.out hB (by omega) HA.out).mono ?_
  rintro e w1 ⟨rfl, hb1⟩
  go_wp2
  go_ret
  exact ⟨rfl, hb1⟩
 | true =>
  have hcb : canonB xs = sameB (ofL (sb (encL xs))) xs := by simp only [canonB, ha, Bool.true_and]
  have HA := Lib.hid ha
  rw [hcb]
  clear ha hcb
  have hle := (encL_len xs).2
  rw [HX.out.len] at hle
  go_enter Tryz.func167, Tryz.ntmps167
  go_wp2_with fail
  refine (encode_yes w B A n c xs HX.out hB (by omega) HA.out).mono ?_
  rintro e w1 ⟨v1, rfl, hown1, hb1⟩
  obtain ⟨A1, c1, rfl, hc1, hm1, hr1⟩ := own_slice2 hown1
  have HR1 := Lib.hid hr1
  have hs1 := hb1.size
  clear hown1 hr1
  generalize hln : (encL xs).length = ln at *
  have HLN := Lib.hid hln
  clear hln
  go_wp2_with fail
  refine (decode_any w1 w1.heap.size A1 ln c1 (encL xs) HR1.out (Nat.le_refl _) (all_bd HA.out) hc1 (by omega) hm1 (tabs_below HT.out hb1)).mono ?_
  rintro e w2 ⟨v2, rfl, hown2, hb2⟩
  obtain ⟨A2, c2, rfl, hc2, hm2, hr2⟩ := own_slice2 hown2
  have HR2 := Lib.hid hr2
  have hs2 := hb2.size
  clear hown2 hr2
  have hx2 : RI .i32 w2 B A n xs := (HX.out.keep fun p hp => hb1.cell (p := p) (by omega)).keep fun p hp => hb2.cell (p := p) (by omega)
  have HX2 := Lib.hid hx2
  clear hx2
  generalize hl2 : (ofL (sb (encL xs))).length = l2 at *
  have HL2 := Lib.hid hl2
  clear hl2
  unfold maxLen at hm2
  go_wp2_with fail
  refine (equal_any w2 w2.heap.size B A2 A l2 c2 n c (ofL (sb (encL xs))) xs HR2.out HX2.out (by omega)).mono ?_
  rintro e w3 ⟨rfl, q, rfl⟩
  go_wp2
  go_ret
  exact ⟨rfl, below_drewN (hb1.trans (hb2.mono hs1)) q⟩
theorem canonical_is (w : World) (B : Nat) (A : Option Addr) (n c : Nat) (xs : List Int) (hx : RI .i32 w B A n xs) (hB : B ≤ w.heap.size) (hn : n ≤ 268435456) (hT : Lib.Utf8Tabs 0 1 w) (r : Bool) (hr : canonB xs = r) :
  Calls Tryz.prog 167 #[.slice A n c] w fun e w' => e = .returned (.bool r) ∧ Below w.heap.size w w' := by
 subst hr
 exact canonical_any w B A n c xs hx hB hn hT
set_option maxHeartbeats 400000 in
theorem refDecode_any (w : World) (B : Nat) (A : Option Addr) (n c : Nat) (zs : List Int) (hx : RI .u8 w B A n zs) (hn : n ≤ 1099511627776) :
  Calls Tryz.prog 154 #[.slice A n c] w fun e w' => ∃ v, e = .returned v ∧ w'.ownsRow w.heap.size 23 1 v (ofL (sb zs)).length ((ofL (sb zs)).map (Value.int .i32)) ∧ Below w.heap.size w w' := by
 have hcv := conv_ri hx c
 have hl : (sb zs).size ≤ 1099511627776 := by rw [sb_size, hx.len]; exact hn
 have HL := Lib.hid hl
 clear hx hl
 generalize sb zs = s at *
 go_enter Tryz.func154, Tryz.ntmps154
 go_wp2_with fail
 refine (refOf_any s w HL.out).mono ?_
 rintro e w1 ⟨v, rfl, hown, hb⟩
 have HO := Lib.hid hown
 clear hown
 go_wp2
 go_ret
 exact ⟨v, rfl, HO.out, hb⟩
def SeqTold (c : Int) (w : World) (e : Ending) (w' : World) : Prop :=
 e = .returned (.slice (some ⟨w.heap.size, 0, none⟩) (encC c).length (encC c).length) ∧ RI .u8 w' (w.heap.size + 1) (some ⟨w.heap.size, 0, none⟩) (encC c).length (encC c) ∧ w.heap.size + 1 ≤ w'.heap.size ∧ Below w.heap.size w w'
theorem seq_told {c : Int} {zs : List Int} (h : encC c = zs) (w : World) (t : TypeId) : SeqTold c w (.returned (.slice (some ⟨w.heap.size, 0, none⟩) zs.length zs.length)) (w.alloc (.cells (zs.map (Value.int .u8)).toArray t)) := by
 subst h
 exact ⟨rfl, RI.new w .u8 _ t, by simp, (Below.refl _ _).alloc (Nat.le_refl _) _⟩
set_option maxHeartbeats 1000000 in
theorem sequence_any (c : Int) (w : World) (h0 : 0 ≤ c) (hr : rightB c = true) : Calls Tryz.prog 180 #[.int .i32 c] w (SeqTold c w) := by
 have hb : c < 55296 ∨ (57343 < c ∧ c ≤ 1114111) := by unfold rightB at hr; simp at hr; omega
 have e0 : encC c = Lib.encodeRuneZ c := by unfold encC; rw [if_neg (by omega)]
 clear hr
 by_cases c1 : c < 128
 ·have he := e0.trans (Lib.encodeRuneZ_one h0 (by omega))
  have HE := Lib.hid he
  clear he e0 hb
  go_enter Tryz.func180, Tryz.ntmps180
  go_wp2
  go_ret
  exact seq_told HE.out w _
 by_cases c2 : c < 2048
 ·have he := e0.trans (Lib.encodeRuneZ_two (by omega) (by omega))
  have HE := Lib.hid he
  clear he e0 hb
  go_enter Tryz.func180, Tryz.ntmps180
  go_wp2
  go_ret
  exact seq_told HE.out w _
 by_cases c3 : c < 65536
 ·have he := e0.trans (Lib.encodeRuneZ_three (by omega))
  have HE := Lib.hid he
  clear he e0 hb
  go_enter Tryz.func180, Tryz.ntmps180
  go_wp2
  go_ret
  exact seq_told HE.out w _
 ·have he := e0.trans (Lib.encodeRuneZ_four (by omega) (by omega))
  have HE := Lib.hid he
  have hb4 : c ≤ 1114111 := by omega
  clear he e0 hb
  go_enter Tryz.func180, Tryz.ntmps180
  go_wp2
  go_ret
  exact seq_told HE.out w _
def REncTold (xs : List Int) (w : World) (e : Ending) (w' : World) : Prop :=
 Below w.heap.size w w' ∧ ((xs.all rightB = true ∧ ∃ v, e = .returned (.tuple #[v, .int .i64 0]) ∧ w'.ownsRow w.heap.size 5 1 v (encL xs).length ((encL xs).map (Value.int .u8))) ∨
  (xs.all rightB = false ∧ e = .returned (.tuple #[.slice none 0 0, .int .i64 10])))
set_option maxHeartbeats 2000000 in
theorem refEncode_told (w : World) (B : Nat) (A : Option Addr) (n c : Nat) (xs : List Int) (hx : RI .i32 w B A n xs) (hB : B ≤ w.heap.size) (hn : n ≤ 1073741824) :
  Calls Tryz.prog 153 #[.slice A n c] w (REncTold xs w) := by
 obtain ⟨i0, hi, hz0, hz1, hz2⟩ := info_parts info8
 have HX := Lib.hid hx
 clear hx
 go_enter Tryz.func153, Tryz.ntmps153
 go_wp2
 go_loopw [4, 5] (fun v i wr => ∃ k : Nat, k ≤ n ∧ i = .int .i64 k ∧ Hid ((xs.take k).all rightB = true) ∧ Hid (wr.ownsRow w.heap.size 5 1 v (encL (xs.take k)).length ((encL (xs.take k)).map (Value.int .u8))) ∧ Below w.heap.size w wr) (fun _ i _ => n - (intOf i).toNat)
 case atStart => exact ⟨0, Nat.zero_le _, rfl, rfl, World.ownsRow_nil _ _ _ _, Below.refl _ _⟩
 case round =>
  obtain ⟨k, hk, rfl, HA, HW, hbr⟩ := hrel
  have hsz := hbr.size
  by_cases hlt : k < n
  ·obtain ⟨ad, u, rfl, hbl, hu, hcell⟩ := HX.out.at_ hlt
   have hcr : wr.cell? (ad.add k) = some (.int .i32 u) := (hbr.cell (p := ad.add k) (by rw [block_of_add]; omega)).trans hcell
   have HU := Lib.hid hu
   clear hu hcell
   cases hru : rightB u with
   | true =>
    have hle := (encL_len (xs.take k)).2
    have hlk : (xs.take k).length ≤ k := List.length_take_le _ _
    have hub : -256 ≤ u := by unfold rightB at hru; simp at hru; omega
    have HRU := Lib.hid hru
    clear hru
    by_cases hneg : u < 0
    ·have he : encC u = [-1 - u] := by unfold encC; rw [if_pos hneg]
     have HE := Lib.hid he
     clear he
     go_wp2_with fail
     refine (refRight_is u wr true HRU.out).mono ?_
     rintro e w' ⟨rfl, rfl⟩
     go_wp2_with fail
     refine (refByte_yes u wr hub hneg).mono ?_
     rintro e w' ⟨rfl, rfl⟩
     go_wp2_with (at_builtin; (refine wpList_append_own _ rfl _ _ 22 rfl w.heap.size 5 i0 (.int .u8 0) 1 1 Tryz.underlying22 hi hz0 hz1 hz2 rfl (by decide) _ _ _ rfl (HW.out.alloc _) _ 1 1 [.int .u8 (-1 - u)] rfl rfl (cell_one_new _ _ _) (by intro u hu; simp at hu; subst hu; rfl) (by unfold maxLen; omega) (by omega) (by simp; omega) ?_); intro v' w3 hown' hgrow _; have HO3 := Lib.hid hown'; have HG3 := Lib.hid hgrow; clear hown' hgrow)
     have hown2 : Hid (w3.ownsRow w.heap.size 5 1 v' (encL (xs.take (k + 1))).length ((encL (xs.take (k + 1))).map (Value.int .u8))) := by
      rw [take_snoc HU.out, encL_snoc, HE.out]
      simpa [Hid] using HO3.out
     go_roundw
     case rel => exact ⟨k + 1, by omega, by go_num, take_right HA.out HU.out HRU.out, hown2, (hbr.alloc (by omega) _).grown HG3.out (by simp; omega) (fun k hk => (HW.out.lt k hk).1)⟩
     case measure => simp [intOf]; omega
    ·go_wp2_with fail
     refine (refRight_is u wr true HRU.out).mono ?_
     rintro e w' ⟨rfl, rfl⟩
     go_wp2_with fail
     refine (refByte_no u wr (by omega)).mono ?_
     rintro e w' ⟨rfl, rfl⟩
     go_wp2_with fail
     refine (sequence_any u wr (by omega) HRU.out).mono ?_
     rintro e w1 ⟨rfl, hr1, hs1, hb1⟩
     have HR1 := Lib.hid hr1
     have HOW := Lib.hid (own_keep HW.out hb1)
     have hbW : Below w.heap.size w w1 := hbr.trans (hb1.mono hsz)
     have hel := encC_len u
     clear hr1
     generalize hln : (encC u).length = ln at *
     have HLN := Lib.hid hln
     clear hln
     go_wp2_with (at_builtin; (refine wpList_append_ri _ rfl (.tmp 39) (.tmp 40) 22 rfl w.heap.size 5 i0 (.int .u8 0) 1 Tryz.underlying22 hi hz0 hz1 hz2 rfl _ _ _ rfl HOW.out .u8 _ _ ln ln _ rfl HR1.out (by unfold maxLen; omega) (by omega) (by omega) ?_); intro v' w3 hown' hgrow; have HO3 := Lib.hid hown'; have HG3 := Lib.hid hgrow; clear hown' hgrow)
     have hown2 : Hid (w3.ownsRow w.heap.size 5 1 v' (encL (xs.take (k + 1))).length ((encL (xs.take (k + 1))).map (Value.int .u8))) := by
      rw [take_snoc HU.out, encL_snoc, List.length_append, HLN.out]
      simpa [Hid] using HO3.out
     go_roundw
     case rel => exact ⟨k + 1, by omega, by go_num, take_right HA.out HU.out HRU.out, hown2, hbW.grown HG3.out (by omega) (fun k hk => (HOW.out.lt k hk).1)⟩
     case measure => simp [intOf]; omega
   | false =>
    have HRU := Lib.hid hru
    clear hru
    go_wp2_with fail
    refine (refRight_is u wr false HRU.out).mono ?_
    rintro e w' ⟨rfl, rfl⟩
    go_wp2
    go_ret2
    exact ⟨hbr, .inr ⟨not_right HU.out HRU.out, rfl⟩⟩
  ·have hkn : xs.take k = xs := List.take_of_length_le (by rw [HX.out.len]; omega)
   have HK := Lib.hid hkn
   clear hkn
   go_wp2
   go_ret2
   refine ⟨hbr, .inl ⟨?_, _, rfl, ?_⟩⟩
   ·have := HA.out
    rwa [HK.out] at this
   ·have := HW.out
    rwa [HK.out] at this
theorem refEncode_yes (w : World) (B : Nat) (A : Option Addr) (n c : Nat) (xs : List Int) (hx : RI .i32 w B A n xs) (hB : B ≤ w.heap.size) (hn : n ≤ 1073741824) (ha : xs.all rightB = true) :
  Calls Tryz.prog 153 #[.slice A n c] w fun e w' => ∃ v, e = .returned (.tuple #[v, .int .i64 0]) ∧ w'.ownsRow w.heap.size 5 1 v (encL xs).length ((encL xs).map (Value.int .u8)) ∧ Below w.heap.size w w' := by
 refine (refEncode_told w B A n c xs hx hB hn).mono ?_
 rintro e w' ⟨hb, ⟨_, v, rfl, ho⟩ | ⟨h, _⟩⟩
 ·exact ⟨v, rfl, ho, hb⟩
 ·rw [ha] at h; cases h
theorem refEncode_no (w : World) (B : Nat) (A : Option Addr) (n c : Nat) (xs : List Int) (hx : RI .i32 w B A n xs) (hB : B ≤ w.heap.size) (hn : n ≤ 1073741824) (ha : xs.all rightB = false) :
  Calls Tryz.prog 153 #[.slice A n c] w fun e w' => e = .returned (.tuple #[.slice none 0 0, .int .i64 10]) ∧ Below w.heap.size w w' := by
 refine (refEncode_told w B A n c xs hx hB hn).mono ?_
 rintro e w' ⟨hb, ⟨h, _⟩ | ⟨_, rfl⟩⟩
 ·rw [ha] at h; cases h
 ·exact ⟨rfl, hb⟩
theorem sameL_sameB (xs ys : List Int) : sameL xs ys = sameB xs ys := by
 by_cases h : xs = ys
 ·rw [sameL_true h]; simp [sameB, h]
 ·rw [sameL_false h]; simp [sameB, h]
set_option maxHeartbeats 1000000 in
theorem refCanonical_any (w : World) (B : Nat) (A : Option Addr) (n c : Nat) (xs : List Int) (hx : RI .i32 w B A n xs) (hB : B ≤ w.heap.size) (hn : n ≤ 268435456) :
  Calls Tryz.prog 123 #[.slice A n c] w fun e w' => e = .returned (.bool (canonB xs)) ∧ Below w.heap.size w w' := by
 have HX := Lib.hid hx
 clear hx
 cases ha : xs.all rightB with
 | false =>
  have hcb : canonB xs = false := by simp only [canonB, ha, Bool.false_and]
  have HA := Lib.hid ha
  rw [hcb]
  clear ha hcb
  go_enter Tryz.func123, Tryz.ntmps123
  go_wp2_with fail
  refine (refEncode_no w B A n c xs HX.out hB (by omega) HA.out).mono ?_
  rintro e w1 ⟨rfl, hb1⟩
  go_wp2
  go_ret
  exact ⟨rfl, hb1⟩
 | true =>
  have hcb : canonB xs = sameL (ofL (sb (encL xs))) xs := by rw [sameL_sameB]; simp only [canonB, ha, Bool.true_and]
  have HA := Lib.hid ha
  rw [hcb]
  clear ha hcb
  have hle := (encL_len xs).2
  rw [HX.out.len] at hle
  go_enter Tryz.func123, Tryz.ntmps123
  go_wp2_with fail
  refine (refEncode_yes w B A n c xs HX.out hB (by omega) HA.out).mono ?_
  rintro e w1 ⟨v1, rfl, hown1, hb1⟩
  obtain ⟨A1, c1, rfl, hc1, hm1, hr1⟩ := own_slice2 hown1
  have HR1 := Lib.hid hr1
  have hs1 := hb1.size
  clear hown1 hr1
  generalize hln : (encL xs).length = ln at *
  have HLN := Lib.hid hln
  clear hln
  go_wp2_with fail
  refine (refDecode_any w1 w1.heap.size A1 ln c1 (encL xs) HR1.out (by omega)).mono ?_
  rintro e w2 ⟨v2, rfl, hown2, hb2⟩
  obtain ⟨A2, c2, rfl, hc2, hm2, hr2⟩ := own_slice2 hown2
  have HR2 := Lib.hid hr2
  have hs2 := hb2.size
  clear hown2 hr2
  have hx2 : RI .i32 w2 B A n xs := (HX.out.keep fun p hp => hb1.cell (p := p) (by omega)).keep fun p hp => hb2.cell (p := p) (by omega)
  have HX2 := Lib.hid hx2
  clear hx2
  generalize hl2 : (ofL (sb (encL xs))).length = l2 at *
  have HL2 := Lib.hid hl2
  clear hl2
  go_wp2_with fail
  refine (same_any w2 w2.heap.size B A2 A l2 c2 n c (ofL (sb (encL xs))) xs HR2.out HX2.out (by omega) (by unfold maxLen; omega)).mono ?_
  rintro e w3 ⟨rfl, q, rfl⟩
  go_wp2
  go_ret
  exact ⟨rfl, below_drewN (hb1.trans (hb2.mono hs1)) q⟩
end Go.Proofs.YtknjhlbhbnldpaaGreatDoor.C


namespace Go.Proofs.YtknjhlbhbnldpaaGreatDoor.C
open Go.RowKit
theorem Gm.next {w w' : World} (h : Gm w) (hb : Below w.heap.size w w') : Gm w' := ⟨h.1.next hb, tabs_below h.2 hb⟩
set_option maxRecDepth 100000 in
set_option maxHeartbeats 1000000 in
theorem index32_any (w : World) (B : Nat) (A : Option Addr) (n c : Nat) (ks : List Int) (v : Int) (h : RI .i32 w B A n ks) (hn : n ≤ 1000) :
  Calls Tryz.prog 186 #[.slice A n c, .int .i32 v] w fun e w' => (∃ i : Int, e = .returned (.int .i64 i) ∧ (decide (0 ≤ i) = inKs ks v)) ∧ w' = w := by
 have H := Lib.hid h
 have hl := h.len
 clear h
 have HL := Lib.hid hl
 clear hl
 go_enter Tryz.func186, Tryz.ntmps186
 go_wp2
 go_loop [8] (fun i => ∃ k : Nat, k ≤ n ∧ i = .int .i64 k ∧ Hid (v ∉ ks.take k)) (fun i => n - (intOf i).toNat)
 case atStart => exact ⟨0, Nat.zero_le _, rfl, Lib.hid (by simp)⟩
 case round =>
  obtain ⟨k, hk, rfl, HN⟩ := hrel
  by_cases hlt : k < n
  ·obtain ⟨ad, u, rfl, hb, hu, hc⟩ := H.out.at_ hlt
   have HU := Lib.hid hu
   clear hu
   by_cases hv : v = u
   ·subst hv
    go_wp2
    go_ret
    refine ⟨⟨_, rfl, ?_⟩, rfl⟩
    have hm : v ∈ ks := List.mem_of_getElem? HU.out
    simp [inKs, hm]
   ·have hv' : (v == u) = false := by simpa using hv
    go_wp2
    go_round
    case rel => exact ⟨k + 1, by omega, by go_num, Lib.hid (by
     rw [List.take_add_one, HU.out]
     simp only [Option.toList_some, List.mem_append, List.mem_singleton, not_or]
     exact ⟨HN.out, hv⟩)⟩
    case measure => simp [intOf]; omega
  ·obtain rfl : k = n := by omega
   go_wp2
   go_ret
   refine ⟨⟨_, rfl, ?_⟩, rfl⟩
   have hm := HN.out
   rw [List.take_of_length_le (by rw [HL.out]; exact Nat.le_refl _)] at hm
   simp [inKs, hm]
set_option maxRecDepth 100000 in
set_option maxHeartbeats 1000000 in
theorem contains32_is (w : World) (B : Nat) (A : Option Addr) (n c : Nat) (ks : List Int) (v : Int) (h : RI .i32 w B A n ks) (hn : n ≤ 1000) (b : Bool) (hb : inKs ks v = b) :
  Calls Tryz.prog 166 #[.slice A n c, .int .i32 v] w fun e w' => e = .returned (.bool b) ∧ w' = w := by
 have hi := index32_any w B A n c ks v h hn
 rw [hb] at hi
 clear h hb
 go_enter Tryz.func166, Tryz.ntmps166
 go_wp2_with fail
 refine hi.mono ?_
 rintro e w' ⟨⟨i, rfl, hi2⟩, rfl⟩
 have HI := Lib.hid hi2
 clear hi2
 cases b with
 | true =>
  have h0 : 0 ≤ i := by simpa using HI.out
  go_wp2
  go_ret
  exact ⟨rfl, rfl⟩
 | false =>
  have h0 : decide (0 ≤ i) = false := HI.out
  go_wp2
  go_ret
  exact ⟨rfl, rfl⟩
set_option maxRecDepth 100000 in
set_option maxHeartbeats 2000000 in
theorem isQuotable_any (w : World) (B : Nat) (A : Option Addr) (n c : Nat) (xs : List Int) (h : RI .i32 w B A n xs) (hB : B ≤ w.heap.size) (hG : Gm w) :
  Calls Tryz.prog 137 #[.slice A n c] w fun e w' => e = .returned (.bool (quotB xs)) ∧ Below w.heap.size w w' := by
 have hl := h.len
 by_cases h2 : n < 2
 ·have hq : quotB xs = false := by
   unfold quotB
   rw [decide_eq_false (by omega)]
   rfl
  have i2 : (n : Int) < 2 := by omega
  rw [hq]
  clear h hG hq hl
  go_enter Tryz.func137, Tryz.ntmps137
  go_wp2
  go_ret
  exact ⟨rfl, Below.refl _ _⟩
 have i2 : ¬ (n : Int) < 2 := by omega
 by_cases h4 : 4 < n
 ·have hq : quotB xs = false := by
   unfold quotB
   rw [decide_eq_false (by omega)]
   rfl
  have i4 : (4 : Int) < (n : Int) := by omega
  rw [hq]
  clear h hG hq hl
  go_enter Tryz.func137, Tryz.ntmps137
  go_wp2
  go_ret
  exact ⟨rfl, Below.refl _ _⟩
 have i4 : ¬ (4 : Int) < (n : Int) := by omega
 have hd : decide (2 ≤ xs.length ∧ xs.length ≤ 4) = true := decide_eq_true (by omega)
 have c34 := fun b hb => contains32_is w B A n c xs 34 h (by omega) b hb
 have c10 := fun b hb => contains32_is w B A n c xs 10 h (by omega) b hb
 have hca := canonical_is w B A n c xs h hB (by omega) hG.2 _ rfl
 cases k34 : inKs xs 34 with
 | true =>
  have hq : quotB xs = false := by
   unfold quotB
   rw [show xs.contains 34 = true from k34]
   simp
  have c34' := c34 true k34
  rw [hq]
  clear h hG hq hl c34 c10 hca hd k34
  go_enter Tryz.func137, Tryz.ntmps137
  go_wp2_with (go_at_call 166; with_reducible refine c34'.mono ?_; rintro e w' ⟨rfl, rfl⟩)
  go_ret
  exact ⟨rfl, Below.refl _ _⟩
 | false =>
  have c34' := c34 false k34
  cases k10 : inKs xs 10 with
  | true =>
   have hq : quotB xs = false := by
    unfold quotB
    rw [show xs.contains 10 = true from k10]
    simp
   have c10' := c10 true k10
   rw [hq]
   clear h hG hq hl c34 c10 hca hd k34 k10
   go_enter Tryz.func137, Tryz.ntmps137
   go_wp2_with (first
    | (go_at_call 166; with_reducible refine c34'.mono ?_; rintro e w' ⟨rfl, rfl⟩)
    | (go_at_call 166; with_reducible refine c10'.mono ?_; rintro e w' ⟨rfl, rfl⟩))
   go_ret
   exact ⟨rfl, Below.refl _ _⟩
  | false =>
   have c10' := c10 false k10
   have hq : quotB xs = canonB xs := by
    unfold quotB
    rw [show xs.contains 10 = false from k10, show xs.contains 34 = false from k34, hd]
    simp
   rw [hq]
   obtain ⟨r, hr⟩ : ∃ r, r = canonB xs := ⟨_, rfl⟩
   rw [← hr] at hca ⊢
   clear h hG hq hl c34 c10 hd k34 k10 hr
   go_enter Tryz.func137, Tryz.ntmps137
   go_wp2_with (first
    | (go_at_call 166; with_reducible refine c34'.mono ?_; rintro e w' ⟨rfl, rfl⟩)
    | (go_at_call 166; with_reducible refine c10'.mono ?_; rintro e w' ⟨rfl, rfl⟩)
    | (go_at_call 167; refine hca.mono ?_; rintro e w' ⟨rfl, hb⟩; (have HB := Lib.hid hb); clear hb))
   go_ret
   exact ⟨rfl, HB.out⟩
end Go.Proofs.YtknjhlbhbnldpaaGreatDoor.C
