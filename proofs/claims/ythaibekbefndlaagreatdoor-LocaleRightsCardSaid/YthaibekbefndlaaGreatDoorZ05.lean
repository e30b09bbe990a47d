/-
  Joined: MLxY, MLxH, MLxK, LcO, LjU, LdF, MUtfF. Each with what its own head says.
-/
import Derived.Test.YthaibekbefndlaaGreatDoorZ02
import Derived.Test.YthaibekbefndlaaGreatDoorZ03

namespace Go.Proofs.YthaibekbefndlaaGreatDoor.C
open Go.RowKit

theorem assert_long (W : World) : (Instr.typeAssert (.iface 127 (.agg #[])) 20 127 true).run Tryz.prog W = .ok (.tuple #[.agg #[], .bool true]) W := by kernel_rfl
theorem assert_not (k : Int) (W : World) : (Instr.typeAssert (.iface 128 (.int .i64 k)) 20 127 true).run Tryz.prog W = .ok (.tuple #[.agg #[], .bool false]) W := by kernel_rfl
theorem assert_bad (k : Int) (W : World) : (Instr.typeAssert (.iface 128 (.int .i64 k)) 20 128 true).run Tryz.prog W = .ok (.tuple #[.int .i64 k, .bool true]) W := by kernel_rfl
set_option maxRecDepth 100000 in
set_option maxHeartbeats 1000000 in
theorem whatIs_long (w : World) (R : Nat) :
  Calls Tryz.prog 34 #[.pointer (some ⟨R, 0, none⟩), .iface 127 (.agg #[])] w fun e w' => e = .returned (.tuple #[.int .u16 3, .int .i64 0]) ∧ Below w.heap.size w w' := by
 have q0 := assert_long
 go_enter Tryz.func34, Tryz.ntmps34
 go_wp2
 go_ret2
 exact ⟨rfl, (Below.refl _ _).alloc (Nat.le_refl _) _⟩
set_option maxRecDepth 100000 in
set_option maxHeartbeats 1000000 in
theorem whatIs_bad (w : World) (R : Nat) (k : Int) :
  Calls Tryz.prog 34 #[.pointer (some ⟨R, 0, none⟩), .iface 128 (.int .i64 k)] w fun e w' => e = .returned (.tuple #[.int .u16 20, .int .i64 k]) ∧ Below w.heap.size w w' := by
 have q0 := assert_not k
 have q1 := assert_bad k
 go_enter Tryz.func34, Tryz.ntmps34
 go_wp2
 go_ret2
 exact ⟨rfl, Below.refl _ _⟩

def Caught (w : World) (E A : Nat) (er : Nat) (k : Int) (w' : World) : Prop := ∃ w1, Below w.heap.size w w1 ∧ w' = (w1.setCell ⟨E, 0, none⟩ (.int .u16 er)).setCell ⟨A, 0, none⟩ (.int .i64 k)
def ErrAt (w : World) (E A : Nat) : Prop := w.heap[E]? = some (.cells #[.int .u16 0] 28 (0, 0)) ∧ w.heap[A]? = some (.cells #[.int .i64 0] 3 (0, 0)) ∧ E ≠ A

theorem catch_of (w : World) (R E A : Nat) (t : TypeId) (pv : Value) (older : List PanicEntry) (er : Nat) (k : Int) (hE : ErrAt w E A)
  (hw : ∀ W, Calls Tryz.prog 34 #[.pointer (some ⟨R, 0, none⟩), .iface t pv] W fun e w' => e = .returned (.tuple #[.int .u16 er, .int .i64 k]) ∧ Below W.heap.size W w') :
  CallsD Tryz.prog 33 #[.pointer (some ⟨R, 0, none⟩), .pointer (some ⟨E, 0, none⟩), .pointer (some ⟨A, 0, none⟩)] (.panicking ({ v := .iface t pv, recovered := false } :: older)) w fun e u' w' =>
   e = .returned (.tuple #[]) ∧ u' = .panicking ({ v := .iface t pv, recovered := true } :: older) ∧ Caught w E A er k w' := by
 obtain ⟨h1, h2, hne⟩ := hE
 have hl1 := (Array.getElem?_eq_some_iff.1 h1).1
 have hl2 := (Array.getElem?_eq_some_iff.1 h2).1
 refine callsD_of_wpS Tryz.func33 rfl fun c₀ cs hu => ?_
 apply wpS_seq
 apply wpS_region
 simp [wpOpsS, go_sem, recoverD, hu, Tryz.ntmps33, Exit.thenS]
 simp only [Array.replicate_succ, Array.replicate_zero, List.push_toArray, List.setIfInBounds_toArray, List.set_cons_zero, List.set_cons_succ, List.append_toArray, List.nil_append, List.cons_append]
 refine wpS_of_wp ?_
 go_wp2_with fail
 refine (hw _).mono ?_
 rintro e w1 ⟨rfl, hb1⟩
 have k1 := (hb1.block E hl1).trans h1
 have k2 := (hb1.block A hl2).trans h2
 have c1 : w1.cell? ⟨E, 0, none⟩ = some (.int .u16 0) := by simp [World.cell?, k1]
 have c2 : w1.cell? ⟨A, 0, none⟩ = some (.int .i64 0) := by simp [World.cell?, k2]
 have f1 : w1.frozen? ⟨E, 0, none⟩ = false := by simp [World.frozen?, k1]
 have f2 : w1.frozen? ⟨A, 0, none⟩ = false := by simp [World.frozen?, k2]
 clear k1 k2 h1 h2
 go_wp2
 have hC : Caught w E A er k ((w1.setCell ⟨E, 0, none⟩ (.int .u16 er)).setCell ⟨A, 0, none⟩ (.int .i64 k)) := ⟨w1, hb1, rfl⟩
 simp [bodyPostS, results, Tryz.results33, hC]

theorem catch_idle (w : World) (R E A : Nat) :
  CallsD Tryz.prog 33 #[.pointer (some ⟨R, 0, none⟩), .pointer (some ⟨E, 0, none⟩), .pointer (some ⟨A, 0, none⟩)] .returning w fun e u' w' => e = .returned (.tuple #[]) ∧ u' = .returning ∧ w' = w := by
 refine callsD_of_wpS Tryz.func33 rfl fun c₀ cs hu => ?_
 apply wpS_seq
 apply wpS_region
 simp [wpOpsS, go_sem, recoverD, hu, Tryz.ntmps33, Exit.thenS]
 simp only [Array.replicate_succ, Array.replicate_zero, List.push_toArray, List.setIfInBounds_toArray, List.set_cons_zero, List.set_cons_succ, List.append_toArray, List.nil_append, List.cons_append]
 refine wpS_of_wp ?_
 go_wp2
 cases c₀
 simp_all [bodyPostS, results, Tryz.results33]
end Go.Proofs.YthaibekbefndlaaGreatDoor.C

namespace Go.Proofs.YthaibekbefndlaaGreatDoor.C
open Go.RowKit


set_option maxHeartbeats 1000000 in
theorem tz64_16 (w : World) (h : w.cell? ⟨10, 15, none⟩ = some (.int .u8 4)) : Calls Tryz.prog 260 #[.int .u64 16] w fun e w' => e = .returned (.int .i64 4) ∧ w = w' := by
 have key : IntKind.u64.wrap (bits BinOp.and IntKind.u64 16 (IntKind.u64.wrap (-16)) * 285870213051353865) / 288230376151711744 = 15 := by decide +kernel
 go_enter Tryz.func260, Tryz.ntmps260
 go_wp2_with (simp only [key])
 all_goals go_ret
 all_goals exact ⟨rfl, rfl⟩

set_option maxHeartbeats 1000000 in
theorem isPow_16 (w : World) : Calls Tryz.prog 249 #[.int .i64 16] w fun e w' => e = .returned (.bool true) ∧ w = w' := by
 go_enter Tryz.func249, Tryz.ntmps249
 go_wp2
 all_goals go_ret
 all_goals exact ⟨rfl, rfl⟩

set_option maxHeartbeats 1000000 in
theorem tz_16 (w : World) (h : w.cell? ⟨10, 15, none⟩ = some (.int .u8 4)) : Calls Tryz.prog 250 #[.int .u64 16] w fun e w' => e = .returned (.int .i64 4) ∧ w = w' := by
 go_enter Tryz.func250, Tryz.ntmps250
 go_wp2_with fail
 refine (tz64_16 w h).mono ?_
 rintro e w' ⟨rfl, rfl⟩
 go_wp2
 all_goals go_ret
 all_goals exact ⟨rfl, rfl⟩

def zeros65 : Array Value := (Lib.byteCells (List.replicate 65 0)).toArray
theorem zeroArray (w : World) : (zeroValue 260).run Tryz.prog w = .ok (.agg zeros65) w := by kernel_rfl

def Digits (w : World) (g k : Nat) (d : List UInt8) : Prop := ∃ z : List UInt8, z.length = k ∧ w.heap[g]? = some (.cells (Lib.byteCells (z ++ d)).toArray 260 (0, 0))

theorem digits_start (w : World) : Digits (w.alloc (.cells zeros65 260)) w.heap.size 65 [] :=
 ⟨List.replicate 65 0, by simp, by rw [List.append_nil]; exact heap_alloc_new w _⟩
theorem digits_cell {w : World} {g k : Nat} {d : List UInt8} (h : Digits w g (k + 1) d) : ∃ x, w.cell? ⟨g, k, none⟩ = some (.int .u8 x) := by
 obtain ⟨z, hz, hg⟩ := h
 have hk : k < (z ++ d).length := by simp; omega
 refine ⟨((z ++ d)[k]).toNat, ?_⟩
 rw [cell_of_row w g k _ _ _ hg]
 simp only [Lib.byteCells, List.getElem?_toArray, List.getElem?_map, List.getElem?_eq_getElem hk, Option.map_some]
theorem digits_frozen {w : World} {g k : Nat} {d : List UInt8} (h : Digits w g (k + 1) d) : w.frozen? ⟨g, k, none⟩ = false := by
 obtain ⟨z, hz, hg⟩ := h
 simp [World.frozen?, hg]
theorem digits_set {w : World} {g k : Nat} {d : List UInt8} (h : Digits w g (k + 1) d) (c : UInt8) : Digits (w.setCell ⟨g, k, none⟩ (.int .u8 c.toNat)) g k (c :: d) := by
 obtain ⟨z, hz, hg⟩ := h
 refine ⟨z.take k, by simp; omega, ?_⟩
 simp only [World.setCell, Array.getElem?_modify, hg]
 simp only [if_true, Option.map_some, Option.some.injEq, Obj.cells.injEq, and_true]
 simp only [Lib.byteCells, List.setIfInBounds_toArray]
 congr 1
 rw [← List.map_set (f := fun b : UInt8 => Value.int .u8 b.toNat)]
 congr 1
 obtain ⟨z', y, rfl⟩ : ∃ z' y, z = z' ++ [y] := ⟨z.dropLast, z.getLast (by intro e; subst e; simp at hz), (List.dropLast_concat_getLast _).symm⟩
 simp at hz
 subst hz
 simp
theorem digits_cells {w : World} {g k : Nat} {d : List UInt8} (h : Digits w g k d) : ∀ j u, (Lib.byteCells d)[j]? = some u → w.cell? ((⟨g, k, none⟩ : Addr).add j) = some u := by
 obtain ⟨z, hz, hg⟩ := h
 intro j u hu
 have e : (⟨g, k, none⟩ : Addr).add j = ⟨g, k + j, none⟩ := by
  unfold Addr.add; split
  ·subst_vars; rfl
  ·rfl
 rw [e, cell_of_row w g (k + j) _ _ _ hg, ← hu]
 simp only [Lib.byteCells, List.map_append, List.getElem?_toArray]
 rw [List.getElem?_append_right (by simp; omega)]
 simp [hz]

theorem dig_at : ∀ (x : Nat) (h : x < (ByteArray.mk #[48, 49, 50, 51, 52, 53, 54, 55, 56, 57, 97, 98, 99, 100, 101, 102, 103, 104, 105, 106, 107, 108, 109, 110, 111, 112, 113, 114, 115, 116, 117, 118, 119, 120, 121, 122]).size), x < 16 → (ByteArray.mk #[48, 49, 50, 51, 52, 53, 54, 55, 56, 57, 97, 98, 99, 100, 101, 102, 103, 104, 105, 106, 107, 108, 109, 110, 111, 112, 113, 114, 115, 116, 117, 118, 119, 120, 121, 122])[x]'h = dig x
 | 0, _, _ => rfl
 | 1, _, _ => rfl
 | 2, _, _ => rfl
 | 3, _, _ => rfl
 | 4, _, _ => rfl
 | 5, _, _ => rfl
 | 6, _, _ => rfl
 | 7, _, _ => rfl
 | 8, _, _ => rfl
 | 9, _, _ => rfl
 | 10, _, _ => rfl
 | 11, _, _ => rfl
 | 12, _, _ => rfl
 | 13, _, _ => rfl
 | 14, _, _ => rfl
 | 15, _, _ => rfl
 | (x + 16), _, h => absurd h (by omega)
theorem and15 (u : Nat) (h : u < 18446744073709551616) : bits BinOp.and IntKind.u64 (u : Int) 15 = ((u % 16 : Nat) : Int) := by
 have := bits_and_u64_nat u 15 h (by omega)
 rw [show ((15 : Nat) : Int) = 15 from rfl] at this
 rw [this]
 have e : u &&& 15 = u % 16 := Nat.and_two_pow_sub_one_eq_mod u 4
 rw [e]
theorem arrayLen65 : Tryz.prog.arrayLen 260 = 65 := by kernel_rfl
theorem elem65 : Tryz.prog.elem 260 = 5 := by kernel_rfl
theorem under65 : Tryz.prog.underlying 260 = some (.array (Tryz.prog.arrayLen 260) (Tryz.prog.elem 260)) := by kernel_rfl
theorem sizeOf5 (W : World) : (sizeOf 5).run Tryz.prog W = .ok 1 W := by kernel_rfl
theorem slice65 (g k : Nat) (hk : k < 65) (W : World) : (Instr.sliceAt 260 (.pointer (some ⟨g, 0, none⟩)) (some (.int .i64 k)) none none).run Tryz.prog W = .ok (.slice (some ⟨g, k, none⟩) (65 - k) (65 - k)) W := by
 rw [run_sliceAt_array_l W 260 ⟨g, 0, none⟩ under65 .i64 k (by omega) (by rw [arrayLen65]; omega), elem65, sizeOf5, arrayLen65]
 simp only [Result.andThen, slicedAt, Int.toNat_natCast]
 rw [if_neg (by omega)]
 congr 3
 unfold Addr.add
 split <;> simp_all
end Go.Proofs.YthaibekbefndlaaGreatDoor.C

namespace Go.Proofs.YthaibekbefndlaaGreatDoor.C
open Go.RowKit

set_option maxHeartbeats 1000000 in
theorem formatStr_16 (w : World) (u : Nat) (hu : u < 16 ^ 16) (hT : w.cell? ⟨10, 15, none⟩ = some (.int .u8 4)) :
  Calls Tryz.prog 233 #[.slice none 0 0, .int .u64 u, .int .i64 16, .bool false, .bool false] w fun e w' => e = .returned (.tuple #[.slice none 0 0, .string (str (hexL u))]) ∧ Below w.heap.size w w' := by
 have HU := Lib.hid hu
 clear hu
 have hz := zeroArray
 have hT1 : ∀ o, (w.alloc o).cell? ⟨10, 15, none⟩ = some (.int .u8 4) := fun o => by rw [World.cell?_alloc_lt w o _ (World.block_lt_of_cell? w _ hT)]; exact hT
 go_enter Tryz.func233, Tryz.ntmps233
 go_wp2_with fail
 refine (isPow_16 _).mono ?_
 rintro e w' ⟨rfl, rfl⟩
 go_wp2_with fail
 refine (tz_16 _ (hT1 _)).mono ?_
 rintro e w' ⟨rfl, rfl⟩
 go_wp2_with fail
 go_loopw [1, 13] (fun uv iv wr => ∃ (uu k : Nat) (d : List UInt8), uv = .int .u64 uu ∧ iv = .int .i64 k ∧ uu < 18446744073709551616 ∧ HexSt u uu d k ∧ Digits wr w.heap.size k d ∧ Below w.heap.size w wr) (fun uv _ _ => (intOf uv).toNat)
 case atStart => exact ⟨u, 65, [], rfl, rfl, by have := HU.out; simpa using this, hexSt_zero HU.out, digits_start w, (Below.refl _ _).alloc (Nat.le_refl _) _⟩
 case round =>
  obtain ⟨uu, k, d, rfl, rfl, huu, hst, hdg, hb⟩ := hrel
  obtain ⟨hk1, hk2⟩ := hexSt_left hst
  obtain ⟨k, rfl⟩ : ∃ k', k = k' + 1 := ⟨k - 1, by omega⟩
  obtain ⟨x, hcell⟩ := digits_cell hdg
  have hfz := digits_frozen hdg
  have HS := Lib.hid hst
  have HD := Lib.hid hdg
  clear hst hdg
  by_cases hlt : uu < 16
  ·have hend := hexSt_end HS.out hlt
   have hlen : (dig uu :: d).length = 65 - k := by have := HS.out.2.1; simp; omega
   have hdg2 : ∀ h, Digits (wr.setCell ⟨w.heap.size, k, none⟩ (.int .u8 ((ByteArray.mk #[48, 49, 50, 51, 52, 53, 54, 55, 56, 57, 97, 98, 99, 100, 101, 102, 103, 104, 105, 106, 107, 108, 109, 110, 111, 112, 113, 114, 115, 116, 117, 118, 119, 120, 121, 122])[uu]'h).toNat)) w.heap.size k (dig uu :: d) := fun h => by rw [dig_at _ _ hlt]; exact digits_set HD.out _
   have HE := Lib.hid hend
   have HL := Lib.hid hlen
   have HD2 := Lib.hid hdg2
   clear hend hlen hdg2
   have hsl := slice65 w.heap.size k (by omega)
   have hcv : ∀ h, (convert 38 9 (.slice (some ⟨w.heap.size, k, none⟩) (65 - k) (65 - k))).run Tryz.prog (wr.setCell ⟨w.heap.size, k, none⟩ (.int .u8 ((ByteArray.mk #[48, 49, 50, 51, 52, 53, 54, 55, 56, 57, 97, 98, 99, 100, 101, 102, 103, 104, 105, 106, 107, 108, 109, 110, 111, 112, 113, 114, 115, 116, 117, 118, 119, 120, 121, 122])[uu]'h).toNat)) = .ok (.string (str (dig uu :: d))) (wr.setCell ⟨w.heap.size, k, none⟩ (.int .u8 ((ByteArray.mk #[48, 49, 50, 51, 52, 53, 54, 55, 56, 57, 97, 98, 99, 100, 101, 102, 103, 104, 105, 106, 107, 108, 109, 110, 111, 112, 113, 114, 115, 116, 117, 118, 119, 120, 121, 122])[uu]'h).toNat)) := fun h => by
    have := run_convert_bytes_back (P := Tryz.prog) (wr.setCell ⟨w.heap.size, k, none⟩ (.int .u8 ((ByteArray.mk #[48, 49, 50, 51, 52, 53, 54, 55, 56, 57, 97, 98, 99, 100, 101, 102, 103, 104, 105, 106, 107, 108, 109, 110, 111, 112, 113, 114, 115, 116, 117, 118, 119, 120, 121, 122])[uu]'h).toNat)) 38 9 5 ⟨w.heap.size, k, none⟩ (65 - k) (dig uu :: d) Tryz.underlying38 Tryz.underlying5 Tryz.underlying9 (fun j hj => digits_cells (HD2.out h) j _ (by unfold Lib.byteCells; rw [List.getElem?_map, List.getElem?_eq_getElem hj]; rfl))
    rwa [HL.out] at this
   go_wp2
   go_ret2
   exact ⟨by rw [HE.out]; rfl, hb.setCell (Nat.le_refl _) _⟩
  ·have hand := and15 uu huu
   have hm : uu % 16 < 16 := Nat.mod_lt _ (by omega)
   go_wp2
   go_roundw
   case rel => exact ⟨uu / 16, k, dig (uu % 16) :: d, by go_num, rfl, by omega, hexSt_step HS.out hlt, by rw [dig_at _ _ hm]; exact digits_set HD.out _, hb.setCell (Nat.le_refl _) _⟩
   case measure => simp [intOf]; omega


set_option maxHeartbeats 1000000 in
theorem formatInt0_16 (w : World) (u : Nat) (hu : u < 1152921504606846976) (hT : w.cell? ⟨10, 15, none⟩ = some (.int .u8 4)) :
  Calls Tryz.prog 242 #[.int .i64 u, .int .i64 16] w fun e w' => e = .returned (.string (str (hexL u))) ∧ Below w.heap.size w w' := by
 have hf := formatStr_16 w u (Nat.lt_of_lt_of_le hu (by decide)) hT
 go_enter Tryz.func242, Tryz.ntmps242
 go_wp2_with fail
 refine hf.mono ?_
 rintro e w1 ⟨rfl, hb⟩
 go_wp2
 go_ret
 exact ⟨rfl, hb⟩
set_option maxHeartbeats 1000000 in
theorem formatInt_16 (w : World) (u : Nat) (hu : u < 1152921504606846976) (hT : w.cell? ⟨10, 15, none⟩ = some (.int .u8 4)) :
  Calls Tryz.prog 223 #[.int .i64 u, .int .i64 16] w fun e w' => e = .returned (.string (str (hexL u))) ∧ Below w.heap.size w w' := by
 have hf := formatInt0_16 w u hu hT
 go_enter Tryz.func223, Tryz.ntmps223
 go_wp2_with fail
 refine hf.mono ?_
 rintro e w1 ⟨rfl, hb⟩
 go_wp2
 go_ret
 exact ⟨rfl, hb⟩

theorem repeat_one (c : UInt8) : ∀ n, Lib.repeatL [c] n = List.replicate n c
 | 0 => rfl
 | n + 1 => by
  show [c] ++ Lib.repeatL [c] n = _
  rw [repeat_one c n]
  rfl
theorem dig_ascii (n : Nat) (h : n < 16) : (dig n).toNat < 128 := by
 have : ∀ n : Nat, n < 16 → (dig n).toNat < 128 := by decide +kernel
 exact this n h
theorem hexL_ascii : ∀ (m n : Nat), n < m → ∀ b ∈ hexL n, b.toNat < 128
 | 0, n, h => by omega
 | m + 1, n, h => by
  intro b hb
  by_cases h1 : n < 16
  ·rw [hexL_small h1] at hb
   simp at hb
   subst hb
   exact dig_ascii n h1
  ·rw [hexL_big h1] at hb
   simp at hb
   rcases hb with hb | rfl
   ·exact hexL_ascii m (n / 16) (by omega) b hb
   ·exact dig_ascii _ (Nat.mod_lt _ (by omega))
theorem str_append (a b : List UInt8) : str a ++ str b = str (a ++ b) := by
 rw [← str_of (str a ++ str b)]
 simp [str]
theorem upper_any (l : List UInt8) (h : ∀ b ∈ l, b.toNat < 128) (hl : l.length ≤ 1000) (w : World) :
  Calls Tryz.prog 222 #[.string (str l)] w fun e w' => e = .returned (.string (str (l.map Lib.upperB))) ∧ Below w.heap.size w w' := by
 have := Tryz.strings_ToUpper_ascii (str l) w (by rw [str_size]; omega) (fun j b hb => h b (List.mem_of_getElem? hb))
 exact this
theorem repeat_any (n : Nat) (hn : n ≤ 1000) (w : World) :
  Calls Tryz.prog 224 #[.string ⟨#[48]⟩, .int .i64 n] w fun e w' => e = .returned (.string (str (List.replicate n 48))) ∧ Below w.heap.size w w' := by
 have := Tryz.strings_Repeat ⟨#[48]⟩ n w (by omega) (by show 1 * n ≤ _; omega)
 rw [show (ByteArray.mk #[48]).data.toList = [48] from rfl, repeat_one] at this
 exact this
set_option maxRecDepth 100000 in
set_option maxHeartbeats 1000000 in
theorem digitsOf_any (n : Nat) (hn : n < 1048576 * 1048576) (w : World) (hG : Gl w) :
  Calls Tryz.prog 200 #[.int .i64 n] w fun e w' => e = .returned (.string (str (greatL n))) ∧ Below w.heap.size w w' := by
 have hf := formatInt_16 w n (by omega) hG.2.1
 have hlen := hexL_len 9 n (by omega)
 have hup := fun W => upper_any (hexL n) (hexL_ascii (n + 1) n (by omega)) (by omega) W
 have hrep := fun W => repeat_any (4 - (hexL n).length) (by omega) W
 have hcat : (str (List.replicate (4 - (hexL n).length) 48)).size + (hexL n).length ≤ 9223372036854775807 := by rw [str_size, List.length_replicate]; omega
 have hz := str_size ((hexL n).map Lib.upperB)
 rw [List.length_map] at hz
 have he : str (List.replicate (4 - (hexL n).length) 48) ++ str ((hexL n).map Lib.upperB) = str (greatL n) := str_append _ _
 obtain ⟨m, hm⟩ : ∃ m, (hexL n).length = m := ⟨_, rfl⟩
 rw [hm] at hz hrep hlen he hcat
 generalize str (hexL n) = X at *
 generalize str ((hexL n).map Lib.upperB) = Y at *
 generalize str (List.replicate (4 - m) 48) = Z at *
 have HE := Lib.hid he
 have n0 : (0 : Int) ≤ (n : Int) := by omega
 clear hm he
 by_cases h4 : m ≤ 4
 ·obtain ⟨q, hq⟩ : ∃ q : Nat, 4 - m = q := ⟨_, rfl⟩
  rw [hq] at hrep
  have hq1 : (4 : Int) - (m : Int) = (q : Int) := by omega
  have q0 : (0 : Int) ≤ (q : Int) := by omega
  have q1 : (m : Int) ≤ 4 := by omega
  clear hq
  go_enter Tryz.func200, Tryz.ntmps200
  go_wp2_with (first
   | (go_at_call 223; refine hf.mono ?_; rintro e w1 ⟨rfl, hb1⟩)
   | (go_at_call 222; refine (hup _).mono ?_; rintro e w2 ⟨rfl, hb2⟩)
   | (go_at_call 224; refine (hrep _).mono ?_; rintro e w3 ⟨rfl, hb3⟩))
  go_ret
  exact ⟨by rw [← HE.out]; rfl, (hb1.trans (hb2.mono hb1.size)).trans (hb3.mono (Nat.le_trans hb1.size hb2.size))⟩
 ·have hq : 4 - m = 0 := by omega
  rw [hq] at hrep
  have q1 : max ((4 : Int) - (m : Int)) 0 = 0 := by omega
  have hrep' : ∀ W, Calls Tryz.prog 224 #[.string ⟨#[48]⟩, .int .i64 0] W fun e w' => e = .returned (.string Z) ∧ Below W.heap.size W w' := hrep
  clear hq hrep
  go_enter Tryz.func200, Tryz.ntmps200
  go_wp2_with (first
   | (go_at_call 223; refine hf.mono ?_; rintro e w1 ⟨rfl, hb1⟩)
   | (go_at_call 222; refine (hup _).mono ?_; rintro e w2 ⟨rfl, hb2⟩)
   | (go_at_call 224; refine (hrep' _).mono ?_; rintro e w3 ⟨rfl, hb3⟩))
  go_ret
  exact ⟨by rw [← HE.out]; rfl, (hb1.trans (hb2.mono hb1.size)).trans (hb3.mono (Nat.le_trans hb1.size hb2.size))⟩

def prt (x : Tok) : List UInt8 :=
 if x.k = 3 then [60, 85] ++ greatL x.n ++ [62, 32] else if x.k = 5 then [60] ++ x.t ++ [62, 32] else if x.k = 4 then [34] ++ x.t ++ [34, 32] else if x.k = 6 then [10] else x.t ++ [32]
def prtL (ts : List Tok) : List UInt8 := ts.flatMap prt
theorem prt_str1 (a b c : List UInt8) : (⟨a.toArray⟩ : ByteArray) ++ str b ++ ⟨c.toArray⟩ = str (a ++ b ++ c) := by
 show str a ++ str b ++ str c = _
 rw [str_append, str_append]
theorem prt_str2 (b c : List UInt8) : str b ++ (⟨c.toArray⟩ : ByteArray) = str (b ++ c) := str_append b c

theorem greatL_len {n : Nat} (hn : n < 1048576 * 1048576) : (greatL n).length ≤ 14 := by
 have := hexL_len 9 n (by omega)
 unfold greatL
 simp
 omega
set_option maxRecDepth 100000 in
set_option maxHeartbeats 4000000 in
theorem printed_any (x : Tok) (a0 : Int) (w : World) (hG : Gl w) (hn : x.n < 1048576 * 1048576) (ht : (prt x).length ≤ 140737488355328) :
  Calls Tryz.prog 181 #[.agg #[.int .u8 x.k, .string (str x.t), .int .i64 x.n, .int .i64 a0]] w fun e w' => e = .returned (.string (str (prt x))) ∧ Below w.heap.size w w' := by
 obtain ⟨kd, t, n, at_⟩ := x
 simp only at hn ht ⊢
 obtain ⟨c, hc⟩ : ∃ c : Int, (kd : Int) = c := ⟨_, rfl⟩
 rw [hc]
 have hb0 : Below w.heap.size w (w.alloc (.cells #[.int .u8 c, .string (str t), .int .i64 n, .int .i64 a0] 92)) := (Below.refl _ _).alloc (Nat.le_refl _) _
 have hd := digitsOf_any n hn _ (hG.next hb0)
 have hgl := greatL_len hn
 have HB := Lib.hid hb0
 have s1 := str_size t
 have s2 := str_size (greatL n)
 have s4 : (str (greatL n)).size ≤ 5000 := by omega
 clear hG hb0 s2 hgl
 by_cases h3 : kd = 3
 ·have HP := Lib.hid (show (⟨#[60, 85]⟩ : ByteArray) ++ str (greatL n) ++ ⟨#[62, 32]⟩ = str (prt ⟨kd, t, n, at_⟩) by unfold prt; rw [if_pos h3]; exact prt_str1 _ _ _)
  obtain rfl : c = 3 := by omega
  clear hc h3 ht s1
  generalize str (greatL n) = X at *
  generalize str t = T at *
  go_enter Tryz.func181, Tryz.ntmps181
  go_wp2_with (go_at_call 200; refine hd.mono ?_; rintro e w1 ⟨rfl, hb1⟩)
  go_ret
  exact ⟨by rw [← HP.out]; rfl, HB.out.trans (hb1.mono (by simp))⟩
 by_cases h5 : kd = 5
 ·have HP := Lib.hid (show (⟨#[60]⟩ : ByteArray) ++ str t ++ ⟨#[62, 32]⟩ = str (prt ⟨kd, t, n, at_⟩) by unfold prt; rw [if_neg h3, if_pos h5]; exact prt_str1 _ _ _)
  obtain rfl : c = 5 := by omega
  have s3 : (str t).size ≤ 140737488355328 := by
   unfold prt at ht
   rw [if_neg h3, if_pos h5] at ht
   simp only [List.length_append, List.length_cons, List.length_nil] at ht
   omega
  clear hc h3 h5 hd s4 ht s1
  generalize str t = T at *
  go_enter Tryz.func181, Tryz.ntmps181
  go_wp2
  go_ret
  exact ⟨by rw [← HP.out]; rfl, HB.out⟩
 by_cases h4 : kd = 4
 ·have HP := Lib.hid (show (⟨#[34]⟩ : ByteArray) ++ str t ++ ⟨#[34, 32]⟩ = str (prt ⟨kd, t, n, at_⟩) by unfold prt; rw [if_neg h3, if_neg h5, if_pos h4]; exact prt_str1 _ _ _)
  obtain rfl : c = 4 := by omega
  have s3 : (str t).size ≤ 140737488355328 := by
   unfold prt at ht
   rw [if_neg h3, if_neg h5, if_pos h4] at ht
   simp only [List.length_append, List.length_cons, List.length_nil] at ht
   omega
  clear hc h3 h5 h4 hd s4 ht s1
  generalize str t = T at *
  go_enter Tryz.func181, Tryz.ntmps181
  go_wp2
  go_ret
  exact ⟨by rw [← HP.out]; rfl, HB.out⟩
 by_cases h6 : kd = 6
 ·have HP := Lib.hid (show (⟨#[10]⟩ : ByteArray) = str (prt ⟨kd, t, n, at_⟩) by unfold prt; rw [if_neg h3, if_neg h5, if_neg h4, if_pos h6]; rfl)
  obtain rfl : c = 6 := by omega
  clear hc h3 h5 h4 h6 hd s4 ht s1
  generalize str t = T at *
  go_enter Tryz.func181, Tryz.ntmps181
  go_wp2
  go_ret
  exact ⟨by rw [← HP.out]; rfl, HB.out⟩
 ·have HP := Lib.hid (show str t ++ (⟨#[32]⟩ : ByteArray) = str (prt ⟨kd, t, n, at_⟩) by unfold prt; rw [if_neg h3, if_neg h5, if_neg h4, if_neg h6]; exact prt_str2 _ _)
  have q3 : (c == 3) = false := by simp; omega
  have q5 : (c == 5) = false := by simp; omega
  have q4 : (c == 4) = false := by simp; omega
  have q6 : (c == 6) = false := by simp; omega
  have s3 : (str t).size ≤ 140737488355328 := by
   unfold prt at ht
   rw [if_neg h3, if_neg h5, if_neg h4, if_neg h6] at ht
   simp only [List.length_append, List.length_cons, List.length_nil] at ht
   omega
  clear hc h3 h5 h4 h6 hd s4 ht s1
  generalize str t = T at *
  go_enter Tryz.func181, Tryz.ntmps181
  go_wp2
  go_ret
  exact ⟨by rw [← HP.out]; rfl, HB.out⟩
end Go.Proofs.YthaibekbefndlaaGreatDoor.C

namespace Go.Proofs.YthaibekbefndlaaGreatDoor.C
open Go.RowKit

section
variable {P : Program} {ops : Array Oper} {Q : Exit → Act → World → Prop} {md : Region.Mode} {S : World → Prop}
def wpAnyE (P : Program) (md : Region.Mode) (ops : Array Oper) (Q : Exit → Act → World → Prop) (S : World → Prop) (L : Nat) : Nat → Array Bool → Act → World → Prop
 | 0, listed, a, w => Region.ready md ops listed = [] ∧ Q .normal a w
 | fuel + 1, listed, a, w =>
  (Region.ready md ops listed = [] → Q .normal a w) ∧
  ∀ i ∈ Region.ready md ops listed, wpOp P ops Q i (fun a' w' => (i ≠ L → S w') ∧ wpAnyE P md ops Q S L fuel (listed.setIfInBounds i true) a' w') a w
theorem wpAny_of_E {L : Nat} : ∀ (fuel : Nat) (listed : Array Bool) (a : Act) (w : World), wpAnyE P md ops Q S L fuel listed a w → wpAny P md ops Q fuel listed a w
 | 0, _, _, _, h => h
 | fuel + 1, _, _, _, h => ⟨h.1, fun i hi => wpOp_mono (fun a' w' h' => wpAny_of_E fuel _ a' w' h'.2) (h.2 i hi)⟩
def waitsFor (md : Region.Mode) (ops : Array Oper) (L i : Nat) : Bool := match ops[L]? with
 | some o => o.after.any fun e => Region.binds md e && (e.on == i)
 | none => false
theorem wpAnyE_first {L i : Nat} {oi : Oper} {v : Value} (hi : ops[i]? = some oi) (hsel : ∀ (j : Nat) (o : Oper) cs b, ops[j]? = some o → o.op ≠ .select cs b) (hL : waitsFor md ops L i = true)
  (hQ : ∀ c a w, Q (.panic c) (a.put oi.dst v) w → Q (.panic c) a w) :
  ∀ (fuel : Nat) (listed : Array Bool) (a : Act) (w : World),
   (∀ j oj, ops[j]? = some oj → j ≠ i → listed.getD j true = false → (∀ e ∈ oj.after, Region.binds md e = true → e.on ≠ i) → oi.apart ops oj = true) →
   i ∈ Region.ready md ops listed → YieldsIf P ops S oi v a → S w →
   wpAnyE P md ops Q S L fuel (listed.setIfInBounds i true) (a.put oi.dst v) w → wpAnyE P md ops Q S L (fuel + 1) listed a w := by
 intro fuel
 induction fuel with
 | zero =>
  intro listed a w _ hr hy hS H
  refine ⟨fun h => (by rw [h] at hr; cases hr), fun j hj => ?_⟩
  by_cases hji : j = i
  ·subst hji; exact hy.wpOp hi hS ⟨fun _ => hS, H⟩
  ·have := ready_mono hj hji
   rw [H.1] at this
   cases this
 | succ fuel ih =>
  intro listed a w hfree hr hy hS H
  refine ⟨fun h => (by rw [h] at hr; cases hr), fun j hj => ?_⟩
  by_cases hji : j = i
  ·subst hji; exact hy.wpOp hi hS ⟨fun _ => hS, H⟩
  ·have h1 := H.2 j (ready_mono hj hji)
   obtain ⟨hjun, oj, hoj, hall⟩ := mem_ready.1 hj
   have hnot : ∀ e ∈ oj.after, Region.binds md e = true → e.on ≠ i := fun e he hb heq => by
    have h1 := hall e he hb
    have h0 := (mem_ready.1 hr).1
    rw [heq] at h1
    rcases Nat.lt_or_ge i listed.size with h' | h'
    ·simp [h'] at h0 h1; rw [h0] at h1; cases h1
    ·simp [Array.getElem?_eq_none h'] at h1
   have hjL : j ≠ L := by
    rintro rfl
    unfold waitsFor at hL
    rw [hoj] at hL
    simp only [Array.any_eq_true] at hL
    obtain ⟨q, hq, he⟩ := hL
    simp only [Bool.and_eq_true, beq_iff_eq] at he
    exact hnot _ (Array.getElem_mem hq) he.1 he.2
   have h2 := wpOp_putIf hoj (hfree j oj hoj hji hjun hnot) (fun cs b => hsel i oi cs b hi) (fun cs b => hsel j oj cs b hoj) hQ hy h1
   have hfree' : ∀ k ok, ops[k]? = some ok → k ≠ i → (listed.setIfInBounds j true).getD k true = false →
     (∀ e ∈ ok.after, Region.binds md e = true → e.on ≠ i) → oi.apart ops ok = true := fun k ok hk hki hun hno => by
    refine hfree k ok hk hki ?_ hno
    by_cases hjk : j = k
    ·subst hjk; exact hjun
    ·rw [getD_set_ne true hjk] at hun; exact hun
   refine wpOp_mono (fun a' w' h3 => ⟨fun _ => h3.2.1 hjL, ih (listed.setIfInBounds j true) a' w' hfree' (ready_mono hr (Ne.symm hji)) h3.1 (h3.2.1 hjL) ?_⟩) h2
   rw [Array.setIfInBounds_comm _ _ hji]
   exact h3.2.2
theorem wpAnyE_take {L i : Nat} {oi : Oper} {v : Value} {fuel : Nat} {listed : Array Bool} {a : Act} {w : World} (hi : ops[i]? = some oi)
  (hs : Region.noSelect ops = true) (hf : Region.free md ops listed i = true) (hr : (Region.ready md ops listed).contains i = true) (hL : waitsFor md ops L i = true)
  (hQ : ∀ c a w, Q (.panic c) (a.put oi.dst v) w → Q (.panic c) a w) (hy : YieldsIf P ops S oi v a) (hS : S w)
  (h : wpAnyE P md ops Q S L fuel (listed.setIfInBounds i true) (a.put oi.dst v) w) : wpAnyE P md ops Q S L (fuel + 1) listed a w :=
 wpAnyE_first hi (Region.noSelect_spec hs) hL hQ fuel listed a w (Region.free_spec hi hf) (by simpa using hr) hy hS h
theorem wpAnyE_one {L i : Nat} {o : Oper} {fuel : Nat} {listed : Array Bool} {a : Act} {w : World} (hr : Region.ready md ops listed = [i]) (ho : ops[i]? = some o)
  (h : ∀ K : Act → World → Prop, Hid (∀ a' w', (i ≠ L → S w') → ((i ≠ L → S w') → wpAnyE P md ops Q S L fuel (listed.setIfInBounds i true) a' w') → K a' w') →
   if Region.wanted o (yielded ops a.tmps) = true then Oper.wp P o a w K Q else K (a.put o.dst undef) w) : wpAnyE P md ops Q S L (fuel + 1) listed a w := by
 refine ⟨fun h0 => (by rw [hr] at h0; cases h0), fun j hj => ?_⟩
 rw [hr, List.mem_singleton] at hj
 subst hj
 have h1 := h (fun a' w' => (j ≠ L → S w') ∧ wpAnyE P md ops Q S L fuel (listed.setIfInBounds j true) a' w') (Lib.hid fun a' w' hs hh => ⟨hs, hh hs⟩)
 unfold wpOp
 simp only [ho]
 split
 ·rename_i hw
  rw [if_pos hw] at h1
  exact .inl h1
 ·rename_i hw
  rw [if_neg hw] at h1
  exact h1
theorem wpAnyE_done {L : Nat} {listed : Array Bool} {a : Act} {w : World} (hr : Region.ready md ops listed = []) (h : Q .normal a w) : ∀ fuel, wpAnyE P md ops Q S L fuel listed a w
 | 0 => ⟨hr, h⟩
 | _ + 1 => ⟨fun _ => h, by rw [hr]; simp⟩
theorem wp_region_E {L id : Nat} {a : Act} {w : World} (hm : P.follows .mixedOrders = true)
  (h : wpAnyE P .any ops Q S L ops.size (Array.replicate ops.size false) a w.drew) : (Code.region id ops true).wp P Q a w :=
 wp_region_any hm (wpAny_of_E _ _ _ _ h)
end
end Go.Proofs.YthaibekbefndlaaGreatDoor.C

namespace Go.Proofs.YthaibekbefndlaaGreatDoor.C
open Go.RowKit

theorem g1 {α : Type} (xs : List α) (i : Nat) (v : α) : xs.toArray.setIfInBounds i v = (xs.set i v).toArray := List.setIfInBounds_toArray _ _ _
theorem g2 {α : Type} (x : α) (xs : List α) (v : α) : (x :: xs).set 0 v = v :: xs := rfl
theorem g3 {α : Type} (x : α) (xs : List α) (i : Nat) (v : α) : (x :: xs).set (i + 1) v = x :: xs.set i v := rfl
theorem g4 {α : Type} (xs : List α) (i : Nat) (h : i < xs.toArray.size) : xs.toArray[i] = xs[i]'(by simpa using h) := rfl
theorem g5 {α : Type} (x : α) (xs : List α) (i : Nat) (h : i + 1 < (x :: xs).length) : (x :: xs)[i + 1] = xs[i]'(by simpa using h) := rfl
theorem g6 {α : Type} (x : α) (xs : List α) (h : 0 < (x :: xs).length) : (x :: xs)[0] = x := rfl
section
variable {P : Program} {ops : Array Oper} {Q : Exit → Act → World → Prop} {md : Region.Mode} {S : World → Prop}
theorem wpHn (n : Nat) {oi : Oper} {v : Value} {fuel : Nat} {listed : Array Bool} {a : Act} {w : World} (hi : ops[n]? = some oi)
  (h : wpAnyH P md ops Q S fuel (listed.setIfInBounds n true) (a.put oi.dst v) w)
  (hb : (Region.noSelect ops && Region.free md ops listed n && (Region.ready md ops listed).contains n) = true := by kernel_rfl)
  (hQ : ∀ c a w, Q (.panic c) (a.put oi.dst v) w → Q (.panic c) a w := by exact fun _ _ _ h => h) (hw : Region.wanted oi (yielded ops a.tmps) = true := by rfl)
  (hy : ∀ x, S x → (execOp a.eval oi).run P x = .ok (.value v) x := by (intro x hx; (try dsimp only at hx); simp only [g4, g5, g6]; go_split_ands; go_simp; try with_reducible rfl)) (hS : S w := by assumption) : wpAnyH P md ops Q S (fuel + 1) listed a w := by
 simp only [Bool.and_eq_true] at hb
 exact wpAnyH_take hi hb.1.1 hb.1.2 hb.2 hQ (.inl ⟨hw, hy⟩) hS h
theorem wpHt (n : Nat) {oi : Oper} {fuel : Nat} {listed : Array Bool} {a : Act} {w : World} (hi : ops[n]? = some oi) (hw : Region.wanted oi (yielded ops a.tmps) = false)
  (h : wpAnyH P md ops Q S fuel (listed.setIfInBounds n true) (a.put oi.dst undef) w)
  (hb : (Region.noSelect ops && Region.free md ops listed n && (Region.ready md ops listed).contains n) = true := by kernel_rfl)
  (hQ : ∀ c a w, Q (.panic c) (a.put oi.dst undef) w → Q (.panic c) a w := by exact fun _ _ _ h => h) (hS : S w := by assumption) : wpAnyH P md ops Q S (fuel + 1) listed a w := by
 simp only [Bool.and_eq_true] at hb
 exact wpAnyH_take hi hb.1.1 hb.1.2 hb.2 hQ (.inr ⟨hw, rfl⟩) hS h
theorem wpEn (n : Nat) {L : Nat} {oi : Oper} {v : Value} {fuel : Nat} {listed : Array Bool} {a : Act} {w : World} (hi : ops[n]? = some oi)
  (h : wpAnyE P md ops Q S L fuel (listed.setIfInBounds n true) (a.put oi.dst v) w)
  (hb : (Region.noSelect ops && Region.free md ops listed n && (Region.ready md ops listed).contains n && waitsFor md ops L n) = true := by kernel_rfl)
  (hQ : ∀ c a w, Q (.panic c) (a.put oi.dst v) w → Q (.panic c) a w := by exact fun _ _ _ h => h) (hw : Region.wanted oi (yielded ops a.tmps) = true := by rfl)
  (hy : ∀ x, S x → (execOp a.eval oi).run P x = .ok (.value v) x := by (intro x hx; (try dsimp only at hx); simp only [g4, g5, g6]; go_split_ands; go_simp; try with_reducible rfl)) (hS : S w := by assumption) : wpAnyE P md ops Q S L (fuel + 1) listed a w := by
 simp only [Bool.and_eq_true] at hb
 exact wpAnyE_take hi hb.1.1.1 hb.1.1.2 hb.1.2 hb.2 hQ (.inl ⟨hw, hy⟩) hS h
theorem wpH {n : Nat} {r : List Nat} {oi : Oper} {v : Value} {fuel : Nat} {listed : Array Bool} {a : Act} {w : World} (_hn : nextF listed = n :: r) (hi : ops[n]? = some oi)
  (h : wpAnyH P md ops Q S fuel (listed.setIfInBounds n true) (a.put oi.dst v) w)
  (hb : (Region.noSelect ops && Region.free md ops listed n && (Region.ready md ops listed).contains n) = true := by kernel_rfl)
  (hQ : ∀ c a w, Q (.panic c) (a.put oi.dst v) w → Q (.panic c) a w := by exact fun _ _ _ h => h) (hw : Region.wanted oi (yielded ops a.tmps) = true := by rfl)
  (hy : ∀ x, S x → (execOp a.eval oi).run P x = .ok (.value v) x := by (intro x hx; (try dsimp only at hx); simp only [g4, g5, g6]; go_split_ands; go_simp; try with_reducible rfl)) (hS : S w := by assumption) : wpAnyH P md ops Q S (fuel + 1) listed a w :=
 wpHn n hi h hb hQ hw hy hS
theorem wpHs {n : Nat} {r : List Nat} {oi : Oper} {fuel : Nat} {listed : Array Bool} {a : Act} {w : World} (_hn : nextF listed = n :: r) (hi : ops[n]? = some oi) (hw : Region.wanted oi (yielded ops a.tmps) = false)
  (h : wpAnyH P md ops Q S fuel (listed.setIfInBounds n true) (a.put oi.dst undef) w)
  (hb : (Region.noSelect ops && Region.free md ops listed n && (Region.ready md ops listed).contains n) = true := by kernel_rfl)
  (hQ : ∀ c a w, Q (.panic c) (a.put oi.dst undef) w → Q (.panic c) a w := by exact fun _ _ _ h => h) (hS : S w := by assumption) : wpAnyH P md ops Q S (fuel + 1) listed a w :=
 wpHt n hi hw h hb hQ hS
theorem wpE {L n : Nat} {r : List Nat} {oi : Oper} {v : Value} {fuel : Nat} {listed : Array Bool} {a : Act} {w : World} (_hn : nextF listed = n :: r) (hi : ops[n]? = some oi)
  (h : wpAnyE P md ops Q S L fuel (listed.setIfInBounds n true) (a.put oi.dst v) w)
  (hb : (Region.noSelect ops && Region.free md ops listed n && (Region.ready md ops listed).contains n && waitsFor md ops L n) = true := by kernel_rfl)
  (hQ : ∀ c a w, Q (.panic c) (a.put oi.dst v) w → Q (.panic c) a w := by exact fun _ _ _ h => h) (hw : Region.wanted oi (yielded ops a.tmps) = true := by rfl)
  (hy : ∀ x, S x → (execOp a.eval oi).run P x = .ok (.value v) x := by (intro x hx; (try dsimp only at hx); simp only [g4, g5, g6]; go_split_ands; go_simp; try with_reducible rfl)) (hS : S w := by assumption) : wpAnyE P md ops Q S L (fuel + 1) listed a w :=
 wpEn n hi h hb hQ hw hy hS
end
end Go.Proofs.YthaibekbefndlaaGreatDoor.C

namespace Go.Proofs.YthaibekbefndlaaGreatDoor.C
open Go.RowKit

def markL (o : List Elm) (i : Nat) (z : Int) : List Elm := match o[i]? with
 | some e => o.set i { e with same := z }
 | none => o
theorem markL_len (o : List Elm) (i : Nat) (z : Int) : (markL o i z).length = o.length := by unfold markL; split <;> simp
def likeL (d : List (List UInt8 × List Int)) (o : List Elm) (own : Nat) (ts : List Tok) : Re (List Elm) := match takeK [3, 5] ts with
 | .error e => .error e
 | .ok (b, r) => match itemL d b with
  | .error e => .error e
  | .ok c => match placeL o c with
   | none => .error (31, b.at_)
   | some j => if j = own then .error (31, b.at_) else .ok (markL o own (((o[j]?).map Elm.same).getD 0), r)
end Go.Proofs.YthaibekbefndlaaGreatDoor.C

namespace Go.Proofs.YthaibekbefndlaaGreatDoor.C
open Go.RowKit

theorem info8 : (Tryz.prog.info? 5).map (fun i => (i.zero, i.size, i.bytes)) = some (some (.int .u8 0), 1, 1) := by kernel_rfl

set_option maxHeartbeats 1000000 in
theorem appendCell_any (w : World) (B : Nat) (v : Value) (zs : List Int) (c : Int) (hr : rightB c = true) (hB : B ≤ w.heap.size) (hown : w.ownsRow B 5 1 v zs.length (zs.map (Value.int .u8))) (hlen : zs.length + 4 ≤ 140737488355328) :
  Calls Tryz.prog 142 #[v, .int .i32 c] w fun e w' => ∃ v', e = .returned v' ∧ w'.ownsRow B 5 1 v' (zs ++ encC c).length ((zs ++ encC c).map (Value.int .u8)) ∧ Below B w w' := by
 obtain ⟨i0, hi, hz0, hz1, hz2⟩ := info_parts info8
 have hb : -256 ≤ c ∧ c ≤ 1114111 := by unfold rightB at hr; simp at hr; omega
 have HO := Lib.hid hown
 clear hown hr
 by_cases hc : c < 0
 ·have he : encC c = [-1 - c] := by unfold encC; rw [if_pos hc]
  have HE := Lib.hid he
  clear he
  go_enter Tryz.func142, Tryz.ntmps142
  go_wp2_with fail
  refine (byte_yes c w hb.1 hc).mono ?_
  rintro e w' ⟨rfl, rfl⟩
  go_wp2_with (at_builtin; (refine wpList_append_own _ rfl _ _ 38 rfl B 5 i0 (.int .u8 0) 1 1 Tryz.underlying38 hi hz0 hz1 hz2 rfl (by decide) _ _ _ rfl (HO.out.alloc _) _ 1 1 [.int .u8 (-1 - c)] rfl rfl (cell_one_new _ _ _) (by intro u hu; simp at hu; subst hu; rfl) (by unfold maxLen; omega) (by omega) (by simp; omega) ?_); intro v' w3 hown' hgrow _; have HO3 := Lib.hid hown'; have HG3 := Lib.hid hgrow; clear hown' hgrow)
  go_ret
  refine ⟨_, rfl, ?_, (((Below.refl B w).alloc hB _).grown HG3.out (by simp; omega) (fun k hk => (HO.out.lt k hk).1))⟩
  rw [HE.out]
  simpa using HO3.out
 ·have he : encC c = Lib.encodeRuneZ c := by unfold encC; rw [if_neg hc]
  have HE := Lib.hid he
  clear he
  go_enter Tryz.func142, Tryz.ntmps142
  go_wp2_with fail
  refine (byte_no c w (by omega)).mono ?_
  rintro e w' ⟨rfl, rfl⟩
  go_wp2_with fail
  refine (Tryz.utf8_AppendRune_plain B v zs.length (zs.map (Value.int .u8)) c (by omega) (by omega) w HO.out hlen hB).mono ?_
  rintro e w1 ⟨v', rfl, hown1, o, hg⟩
  have HO1 := Lib.hid hown1
  have HG := Lib.hid hg
  clear hown1 hg
  go_wp2
  go_ret
  refine ⟨_, rfl, ?_, (((Below.refl B w).alloc hB _).grown HG.out (by simp; omega) (fun k hk => (HO.out.lt k hk).1))⟩
  rw [HE.out]
  have := HO1.out
  unfold Lib.runeCells at this
  simpa using this

def EncTold (xs : List Int) (w : World) (e : Ending) (w' : World) : Prop :=
 Below w.heap.size w w' ∧ ((xs.all rightB = true ∧ ∃ v, e = .returned (.tuple #[v, .int .u16 0]) ∧ w'.ownsRow w.heap.size 5 1 v (encL xs).length ((encL xs).map (Value.int .u8))) ∨
  (xs.all rightB = false ∧ e = .returned (.tuple #[.slice none 0 0, .int .u16 10])))
theorem take_right {xs : List Int} {k : Nat} {c : Int} (h : (xs.take k).all rightB = true) (hc : xs[k]? = some c) (hr : rightB c = true) : (xs.take (k + 1)).all rightB = true := by
 rw [take_snoc hc, List.all_append, h]
 simp [hr]
theorem not_right {xs : List Int} {k : Nat} {c : Int} (hc : xs[k]? = some c) (hr : rightB c = false) : xs.all rightB = false := by
 rw [List.all_eq_false]
 exact ⟨c, List.mem_of_getElem? hc, by simp [hr]⟩

set_option maxHeartbeats 2000000 in
theorem encode_told (w : World) (B : Nat) (A : Option Addr) (n c : Nat) (xs : List Int) (hx : RI .i32 w B A n xs) (hB : B ≤ w.heap.size) (hn : n ≤ 1073741824) :
  Calls Tryz.prog 90 #[.slice A n c] w (EncTold xs w) := by
 obtain ⟨i0, hi, hz0, hz1, hz2⟩ := info_parts info8
 have HX := Lib.hid hx
 clear hx
 go_enter Tryz.func90, Tryz.ntmps90
 go_wp2_with (at_make; (refine wpList_make_own _ rfl _ _ 38 rfl w.heap.size 5 i0 (.int .u8 0) 1 Tryz.underlying38 hi hz0 hz1 .i64 .i64 _ n rfl rfl (by omega) (by rw [hz2]; omega) (by unfold maxLen; omega) (by omega) ?_); intro w2 hown hgrow; have hb2 : Below w.heap.size w w2 := (Below.refl _ _).grown hgrow (by omega) (fun _ h => by cases h); clear hgrow; have HO := Lib.hid hown; clear hown)
 go_loopw [4, 12] (fun v i wr => ∃ k : Nat, k ≤ n ∧ i = .int .i64 k ∧ Hid ((xs.take k).all rightB = true) ∧ Hid (wr.ownsRow w.heap.size 5 1 v (encL (xs.take k)).length ((encL (xs.take k)).map (Value.int .u8))) ∧ Below w.heap.size w wr) (fun _ i _ => n - (intOf i).toNat)
 case atStart => exact ⟨0, Nat.zero_le _, rfl, rfl, HO.out, hb2⟩
 case round =>
  obtain ⟨k, hk, rfl, HA, HW, hbr⟩ := hrel
  have hsz := hbr.size
  by_cases hlt : k < n
  ·obtain ⟨ad, u, rfl, hbl, hu, hcell⟩ := HX.out.at_ hlt
   have hcr : wr.cell? (ad.add k) = some (.int .i32 u) := (hbr.cell (p := ad.add k) (by rw [block_of_add]; omega)).trans hcell
   have HU := Lib.hid hu
   clear hu hcell
   cases hru : rightB u with
   | true =>
    have HRU := Lib.hid hru
    clear hru
    have hle := (encL_len (xs.take k)).2
    have hlk : (xs.take k).length ≤ k := List.length_take_le _ _
    go_wp2_with fail
    refine (right_is u wr true HRU.out).mono ?_
    rintro e w' ⟨rfl, rfl⟩
    go_wp2_with fail
    refine (appendCell_any wr w.heap.size _ (encL (xs.take k)) u HRU.out hsz HW.out (by omega)).mono ?_
    rintro e w1 ⟨v1, rfl, hown1, hb1⟩
    have hown2 : Hid (w1.ownsRow w.heap.size 5 1 v1 (encL (xs.take (k + 1))).length ((encL (xs.take (k + 1))).map (Value.int .u8))) := by
     rw [take_snoc HU.out, encL_snoc]
     exact hown1
    clear hown1
    have hb3 := hbr.trans hb1
    go_wp2
    go_roundw
    case rel => exact ⟨k + 1, by omega, by go_num, take_right HA.out HU.out HRU.out, hown2, hb3⟩
    case measure => simp [intOf]; omega
   | false =>
    have HRU := Lib.hid hru
    clear hru
    go_wp2_with fail
    refine (right_is u wr false HRU.out).mono ?_
    rintro e w' ⟨rfl, rfl⟩
    go_wp2
    go_ret2
    exact ⟨hbr, .inr ⟨not_right HU.out HRU.out, rfl⟩⟩
  ·have hkn : xs.take k = xs := List.take_of_length_le (by rw [HX.out.len]; omega)
   have HK := Lib.hid hkn
   clear hkn
   go_wp2
   go_ret2
   refine ⟨hbr, .inl ⟨?_, _, rfl, ?_⟩⟩
   ·have := HA.out
    rwa [HK.out] at this
   ·have := HW.out
    rwa [HK.out] at this
theorem encode_yes (w : World) (B : Nat) (A : Option Addr) (n c : Nat) (xs : List Int) (hx : RI .i32 w B A n xs) (hB : B ≤ w.heap.size) (hn : n ≤ 1073741824) (ha : xs.all rightB = true) :
  Calls Tryz.prog 90 #[.slice A n c] w fun e w' => ∃ v, e = .returned (.tuple #[v, .int .u16 0]) ∧ w'.ownsRow w.heap.size 5 1 v (encL xs).length ((encL xs).map (Value.int .u8)) ∧ Below w.heap.size w w' := by
 refine (encode_told w B A n c xs hx hB hn).mono ?_
 rintro e w' ⟨hb, ⟨_, v, rfl, ho⟩ | ⟨h, _⟩⟩
 ·exact ⟨v, rfl, ho, hb⟩
 ·rw [ha] at h; cases h
theorem encode_no (w : World) (B : Nat) (A : Option Addr) (n c : Nat) (xs : List Int) (hx : RI .i32 w B A n xs) (hB : B ≤ w.heap.size) (hn : n ≤ 1073741824) (ha : xs.all rightB = false) :
  Calls Tryz.prog 90 #[.slice A n c] w fun e w' => e = .returned (.tuple #[.slice none 0 0, .int .u16 10]) ∧ Below w.heap.size w w' := by
 refine (encode_told w B A n c xs hx hB hn).mono ?_
 rintro e w' ⟨hb, ⟨h, _⟩ | ⟨_, rfl⟩⟩
 ·rw [ha] at h; cases h
 ·exact ⟨rfl, hb⟩

end Go.Proofs.YthaibekbefndlaaGreatDoor.C
