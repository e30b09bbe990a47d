/-
  Joined: MLxY, MLxH, MLxK, LcD. Each with what its own head says.
-/
import Derived.MapKept
import Derived.Laws.NewBlocks
import Derived.WideMake
import Derived.Laws.NewDeep
import Derived.Test.YthaibekbefndlaaGreatDoorH02

namespace Go.Proofs.YthaibekbefndlaaGreatDoor.C
open Go.RowKit

theorem assert_long (W : World) : (Instr.typeAssert (.iface 127 (.agg #[])) 20 127 true).run Tryz.prog W = .ok (.tuple #[.agg #[], .bool true]) W := by kernel_rfl
theorem assert_not (k : Int) (W : World) : (Instr.typeAssert (.iface 128 (.int .i64 k)) 20 127 true).run Tryz.prog W = .ok (.tuple #[.agg #[], .bool false]) W := by kernel_rfl
theorem assert_bad (k : Int) (W : World) : (Instr.typeAssert (.iface 128 (.int .i64 k)) 20 128 true).run Tryz.prog W = .ok (.tuple #[.int .i64 k, .bool true]) W := by kernel_rfl
set_option maxRecDepth 100000 in
set_option maxHeartbeats 1000000 in
theorem whatIs_long (w : World) (R : Nat) :
  Calls Tryz.prog 34 #[.pointer (some ⟨R, 0, none⟩), .iface 127 (.agg #[])] w fun e w' => e = .returned (.tuple #[.int .u16 3, .int .i64 0]) ∧ Below w.heap.size w w' := by
 have q0 := assert_long
 go_enter Tryz.func34, Tryz.ntmps34
 go_wp2
 go_ret2
 exact ⟨rfl, (Below.refl _ _).alloc (Nat.le_refl _) _⟩
set_option maxRecDepth 100000 in
set_option maxHeartbeats 1000000 in
theorem whatIs_bad (w : World) (R : Nat) (k : Int) :
  Calls Tryz.prog 34 #[.pointer (some ⟨R, 0, none⟩), .iface 128 (.int .i64 k)] w fun e w' => e = .returned (.tuple #[.int .u16 20, .int .i64 k]) ∧ Below w.heap.size w w' := by
 have q0 := assert_not k
 have q1 := assert_bad k
 go_enter Tryz.func34, Tryz.ntmps34
 go_wp2
 go_ret2
 exact ⟨rfl, Below.refl _ _⟩

def Caught (w : World) (E A : Nat) (er : Nat) (k : Int) (w' : World) : Prop := ∃ w1, Below w.heap.size w w1 ∧ w' = (w1.setCell ⟨E, 0, none⟩ (.int .u16 er)).setCell ⟨A, 0, none⟩ (.int .i64 k)
def ErrAt (w : World) (E A : Nat) : Prop := w.heap[E]? = some (.cells #[.int .u16 0] 28 (0, 0)) ∧ w.heap[A]? = some (.cells #[.int .i64 0] 3 (0, 0)) ∧ E ≠ A

theorem catch_of (w : World) (R E A : Nat) (t : TypeId) (pv : Value) (older : List PanicEntry) (er : Nat) (k : Int) (hE : ErrAt w E A)
  (hw : ∀ W, Calls Tryz.prog 34 #[.pointer (some ⟨R, 0, none⟩), .iface t pv] W fun e w' => e = .returned (.tuple #[.int .u16 er, .int .i64 k]) ∧ Below W.heap.size W w') :
  CallsD Tryz.prog 33 #[.pointer (some ⟨R, 0, none⟩), .pointer (some ⟨E, 0, none⟩), .pointer (some ⟨A, 0, none⟩)] (.panicking ({ v := .iface t pv, recovered := false } :: older)) w fun e u' w' =>
   e = .returned (.tuple #[]) ∧ u' = .panicking ({ v := .iface t pv, recovered := true } :: older) ∧ Caught w E A er k w' := by
 obtain ⟨h1, h2, hne⟩ := hE
 have hl1 := (Array.getElem?_eq_some_iff.1 h1).1
 have hl2 := (Array.getElem?_eq_some_iff.1 h2).1
 refine callsD_of_wpS Tryz.func33 rfl fun c₀ cs hu => ?_
 apply wpS_seq
 apply wpS_region
 simp [wpOpsS, go_sem, recoverD, hu, Tryz.ntmps33, Exit.thenS]
 simp only [Array.replicate_succ, Array.replicate_zero, List.push_toArray, List.setIfInBounds_toArray, List.set_cons_zero, List.set_cons_succ, List.append_toArray, List.nil_append, List.cons_append]
 refine wpS_of_wp ?_
 go_wp2_with fail
 refine (hw _).mono ?_
 rintro e w1 ⟨rfl, hb1⟩
 have k1 := (hb1.block E hl1).trans h1
 have k2 := (hb1.block A hl2).trans h2
 have c1 : w1.cell? ⟨E, 0, none⟩ = some (.int .u16 0) := by simp [World.cell?, k1]
 have c2 : w1.cell? ⟨A, 0, none⟩ = some (.int .i64 0) := by simp [World.cell?, k2]
 have f1 : w1.frozen? ⟨E, 0, none⟩ = false := by simp [World.frozen?, k1]
 have f2 : w1.frozen? ⟨A, 0, none⟩ = false := by simp [World.frozen?, k2]
 clear k1 k2 h1 h2
 go_wp2
 have hC : Caught w E A er k ((w1.setCell ⟨E, 0, none⟩ (.int .u16 er)).setCell ⟨A, 0, none⟩ (.int .i64 k)) := ⟨w1, hb1, rfl⟩
 simp [bodyPostS, results, Tryz.results33, hC]

theorem catch_idle (w : World) (R E A : Nat) :
  CallsD Tryz.prog 33 #[.pointer (some ⟨R, 0, none⟩), .pointer (some ⟨E, 0, none⟩), .pointer (some ⟨A, 0, none⟩)] .returning w fun e u' w' => e = .returned (.tuple #[]) ∧ u' = .returning ∧ w' = w := by
 refine callsD_of_wpS Tryz.func33 rfl fun c₀ cs hu => ?_
 apply wpS_seq
 apply wpS_region
 simp [wpOpsS, go_sem, recoverD, hu, Tryz.ntmps33, Exit.thenS]
 simp only [Array.replicate_succ, Array.replicate_zero, List.push_toArray, List.setIfInBounds_toArray, List.set_cons_zero, List.set_cons_succ, List.append_toArray, List.nil_append, List.cons_append]
 refine wpS_of_wp ?_
 go_wp2
 cases c₀
 simp_all [bodyPostS, results, Tryz.results33]
end Go.Proofs.YthaibekbefndlaaGreatDoor.C

namespace Go.Proofs.YthaibekbefndlaaGreatDoor.C
open Go.RowKit


set_option maxHeartbeats 1000000 in
theorem tz64_16 (w : World) (h : w.cell? ⟨10, 15, none⟩ = some (.int .u8 4)) : Calls Tryz.prog 260 #[.int .u64 16] w fun e w' => e = .returned (.int .i64 4) ∧ w = w' := by
 have key : IntKind.u64.wrap (bits BinOp.and IntKind.u64 16 (IntKind.u64.wrap (-16)) * 285870213051353865) / 288230376151711744 = 15 := by decide +kernel
 go_enter Tryz.func260, Tryz.ntmps260
 go_wp2_with (simp only [key])
 all_goals go_ret
 all_goals exact ⟨rfl, rfl⟩

set_option maxHeartbeats 1000000 in
theorem isPow_16 (w : World) : Calls Tryz.prog 249 #[.int .i64 16] w fun e w' => e = .returned (.bool true) ∧ w = w' := by
 go_enter Tryz.func249, Tryz.ntmps249
 go_wp2
 all_goals go_ret
 all_goals exact ⟨rfl, rfl⟩

set_option maxHeartbeats 1000000 in
theorem tz_16 (w : World) (h : w.cell? ⟨10, 15, none⟩ = some (.int .u8 4)) : Calls Tryz.prog 250 #[.int .u64 16] w fun e w' => e = .returned (.int .i64 4) ∧ w = w' := by
 go_enter Tryz.func250, Tryz.ntmps250
 go_wp2_with fail
 refine (tz64_16 w h).mono ?_
 rintro e w' ⟨rfl, rfl⟩
 go_wp2
 all_goals go_ret
 all_goals exact ⟨rfl, rfl⟩

def zeros65 : Array Value := (Lib.byteCells (List.replicate 65 0)).toArray
theorem zeroArray (w : World) : (zeroValue 260).run Tryz.prog w = .ok (.agg zeros65) w := by kernel_rfl

def Digits (w : World) (g k : Nat) (d : List UInt8) : Prop := ∃ z : List UInt8, z.length = k ∧ w.heap[g]? = some (.cells (Lib.byteCells (z ++ d)).toArray 260 (0, 0))

theorem digits_start (w : World) : Digits (w.alloc (.cells zeros65 260)) w.heap.size 65 [] :=
 ⟨List.replicate 65 0, by simp, by rw [List.append_nil]; exact heap_alloc_new w _⟩
theorem digits_cell {w : World} {g k : Nat} {d : List UInt8} (h : Digits w g (k + 1) d) : ∃ x, w.cell? ⟨g, k, none⟩ = some (.int .u8 x) := by
 obtain ⟨z, hz, hg⟩ := h
 have hk : k < (z ++ d).length := by simp; omega
 refine ⟨((z ++ d)[k]).toNat, ?_⟩
 rw [cell_of_row w g k _ _ _ hg]
 simp only [Lib.byteCells, List.getElem?_toArray, List.getElem?_map, List.getElem?_eq_getElem hk, Option.map_some]
theorem digits_frozen {w : World} {g k : Nat} {d : List UInt8} (h : Digits w g (k + 1) d) : w.frozen? ⟨g, k, none⟩ = false := by
 obtain ⟨z, hz, hg⟩ := h
 simp [World.frozen?, hg]
theorem digits_set {w : World} {g k : Nat} {d : List UInt8} (h : Digits w g (k + 1) d) (c : UInt8) : Digits (w.setCell ⟨g, k, none⟩ (.int .u8 c.toNat)) g k (c :: d) := by
 obtain ⟨z, hz, hg⟩ := h
 refine ⟨z.take k, by simp; omega, ?_⟩
 simp only [World.setCell, Array.getElem?_modify, hg]
 simp only [if_true, Option.map_some, Option.some.injEq, Obj.cells.injEq, and_true]
 simp only [Lib.byteCells, List.setIfInBounds_toArray]
 congr 1
 rw [← List.map_set (f := fun b : UInt8 => Value.int .u8 b.toNat)]
 congr 1
 obtain ⟨z', y, rfl⟩ : ∃ z' y, z = z' ++ [y] := ⟨z.dropLast, z.getLast (by intro e; subst e; simp at hz), (List.dropLast_concat_getLast _).symm⟩
 simp at hz
 subst hz
 simp
theorem digits_cells {w : World} {g k : Nat} {d : List UInt8} (h : Digits w g k d) : ∀ j u, (Lib.byteCells d)[j]? = some u → w.cell? ((⟨g, k, none⟩ : Addr).add j) = some u := by
 obtain ⟨z, hz, hg⟩ := h
 intro j u hu
 have e : (⟨g, k, none⟩ : Addr).add j = ⟨g, k + j, none⟩ := by
  unfold Addr.add; split
  ·subst_vars; rfl
  ·rfl
 rw [e, cell_of_row w g (k + j) _ _ _ hg, ← hu]
 simp only [Lib.byteCells, List.map_append, List.getElem?_toArray]
 rw [List.getElem?_append_right (by simp; omega)]
 simp [hz]

theorem dig_at : ∀ (x : Nat) (h : x < (ByteArray.mk #[48, 49, 50, 51, 52, 53, 54, 55, 56, 57, 97, 98, 99, 100, 101, 102, 103, 104, 105, 106, 107, 108, 109, 110, 111, 112, 113, 114, 115, 116, 117, 118, 119, 120, 121, 122]).size), x < 16 → (ByteArray.mk #[48, 49, 50, 51, 52, 53, 54, 55, 56, 57, 97, 98, 99, 100, 101, 102, 103, 104, 105, 106, 107, 108, 109, 110, 111, 112, 113, 114, 115, 116, 117, 118, 119, 120, 121, 122])[x]'h = dig x
 | 0, _, _ => rfl
 | 1, _, _ => rfl
 | 2, _, _ => rfl
 | 3, _, _ => rfl
 | 4, _, _ => rfl
 | 5, _, _ => rfl
 | 6, _, _ => rfl
 | 7, _, _ => rfl
 | 8, _, _ => rfl
 | 9, _, _ => rfl
 | 10, _, _ => rfl
 | 11, _, _ => rfl
 | 12, _, _ => rfl
 | 13, _, _ => rfl
 | 14, _, _ => rfl
 | 15, _, _ => rfl
 | (x + 16), _, h => absurd h (by omega)
theorem and15 (u : Nat) (h : u < 18446744073709551616) : bits BinOp.and IntKind.u64 (u : Int) 15 = ((u % 16 : Nat) : Int) := by
 have := bits_and_u64_nat u 15 h (by omega)
 rw [show ((15 : Nat) : Int) = 15 from rfl] at this
 rw [this]
 have e : u &&& 15 = u % 16 := Nat.and_two_pow_sub_one_eq_mod u 4
 rw [e]
theorem arrayLen65 : Tryz.prog.arrayLen 260 = 65 := by kernel_rfl
theorem elem65 : Tryz.prog.elem 260 = 5 := by kernel_rfl
theorem under65 : Tryz.prog.underlying 260 = some (.array (Tryz.prog.arrayLen 260) (Tryz.prog.elem 260)) := by kernel_rfl
theorem sizeOf5 (W : World) : (sizeOf 5).run Tryz.prog W = .ok 1 W := by kernel_rfl
theorem slice65 (g k : Nat) (hk : k < 65) (W : World) : (Instr.sliceAt 260 (.pointer (some ⟨g, 0, none⟩)) (some (.int .i64 k)) none none).run Tryz.prog W = .ok (.slice (some ⟨g, k, none⟩) (65 - k) (65 - k)) W := by
 rw [run_sliceAt_array_l W 260 ⟨g, 0, none⟩ under65 .i64 k (by omega) (by rw [arrayLen65]; omega), elem65, sizeOf5, arrayLen65]
 simp only [Result.andThen, slicedAt, Int.toNat_natCast]
 rw [if_neg (by omega)]
 congr 3
 unfold Addr.add
 split <;> simp_all
end Go.Proofs.YthaibekbefndlaaGreatDoor.C

namespace Go.Proofs.YthaibekbefndlaaGreatDoor.C
open Go.RowKit

set_option maxHeartbeats 1000000 in
theorem formatStr_16 (w : World) (u : Nat) (hu : u < 16 ^ 16) (hT : w.cell? ⟨10, 15, none⟩ = some (.int .u8 4)) :
  Calls Tryz.prog 233 #[.slice none 0 0, .int .u64 u, .int .i64 16, .bool false, .bool false] w fun e w' => e = .returned (.tuple #[.slice none 0 0, .string (str (hexL u))]) ∧ Below w.heap.size w w' := by
 have HU := Lib.hid hu
 clear hu
 have hz := zeroArray
 have hT1 : ∀ o, (w.alloc o).cell? ⟨10, 15, none⟩ = some (.int .u8 4) := fun o => by rw [World.cell?_alloc_lt w o _ (World.block_lt_of_cell? w _ hT)]; exact hT
 go_enter Tryz.func233, Tryz.ntmps233
 go_wp2_with fail
 refine (isPow_16 _).mono ?_
 rintro e w' ⟨rfl, rfl⟩
 go_wp2_with fail
 refine (tz_16 _ (hT1 _)).mono ?_
 rintro e w' ⟨rfl, rfl⟩
 go_wp2_with fail
 go_loopw [1, 13] (fun uv iv wr => ∃ (uu k : Nat) (d : List UInt8), uv = .int .u64 uu ∧ iv = .int .i64 k ∧ uu < 18446744073709551616 ∧ HexSt u uu d k ∧ Digits wr w.heap.size k d ∧ Below w.heap.size w wr) (fun uv _ _ => (intOf uv).toNat)
 case atStart => exact ⟨u, 65, [], rfl, rfl, by have := HU.out; simpa using this, hexSt_zero HU.out, digits_start w, (Below.refl _ _).alloc (Nat.le_refl _) _⟩
 case round =>
  obtain ⟨uu, k, d, rfl, rfl, huu, hst, hdg, hb⟩ := hrel
  obtain ⟨hk1, hk2⟩ := hexSt_left hst
  obtain ⟨k, rfl⟩ : ∃ k', k = k' + 1 := ⟨k - 1, by omega⟩
  obtain ⟨x, hcell⟩ := digits_cell hdg
  have hfz := digits_frozen hdg
  have HS := Lib.hid hst
  have HD := Lib.hid hdg
  clear hst hdg
  by_cases hlt : uu < 16
  ·have hend := hexSt_end HS.out hlt
   have hlen : (dig uu :: d).length = 65 - k := by have := HS.out.2.1; simp; omega
   have hdg2 : ∀ h, Digits (wr.setCell ⟨w.heap.size, k, none⟩ (.int .u8 ((ByteArray.mk #[48, 49, 50, 51, 52, 53, 54, 55, 56, 57, 97, 98, 99, 100, 101, 102, 103, 104, 105, 106, 107, 108, 109, 110, 111, 112, 113, 114, 115, 116, 117, 118, 119, 120, 121, 122])[uu]'h).toNat)) w.heap.size k (dig uu :: d) := fun h => by rw [dig_at _ _ hlt]; exact digits_set HD.out _
   have HE := Lib.hid hend
   have HL := Lib.hid hlen
   have HD2 := Lib.hid hdg2
   clear hend hlen hdg2
   have hsl := slice65 w.heap.size k (by omega)
   have hcv : ∀ h, (convert 38 9 (.slice (some ⟨w.heap.size, k, none⟩) (65 - k) (65 - k))).run Tryz.prog (wr.setCell ⟨w.heap.size, k, none⟩ (.int .u8 ((ByteArray.mk #[48, 49, 50, 51, 52, 53, 54, 55, 56, 57, 97, 98, 99, 100, 101, 102, 103, 104, 105, 106, 107, 108, 109, 110, 111, 112, 113, 114, 115, 116, 117, 118, 119, 120, 121, 122])[uu]'h).toNat)) = .ok (.string (str (dig uu :: d))) (wr.setCell ⟨w.heap.size, k, none⟩ (.int .u8 ((ByteArray.mk #[48, 49, 50, 51, 52, 53, 54, 55, 56, 57, 97, 98, 99, 100, 101, 102, 103, 104, 105, 106, 107, 108, 109, 110, 111, 112, 113, 114, 115, 116, 117, 118, 119, 120, 121, 122])[uu]'h).toNat)) := fun h => by
    have := run_convert_bytes_back (P := Tryz.prog) (wr.setCell ⟨w.heap.size, k, none⟩ (.int .u8 ((ByteArray.mk #[48, 49, 50, 51, 52, 53, 54, 55, 56, 57, 97, 98, 99, 100, 101, 102, 103, 104, 105, 106, 107, 108, 109, 110, 111, 112, 113, 114, 115, 116, 117, 118, 119, 120, 121, 122])[uu]'h).toNat)) 38 9 5 ⟨w.heap.size, k, none⟩ (65 - k) (dig uu :: d) Tryz.underlying38 Tryz.underlying5 Tryz.underlying9 (fun j hj => digits_cells (HD2.out h) j _ (by unfold Lib.byteCells; rw [List.getElem?_map, List.getElem?_eq_getElem hj]; rfl))
    rwa [HL.out] at this
   go_wp2
   go_ret2
   exact ⟨by rw [HE.out]; rfl, hb.setCell (Nat.le_refl _) _⟩
  ·have hand := and15 uu huu
   have hm : uu % 16 < 16 := Nat.mod_lt _ (by omega)
   go_wp2
   go_roundw
   case rel => exact ⟨uu / 16, k, dig (uu % 16) :: d, by go_num, rfl, by omega, hexSt_step HS.out hlt, by rw [dig_at _ _ hm]; exact digits_set HD.out _, hb.setCell (Nat.le_refl _) _⟩
   case measure => simp [intOf]; omega


set_option maxHeartbeats 1000000 in
theorem formatInt0_16 (w : World) (u : Nat) (hu : u < 1152921504606846976) (hT : w.cell? ⟨10, 15, none⟩ = some (.int .u8 4)) :
  Calls Tryz.prog 242 #[.int .i64 u, .int .i64 16] w fun e w' => e = .returned (.string (str (hexL u))) ∧ Below w.heap.size w w' := by
 have hf := formatStr_16 w u (Nat.lt_of_lt_of_le hu (by decide)) hT
 go_enter Tryz.func242, Tryz.ntmps242
 go_wp2_with fail
 refine hf.mono ?_
 rintro e w1 ⟨rfl, hb⟩
 go_wp2
 go_ret
 exact ⟨rfl, hb⟩
set_option maxHeartbeats 1000000 in
theorem formatInt_16 (w : World) (u : Nat) (hu : u < 1152921504606846976) (hT : w.cell? ⟨10, 15, none⟩ = some (.int .u8 4)) :
  Calls Tryz.prog 223 #[.int .i64 u, .int .i64 16] w fun e w' => e = .returned (.string (str (hexL u))) ∧ Below w.heap.size w w' := by
 have hf := formatInt0_16 w u hu hT
 go_enter Tryz.func223, Tryz.ntmps223
 go_wp2_with fail
 refine hf.mono ?_
 rintro e w1 ⟨rfl, hb⟩
 go_wp2
 go_ret
 exact ⟨rfl, hb⟩

theorem repeat_one (c : UInt8) : ∀ n, Lib.repeatL [c] n = List.replicate n c
 | 0 => rfl
 | n + 1 => by
  show [c] ++ Lib.repeatL [c] n = _
  rw [repeat_one c n]
  rfl
theorem dig_ascii (n : Nat) (h : n < 16) : (dig n).toNat < 128 := by
 have : ∀ n : Nat, n < 16 → (dig n).toNat < 128 := by decide +kernel
 exact this n h
theorem hexL_ascii : ∀ (m n : Nat), n < m → ∀ b ∈ hexL n, b.toNat < 128
 | 0, n, h => by omega
 | m + 1, n, h => by
  intro b hb
  by_cases h1 : n < 16
  ·rw [hexL_small h1] at hb
   simp at hb
   subst hb
   exact dig_ascii n h1
  ·rw [hexL_big h1] at hb
   simp at hb
   rcases hb with hb | rfl
   ·exact hexL_ascii m (n / 16) (by omega) b hb
   ·exact dig_ascii _ (Nat.mod_lt _ (by omega))
theorem str_append (a b : List UInt8) : str a ++ str b = str (a ++ b) := by
 rw [← str_of (str a ++ str b)]
 simp [str]
theorem upper_any (l : List UInt8) (h : ∀ b ∈ l, b.toNat < 128) (hl : l.length ≤ 1000) (w : World) :
  Calls Tryz.prog 222 #[.string (str l)] w fun e w' => e = .returned (.string (str (l.map Lib.upperB))) ∧ Below w.heap.size w w' := by
 have := Tryz.strings_ToUpper_ascii (str l) w (by rw [str_size]; omega) (fun j b hb => h b (List.mem_of_getElem? hb))
 exact this
theorem repeat_any (n : Nat) (hn : n ≤ 1000) (w : World) :
  Calls Tryz.prog 224 #[.string ⟨#[48]⟩, .int .i64 n] w fun e w' => e = .returned (.string (str (List.replicate n 48))) ∧ Below w.heap.size w w' := by
 have := Tryz.strings_Repeat ⟨#[48]⟩ n w (by omega) (by show 1 * n ≤ _; omega)
 rw [show (ByteArray.mk #[48]).data.toList = [48] from rfl, repeat_one] at this
 exact this
set_option maxRecDepth 100000 in
set_option maxHeartbeats 1000000 in
theorem digitsOf_any (n : Nat) (hn : n < 1048576 * 1048576) (w : World) (hG : Gl w) :
  Calls Tryz.prog 200 #[.int .i64 n] w fun e w' => e = .returned (.string (str (greatL n))) ∧ Below w.heap.size w w' := by
 have hf := formatInt_16 w n (by omega) hG.2.1
 have hlen := hexL_len 9 n (by omega)
 have hup := fun W => upper_any (hexL n) (hexL_ascii (n + 1) n (by omega)) (by omega) W
 have hrep := fun W => repeat_any (4 - (hexL n).length) (by omega) W
 have hcat : (str (List.replicate (4 - (hexL n).length) 48)).size + (hexL n).length ≤ 9223372036854775807 := by rw [str_size, List.length_replicate]; omega
 have hz := str_size ((hexL n).map Lib.upperB)
 rw [List.length_map] at hz
 have he : str (List.replicate (4 - (hexL n).length) 48) ++ str ((hexL n).map Lib.upperB) = str (greatL n) := str_append _ _
 obtain ⟨m, hm⟩ : ∃ m, (hexL n).length = m := ⟨_, rfl⟩
 rw [hm] at hz hrep hlen he hcat
 generalize str (hexL n) = X at *
 generalize str ((hexL n).map Lib.upperB) = Y at *
 generalize str (List.replicate (4 - m) 48) = Z at *
 have HE := Lib.hid he
 have n0 : (0 : Int) ≤ (n : Int) := by omega
 clear hm he
 by_cases h4 : m ≤ 4
 ·obtain ⟨q, hq⟩ : ∃ q : Nat, 4 - m = q := ⟨_, rfl⟩
  rw [hq] at hrep
  have hq1 : (4 : Int) - (m : Int) = (q : Int) := by omega
  have q0 : (0 : Int) ≤ (q : Int) := by omega
  have q1 : (m : Int) ≤ 4 := by omega
  clear hq
  go_enter Tryz.func200, Tryz.ntmps200
  go_wp2_with (first
   | (go_at_call 223; refine hf.mono ?_; rintro e w1 ⟨rfl, hb1⟩)
   | (go_at_call 222; refine (hup _).mono ?_; rintro e w2 ⟨rfl, hb2⟩)
   | (go_at_call 224; refine (hrep _).mono ?_; rintro e w3 ⟨rfl, hb3⟩))
  go_ret
  exact ⟨by rw [← HE.out]; rfl, (hb1.trans (hb2.mono hb1.size)).trans (hb3.mono (Nat.le_trans hb1.size hb2.size))⟩
 ·have hq : 4 - m = 0 := by omega
  rw [hq] at hrep
  have q1 : max ((4 : Int) - (m : Int)) 0 = 0 := by omega
  have hrep' : ∀ W, Calls Tryz.prog 224 #[.string ⟨#[48]⟩, .int .i64 0] W fun e w' => e = .returned (.string Z) ∧ Below W.heap.size W w' := hrep
  clear hq hrep
  go_enter Tryz.func200, Tryz.ntmps200
  go_wp2_with (first
   | (go_at_call 223; refine hf.mono ?_; rintro e w1 ⟨rfl, hb1⟩)
   | (go_at_call 222; refine (hup _).mono ?_; rintro e w2 ⟨rfl, hb2⟩)
   | (go_at_call 224; refine (hrep' _).mono ?_; rintro e w3 ⟨rfl, hb3⟩))
  go_ret
  exact ⟨by rw [← HE.out]; rfl, (hb1.trans (hb2.mono hb1.size)).trans (hb3.mono (Nat.le_trans hb1.size hb2.size))⟩

def prt (x : Tok) : List UInt8 :=
 if x.k = 3 then [60, 85] ++ greatL x.n ++ [62, 32] else if x.k = 5 then [60] ++ x.t ++ [62, 32] else if x.k = 4 then [34] ++ x.t ++ [34, 32] else if x.k = 6 then [10] else x.t ++ [32]
def prtL (ts : List Tok) : List UInt8 := ts.flatMap prt
theorem prt_str1 (a b c : List UInt8) : (⟨a.toArray⟩ : ByteArray) ++ str b ++ ⟨c.toArray⟩ = str (a ++ b ++ c) := by
 show str a ++ str b ++ str c = _
 rw [str_append, str_append]
theorem prt_str2 (b c : List UInt8) : str b ++ (⟨c.toArray⟩ : ByteArray) = str (b ++ c) := str_append b c

theorem greatL_len {n : Nat} (hn : n < 1048576 * 1048576) : (greatL n).length ≤ 14 := by
 have := hexL_len 9 n (by omega)
 unfold greatL
 simp
 omega
set_option maxRecDepth 100000 in
set_option maxHeartbeats 4000000 in
theorem printed_any (x : Tok) (a0 : Int) (w : World) (hG : Gl w) (hn : x.n < 1048576 * 1048576) (ht : x.t.length ≤ 5000) :
  Calls Tryz.prog 181 #[.agg #[.int .u8 x.k, .string (str x.t), .int .i64 x.n, .int .i64 a0]] w fun e w' => e = .returned (.string (str (prt x))) ∧ Below w.heap.size w w' := by
 obtain ⟨kd, t, n, at_⟩ := x
 simp only at hn ht ⊢
 obtain ⟨c, hc⟩ : ∃ c : Int, (kd : Int) = c := ⟨_, rfl⟩
 rw [hc]
 have hb0 : Below w.heap.size w (w.alloc (.cells #[.int .u8 c, .string (str t), .int .i64 n, .int .i64 a0] 92)) := (Below.refl _ _).alloc (Nat.le_refl _) _
 have hd := digitsOf_any n hn _ (hG.next hb0)
 have hgl := greatL_len hn
 have HB := Lib.hid hb0
 have s1 := str_size t
 have s2 := str_size (greatL n)
 have s3 : (str t).size ≤ 5000 := by omega
 have s4 : (str (greatL n)).size ≤ 5000 := by omega
 clear hG hb0 s1 s2 hgl ht
 by_cases h3 : kd = 3
 ·have HP := Lib.hid (show (⟨#[60, 85]⟩ : ByteArray) ++ str (greatL n) ++ ⟨#[62, 32]⟩ = str (prt ⟨kd, t, n, at_⟩) by unfold prt; rw [if_pos h3]; exact prt_str1 _ _ _)
  obtain rfl : c = 3 := by omega
  clear hc h3
  generalize str (greatL n) = X at *
  generalize str t = T at *
  go_enter Tryz.func181, Tryz.ntmps181
  go_wp2_with (go_at_call 200; refine hd.mono ?_; rintro e w1 ⟨rfl, hb1⟩)
  go_ret
  exact ⟨by rw [← HP.out]; rfl, HB.out.trans (hb1.mono (by simp))⟩
 by_cases h5 : kd = 5
 ·have HP := Lib.hid (show (⟨#[60]⟩ : ByteArray) ++ str t ++ ⟨#[62, 32]⟩ = str (prt ⟨kd, t, n, at_⟩) by unfold prt; rw [if_neg h3, if_pos h5]; exact prt_str1 _ _ _)
  obtain rfl : c = 5 := by omega
  clear hc h3 h5 hd s4
  generalize str t = T at *
  go_enter Tryz.func181, Tryz.ntmps181
  go_wp2
  go_ret
  exact ⟨by rw [← HP.out]; rfl, HB.out⟩
 by_cases h4 : kd = 4
 ·have HP := Lib.hid (show (⟨#[34]⟩ : ByteArray) ++ str t ++ ⟨#[34, 32]⟩ = str (prt ⟨kd, t, n, at_⟩) by unfold prt; rw [if_neg h3, if_neg h5, if_pos h4]; exact prt_str1 _ _ _)
  obtain rfl : c = 4 := by omega
  clear hc h3 h5 h4 hd s4
  generalize str t = T at *
  go_enter Tryz.func181, Tryz.ntmps181
  go_wp2
  go_ret
  exact ⟨by rw [← HP.out]; rfl, HB.out⟩
 by_cases h6 : kd = 6
 ·have HP := Lib.hid (show (⟨#[10]⟩ : ByteArray) = str (prt ⟨kd, t, n, at_⟩) by unfold prt; rw [if_neg h3, if_neg h5, if_neg h4, if_pos h6]; rfl)
  obtain rfl : c = 6 := by omega
  clear hc h3 h5 h4 h6 hd s4
  generalize str t = T at *
  go_enter Tryz.func181, Tryz.ntmps181
  go_wp2
  go_ret
  exact ⟨by rw [← HP.out]; rfl, HB.out⟩
 ·have HP := Lib.hid (show str t ++ (⟨#[32]⟩ : ByteArray) = str (prt ⟨kd, t, n, at_⟩) by unfold prt; rw [if_neg h3, if_neg h5, if_neg h4, if_neg h6]; exact prt_str2 _ _)
  have q3 : (c == 3) = false := by simp; omega
  have q5 : (c == 5) = false := by simp; omega
  have q4 : (c == 4) = false := by simp; omega
  have q6 : (c == 6) = false := by simp; omega
  clear hc h3 h5 h4 h6 hd s4
  generalize str t = T at *
  go_enter Tryz.func181, Tryz.ntmps181
  go_wp2
  go_ret
  exact ⟨by rw [← HP.out]; rfl, HB.out⟩
end Go.Proofs.YthaibekbefndlaaGreatDoor.C

namespace Go.Proofs.YthaibekbefndlaaGreatDoor.C
open Go.RowKit

def SI (sz : Nat) (w : World) (B : Nat) (A : Option Addr) (n : Nat) (xs : List (List Value)) : Prop :=
 xs.length = n ∧ (∀ x ∈ xs, x.length = sz) ∧ (0 < n → ∃ ad, A = some ad ∧ ad.block < B ∧ ∀ j x, xs[j]? = some x → ∀ i u, x[i]? = some u → w.cell? (ad.add (j * sz + i)) = some u)
section
variable {sz : Nat} {w w' : World} {B B' n : Nat} {A : Option Addr} {xs : List (List Value)}
theorem SI.len (h : SI sz w B A n xs) : xs.length = n := h.1
theorem SI.nil (sz : Nat) (w : World) (B : Nat) (A : Option Addr) : SI sz w B A 0 [] := ⟨rfl, by simp, fun h => absurd h (by omega)⟩
theorem SI.keep (h : SI sz w B A n xs) (hk : ∀ p : Addr, p.block < B → w'.cell? p = w.cell? p) : SI sz w' B A n xs :=
 ⟨h.1, h.2.1, fun hn => by
  obtain ⟨ad, e, hb, hc⟩ := h.2.2 hn
  exact ⟨ad, e, hb, fun j x hx i u hu => (hk _ (by rw [block_of_add]; exact hb)).trans (hc j x hx i u hu)⟩⟩
theorem SI.more (h : SI sz w B A n xs) (hB : B ≤ B') : SI sz w B' A n xs :=
 ⟨h.1, h.2.1, fun hn => by
  obtain ⟨ad, e, hb, hc⟩ := h.2.2 hn
  exact ⟨ad, e, by omega, hc⟩⟩
theorem SI.on (h : SI sz w B A n xs) (hb : Below B' w w') (hB : B ≤ B') : SI sz w' B A n xs := h.keep fun p hp => hb.cell (p := p) (by omega)
theorem SI.drewN (h : SI sz w B A n xs) (k : Nat) : SI sz (w.drewN k) B A n xs := h
theorem SI.grown (h : SI sz w B A n xs) {row : Option Nat} (hg : w.grownBy w' row) (hB : B ≤ w.heap.size) (hr : ∀ g, row = some g → B ≤ g) : SI sz w' B A n xs :=
 h.keep fun p hp => World.cell?_of_block (hg.block p.block (by omega) (fun e => by have := hr _ e.symm; omega))
theorem SI.at_ (h : SI sz w B A n xs) {k : Nat} (hk : k < n) : ∃ ad x, A = some ad ∧ ad.block < B ∧ xs[k]? = some x ∧ x.length = sz ∧ ∀ i u, x[i]? = some u → w.cell? (ad.add (k * sz + i)) = some u := by
 obtain ⟨ad, e, hb, hc⟩ := h.2.2 (by omega)
 have hl : k < xs.length := by have := h.1; omega
 exact ⟨ad, xs[k], e, hb, List.getElem?_eq_getElem hl, h.2.1 _ (List.getElem_mem hl), hc k _ (List.getElem?_eq_getElem hl)⟩
theorem add_more' (a : Addr) (j i : Nat) (hi : 0 < i) : (⟨(a.add j).block, (a.add j).off + i, none⟩ : Addr) = a.add (j + i) := by
 unfold Addr.add
 by_cases h : j = 0
 ·subst h
  rw [if_pos rfl, Nat.zero_add, if_neg (by omega)]
 ·rw [if_neg h, if_neg (by omega), Nat.add_assoc]
end
theorem SI.at2 {w : World} {B n : Nat} {A : Option Addr} {xs : List (List Value)} (h : SI 2 w B A n xs) {k : Nat} (hk : k < n) : ∃ ad u v, A = some ad ∧ ad.block < B ∧ xs[k]? = some [u, v] ∧ w.cell? (ad.add (k * 2)) = some u ∧ w.cell? ⟨(ad.add (k * 2)).block, (ad.add (k * 2)).off + 1, none⟩ = some v := by
 obtain ⟨ad, x, e, hb, hx, hl, hc⟩ := h.at_ hk
 match x, hl with
 | [u, v], _ => exact ⟨ad, u, v, e, hb, hx, hc 0 u rfl, by rw [add_more' _ _ _ (by omega)]; exact hc 1 v rfl⟩
theorem SI.at3 {w : World} {B n : Nat} {A : Option Addr} {xs : List (List Value)} (h : SI 3 w B A n xs) {k : Nat} (hk : k < n) : ∃ ad u v z, A = some ad ∧ ad.block < B ∧ xs[k]? = some [u, v, z] ∧ w.cell? (ad.add (k * 3)) = some u ∧ w.cell? ⟨(ad.add (k * 3)).block, (ad.add (k * 3)).off + 1, none⟩ = some v ∧ w.cell? ⟨(ad.add (k * 3)).block, (ad.add (k * 3)).off + 2, none⟩ = some z := by
 obtain ⟨ad, x, e, hb, hx, hl, hc⟩ := h.at_ hk
 match x, hl with
 | [u, v, z], _ => exact ⟨ad, u, v, z, e, hb, hx, hc 0 u rfl, by rw [add_more' _ _ _ (by omega)]; exact hc 1 v rfl, by rw [add_more' _ _ _ (by omega)]; exact hc 2 z rfl⟩

def FoundAt (n : Nat) (q : Nat → Bool) (Inv : Nat → World → Prop) (Fin : Nat → World → Prop) (e : Ending) (w' : World) : Prop :=
 (∃ k, k < n ∧ q k = true ∧ (∀ j, j < k → q j = false) ∧ e = .returned (.int .i64 k) ∧ Fin k w') ∨ ((∀ j, j < n → q j = false) ∧ e = .returned (.int .i64 (-1)) ∧ Inv n w')
def HasIt (n : Nat) (q : Nat → Bool) (Inv : Nat → World → Prop) (Fin : Nat → World → Prop) (e : Ending) (w' : World) : Prop :=
 (∃ k, k < n ∧ q k = true ∧ (∀ j, j < k → q j = false) ∧ e = .returned (.bool true) ∧ Fin k w') ∨ ((∀ j, j < n → q j = false) ∧ e = .returned (.bool false) ∧ Inv n w')
def Asked (b : Bool) (Inv : World → Prop) (Fin : World → Prop) (e : Ending) (w' : World) : Prop := e = .returned (.bool b) ∧ (b = false → Inv w') ∧ (b = true → Fin w')
theorem asked_step {q : Nat → Bool} {k : Nat} (hq : ∀ j, j < k → q j = false) (h : q k = false) : ∀ j, j < k + 1 → q j = false := fun j hj => by
 rcases Nat.lt_or_ge j k with h1 | h1
 ·exact hq j h1
 ·obtain rfl : j = k := by omega
  exact h

set_option maxRecDepth 100000 in
set_option maxHeartbeats 4000000 in
theorem findRange_any (w : World) (B : Nat) (A : Option Addr) (n c : Nat) (xs : List (List Value)) (V0 : Nat) (q : Nat → Bool) (Inv : Nat → World → Prop) (Fin : Nat → World → Prop) (hn : n ≤ maxLen) (h0 : Inv 0 w)
  (hk : ∀ k W, Inv k W → SI 2 W B A n xs)
  (hs : ∀ k u v W, xs[k]? = some [u, v] → Inv k W → Calls Tryz.prog 104 #[.agg #[u, v], .pointer (some ⟨V0, 0, none⟩)] W (Asked (q k) (Inv (k + 1)) (Fin k))) :
  Calls Tryz.prog 157 #[.slice A n c, .func (.func 104) #[] #[.pointer (some ⟨V0, 0, none⟩)]] w (FoundAt n q Inv Fin) := by
 unfold maxLen at hn
 have HK := Lib.hid hk
 have HS := Lib.hid hs
 have H0 := Lib.hid h0
 clear hk hs h0
 go_enter Tryz.func157, Tryz.ntmps157
 go_wp2
 go_loopw [8] (fun iv wr => ∃ k : Nat, k ≤ n ∧ iv = .int .i64 k ∧ Hid (Inv k wr) ∧ Hid (∀ j, j < k → q j = false)) (fun iv _ => n - (intOf iv).toNat)
 case atStart => exact ⟨0, Nat.zero_le _, rfl, H0, Lib.hid (fun j hj => absurd hj (by omega))⟩
 case round =>
  obtain ⟨k, hkn, rfl, HI, HQ⟩ := hrel
  by_cases hlt : k < n
  ·obtain ⟨ad, u, v, rfl, hb, hx, c0, c1⟩ := (HK.out k wr HI.out).at2 hlt
   have hc := HS.out k u v wr hx HI.out
   clear hx
   cases hq : q k with
   | true =>
    rw [hq] at hc
    have HQK := Lib.hid hq
    clear hq
    go_wp2_with (go_at_call 104; refine hc.mono ?_; rintro e w2 ⟨rfl, -, hf⟩; have HF := Lib.hid (hf rfl); clear hf hc)
    go_ret
    exact .inl ⟨k, hlt, HQK.out, HQ.out, rfl, HF.out⟩
   | false =>
    rw [hq] at hc
    have HQK := Lib.hid hq
    clear hq
    go_wp2_with (go_at_call 104; refine hc.mono ?_; rintro e w2 ⟨rfl, hf, -⟩; have HF := Lib.hid (hf rfl); clear hf hc)
    go_roundw
    case rel => exact ⟨k + 1, by omega, by go_num, HF, Lib.hid (asked_step HQ.out HQK.out)⟩
    case measure => simp [intOf]; omega
  ·obtain rfl : k = n := by omega
   go_wp2
   go_ret
   exact .inr ⟨HQ.out, rfl, HI.out⟩

set_option maxRecDepth 100000 in
set_option maxHeartbeats 4000000 in
theorem hasRange_any (w : World) (B : Nat) (A : Option Addr) (n c : Nat) (xs : List (List Value)) (V0 : Nat) (q : Nat → Bool) (Inv : Nat → World → Prop) (Fin : Nat → World → Prop) (hn : n ≤ maxLen) (h0 : Inv 0 w)
  (hk : ∀ k W, Inv k W → SI 2 W B A n xs)
  (hs : ∀ k u v W, xs[k]? = some [u, v] → Inv k W → Calls Tryz.prog 104 #[.agg #[u, v], .pointer (some ⟨V0, 0, none⟩)] W (Asked (q k) (Inv (k + 1)) (Fin k))) :
  Calls Tryz.prog 103 #[.slice A n c, .func (.func 104) #[] #[.pointer (some ⟨V0, 0, none⟩)]] w (HasIt n q Inv Fin) := by
 have hf := findRange_any w B A n c xs V0 q Inv Fin hn h0 hk hs
 clear hk hs h0 hn
 go_enter Tryz.func103, Tryz.ntmps103
 go_wp2_with fail
 refine hf.mono ?_
 intro e w2 h2
 rcases h2 with ⟨k, h1, h2, h3, rfl, h5⟩ | ⟨h1, rfl, h5⟩
 ·have HH : Hid (HasIt n q Inv Fin (.returned (.bool true)) w2) := Lib.hid (.inl ⟨k, h1, h2, h3, rfl, h5⟩)
  clear h2 h3 h5
  go_wp2
  go_ret
  exact HH.out
 ·have HH : Hid (HasIt n q Inv Fin (.returned (.bool false)) w2) := Lib.hid (.inr ⟨h1, rfl, h5⟩)
  clear h1 h5
  go_wp2
  go_ret
  exact HH.out

set_option maxRecDepth 100000 in
set_option maxHeartbeats 4000000 in
theorem findPair_any (w : World) (B : Nat) (A : Option Addr) (n c : Nat) (xs : List (List Value)) (V0 : Nat) (q : Nat → Bool) (Inv : Nat → World → Prop) (Fin : Nat → World → Prop) (hn : n ≤ maxLen) (h0 : Inv 0 w)
  (hk : ∀ k W, Inv k W → SI 2 W B A n xs)
  (hs : ∀ k u v W, xs[k]? = some [u, v] → Inv k W → Calls Tryz.prog 107 #[.agg #[u, v], .pointer (some ⟨V0, 0, none⟩)] W (Asked (q k) (Inv (k + 1)) (Fin k))) :
  Calls Tryz.prog 158 #[.slice A n c, .func (.func 107) #[] #[.pointer (some ⟨V0, 0, none⟩)]] w (FoundAt n q Inv Fin) := by
 unfold maxLen at hn
 have HK := Lib.hid hk
 have HS := Lib.hid hs
 have H0 := Lib.hid h0
 clear hk hs h0
 go_enter Tryz.func158, Tryz.ntmps158
 go_wp2
 go_loopw [8] (fun iv wr => ∃ k : Nat, k ≤ n ∧ iv = .int .i64 k ∧ Hid (Inv k wr) ∧ Hid (∀ j, j < k → q j = false)) (fun iv _ => n - (intOf iv).toNat)
 case atStart => exact ⟨0, Nat.zero_le _, rfl, H0, Lib.hid (fun j hj => absurd hj (by omega))⟩
 case round =>
  obtain ⟨k, hkn, rfl, HI, HQ⟩ := hrel
  by_cases hlt : k < n
  ·obtain ⟨ad, u, v, rfl, hb, hx, c0, c1⟩ := (HK.out k wr HI.out).at2 hlt
   have hc := HS.out k u v wr hx HI.out
   clear hx
   cases hq : q k with
   | true =>
    rw [hq] at hc
    have HQK := Lib.hid hq
    clear hq
    go_wp2_with (go_at_call 107; refine hc.mono ?_; rintro e w2 ⟨rfl, -, hf⟩; have HF := Lib.hid (hf rfl); clear hf hc)
    go_ret
    exact .inl ⟨k, hlt, HQK.out, HQ.out, rfl, HF.out⟩
   | false =>
    rw [hq] at hc
    have HQK := Lib.hid hq
    clear hq
    go_wp2_with (go_at_call 107; refine hc.mono ?_; rintro e w2 ⟨rfl, hf, -⟩; have HF := Lib.hid (hf rfl); clear hf hc)
    go_roundw
    case rel => exact ⟨k + 1, by omega, by go_num, HF, Lib.hid (asked_step HQ.out HQK.out)⟩
    case measure => simp [intOf]; omega
  ·obtain rfl : k = n := by omega
   go_wp2
   go_ret
   exact .inr ⟨HQ.out, rfl, HI.out⟩

set_option maxRecDepth 100000 in
set_option maxHeartbeats 4000000 in
theorem hasPair_any (w : World) (B : Nat) (A : Option Addr) (n c : Nat) (xs : List (List Value)) (V0 : Nat) (q : Nat → Bool) (Inv : Nat → World → Prop) (Fin : Nat → World → Prop) (hn : n ≤ maxLen) (h0 : Inv 0 w)
  (hk : ∀ k W, Inv k W → SI 2 W B A n xs)
  (hs : ∀ k u v W, xs[k]? = some [u, v] → Inv k W → Calls Tryz.prog 107 #[.agg #[u, v], .pointer (some ⟨V0, 0, none⟩)] W (Asked (q k) (Inv (k + 1)) (Fin k))) :
  Calls Tryz.prog 106 #[.slice A n c, .func (.func 107) #[] #[.pointer (some ⟨V0, 0, none⟩)]] w (HasIt n q Inv Fin) := by
 have hf := findPair_any w B A n c xs V0 q Inv Fin hn h0 hk hs
 clear hk hs h0 hn
 go_enter Tryz.func106, Tryz.ntmps106
 go_wp2_with fail
 refine hf.mono ?_
 intro e w2 h2
 rcases h2 with ⟨k, h1, h2, h3, rfl, h5⟩ | ⟨h1, rfl, h5⟩
 ·have HH : Hid (HasIt n q Inv Fin (.returned (.bool true)) w2) := Lib.hid (.inl ⟨k, h1, h2, h3, rfl, h5⟩)
  clear h2 h3 h5
  go_wp2
  go_ret
  exact HH.out
 ·have HH : Hid (HasIt n q Inv Fin (.returned (.bool false)) w2) := Lib.hid (.inr ⟨h1, rfl, h5⟩)
  clear h1 h5
  go_wp2
  go_ret
  exact HH.out

set_option maxRecDepth 100000 in
set_option maxHeartbeats 4000000 in
theorem findClass_any (w : World) (B : Nat) (A : Option Addr) (n c : Nat) (xs : List (List Value)) (V0 : Nat) (q : Nat → Bool) (Inv : Nat → World → Prop) (Fin : Nat → World → Prop) (hn : n ≤ maxLen) (h0 : Inv 0 w)
  (hk : ∀ k W, Inv k W → SI 2 W B A n xs)
  (hs : ∀ k u v W, xs[k]? = some [u, v] → Inv k W → Calls Tryz.prog 101 #[.agg #[u, v], .pointer (some ⟨V0, 0, none⟩)] W (Asked (q k) (Inv (k + 1)) (Fin k))) :
  Calls Tryz.prog 149 #[.slice A n c, .func (.func 101) #[] #[.pointer (some ⟨V0, 0, none⟩)]] w (FoundAt n q Inv Fin) := by
 unfold maxLen at hn
 have HK := Lib.hid hk
 have HS := Lib.hid hs
 have H0 := Lib.hid h0
 clear hk hs h0
 go_enter Tryz.func149, Tryz.ntmps149
 go_wp2
 go_loopw [8] (fun iv wr => ∃ k : Nat, k ≤ n ∧ iv = .int .i64 k ∧ Hid (Inv k wr) ∧ Hid (∀ j, j < k → q j = false)) (fun iv _ => n - (intOf iv).toNat)
 case atStart => exact ⟨0, Nat.zero_le _, rfl, H0, Lib.hid (fun j hj => absurd hj (by omega))⟩
 case round =>
  obtain ⟨k, hkn, rfl, HI, HQ⟩ := hrel
  by_cases hlt : k < n
  ·obtain ⟨ad, u, v, rfl, hb, hx, c0, c1⟩ := (HK.out k wr HI.out).at2 hlt
   have hc := HS.out k u v wr hx HI.out
   clear hx
   cases hq : q k with
   | true =>
    rw [hq] at hc
    have HQK := Lib.hid hq
    clear hq
    go_wp2_with (go_at_call 101; refine hc.mono ?_; rintro e w2 ⟨rfl, -, hf⟩; have HF := Lib.hid (hf rfl); clear hf hc)
    go_ret
    exact .inl ⟨k, hlt, HQK.out, HQ.out, rfl, HF.out⟩
   | false =>
    rw [hq] at hc
    have HQK := Lib.hid hq
    clear hq
    go_wp2_with (go_at_call 101; refine hc.mono ?_; rintro e w2 ⟨rfl, hf, -⟩; have HF := Lib.hid (hf rfl); clear hf hc)
    go_roundw
    case rel => exact ⟨k + 1, by omega, by go_num, HF, Lib.hid (asked_step HQ.out HQK.out)⟩
    case measure => simp [intOf]; omega
  ·obtain rfl : k = n := by omega
   go_wp2
   go_ret
   exact .inr ⟨HQ.out, rfl, HI.out⟩

set_option maxRecDepth 100000 in
set_option maxHeartbeats 4000000 in
theorem hasClass_any (w : World) (B : Nat) (A : Option Addr) (n c : Nat) (xs : List (List Value)) (V0 : Nat) (q : Nat → Bool) (Inv : Nat → World → Prop) (Fin : Nat → World → Prop) (hn : n ≤ maxLen) (h0 : Inv 0 w)
  (hk : ∀ k W, Inv k W → SI 2 W B A n xs)
  (hs : ∀ k u v W, xs[k]? = some [u, v] → Inv k W → Calls Tryz.prog 101 #[.agg #[u, v], .pointer (some ⟨V0, 0, none⟩)] W (Asked (q k) (Inv (k + 1)) (Fin k))) :
  Calls Tryz.prog 100 #[.slice A n c, .func (.func 101) #[] #[.pointer (some ⟨V0, 0, none⟩)]] w (HasIt n q Inv Fin) := by
 have hf := findClass_any w B A n c xs V0 q Inv Fin hn h0 hk hs
 clear hk hs h0 hn
 go_enter Tryz.func100, Tryz.ntmps100
 go_wp2_with fail
 refine hf.mono ?_
 intro e w2 h2
 rcases h2 with ⟨k, h1, h2, h3, rfl, h5⟩ | ⟨h1, rfl, h5⟩
 ·have HH : Hid (HasIt n q Inv Fin (.returned (.bool true)) w2) := Lib.hid (.inl ⟨k, h1, h2, h3, rfl, h5⟩)
  clear h2 h3 h5
  go_wp2
  go_ret
  exact HH.out
 ·have HH : Hid (HasIt n q Inv Fin (.returned (.bool false)) w2) := Lib.hid (.inr ⟨h1, rfl, h5⟩)
  clear h1 h5
  go_wp2
  go_ret
  exact HH.out

set_option maxRecDepth 100000 in
set_option maxHeartbeats 4000000 in
theorem findPlace_any (w : World) (B : Nat) (A : Option Addr) (n c : Nat) (xs : List (List Value)) (V0 : Nat) (q : Nat → Bool) (Inv : Nat → World → Prop) (Fin : Nat → World → Prop) (hn : n ≤ maxLen) (h0 : Inv 0 w)
  (hk : ∀ k W, Inv k W → SI 3 W B A n xs)
  (hs : ∀ k u v z W, xs[k]? = some [u, v, z] → Inv k W → Calls Tryz.prog 176 #[.agg #[u, v, z], .pointer (some ⟨V0, 0, none⟩)] W (Asked (q k) (Inv (k + 1)) (Fin k))) :
  Calls Tryz.prog 175 #[.slice A n c, .func (.func 176) #[] #[.pointer (some ⟨V0, 0, none⟩)]] w (FoundAt n q Inv Fin) := by
 unfold maxLen at hn
 have HK := Lib.hid hk
 have HS := Lib.hid hs
 have H0 := Lib.hid h0
 clear hk hs h0
 go_enter Tryz.func175, Tryz.ntmps175
 go_wp2
 go_loopw [8] (fun iv wr => ∃ k : Nat, k ≤ n ∧ iv = .int .i64 k ∧ Hid (Inv k wr) ∧ Hid (∀ j, j < k → q j = false)) (fun iv _ => n - (intOf iv).toNat)
 case atStart => exact ⟨0, Nat.zero_le _, rfl, H0, Lib.hid (fun j hj => absurd hj (by omega))⟩
 case round =>
  obtain ⟨k, hkn, rfl, HI, HQ⟩ := hrel
  by_cases hlt : k < n
  ·obtain ⟨ad, u, v, z, rfl, hb, hx, c0, c1, c2⟩ := (HK.out k wr HI.out).at3 hlt
   have hc := HS.out k u v z wr hx HI.out
   clear hx
   cases hq : q k with
   | true =>
    rw [hq] at hc
    have HQK := Lib.hid hq
    clear hq
    go_wp2_with (go_at_call 176; refine hc.mono ?_; rintro e w2 ⟨rfl, -, hf⟩; have HF := Lib.hid (hf rfl); clear hf hc)
    go_ret
    exact .inl ⟨k, hlt, HQK.out, HQ.out, rfl, HF.out⟩
   | false =>
    rw [hq] at hc
    have HQK := Lib.hid hq
    clear hq
    go_wp2_with (go_at_call 176; refine hc.mono ?_; rintro e w2 ⟨rfl, hf, -⟩; have HF := Lib.hid (hf rfl); clear hf hc)
    go_roundw
    case rel => exact ⟨k + 1, by omega, by go_num, HF, Lib.hid (asked_step HQ.out HQK.out)⟩
    case measure => simp [intOf]; omega
  ·obtain rfl : k = n := by omega
   go_wp2
   go_ret
   exact .inr ⟨HQ.out, rfl, HI.out⟩

set_option maxRecDepth 100000 in
set_option maxHeartbeats 4000000 in
theorem findAmong_any (w : World) (B : Nat) (A : Option Addr) (n c : Nat) (xs : List (List Value)) (V0 V1 : Nat) (q : Nat → Bool) (Inv : Nat → World → Prop) (Fin : Nat → World → Prop) (hn : n ≤ maxLen) (h0 : Inv 0 w)
  (hk : ∀ k W, Inv k W → SI 3 W B A n xs)
  (hs : ∀ k u v z W, xs[k]? = some [u, v, z] → Inv k W → Calls Tryz.prog 174 #[.agg #[u, v, z], .pointer (some ⟨V0, 0, none⟩), .pointer (some ⟨V1, 0, none⟩)] W (Asked (q k) (Inv (k + 1)) (Fin k))) :
  Calls Tryz.prog 175 #[.slice A n c, .func (.func 174) #[] #[.pointer (some ⟨V0, 0, none⟩), .pointer (some ⟨V1, 0, none⟩)]] w (FoundAt n q Inv Fin) := by
 unfold maxLen at hn
 have HK := Lib.hid hk
 have HS := Lib.hid hs
 have H0 := Lib.hid h0
 clear hk hs h0
 go_enter Tryz.func175, Tryz.ntmps175
 go_wp2
 go_loopw [8] (fun iv wr => ∃ k : Nat, k ≤ n ∧ iv = .int .i64 k ∧ Hid (Inv k wr) ∧ Hid (∀ j, j < k → q j = false)) (fun iv _ => n - (intOf iv).toNat)
 case atStart => exact ⟨0, Nat.zero_le _, rfl, H0, Lib.hid (fun j hj => absurd hj (by omega))⟩
 case round =>
  obtain ⟨k, hkn, rfl, HI, HQ⟩ := hrel
  by_cases hlt : k < n
  ·obtain ⟨ad, u, v, z, rfl, hb, hx, c0, c1, c2⟩ := (HK.out k wr HI.out).at3 hlt
   have hc := HS.out k u v z wr hx HI.out
   clear hx
   cases hq : q k with
   | true =>
    rw [hq] at hc
    have HQK := Lib.hid hq
    clear hq
    go_wp2_with (go_at_call 174; refine hc.mono ?_; rintro e w2 ⟨rfl, -, hf⟩; have HF := Lib.hid (hf rfl); clear hf hc)
    go_ret
    exact .inl ⟨k, hlt, HQK.out, HQ.out, rfl, HF.out⟩
   | false =>
    rw [hq] at hc
    have HQK := Lib.hid hq
    clear hq
    go_wp2_with (go_at_call 174; refine hc.mono ?_; rintro e w2 ⟨rfl, hf, -⟩; have HF := Lib.hid (hf rfl); clear hf hc)
    go_roundw
    case rel => exact ⟨k + 1, by omega, by go_num, HF, Lib.hid (asked_step HQ.out HQK.out)⟩
    case measure => simp [intOf]; omega
  ·obtain rfl : k = n := by omega
   go_wp2
   go_ret
   exact .inr ⟨HQ.out, rfl, HI.out⟩

set_option maxRecDepth 100000 in
set_option maxHeartbeats 4000000 in
theorem hasAmong_any (w : World) (B : Nat) (A : Option Addr) (n c : Nat) (xs : List (List Value)) (V0 V1 : Nat) (q : Nat → Bool) (Inv : Nat → World → Prop) (Fin : Nat → World → Prop) (hn : n ≤ maxLen) (h0 : Inv 0 w)
  (hk : ∀ k W, Inv k W → SI 3 W B A n xs)
  (hs : ∀ k u v z W, xs[k]? = some [u, v, z] → Inv k W → Calls Tryz.prog 174 #[.agg #[u, v, z], .pointer (some ⟨V0, 0, none⟩), .pointer (some ⟨V1, 0, none⟩)] W (Asked (q k) (Inv (k + 1)) (Fin k))) :
  Calls Tryz.prog 173 #[.slice A n c, .func (.func 174) #[] #[.pointer (some ⟨V0, 0, none⟩), .pointer (some ⟨V1, 0, none⟩)]] w (HasIt n q Inv Fin) := by
 have hf := findAmong_any w B A n c xs V0 V1 q Inv Fin hn h0 hk hs
 clear hk hs h0 hn
 go_enter Tryz.func173, Tryz.ntmps173
 go_wp2_with fail
 refine hf.mono ?_
 intro e w2 h2
 rcases h2 with ⟨k, h1, h2, h3, rfl, h5⟩ | ⟨h1, rfl, h5⟩
 ·have HH : Hid (HasIt n q Inv Fin (.returned (.bool true)) w2) := Lib.hid (.inl ⟨k, h1, h2, h3, rfl, h5⟩)
  clear h2 h3 h5
  go_wp2
  go_ret
  exact HH.out
 ·have HH : Hid (HasIt n q Inv Fin (.returned (.bool false)) w2) := Lib.hid (.inr ⟨h1, rfl, h5⟩)
  clear h1 h5
  go_wp2
  go_ret
  exact HH.out
end Go.Proofs.YthaibekbefndlaaGreatDoor.C
