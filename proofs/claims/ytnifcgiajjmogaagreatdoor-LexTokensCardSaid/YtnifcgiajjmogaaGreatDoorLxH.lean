/-
  Plain facts on hexadecimal digits; the library's table of them. No condition.
-/
import Derived.Test.YtnifcgiajjmogaaGreatDoorLxZ
import Derived.WalkLawsBesides
import Derived.Laws.CopyRow
import Derived.Laws.BitsAllLaws
import Derived.Laws.IdiomStrings
namespace Go.Proofs.YtnifcgiajjmogaaGreatDoor.C
open Go.RowKit


/-- a digit's sign -/
def dig (n : Nat) : UInt8 := if n < 10 then (48 + n).toUInt8 else (87 + n).toUInt8
def hexL (n : Nat) : List UInt8 := if n < 16 then [dig n] else hexL (n / 16) ++ [dig (n % 16)]
termination_by n
decreasing_by omega
theorem hexL_small {n : Nat} (h : n < 16) : hexL n = [dig n] := by rw [hexL, if_pos h]
theorem hexL_big {n : Nat} (h : ¬ n < 16) : hexL n = hexL (n / 16) ++ [dig (n % 16)] := by rw [hexL, if_neg h]

/-- so far these digits, k places are left -/
def HexSt (u0 uu : Nat) (d : List UInt8) (k : Nat) : Prop := hexL u0 = hexL uu ++ d ∧ k + d.length = 65 ∧ d.length ≤ 16 ∧ uu < 16 ^ (16 - d.length)
theorem hexSt_zero {u : Nat} (h : u < 16 ^ 16) : HexSt u u [] 65 := ⟨by simp, by simp, by simp, by simpa using h⟩
theorem hexSt_left {u0 uu : Nat} {d : List UInt8} {k : Nat} (h : HexSt u0 uu d k) : 49 ≤ k ∧ k ≤ 65 := by
  obtain ⟨_, h2, h3, _⟩ := h
  omega
theorem hexSt_step {u0 uu : Nat} {d : List UInt8} {k : Nat} (h : HexSt u0 uu d (k + 1)) (hu : ¬ uu < 16) : HexSt u0 (uu / 16) (dig (uu % 16) :: d) k := by
  obtain ⟨h1, h2, h3, h4⟩ := h
  have hl : d.length < 16 := by
    rcases Nat.lt_or_ge d.length 16 with h | h
    · exact h
    · have : 16 - d.length = 0 := by omega
      rw [this] at h4
      simp at h4
      omega
  refine ⟨?_, by simp; omega, by simp; omega, ?_⟩
  · rw [h1, hexL_big hu]
    simp
  · have e : 16 - d.length = (16 - (dig (uu % 16) :: d).length) + 1 := by simp; omega
    rw [e, Nat.pow_succ] at h4
    exact Nat.div_lt_of_lt_mul (by rw [Nat.mul_comm]; exact h4)
theorem hexSt_end {u0 uu : Nat} {d : List UInt8} {k : Nat} (h : HexSt u0 uu d k) (hu : uu < 16) : hexL u0 = dig uu :: d := by
  rw [h.1, hexL_small hu]
  rfl

theorem hexL_len : ∀ (m n : Nat), n < 16 ^ (m + 1) → (hexL n).length ≤ m + 1
  | 0, n, h => by rw [hexL_small (by simpa using h)]; simp
  | m + 1, n, h => by
    by_cases h1 : n < 16
    · rw [hexL_small h1]; simp
    · rw [hexL_big h1]
      have := hexL_len m (n / 16) (by rw [Nat.pow_succ] at h; exact Nat.div_lt_of_lt_mul (by rw [Nat.mul_comm]; exact h))
      simp; omega
set_option maxHeartbeats 1000000 in
theorem tz64_16 (w : World) (h : w.cell? ⟨9, 15, none⟩ = some (.int .u8 4)) : Calls Tryz.prog 108 #[.int .u64 16] w fun e w' => e = .returned (.int .i64 4) ∧ w = w' := by
  have key : IntKind.u64.wrap (bits BinOp.and IntKind.u64 16 (IntKind.u64.wrap (-16)) * 285870213051353865) / 288230376151711744 = 15 := by decide +kernel
  go_enter Tryz.func108, Tryz.ntmps108
  go_wp2_with (simp only [key])
  all_goals go_ret
  all_goals exact ⟨rfl, rfl⟩

set_option maxHeartbeats 1000000 in
theorem isPow_16 (w : World) : Calls Tryz.prog 98 #[.int .i64 16] w fun e w' => e = .returned (.bool true) ∧ w = w' := by
  go_enter Tryz.func98, Tryz.ntmps98
  go_wp2
  all_goals go_ret
  all_goals exact ⟨rfl, rfl⟩

set_option maxHeartbeats 1000000 in
theorem tz_16 (w : World) (h : w.cell? ⟨9, 15, none⟩ = some (.int .u8 4)) : Calls Tryz.prog 99 #[.int .u64 16] w fun e w' => e = .returned (.int .i64 4) ∧ w = w' := by
  go_enter Tryz.func99, Tryz.ntmps99
  go_wp2_with fail
  refine (tz64_16 w h).mono ?_
  rintro e w' ⟨rfl, rfl⟩
  go_wp2
  all_goals go_ret
  all_goals exact ⟨rfl, rfl⟩

/-- an array of 65 bytes, all 0 -/
def zeros65 : Array Value := (Lib.byteCells (List.replicate 65 0)).toArray
theorem zeroArray (w : World) : (zeroValue 122).run Tryz.prog w = .ok (.agg zeros65) w := by kernel_rfl

/-- the array's block while digits are laid from its end on -/
def Digits (w : World) (g k : Nat) (d : List UInt8) : Prop := ∃ z : List UInt8, z.length = k ∧ w.heap[g]? = some (.cells (Lib.byteCells (z ++ d)).toArray 122 (0, 0))

theorem digits_start (w : World) : Digits (w.alloc (.cells zeros65 122)) w.heap.size 65 [] :=
  ⟨List.replicate 65 0, by simp, by rw [List.append_nil]; exact heap_alloc_new w _⟩
theorem digits_cell {w : World} {g k : Nat} {d : List UInt8} (h : Digits w g (k + 1) d) : ∃ x, w.cell? ⟨g, k, none⟩ = some (.int .u8 x) := by
  obtain ⟨z, hz, hg⟩ := h
  have hk : k < (z ++ d).length := by simp; omega
  refine ⟨((z ++ d)[k]).toNat, ?_⟩
  rw [cell_of_row w g k _ _ _ hg]
  simp only [Lib.byteCells, List.getElem?_toArray, List.getElem?_map, List.getElem?_eq_getElem hk, Option.map_some]
theorem digits_frozen {w : World} {g k : Nat} {d : List UInt8} (h : Digits w g (k + 1) d) : w.frozen? ⟨g, k, none⟩ = false := by
  obtain ⟨z, hz, hg⟩ := h
  simp [World.frozen?, hg]
theorem digits_set {w : World} {g k : Nat} {d : List UInt8} (h : Digits w g (k + 1) d) (c : UInt8) : Digits (w.setCell ⟨g, k, none⟩ (.int .u8 c.toNat)) g k (c :: d) := by
  obtain ⟨z, hz, hg⟩ := h
  refine ⟨z.take k, by simp; omega, ?_⟩
  simp only [World.setCell, Array.getElem?_modify, hg]
  simp only [if_true, Option.map_some, Option.some.injEq, Obj.cells.injEq, and_true]
  simp only [Lib.byteCells, List.setIfInBounds_toArray]
  congr 1
  rw [← List.map_set (f := fun b : UInt8 => Value.int .u8 b.toNat)]
  congr 1
  obtain ⟨z', y, rfl⟩ : ∃ z' y, z = z' ++ [y] := ⟨z.dropLast, z.getLast (by intro e; subst e; simp at hz), (List.dropLast_concat_getLast _).symm⟩
  simp at hz
  subst hz
  simp
theorem digits_cells {w : World} {g k : Nat} {d : List UInt8} (h : Digits w g k d) : ∀ j u, (Lib.byteCells d)[j]? = some u → w.cell? ((⟨g, k, none⟩ : Addr).add j) = some u := by
  obtain ⟨z, hz, hg⟩ := h
  intro j u hu
  have e : (⟨g, k, none⟩ : Addr).add j = ⟨g, k + j, none⟩ := by
    unfold Addr.add; split
    · subst_vars; rfl
    · rfl
  rw [e, cell_of_row w g (k + j) _ _ _ hg, ← hu]
  simp only [Lib.byteCells, List.map_append, List.getElem?_toArray]
  rw [List.getElem?_append_right (by simp; omega)]
  simp [hz]

theorem dig_at : ∀ (x : Nat) (h : x < (ByteArray.mk #[48, 49, 50, 51, 52, 53, 54, 55, 56, 57, 97, 98, 99, 100, 101, 102, 103, 104, 105, 106, 107, 108, 109, 110, 111, 112, 113, 114, 115, 116, 117, 118, 119, 120, 121, 122]).size), x < 16 → (ByteArray.mk #[48, 49, 50, 51, 52, 53, 54, 55, 56, 57, 97, 98, 99, 100, 101, 102, 103, 104, 105, 106, 107, 108, 109, 110, 111, 112, 113, 114, 115, 116, 117, 118, 119, 120, 121, 122])[x]'h = dig x
  | 0, _, _ => rfl
  | 1, _, _ => rfl
  | 2, _, _ => rfl
  | 3, _, _ => rfl
  | 4, _, _ => rfl
  | 5, _, _ => rfl
  | 6, _, _ => rfl
  | 7, _, _ => rfl
  | 8, _, _ => rfl
  | 9, _, _ => rfl
  | 10, _, _ => rfl
  | 11, _, _ => rfl
  | 12, _, _ => rfl
  | 13, _, _ => rfl
  | 14, _, _ => rfl
  | 15, _, _ => rfl
  | (x + 16), _, h => absurd h (by omega)
theorem and15 (u : Nat) (h : u < 18446744073709551616) : bits BinOp.and IntKind.u64 (u : Int) 15 = ((u % 16 : Nat) : Int) := by
  have := bits_and_u64_nat u 15 h (by omega)
  rw [show ((15 : Nat) : Int) = 15 from rfl] at this
  rw [this]
  have e : u &&& 15 = u % 16 := Nat.and_two_pow_sub_one_eq_mod u 4
  rw [e]
theorem arrayLen65 : Tryz.prog.arrayLen 122 = 65 := by kernel_rfl
theorem elem65 : Tryz.prog.elem 122 = 5 := by kernel_rfl
theorem under65 : Tryz.prog.underlying 122 = some (.array (Tryz.prog.arrayLen 122) (Tryz.prog.elem 122)) := by kernel_rfl
theorem sizeOf5 (W : World) : (sizeOf 5).run Tryz.prog W = .ok 1 W := by kernel_rfl
theorem slice65 (g k : Nat) (hk : k < 65) (W : World) : (Instr.sliceAt 122 (.pointer (some ⟨g, 0, none⟩)) (some (.int .i64 k)) none none).run Tryz.prog W = .ok (.slice (some ⟨g, k, none⟩) (65 - k) (65 - k)) W := by
  rw [run_sliceAt_array_l W 122 ⟨g, 0, none⟩ under65 .i64 k (by omega) (by rw [arrayLen65]; omega), elem65, sizeOf5, arrayLen65]
  simp only [Result.andThen, slicedAt, Int.toNat_natCast]
  rw [if_neg (by omega)]
  congr 3
  unfold Addr.add
  split <;> simp_all
end Go.Proofs.YtnifcgiajjmogaaGreatDoor.C
