/-
  Contracts of strconv's writing of a number in base 16.
-/
import Derived.Test.YtkijkkhjlfllnaaDoorCellF
import Derived.Test.YtkijkkhjlfllnaaDoorCellH
import Derived.WalkLawsBesides
import Derived.Laws.CopyRow
import Derived.Laws.BitsAllLaws
namespace Go.Proofs.YtkijkkhjlfllnaaDoor.C
open Go.RowKit

/-- the one place of the library's table that base 16 asks for -/
def Tab (w : World) : Prop := w.cell? ⟨2, 15, none⟩ = some (.int .u8 4)

set_option maxHeartbeats 1000000 in
theorem tz64_16 (w : World) (h : w.cell? ⟨2, 15, none⟩ = some (.int .u8 4)) : Calls Tryd.prog 54 #[.int .u64 16] w fun e w' => e = .returned (.int .i64 4) ∧ w = w' := by
  have key : IntKind.u64.wrap (bits BinOp.and IntKind.u64 16 (IntKind.u64.wrap (-16)) * 285870213051353865) / 288230376151711744 = 15 := by decide +kernel
  go_enter Tryd.func54, Tryd.ntmps54
  go_wp2_with (simp only [key])
  all_goals go_ret
  all_goals exact ⟨rfl, rfl⟩

set_option maxHeartbeats 1000000 in
theorem isPow_16 (w : World) : Calls Tryd.prog 51 #[.int .i64 16] w fun e w' => e = .returned (.bool true) ∧ w = w' := by
  go_enter Tryd.func51, Tryd.ntmps51
  go_wp2
  all_goals go_ret
  all_goals exact ⟨rfl, rfl⟩

set_option maxHeartbeats 1000000 in
theorem tz_16 (w : World) (h : w.cell? ⟨2, 15, none⟩ = some (.int .u8 4)) : Calls Tryd.prog 52 #[.int .u64 16] w fun e w' => e = .returned (.int .i64 4) ∧ w = w' := by
  go_enter Tryd.func52, Tryd.ntmps52
  go_wp2_with fail
  refine (tz64_16 w h).mono ?_
  rintro e w' ⟨rfl, rfl⟩
  go_wp2
  all_goals go_ret
  all_goals exact ⟨rfl, rfl⟩

theorem info5 : (Tryd.prog.info? 5).map (fun i => (i.zero, i.size, i.bytes)) = some (some (.int .u8 0), 1, 1) := by kernel_rfl

/-- an array of 65 bytes, all 0 -/
def zeros65 : Array Value := (Lib.byteCells (List.replicate 65 0)).toArray
theorem zeroArray (w : World) : (zeroValue 73).run Tryd.prog w = .ok (.agg zeros65) w := by kernel_rfl

/-- the array's block while digits are laid from its end on -/
def Digits (w : World) (g k : Nat) (d : List UInt8) : Prop := ∃ z : List UInt8, z.length = k ∧ w.heap[g]? = some (.cells (Lib.byteCells (z ++ d)).toArray 73 (0, 0))

theorem digits_start (w : World) : Digits (w.alloc (.cells zeros65 73)) w.heap.size 65 [] :=
  ⟨List.replicate 65 0, by simp, by rw [List.append_nil]; exact heap_alloc_new w _⟩
theorem digits_cell {w : World} {g k : Nat} {d : List UInt8} (h : Digits w g (k + 1) d) : ∃ x, w.cell? ⟨g, k, none⟩ = some (.int .u8 x) := by
  obtain ⟨z, hz, hg⟩ := h
  have hk : k < (z ++ d).length := by simp; omega
  refine ⟨((z ++ d)[k]).toNat, ?_⟩
  rw [cell_of_row w g k _ _ _ hg]
  simp only [Lib.byteCells, List.getElem?_toArray, List.getElem?_map, List.getElem?_eq_getElem hk, Option.map_some]
theorem digits_frozen {w : World} {g k : Nat} {d : List UInt8} (h : Digits w g (k + 1) d) : w.frozen? ⟨g, k, none⟩ = false := by
  obtain ⟨z, hz, hg⟩ := h
  simp [World.frozen?, hg]
theorem digits_set {w : World} {g k : Nat} {d : List UInt8} (h : Digits w g (k + 1) d) (c : UInt8) : Digits (w.setCell ⟨g, k, none⟩ (.int .u8 c.toNat)) g k (c :: d) := by
  obtain ⟨z, hz, hg⟩ := h
  refine ⟨z.take k, by simp; omega, ?_⟩
  simp only [World.setCell, Array.getElem?_modify, hg]
  simp only [if_true, Option.map_some, Option.some.injEq, Obj.cells.injEq, and_true]
  simp only [Lib.byteCells, List.setIfInBounds_toArray]
  congr 1
  rw [← List.map_set (f := fun b : UInt8 => Value.int .u8 b.toNat)]
  congr 1
  obtain ⟨z', y, rfl⟩ : ∃ z' y, z = z' ++ [y] := ⟨z.dropLast, z.getLast (by intro e; subst e; simp at hz), (List.dropLast_concat_getLast _).symm⟩
  simp at hz
  subst hz
  simp
theorem digits_cells {w : World} {g k : Nat} {d : List UInt8} (h : Digits w g k d) : ∀ j u, (Lib.byteCells d)[j]? = some u → w.cell? ((⟨g, k, none⟩ : Addr).add j) = some u := by
  obtain ⟨z, hz, hg⟩ := h
  intro j u hu
  have e : (⟨g, k, none⟩ : Addr).add j = ⟨g, k + j, none⟩ := by
    unfold Addr.add; split
    · subst_vars; rfl
    · rfl
  rw [e, cell_of_row w g (k + j) _ _ _ hg, ← hu]
  simp only [Lib.byteCells, List.map_append, List.getElem?_toArray]
  rw [List.getElem?_append_right (by simp; omega)]
  simp [hz]

theorem own_keep {w w' : World} {base : Nat} {e : TypeId} {size : Nat} {v : Value} {n : Nat} {xs : List Value} (h : w.ownsRow base e size v n xs) (hb : Below w.heap.size w w') : w'.ownsRow base e size v n xs := by
  refine ⟨h.1, ?_⟩
  rcases h.2 with h1 | ⟨g, cap, cur, h1, h2, h3, h4⟩
  · exact .inl h1
  · exact .inr ⟨g, cap, cur, h1, h2, (hb.block g (Array.getElem?_eq_some_iff.1 h3).1).trans h3, h4⟩
theorem dig_at : ∀ (x : Nat) (h : x < (ByteArray.mk #[48, 49, 50, 51, 52, 53, 54, 55, 56, 57, 97, 98, 99, 100, 101, 102, 103, 104, 105, 106, 107, 108, 109, 110, 111, 112, 113, 114, 115, 116, 117, 118, 119, 120, 121, 122]).size), x < 16 → (ByteArray.mk #[48, 49, 50, 51, 52, 53, 54, 55, 56, 57, 97, 98, 99, 100, 101, 102, 103, 104, 105, 106, 107, 108, 109, 110, 111, 112, 113, 114, 115, 116, 117, 118, 119, 120, 121, 122])[x]'h = dig x
  | 0, _, _ => rfl
  | 1, _, _ => rfl
  | 2, _, _ => rfl
  | 3, _, _ => rfl
  | 4, _, _ => rfl
  | 5, _, _ => rfl
  | 6, _, _ => rfl
  | 7, _, _ => rfl
  | 8, _, _ => rfl
  | 9, _, _ => rfl
  | 10, _, _ => rfl
  | 11, _, _ => rfl
  | 12, _, _ => rfl
  | 13, _, _ => rfl
  | 14, _, _ => rfl
  | 15, _, _ => rfl
  | (x + 16), _, h => absurd h (by omega)
theorem and15 (u : Nat) (h : u < 18446744073709551616) : bits BinOp.and IntKind.u64 (u : Int) 15 = ((u % 16 : Nat) : Int) := by
  have := bits_and_u64_nat u 15 h (by omega)
  rw [show ((15 : Nat) : Int) = 15 from rfl] at this
  rw [this]
  have e : u &&& 15 = u % 16 := Nat.and_two_pow_sub_one_eq_mod u 4
  rw [e]
theorem byteCells_one (l : List UInt8) : ∀ v ∈ Lib.byteCells l, v.oneCell' = true := by
  intro v hv
  simp only [Lib.byteCells, List.mem_map] at hv
  obtain ⟨b, _, rfl⟩ := hv
  rfl

theorem arrayLen65 : Tryd.prog.arrayLen 73 = 65 := by kernel_rfl
theorem elem65 : Tryd.prog.elem 73 = 5 := by kernel_rfl
theorem under65 : Tryd.prog.underlying 73 = some (.array (Tryd.prog.arrayLen 73) (Tryd.prog.elem 73)) := by kernel_rfl
theorem sizeOf5 (W : World) : (sizeOf 5).run Tryd.prog W = .ok 1 W := by kernel_rfl
theorem slice65 (g k : Nat) (hk : k < 65) (W : World) : (Instr.sliceAt 73 (.pointer (some ⟨g, 0, none⟩)) (some (.int .i64 k)) none none).run Tryd.prog W = .ok (.slice (some ⟨g, k, none⟩) (65 - k) (65 - k)) W := by
  rw [run_sliceAt_array_l W 73 ⟨g, 0, none⟩ under65 .i64 k (by omega) (by rw [arrayLen65]; omega), elem65, sizeOf5, arrayLen65]
  simp only [Result.andThen, slicedAt, Int.toNat_natCast]
  rw [if_neg (by omega)]
  congr 3
  unfold Addr.add
  split <;> simp_all

/-- what an append of bytes leaves -/
def Grew (B : Nat) (w : World) (n : Nat) (xs : List UInt8) (v' : Value) (w' : World) : Prop := w'.ownsRow B 5 1 v' n (Lib.byteCells xs) ∧ Below B w w'

set_option maxHeartbeats 1000000 in
theorem formatBits_16 (w : World) (B : Nat) (v : Value) (n : Nat) (xs : List UInt8) (u : Nat) (hu : u < 16 ^ 16) (hT : w.cell? ⟨2, 15, none⟩ = some (.int .u8 4)) (hB : B ≤ w.heap.size) (hown : w.ownsRow B 5 1 v n (Lib.byteCells xs)) (hn : n ≤ 1099511627776) :
    Calls Tryd.prog 47 #[v, .int .u64 u, .int .i64 16, .bool false, .bool true] w fun e w' => ∃ v', e = .returned (.tuple #[v', .string ⟨#[]⟩]) ∧ Grew B w (n + (hexL u).length) (xs ++ hexL u) v' w' := by
  obtain ⟨i0, hi, hz0, hz1, hz2⟩ := info_parts info5
  have HO := Lib.hid hown
  have HU := Lib.hid hu
  clear hown hu
  have hz := zeroArray
  have hT1 : ∀ o, (w.alloc o).cell? ⟨2, 15, none⟩ = some (.int .u8 4) := fun o => by rw [World.cell?_alloc_lt w o _ (World.block_lt_of_cell? w _ hT)]; exact hT
  go_enter Tryd.func47, Tryd.ntmps47
  go_wp2_with fail
  refine (isPow_16 _).mono ?_
  rintro e w' ⟨rfl, rfl⟩
  go_wp2_with fail
  refine (tz_16 _ (hT1 _)).mono ?_
  rintro e w' ⟨rfl, rfl⟩
  go_wp2_with fail
  go_loopw [1, 13] (fun uv iv wr => ∃ (uu k : Nat) (d : List UInt8), uv = .int .u64 uu ∧ iv = .int .i64 k ∧ uu < 18446744073709551616 ∧ HexSt u uu d k ∧ Digits wr w.heap.size k d ∧ Below w.heap.size w wr) (fun uv _ _ => (intOf uv).toNat)
  case atStart => exact ⟨u, 65, [], rfl, rfl, by have := HU.out; simpa using this, hexSt_zero HU.out, digits_start w, (Below.refl _ _).alloc (Nat.le_refl _) _⟩
  case round =>
    obtain ⟨uu, k, d, rfl, rfl, huu, hst, hdg, hb⟩ := hrel
    obtain ⟨hk1, hk2⟩ := hexSt_left hst
    obtain ⟨k, rfl⟩ : ∃ k', k = k' + 1 := ⟨k - 1, by omega⟩
    obtain ⟨x, hcell⟩ := digits_cell hdg
    have hfz := digits_frozen hdg
    have HS := Lib.hid hst
    have HD := Lib.hid hdg
    clear hst hdg
    by_cases hlt : uu < 16
    · have hend := hexSt_end HS.out hlt
      have hlen : (dig uu :: d).length = 65 - k := by have := HS.out.2.1; simp; omega
      have hdg2 : ∀ h, Digits (wr.setCell ⟨w.heap.size, k, none⟩ (.int .u8 ((ByteArray.mk #[48, 49, 50, 51, 52, 53, 54, 55, 56, 57, 97, 98, 99, 100, 101, 102, 103, 104, 105, 106, 107, 108, 109, 110, 111, 112, 113, 114, 115, 116, 117, 118, 119, 120, 121, 122])[uu]'h).toNat)) w.heap.size k (dig uu :: d) := fun h => by rw [dig_at _ _ hlt]; exact digits_set HD.out _
      have HE := Lib.hid hend
      have HL := Lib.hid hlen
      have HD2 := Lib.hid hdg2
      clear hend hlen hdg2
      have hsl := slice65 w.heap.size k (by omega)
      go_wp2_with (at_builtin; (refine wpList_append_own _ rfl _ _ 22 rfl B 5 i0 (.int .u8 0) 1 1 Tryd.underlying22 hi hz0 hz1 hz2 rfl (by decide) v n (Lib.byteCells xs) rfl (own_keep HO.out (hb.setCell (Nat.le_refl _) _)) ⟨w.heap.size, k, none⟩ (65 - k) (65 - k) (Lib.byteCells (dig uu :: d)) rfl (by rw [Lib.byteCells_length, HL.out]; omega) (digits_cells (HD2.out _)) (byteCells_one _) (by unfold maxLen; omega) (by omega) (by have := hb.size; simp [World.setCell]; omega) ?_); intro v' w3 hown' hgrow _)
      go_ret2
      refine ⟨v', rfl, ?_, ?_⟩
      · rw [HE.out, HL.out, Lib.byteCells_append]
        exact hown'
      · exact ((hb.mono hB).setCell hB _).grown hgrow (by have := hb.size; simp [World.setCell]; omega) (fun k hk => (HO.out.lt k hk).1)
    · have hand := and15 uu huu
      have hm : uu % 16 < 16 := Nat.mod_lt _ (by omega)
      go_wp2
      go_roundw
      case rel => exact ⟨uu / 16, k, dig (uu % 16) :: d, by go_num, rfl, by omega, hexSt_step HS.out hlt, by rw [dig_at _ _ hm]; exact digits_set HD.out _, hb.setCell (Nat.le_refl _) _⟩
      case measure => simp [intOf]; omega

set_option maxHeartbeats 1000000 in
theorem appendUint_16 (w : World) (B : Nat) (v : Value) (n : Nat) (xs : List UInt8) (u : Nat) (hu : u < 1152921504606846976) (hT : w.cell? ⟨2, 15, none⟩ = some (.int .u8 4)) (hB : B ≤ w.heap.size) (hown : w.ownsRow B 5 1 v n (Lib.byteCells xs)) (hn : n ≤ 1099511627776) :
    Calls Tryd.prog 43 #[v, .int .u64 u, .int .i64 16] w fun e w' => ∃ v', e = .returned v' ∧ Grew B w (n + (hexL u).length) (xs ++ hexL u) v' w' := by
  have HO := Lib.hid hown
  clear hown
  go_enter Tryd.func43, Tryd.ntmps43
  go_wp2_with fail
  refine (formatBits_16 w B v n xs u (Nat.lt_of_lt_of_le hu (by decide)) hT hB HO.out hn).mono ?_
  rintro e w1 ⟨v', rfl, hg⟩
  have HG := Lib.hid hg
  clear hg
  go_wp2
  go_ret
  exact ⟨v', rfl, HG.out⟩

set_option maxHeartbeats 1000000 in
theorem appendInt_16 (w : World) (B : Nat) (v : Value) (n : Nat) (xs : List UInt8) (u : Nat) (hu : u < 1152921504606846976) (hT : w.cell? ⟨2, 15, none⟩ = some (.int .u8 4)) (hB : B ≤ w.heap.size) (hown : w.ownsRow B 5 1 v n (Lib.byteCells xs)) (hn : n ≤ 1099511627776) :
    Calls Tryd.prog 42 #[v, .int .i64 u, .int .i64 16] w fun e w' => ∃ v', e = .returned v' ∧ Grew B w (n + (hexL u).length) (xs ++ hexL u) v' w' := by
  have HO := Lib.hid hown
  clear hown
  go_enter Tryd.func42, Tryd.ntmps42
  go_wp2_with fail
  refine (appendUint_16 w B v n xs u hu hT hB HO.out hn).mono ?_
  rintro e w1 ⟨v', rfl, hg⟩
  have HG := Lib.hid hg
  clear hg
  go_wp2
  go_ret
  exact ⟨v', rfl, HG.out⟩

set_option maxHeartbeats 1000000 in
theorem strconvAppendInt_16 (w : World) (B : Nat) (v : Value) (n : Nat) (xs : List UInt8) (u : Nat) (hu : u < 1152921504606846976) (hT : w.cell? ⟨2, 15, none⟩ = some (.int .u8 4)) (hB : B ≤ w.heap.size) (hown : w.ownsRow B 5 1 v n (Lib.byteCells xs)) (hn : n ≤ 1099511627776) :
    Calls Tryd.prog 38 #[v, .int .i64 u, .int .i64 16] w fun e w' => ∃ v', e = .returned v' ∧ Grew B w (n + (hexL u).length) (xs ++ hexL u) v' w' := by
  have HO := Lib.hid hown
  clear hown
  go_enter Tryd.func38, Tryd.ntmps38
  go_wp2_with fail
  refine (appendInt_16 w B v n xs u hu hT hB HO.out hn).mono ?_
  rintro e w1 ⟨v', rfl, hg⟩
  have HG := Lib.hid hg
  clear hg
  go_wp2
  go_ret
  exact ⟨v', rfl, HG.out⟩
end Go.Proofs.YtkijkkhjlfllnaaDoor.C
