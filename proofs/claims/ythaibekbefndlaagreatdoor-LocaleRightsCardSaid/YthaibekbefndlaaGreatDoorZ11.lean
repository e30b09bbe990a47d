/-
  Joined: LeB, MCellG, MUtfW, MUtfG, LeI. Each with what its own head says.
-/
import Derived.Lib.AppendStr
import Derived.Lib.QuoteHex
import Derived.Lib.BufferRead
import Derived.Shelf.Bytes.SlSmallAll
import Derived.Test.YthaibekbefndlaaGreatDoorZ06
import Derived.Test.YthaibekbefndlaaGreatDoorZ05
import Derived.Test.YthaibekbefndlaaGreatDoorZ09
import Derived.Test.YthaibekbefndlaaGreatDoorZ07

namespace Go.Proofs.YthaibekbefndlaaGreatDoor.C
open Go.RowKit

set_option maxRecDepth 100000 in
set_option maxHeartbeats 1000000 in
theorem isOf_any (cut s : ByteArray) (w : World) (r : Bool) (hr : (!(s.size == 0) && AllIn cut.data.toList s) = r) (hs : s.size ≤ 9223372036854775807) (h2 : 2 ≤ cut.size) (hcs : cut.size < 4294967281) (hascii : ∀ (j : Nat) b, cut.data.toList[j]? = some b → b.toNat < 128) :
  Calls Tryz.prog 57 #[.string cut, .string s] w fun e w' => e = .returned (.bool r) ∧ Below w.heap.size w w' := by
 have ht := trim_any s cut w hs h2 hcs hascii
 unfold TrimmedTold at ht
 by_cases h0 : s.size = 0
 ·have hse : s.toList.isEmpty = true := by rw [isEmpty_size, h0]; rfl
  have hrf : r = false := by rw [← hr, h0]; rfl
  subst hrf
  clear ht hr h0
  go_enter Tryz.func57, Tryz.ntmps57
  go_wp2
  go_ret
  exact ⟨rfl, Below.refl _ _⟩
 have hse : s.toList.isEmpty = false := by rw [isEmpty_size]; exact beq_eq_false_iff_ne.2 h0
 have hr2 : AllIn cut.data.toList s = r := by rw [← hr, beq_eq_false_iff_ne.2 h0]; rfl
 rw [hr2] at ht
 clear hr hr2 h0 hascii
 go_enter Tryz.func57, Tryz.ntmps57
 go_wp2_with fail
 refine ht.mono ?_
 rintro e w1 ⟨⟨z, rfl, hz⟩, hb⟩
 have hze : z.toList.isEmpty = r := by rw [isEmpty_size, hz]
 have HB := Lib.hid hb
 clear hz hb ht
 go_wp2
 go_ret
 exact ⟨rfl, HB.out⟩
def wSigns : ByteArray := ⟨#[97, 98, 99, 100, 101, 102, 103, 104, 105, 106, 107, 108, 109, 110, 111, 112, 113, 114, 115, 116, 117, 118, 119, 120, 121, 122, 65, 66, 67, 68, 69, 70, 71, 72, 73, 74, 75, 76, 77, 78, 79, 80, 81, 82, 83, 84, 85, 86, 87, 88, 89, 90, 48, 49, 50, 51, 52, 53, 54, 55, 56, 57, 45, 95]⟩
def hSigns : ByteArray := ⟨#[48, 49, 50, 51, 52, 53, 54, 55, 56, 57, 97, 98, 99, 100, 101, 102, 65, 66, 67, 68, 69, 70]⟩
theorem w_signs : ∀ b : UInt8, wSigns.data.toList.contains b = isW b := by
 have : ∀ n : Fin 256, wSigns.data.toList.contains (UInt8.ofNat n.val) = isW (UInt8.ofNat n.val) := by decide +kernel
 intro b
 have h := this ⟨b.toNat, UInt8.toNat_lt b⟩
 simpa using h
theorem h_signs : ∀ b : UInt8, hSigns.data.toList.contains b = (digV b).isSome := by
 have : ∀ n : Fin 256, hSigns.data.toList.contains (UInt8.ofNat n.val) = (digV (UInt8.ofNat n.val)).isSome := by decide +kernel
 intro b
 have h := this ⟨b.toNat, UInt8.toNat_lt b⟩
 simpa using h
theorem w_ascii : ∀ (j : Nat) b, wSigns.data.toList[j]? = some b → b.toNat < 128 := by
 intro j b hb
 have := List.mem_of_getElem? hb
 revert this
 exact (show ∀ b ∈ wSigns.data.toList, b.toNat < 128 by decide) b
theorem h_ascii : ∀ (j : Nat) b, hSigns.data.toList[j]? = some b → b.toNat < 128 := by
 intro j b hb
 have := List.mem_of_getElem? hb
 revert this
 exact (show ∀ b ∈ hSigns.data.toList, b.toNat < 128 by decide) b
theorem all_eq {α : Type} {p q : α → Bool} (h : ∀ x, p x = q x) (l : List α) : l.all p = l.all q := by rw [show p = q from funext h]
theorem isEmpty_list (s : ByteArray) : (s.size == 0) = s.data.toList.isEmpty := by rw [← isEmpty_size, Lib.toList_data]
theorem isWord_any (s : ByteArray) (w : World) (hs : s.size ≤ 9223372036854775807) : Calls Tryz.prog 57 #[.string ⟨#[97, 98, 99, 100, 101, 102, 103, 104, 105, 106, 107, 108, 109, 110, 111, 112, 113, 114, 115, 116, 117, 118, 119, 120, 121, 122, 65, 66, 67, 68, 69, 70, 71, 72, 73, 74, 75, 76, 77, 78, 79, 80, 81, 82, 83, 84, 85, 86, 87, 88, 89, 90, 48, 49, 50, 51, 52, 53, 54, 55, 56, 57, 45, 95]⟩, .string s] w fun e w' => e = .returned (.bool (wordlyB s.data.toList)) ∧ Below w.heap.size w w' :=
 isOf_any wSigns s w _ (by unfold wordlyB AllIn; rw [isEmpty_list, all_eq w_signs]) hs (by decide) (by decide) w_ascii
theorem isHex_any (s : ByteArray) (w : World) (hs : s.size ≤ 9223372036854775807) : Calls Tryz.prog 57 #[.string ⟨#[48, 49, 50, 51, 52, 53, 54, 55, 56, 57, 97, 98, 99, 100, 101, 102, 65, 66, 67, 68, 69, 70]⟩, .string s] w fun e w' => e = .returned (.bool (!s.data.toList.isEmpty && s.data.toList.all fun b => (digV b).isSome)) ∧ Below w.heap.size w w' :=
 isOf_any hSigns s w _ (by unfold AllIn; rw [isEmpty_list, all_eq h_signs]) hs (by decide) (by decide) h_ascii
theorem hexN_all : ∀ (d : List UInt8) (n : Nat), (hexN d n).isSome = d.all fun b => (digV b).isSome
 | [], n => rfl
 | b :: r, n => by
  unfold hexN
  cases h : digV b with
  | none => simp [h]
  | some v =>
   simp only [List.all_cons, h, Option.isSome_some, Bool.true_and]
   exact hexN_all r _

set_option maxRecDepth 100000 in
set_option maxHeartbeats 2000000 in
theorem isRange_any (w : World) (r : Int × Int) : Calls Tryz.prog 59 #[.agg #[.int .i32 r.1, .int .i32 r.2]] w fun e w' => e = .returned (.bool (rangeB r)) ∧ Below w.heap.size w w' := by
 obtain ⟨a, b⟩ := r
 obtain ⟨W, hW⟩ : ∃ W, W = w.alloc (.cells #[.int .i32 a, .int .i32 b] 51) := ⟨_, rfl⟩
 have hb : Below w.heap.size w W := by rw [hW]; exact (Below.refl _ _).alloc (Nat.le_refl _) _
 have HB := Lib.hid hb
 have h1 := fun W => isScalar_any a W
 have h2 := fun W => isScalar_any b W
 have hr : rangeB (a, b) = (scalB a && scalB b && decide (a ≤ b)) := rfl
 rw [hr]
 clear hr hb
 have hal : ∀ W, Calls Tryz.prog 63 #[.int .i32 a] W fun e w' => e = .returned (.bool (scalB a)) ∧ w' = W := h1
 cases ha : scalB a with
 | false =>
  rw [ha] at h1
  clear h2
  go_enter Tryz.func59, Tryz.ntmps59
  go_wp2_with (go_at_call 63; refine (h1 _).mono ?_; rintro e w' ⟨rfl, rfl⟩)
  go_ret
  rw [← hW]
  exact ⟨rfl, HB.out⟩
 | true =>
  rw [ha] at h1
  cases hb2 : scalB b with
  | false =>
   rw [hb2] at h2
   clear ha hb2 hal
   go_enter Tryz.func59, Tryz.ntmps59
   go_wp2_with (first
    | (go_at_call 63; with_reducible refine (h1 _).mono ?_; rintro e w' ⟨rfl, rfl⟩)
    | (go_at_call 63; with_reducible refine (h2 _).mono ?_; rintro e w' ⟨rfl, rfl⟩))
   go_ret
   rw [← hW]
   exact ⟨rfl, HB.out⟩
  | true =>
   rw [hb2] at h2
   clear ha hb2 hal
   go_enter Tryz.func59, Tryz.ntmps59
   go_wp2_with (first
    | (go_at_call 63; with_reducible refine (h1 _).mono ?_; rintro e w' ⟨rfl, rfl⟩)
    | (go_at_call 63; with_reducible refine (h2 _).mono ?_; rintro e w' ⟨rfl, rfl⟩))
   go_ret
   rw [← hW]
   exact ⟨rfl, HB.out⟩
end Go.Proofs.YthaibekbefndlaaGreatDoor.C

namespace Go.Proofs.YthaibekbefndlaaGreatDoor.C
open Go.RowKit

theorem info5 : (Tryz.prog.info? 5).map (fun i => (i.zero, i.size, i.bytes)) = some (some (.int .u8 0), 1, 1) := by kernel_rfl

theorem byteCells_one (l : List UInt8) : ∀ v ∈ Lib.byteCells l, v.oneCell' = true := by
 intro v hv
 simp only [Lib.byteCells, List.mem_map] at hv
 obtain ⟨b, _, rfl⟩ := hv
 rfl

def Grew (B : Nat) (w : World) (n : Nat) (xs : List UInt8) (v' : Value) (w' : World) : Prop := w'.ownsRow B 5 1 v' n (Lib.byteCells xs) ∧ Below B w w'

set_option maxRecDepth 100000 in
set_option maxHeartbeats 1000000 in
theorem formatBits_16 (w : World) (B : Nat) (v : Value) (n : Nat) (xs : List UInt8) (u : Nat) (hu : u < 16 ^ 16) (hT : w.cell? ⟨10, 15, none⟩ = some (.int .u8 4)) (hB : B ≤ w.heap.size) (hown : w.ownsRow B 5 1 v n (Lib.byteCells xs)) (hn : n ≤ 1099511627776) :
  Calls Tryz.prog 233 #[v, .int .u64 u, .int .i64 16, .bool false, .bool true] w fun e w' => ∃ v', e = .returned (.tuple #[v', .string ⟨#[]⟩]) ∧ Grew B w (n + (hexL u).length) (xs ++ hexL u) v' w' := by
 obtain ⟨i0, hi, hz0, hz1, hz2⟩ := info_parts info5
 have HO := Lib.hid hown
 have HU := Lib.hid hu
 clear hown hu
 have hz := zeroArray
 have hT1 : ∀ o, (w.alloc o).cell? ⟨10, 15, none⟩ = some (.int .u8 4) := fun o => by rw [World.cell?_alloc_lt w o _ (World.block_lt_of_cell? w _ hT)]; exact hT
 go_enter Tryz.func233, Tryz.ntmps233
 go_wp2_with fail
 refine (isPow_16 _).mono ?_
 rintro e w' ⟨rfl, rfl⟩
 go_wp2_with fail
 refine (tz_16 _ (hT1 _)).mono ?_
 rintro e w' ⟨rfl, rfl⟩
 go_wp2_with fail
 go_loopw [1, 13] (fun uv iv wr => ∃ (uu k : Nat) (d : List UInt8), uv = .int .u64 uu ∧ iv = .int .i64 k ∧ uu < 18446744073709551616 ∧ HexSt u uu d k ∧ Digits wr w.heap.size k d ∧ Below w.heap.size w wr) (fun uv _ _ => (intOf uv).toNat)
 case atStart => exact ⟨u, 65, [], rfl, rfl, by have := HU.out; simpa using this, hexSt_zero HU.out, digits_start w, (Below.refl _ _).alloc (Nat.le_refl _) _⟩
 case round =>
  obtain ⟨uu, k, d, rfl, rfl, huu, hst, hdg, hb⟩ := hrel
  obtain ⟨hk1, hk2⟩ := hexSt_left hst
  obtain ⟨k, rfl⟩ : ∃ k', k = k' + 1 := ⟨k - 1, by omega⟩
  obtain ⟨x, hcell⟩ := digits_cell hdg
  have hfz := digits_frozen hdg
  have HS := Lib.hid hst
  have HD := Lib.hid hdg
  clear hst hdg
  by_cases hlt : uu < 16
  ·have hend := hexSt_end HS.out hlt
   have hlen : (dig uu :: d).length = 65 - k := by have := HS.out.2.1; simp; omega
   have hdg2 : ∀ h, Digits (wr.setCell ⟨w.heap.size, k, none⟩ (.int .u8 ((ByteArray.mk #[48, 49, 50, 51, 52, 53, 54, 55, 56, 57, 97, 98, 99, 100, 101, 102, 103, 104, 105, 106, 107, 108, 109, 110, 111, 112, 113, 114, 115, 116, 117, 118, 119, 120, 121, 122])[uu]'h).toNat)) w.heap.size k (dig uu :: d) := fun h => by rw [dig_at _ _ hlt]; exact digits_set HD.out _
   have HE := Lib.hid hend
   have HL := Lib.hid hlen
   have HD2 := Lib.hid hdg2
   clear hend hlen hdg2
   have hsl := slice65 w.heap.size k (by omega)
   go_wp2_with (at_builtin; (refine wpList_append_own _ rfl _ _ 38 rfl B 5 i0 (.int .u8 0) 1 1 Tryz.underlying38 hi hz0 hz1 hz2 rfl (by decide) v n (Lib.byteCells xs) rfl (own_keep HO.out (hb.setCell (Nat.le_refl _) _)) ⟨w.heap.size, k, none⟩ (65 - k) (65 - k) (Lib.byteCells (dig uu :: d)) rfl (by rw [Lib.byteCells_length, HL.out]; omega) (digits_cells (HD2.out _)) (byteCells_one _) (by unfold maxLen; omega) (by omega) (by have := hb.size; simp [World.setCell]; omega) ?_); intro v' w3 hown' hgrow _)
   go_ret2
   refine ⟨v', rfl, ?_, ?_⟩
   ·rw [HE.out, HL.out, Lib.byteCells_append]
    exact hown'
   ·exact ((hb.mono hB).setCell hB _).grown hgrow (by have := hb.size; simp [World.setCell]; omega) (fun k hk => (HO.out.lt k hk).1)
  ·have hand := and15 uu huu
   have hm : uu % 16 < 16 := Nat.mod_lt _ (by omega)
   go_wp2
   go_roundw
   case rel => exact ⟨uu / 16, k, dig (uu % 16) :: d, by go_num, rfl, by omega, hexSt_step HS.out hlt, by rw [dig_at _ _ hm]; exact digits_set HD.out _, hb.setCell (Nat.le_refl _) _⟩
   case measure => simp [intOf]; omega

set_option maxRecDepth 100000 in
set_option maxHeartbeats 1000000 in
theorem appendUint_16 (w : World) (B : Nat) (v : Value) (n : Nat) (xs : List UInt8) (u : Nat) (hu : u < 1152921504606846976) (hT : w.cell? ⟨10, 15, none⟩ = some (.int .u8 4)) (hB : B ≤ w.heap.size) (hown : w.ownsRow B 5 1 v n (Lib.byteCells xs)) (hn : n ≤ 1099511627776) :
  Calls Tryz.prog 209 #[v, .int .u64 u, .int .i64 16] w fun e w' => ∃ v', e = .returned v' ∧ Grew B w (n + (hexL u).length) (xs ++ hexL u) v' w' := by
 have HO := Lib.hid hown
 clear hown
 go_enter Tryz.func209, Tryz.ntmps209
 go_wp2_with fail
 refine (formatBits_16 w B v n xs u (Nat.lt_of_lt_of_le hu (by decide)) hT hB HO.out hn).mono ?_
 rintro e w1 ⟨v', rfl, hg⟩
 have HG := Lib.hid hg
 clear hg
 go_wp2
 go_ret
 exact ⟨v', rfl, HG.out⟩

set_option maxRecDepth 100000 in
set_option maxHeartbeats 1000000 in
theorem appendInt_16 (w : World) (B : Nat) (v : Value) (n : Nat) (xs : List UInt8) (u : Nat) (hu : u < 1152921504606846976) (hT : w.cell? ⟨10, 15, none⟩ = some (.int .u8 4)) (hB : B ≤ w.heap.size) (hown : w.ownsRow B 5 1 v n (Lib.byteCells xs)) (hn : n ≤ 1099511627776) :
  Calls Tryz.prog 193 #[v, .int .i64 u, .int .i64 16] w fun e w' => ∃ v', e = .returned v' ∧ Grew B w (n + (hexL u).length) (xs ++ hexL u) v' w' := by
 have HO := Lib.hid hown
 clear hown
 go_enter Tryz.func193, Tryz.ntmps193
 go_wp2_with fail
 refine (appendUint_16 w B v n xs u hu hT hB HO.out hn).mono ?_
 rintro e w1 ⟨v', rfl, hg⟩
 have HG := Lib.hid hg
 clear hg
 go_wp2
 go_ret
 exact ⟨v', rfl, HG.out⟩

set_option maxRecDepth 100000 in
set_option maxHeartbeats 1000000 in
theorem strconvAppendInt_16 (w : World) (B : Nat) (v : Value) (n : Nat) (xs : List UInt8) (u : Nat) (hu : u < 1152921504606846976) (hT : w.cell? ⟨10, 15, none⟩ = some (.int .u8 4)) (hB : B ≤ w.heap.size) (hown : w.ownsRow B 5 1 v n (Lib.byteCells xs)) (hn : n ≤ 1099511627776) :
  Calls Tryz.prog 162 #[v, .int .i64 u, .int .i64 16] w fun e w' => ∃ v', e = .returned v' ∧ Grew B w (n + (hexL u).length) (xs ++ hexL u) v' w' := by
 have HO := Lib.hid hown
 clear hown
 go_enter Tryz.func162, Tryz.ntmps162
 go_wp2_with fail
 refine (appendInt_16 w B v n xs u hu hT hB HO.out hn).mono ?_
 rintro e w1 ⟨v', rfl, hg⟩
 have HG := Lib.hid hg
 clear hg
 go_wp2
 go_ret
 exact ⟨v', rfl, HG.out⟩
end Go.Proofs.YthaibekbefndlaaGreatDoor.C

namespace Go.Proofs.YthaibekbefndlaaGreatDoor.C
open Go.RowKit
open Go.Lib (decodeN)


theorem size_ext (s : ByteArray) (pos : Nat) : (s.extract pos s.size).size = s.size - pos := by simp
theorem gb_ext (s : ByteArray) (pos k : Nat) : gb (s.extract pos s.size) k = gb s (pos + k) := by
 simp only [gb_list]
 have hl : s.size = s.data.toList.length := (Array.length_toList (xs := s.data)).symm
 have he : (s.extract pos s.size).data.toList = s.data.toList.drop pos := by
  rw [Lib.extract_data]
  exact List.take_of_length_le (by rw [List.length_drop]; omega)
 rw [he]
 simp [List.getD_eq_getElem?_getD]
theorem first_ext (s : ByteArray) (pos : Nat) : First (s.extract pos s.size) = firstN (s.size - pos) (gb s pos) (gb s (pos + 1)) (gb s (pos + 2)) (gb s (pos + 3)) := by
 unfold First
 rw [size_ext, gb_ext, gb_ext, gb_ext, gb_ext, Nat.add_zero]
theorem first_good (s : ByteArray) (pos : Nat) (hp : pos < s.size) (h : ¬ decodeN (s.size - pos) (gb s pos) (gb s (pos + 1)) (gb s (pos + 2)) (gb s (pos + 3)) = (65533, 1)) :
  First (s.extract pos s.size) = Utf8.decode s pos ∧ cellAt s pos = ((Utf8.decode s pos).1 : Int) := by
 rw [first_ext, decode_gb, cellAt_eq s pos hp]
 unfold firstN cellN
 rw [if_neg h, if_neg h]
 exact ⟨rfl, rfl⟩
theorem first_wrong (s : ByteArray) (pos : Nat) (hp : pos < s.size) (h : decodeN (s.size - pos) (gb s pos) (gb s (pos + 1)) (gb s (pos + 2)) (gb s (pos + 3)) = (65533, 1)) :
  First (s.extract pos s.size) = (0, 0) ∧ cellAt s pos = -1 - (gb s pos : Int) ∧ (Utf8.decode s pos).2 = 1 := by
 rw [first_ext, decode_gb, cellAt_eq s pos hp]
 unfold firstN cellN
 rw [if_pos h, if_pos h, h]
 exact ⟨rfl, rfl, rfl⟩
theorem first_told (s : ByteArray) (w : World) (h1 : 1 ≤ s.size) (hmax : s.size ≤ maxLen) (F : Nat × Nat) (hF : First s = F) :
  Calls Tryz.prog 225 #[.string s] w fun e w' => e = .returned (.tuple #[.int .i32 (F.1 : Int), .int .i64 (F.2 : Int)]) ∧ Below w.heap.size w w' := by
 subst hF
 exact first_any s w h1 hmax

set_option maxHeartbeats 4000000 in
theorem refOf_any (s : ByteArray) (w : World) (hs : s.size ≤ 1099511627776) :
  Calls Tryz.prog 202 #[.string s] w fun e w' => ∃ v, e = .returned v ∧ w'.ownsRow w.heap.size 35 1 v (ofL s).length ((ofL s).map (Value.int .i32)) ∧ Below w.heap.size w w' := by
 obtain ⟨i0, hi, hz0, hz1, hz2⟩ := info_parts info33
 go_enter Tryz.func202, Tryz.ntmps202
 go_wp2
 go_loopw [3, 4] (fun v pv wr => ∃ (pos b : Nat) (acc : List Int), pv = .int .i64 pos ∧ OfSt s acc b pos ∧ Hid (wr.ownsRow w.heap.size 35 1 v acc.length (acc.map (Value.int .i32))) ∧ Below w.heap.size w wr) (fun _ pv _ => s.size - (intOf pv).toNat)
 case atStart => exact ⟨0, s.size, [], rfl, ofSt_zero s, World.ownsRow_nil _ _ _ _, Below.refl _ _⟩
 case round =>
  obtain ⟨pos, b, acc, rfl, hst, HW, hbr⟩ := hrel
  have HST := Lib.hid hst
  clear hst
  have hsz := hbr.size
  by_cases hp : pos < s.size
  ·obtain ⟨b', hst'⟩ := ofSt_step HST.out hp
   have HS' := Lib.hid hst'
   have hwd := Lib.decode_width_pos s pos hp
   clear hst'
   by_cases hbad : decodeN (s.size - pos) (gb s pos) (gb s (pos + 1)) (gb s (pos + 2)) (gb s (pos + 3)) = (65533, 1)
   ·obtain ⟨hF, hcv, hw1⟩ := first_wrong s pos hp hbad
    have HF := Lib.hid hF
    have HCV := Lib.hid hcv
    have HW1 := Lib.hid hw1
    have g0 := gb_get s pos hp
    have gl := gb_lt s pos
    clear hF hcv hw1 hbad hwd
    generalize gb s pos = b0 at *
    go_wp2_with fail
    refine (first_told (s.extract pos s.size) wr (by rw [size_ext]; omega) (by rw [size_ext]; unfold maxLen; omega) (0, 0) HF.out).mono ?_
    rintro e w1 ⟨rfl, hb1⟩
    have hs1 := hb1.size
    have HOW := Lib.hid (own_keep HW.out hb1)
    have hbW : Below w.heap.size w w1 := hbr.trans (hb1.mono hsz)
    go_wp2_with fail
    refine (refEscape_any (b0 : Int) w1 (by omega) (by omega)).mono ?_
    rintro e w' ⟨rfl, rfl⟩
    go_wp2_with (at_builtin; (refine wpList_append_own _ rfl _ _ 32 rfl w.heap.size 35 i0 (.int .i32 0) 1 4 Tryz.underlying32 hi hz0 hz1 hz2 rfl (by decide) _ _ _ rfl (HOW.out.alloc _) _ 1 1 [.int .i32 (-1 - (b0 : Int))] rfl rfl (cell_one_new _ _ _) (by intro u hu; simp at hu; subst hu; rfl) (by unfold maxLen; have := HST.out.2.2.2; omega) (by have := HST.out.2.2.2; omega) (by simp; omega) ?_); intro v' w3 hown' hgrow _; have HO3 := Lib.hid hown'; have HG3 := Lib.hid hgrow; clear hown' hgrow)
    go_roundw
    case rel => exact ⟨pos + (Utf8.decode s pos).2, b', acc ++ [cellAt s pos], by rw [HW1.out]; go_num, HS'.out, by have := HO3.out; rw [← HCV.out] at this; simpa [Hid] using this, ((hbW.alloc (by omega) _).grown HG3.out (by simp; omega) (fun k hk => (HOW.out.lt k hk).1))⟩
    case measure => simp [intOf]; omega
   ·obtain ⟨hF, hcv⟩ := first_good s pos hp hbad
    have HF := Lib.hid hF
    have HCV := Lib.hid hcv
    have hwl := decodeN_le (s.size - pos) (gb s pos) (gb s (pos + 1)) (gb s (pos + 2)) (gb s (pos + 3)) (by omega)
    rw [← decode_gb] at hwl
    clear hF hcv hbad
    go_wp2_with fail
    refine (first_told (s.extract pos s.size) wr (by rw [size_ext]; omega) (by rw [size_ext]; unfold maxLen; omega) _ HF.out).mono ?_
    rintro e w1 ⟨rfl, hb1⟩
    have hs1 := hb1.size
    have HOW := Lib.hid (own_keep HW.out hb1)
    have hbW : Below w.heap.size w w1 := hbr.trans (hb1.mono hsz)
    have n0 : (((Utf8.decode s pos).2 : Int) == 0) = false := by simp; omega
    go_wp2_with (at_builtin; (refine wpList_append_own _ rfl _ _ 32 rfl w.heap.size 35 i0 (.int .i32 0) 1 4 Tryz.underlying32 hi hz0 hz1 hz2 rfl (by decide) _ _ _ rfl (HOW.out.alloc _) _ 1 1 [.int .i32 ((Utf8.decode s pos).1 : Int)] rfl rfl (cell_one_new _ _ _) (by intro u hu; simp at hu; subst hu; rfl) (by unfold maxLen; have := HST.out.2.2.2; omega) (by have := HST.out.2.2.2; omega) (by simp; omega) ?_); intro v' w3 hown' hgrow _; have HO3 := Lib.hid hown'; have HG3 := Lib.hid hgrow; clear hown' hgrow)
    go_roundw
    case rel => exact ⟨pos + (Utf8.decode s pos).2, b', acc ++ [cellAt s pos], by go_num, HS'.out, by have := HO3.out; rw [← HCV.out] at this; simpa [Hid] using this, ((hbW.alloc (by omega) _).grown HG3.out (by simp; omega) (fun k hk => (HOW.out.lt k hk).1))⟩
    case measure => simp [intOf]; omega
  ·go_wp2
   go_ret
   refine ⟨_, rfl, ?_, hbr⟩
   rw [ofSt_end HST.out hp]
   exact HW.out
end Go.Proofs.YthaibekbefndlaaGreatDoor.C

namespace Go.Proofs.YthaibekbefndlaaGreatDoor.C
open Go.RowKit

theorem below_drewN {B : Nat} {a w : World} (h : Below B a w) (n : Nat) : Below B a (w.drewN n) := ⟨h.os, h.tape, h.output, h.size, h.block⟩
theorem conv_ri {w : World} {B n : Nat} {A : Option Addr} {zs : List Int} (h : RI .u8 w B A n zs) (c : Nat) : (convert 38 9 (.slice A n c)).run Tryz.prog w = .ok (.string (sb zs)) w := by
 rcases Nat.eq_zero_or_pos n with h0 | h0
 ·subst h0
  obtain rfl : zs = [] := List.eq_nil_of_length_eq_zero h.1
  exact run_convert_bytes_zero w 38 5 Tryz.underlying38 Tryz.underlying5 A c 9 Tryz.underlying9
 ·obtain ⟨b, off, rfl, _, hc⟩ := h.flat h0
  refine run_convert_bytes_arg w 38 5 Tryz.underlying38 Tryz.underlying5 b off n c zs h.1 (fun i hi => ?_) 9 Tryz.underlying9
  have hi' : i < zs.length := by rw [h.1]; exact hi
  rw [hc i zs[i] (List.getElem?_eq_getElem hi')]
  simp [List.getD_eq_getElem?_getD, List.getElem?_eq_getElem hi']
theorem own_slice2 {w : World} {base : Nat} {e : TypeId} {ki : IntKind} {v : Value} {n : Nat} {zs : List Int} (h : w.ownsRow base e 1 v n (zs.map (Value.int ki))) : ∃ A c, v = .slice A n c ∧ n ≤ c ∧ c ≤ maxLen ∧ RI ki w w.heap.size A n zs := by
 rcases h.2 with ⟨rfl, rfl⟩ | ⟨g, c, cur, rfl, _, _, hc, hm, _⟩
 ·have hz : zs = [] := List.eq_nil_of_length_eq_zero (by have := h.1; simpa using this)
  subst hz
  exact ⟨none, 0, rfl, Nat.le_refl _, Nat.zero_le _, RI.none_⟩
 ·exact ⟨_, c, rfl, hc, hm, RI.of_own h⟩
theorem RI.new (w : World) (ki : IntKind) (zs : List Int) (t : TypeId) : RI ki (w.alloc (.cells (zs.map (Value.int ki)).toArray t)) (w.heap.size + 1) (some ⟨w.heap.size, 0, none⟩) zs.length zs :=
 ⟨rfl, fun _ => ⟨_, rfl, Nat.lt_succ_self _, fun j u hu => by
  rw [add_plain, Nat.zero_add, World.cell?_alloc_new]
  simp [hu]⟩⟩

set_option maxHeartbeats 1000000 in
theorem canonical_any (w : World) (B : Nat) (A : Option Addr) (n c : Nat) (xs : List Int) (hx : RI .i32 w B A n xs) (hB : B ≤ w.heap.size) (hn : n ≤ 268435456) (hT : Lib.Utf8Tabs 3 4 w) :
  Calls Tryz.prog 160 #[.slice A n c] w fun e w' => e = .returned (.bool (canonB xs)) ∧ Below w.heap.size w w' := by
 have HX := Lib.hid hx
 have HT := Lib.hid hT
 clear hx hT
 cases ha : xs.all rightB with
 | false =>
  have hcb : canonB xs = false := by simp only [canonB, ha, Bool.false_and]
  have HA := Lib.hid ha
  rw [hcb]
  clear ha hcb
  go_enter Tryz.func160, Tryz.ntmps160
  go_wp2_with fail
  refine (encode_no w B A n c xs HX.out hB (by omega) HA.out).mono ?_
  rintro e w1 ⟨rfl, hb1⟩
  go_wp2
  go_ret
  exact ⟨rfl, hb1⟩
 | true =>
  have hcb : canonB xs = sameB (ofL (sb (encL xs))) xs := by simp only [canonB, ha, Bool.true_and]
  have HA := Lib.hid ha
  rw [hcb]
  clear ha hcb
  have hle := (encL_len xs).2
  rw [HX.out.len] at hle
  go_enter Tryz.func160, Tryz.ntmps160
  go_wp2_with fail
  refine (encode_yes w B A n c xs HX.out hB (by omega) HA.out).mono ?_
  rintro e w1 ⟨v1, rfl, hown1, hb1⟩
  obtain ⟨A1, c1, rfl, hc1, hm1, hr1⟩ := own_slice2 hown1
  have HR1 := Lib.hid hr1
  have hs1 := hb1.size
  clear hown1 hr1
  generalize hln : (encL xs).length = ln at *
  have HLN := Lib.hid hln
  clear hln
  go_wp2_with fail
  refine (decode_any w1 w1.heap.size A1 ln c1 (encL xs) HR1.out (Nat.le_refl _) (all_bd HA.out) hc1 (by omega) hm1 (tabs_below HT.out hb1)).mono ?_
  rintro e w2 ⟨v2, rfl, hown2, hb2⟩
  obtain ⟨A2, c2, rfl, hc2, hm2, hr2⟩ := own_slice2 hown2
  have HR2 := Lib.hid hr2
  have hs2 := hb2.size
  clear hown2 hr2
  have hx2 : RI .i32 w2 B A n xs := (HX.out.keep fun p hp => hb1.cell (p := p) (by omega)).keep fun p hp => hb2.cell (p := p) (by omega)
  have HX2 := Lib.hid hx2
  clear hx2
  generalize hl2 : (ofL (sb (encL xs))).length = l2 at *
  have HL2 := Lib.hid hl2
  clear hl2
  unfold maxLen at hm2
  go_wp2_with fail
  refine (equal_any w2 w2.heap.size B A2 A l2 c2 n c (ofL (sb (encL xs))) xs HR2.out HX2.out (by omega)).mono ?_
  rintro e w3 ⟨rfl, q, rfl⟩
  go_wp2
  go_ret
  exact ⟨rfl, below_drewN (hb1.trans (hb2.mono hs1)) q⟩
theorem canonical_is (w : World) (B : Nat) (A : Option Addr) (n c : Nat) (xs : List Int) (hx : RI .i32 w B A n xs) (hB : B ≤ w.heap.size) (hn : n ≤ 268435456) (hT : Lib.Utf8Tabs 3 4 w) (r : Bool) (hr : canonB xs = r) :
  Calls Tryz.prog 160 #[.slice A n c] w fun e w' => e = .returned (.bool r) ∧ Below w.heap.size w w' := by
 subst hr
 exact canonical_any w B A n c xs hx hB hn hT

set_option maxHeartbeats 400000 in
theorem refDecode_any (w : World) (B : Nat) (A : Option Addr) (n c : Nat) (zs : List Int) (hx : RI .u8 w B A n zs) (hn : n ≤ 1099511627776) :
  Calls Tryz.prog 186 #[.slice A n c] w fun e w' => ∃ v, e = .returned v ∧ w'.ownsRow w.heap.size 35 1 v (ofL (sb zs)).length ((ofL (sb zs)).map (Value.int .i32)) ∧ Below w.heap.size w w' := by
 have hcv := conv_ri hx c
 have hl : (sb zs).size ≤ 1099511627776 := by rw [sb_size, hx.len]; exact hn
 have HL := Lib.hid hl
 clear hx hl
 generalize sb zs = s at *
 go_enter Tryz.func186, Tryz.ntmps186
 go_wp2_with fail
 refine (refOf_any s w HL.out).mono ?_
 rintro e w1 ⟨v, rfl, hown, hb⟩
 have HO := Lib.hid hown
 clear hown
 go_wp2
 go_ret
 exact ⟨v, rfl, HO.out, hb⟩

def SeqTold (c : Int) (w : World) (e : Ending) (w' : World) : Prop :=
 e = .returned (.slice (some ⟨w.heap.size, 0, none⟩) (encC c).length (encC c).length) ∧ RI .u8 w' (w.heap.size + 1) (some ⟨w.heap.size, 0, none⟩) (encC c).length (encC c) ∧ w.heap.size + 1 ≤ w'.heap.size ∧ Below w.heap.size w w'
theorem seq_told {c : Int} {zs : List Int} (h : encC c = zs) (w : World) (t : TypeId) : SeqTold c w (.returned (.slice (some ⟨w.heap.size, 0, none⟩) zs.length zs.length)) (w.alloc (.cells (zs.map (Value.int .u8)).toArray t)) := by
 subst h
 exact ⟨rfl, RI.new w .u8 _ t, by simp, (Below.refl _ _).alloc (Nat.le_refl _) _⟩

set_option maxHeartbeats 1000000 in
theorem sequence_any (c : Int) (w : World) (h0 : 0 ≤ c) (hr : rightB c = true) : Calls Tryz.prog 95 #[.int .i32 c] w (SeqTold c w) := by
 have hb : c < 55296 ∨ (57343 < c ∧ c ≤ 1114111) := by unfold rightB at hr; simp at hr; omega
 have e0 : encC c = Lib.encodeRuneZ c := by unfold encC; rw [if_neg (by omega)]
 clear hr
 by_cases c1 : c < 128
 ·have he := e0.trans (Lib.encodeRuneZ_one h0 (by omega))
  have HE := Lib.hid he
  clear he e0 hb
  go_enter Tryz.func95, Tryz.ntmps95
  go_wp2
  go_ret
  exact seq_told HE.out w _
 by_cases c2 : c < 2048
 ·have he := e0.trans (Lib.encodeRuneZ_two (by omega) (by omega))
  have HE := Lib.hid he
  clear he e0 hb
  go_enter Tryz.func95, Tryz.ntmps95
  go_wp2
  go_ret
  exact seq_told HE.out w _
 by_cases c3 : c < 65536
 ·have he := e0.trans (Lib.encodeRuneZ_three (by omega))
  have HE := Lib.hid he
  clear he e0 hb
  go_enter Tryz.func95, Tryz.ntmps95
  go_wp2
  go_ret
  exact seq_told HE.out w _
 ·have he := e0.trans (Lib.encodeRuneZ_four (by omega) (by omega))
  have HE := Lib.hid he
  have hb4 : c ≤ 1114111 := by omega
  clear he e0 hb
  go_enter Tryz.func95, Tryz.ntmps95
  go_wp2
  go_ret
  exact seq_told HE.out w _

def REncTold (xs : List Int) (w : World) (e : Ending) (w' : World) : Prop :=
 Below w.heap.size w w' ∧ ((xs.all rightB = true ∧ ∃ v, e = .returned (.tuple #[v, .int .i64 0]) ∧ w'.ownsRow w.heap.size 5 1 v (encL xs).length ((encL xs).map (Value.int .u8))) ∨
  (xs.all rightB = false ∧ e = .returned (.tuple #[.slice none 0 0, .int .i64 10])))

set_option maxHeartbeats 2000000 in
theorem refEncode_told (w : World) (B : Nat) (A : Option Addr) (n c : Nat) (xs : List Int) (hx : RI .i32 w B A n xs) (hB : B ≤ w.heap.size) (hn : n ≤ 1073741824) :
  Calls Tryz.prog 46 #[.slice A n c] w (REncTold xs w) := by
 obtain ⟨i0, hi, hz0, hz1, hz2⟩ := info_parts info8
 have HX := Lib.hid hx
 clear hx
 go_enter Tryz.func46, Tryz.ntmps46
 go_wp2
 go_loopw [4, 5] (fun v i wr => ∃ k : Nat, k ≤ n ∧ i = .int .i64 k ∧ Hid ((xs.take k).all rightB = true) ∧ Hid (wr.ownsRow w.heap.size 5 1 v (encL (xs.take k)).length ((encL (xs.take k)).map (Value.int .u8))) ∧ Below w.heap.size w wr) (fun _ i _ => n - (intOf i).toNat)
 case atStart => exact ⟨0, Nat.zero_le _, rfl, rfl, World.ownsRow_nil _ _ _ _, Below.refl _ _⟩
 case round =>
  obtain ⟨k, hk, rfl, HA, HW, hbr⟩ := hrel
  have hsz := hbr.size
  by_cases hlt : k < n
  ·obtain ⟨ad, u, rfl, hbl, hu, hcell⟩ := HX.out.at_ hlt
   have hcr : wr.cell? (ad.add k) = some (.int .i32 u) := (hbr.cell (p := ad.add k) (by rw [block_of_add]; omega)).trans hcell
   have HU := Lib.hid hu
   clear hu hcell
   cases hru : rightB u with
   | true =>
    have hle := (encL_len (xs.take k)).2
    have hlk : (xs.take k).length ≤ k := List.length_take_le _ _
    have hub : -256 ≤ u := by unfold rightB at hru; simp at hru; omega
    have HRU := Lib.hid hru
    clear hru
    by_cases hneg : u < 0
    ·have he : encC u = [-1 - u] := by unfold encC; rw [if_pos hneg]
     have HE := Lib.hid he
     clear he
     go_wp2_with fail
     refine (refRight_is u wr true HRU.out).mono ?_
     rintro e w' ⟨rfl, rfl⟩
     go_wp2_with fail
     refine (refByte_yes u wr hub hneg).mono ?_
     rintro e w' ⟨rfl, rfl⟩
     go_wp2_with (at_builtin; (refine wpList_append_own _ rfl _ _ 38 rfl w.heap.size 5 i0 (.int .u8 0) 1 1 Tryz.underlying38 hi hz0 hz1 hz2 rfl (by decide) _ _ _ rfl (HW.out.alloc _) _ 1 1 [.int .u8 (-1 - u)] rfl rfl (cell_one_new _ _ _) (by intro u hu; simp at hu; subst hu; rfl) (by unfold maxLen; omega) (by omega) (by simp; omega) ?_); intro v' w3 hown' hgrow _; have HO3 := Lib.hid hown'; have HG3 := Lib.hid hgrow; clear hown' hgrow)
     have hown2 : Hid (w3.ownsRow w.heap.size 5 1 v' (encL (xs.take (k + 1))).length ((encL (xs.take (k + 1))).map (Value.int .u8))) := by
      rw [take_snoc HU.out, encL_snoc, HE.out]
      simpa [Hid] using HO3.out
     go_roundw
     case rel => exact ⟨k + 1, by omega, by go_num, take_right HA.out HU.out HRU.out, hown2, (hbr.alloc (by omega) _).grown HG3.out (by simp; omega) (fun k hk => (HW.out.lt k hk).1)⟩
     case measure => simp [intOf]; omega
    ·go_wp2_with fail
     refine (refRight_is u wr true HRU.out).mono ?_
     rintro e w' ⟨rfl, rfl⟩
     go_wp2_with fail
     refine (refByte_no u wr (by omega)).mono ?_
     rintro e w' ⟨rfl, rfl⟩
     go_wp2_with fail
     refine (sequence_any u wr (by omega) HRU.out).mono ?_
     rintro e w1 ⟨rfl, hr1, hs1, hb1⟩
     have HR1 := Lib.hid hr1
     have HOW := Lib.hid (own_keep HW.out hb1)
     have hbW : Below w.heap.size w w1 := hbr.trans (hb1.mono hsz)
     have hel := encC_len u
     clear hr1
     generalize hln : (encC u).length = ln at *
     have HLN := Lib.hid hln
     clear hln
     go_wp2_with (at_builtin; (refine wpList_append_ri _ rfl (.tmp 39) (.tmp 40) 38 rfl w.heap.size 5 i0 (.int .u8 0) 1 Tryz.underlying38 hi hz0 hz1 hz2 rfl _ _ _ rfl HOW.out .u8 _ _ ln ln _ rfl HR1.out (by unfold maxLen; omega) (by omega) (by omega) ?_); intro v' w3 hown' hgrow; have HO3 := Lib.hid hown'; have HG3 := Lib.hid hgrow; clear hown' hgrow)
     have hown2 : Hid (w3.ownsRow w.heap.size 5 1 v' (encL (xs.take (k + 1))).length ((encL (xs.take (k + 1))).map (Value.int .u8))) := by
      rw [take_snoc HU.out, encL_snoc, List.length_append, HLN.out]
      simpa [Hid] using HO3.out
     go_roundw
     case rel => exact ⟨k + 1, by omega, by go_num, take_right HA.out HU.out HRU.out, hown2, hbW.grown HG3.out (by omega) (fun k hk => (HOW.out.lt k hk).1)⟩
     case measure => simp [intOf]; omega
   | false =>
    have HRU := Lib.hid hru
    clear hru
    go_wp2_with fail
    refine (refRight_is u wr false HRU.out).mono ?_
    rintro e w' ⟨rfl, rfl⟩
    go_wp2
    go_ret2
    exact ⟨hbr, .inr ⟨not_right HU.out HRU.out, rfl⟩⟩
  ·have hkn : xs.take k = xs := List.take_of_length_le (by rw [HX.out.len]; omega)
   have HK := Lib.hid hkn
   clear hkn
   go_wp2
   go_ret2
   refine ⟨hbr, .inl ⟨?_, _, rfl, ?_⟩⟩
   ·have := HA.out
    rwa [HK.out] at this
   ·have := HW.out
    rwa [HK.out] at this
theorem refEncode_yes (w : World) (B : Nat) (A : Option Addr) (n c : Nat) (xs : List Int) (hx : RI .i32 w B A n xs) (hB : B ≤ w.heap.size) (hn : n ≤ 1073741824) (ha : xs.all rightB = true) :
  Calls Tryz.prog 46 #[.slice A n c] w fun e w' => ∃ v, e = .returned (.tuple #[v, .int .i64 0]) ∧ w'.ownsRow w.heap.size 5 1 v (encL xs).length ((encL xs).map (Value.int .u8)) ∧ Below w.heap.size w w' := by
 refine (refEncode_told w B A n c xs hx hB hn).mono ?_
 rintro e w' ⟨hb, ⟨_, v, rfl, ho⟩ | ⟨h, _⟩⟩
 ·exact ⟨v, rfl, ho, hb⟩
 ·rw [ha] at h; cases h
theorem refEncode_no (w : World) (B : Nat) (A : Option Addr) (n c : Nat) (xs : List Int) (hx : RI .i32 w B A n xs) (hB : B ≤ w.heap.size) (hn : n ≤ 1073741824) (ha : xs.all rightB = false) :
  Calls Tryz.prog 46 #[.slice A n c] w fun e w' => e = .returned (.tuple #[.slice none 0 0, .int .i64 10]) ∧ Below w.heap.size w w' := by
 refine (refEncode_told w B A n c xs hx hB hn).mono ?_
 rintro e w' ⟨hb, ⟨h, _⟩ | ⟨_, rfl⟩⟩
 ·rw [ha] at h; cases h
 ·exact ⟨rfl, hb⟩

theorem sameL_sameB (xs ys : List Int) : sameL xs ys = sameB xs ys := by
 by_cases h : xs = ys
 ·rw [sameL_true h]; simp [sameB, h]
 ·rw [sameL_false h]; simp [sameB, h]
set_option maxHeartbeats 1000000 in
theorem refCanonical_any (w : World) (B : Nat) (A : Option Addr) (n c : Nat) (xs : List Int) (hx : RI .i32 w B A n xs) (hB : B ≤ w.heap.size) (hn : n ≤ 268435456) :
  Calls Tryz.prog 148 #[.slice A n c] w fun e w' => e = .returned (.bool (canonB xs)) ∧ Below w.heap.size w w' := by
 have HX := Lib.hid hx
 clear hx
 cases ha : xs.all rightB with
 | false =>
  have hcb : canonB xs = false := by simp only [canonB, ha, Bool.false_and]
  have HA := Lib.hid ha
  rw [hcb]
  clear ha hcb
  go_enter Tryz.func148, Tryz.ntmps148
  go_wp2_with fail
  refine (refEncode_no w B A n c xs HX.out hB (by omega) HA.out).mono ?_
  rintro e w1 ⟨rfl, hb1⟩
  go_wp2
  go_ret
  exact ⟨rfl, hb1⟩
 | true =>
  have hcb : canonB xs = sameL (ofL (sb (encL xs))) xs := by rw [sameL_sameB]; simp only [canonB, ha, Bool.true_and]
  have HA := Lib.hid ha
  rw [hcb]
  clear ha hcb
  have hle := (encL_len xs).2
  rw [HX.out.len] at hle
  go_enter Tryz.func148, Tryz.ntmps148
  go_wp2_with fail
  refine (refEncode_yes w B A n c xs HX.out hB (by omega) HA.out).mono ?_
  rintro e w1 ⟨v1, rfl, hown1, hb1⟩
  obtain ⟨A1, c1, rfl, hc1, hm1, hr1⟩ := own_slice2 hown1
  have HR1 := Lib.hid hr1
  have hs1 := hb1.size
  clear hown1 hr1
  generalize hln : (encL xs).length = ln at *
  have HLN := Lib.hid hln
  clear hln
  go_wp2_with fail
  refine (refDecode_any w1 w1.heap.size A1 ln c1 (encL xs) HR1.out (by omega)).mono ?_
  rintro e w2 ⟨v2, rfl, hown2, hb2⟩
  obtain ⟨A2, c2, rfl, hc2, hm2, hr2⟩ := own_slice2 hown2
  have HR2 := Lib.hid hr2
  have hs2 := hb2.size
  clear hown2 hr2
  have hx2 : RI .i32 w2 B A n xs := (HX.out.keep fun p hp => hb1.cell (p := p) (by omega)).keep fun p hp => hb2.cell (p := p) (by omega)
  have HX2 := Lib.hid hx2
  clear hx2
  generalize hl2 : (ofL (sb (encL xs))).length = l2 at *
  have HL2 := Lib.hid hl2
  clear hl2
  go_wp2_with fail
  refine (same_any w2 w2.heap.size B A2 A l2 c2 n c (ofL (sb (encL xs))) xs HR2.out HX2.out (by omega) (by unfold maxLen; omega)).mono ?_
  rintro e w3 ⟨rfl, q, rfl⟩
  go_wp2
  go_ret
  exact ⟨rfl, below_drewN (hb1.trans (hb2.mono hs1)) q⟩
end Go.Proofs.YthaibekbefndlaaGreatDoor.C

namespace Go.Proofs.YthaibekbefndlaaGreatDoor.C
open Go.RowKit

theorem numL_some {c : UInt8} {d : List UInt8} (hc : c = 85) : (numL (c :: d)).isSome = (decide (4 ≤ d.length) && decide (d.length ≤ 6) && d.all fun b => (digV b).isSome) := by
 rw [numL_cons]
 by_cases h : 4 ≤ d.length ∧ d.length ≤ 6
 ·rw [if_pos ⟨hc, h⟩, hexN_all]
  simp [h]
 ·rw [if_neg (fun hh => h hh.2)]
  by_cases h4 : 4 ≤ d.length
  ·have : ¬ d.length ≤ 6 := fun h6 => h ⟨h4, h6⟩
   simp [this]
  ·simp [h4]
set_option maxRecDepth 100000 in
set_option maxHeartbeats 2000000 in
theorem isScalarName_any (nm : List UInt8) (w : World) (hn : nm.length ≤ maxLen) : Calls Tryz.prog 110 #[.string (str nm)] w fun e w' => e = .returned (.bool (numL nm).isSome) ∧ Below w.heap.size w w' := by
 have hcp := Tryz.strings_CutPrefix (str nm) ⟨#[85]⟩ w
 by_cases h85 : ∃ d, nm = 85 :: d
 ·obtain ⟨d, rfl⟩ := h85
  have e1 : Lib.hasPrefix (str (85 :: d)).data.toList [85] = true := rfl
  have e2 : Lib.trimPrefix (str (85 :: d)).data.toList [85] = d := by unfold Lib.trimPrefix; rw [e1]; rfl
  rw [show (ByteArray.mk #[85]).data.toList = [85] from rfl, e1, e2] at hcp
  have hx := isHex_any (str d) 
  rw [str_list] at hx
  have hsz : (str d).size = d.length := str_size d
  have hdl : d.length ≤ 9223372036854775807 := by unfold maxLen at hn; simp at hn; omega
  rw [numL_some rfl]
  by_cases h4 : 4 ≤ d.length
  ·by_cases h6 : d.length ≤ 6
   ·have i4 : (4 : Int) ≤ (d.length : Int) := by omega
    have i6 : (d.length : Int) ≤ 6 := by omega
    have hne : d.isEmpty = false := by cases d with | nil => simp at h4 | cons => rfl
    rw [decide_eq_true h4, decide_eq_true h6]
    rw [hne] at hx
    simp only [Bool.true_and, Bool.not_false] at hx ⊢
    obtain ⟨r, hr⟩ : ∃ r, r = d.all fun b => (digV b).isSome := ⟨_, rfl⟩
    rw [← hr] at hx ⊢
    have hx2 := hx w (by rw [hsz]; exact hdl)
    change Calls Tryz.prog 118 #[.string (str (85 :: d)), .string ⟨#[85]⟩] w (fun e w' => e = .returned (.tuple #[.string (str d), .bool true]) ∧ w' = w) at hcp
    clear hr hx e1 e2 hne hn h4 h6
    go_enter Tryz.func110, Tryz.ntmps110
    go_wp2_with (first
     | (go_at_call 118; refine hcp.mono ?_; rintro e w1 ⟨rfl, rfl⟩)
     | (go_at_call 57; refine hx2.mono ?_; rintro e w2 ⟨rfl, hb⟩; (have HB := Lib.hid hb); clear hb))
    go_ret
    exact ⟨rfl, HB.out⟩
   ·have i4 : (4 : Int) ≤ (d.length : Int) := by omega
    have i6 : ¬ (d.length : Int) ≤ 6 := by omega
    rw [decide_eq_false h6]
    simp only [Bool.and_false, Bool.false_and]
    change Calls Tryz.prog 118 #[.string (str (85 :: d)), .string ⟨#[85]⟩] w (fun e w' => e = .returned (.tuple #[.string (str d), .bool true]) ∧ w' = w) at hcp
    clear hx e1 e2 hn h4 h6
    go_enter Tryz.func110, Tryz.ntmps110
    go_wp2_with (go_at_call 118; refine hcp.mono ?_; rintro e w1 ⟨rfl, rfl⟩)
    go_ret
    exact ⟨rfl, Below.refl _ _⟩
  ·have i4 : ¬ (4 : Int) ≤ (d.length : Int) := by omega
   rw [decide_eq_false h4]
   simp only [Bool.false_and]
   change Calls Tryz.prog 118 #[.string (str (85 :: d)), .string ⟨#[85]⟩] w (fun e w' => e = .returned (.tuple #[.string (str d), .bool true]) ∧ w' = w) at hcp
   clear hx e1 e2 hn h4
   go_enter Tryz.func110, Tryz.ntmps110
   go_wp2_with (go_at_call 118; refine hcp.mono ?_; rintro e w1 ⟨rfl, rfl⟩)
   go_ret
   exact ⟨rfl, Below.refl _ _⟩
 ·have e1 : Lib.hasPrefix (str nm).data.toList [85] = false := by
   rw [str_list]
   unfold Lib.hasPrefix
   cases nm with
   | nil => rfl
   | cons c d =>
    have : ¬ (85 : UInt8) = c := fun e => h85 ⟨d, by rw [e]⟩
    simp [List.isPrefixOf, this]
  rw [show (ByteArray.mk #[85]).data.toList = [85] from rfl, e1] at hcp
  have hnl : (numL nm).isSome = false := by
   cases nm with
   | nil => rfl
   | cons c d => rw [numL_cons, if_neg (fun hh => h85 ⟨d, by rw [hh.1]⟩)]; rfl
  rw [hnl]
  clear hnl e1 h85 hn
  go_enter Tryz.func110, Tryz.ntmps110
  go_wp2_with (go_at_call 118; refine hcp.mono ?_; rintro e w1 ⟨rfl, rfl⟩)
  go_ret
  exact ⟨rfl, Below.refl _ _⟩
end Go.Proofs.YthaibekbefndlaaGreatDoor.C
