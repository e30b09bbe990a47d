/-
  Joined: LeA, MUtfV. Each with what its own head says.
-/
import Derived.Deep.WholeRow
import Derived.Test.YthaibekbefndlaaGreatDoorZ02
import Derived.Test.YthaibekbefndlaaGreatDoorZ03

namespace Go.Proofs.YthaibekbefndlaaGreatDoor.C
open Go.RowKit

set_option maxRecDepth 100000 in
set_option maxHeartbeats 1000000 in
theorem isScalar_any (c : Int) (w : World) : Calls Tryz.prog 63 #[.int .i32 c] w fun e w' => e = .returned (.bool (scalB c)) ∧ w' = w := by
 have hr := right_any c
 by_cases h0 : 0 ≤ c
 ·have hs : scalB c = rightB c := by unfold scalB; simp [h0]
  have HS := Lib.hid hs
  clear hs
  go_enter Tryz.func63, Tryz.ntmps63
  go_wp2_with (go_at_call 108; refine (hr _).mono ?_; rintro e w2 ⟨rfl, rfl⟩)
  go_ret
  exact ⟨by rw [HS.out]; rfl, rfl⟩
 ·have hs : scalB c = false := by unfold scalB; simp [h0]
  have HS := Lib.hid hs
  clear hs hr
  go_enter Tryz.func63, Tryz.ntmps63
  go_wp2
  go_ret
  exact ⟨by rw [HS.out]; rfl, rfl⟩

theorem contains_any (b : Nat) (x : UInt8) (v : Bool) (w : World) (hc : w.cell? ⟨b, x.toNat, none⟩ = some (.bool v)) :
  Calls Tryz.prog 187 #[.pointer (some ⟨b, 0, none⟩), .int .u8 x.toNat] w fun e w' => e = .returned (.bool v) ∧ w' = w := Any.asciiSet_contains Tryz.lays228 b x v w hc
theorem makeSet_any (chars : ByteArray) (w : World) (hs : chars.size < 4294967281) (hascii : ∀ (j : Nat) b, chars.data.toList[j]? = some b → b.toNat < 128) :
  Calls Tryz.prog 152 #[.string chars] w fun e w' => e = .returned (.tuple #[.agg (Lib.setCells chars.data.toList), .bool true]) ∧ w' = w.alloc (.cells (Lib.setCells chars.data.toList) 186) := Any.strings_makeASCIISet Tryz.lays227 (fun _ => by kernel_rfl) (by kernel_rfl) chars w hs hascii
def SetAt (w : World) (b : Nat) (cs : List UInt8) : Prop := ∀ x : UInt8, w.cell? ⟨b, x.toNat, none⟩ = some (.bool (cs.contains x))
theorem list_split {z : ByteArray} {m : Nat} (h : z.size = m + 1) : ∃ x : UInt8, z.data.toList = z.data.toList.take m ++ [x] ∧ z[m]'(by omega) = x := by
 have hm : m < z.data.toList.length := by rw [← Lib.size_eq]; omega
 refine ⟨z[m]'(by omega), ?_, rfl⟩
 have h1 := Lib.data_getElem? z m (by omega)
 have h2 := List.take_append_drop m z.data.toList
 rw [List.drop_eq_getElem?_toList_append, h1, List.drop_eq_nil_of_le (by rw [← Lib.size_eq]; omega)] at h2
 exact h2.symm
theorem list_front {z : ByteArray} {m : Nat} (h : z.size = m + 1) : ∃ x : UInt8, z.data.toList = x :: z.data.toList.drop 1 ∧ z[0]'(by omega) = x := by
 have hm : 0 < z.data.toList.length := by rw [← Lib.size_eq]; omega
 refine ⟨z[0]'(by omega), ?_, rfl⟩
 have h1 := Lib.data_getElem? z 0 (by omega)
 have h2 := List.drop_eq_getElem?_toList_append (l := z.data.toList) (i := 0)
 rw [List.drop_zero, h1] at h2
 exact h2
def AllIn (cs : List UInt8) (z : ByteArray) : Bool := z.data.toList.all cs.contains
theorem allIn_nil {cs : List UInt8} {z : ByteArray} (h : z.size = 0) : AllIn cs z = true := by
 have : z.data.toList = [] := List.eq_nil_of_length_eq_zero (by rw [← Lib.size_eq]; exact h)
 unfold AllIn
 rw [this]
 rfl
def TrimTold (s : ByteArray) (cs : List UInt8) (w : World) (e : Ending) (w' : World) : Prop := (∃ z : ByteArray, e = .returned (.string z) ∧ z.size ≤ s.size ∧ ((AllIn cs s = true ∧ z.size = 0) ∨ (AllIn cs s = false ∧ AllIn cs z = false))) ∧ w' = w

set_option maxRecDepth 100000 in
set_option maxHeartbeats 2000000 in
theorem trimRight_any (s : ByteArray) (w : World) (b : Nat) (cs : List UInt8) (hs : s.size ≤ 9223372036854775807) (hc : SetAt w b cs) :
  Calls Tryz.prog 154 #[.string s, .pointer (some ⟨b, 0, none⟩)] w (TrimTold s cs w) := by
 have HC := Lib.hid hc
 clear hc
 go_enter Tryz.func154, Tryz.ntmps154
 go_wp2
 go_loopg [0] s.size (fun g s0 wx => ∃ z : ByteArray, s0 = .string z ∧ z.size = g ∧ z.size ≤ s.size ∧ wx = w ∧ Hid (AllIn cs s = AllIn cs z))
 case atStart => exact ⟨s, rfl, rfl, Nat.le_refl _, rfl, Lib.hid rfl⟩
 case round =>
  obtain ⟨z, rfl, hg, hle, rfl, HA⟩ := hrel
  cases gk with
  | zero =>
   have hz0 : ¬ (0 : Int) < (z.size : Int) := by omega
   go_wp2
   go_ret
   exact ⟨⟨z, rfl, hle, .inl ⟨HA.out.trans (allIn_nil hg), hg⟩⟩, rfl⟩
  | succ m =>
   obtain ⟨x, hx, hxi⟩ := list_split hg
   have hz0 : (0 : Int) < (z.size : Int) := by omega
   have hzm : (z.size : Int) - 1 = (m : Int) := by omega
   have hmz : m < z.size := by omega
   have hmi : (m : Int) < (z.size : Int) := by omega
   have hm0 : (0 : Int) ≤ (m : Int) := by omega
   have hml : (m : Int) ≤ (z.size : Int) := by omega
   have HX := Lib.hid hx
   have hcx := contains_any b x _ wr (HC.out x)
   cases hin : cs.contains x with
   | false =>
    rw [hin] at hcx
    have HIN := Lib.hid hin
    clear hx hin
    go_wp2_with (go_at_call 187; refine hcx.mono ?_; rintro e w' ⟨rfl, rfl⟩)
    go_ret
    have hf : AllIn cs z = false := by
     unfold AllIn
     rw [HX.out, List.all_append]
     simp only [List.all_cons, List.all_nil, Bool.and_true]
     rw [HIN.out, Bool.and_false]
    exact ⟨⟨z, rfl, hle, .inr ⟨HA.out.trans hf, hf⟩⟩, rfl⟩
   | true =>
    rw [hin] at hcx
    have HIN := Lib.hid hin
    have hez : (z.extract 0 m).data.toList = z.data.toList.take m := by rw [Lib.extract_data]; simp
    have hes : (z.extract 0 m).size = m := by rw [Lib.size_eq, hez, List.length_take, ← Lib.size_eq]; omega
    have hA2 : AllIn cs z = AllIn cs (z.extract 0 m) := by
     unfold AllIn
     rw [hez]
     conv => lhs; rw [HX.out, List.all_append]
     simp only [List.all_cons, List.all_nil, Bool.and_true]
     rw [HIN.out, Bool.and_true]
    have HA2 := Lib.hid hA2
    have HES := Lib.hid hes
    clear hx hin hez hes hA2
    go_wp2_with (go_at_call 187; refine hcx.mono ?_; rintro e w' ⟨rfl, rfl⟩)
    go_roundg m
    case measure => omega
    case rel => exact ⟨z.extract 0 m, by rfl, HES.out, by have := HES.out; omega, rfl, Lib.hid (HA.out.trans HA2.out)⟩

set_option maxRecDepth 100000 in
set_option maxHeartbeats 2000000 in
theorem trimLeft_any (s : ByteArray) (w : World) (b : Nat) (cs : List UInt8) (hc : SetAt w b cs) :
  Calls Tryz.prog 153 #[.string s, .pointer (some ⟨b, 0, none⟩)] w (TrimTold s cs w) := by
 have HC := Lib.hid hc
 clear hc
 go_enter Tryz.func153, Tryz.ntmps153
 go_wp2
 go_loopg [0] s.size (fun g s0 wx => ∃ z : ByteArray, s0 = .string z ∧ z.size = g ∧ z.size ≤ s.size ∧ wx = w ∧ Hid (AllIn cs s = AllIn cs z))
 case atStart => exact ⟨s, rfl, rfl, Nat.le_refl _, rfl, Lib.hid rfl⟩
 case round =>
  obtain ⟨z, rfl, hg, hle, rfl, HA⟩ := hrel
  cases gk with
  | zero =>
   have hz0 : ¬ (0 : Int) < (z.size : Int) := by omega
   go_wp2
   go_ret
   exact ⟨⟨z, rfl, hle, .inl ⟨HA.out.trans (allIn_nil hg), hg⟩⟩, rfl⟩
  | succ m =>
   obtain ⟨x, hx, hxi⟩ := list_front hg
   have hz0 : (0 : Int) < (z.size : Int) := by omega
   have hmz : 0 < z.size := by omega
   have hml : (1 : Int) ≤ (z.size : Int) := by omega
   have HX := Lib.hid hx
   have hcx := contains_any b x _ wr (HC.out x)
   cases hin : cs.contains x with
   | false =>
    rw [hin] at hcx
    have HIN := Lib.hid hin
    clear hx hin
    go_wp2_with (go_at_call 187; refine hcx.mono ?_; rintro e w' ⟨rfl, rfl⟩)
    go_ret
    have hf : AllIn cs z = false := by
     unfold AllIn
     rw [HX.out, List.all_cons, HIN.out, Bool.false_and]
    exact ⟨⟨z, rfl, hle, .inr ⟨HA.out.trans hf, hf⟩⟩, rfl⟩
   | true =>
    rw [hin] at hcx
    have HIN := Lib.hid hin
    have hez : (z.extract 1 z.size).data.toList = z.data.toList.drop 1 := Lib.extract_to_end z 1
    have hes : (z.extract 1 z.size).size = m := by rw [Lib.size_eq, hez, List.length_drop, ← Lib.size_eq]; omega
    have hA2 : AllIn cs z = AllIn cs (z.extract 1 z.size) := by
     unfold AllIn
     rw [hez]
     conv => lhs; rw [HX.out, List.all_cons, HIN.out, Bool.true_and]
    have HA2 := Lib.hid hA2
    have HES := Lib.hid hes
    clear hx hin hez hes hA2
    go_wp2_with (go_at_call 187; refine hcx.mono ?_; rintro e w' ⟨rfl, rfl⟩)
    go_roundg m
    case measure => omega
    case rel => exact ⟨z.extract 1 z.size, by rw [hg], HES.out, by have := HES.out; omega, rfl, Lib.hid (HA.out.trans HA2.out)⟩

def TrimmedTold (s : ByteArray) (cs : List UInt8) (w : World) (e : Ending) (w' : World) : Prop := (∃ z : ByteArray, e = .returned (.string z) ∧ (z.size == 0) = AllIn cs s) ∧ Below w.heap.size w w'
theorem isEmpty_size (z : ByteArray) : z.toList.isEmpty = (z.size == 0) := by
 rw [Lib.toList_data]
 have := Lib.size_eq z
 cases h : z.data.toList with
 | nil => rw [h] at this; simp at this; simp [this]
 | cons a r => rw [h] at this; simp at this; simp [this]
set_option maxRecDepth 100000 in
set_option maxHeartbeats 4000000 in
theorem trim_any (s cut : ByteArray) (w : World) (hs : s.size ≤ 9223372036854775807) (h2 : 2 ≤ cut.size) (hcs : cut.size < 4294967281) (hascii : ∀ (j : Nat) b, cut.data.toList[j]? = some b → b.toNat < 128) :
  Calls Tryz.prog 102 #[.string s, .string cut] w (TrimmedTold s cut.data.toList w) := by
 have hM := makeSet_any cut w hcs hascii
 have hemp : cut.toList.isEmpty = false := by
  rw [isEmpty_size]
  exact beq_eq_false_iff_ne.2 (by omega)
 have hn1 : ((cut.size : Int) == 1) = false := beq_eq_false_iff_ne.2 (by omega)
 clear hascii
 by_cases h0 : s.size = 0
 ·have hse : s.toList.isEmpty = true := by rw [isEmpty_size, h0]; rfl
  have HE : Hid ((s.size == 0) = AllIn cut.data.toList s) := Lib.hid (by rw [allIn_nil h0, h0]; rfl)
  clear hM h0
  go_enter Tryz.func102, Tryz.ntmps102
  go_wp2
  go_ret
  exact ⟨⟨s, rfl, HE.out⟩, Below.refl _ _⟩
 have hse : s.toList.isEmpty = false := by rw [isEmpty_size]; exact beq_eq_false_iff_ne.2 h0
 have hsz := Lib.setCells_size cut.data.toList
 obtain ⟨cs, hcs2⟩ : ∃ cs, cs = cut.data.toList := ⟨_, rfl⟩
 rw [← hcs2] at hM hsz ⊢
 clear hcs2
 have hsc : (storeCells ⟨w.heap.size + 1, 0, none⟩ (Lib.setCells cs).toList 0).run Tryz.prog ((w.alloc (.cells (Lib.setCells cs) 186)).alloc (.cells (Array.replicate 256 (.bool false)) 186)) = .ok () ((w.alloc (.cells (Lib.setCells cs) 186)).alloc (.cells (Lib.setCells cs) 186)) := by
  have := run_storeCells_new (P := Tryz.prog) (w.alloc (.cells (Lib.setCells cs) 186)) 186 (Array.replicate 256 (.bool false)) (Lib.setCells cs) (by rw [hsz]; kernel_rfl) (by rw [hsz, Array.size_replicate]) (Lib.setCells_one _)
  simpa using this
 have hcellAt : SetAt ((w.alloc (.cells (Lib.setCells cs) 186)).alloc (.cells (Lib.setCells cs) 186)) (w.heap.size + 1) cs := fun x => by
  rw [World.cell?_alloc_at _ _ _ _ (by simp), Lib.setCells_at]
 have HC := Lib.hid hcellAt
 have hzv : ∀ W, (zeroValue 186).run Tryz.prog W = .ok (.agg (Array.replicate 256 (.bool false))) W := fun _ => by kernel_rfl
 clear hcellAt h0
 go_enter Tryz.func102, Tryz.ntmps102
 go_wp2_with fail
 refine hM.mono ?_
 rintro e w' ⟨rfl, rfl⟩
 go_wp2_with fail
 refine (trimRight_any s _ (w.heap.size + 1) cs hs HC.out).mono ?_
 rintro e w1 ⟨⟨z, rfl, hz, hca⟩, rfl⟩
 have HCA := Lib.hid hca
 clear hca
 go_wp2_with fail
 refine (trimLeft_any z _ (w.heap.size + 1) cs HC.out).mono ?_
 rintro e w1 ⟨⟨y, rfl, hy, hcb⟩, rfl⟩
 have HY : Hid ((y.size == 0) = AllIn cs s) := Lib.hid (by
  rcases HCA.out with ⟨a1, a2⟩ | ⟨a1, a2⟩
  ·rw [a1]
   rcases hcb with ⟨_, b2⟩ | ⟨b1, _⟩
   ·rw [b2]; rfl
   ·rw [allIn_nil a2] at b1; cases b1
  ·rw [a1]
   rcases hcb with ⟨b1, _⟩ | ⟨_, b2⟩
   ·rw [a2] at b1; cases b1
   ·refine beq_eq_false_iff_ne.2 (fun h => ?_)
    rw [allIn_nil h] at b2
    cases b2)
 clear hcb hsc
 go_wp2
 go_ret
 exact ⟨⟨y, rfl, HY.out⟩, ((Below.refl _ _).alloc (Nat.le_refl _) _).alloc (by simp) _⟩
end Go.Proofs.YthaibekbefndlaaGreatDoor.C

namespace Go.Proofs.YthaibekbefndlaaGreatDoor.C
open Go.RowKit
open Go.Lib (decodeN)


set_option maxHeartbeats 1000000 in
theorem need_1 (b : Int) (w : World) (_h0 : 0 ≤ b) (h1 : b < 128) : Calls Tryz.prog 245 #[.int .u8 b] w fun e w' => e = .returned (.int .i64 1) ∧ w = w' := by
 go_enter Tryz.func245, Tryz.ntmps245
 go_wp2
 all_goals go_ret
 all_goals exact ⟨rfl, rfl⟩
set_option maxHeartbeats 1000000 in
theorem need_2 (b : Int) (w : World) (h0 : 194 ≤ b) (h1 : b ≤ 223) : Calls Tryz.prog 245 #[.int .u8 b] w fun e w' => e = .returned (.int .i64 2) ∧ w = w' := by
 go_enter Tryz.func245, Tryz.ntmps245
 go_wp2
 all_goals go_ret
 all_goals exact ⟨rfl, rfl⟩
set_option maxHeartbeats 1000000 in
theorem need_3 (b : Int) (w : World) (h0 : 224 ≤ b) (h1 : b ≤ 239) : Calls Tryz.prog 245 #[.int .u8 b] w fun e w' => e = .returned (.int .i64 3) ∧ w = w' := by
 have t1 : decide (b ≤ 223) = false := by simp; omega
 go_enter Tryz.func245, Tryz.ntmps245
 go_wp2
 all_goals go_ret
 all_goals exact ⟨rfl, rfl⟩
set_option maxHeartbeats 1000000 in
theorem need_4 (b : Int) (w : World) (h0 : 240 ≤ b) (h1 : b ≤ 244) : Calls Tryz.prog 245 #[.int .u8 b] w fun e w' => e = .returned (.int .i64 4) ∧ w = w' := by
 have t1 : decide (b ≤ 223) = false := by simp; omega
 have t2 : decide (b ≤ 239) = false := by simp; omega
 go_enter Tryz.func245, Tryz.ntmps245
 go_wp2
 all_goals go_ret
 all_goals exact ⟨rfl, rfl⟩
set_option maxHeartbeats 1000000 in
theorem need_0 (b : Int) (w : World) (h0 : (128 ≤ b ∧ b < 194) ∨ 244 < b) : Calls Tryz.prog 245 #[.int .u8 b] w fun e w' => e = .returned (.int .i64 0) ∧ w = w' := by
 rcases h0 with ⟨h1, h2⟩ | h1
 ·have t1 : decide (194 ≤ b) = false := by simp; omega
  have t2 : decide (224 ≤ b) = false := by simp; omega
  have t3 : decide (240 ≤ b) = false := by simp; omega
  go_enter Tryz.func245, Tryz.ntmps245
  go_wp2
  all_goals go_ret
  all_goals exact ⟨rfl, rfl⟩
 ·have t1 : decide (b ≤ 223) = false := by simp; omega
  have t2 : decide (b ≤ 239) = false := by simp; omega
  have t3 : decide (b ≤ 244) = false := by simp; omega
  go_enter Tryz.func245, Tryz.ntmps245
  go_wp2
  all_goals go_ret
  all_goals exact ⟨rfl, rfl⟩

def firstN (n b0 b1 b2 b3 : Nat) : Nat × Nat := if decodeN n b0 b1 b2 b3 = (65533, 1) then (0, 0) else decodeN n b0 b1 b2 b3
def First (s : ByteArray) : Nat × Nat := firstN s.size (gb s 0) (gb s 1) (gb s 2) (gb s 3)

theorem first_none (m b0 b1 b2 b3 : Nat) (h : (128 ≤ b0 ∧ b0 < 194) ∨ (244 < b0 ∧ b0 ≤ 255)) : firstN m b0 b1 b2 b3 = (0, 0) := by
 have hd : decodeN m b0 b1 b2 b3 = (65533, 1) := by
  unfold decodeN
  repeat' split
  all_goals first | with_reducible rfl | (exfalso; omega) | (apply Prod.ext <;> simp only <;> omega)
 unfold firstN
 rw [if_pos hd]
theorem first_short2 (m b0 b1 b2 b3 : Nat) (h : 194 ≤ b0 ∧ b0 ≤ 223) (hm : m < 2) : firstN m b0 b1 b2 b3 = (0, 0) := by
 have hd : decodeN m b0 b1 b2 b3 = (65533, 1) := by
  unfold decodeN
  repeat' split
  all_goals first | with_reducible rfl | (exfalso; omega) | (apply Prod.ext <;> simp only <;> omega)
 unfold firstN
 rw [if_pos hd]
theorem first_short3 (m b0 b1 b2 b3 : Nat) (h : 224 ≤ b0 ∧ b0 ≤ 239) (hm : m < 3) : firstN m b0 b1 b2 b3 = (0, 0) := by
 have hd : decodeN m b0 b1 b2 b3 = (65533, 1) := by
  unfold decodeN
  repeat' split
  all_goals first | with_reducible rfl | (exfalso; omega) | (apply Prod.ext <;> simp only <;> omega)
 unfold firstN
 rw [if_pos hd]
theorem first_short4 (m b0 b1 b2 b3 : Nat) (h : 240 ≤ b0 ∧ b0 ≤ 244) (hm : m < 4) : firstN m b0 b1 b2 b3 = (0, 0) := by
 have hd : decodeN m b0 b1 b2 b3 = (65533, 1) := by
  unfold decodeN
  repeat' split
  all_goals first | with_reducible rfl | (exfalso; omega) | (apply Prod.ext <;> simp only <;> omega)
 unfold firstN
 rw [if_pos hd]
theorem first_one (m b0 b1 b2 b3 : Nat) (h : b0 < 128) : firstN m b0 b1 b2 b3 = (b0, 1) := by
 have hd : decodeN m b0 b1 b2 b3 = (b0, 1) := by
  unfold decodeN
  repeat' split
  all_goals first | with_reducible rfl | (exfalso; omega) | (apply Prod.ext <;> simp only <;> omega)
 unfold firstN
 rw [hd, if_neg]
 intro h
 have h2 : 1 = 1 := congrArg Prod.snd h
 have h1 : b0 = 65533 := congrArg Prod.fst h
 omega
theorem first2_bad (m b0 b1 b2 b3 : Nat) (h : 194 ≤ b0 ∧ b0 ≤ 223) (h1 : b1 < 128 ∨ (191 < b1 ∧ b1 ≤ 255)) : firstN m b0 b1 b2 b3 = (0, 0) := by
 have hd : decodeN m b0 b1 b2 b3 = (65533, 1) := by
  unfold decodeN
  repeat' split
  all_goals first | with_reducible rfl | (exfalso; omega) | (apply Prod.ext <;> simp only <;> omega)
 unfold firstN
 rw [if_pos hd]
theorem first2_ok (m b0 b1 b2 b3 : Nat) (h : 194 ≤ b0 ∧ b0 ≤ 223) (hm : 2 ≤ m) (h1 : 128 ≤ b1 ∧ b1 ≤ 191) : firstN m b0 b1 b2 b3 = (b0 % 32 * 64 + b1 % 64, 2) := by
 have hd : decodeN m b0 b1 b2 b3 = (b0 % 32 * 64 + b1 % 64, 2) := by
  unfold decodeN
  repeat' split
  all_goals first | with_reducible rfl | (exfalso; omega) | (apply Prod.ext <;> simp only <;> omega)
 unfold firstN
 rw [hd, if_neg]
 intro h
 have h2 : 2 = 1 := congrArg Prod.snd h
 have h1 : b0 % 32 * 64 + b1 % 64 = 65533 := congrArg Prod.fst h
 omega
theorem first3_bad1 (m b0 b1 b2 b3 : Nat) (h : 224 ≤ b0 ∧ b0 ≤ 239) (h1 : b1 < 128 ∨ (191 < b1 ∧ b1 ≤ 255)) : firstN m b0 b1 b2 b3 = (0, 0) := by
 have hd : decodeN m b0 b1 b2 b3 = (65533, 1) := by
  unfold decodeN
  repeat' split
  all_goals first | with_reducible rfl | (exfalso; omega) | (apply Prod.ext <;> simp only <;> omega)
 unfold firstN
 rw [if_pos hd]
theorem first3_bad2 (m b0 b1 b2 b3 : Nat) (h : 224 ≤ b0 ∧ b0 ≤ 239) (h2 : b2 < 128 ∨ (191 < b2 ∧ b2 ≤ 255)) : firstN m b0 b1 b2 b3 = (0, 0) := by
 have hd : decodeN m b0 b1 b2 b3 = (65533, 1) := by
  unfold decodeN
  repeat' split
  all_goals first | with_reducible rfl | (exfalso; omega) | (apply Prod.ext <;> simp only <;> omega)
 unfold firstN
 rw [if_pos hd]
theorem first3_no (m b0 b1 b2 b3 : Nat) (h : 224 ≤ b0 ∧ b0 ≤ 239) (_h1 : 128 ≤ b1 ∧ b1 ≤ 191) (_h2 : 128 ≤ b2 ∧ b2 ≤ 191) (hc : b0 % 16 * 4096 + b1 % 64 * 64 + b2 % 64 < 2048 ∨ (55296 ≤ b0 % 16 * 4096 + b1 % 64 * 64 + b2 % 64 ∧ b0 % 16 * 4096 + b1 % 64 * 64 + b2 % 64 ≤ 57343)) : firstN m b0 b1 b2 b3 = (0, 0) := by
 have hd : decodeN m b0 b1 b2 b3 = (65533, 1) := by
  unfold decodeN
  repeat' split
  all_goals first | with_reducible rfl | (exfalso; omega) | (apply Prod.ext <;> simp only <;> omega)
 unfold firstN
 rw [if_pos hd]
theorem first3_ok (m b0 b1 b2 b3 : Nat) (h : 224 ≤ b0 ∧ b0 ≤ 239) (hm : 3 ≤ m) (h1 : 128 ≤ b1 ∧ b1 ≤ 191) (h2 : 128 ≤ b2 ∧ b2 ≤ 191) (hc : 2048 ≤ b0 % 16 * 4096 + b1 % 64 * 64 + b2 % 64 ∧ (b0 % 16 * 4096 + b1 % 64 * 64 + b2 % 64 < 55296 ∨ 57343 < b0 % 16 * 4096 + b1 % 64 * 64 + b2 % 64)) : firstN m b0 b1 b2 b3 = (b0 % 16 * 4096 + b1 % 64 * 64 + b2 % 64, 3) := by
 have hd : decodeN m b0 b1 b2 b3 = (b0 % 16 * 4096 + b1 % 64 * 64 + b2 % 64, 3) := by
  unfold decodeN
  repeat' split
  all_goals first | with_reducible rfl | (exfalso; omega) | (apply Prod.ext <;> simp only <;> omega)
 unfold firstN
 rw [hd, if_neg]
 intro h
 have h2 : 3 = 1 := congrArg Prod.snd h
 have h1 : b0 % 16 * 4096 + b1 % 64 * 64 + b2 % 64 = 65533 := congrArg Prod.fst h
 omega
theorem first4_bad1 (m b0 b1 b2 b3 : Nat) (h : 240 ≤ b0 ∧ b0 ≤ 244) (h1 : b1 < 128 ∨ (191 < b1 ∧ b1 ≤ 255)) : firstN m b0 b1 b2 b3 = (0, 0) := by
 have hd : decodeN m b0 b1 b2 b3 = (65533, 1) := by
  unfold decodeN
  repeat' split
  all_goals first | with_reducible rfl | (exfalso; omega) | (apply Prod.ext <;> simp only <;> omega)
 unfold firstN
 rw [if_pos hd]
theorem first4_bad2 (m b0 b1 b2 b3 : Nat) (h : 240 ≤ b0 ∧ b0 ≤ 244) (h2 : b2 < 128 ∨ (191 < b2 ∧ b2 ≤ 255)) : firstN m b0 b1 b2 b3 = (0, 0) := by
 have hd : decodeN m b0 b1 b2 b3 = (65533, 1) := by
  unfold decodeN
  repeat' split
  all_goals first | with_reducible rfl | (exfalso; omega) | (apply Prod.ext <;> simp only <;> omega)
 unfold firstN
 rw [if_pos hd]
theorem first4_bad3 (m b0 b1 b2 b3 : Nat) (h : 240 ≤ b0 ∧ b0 ≤ 244) (h3 : b3 < 128 ∨ (191 < b3 ∧ b3 ≤ 255)) : firstN m b0 b1 b2 b3 = (0, 0) := by
 have hd : decodeN m b0 b1 b2 b3 = (65533, 1) := by
  unfold decodeN
  repeat' split
  all_goals first | with_reducible rfl | (exfalso; omega) | (apply Prod.ext <;> simp only <;> omega)
 unfold firstN
 rw [if_pos hd]
theorem first4_no (m b0 b1 b2 b3 : Nat) (h : 240 ≤ b0 ∧ b0 ≤ 244) (_h1 : 128 ≤ b1 ∧ b1 ≤ 191) (_h2 : 128 ≤ b2 ∧ b2 ≤ 191) (_h3 : 128 ≤ b3 ∧ b3 ≤ 191) (hc : b0 % 8 * 262144 + b1 % 64 * 4096 + b2 % 64 * 64 + b3 % 64 < 65536 ∨ 1114111 < b0 % 8 * 262144 + b1 % 64 * 4096 + b2 % 64 * 64 + b3 % 64) : firstN m b0 b1 b2 b3 = (0, 0) := by
 have hd : decodeN m b0 b1 b2 b3 = (65533, 1) := by
  unfold decodeN
  repeat' split
  all_goals first | with_reducible rfl | (exfalso; omega) | (apply Prod.ext <;> simp only <;> omega)
 unfold firstN
 rw [if_pos hd]
theorem first4_ok (m b0 b1 b2 b3 : Nat) (h : 240 ≤ b0 ∧ b0 ≤ 244) (hm : 4 ≤ m) (h1 : 128 ≤ b1 ∧ b1 ≤ 191) (h2 : 128 ≤ b2 ∧ b2 ≤ 191) (h3 : 128 ≤ b3 ∧ b3 ≤ 191) (hc : 65536 ≤ b0 % 8 * 262144 + b1 % 64 * 4096 + b2 % 64 * 64 + b3 % 64 ∧ b0 % 8 * 262144 + b1 % 64 * 4096 + b2 % 64 * 64 + b3 % 64 ≤ 1114111) : firstN m b0 b1 b2 b3 = (b0 % 8 * 262144 + b1 % 64 * 4096 + b2 % 64 * 64 + b3 % 64, 4) := by
 have hd : decodeN m b0 b1 b2 b3 = (b0 % 8 * 262144 + b1 % 64 * 4096 + b2 % 64 * 64 + b3 % 64, 4) := by
  unfold decodeN
  repeat' split
  all_goals first | with_reducible rfl | (exfalso; omega) | (apply Prod.ext <;> simp only <;> omega)
 unfold firstN
 rw [hd, if_neg]
 intro h
 have h2 : 4 = 1 := congrArg Prod.snd h
 have h1 : b0 % 8 * 262144 + b1 % 64 * 4096 + b2 % 64 * 64 + b3 % 64 = 65533 := congrArg Prod.fst h
 omega

theorem gb_get (s : ByteArray) (i : Nat) (h : i < s.size) : (s[i]'h).toNat = gb s i := by
 unfold gb
 rw [← get_at s i h]
 rfl
theorem not_empty (s : ByteArray) (h : 0 < s.size) : s.toList.isEmpty = false := by
 rw [Lib.toList_data]
 have hl : s.size = s.data.toList.length := (Array.length_toList (xs := s.data)).symm
 rw [hl] at h
 cases hd : s.data.toList with
 | nil => rw [hd] at h; simp at h
 | cons a l => rfl
def Told (w : World) (F : Nat × Nat) (e : Ending) (w' : World) : Prop := e = .returned (.tuple #[.int .i32 (F.1 : Int), .int .i64 (F.2 : Int)]) ∧ Below w.heap.size w w'

set_option maxHeartbeats 4000000 in
theorem first_zero (s : ByteArray) (w : World) (h1 : 1 ≤ s.size) (hmax : s.size ≤ maxLen) (h : (128 ≤ gb s 0 ∧ gb s 0 < 194) ∨ (244 < gb s 0 ∧ gb s 0 ≤ 255)) :
  Calls Tryz.prog 225 #[.string s] w (Told w (First s)) := by
 have hF : First s = (0, 0) := first_none _ _ _ _ _ h
 rw [hF]
 unfold maxLen at hmax
 have g0 := gb_get s 0 (by omega)
 have e1 := not_empty s (by omega)
 have e0 : (0 : Int) < (s.size : Int) := by omega
 generalize gb s 0 = b0 at *
 clear hF
 go_enter Tryz.func225, Tryz.ntmps225
 go_wp2_with fail
 refine (need_0 (b0 : Int) w (by omega)).mono ?_
 rintro e w' ⟨rfl, rfl⟩
 go_wp2
 go_ret2
 exact ⟨rfl, Below.refl _ _⟩
set_option maxHeartbeats 4000000 in
theorem first_s2 (s : ByteArray) (w : World) (h1 : 1 ≤ s.size) (hsh : s.size < 2) (h : 194 ≤ gb s 0 ∧ gb s 0 ≤ 223) :
  Calls Tryz.prog 225 #[.string s] w (Told w (First s)) := by
 have hF : First s = (0, 0) := first_short2 _ _ _ _ _ h hsh
 rw [hF]
 have g0 := gb_get s 0 (by omega)
 have e1 := not_empty s (by omega)
 have e0 : (0 : Int) < (s.size : Int) := by omega
 generalize gb s 0 = b0 at *
 clear hF
 go_enter Tryz.func225, Tryz.ntmps225
 go_wp2_with fail
 refine (need_2 (b0 : Int) w (by omega) (by omega)).mono ?_
 rintro e w' ⟨rfl, rfl⟩
 go_wp2
 go_ret2
 exact ⟨rfl, Below.refl _ _⟩
set_option maxHeartbeats 4000000 in
theorem first_s3 (s : ByteArray) (w : World) (h1 : 1 ≤ s.size) (hsh : s.size < 3) (h : 224 ≤ gb s 0 ∧ gb s 0 ≤ 239) :
  Calls Tryz.prog 225 #[.string s] w (Told w (First s)) := by
 have hF : First s = (0, 0) := first_short3 _ _ _ _ _ h hsh
 rw [hF]
 have g0 := gb_get s 0 (by omega)
 have e1 := not_empty s (by omega)
 have e0 : (0 : Int) < (s.size : Int) := by omega
 generalize gb s 0 = b0 at *
 clear hF
 go_enter Tryz.func225, Tryz.ntmps225
 go_wp2_with fail
 refine (need_3 (b0 : Int) w (by omega) (by omega)).mono ?_
 rintro e w' ⟨rfl, rfl⟩
 go_wp2
 go_ret2
 exact ⟨rfl, Below.refl _ _⟩
set_option maxHeartbeats 4000000 in
theorem first_s4 (s : ByteArray) (w : World) (h1 : 1 ≤ s.size) (hsh : s.size < 4) (h : 240 ≤ gb s 0 ∧ gb s 0 ≤ 244) :
  Calls Tryz.prog 225 #[.string s] w (Told w (First s)) := by
 have hF : First s = (0, 0) := first_short4 _ _ _ _ _ h hsh
 rw [hF]
 have g0 := gb_get s 0 (by omega)
 have e1 := not_empty s (by omega)
 have e0 : (0 : Int) < (s.size : Int) := by omega
 generalize gb s 0 = b0 at *
 clear hF
 go_enter Tryz.func225, Tryz.ntmps225
 go_wp2_with fail
 refine (need_4 (b0 : Int) w (by omega) (by omega)).mono ?_
 rintro e w' ⟨rfl, rfl⟩
 go_wp2
 go_ret2
 exact ⟨rfl, Below.refl _ _⟩
set_option maxHeartbeats 4000000 in
theorem first_ascii (s : ByteArray) (w : World) (h1 : 1 ≤ s.size) (hmax : s.size ≤ maxLen) (h : gb s 0 < 128) :
  Calls Tryz.prog 225 #[.string s] w (Told w (First s)) := by
 have hF : First s = (gb s 0, 1) := first_one _ _ _ _ _ h
 rw [hF]
 unfold maxLen at hmax
 have g0 := gb_get s 0 (by omega)
 have e1 := not_empty s (by omega)
 have e0 : (0 : Int) < (s.size : Int) := by omega
 have e4 : decide ((s.size : Int) < 1) = false := by simp; omega
 have rb : rightB (gb s 0 : Int) = true := by simp [rightB]; omega
 have lo' : decide ((gb s 0 : Int) < 0) = false := by simp
 generalize gb s 0 = b0 at *
 have RB := Lib.hid rb
 clear hF rb
 go_enter Tryz.func225, Tryz.ntmps225
 go_wp2_with fail
 refine (need_1 (b0 : Int) w (by omega) (by omega)).mono ?_
 rintro e w' ⟨rfl, rfl⟩
 go_wp2_with fail
 go_loop [5, 6] (fun cv iv => cv = .int .i32 b0 ∧ iv = .int .i64 1) (fun _ _ => 0)
 case atStart => exact ⟨rfl, rfl⟩
 case round =>
  obtain ⟨rfl, rfl⟩ := hrel
  go_wp2_with fail
  refine (refRight_is _ _ true RB.out).mono ?_
  rintro e w' ⟨rfl, rfl⟩
  go_wp2
  go_ret2
  exact ⟨rfl, (Below.refl _ _).alloc (Nat.le_refl _) _⟩

set_option maxHeartbeats 8000000 in
theorem first_m2 (s : ByteArray) (w : World) (hsz : 2 ≤ s.size) (hmax : s.size ≤ maxLen) (h : 194 ≤ gb s 0 ∧ gb s 0 ≤ 223) :
  Calls Tryz.prog 225 #[.string s] w (Told w (First s)) := by
 unfold maxLen at hmax
 unfold First
 have g0 := gb_get s 0 (by omega)
 have q0 := gb_lt s 0
 have e00 : (0 : Int) < (s.size : Int) := by omega
 have g1 := gb_get s 1 (by omega)
 have q1 := gb_lt s 1
 have e10 : (1 : Int) < (s.size : Int) := by omega
 have e1 := not_empty s (by omega)
 have e4 : decide ((s.size : Int) < 2) = false := by simp; omega
 generalize gb s 0 = b0 at *
 generalize gb s 1 = b1 at *
 generalize gb s 2 = b2 at *
 generalize gb s 3 = b3 at *
 obtain ⟨k1, hk1⟩ : ∃ k1 : Nat, k1 = b0 % 32 := ⟨_, rfl⟩
 have hk1' : (b0 : Int) % 32 = (k1 : Int) := by omega
 have hk1b : k1 < 32 := by omega
 obtain ⟨k2, hk2⟩ : ∃ k2 : Nat, k2 = k1 * 64 + b1 % 64 := ⟨_, rfl⟩
 have hk2' : (k1 : Int) * 64 + (b1 : Int) % 64 = (k2 : Int) := by omega
 have hk2b : k2 < 2048 := by omega
 have HK1 := Lib.hid hk1
 have HK2 := Lib.hid hk2
 clear hk1 hk2
 go_enter Tryz.func225, Tryz.ntmps225
 go_wp2_with fail
 refine (need_2 (b0 : Int) w (by omega) (by omega)).mono ?_
 rintro e w' ⟨rfl, rfl⟩
 go_wp2_with fail
 go_loopg [5, 6] 1 (fun g cv iv wr => w = wr ∧ ((g = 1 ∧ cv = .int .i32 k1 ∧ iv = .int .i64 1) ∨ (g = 0 ∧ cv = .int .i32 k2 ∧ iv = .int .i64 2 ∧ (128 ≤ b1 ∧ b1 ≤ 191))))
 case atStart => exact ⟨rfl, .inl ⟨rfl, by first | rfl | (exact congrArg (Value.int .i32) hk1'), rfl⟩⟩
 case round =>
  obtain ⟨rfl, hrel⟩ := hrel
  rcases hrel with ⟨hg, rfl, rfl⟩ | ⟨hg, rfl, rfl, hc1⟩
  ·have HG := Lib.hid hg
   clear hg
   by_cases d1 : b1 < 128
   ·have hF : firstN s.size b0 b1 b2 b3 = (0, 0) := first2_bad _ _ _ _ _ h (.inl d1)
    have HF := Lib.hid hF
    clear hF
    have d1' : (b1 : Int) < 128 := by omega
    go_wp2
    go_ret2
    exact ⟨by rw [HF.out]; rfl, Below.refl _ _⟩
   have d1' : decide ((b1 : Int) < 128) = false := by simp; omega
   by_cases d2 : 191 < b1
   ·have hF : firstN s.size b0 b1 b2 b3 = (0, 0) := first2_bad _ _ _ _ _ h (.inr ⟨d2, by omega⟩)
    have HF := Lib.hid hF
    clear hF
    have d2' : (191 : Int) < (b1 : Int) := by omega
    go_wp2
    go_ret2
    exact ⟨by rw [HF.out]; rfl, Below.refl _ _⟩
   have d2' : decide ((191 : Int) < (b1 : Int)) = false := by simp; omega
   have hc1 : 128 ≤ b1 ∧ b1 ≤ 191 := by omega
   have HC1 := Lib.hid hc1
   clear hc1
   go_wp2
   go_roundg 0
   case measure => have := HG.out; omega
   case rel => exact ⟨rfl, .inr ⟨rfl, by first | rfl | go_num, rfl, HC1.out⟩⟩
  ·clear hg
   have hv : k2 = b0 % 32 * 64 + b1 % 64 := by
    have := HK1.out
    have := HK2.out
    omega
   have hF : firstN s.size b0 b1 b2 b3 = (k2, 2) := by rw [hv]; exact first2_ok _ _ _ _ _ h hsz hc1
   have HF := Lib.hid hF
   have rb : rightB (k2 : Int) = true := by simp [rightB]; omega
   have RB := Lib.hid rb
   have lo : ¬ (k2 : Int) < 128 := by omega
   have lo' : decide ((k2 : Int) < 128) = false := by simpa using lo
   clear hF hv rb
   go_wp2_with fail
   refine (refRight_is _ _ true RB.out).mono ?_
   rintro e w' ⟨rfl, rfl⟩
   go_wp2
   go_ret2
   exact ⟨by rw [HF.out]; rfl, (Below.refl _ _).alloc (Nat.le_refl _) _⟩

set_option maxHeartbeats 8000000 in
theorem first_m3 (s : ByteArray) (w : World) (hsz : 3 ≤ s.size) (hmax : s.size ≤ maxLen) (h : 224 ≤ gb s 0 ∧ gb s 0 ≤ 239) :
  Calls Tryz.prog 225 #[.string s] w (Told w (First s)) := by
 unfold maxLen at hmax
 unfold First
 have g0 := gb_get s 0 (by omega)
 have q0 := gb_lt s 0
 have e00 : (0 : Int) < (s.size : Int) := by omega
 have g1 := gb_get s 1 (by omega)
 have q1 := gb_lt s 1
 have e10 : (1 : Int) < (s.size : Int) := by omega
 have g2 := gb_get s 2 (by omega)
 have q2 := gb_lt s 2
 have e20 : (2 : Int) < (s.size : Int) := by omega
 have e1 := not_empty s (by omega)
 have e4 : decide ((s.size : Int) < 3) = false := by simp; omega
 generalize gb s 0 = b0 at *
 generalize gb s 1 = b1 at *
 generalize gb s 2 = b2 at *
 generalize gb s 3 = b3 at *
 obtain ⟨k1, hk1⟩ : ∃ k1 : Nat, k1 = b0 % 16 := ⟨_, rfl⟩
 have hk1' : (b0 : Int) % 16 = (k1 : Int) := by omega
 have hk1b : k1 < 16 := by omega
 obtain ⟨k2, hk2⟩ : ∃ k2 : Nat, k2 = k1 * 64 + b1 % 64 := ⟨_, rfl⟩
 have hk2' : (k1 : Int) * 64 + (b1 : Int) % 64 = (k2 : Int) := by omega
 have hk2b : k2 < 1024 := by omega
 obtain ⟨k3, hk3⟩ : ∃ k3 : Nat, k3 = k2 * 64 + b2 % 64 := ⟨_, rfl⟩
 have hk3' : (k2 : Int) * 64 + (b2 : Int) % 64 = (k3 : Int) := by omega
 have hk3b : k3 < 65536 := by omega
 have HK1 := Lib.hid hk1
 have HK2 := Lib.hid hk2
 have HK3 := Lib.hid hk3
 clear hk1 hk2 hk3
 go_enter Tryz.func225, Tryz.ntmps225
 go_wp2_with fail
 refine (need_3 (b0 : Int) w (by omega) (by omega)).mono ?_
 rintro e w' ⟨rfl, rfl⟩
 go_wp2_with fail
 go_loopg [5, 6] 2 (fun g cv iv wr => w = wr ∧ ((g = 2 ∧ cv = .int .i32 k1 ∧ iv = .int .i64 1) ∨ (g = 1 ∧ cv = .int .i32 k2 ∧ iv = .int .i64 2 ∧ (128 ≤ b1 ∧ b1 ≤ 191)) ∨ (g = 0 ∧ cv = .int .i32 k3 ∧ iv = .int .i64 3 ∧ (128 ≤ b1 ∧ b1 ≤ 191) ∧ (128 ≤ b2 ∧ b2 ≤ 191))))
 case atStart => exact ⟨rfl, .inl ⟨rfl, by first | rfl | (exact congrArg (Value.int .i32) hk1'), rfl⟩⟩
 case round =>
  obtain ⟨rfl, hrel⟩ := hrel
  rcases hrel with ⟨hg, rfl, rfl⟩ | ⟨hg, rfl, rfl, hc1⟩ | ⟨hg, rfl, rfl, hc1, hc2⟩
  ·have HG := Lib.hid hg
   clear hg
   by_cases d1 : b1 < 128
   ·have hF : firstN s.size b0 b1 b2 b3 = (0, 0) := first3_bad1 _ _ _ _ _ h (.inl d1)
    have HF := Lib.hid hF
    clear hF
    have d1' : (b1 : Int) < 128 := by omega
    go_wp2
    go_ret2
    exact ⟨by rw [HF.out]; rfl, Below.refl _ _⟩
   have d1' : decide ((b1 : Int) < 128) = false := by simp; omega
   by_cases d2 : 191 < b1
   ·have hF : firstN s.size b0 b1 b2 b3 = (0, 0) := first3_bad1 _ _ _ _ _ h (.inr ⟨d2, by omega⟩)
    have HF := Lib.hid hF
    clear hF
    have d2' : (191 : Int) < (b1 : Int) := by omega
    go_wp2
    go_ret2
    exact ⟨by rw [HF.out]; rfl, Below.refl _ _⟩
   have d2' : decide ((191 : Int) < (b1 : Int)) = false := by simp; omega
   have hc1 : 128 ≤ b1 ∧ b1 ≤ 191 := by omega
   have HC1 := Lib.hid hc1
   clear hc1
   go_wp2
   go_roundg 1
   case measure => have := HG.out; omega
   case rel => exact ⟨rfl, .inr (.inl ⟨rfl, by first | rfl | go_num, rfl, HC1.out⟩)⟩
  ·have HG := Lib.hid hg
   clear hg
   by_cases d1 : b2 < 128
   ·have hF : firstN s.size b0 b1 b2 b3 = (0, 0) := first3_bad2 _ _ _ _ _ h (.inl d1)
    have HF := Lib.hid hF
    clear hF
    have d1' : (b2 : Int) < 128 := by omega
    go_wp2
    go_ret2
    exact ⟨by rw [HF.out]; rfl, Below.refl _ _⟩
   have d1' : decide ((b2 : Int) < 128) = false := by simp; omega
   by_cases d2 : 191 < b2
   ·have hF : firstN s.size b0 b1 b2 b3 = (0, 0) := first3_bad2 _ _ _ _ _ h (.inr ⟨d2, by omega⟩)
    have HF := Lib.hid hF
    clear hF
    have d2' : (191 : Int) < (b2 : Int) := by omega
    go_wp2
    go_ret2
    exact ⟨by rw [HF.out]; rfl, Below.refl _ _⟩
   have d2' : decide ((191 : Int) < (b2 : Int)) = false := by simp; omega
   have hc2 : 128 ≤ b2 ∧ b2 ≤ 191 := by omega
   have HC2 := Lib.hid hc2
   clear hc2
   go_wp2
   go_roundg 0
   case measure => have := HG.out; omega
   case rel => exact ⟨rfl, .inr (.inr ⟨rfl, by first | rfl | go_num, rfl, hc1, HC2.out⟩)⟩
  ·clear hg
   have hv : k3 = b0 % 16 * 4096 + b1 % 64 * 64 + b2 % 64 := by
    have := HK1.out
    have := HK2.out
    have := HK3.out
    omega
   by_cases d1 : k3 < 2048
   ·have hF : firstN s.size b0 b1 b2 b3 = (0, 0) := first3_no _ _ _ _ _ h hc1 hc2 (by rw [← hv]; omega)
    have HF := Lib.hid hF
    clear hF hv
    have d1' : (k3 : Int) < 2048 := by omega
    go_wp2
    go_ret2
    exact ⟨by rw [HF.out]; rfl, (Below.refl _ _).alloc (Nat.le_refl _) _⟩
   have lo' : decide ((k3 : Int) < 2048) = false := by simp; omega
   by_cases d2 : 55296 ≤ k3 ∧ k3 ≤ 57343
   ·have hF : firstN s.size b0 b1 b2 b3 = (0, 0) := first3_no _ _ _ _ _ h hc1 hc2 (by rw [← hv]; omega)
    have HF := Lib.hid hF
    have rb : rightB (k3 : Int) = false := by simp [rightB]; omega
    have RB := Lib.hid rb
    clear hF hv rb d2
    go_wp2_with fail
    refine (refRight_is _ _ false RB.out).mono ?_
    rintro e w' ⟨rfl, rfl⟩
    go_wp2
    go_ret2
    exact ⟨by rw [HF.out]; rfl, (Below.refl _ _).alloc (Nat.le_refl _) _⟩
   have hF : firstN s.size b0 b1 b2 b3 = (k3, 3) := by rw [hv]; exact first3_ok _ _ _ _ _ h hsz hc1 hc2 (by rw [← hv]; omega)
   have HF := Lib.hid hF
   have rb : rightB (k3 : Int) = true := by simp [rightB]; omega
   have RB := Lib.hid rb
   clear hF hv rb d2
   go_wp2_with fail
   refine (refRight_is _ _ true RB.out).mono ?_
   rintro e w' ⟨rfl, rfl⟩
   go_wp2
   go_ret2
   exact ⟨by rw [HF.out]; rfl, (Below.refl _ _).alloc (Nat.le_refl _) _⟩

set_option maxHeartbeats 8000000 in
theorem first_m4 (s : ByteArray) (w : World) (hsz : 4 ≤ s.size) (hmax : s.size ≤ maxLen) (h : 240 ≤ gb s 0 ∧ gb s 0 ≤ 244) :
  Calls Tryz.prog 225 #[.string s] w (Told w (First s)) := by
 unfold maxLen at hmax
 unfold First
 have g0 := gb_get s 0 (by omega)
 have q0 := gb_lt s 0
 have e00 : (0 : Int) < (s.size : Int) := by omega
 have g1 := gb_get s 1 (by omega)
 have q1 := gb_lt s 1
 have e10 : (1 : Int) < (s.size : Int) := by omega
 have g2 := gb_get s 2 (by omega)
 have q2 := gb_lt s 2
 have e20 : (2 : Int) < (s.size : Int) := by omega
 have g3 := gb_get s 3 (by omega)
 have q3 := gb_lt s 3
 have e30 : (3 : Int) < (s.size : Int) := by omega
 have e1 := not_empty s (by omega)
 have e4 : decide ((s.size : Int) < 4) = false := by simp; omega
 generalize gb s 0 = b0 at *
 generalize gb s 1 = b1 at *
 generalize gb s 2 = b2 at *
 generalize gb s 3 = b3 at *
 obtain ⟨k1, hk1⟩ : ∃ k1 : Nat, k1 = b0 % 8 := ⟨_, rfl⟩
 have hk1' : (b0 : Int) % 8 = (k1 : Int) := by omega
 have hk1b : k1 < 8 := by omega
 obtain ⟨k2, hk2⟩ : ∃ k2 : Nat, k2 = k1 * 64 + b1 % 64 := ⟨_, rfl⟩
 have hk2' : (k1 : Int) * 64 + (b1 : Int) % 64 = (k2 : Int) := by omega
 have hk2b : k2 < 512 := by omega
 obtain ⟨k3, hk3⟩ : ∃ k3 : Nat, k3 = k2 * 64 + b2 % 64 := ⟨_, rfl⟩
 have hk3' : (k2 : Int) * 64 + (b2 : Int) % 64 = (k3 : Int) := by omega
 have hk3b : k3 < 32768 := by omega
 obtain ⟨k4, hk4⟩ : ∃ k4 : Nat, k4 = k3 * 64 + b3 % 64 := ⟨_, rfl⟩
 have hk4' : (k3 : Int) * 64 + (b3 : Int) % 64 = (k4 : Int) := by omega
 have hk4b : k4 < 2097152 := by omega
 have HK1 := Lib.hid hk1
 have HK2 := Lib.hid hk2
 have HK3 := Lib.hid hk3
 have HK4 := Lib.hid hk4
 clear hk1 hk2 hk3 hk4
 go_enter Tryz.func225, Tryz.ntmps225
 go_wp2_with fail
 refine (need_4 (b0 : Int) w (by omega) (by omega)).mono ?_
 rintro e w' ⟨rfl, rfl⟩
 go_wp2_with fail
 go_loopg [5, 6] 3 (fun g cv iv wr => w = wr ∧ ((g = 3 ∧ cv = .int .i32 k1 ∧ iv = .int .i64 1) ∨ (g = 2 ∧ cv = .int .i32 k2 ∧ iv = .int .i64 2 ∧ (128 ≤ b1 ∧ b1 ≤ 191)) ∨ (g = 1 ∧ cv = .int .i32 k3 ∧ iv = .int .i64 3 ∧ (128 ≤ b1 ∧ b1 ≤ 191) ∧ (128 ≤ b2 ∧ b2 ≤ 191)) ∨ (g = 0 ∧ cv = .int .i32 k4 ∧ iv = .int .i64 4 ∧ (128 ≤ b1 ∧ b1 ≤ 191) ∧ (128 ≤ b2 ∧ b2 ≤ 191) ∧ (128 ≤ b3 ∧ b3 ≤ 191))))
 case atStart => exact ⟨rfl, .inl ⟨rfl, by first | rfl | (exact congrArg (Value.int .i32) hk1'), rfl⟩⟩
 case round =>
  obtain ⟨rfl, hrel⟩ := hrel
  rcases hrel with ⟨hg, rfl, rfl⟩ | ⟨hg, rfl, rfl, hc1⟩ | ⟨hg, rfl, rfl, hc1, hc2⟩ | ⟨hg, rfl, rfl, hc1, hc2, hc3⟩
  ·have HG := Lib.hid hg
   clear hg
   by_cases d1 : b1 < 128
   ·have hF : firstN s.size b0 b1 b2 b3 = (0, 0) := first4_bad1 _ _ _ _ _ h (.inl d1)
    have HF := Lib.hid hF
    clear hF
    have d1' : (b1 : Int) < 128 := by omega
    go_wp2
    go_ret2
    exact ⟨by rw [HF.out]; rfl, Below.refl _ _⟩
   have d1' : decide ((b1 : Int) < 128) = false := by simp; omega
   by_cases d2 : 191 < b1
   ·have hF : firstN s.size b0 b1 b2 b3 = (0, 0) := first4_bad1 _ _ _ _ _ h (.inr ⟨d2, by omega⟩)
    have HF := Lib.hid hF
    clear hF
    have d2' : (191 : Int) < (b1 : Int) := by omega
    go_wp2
    go_ret2
    exact ⟨by rw [HF.out]; rfl, Below.refl _ _⟩
   have d2' : decide ((191 : Int) < (b1 : Int)) = false := by simp; omega
   have hc1 : 128 ≤ b1 ∧ b1 ≤ 191 := by omega
   have HC1 := Lib.hid hc1
   clear hc1
   go_wp2
   go_roundg 2
   case measure => have := HG.out; omega
   case rel => exact ⟨rfl, .inr (.inl ⟨rfl, by first | rfl | go_num, rfl, HC1.out⟩)⟩
  ·have HG := Lib.hid hg
   clear hg
   by_cases d1 : b2 < 128
   ·have hF : firstN s.size b0 b1 b2 b3 = (0, 0) := first4_bad2 _ _ _ _ _ h (.inl d1)
    have HF := Lib.hid hF
    clear hF
    have d1' : (b2 : Int) < 128 := by omega
    go_wp2
    go_ret2
    exact ⟨by rw [HF.out]; rfl, Below.refl _ _⟩
   have d1' : decide ((b2 : Int) < 128) = false := by simp; omega
   by_cases d2 : 191 < b2
   ·have hF : firstN s.size b0 b1 b2 b3 = (0, 0) := first4_bad2 _ _ _ _ _ h (.inr ⟨d2, by omega⟩)
    have HF := Lib.hid hF
    clear hF
    have d2' : (191 : Int) < (b2 : Int) := by omega
    go_wp2
    go_ret2
    exact ⟨by rw [HF.out]; rfl, Below.refl _ _⟩
   have d2' : decide ((191 : Int) < (b2 : Int)) = false := by simp; omega
   have hc2 : 128 ≤ b2 ∧ b2 ≤ 191 := by omega
   have HC2 := Lib.hid hc2
   clear hc2
   go_wp2
   go_roundg 1
   case measure => have := HG.out; omega
   case rel => exact ⟨rfl, .inr (.inr (.inl ⟨rfl, by first | rfl | go_num, rfl, hc1, HC2.out⟩))⟩
  ·have HG := Lib.hid hg
   clear hg
   by_cases d1 : b3 < 128
   ·have hF : firstN s.size b0 b1 b2 b3 = (0, 0) := first4_bad3 _ _ _ _ _ h (.inl d1)
    have HF := Lib.hid hF
    clear hF
    have d1' : (b3 : Int) < 128 := by omega
    go_wp2
    go_ret2
    exact ⟨by rw [HF.out]; rfl, Below.refl _ _⟩
   have d1' : decide ((b3 : Int) < 128) = false := by simp; omega
   by_cases d2 : 191 < b3
   ·have hF : firstN s.size b0 b1 b2 b3 = (0, 0) := first4_bad3 _ _ _ _ _ h (.inr ⟨d2, by omega⟩)
    have HF := Lib.hid hF
    clear hF
    have d2' : (191 : Int) < (b3 : Int) := by omega
    go_wp2
    go_ret2
    exact ⟨by rw [HF.out]; rfl, Below.refl _ _⟩
   have d2' : decide ((191 : Int) < (b3 : Int)) = false := by simp; omega
   have hc3 : 128 ≤ b3 ∧ b3 ≤ 191 := by omega
   have HC3 := Lib.hid hc3
   clear hc3
   go_wp2
   go_roundg 0
   case measure => have := HG.out; omega
   case rel => exact ⟨rfl, .inr (.inr (.inr ⟨rfl, by first | rfl | go_num, rfl, hc1, hc2, HC3.out⟩))⟩
  ·clear hg
   have hv : k4 = b0 % 8 * 262144 + b1 % 64 * 4096 + b2 % 64 * 64 + b3 % 64 := by
    have := HK1.out
    have := HK2.out
    have := HK3.out
    have := HK4.out
    omega
   by_cases d1 : k4 < 65536
   ·have hF : firstN s.size b0 b1 b2 b3 = (0, 0) := first4_no _ _ _ _ _ h hc1 hc2 hc3 (by rw [← hv]; omega)
    have HF := Lib.hid hF
    clear hF hv
    have d1' : (k4 : Int) < 65536 := by omega
    go_wp2
    go_ret2
    exact ⟨by rw [HF.out]; rfl, (Below.refl _ _).alloc (Nat.le_refl _) _⟩
   have lo' : decide ((k4 : Int) < 65536) = false := by simp; omega
   by_cases d2 : 1114111 < k4
   ·have hF : firstN s.size b0 b1 b2 b3 = (0, 0) := first4_no _ _ _ _ _ h hc1 hc2 hc3 (by rw [← hv]; omega)
    have HF := Lib.hid hF
    have rb : rightB (k4 : Int) = false := by simp [rightB]; omega
    have RB := Lib.hid rb
    clear hF hv rb d2
    go_wp2_with fail
    refine (refRight_is _ _ false RB.out).mono ?_
    rintro e w' ⟨rfl, rfl⟩
    go_wp2
    go_ret2
    exact ⟨by rw [HF.out]; rfl, (Below.refl _ _).alloc (Nat.le_refl _) _⟩
   have hF : firstN s.size b0 b1 b2 b3 = (k4, 4) := by rw [hv]; exact first4_ok _ _ _ _ _ h hsz hc1 hc2 hc3 (by rw [← hv]; omega)
   have HF := Lib.hid hF
   have rb : rightB (k4 : Int) = true := by simp [rightB]; omega
   have RB := Lib.hid rb
   clear hF hv rb d2
   go_wp2_with fail
   refine (refRight_is _ _ true RB.out).mono ?_
   rintro e w' ⟨rfl, rfl⟩
   go_wp2
   go_ret2
   exact ⟨by rw [HF.out]; rfl, (Below.refl _ _).alloc (Nat.le_refl _) _⟩

theorem first_any (s : ByteArray) (w : World) (h1 : 1 ≤ s.size) (hmax : s.size ≤ maxLen) : Calls Tryz.prog 225 #[.string s] w (Told w (First s)) := by
 have hb := gb_lt s 0
 by_cases c1 : gb s 0 < 128
 ·exact first_ascii s w h1 hmax c1
 by_cases c2 : gb s 0 < 194
 ·exact first_zero s w h1 hmax (.inl ⟨by omega, c2⟩)
 by_cases c3 : gb s 0 ≤ 223
 ·by_cases d : s.size < 2
  ·exact first_s2 s w h1 d ⟨by omega, c3⟩
  ·exact first_m2 s w (by omega) hmax ⟨by omega, c3⟩
 by_cases c4 : gb s 0 ≤ 239
 ·by_cases d : s.size < 3
  ·exact first_s3 s w h1 d ⟨by omega, c4⟩
  ·exact first_m3 s w (by omega) hmax ⟨by omega, c4⟩
 by_cases c5 : gb s 0 ≤ 244
 ·by_cases d : s.size < 4
  ·exact first_s4 s w h1 d ⟨by omega, c5⟩
  ·exact first_m4 s w (by omega) hmax ⟨by omega, c5⟩
 ·exact first_zero s w h1 hmax (.inr ⟨by omega, by omega⟩)
end Go.Proofs.YthaibekbefndlaaGreatDoor.C
