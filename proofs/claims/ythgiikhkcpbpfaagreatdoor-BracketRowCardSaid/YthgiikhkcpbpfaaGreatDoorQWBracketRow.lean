/-
  The law BracketRow answers true: from one letter to another one are all between. Condition: bytes; what is asked of the listed variables.
-/
import Derived.Test.YthgiikhkcpbpfaaGreatDoorQBaT
namespace Go.Proofs.YthgiikhkcpbpfaaGreatDoor.C
open Go.RowKit

theorem rng_any (a m : Nat) (c : Int) : ((List.range m).map fun i => (((a + i : Nat) : Int), ((a + i : Nat) : Int))).any (inB c) = decide ((a : Int) ≤ c ∧ c < (a : Int) + m) := by
 rw [Bool.eq_iff_iff, List.any_eq_true]
 simp only [inB, List.mem_map, List.mem_range, decide_eq_true_eq]
 constructor
 ·rintro ⟨p, ⟨i, hi, rfl⟩, h1, h2⟩
  simp only at h1 h2
  omega
 ·rintro ⟨h1, h2⟩
  exact ⟨_, ⟨(c - a).toNat, by omega, rfl⟩, by simp only; omega, by simp only; omega⟩
theorem mod_nat {a : Int} (h : 0 ≤ a) (n : Nat) (hn : 0 < n) : ∃ r : Nat, a.tmod (n : Int) = (r : Int) ∧ r < n := by
 refine ⟨(a % (n : Int)).toNat, ?_, ?_⟩
 ·rw [Int.tmod_eq_emod_of_nonneg h]
  have := Int.emod_nonneg a (b := (n : Int)) (by omega)
  omega
 ·have := Int.emod_lt_of_pos a (b := (n : Int)) (by omega)
  have := Int.emod_nonneg a (b := (n : Int)) (by omega)
  omega
set_option maxRecDepth 100000 in
set_option maxHeartbeats 400000 in
theorem bracketRowWalk (a0 a1 a2 : Int) (w : World) (hG : Gm w) (w0 : (Lit.int .u8 a0).wf = true) (w1 : (Lit.int .u8 a1).wf = true) (w2 : (Lit.int .u8 a2).wf = true) :
  Calls Tryz.prog 3 #[.int .u8 a0, .int .u8 a1, .int .u8 a2] w fun e w' => e = .returned (.bool true) ∧ Below w.heap.size w w' := by
 have ha0 := byte_in w0
 have ha1 := byte_in w1
 have ha2 := byte_in w2
 obtain ⟨r1, hr1, k1⟩ := mod_nat (a := min a0 a1) (by omega) 26 (by omega)
 obtain ⟨r2, hr2, k2⟩ := mod_nat (a := max a0 a1) (by omega) 26 (by omega)
 obtain ⟨r3, hr3, k3⟩ := mod_nat (a := a2) (by omega) 26 (by omega)
 replace hr1 : (min a0 a1).tmod 26 = (r1 : Int) := hr1
 replace hr2 : (max a0 a1).tmod 26 = (r2 : Int) := hr2
 replace hr3 : a2.tmod 26 = (r3 : Int) := hr3
 have x1 : IntKind.u8.wrap (r1 : Int) = (r1 : Int) := by rw [IntKind.wrap_u8]; omega
 have x2 : IntKind.u8.wrap (r2 : Int) = (r2 : Int) := by rw [IntKind.wrap_u8]; omega
 have x3 : IntKind.u8.wrap (r3 : Int) = (r3 : Int) := by rw [IntKind.wrap_u8]; omega
 have y1 : IntKind.u8.wrap (97 + (r1 : Int)) = 97 + (r1 : Int) := by rw [IntKind.wrap_u8]; omega
 have y2 : IntKind.u8.wrap (97 + (r2 : Int)) = 97 + (r2 : Int) := by rw [IntKind.wrap_u8]; omega
 have y3 : IntKind.u8.wrap (97 + (r3 : Int)) = 97 + (r3 : Int) := by rw [IntKind.wrap_u8]; omega
 have z1 : IntKind.i32.wrap (97 + (r1 : Int)) = 97 + (r1 : Int) := by rw [IntKind.wrap_i32]; omega
 have z2 : IntKind.i32.wrap (97 + (r2 : Int)) = 97 + (r2 : Int) := by rw [IntKind.wrap_i32]; omega
 have z3 : IntKind.i32.wrap (97 + (r3 : Int)) = 97 + (r3 : Int) := by rw [IntKind.wrap_i32]; omega
 have htb := tableP_any w hG
 have HG := Lib.hid hG
 have HGT : Hid ((5 : Nat) < w.heap.size) := Lib.hid (World.block_lt_of_cell? w _ hG.1)
 have q : ∀ (a : Option Addr) (w : World), (binOp .eql 22 (.pointer a) (.pointer none)).run Tryz.prog w = .ok (.bool a.isNone) w := fun a w => ptr_nilB a w
 clear hG w0 w1 w2 ha0 ha1 ha2
 go_enter Tryz.func3, Tryz.ntmps3
 go_wp2_with fail
 refine htb.mono ?_
 rintro e w1 ⟨T, v, rfl, ⟨A1, n1, c1, A2, n2, c2, A3, n3, c3, A4, n4, c4, rfl⟩, hT, ht, hb1⟩
 have HT : Hid (w.heap.size ≤ T) := Lib.hid hT
 obtain ⟨w2, hw2⟩ : ∃ w2, w2 = w1.alloc (.cells #[.slice A1 n1 c1, .slice A2 n2 c2, .slice A3 n3 c3, .slice A4 n4 c4] 27) := ⟨_, rfl⟩
 have hb2 : Below w1.heap.size w1 w2 := by rw [hw2]; exact below_new _ _
 have HB2 : Hid (Below w.heap.size w w2) := Lib.hid (hb1.trans (hb2.mono hb1.size))
 have HT2 := Lib.hid (ht.keep hb2)
 obtain ⟨hi, hhi⟩ : ∃ hi : Nat, hi = max (97 + r1) (97 + r2) := ⟨_, rfl⟩
 have hmx : max (97 + (r1 : Int)) (97 + (r2 : Int)) = (hi : Int) := by omega
 obtain ⟨w3, hw3⟩ : ∃ w3, w3 = w2.alloc (.cells #[.int .i32 (97 + (r1 : Int)), .int .i32 45, .int .i32 (hi : Int), .int .i32 93] 30) := ⟨_, rfl⟩
 have ho3 : w3.ownsRow w2.heap.size 30 1 (.slice (some ⟨w2.heap.size, 0, none⟩) 4 4) 4 (celC [97 + (r1 : Int), 45, (hi : Int), 93]) := by rw [hw3]; exact own_newK (l := celC [97 + (r1 : Int), 45, (hi : Int), 93]) (Nat.le_refl _) rfl (by decide)
 have hb3 : Below w2.heap.size w2 w3 := by rw [hw3]; exact below_new _ _
 have HB3 : Hid (Below w.heap.size w w3) := Lib.hid (HB2.out.trans (hb3.mono HB2.out.size))
 have hp := parseOf_any w3 w T 0 w2.heap.size plainLoc _ 4 [97 + (r1 : Int), 45, (hi : Int), 93] 0 ho3 HT2.out.lt (HT2.out.keep hb3) HG.out HB3.out HT.out HGT.out (by simp) plain_right plain_rs (by omega)
 have hbr := brk_row (a := 97 + r1) (b := hi) (by omega) (by omega) (by omega)
 rw [show ((97 + r1 : Nat) : Int) = 97 + (r1 : Int) by omega] at hbr
 rw [hbr] at hp
 unfold BrkTold at hp
 simp only [List.length_cons, List.length_nil, Nat.reduceAdd, Nat.reduceMul] at hp
 have HMX := Lib.hid hhi
 have HS2 : Hid (w2.heap.size = w1.heap.size + 1) := Lib.hid (by rw [hw2]; simp)
 clear htb hT ht hb1 hb2 ho3 hb3 hbr hhi
 go_wp2_with fail
 rw [← hw2, ← hw3]
 clear hw2 hw3
 rw [show w1.heap.size + 1 = w2.heap.size from HS2.out.symm]
 refine hp.mono ?_
 rintro e w4 ⟨v, rfl, hs1, ht4, hf4⟩
 obtain ⟨AR, cR, AT, cT, rfl, hrow⟩ := hs1.row
 simp only [List.length_map, List.length_range, List.length_nil] at hrow ⊢
 obtain ⟨m, hm⟩ : ∃ m, m = hi - (97 + r1) + 1 := ⟨_, rfl⟩
 rw [← hm] at hrow ⊢
 have HM := Lib.hid hm
 have HB4 : Hid (Below w.heap.size w w4) := Lib.hid (below_T HB3.out hf4 HT.out)
 obtain ⟨w5, hw5⟩ : ∃ w5, w5 = w4.alloc (.cells #[.bool false, .slice AR m cR, .slice AT 0 cT] 34) := ⟨_, rfl⟩
 have hb5 : Below w4.heap.size w4 w5 := by rw [hw5]; exact below_new _ _
 have hz5 : BrkZ w5 w4.heap.size (.bool false) (.slice AR m cR) (.slice AT 0 cT) := by rw [hw5]; exact heap_alloc_new w4 _
 obtain ⟨x0, x1', x2'⟩ := hz5.cells
 obtain ⟨w6, hw6⟩ : ∃ w6, w6 = w5.alloc (.cells #[.int .i32 (97 + (r3 : Int))] 30) := ⟨_, rfl⟩
 have hb6 : Below w5.heap.size w5 w6 := by rw [hw6]; exact below_new _ _
 have hri6 : RI .i32 w6 (w5.heap.size + 1) (some ⟨w5.heap.size, 0, none⟩) 1 [97 + (r3 : Int)] := by rw [hw6]; exact ri_new1 w5 _
 have hs6 : w6.heap.size = w5.heap.size + 1 := by rw [hw6]; simp
 obtain ⟨d, hd⟩ : ∃ d, d = decide (97 + (r1 : Int) ≤ 97 + (r3 : Int) ∧ 97 + (r3 : Int) ≤ (hi : Int)) := ⟨_, rfl⟩
 have hlen := lensN_any w6 false (.slice AR m cR) ((List.range m).map fun i => (((97 + r1 + i : Nat) : Int), ((97 + r1 + i : Nat) : Int))) AT (some ⟨w5.heap.size, 0, none⟩) cT 1 _ _ (97 + (r3 : Int)) d (by rw [List.length_map, List.length_range]; exact own_next (own_next hrow hb5) hb6) hri6 (by omega) (by omega) (by
  rw [rng_any, hd, Bool.bne_false]
  congr 1
  have := HMX.out
  apply propext
  omega)
 have HB6 : Hid (Below w.heap.size w w6) := Lib.hid ((HB4.out.trans (hb5.mono HB4.out.size)).trans (hb6.mono (by have := HB4.out.size; have := hb5.size; omega)))
 have HTU6 := Lib.hid ((ht4.keep hb5).keep hb6)
 have HD := Lib.hid hd
 have HW6 : Hid (w6 = (w4.alloc (.cells #[.bool false, .slice AR m cR, .slice AT 0 cT] 34)).alloc (.cells #[.int .i32 (97 + (r3 : Int))] 30)) := Lib.hid (by rw [hw6, hw5])
 have HS5 : Hid (w5.heap.size = w4.heap.size + 1) := Lib.hid (by rw [hw5]; simp)
 rw [hw5] at x0 x1' x2'
 clear hp hs1 ht4 hf4 hrow hb5 hz5 hb6 hri6 hs6 hw5 hw6 hm hd
 go_wp2_with fail
 rw [← HW6.out]
 clear HW6
 rw [show w4.heap.size + 1 = w5.heap.size from HS5.out.symm]
 refine hlen.mono ?_
 rintro e w7 ⟨⟨An, cn, rfl, -⟩, hb7⟩
 clear hlen x0 x1' x2'
 have HB7 : Hid (Below w.heap.size w w7) := Lib.hid (HB6.out.trans (hb7.mono HB6.out.size))
 have HT7 := Lib.hid (HTU6.out.keep hb7)
 obtain ⟨w8, hw8⟩ : ∃ w8, w8 = w7.alloc (.cells #[.int .i32 99, .int .i32 45, .int .i32 97, .int .i32 93] 30) := ⟨_, rfl⟩
 have ho8 : w8.ownsRow w7.heap.size 30 1 (.slice (some ⟨w7.heap.size, 0, none⟩) 4 4) 4 (celC [99, 45, 97, 93]) := by rw [hw8]; exact own_newK (l := celC [99, 45, 97, 93]) (Nat.le_refl _) rfl (by decide)
 have hb8 : Below w7.heap.size w7 w8 := by rw [hw8]; exact below_new _ _
 have HB8 : Hid (Below w.heap.size w w8) := Lib.hid (HB7.out.trans (hb8.mono HB7.out.size))
 have hp := parseOf_any w8 w T _ w7.heap.size plainLoc _ 4 [99, 45, 97, 93] 0 ho8 HT7.out.lt (HT7.out.keep hb8) HG.out HB8.out HT.out HGT.out (by simp) plain_right plain_rs (by omega)
 rw [brk_ex4] at hp
 unfold BrkTold at hp
 simp only [List.length_cons, List.length_nil, Nat.reduceAdd, Nat.reduceMul] at hp
 clear hb7 ho8 hb8
 go_wp2_with fail
 rw [← hw8]
 clear hw8
 refine hp.mono ?_
 rintro e w9 ⟨v, rfl, hs2, -, hf9⟩
 obtain ⟨BR, dR, BT, dT, rfl, -⟩ := hs2.row
 simp only [List.length_nil]
 have HB9 : Hid (Below w.heap.size w w9) := Lib.hid (below_T HB8.out hf9 HT.out)
 obtain ⟨w10, hw10⟩ : ∃ w10, w10 = w9.alloc (.cells #[.bool false, .slice BR 0 dR, .slice BT 0 dT] 34) := ⟨_, rfl⟩
 have hb10 : Below w9.heap.size w9 w10 := by rw [hw10]; exact below_new _ _
 have HB10 : Hid (Below w.heap.size w w10) := Lib.hid (HB9.out.trans (hb10.mono HB9.out.size))
 have hkn := known10_any w10 (HG.out.next HB10.out)
 clear hp hs2 hf9 hb10
 go_wp2_with fail
 rw [← hw10]
 clear hw10
 refine hkn.mono ?_
 rintro e w11 ⟨rfl, hb11⟩
 have HE : Hid (Below w.heap.size w w11) := Lib.hid (HB10.out.trans (hb11.mono HB10.out.size))
 clear hkn hb11
 by_cases e1 : 97 + (r1 : Int) ≤ 97 + (r3 : Int)
 ·by_cases e2 : 97 + (r3 : Int) ≤ (hi : Int)
  ·obtain rfl : d = true := by rw [HD.out]; simp only [decide_eq_true_eq]; exact ⟨e1, e2⟩
   simp only [show lenN true = 1 from rfl]
   have f1 : (r1 : Int) ≤ (r3 : Int) := by omega
   go_wp2
   go_ret
   exact ⟨by simp [*], HE.out⟩
  ·obtain rfl : d = false := by rw [HD.out]; simp only [decide_eq_false_iff_not]; exact fun h => e2 h.2
   simp only [show lenN false = 0 from rfl]
   have f1 : (r1 : Int) ≤ (r3 : Int) := by omega
   go_wp2
   go_ret
   exact ⟨by simp [*], HE.out⟩
 ·obtain rfl : d = false := by rw [HD.out]; simp only [decide_eq_false_iff_not]; exact fun h => e1 h.1
  simp only [show lenN false = 0 from rfl]
  have f1 : ¬ (r1 : Int) ≤ (r3 : Int) := by omega
  go_wp2
  go_ret
  exact ⟨by simp [*], HE.out⟩
end Go.Proofs.YthgiikhkcpbpfaaGreatDoor.C
