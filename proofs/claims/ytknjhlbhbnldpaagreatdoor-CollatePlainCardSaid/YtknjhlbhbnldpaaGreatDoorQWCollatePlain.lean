/-
  The law CollatePlain answers true: Plain is what the chapter says, and each answer of it, too. Condition: a cell, a byte and a text; what is asked of the listed variables.
-/
import Derived.Test.YtknjhlbhbnldpaaGreatDoorQKpQ
import Derived.Test.YtknjhlbhbnldpaaGreatDoorQKqA
import Derived.Test.YtknjhlbhbnldpaaGreatDoorB26
import Derived.Test.YtknjhlbhbnldpaaGreatDoorB28
import Derived.Test.YtknjhlbhbnldpaaGreatDoorB32
import Derived.Test.YtknjhlbhbnldpaaGreatDoorB33
import Derived.Test.YtknjhlbhbnldpaaGreatDoorB34
namespace Go.Proofs.YtknjhlbhbnldpaaGreatDoor.C
open Go.RowKit

theorem lit_four (W : World) (r : Nat) (hr : r < 4) : ∃ nm : List UInt8, nm.length ≤ 6 ∧ (W.alloc (.cells #[.string ⟨#[97, 108, 112, 104, 97]⟩, .string ⟨#[115, 112, 97, 99, 101]⟩, .string ⟨#[120, 100, 105, 103, 105, 116]⟩, .string ⟨#[112, 117, 110, 99, 116]⟩] 9)).cell? ((⟨W.heap.size, 0, none⟩ : Addr).add r) = some (.string (str nm)) := by
 match r, hr with
 | 0, _ => exact ⟨[97, 108, 112, 104, 97], by decide, by simp [Addr.add, World.cell?_alloc_new]; rfl⟩
 | 1, _ => exact ⟨[115, 112, 97, 99, 101], by decide, by simp [Addr.add, World.cell?_alloc_new]; rfl⟩
 | 2, _ => exact ⟨[120, 100, 105, 103, 105, 116], by decide, by simp [Addr.add, World.cell?_alloc_new]; rfl⟩
 | 3, _ => exact ⟨[112, 117, 110, 99, 116], by decide, by simp [Addr.add, World.cell?_alloc_new]; rfl⟩
theorem plain_500 : plainLoc.ord.length ≤ 500 := by decide +kernel
set_option maxRecDepth 100000 in
set_option maxHeartbeats 8000000 in
theorem collatePlainWalk (a0 a1 : Int) (s2 : ByteArray) (w : World) (hG : Gm w) (_w0 : (Lit.int .i32 a0).wf = true) (w1 : (Lit.int .u8 a1).wf = true) (q2 : s2.size ≤ 140737488351232) :
  Calls Tryz.prog 5 #[.int .i32 a0, .int .u8 a1, .string s2] w fun e w' => e = .returned (.bool true) ∧ Below w.heap.size w w' := by
 have ha1 := byte_in w1
 have hkn := known08_any w hG
 have HG := Lib.hid hG
 clear hG w1
 by_cases g : 50 < s2.size
 ·have g' : (50 : Int) < (s2.size : Int) := by omega
  clear g
  go_enter Tryz.func5, Tryz.ntmps5
  go_wp2_with fail
  refine hkn.mono ?_
  rintro e w2 ⟨rfl, hb2⟩
  have HE := Lib.hid hb2
  clear hkn hb2
  go_wp2
  go_ret
  exact ⟨rfl, HE.out⟩
 have g' : ¬ (50 : Int) < (s2.size : Int) := by omega
 obtain ⟨nm, rfl, hnm⟩ : ∃ nm : List UInt8, s2 = str nm ∧ nm.length ≤ 1099511627776 := ⟨s2.data.toList, (str_back s2).symm, by
  have : s2.data.toList.length = s2.size := Array.length_toList (xs := s2.data)
  omega⟩
 have x1 : IntKind.i32.wrap a1 = a1 := by rw [IntKind.wrap_i32]; omega
 obtain ⟨r, hr⟩ : ∃ r : Nat, a1.tmod 4 = (r : Int) := ⟨(a1 % 4).toNat, by rw [Int.tmod_eq_emod_of_nonneg ha1.1]; omega⟩
 have hr4 : r < 4 := by rw [Int.tmod_eq_emod_of_nonneg ha1.1] at hr; omega
 have x2 : IntKind.u8.wrap (r : Int) = (r : Int) := by rw [IntKind.wrap_u8]; omega
 have r0 : (0 : Int) ≤ (r : Int) := by omega
 have r4 : (r : Int) < 4 := by omega
 have HN := Lib.hid hnm
 have HR4 := Lib.hid hr4
 clear g ha1 hnm q2 hr4
 go_enter Tryz.func5, Tryz.ntmps5
 go_wp2_with fail
 refine hkn.mono ?_
 rintro e w1 ⟨rfl, hb1⟩
 have HB1 := Lib.hid hb1
 have hpl := plain_any w1
 clear hkn hb1
 go_wp2_with fail
 refine hpl.mono ?_
 rintro e w2 ⟨v1, v2, v3, v4, rfl, hL, hb2⟩
 have hL2 := LocR.of hL plain_cls plain_ord
 obtain ⟨⟨A1, c1, x1', rfl, -⟩, ⟨A2, c2, rfl, -⟩, ⟨A3, c3, rfl, -⟩, ⟨A4, c4, x4', rfl, -⟩, -⟩ := id hL2
 obtain ⟨w3, hw3⟩ : ∃ w3, w3 = w2.alloc (.cells #[.slice A1 plainLoc.cls.length c1, .slice A2 plainLoc.up.length c2, .slice A3 plainLoc.lo.length c3, .slice A4 plainLoc.ord.length c4] 30) := ⟨_, rfl⟩
 have hb3 : Below w2.heap.size w2 w3 := by rw [hw3]; exact (Below.refl _ _).alloc (Nat.le_refl _) _
 have hrow : Rw w3 w2.heap.size 30 #[.slice A1 plainLoc.cls.length c1, .slice A2 plainLoc.up.length c2, .slice A3 plainLoc.lo.length c3, .slice A4 plainLoc.ord.length c4] := by rw [hw3]; exact heap_alloc_new w2 _
 have HB3 := Lib.hid (HB1.out.trans ((hb2.trans (hb3.mono hb2.size)).mono HB1.out.size))
 have HL3 := Lib.hid (hL2.on hb3 (Nat.le_refl _))
 have HROW3 := Lib.hid hrow
 clear hpl hL hL2 hb2 hb3 hrow
 go_wp2
 rw [← hw3]
 have HR3 := HROW3
 have HSZ : Hid (w2.heap.size ≤ w3.heap.size) := Lib.hid (by rw [hw3]; simp)
 clear hw3 HROW3
 obtain ⟨wd, hwd⟩ : ∃ wd, wd = w3.drew := ⟨_, rfl⟩
 have hbd : Below w3.heap.size w3 wd := by rw [hwd]; exact below_drew (Below.refl _ _)
 have HBwd := Lib.hid (HB3.out.trans (hbd.mono HB3.out.size))
 have HLwd := Lib.hid (HL3.out.on hbd (Nat.le_of_lt HR3.out.lt))
 have HRwd := Lib.hid (HR3.out.on hbd HR3.out.lt)
 have hSwd : (fun W' : World => W'.cell? ⟨w2.heap.size, 0, none⟩ = some (.slice A1 plainLoc.cls.length c1) ∧ W'.cell? ⟨w2.heap.size, 1, none⟩ = some (.slice A2 plainLoc.up.length c2) ∧ W'.cell? ⟨w2.heap.size, 2, none⟩ = some (.slice A3 plainLoc.lo.length c3) ∧ W'.cell? ⟨w2.heap.size, 3, none⟩ = some (.slice A4 plainLoc.ord.length c4)) wd := ⟨HRwd.out.cell (i := 0) rfl, HRwd.out.cell (i := 1) rfl, HRwd.out.cell (i := 2) rfl, HRwd.out.cell (i := 3) rfl⟩
 have hp8 := plain08_any wd
 refine wp_region_held (S := fun W' : World => W'.cell? ⟨w2.heap.size, 0, none⟩ = some (.slice A1 plainLoc.cls.length c1) ∧ W'.cell? ⟨w2.heap.size, 1, none⟩ = some (.slice A2 plainLoc.up.length c2) ∧ W'.cell? ⟨w2.heap.size, 2, none⟩ = some (.slice A3 plainLoc.lo.length c3) ∧ W'.cell? ⟨w2.heap.size, 3, none⟩ = some (.slice A4 plainLoc.ord.length c4)) (by kernel_rfl) ?_
 change wpAnyH _ _ _ _ _ _ _ _ w3.drew
 rw [← hwd]
 clear hwd hbd
 refine wpH rfl rfl ?_; try simp only [Act.put, g1, g2, g3, g4, g6]
 refine wpAnyH_one (i := 1) (by kernel_rfl) rfl (fun K hK => ?_)
 simp only [g4, g5, g6]
 go_simp
 go_at_call 19
 refine hp8.mono ?_
 rintro e w4 ⟨u1, u2, u3, u4, rfl, hM, hb4⟩
 have hM4 := LocR.of hM plain_cls plain_ord
 have HBw4 := Lib.hid (HBwd.out.trans (hb4.mono HBwd.out.size))
 have HLw4 := Lib.hid (HLwd.out.on hb4 (Nat.le_of_lt HRwd.out.lt))
 have HRw4 := Lib.hid (HRwd.out.on hb4 HRwd.out.lt)
 have hSw4 : (fun W' : World => W'.cell? ⟨w2.heap.size, 0, none⟩ = some (.slice A1 plainLoc.cls.length c1) ∧ W'.cell? ⟨w2.heap.size, 1, none⟩ = some (.slice A2 plainLoc.up.length c2) ∧ W'.cell? ⟨w2.heap.size, 2, none⟩ = some (.slice A3 plainLoc.lo.length c3) ∧ W'.cell? ⟨w2.heap.size, 3, none⟩ = some (.slice A4 plainLoc.ord.length c4)) w4 := ⟨HRw4.out.cell (i := 0) rfl, HRw4.out.cell (i := 1) rfl, HRw4.out.cell (i := 2) rfl, HRw4.out.cell (i := 3) rfl⟩
 have hsm := refSame_yes w4 w2.heap.size w4.heap.size _ _ _ _ _ _ _ _ plainLoc HLw4.out hM4 (Nat.le_of_lt HRw4.out.lt) (Nat.le_refl _) plain_500
 obtain ⟨⟨D1, f1, z1, rfl, -⟩, ⟨D2, f2, rfl, -⟩, ⟨D3, f3, rfl, -⟩, ⟨D4, f4, z4, rfl, -⟩, -⟩ := id hM4
 clear hp8 hM hM4 hb4
 refine hK.out _ _ hSw4 (fun _ => ?_)
 try simp only [Act.put, g1, g2, g3, g4, g5, g6]
 refine wpAnyH_one (i := 2) (by kernel_rfl) rfl (fun K hK => ?_)
 simp only [g4, g5, g6]
 go_simp
 go_at_call 18
 refine hsm.mono ?_
 rintro e w5 ⟨rfl, hb5⟩
 have HBw5 := Lib.hid (HBw4.out.trans (hb5.mono HBw4.out.size))
 have HLw5 := Lib.hid (HLw4.out.on hb5 (Nat.le_of_lt HRw4.out.lt))
 have HRw5 := Lib.hid (HRw4.out.on hb5 HRw4.out.lt)
 have hSw5 : (fun W' : World => W'.cell? ⟨w2.heap.size, 0, none⟩ = some (.slice A1 plainLoc.cls.length c1) ∧ W'.cell? ⟨w2.heap.size, 1, none⟩ = some (.slice A2 plainLoc.up.length c2) ∧ W'.cell? ⟨w2.heap.size, 2, none⟩ = some (.slice A3 plainLoc.lo.length c3) ∧ W'.cell? ⟨w2.heap.size, 3, none⟩ = some (.slice A4 plainLoc.ord.length c4)) w5 := ⟨HRw5.out.cell (i := 0) rfl, HRw5.out.cell (i := 1) rfl, HRw5.out.cell (i := 2) rfl, HRw5.out.cell (i := 3) rfl⟩
 clear hsm hb5
 refine hK.out _ _ hSw5 (fun _ => ?_)
 try simp only [Act.put, g1, g2, g3, g4, g5, g6]
 refine wpH rfl rfl ?_; try simp only [Act.put, g1, g2, g3, g4, g5, g6]
 refine wpAnyH_done (by kernel_rfl) ?_ _
 obtain ⟨w6, hw6⟩ : ∃ w6, w6 = w5.drew := ⟨_, rfl⟩
 have hb6 : Below w5.heap.size w5 w6 := by rw [hw6]; exact below_drew (Below.refl _ _)
 have HBw6 := Lib.hid (HBw5.out.trans (hb6.mono HBw5.out.size))
 have HLw6 := Lib.hid (HLw5.out.on hb6 (Nat.le_of_lt HRw5.out.lt))
 have HRw6 := Lib.hid (HRw5.out.on hb6 HRw5.out.lt)
 have hSw6 : (fun W' : World => W'.cell? ⟨w2.heap.size, 0, none⟩ = some (.slice A1 plainLoc.cls.length c1) ∧ W'.cell? ⟨w2.heap.size, 1, none⟩ = some (.slice A2 plainLoc.up.length c2) ∧ W'.cell? ⟨w2.heap.size, 2, none⟩ = some (.slice A3 plainLoc.lo.length c3) ∧ W'.cell? ⟨w2.heap.size, 3, none⟩ = some (.slice A4 plainLoc.ord.length c4)) w6 := ⟨HRw6.out.cell (i := 0) rfl, HRw6.out.cell (i := 1) rfl, HRw6.out.cell (i := 2) rfl, HRw6.out.cell (i := 3) rfl⟩
 have ha1 := answers08_any w6 (HG.out.next HBw6.out) w2.heap.size _ _ _ _ plainLoc HLw6.out (Nat.le_of_lt HRw6.out.lt) plain_right plain_new a0 a1 nm HN.out
 go_wp2
 refine wp_region_held (S := fun W' : World => W'.cell? ⟨w2.heap.size, 0, none⟩ = some (.slice A1 plainLoc.cls.length c1) ∧ W'.cell? ⟨w2.heap.size, 1, none⟩ = some (.slice A2 plainLoc.up.length c2) ∧ W'.cell? ⟨w2.heap.size, 2, none⟩ = some (.slice A3 plainLoc.lo.length c3) ∧ W'.cell? ⟨w2.heap.size, 3, none⟩ = some (.slice A4 plainLoc.ord.length c4)) (by kernel_rfl) ?_
 change wpAnyH _ _ _ _ _ _ _ _ w5.drew
 rw [← hw6]
 clear hw6 hb6
 iterate 7 (refine wpH rfl rfl ?_; try simp only [Act.put, g1, g2, g3, g4, g5, g6])
 refine wpAnyH_one (i := 7) (by kernel_rfl) rfl (fun K hK => ?_)
 simp only [g4, g5, g6]
 go_simp
 go_at_call 20
 refine ha1.mono ?_
 rintro e w7 ⟨rfl, hb7⟩
 have HBw7 := Lib.hid (HBw6.out.trans (hb7.mono HBw6.out.size))
 have HLw7 := Lib.hid (HLw6.out.on hb7 (Nat.le_of_lt HRw6.out.lt))
 have HRw7 := Lib.hid (HRw6.out.on hb7 HRw6.out.lt)
 have hSw7 : (fun W' : World => W'.cell? ⟨w2.heap.size, 0, none⟩ = some (.slice A1 plainLoc.cls.length c1) ∧ W'.cell? ⟨w2.heap.size, 1, none⟩ = some (.slice A2 plainLoc.up.length c2) ∧ W'.cell? ⟨w2.heap.size, 2, none⟩ = some (.slice A3 plainLoc.lo.length c3) ∧ W'.cell? ⟨w2.heap.size, 3, none⟩ = some (.slice A4 plainLoc.ord.length c4)) w7 := ⟨HRw7.out.cell (i := 0) rfl, HRw7.out.cell (i := 1) rfl, HRw7.out.cell (i := 2) rfl, HRw7.out.cell (i := 3) rfl⟩
 clear ha1 hb7
 refine hK.out _ _ hSw7 (fun _ => ?_)
 try simp only [Act.put, g1, g2, g3, g4, g5, g6]
 iterate 6 (refine wpH rfl rfl ?_; try simp only [Act.put, g1, g2, g3, g4, g5, g6])
 refine wpHn 15 rfl ?_; try simp only [Act.put, g1, g2, g3, g4, g5, g6]
 refine wpHn 16 rfl ?_; try simp only [Act.put, g1, g2, g3, g4, g5, g6]
 refine wpAnyH_one (i := 14) (by kernel_rfl) rfl (fun K hK => ?_)
 simp only [g4, g5, g6]
 go_simp
 obtain ⟨w8, hw8⟩ : ∃ w8, w8 = w7.alloc (.cells #[.string ⟨#[97, 108, 112, 104, 97]⟩, .string ⟨#[115, 112, 97, 99, 101]⟩, .string ⟨#[120, 100, 105, 103, 105, 116]⟩, .string ⟨#[112, 117, 110, 99, 116]⟩] 9) := ⟨_, rfl⟩
 have hb8 : Below w7.heap.size w7 w8 := by rw [hw8]; exact (Below.refl _ _).alloc (Nat.le_refl _) _
 have HBw8 := Lib.hid (HBw7.out.trans (hb8.mono HBw7.out.size))
 have HLw8 := Lib.hid (HLw7.out.on hb8 (Nat.le_of_lt HRw7.out.lt))
 have HRw8 := Lib.hid (HRw7.out.on hb8 HRw7.out.lt)
 have hSw8 : (fun W' : World => W'.cell? ⟨w2.heap.size, 0, none⟩ = some (.slice A1 plainLoc.cls.length c1) ∧ W'.cell? ⟨w2.heap.size, 1, none⟩ = some (.slice A2 plainLoc.up.length c2) ∧ W'.cell? ⟨w2.heap.size, 2, none⟩ = some (.slice A3 plainLoc.lo.length c3) ∧ W'.cell? ⟨w2.heap.size, 3, none⟩ = some (.slice A4 plainLoc.ord.length c4)) w8 := ⟨HRw8.out.cell (i := 0) rfl, HRw8.out.cell (i := 1) rfl, HRw8.out.cell (i := 2) rfl, HRw8.out.cell (i := 3) rfl⟩
 obtain ⟨nm2, hn2, hc8⟩ := lit_four w7 r HR4.out
 rw [← hw8] at hc8
 rw [show w7.alloc (.cells #[.string ⟨#[97, 108, 112, 104, 97]⟩, .string ⟨#[115, 112, 97, 99, 101]⟩, .string ⟨#[120, 100, 105, 103, 105, 116]⟩, .string ⟨#[112, 117, 110, 99, 116]⟩] 9) = w8 from hw8.symm]
 obtain ⟨ad, had⟩ : ∃ ad : Addr, ad = ⟨w7.heap.size, 0, none⟩ := ⟨_, rfl⟩
 rw [← had] at hc8 ⊢
 have ha2 := answers08_any w8 (HG.out.next HBw8.out) w2.heap.size _ _ _ _ plainLoc HLw8.out (Nat.le_of_lt HRw8.out.lt) plain_right plain_new a1 a0 nm2 (by omega)
 clear hw8 hb8 had
 refine hK.out _ _ hSw8 (fun _ => ?_)
 try simp only [Act.put, g1, g2, g3, g4, g5, g6]
 refine wpHn 17 rfl ?_; try simp only [Act.put, g1, g2, g3, g4, g5, g6]
 refine wpAnyH_one (i := 18) (by kernel_rfl) rfl (fun K hK => ?_)
 simp only [g4, g5, g6]
 go_simp
 refine hK.out _ _ hSw8 (fun _ => ?_)
 try simp only [Act.put, g1, g2, g3, g4, g5, g6]
 refine wpAnyH_one (i := 19) (by kernel_rfl) rfl (fun K hK => ?_)
 simp only [g4, g5, g6]
 go_simp
 go_at_call 20
 refine ha2.mono ?_
 rintro e w9 ⟨rfl, hb9⟩
 have HBw9 := Lib.hid (HBw8.out.trans (hb9.mono HBw8.out.size))
 have HLw9 := Lib.hid (HLw8.out.on hb9 (Nat.le_of_lt HRw8.out.lt))
 have HRw9 := Lib.hid (HRw8.out.on hb9 HRw8.out.lt)
 have hSw9 : (fun W' : World => W'.cell? ⟨w2.heap.size, 0, none⟩ = some (.slice A1 plainLoc.cls.length c1) ∧ W'.cell? ⟨w2.heap.size, 1, none⟩ = some (.slice A2 plainLoc.up.length c2) ∧ W'.cell? ⟨w2.heap.size, 2, none⟩ = some (.slice A3 plainLoc.lo.length c3) ∧ W'.cell? ⟨w2.heap.size, 3, none⟩ = some (.slice A4 plainLoc.ord.length c4)) w9 := ⟨HRw9.out.cell (i := 0) rfl, HRw9.out.cell (i := 1) rfl, HRw9.out.cell (i := 2) rfl, HRw9.out.cell (i := 3) rfl⟩
 clear ha2 hb9
 refine hK.out _ _ hSw9 (fun _ => ?_)
 try simp only [Act.put, g1, g2, g3, g4, g5, g6]
 iterate 2 (refine wpH rfl rfl ?_; try simp only [Act.put, g1, g2, g3, g4, g5, g6])
 refine wpAnyH_done (by kernel_rfl) ?_ _
 go_wp2
 go_ret
 exact ⟨rfl, HBw9.out⟩
end Go.Proofs.YtknjhlbhbnldpaaGreatDoor.C
