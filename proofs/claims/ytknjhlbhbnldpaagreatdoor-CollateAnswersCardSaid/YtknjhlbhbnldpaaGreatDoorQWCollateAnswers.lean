/-
  The law CollateAnswers answers true: of a locale of choices all answers are what the document's own say; of any locale that came in there is a table just where it is right. Condition: the locale that came in is within the form's own reach; the choices are a row of bytes, the others numbers and a text; what is asked of the listed variables.
-/
import Derived.Test.YtknjhlbhbnldpaaGreatDoorQKpQ
import Derived.Test.YtknjhlbhbnldpaaGreatDoorB26
import Derived.Test.YtknjhlbhbnldpaaGreatDoorB28
import Derived.Test.YtknjhlbhbnldpaaGreatDoorB32
import Derived.Test.YtknjhlbhbnldpaaGreatDoorB33
import Derived.Test.YtknjhlbhbnldpaaGreatDoorB34
namespace Go.Proofs.YtknjhlbhbnldpaaGreatDoor.C
open Go.RowKit

theorem lit_five (W : World) (r : Nat) (hr : r < 5) : ∃ nm : List UInt8, nm.length ≤ 6 ∧ (W.alloc (.cells #[.string ⟨#[97, 108, 112, 104, 97]⟩, .string ⟨#[120]⟩, .string ⟨#[108, 111, 119, 45, 49]⟩, .string ⟨#[99, 104]⟩, .string ⟨#[97, 98]⟩] 9)).cell? ((⟨W.heap.size, 0, none⟩ : Addr).add r) = some (.string (str nm)) := by
 match r, hr with
 | 0, _ => exact ⟨[97, 108, 112, 104, 97], by decide, by simp [Addr.add, World.cell?_alloc_new]; rfl⟩
 | 1, _ => exact ⟨[120], by decide, by simp [Addr.add, World.cell?_alloc_new]; rfl⟩
 | 2, _ => exact ⟨[108, 111, 119, 45, 49], by decide, by simp [Addr.add, World.cell?_alloc_new]; rfl⟩
 | 3, _ => exact ⟨[99, 104], by decide, by simp [Addr.add, World.cell?_alloc_new]; rfl⟩
 | 4, _ => exact ⟨[97, 98], by decide, by simp [Addr.add, World.cell?_alloc_new]; rfl⟩
theorem LocIn.new {l : Loc} (h : LocIn l) (h1 : l.cls.length ≤ 30) (h2 : l.up.length ≤ 30) (h3 : l.lo.length ≤ 30) : NewOk l :=
 ⟨⟨by omega, fun e he => by have := h.n1 e he; omega⟩, by omega, by omega, fun e he => by have := h.n2 e he; omega⟩
set_option maxRecDepth 100000 in
set_option maxHeartbeats 8000000 in
theorem collateAnswersWalk (v0 v1 v2 v3 : Value) (l : Loc) (a1 : Option Addr) (len1 cap1 : Nat) (z1 : List Int) (a2 a3 : Int) (s4 : ByteArray) (a5 : Int) (w : World) (hG : Gm w) (hl : LocR w w.heap.size v0 v1 v2 v3 l) (hin : LocIn l) (w1 : L.IsRow .u8 w a1 len1 cap1 z1) (w2 : (Lit.int .u8 a2).wf = true) (w3 : (Lit.int .u8 a3).wf = true) (q4 : s4.size ≤ 140737488351232) (_w5 : (Lit.int .i32 a5).wf = true) :
  Calls Tryz.prog 6 #[.agg #[v0, v1, v2, v3], .slice a1 len1 cap1, .int .u8 a2, .int .u8 a3, .string s4, .int .i32 a5] w fun e w' => e = .returned (.bool true) ∧ Below w.heap.size w w' := by
 have h2 := byte_in w2
 have h3 := byte_in w3
 obtain ⟨⟨A1, c1, x1, rfl, -⟩, ⟨A2, c2, rfl, -⟩, ⟨A3, c3, rfl, -⟩, ⟨A4, c4, x4, rfl, -⟩, -⟩ := id hl
 obtain ⟨W, hW⟩ : ∃ W, W = w.alloc (.cells #[.slice A1 l.cls.length c1, .slice A2 l.up.length c2, .slice A3 l.lo.length c3, .slice A4 l.ord.length c4] 30) := ⟨_, rfl⟩
 have hbW : Below w.heap.size w W := by rw [hW]; exact (Below.refl _ _).alloc (Nat.le_refl _) _
 have hL : Rw W w.heap.size 30 #[.slice A1 l.cls.length c1, .slice A2 l.up.length c2, .slice A3 l.lo.length c3, .slice A4 l.ord.length c4] := by rw [hW]; exact heap_alloc_new w _
 have hkn := known08_any W (hG.next hbW)
 have HG := Lib.hid hG
 have hby := row_u8 w1
 have HRI := Lib.hid (RI.of_row w1)
 have HLEN : Hid (len1 ≤ maxLen) := Lib.hid (by have := row_len w1; omega)
 have HBY : Hid (Byt (z1.take len1)) := Lib.hid hby
 have HLL := Lib.hid (hl.on hbW (Nat.le_refl _))
 have q0 := hL.cell (i := 0) rfl
 have q1 := hL.cell (i := 1) rfl
 have q2 := hL.cell (i := 2) rfl
 have q3 := hL.cell (i := 3) rfl
 have HRL := Lib.hid hL
 rw [hW] at q0 q1 q2 q3
 obtain ⟨S, hS⟩ : ∃ S, w.heap.size = S := ⟨_, rfl⟩
 have HBW : Hid (Below S w W) := Lib.hid (by rw [← hS]; exact hbW)
 have HSW : Hid (S ≤ W.heap.size) := Lib.hid (by rw [← hS]; exact hbW.size)
 obtain ⟨m1, hm1⟩ : ∃ m : Nat, m = l.cls.length + l.up.length := ⟨_, rfl⟩
 obtain ⟨m2, hm2⟩ : ∃ m : Nat, m = m1 + l.lo.length := ⟨_, rfl⟩
 obtain ⟨m3, hm3⟩ : ∃ m : Nat, m = m2 + l.ord.length := ⟨_, rfl⟩
 have hin0 := hin
 obtain ⟨f1, f2, f3, f4, -, -⟩ := hin0
 have y1 : IntKind.i64.wrap ((l.cls.length : Int) + (l.up.length : Int)) = (m1 : Int) := by rw [IntKind.wrap_i64]; omega
 have y2 : IntKind.i64.wrap ((m1 : Int) + (l.lo.length : Int)) = (m2 : Int) := by rw [IntKind.wrap_i64]; omega
 have y3 : IntKind.i64.wrap ((m2 : Int) + (l.ord.length : Int)) = (m3 : Int) := by rw [IntKind.wrap_i64]; omega
 have HS : Hid (w.heap.size = S) := Lib.hid hS
 rw [hS]
 rw [hS] at q0 q1 q2 q3
 rw [hS] at HLL HRI HRL
 by_cases g1 : 30 < m3
 ·have g1' : (30 : Int) < (m3 : Int) := by omega
  clear hl hbW hL w1 w2 w3 hG hby h2 h3 hm1 hm2 hm3 f1 f2 f3 f4 g1 hin
  go_enter Tryz.func6, Tryz.ntmps6
  go_wp2_with fail
  rw [← hW]
  with_reducible refine hkn.mono ?_
  rintro e u2 ⟨rfl, hb2⟩
  have HE := Lib.hid (HBW.out.trans (hb2.mono HSW.out))
  clear hkn hb2 q0 q1 q2 q3 hW
  go_wp2
  go_ret
  exact ⟨rfl, HE.out⟩
 by_cases g2 : 50 < s4.size
 ·have g1' : ¬ (30 : Int) < (m3 : Int) := by omega
  have g2' : (50 : Int) < (s4.size : Int) := by omega
  clear hl hbW hL w1 w2 w3 hG hby h2 h3 hm1 hm2 hm3 f1 f2 f3 f4 g1 g2 hin
  go_enter Tryz.func6, Tryz.ntmps6
  go_wp2_with fail
  rw [← hW]
  with_reducible refine hkn.mono ?_
  rintro e u2 ⟨rfl, hb2⟩
  have HE := Lib.hid (HBW.out.trans (hb2.mono HSW.out))
  clear hkn hb2 q0 q1 q2 q3 hW
  go_wp2
  go_ret
  exact ⟨rfl, HE.out⟩
 have g1' : ¬ (30 : Int) < (m3 : Int) := by omega
 have g2' : ¬ (50 : Int) < (s4.size : Int) := by omega
 have HOK : Hid (NewOk l) := Lib.hid (hin.new (by omega) (by omega) (by omega))
 have HFEW : Hid (l.ord.length ≤ 500) := Lib.hid (by omega)
 obtain ⟨nm, rfl, hnm⟩ : ∃ nm : List UInt8, s4 = str nm ∧ nm.length ≤ 1099511627776 := ⟨s4.data.toList, (str_back s4).symm, by
  have : s4.data.toList.length = s4.size := Array.length_toList (xs := s4.data)
  omega⟩
 have HN := Lib.hid hnm
 obtain ⟨ra, t1⟩ : ∃ ra : Int, a2.tmod 7 = ra := ⟨_, rfl⟩
 obtain ⟨rb, t2⟩ : ∃ rb : Int, a3.tmod 7 = rb := ⟨_, rfl⟩
 obtain ⟨r, t3⟩ : ∃ r : Nat, a2.tmod 5 = (r : Int) := ⟨(a2 % 5).toNat, by rw [Int.tmod_eq_emod_of_nonneg h2.1]; omega⟩
 obtain ⟨rd, t4⟩ : ∃ rd : Int, a3.tmod 5 = rd := ⟨_, rfl⟩
 have b1 : 0 ≤ ra ∧ ra < 7 := by rw [Int.tmod_eq_emod_of_nonneg h2.1] at t1; omega
 have b2 : 0 ≤ rb ∧ rb < 7 := by rw [Int.tmod_eq_emod_of_nonneg h3.1] at t2; omega
 have b3 : r < 5 := by rw [Int.tmod_eq_emod_of_nonneg h2.1] at t3; omega
 have b4 : 0 ≤ rd ∧ rd < 5 := by rw [Int.tmod_eq_emod_of_nonneg h3.1] at t4; omega
 obtain ⟨ca, hca⟩ : ∃ ca : Int, ca = 97 + ra := ⟨_, rfl⟩
 obtain ⟨cb, hcb⟩ : ∃ cb : Int, cb = 97 + rb := ⟨_, rfl⟩
 obtain ⟨cd, hcd⟩ : ∃ cd : Int, cd = 65 + rd := ⟨_, rfl⟩
 have k1 : IntKind.u8.wrap ra = ra := by rw [IntKind.wrap_u8]; omega
 have k2 : IntKind.u8.wrap (97 + ra) = ca := by rw [IntKind.wrap_u8]; omega
 have k3 : IntKind.i32.wrap ca = ca := by rw [IntKind.wrap_i32]; omega
 have k4 : IntKind.u8.wrap rb = rb := by rw [IntKind.wrap_u8]; omega
 have k5 : IntKind.u8.wrap (97 + rb) = cb := by rw [IntKind.wrap_u8]; omega
 have k6 : IntKind.i32.wrap cb = cb := by rw [IntKind.wrap_i32]; omega
 have k7 : IntKind.u8.wrap (r : Int) = (r : Int) := by rw [IntKind.wrap_u8]; omega
 have k8 : IntKind.u8.wrap rd = rd := by rw [IntKind.wrap_u8]; omega
 have k9 : IntKind.u8.wrap (65 + rd) = cd := by rw [IntKind.wrap_u8]; omega
 have k10 : IntKind.i32.wrap cd = cd := by rw [IntKind.wrap_i32]; omega
 have j0 : (0 : Int) ≤ (r : Int) := by omega
 have j1 : (r : Int) < 5 := by omega
 have HR5 := Lib.hid b3
 clear hl hbW hL w1 w2 w3 hG hby hm1 hm2 hm3 f1 f2 f3 f4 g1 g2 hin h2 h3 hnm q4 b1 b2 b3 b4 hca hcb hcd
 go_enter Tryz.func6, Tryz.ntmps6
 go_wp2_with fail
 rw [← hW]
 with_reducible refine hkn.mono ?_
 rintro e u2 ⟨rfl, hb2⟩
 have HBu2 := Lib.hid (HBW.out.trans (hb2.mono HSW.out))
 have HSZu2 : Hid (S ≤ u2.heap.size) := Lib.hid (Nat.le_trans HSW.out hb2.size)
 have HRLu2 := Lib.hid (HRL.out.on hb2 HRL.out.lt)
 have HLLu2 := Lib.hid (HLL.out.on hb2 HSW.out)
 have hlc := locale_any u2 S a1 len1 cap1 _ (RI.below HRI.out HBu2.out) HSZu2.out HBY.out HLEN.out
 have HXR : Hid (rightL (genL (z1.take len1)) = true) := Lib.hid (genL_right HBY.out)
 have HXN : Hid (NewOk (genL (z1.take len1))) := Lib.hid (genL_new _ HBY.out)
 have hlr := fun (W : World) (lo : Nat) (v1 v2 v3 v4 : Value) (h : LocAt W lo v1 v2 v3 v4 (genL (z1.take len1))) => genL_locR HBY.out h
 obtain ⟨x, hx⟩ : ∃ x, x = genL (z1.take len1) := ⟨_, rfl⟩
 rw [← hx] at hlc HXR HXN hlr
 have HLR := Lib.hid hlr
 clear hkn hb2 hW q0 q1 q2 q3 y1 y2 y3 g1' g2' hx hlr HRL HLL HBW HSW HRI HLEN HBY
 go_wp2_with fail
 with_reducible refine hlc.mono ?_
 rintro e u3 ⟨u1', u2', u3', u4', rfl, hLx, hb3⟩
 have hRx := HLR.out _ _ _ _ _ _ hLx
 obtain ⟨⟨B1, e1, b1, rfl, -⟩, ⟨B2, e2, rfl, -⟩, ⟨B3, e3, rfl, -⟩, ⟨B4, e4, b4, rfl, -⟩, -⟩ := id hRx
 obtain ⟨u4, hu4⟩ : ∃ u4, u4 = u3.alloc (.cells #[.slice B1 x.cls.length e1, .slice B2 x.up.length e2, .slice B3 x.lo.length e3, .slice B4 x.ord.length e4] 30) := ⟨_, rfl⟩
 have hb34 : Below u3.heap.size u3 u4 := by rw [hu4]; exact (Below.refl _ _).alloc (Nat.le_refl _) _
 have hb4 : Below u2.heap.size u2 u4 := hb3.trans (hb34.mono hb3.size)
 have hrx : Rw u4 u3.heap.size 30 #[.slice B1 x.cls.length e1, .slice B2 x.up.length e2, .slice B3 x.lo.length e3, .slice B4 x.ord.length e4] := by rw [hu4]; exact heap_alloc_new u3 _
 have hlx := hRx.on hb34 (Nat.le_refl _)
 obtain ⟨X, hX⟩ : ∃ X, u3.heap.size = X := ⟨_, rfl⟩
 have HBu4 := Lib.hid (HBu2.out.trans (hb4.mono HSZu2.out))
 have HSZu4 : Hid (S ≤ u4.heap.size) := Lib.hid (Nat.le_trans HSZu2.out hb4.size)
 have HRLu4 := Lib.hid (HRLu2.out.on hb4 HRLu2.out.lt)
 have HLLu4 := Lib.hid (HLLu2.out.on hb4 HSZu2.out)
 have HRXu4 := Lib.hid hrx
 have HLXu4 := Lib.hid hlx
 clear hlc hLx hRx hb3 hb34 hb4 hrx hlx
 go_wp2
 rw [← hu4]
 clear hu4
 rw [hX] at HRXu4 HLXu4
 clear hX hS
 obtain ⟨u5, hu5⟩ : ∃ u5, u5 = u4.drew := ⟨_, rfl⟩
 have hb5 : Below u4.heap.size u4 u5 := by rw [hu5]; exact below_drew (Below.refl _ _)
 have HBu5 := Lib.hid (HBu4.out.trans (hb5.mono HSZu4.out))
 have HSZu5 : Hid (S ≤ u5.heap.size) := Lib.hid (Nat.le_trans HSZu4.out hb5.size)
 have HRXu5 := Lib.hid (HRXu4.out.on hb5 HRXu4.out.lt)
 have HLXu5 := Lib.hid (HLXu4.out.on hb5 (Nat.le_of_lt HRXu4.out.lt))
 have HRLu5 := Lib.hid (HRLu4.out.on hb5 HRLu4.out.lt)
 have HLLu5 := Lib.hid (HLLu4.out.on hb5 HSZu4.out)
 have hSu5 : (fun W' : World => W'.cell? ⟨S, 0, none⟩ = some (.slice A1 l.cls.length c1) ∧ W'.cell? ⟨S, 1, none⟩ = some (.slice A2 l.up.length c2) ∧ W'.cell? ⟨S, 2, none⟩ = some (.slice A3 l.lo.length c3) ∧ W'.cell? ⟨S, 3, none⟩ = some (.slice A4 l.ord.length c4)) u5 := ⟨HRLu5.out.cell (i := 0) rfl, HRLu5.out.cell (i := 1) rfl, HRLu5.out.cell (i := 2) rfl, HRLu5.out.cell (i := 3) rfl⟩
 refine wp_region_held (S := fun W' : World => W'.cell? ⟨S, 0, none⟩ = some (.slice A1 l.cls.length c1) ∧ W'.cell? ⟨S, 1, none⟩ = some (.slice A2 l.up.length c2) ∧ W'.cell? ⟨S, 2, none⟩ = some (.slice A3 l.lo.length c3) ∧ W'.cell? ⟨S, 3, none⟩ = some (.slice A4 l.ord.length c4)) (by kernel_rfl) ?_
 change wpAnyH _ _ _ _ _ _ _ _ u4.drew
 rw [← hu5]
 clear hu5 hb5
 by_cases hR : rightL l = true
 ·have hn := new_yes u5 S _ _ _ _ l HLLu5.out HSZu5.out (HG.out.next (by rw [HS.out]; exact HBu5.out)) hR HOK.out
  refine wpH rfl rfl ?_; try simp only [Act.put, g1, g2, g3, g4, g6]
  refine wpHn 3 rfl ?_; try simp only [Act.put, g1, g2, g3, g4, g5, g6]
  refine wpAnyH_one (i := 1) (by kernel_rfl) rfl (fun K hK => ?_)
  simp only [g4, g5, g6]
  go_simp
  go_at_call 10
  refine hn.mono ?_
  rintro e u6 ⟨T, rfl, -, -, hb6, -⟩
  have HBu6 := Lib.hid (HBu5.out.trans (hb6.mono HSZu5.out))
  have HSZu6 : Hid (S ≤ u6.heap.size) := Lib.hid (Nat.le_trans HSZu5.out hb6.size)
  have HRXu6 := Lib.hid (HRXu5.out.on hb6 HRXu5.out.lt)
  have HLXu6 := Lib.hid (HLXu5.out.on hb6 (Nat.le_of_lt HRXu5.out.lt))
  have HRLu6 := Lib.hid (HRLu5.out.on hb6 HRLu5.out.lt)
  have HLLu6 := Lib.hid (HLLu5.out.on hb6 HSZu5.out)
  have hSu6 : (fun W' : World => W'.cell? ⟨S, 0, none⟩ = some (.slice A1 l.cls.length c1) ∧ W'.cell? ⟨S, 1, none⟩ = some (.slice A2 l.up.length c2) ∧ W'.cell? ⟨S, 2, none⟩ = some (.slice A3 l.lo.length c3) ∧ W'.cell? ⟨S, 3, none⟩ = some (.slice A4 l.ord.length c4)) u6 := ⟨HRLu6.out.cell (i := 0) rfl, HRLu6.out.cell (i := 1) rfl, HRLu6.out.cell (i := 2) rfl, HRLu6.out.cell (i := 3) rfl⟩
  have hri := right07_any u6 S _ _ _ _ l HLLu6.out HSZu6.out HFEW.out
  rw [hR] at hri
  clear hn hb6 hR
  refine hK.out _ _ hSu6 (fun _ => ?_)
  try simp only [Act.put, g1, g2, g3, g4, g5, g6]
  refine wpH rfl rfl ?_; try simp only [Act.put, g1, g2, g3, g4, g5, g6]
  refine wpAnyH_one (i := 4) (by kernel_rfl) rfl (fun K hK => ?_)
  simp only [g4, g5, g6]
  go_simp
  go_at_call 21
  refine hri.mono ?_
  rintro e u7 ⟨rfl, hb7⟩
  have HBu7 := Lib.hid (HBu6.out.trans (hb7.mono HSZu6.out))
  have HSZu7 : Hid (S ≤ u7.heap.size) := Lib.hid (Nat.le_trans HSZu6.out hb7.size)
  have HRXu7 := Lib.hid (HRXu6.out.on hb7 HRXu6.out.lt)
  have HLXu7 := Lib.hid (HLXu6.out.on hb7 (Nat.le_of_lt HRXu6.out.lt))
  have HRLu7 := Lib.hid (HRLu6.out.on hb7 HRLu6.out.lt)
  have HLLu7 := Lib.hid (HLLu6.out.on hb7 HSZu6.out)
  have hSu7 : (fun W' : World => W'.cell? ⟨S, 0, none⟩ = some (.slice A1 l.cls.length c1) ∧ W'.cell? ⟨S, 1, none⟩ = some (.slice A2 l.up.length c2) ∧ W'.cell? ⟨S, 2, none⟩ = some (.slice A3 l.lo.length c3) ∧ W'.cell? ⟨S, 3, none⟩ = some (.slice A4 l.ord.length c4)) u7 := ⟨HRLu7.out.cell (i := 0) rfl, HRLu7.out.cell (i := 1) rfl, HRLu7.out.cell (i := 2) rfl, HRLu7.out.cell (i := 3) rfl⟩
  clear hri hb7
  refine hK.out _ _ hSu7 (fun _ => ?_)
  try simp only [Act.put, g1, g2, g3, g4, g5, g6]
  refine wpH rfl rfl ?_; try simp only [Act.put, g1, g2, g3, g4, g5, g6]
  refine wpAnyH_done (by kernel_rfl) ?_ _
  obtain ⟨w6, hw6⟩ : ∃ w6, w6 = u7.drew := ⟨_, rfl⟩
  have hb6 : Below u7.heap.size u7 w6 := by rw [hw6]; exact below_drew (Below.refl _ _)
  have HBw6 := Lib.hid (HBu7.out.trans (hb6.mono HSZu7.out))
  have HSZw6 : Hid (S ≤ w6.heap.size) := Lib.hid (Nat.le_trans HSZu7.out hb6.size)
  have HRXw6 := Lib.hid (HRXu7.out.on hb6 HRXu7.out.lt)
  have HLXw6 := Lib.hid (HLXu7.out.on hb6 (Nat.le_of_lt HRXu7.out.lt))
  have hSw6 : (fun W' : World => W'.cell? ⟨X, 0, none⟩ = some (.slice B1 x.cls.length e1) ∧ W'.cell? ⟨X, 1, none⟩ = some (.slice B2 x.up.length e2) ∧ W'.cell? ⟨X, 2, none⟩ = some (.slice B3 x.lo.length e3) ∧ W'.cell? ⟨X, 3, none⟩ = some (.slice B4 x.ord.length e4)) w6 := ⟨HRXw6.out.cell (i := 0) rfl, HRXw6.out.cell (i := 1) rfl, HRXw6.out.cell (i := 2) rfl, HRXw6.out.cell (i := 3) rfl⟩
  clear hSu5 hSu6 hSu7
  go_wp2
  refine wp_region_held (S := fun W' : World => W'.cell? ⟨X, 0, none⟩ = some (.slice B1 x.cls.length e1) ∧ W'.cell? ⟨X, 1, none⟩ = some (.slice B2 x.up.length e2) ∧ W'.cell? ⟨X, 2, none⟩ = some (.slice B3 x.lo.length e3) ∧ W'.cell? ⟨X, 3, none⟩ = some (.slice B4 x.ord.length e4)) (by kernel_rfl) ?_
  change wpAnyH _ _ _ _ _ _ _ _ u7.drew
  rw [← hw6]
  clear hw6 hb6
  iterate 9 (refine wpH rfl rfl ?_; try simp only [Act.put, g1, g2, g3, g4, g5, g6])
  refine wpHn 10 rfl ?_; try simp only [Act.put, g1, g2, g3, g4, g5, g6]
  refine wpHn 11 rfl ?_; try simp only [Act.put, g1, g2, g3, g4, g5, g6]
  refine wpAnyH_one (i := 9) (by kernel_rfl) rfl (fun K hK => ?_)
  simp only [g4, g5, g6]
  go_simp
  obtain ⟨w8, hw8⟩ : ∃ w8, w8 = w6.alloc (.cells #[.string ⟨#[97, 108, 112, 104, 97]⟩, .string ⟨#[120]⟩, .string ⟨#[108, 111, 119, 45, 49]⟩, .string ⟨#[99, 104]⟩, .string ⟨#[97, 98]⟩] 9) := ⟨_, rfl⟩
  have hb8 : Below w6.heap.size w6 w8 := by rw [hw8]; exact (Below.refl _ _).alloc (Nat.le_refl _) _
  have HBw8 := Lib.hid (HBw6.out.trans (hb8.mono HSZw6.out))
  have HSZw8 : Hid (S ≤ w8.heap.size) := Lib.hid (Nat.le_trans HSZw6.out hb8.size)
  have HRXw8 := Lib.hid (HRXw6.out.on hb8 HRXw6.out.lt)
  have HLXw8 := Lib.hid (HLXw6.out.on hb8 (Nat.le_of_lt HRXw6.out.lt))
  have hSw8 : (fun W' : World => W'.cell? ⟨X, 0, none⟩ = some (.slice B1 x.cls.length e1) ∧ W'.cell? ⟨X, 1, none⟩ = some (.slice B2 x.up.length e2) ∧ W'.cell? ⟨X, 2, none⟩ = some (.slice B3 x.lo.length e3) ∧ W'.cell? ⟨X, 3, none⟩ = some (.slice B4 x.ord.length e4)) w8 := ⟨HRXw8.out.cell (i := 0) rfl, HRXw8.out.cell (i := 1) rfl, HRXw8.out.cell (i := 2) rfl, HRXw8.out.cell (i := 3) rfl⟩
  obtain ⟨nm2, hn2, hc8⟩ := lit_five w6 r HR5.out
  rw [← hw8] at hc8
  rw [show w6.alloc (.cells #[.string ⟨#[97, 108, 112, 104, 97]⟩, .string ⟨#[120]⟩, .string ⟨#[108, 111, 119, 45, 49]⟩, .string ⟨#[99, 104]⟩, .string ⟨#[97, 98]⟩] 9) = w8 from hw8.symm]
  obtain ⟨ad, had⟩ : ∃ ad : Addr, ad = ⟨w6.heap.size, 0, none⟩ := ⟨_, rfl⟩
  rw [← had] at hc8 ⊢
  have ha1 := answers08_any w8 (HG.out.next (by rw [HS.out]; exact HBw8.out)) X _ _ _ _ x HLXw8.out (Nat.le_of_lt HRXw8.out.lt) HXR.out HXN.out ca cb nm2 (by omega)
  clear hw8 hb8 had
  refine hK.out _ _ hSw8 (fun _ => ?_)
  try simp only [Act.put, g1, g2, g3, g4, g5, g6]
  refine wpHn 12 rfl ?_; try simp only [Act.put, g1, g2, g3, g4, g5, g6]
  refine wpAnyH_one (i := 13) (by kernel_rfl) rfl (fun K hK => ?_)
  simp only [g4, g5, g6]
  go_simp
  refine hK.out _ _ hSw8 (fun _ => ?_)
  try simp only [Act.put, g1, g2, g3, g4, g5, g6]
  refine wpAnyH_one (i := 14) (by kernel_rfl) rfl (fun K hK => ?_)
  simp only [g4, g5, g6]
  go_simp
  go_at_call 20
  refine ha1.mono ?_
  rintro e w9 ⟨rfl, hb9⟩
  have HBw9 := Lib.hid (HBw8.out.trans (hb9.mono HSZw8.out))
  have HSZw9 : Hid (S ≤ w9.heap.size) := Lib.hid (Nat.le_trans HSZw8.out hb9.size)
  have HRXw9 := Lib.hid (HRXw8.out.on hb9 HRXw8.out.lt)
  have HLXw9 := Lib.hid (HLXw8.out.on hb9 (Nat.le_of_lt HRXw8.out.lt))
  have hSw9 : (fun W' : World => W'.cell? ⟨X, 0, none⟩ = some (.slice B1 x.cls.length e1) ∧ W'.cell? ⟨X, 1, none⟩ = some (.slice B2 x.up.length e2) ∧ W'.cell? ⟨X, 2, none⟩ = some (.slice B3 x.lo.length e3) ∧ W'.cell? ⟨X, 3, none⟩ = some (.slice B4 x.ord.length e4)) w9 := ⟨HRXw9.out.cell (i := 0) rfl, HRXw9.out.cell (i := 1) rfl, HRXw9.out.cell (i := 2) rfl, HRXw9.out.cell (i := 3) rfl⟩
  have ha2 := answers08_any w9 (HG.out.next (by rw [HS.out]; exact HBw9.out)) X _ _ _ _ x HLXw9.out (Nat.le_of_lt HRXw9.out.lt) HXR.out HXN.out a5 cd nm HN.out
  clear ha1 hb9
  refine hK.out _ _ hSw9 (fun _ => ?_)
  try simp only [Act.put, g1, g2, g3, g4, g5, g6]
  iterate 8 (refine wpH rfl rfl ?_; try simp only [Act.put, g1, g2, g3, g4, g5, g6])
  refine wpAnyH_one (i := 23) (by kernel_rfl) rfl (fun K hK => ?_)
  simp only [g4, g5, g6]
  go_simp
  go_at_call 20
  refine ha2.mono ?_
  rintro e w10 ⟨rfl, hb10⟩
  have HBw10 := Lib.hid (HBw9.out.trans (hb10.mono HSZw9.out))
  have HSZw10 : Hid (S ≤ w10.heap.size) := Lib.hid (Nat.le_trans HSZw9.out hb10.size)
  have HRXw10 := Lib.hid (HRXw9.out.on hb10 HRXw9.out.lt)
  have HLXw10 := Lib.hid (HLXw9.out.on hb10 (Nat.le_of_lt HRXw9.out.lt))
  have hSw10 : (fun W' : World => W'.cell? ⟨X, 0, none⟩ = some (.slice B1 x.cls.length e1) ∧ W'.cell? ⟨X, 1, none⟩ = some (.slice B2 x.up.length e2) ∧ W'.cell? ⟨X, 2, none⟩ = some (.slice B3 x.lo.length e3) ∧ W'.cell? ⟨X, 3, none⟩ = some (.slice B4 x.ord.length e4)) w10 := ⟨HRXw10.out.cell (i := 0) rfl, HRXw10.out.cell (i := 1) rfl, HRXw10.out.cell (i := 2) rfl, HRXw10.out.cell (i := 3) rfl⟩
  clear ha2 hb10
  refine hK.out _ _ hSw10 (fun _ => ?_)
  try simp only [Act.put, g1, g2, g3, g4, g5, g6]
  iterate 2 (refine wpH rfl rfl ?_; try simp only [Act.put, g1, g2, g3, g4, g5, g6])
  refine wpAnyH_done (by kernel_rfl) ?_ _
  go_wp2
  go_ret
  exact ⟨rfl, HBw10.out⟩
 ·have hR' : rightL l = false := by simpa using hR
  have hn := new_no u5 S _ _ _ _ l HLLu5.out HSZu5.out (HG.out.next (by rw [HS.out]; exact HBu5.out)) hR'
  refine wpH rfl rfl ?_; try simp only [Act.put, g1, g2, g3, g4, g6]
  refine wpHn 3 rfl ?_; try simp only [Act.put, g1, g2, g3, g4, g5, g6]
  refine wpAnyH_one (i := 1) (by kernel_rfl) rfl (fun K hK => ?_)
  simp only [g4, g5, g6]
  go_simp
  go_at_call 10
  refine hn.mono ?_
  rintro e u6 ⟨rfl, hb6⟩
  have HBu6 := Lib.hid (HBu5.out.trans (hb6.mono HSZu5.out))
  have HSZu6 : Hid (S ≤ u6.heap.size) := Lib.hid (Nat.le_trans HSZu5.out hb6.size)
  have HRXu6 := Lib.hid (HRXu5.out.on hb6 HRXu5.out.lt)
  have HLXu6 := Lib.hid (HLXu5.out.on hb6 (Nat.le_of_lt HRXu5.out.lt))
  have HRLu6 := Lib.hid (HRLu5.out.on hb6 HRLu5.out.lt)
  have HLLu6 := Lib.hid (HLLu5.out.on hb6 HSZu5.out)
  have hSu6 : (fun W' : World => W'.cell? ⟨S, 0, none⟩ = some (.slice A1 l.cls.length c1) ∧ W'.cell? ⟨S, 1, none⟩ = some (.slice A2 l.up.length c2) ∧ W'.cell? ⟨S, 2, none⟩ = some (.slice A3 l.lo.length c3) ∧ W'.cell? ⟨S, 3, none⟩ = some (.slice A4 l.ord.length c4)) u6 := ⟨HRLu6.out.cell (i := 0) rfl, HRLu6.out.cell (i := 1) rfl, HRLu6.out.cell (i := 2) rfl, HRLu6.out.cell (i := 3) rfl⟩
  have hri := right07_any u6 S _ _ _ _ l HLLu6.out HSZu6.out HFEW.out
  rw [hR'] at hri
  clear hn hb6 hR hR'
  refine hK.out _ _ hSu6 (fun _ => ?_)
  try simp only [Act.put, g1, g2, g3, g4, g5, g6]
  refine wpH rfl rfl ?_; try simp only [Act.put, g1, g2, g3, g4, g5, g6]
  refine wpAnyH_one (i := 4) (by kernel_rfl) rfl (fun K hK => ?_)
  simp only [g4, g5, g6]
  go_simp
  go_at_call 21
  refine hri.mono ?_
  rintro e u7 ⟨rfl, hb7⟩
  have HBu7 := Lib.hid (HBu6.out.trans (hb7.mono HSZu6.out))
  have HSZu7 : Hid (S ≤ u7.heap.size) := Lib.hid (Nat.le_trans HSZu6.out hb7.size)
  have HRXu7 := Lib.hid (HRXu6.out.on hb7 HRXu6.out.lt)
  have HLXu7 := Lib.hid (HLXu6.out.on hb7 (Nat.le_of_lt HRXu6.out.lt))
  have HRLu7 := Lib.hid (HRLu6.out.on hb7 HRLu6.out.lt)
  have HLLu7 := Lib.hid (HLLu6.out.on hb7 HSZu6.out)
  have hSu7 : (fun W' : World => W'.cell? ⟨S, 0, none⟩ = some (.slice A1 l.cls.length c1) ∧ W'.cell? ⟨S, 1, none⟩ = some (.slice A2 l.up.length c2) ∧ W'.cell? ⟨S, 2, none⟩ = some (.slice A3 l.lo.length c3) ∧ W'.cell? ⟨S, 3, none⟩ = some (.slice A4 l.ord.length c4)) u7 := ⟨HRLu7.out.cell (i := 0) rfl, HRLu7.out.cell (i := 1) rfl, HRLu7.out.cell (i := 2) rfl, HRLu7.out.cell (i := 3) rfl⟩
  clear hri hb7
  refine hK.out _ _ hSu7 (fun _ => ?_)
  try simp only [Act.put, g1, g2, g3, g4, g5, g6]
  refine wpH rfl rfl ?_; try simp only [Act.put, g1, g2, g3, g4, g5, g6]
  refine wpAnyH_done (by kernel_rfl) ?_ _
  obtain ⟨w6, hw6⟩ : ∃ w6, w6 = u7.drew := ⟨_, rfl⟩
  have hb6 : Below u7.heap.size u7 w6 := by rw [hw6]; exact below_drew (Below.refl _ _)
  have HBw6 := Lib.hid (HBu7.out.trans (hb6.mono HSZu7.out))
  have HSZw6 : Hid (S ≤ w6.heap.size) := Lib.hid (Nat.le_trans HSZu7.out hb6.size)
  have HRXw6 := Lib.hid (HRXu7.out.on hb6 HRXu7.out.lt)
  have HLXw6 := Lib.hid (HLXu7.out.on hb6 (Nat.le_of_lt HRXu7.out.lt))
  have hSw6 : (fun W' : World => W'.cell? ⟨X, 0, none⟩ = some (.slice B1 x.cls.length e1) ∧ W'.cell? ⟨X, 1, none⟩ = some (.slice B2 x.up.length e2) ∧ W'.cell? ⟨X, 2, none⟩ = some (.slice B3 x.lo.length e3) ∧ W'.cell? ⟨X, 3, none⟩ = some (.slice B4 x.ord.length e4)) w6 := ⟨HRXw6.out.cell (i := 0) rfl, HRXw6.out.cell (i := 1) rfl, HRXw6.out.cell (i := 2) rfl, HRXw6.out.cell (i := 3) rfl⟩
  clear hSu5 hSu6 hSu7
  go_wp2
  refine wp_region_held (S := fun W' : World => W'.cell? ⟨X, 0, none⟩ = some (.slice B1 x.cls.length e1) ∧ W'.cell? ⟨X, 1, none⟩ = some (.slice B2 x.up.length e2) ∧ W'.cell? ⟨X, 2, none⟩ = some (.slice B3 x.lo.length e3) ∧ W'.cell? ⟨X, 3, none⟩ = some (.slice B4 x.ord.length e4)) (by kernel_rfl) ?_
  change wpAnyH _ _ _ _ _ _ _ _ u7.drew
  rw [← hw6]
  clear hw6 hb6
  iterate 9 (refine wpH rfl rfl ?_; try simp only [Act.put, g1, g2, g3, g4, g5, g6])
  refine wpHn 10 rfl ?_; try simp only [Act.put, g1, g2, g3, g4, g5, g6]
  refine wpHn 11 rfl ?_; try simp only [Act.put, g1, g2, g3, g4, g5, g6]
  refine wpAnyH_one (i := 9) (by kernel_rfl) rfl (fun K hK => ?_)
  simp only [g4, g5, g6]
  go_simp
  obtain ⟨w8, hw8⟩ : ∃ w8, w8 = w6.alloc (.cells #[.string ⟨#[97, 108, 112, 104, 97]⟩, .string ⟨#[120]⟩, .string ⟨#[108, 111, 119, 45, 49]⟩, .string ⟨#[99, 104]⟩, .string ⟨#[97, 98]⟩] 9) := ⟨_, rfl⟩
  have hb8 : Below w6.heap.size w6 w8 := by rw [hw8]; exact (Below.refl _ _).alloc (Nat.le_refl _) _
  have HBw8 := Lib.hid (HBw6.out.trans (hb8.mono HSZw6.out))
  have HSZw8 : Hid (S ≤ w8.heap.size) := Lib.hid (Nat.le_trans HSZw6.out hb8.size)
  have HRXw8 := Lib.hid (HRXw6.out.on hb8 HRXw6.out.lt)
  have HLXw8 := Lib.hid (HLXw6.out.on hb8 (Nat.le_of_lt HRXw6.out.lt))
  have hSw8 : (fun W' : World => W'.cell? ⟨X, 0, none⟩ = some (.slice B1 x.cls.length e1) ∧ W'.cell? ⟨X, 1, none⟩ = some (.slice B2 x.up.length e2) ∧ W'.cell? ⟨X, 2, none⟩ = some (.slice B3 x.lo.length e3) ∧ W'.cell? ⟨X, 3, none⟩ = some (.slice B4 x.ord.length e4)) w8 := ⟨HRXw8.out.cell (i := 0) rfl, HRXw8.out.cell (i := 1) rfl, HRXw8.out.cell (i := 2) rfl, HRXw8.out.cell (i := 3) rfl⟩
  obtain ⟨nm2, hn2, hc8⟩ := lit_five w6 r HR5.out
  rw [← hw8] at hc8
  rw [show w6.alloc (.cells #[.string ⟨#[97, 108, 112, 104, 97]⟩, .string ⟨#[120]⟩, .string ⟨#[108, 111, 119, 45, 49]⟩, .string ⟨#[99, 104]⟩, .string ⟨#[97, 98]⟩] 9) = w8 from hw8.symm]
  obtain ⟨ad, had⟩ : ∃ ad : Addr, ad = ⟨w6.heap.size, 0, none⟩ := ⟨_, rfl⟩
  rw [← had] at hc8 ⊢
  have ha1 := answers08_any w8 (HG.out.next (by rw [HS.out]; exact HBw8.out)) X _ _ _ _ x HLXw8.out (Nat.le_of_lt HRXw8.out.lt) HXR.out HXN.out ca cb nm2 (by omega)
  clear hw8 hb8 had
  refine hK.out _ _ hSw8 (fun _ => ?_)
  try simp only [Act.put, g1, g2, g3, g4, g5, g6]
  refine wpHn 12 rfl ?_; try simp only [Act.put, g1, g2, g3, g4, g5, g6]
  refine wpAnyH_one (i := 13) (by kernel_rfl) rfl (fun K hK => ?_)
  simp only [g4, g5, g6]
  go_simp
  refine hK.out _ _ hSw8 (fun _ => ?_)
  try simp only [Act.put, g1, g2, g3, g4, g5, g6]
  refine wpAnyH_one (i := 14) (by kernel_rfl) rfl (fun K hK => ?_)
  simp only [g4, g5, g6]
  go_simp
  go_at_call 20
  refine ha1.mono ?_
  rintro e w9 ⟨rfl, hb9⟩
  have HBw9 := Lib.hid (HBw8.out.trans (hb9.mono HSZw8.out))
  have HSZw9 : Hid (S ≤ w9.heap.size) := Lib.hid (Nat.le_trans HSZw8.out hb9.size)
  have HRXw9 := Lib.hid (HRXw8.out.on hb9 HRXw8.out.lt)
  have HLXw9 := Lib.hid (HLXw8.out.on hb9 (Nat.le_of_lt HRXw8.out.lt))
  have hSw9 : (fun W' : World => W'.cell? ⟨X, 0, none⟩ = some (.slice B1 x.cls.length e1) ∧ W'.cell? ⟨X, 1, none⟩ = some (.slice B2 x.up.length e2) ∧ W'.cell? ⟨X, 2, none⟩ = some (.slice B3 x.lo.length e3) ∧ W'.cell? ⟨X, 3, none⟩ = some (.slice B4 x.ord.length e4)) w9 := ⟨HRXw9.out.cell (i := 0) rfl, HRXw9.out.cell (i := 1) rfl, HRXw9.out.cell (i := 2) rfl, HRXw9.out.cell (i := 3) rfl⟩
  have ha2 := answers08_any w9 (HG.out.next (by rw [HS.out]; exact HBw9.out)) X _ _ _ _ x HLXw9.out (Nat.le_of_lt HRXw9.out.lt) HXR.out HXN.out a5 cd nm HN.out
  clear ha1 hb9
  refine hK.out _ _ hSw9 (fun _ => ?_)
  try simp only [Act.put, g1, g2, g3, g4, g5, g6]
  iterate 8 (refine wpH rfl rfl ?_; try simp only [Act.put, g1, g2, g3, g4, g5, g6])
  refine wpAnyH_one (i := 23) (by kernel_rfl) rfl (fun K hK => ?_)
  simp only [g4, g5, g6]
  go_simp
  go_at_call 20
  refine ha2.mono ?_
  rintro e w10 ⟨rfl, hb10⟩
  have HBw10 := Lib.hid (HBw9.out.trans (hb10.mono HSZw9.out))
  have HSZw10 : Hid (S ≤ w10.heap.size) := Lib.hid (Nat.le_trans HSZw9.out hb10.size)
  have HRXw10 := Lib.hid (HRXw9.out.on hb10 HRXw9.out.lt)
  have HLXw10 := Lib.hid (HLXw9.out.on hb10 (Nat.le_of_lt HRXw9.out.lt))
  have hSw10 : (fun W' : World => W'.cell? ⟨X, 0, none⟩ = some (.slice B1 x.cls.length e1) ∧ W'.cell? ⟨X, 1, none⟩ = some (.slice B2 x.up.length e2) ∧ W'.cell? ⟨X, 2, none⟩ = some (.slice B3 x.lo.length e3) ∧ W'.cell? ⟨X, 3, none⟩ = some (.slice B4 x.ord.length e4)) w10 := ⟨HRXw10.out.cell (i := 0) rfl, HRXw10.out.cell (i := 1) rfl, HRXw10.out.cell (i := 2) rfl, HRXw10.out.cell (i := 3) rfl⟩
  clear ha2 hb10
  refine hK.out _ _ hSw10 (fun _ => ?_)
  try simp only [Act.put, g1, g2, g3, g4, g5, g6]
  iterate 2 (refine wpH rfl rfl ?_; try simp only [Act.put, g1, g2, g3, g4, g5, g6])
  refine wpAnyH_done (by kernel_rfl) ?_ _
  go_wp2
  go_ret
  exact ⟨rfl, HBw10.out⟩
end Go.Proofs.YtknjhlbhbnldpaaGreatDoor.C
