/-
  Joined: WLocaleRights. Each with what its own head says.
-/
import Derived.Test.YthaibekbefndlaaGreatDoorZ34
import Derived.Test.YthaibekbefndlaaGreatDoorZ33

namespace Go.Proofs.YthaibekbefndlaaGreatDoor.C
open Go.RowKit

theorem byte_in {a : Int} (h : (Lit.int .u8 a).wf = true) : 0 ≤ a ∧ a < 256 := by
 have hmin : IntKind.u8.min = 0 := rfl
 have hmax : IntKind.u8.max = 255 := rfl
 simp only [Lit.wf, Bool.and_eq_true, decide_eq_true_eq] at h
 omega
theorem i32_in {a : Int} (h : (Lit.int .i32 a).wf = true) : -2147483648 ≤ a ∧ a < 2147483648 := by
 have hmin : IntKind.i32.min = -2147483648 := rfl
 have hmax : IntKind.i32.max = 2147483647 := rfl
 simp only [Lit.wf, Bool.and_eq_true, decide_eq_true_eq] at h
 omega
set_option maxRecDepth 100000 in
set_option maxHeartbeats 8000000 in
theorem localeRightsWalk (v0 v1 v2 v3 : Value) (l : Loc) (a1 : Option Addr) (len1 cap1 : Nat) (z1 : List Int) (a2 a3 a4 : Int) (s5 : ByteArray) (w : World) (hG : Gm w) (hl : LocR w w.heap.size v0 v1 v2 v3 l) (hin : LocIn l) (w1 : L.IsRow .u8 w a1 len1 cap1 z1) (w2 : (Lit.int .u8 a2).wf = true) (w3 : (Lit.int .u8 a3).wf = true) (w4 : (Lit.int .i32 a4).wf = true) :
  Calls Tryz.prog 6 #[.agg #[v0, v1, v2, v3], .slice a1 len1 cap1, .int .u8 a2, .int .u8 a3, .int .i32 a4, .string s5] w fun e w' => e = .returned (.bool true) ∧ Below w.heap.size w w' := by
 have h2 := byte_in w2
 have h3 := byte_in w3
 have h4 := i32_in w4
 obtain ⟨h, hh⟩ : ∃ h : Nat, a2 % 6 = (h : Int) := ⟨(a2 % 6).toNat, by omega⟩
 have h6 : h < 6 := by omega
 obtain ⟨⟨A1, c1, x1, rfl, -⟩, ⟨A2, c2, rfl, -⟩, ⟨A3, c3, rfl, -⟩, ⟨A4, c4, x4, rfl, -⟩, -⟩ := id hl
 obtain ⟨W, hW⟩ : ∃ W, W = w.alloc (.cells #[.slice A1 l.cls.length c1, .slice A2 l.up.length c2, .slice A3 l.lo.length c3, .slice A4 l.ord.length c4] 26) := ⟨_, rfl⟩
 have hbW : Below w.heap.size w W := by rw [hW]; exact (Below.refl _ _).alloc (Nat.le_refl _) _
 have hL : LocZ W w.heap.size (.slice A1 l.cls.length c1) (.slice A2 l.up.length c2) (.slice A3 l.lo.length c3) (.slice A4 l.ord.length c4) := by
  unfold LocZ
  rw [hW]
  exact heap_alloc_new w _
 have hkn := known07_any W (hG.next hbW)
 have hGW := Lib.hid (hG.next hbW)
 have hby := row_u8 w1
 have HRI := Lib.hid (RI.of_row w1)
 have HLEN : Hid (len1 ≤ maxLen) := Lib.hid (by have := row_len w1; omega)
 have HBY := Lib.hid hby
 have HLL := Lib.hid (hl.on hbW (Nat.le_refl _))
 obtain ⟨q0, q1, q2, q3⟩ := hL.cells
 rw [hW] at q0 q1 q2 q3
 obtain ⟨S, hS⟩ : ∃ S, w.heap.size = S := ⟨_, rfl⟩
 have HC : Hid (∀ u, Below W.heap.size W u → LocZ u S (.slice A1 l.cls.length c1) (.slice A2 l.up.length c2) (.slice A3 l.lo.length c3) (.slice A4 l.ord.length c4)) := Lib.hid (fun u hu => by rw [← hS]; exact (hu.block _ hL.lt).trans hL)
 have HBW : Hid (Below S w W) := Lib.hid (by rw [← hS]; exact hbW)
 have HSW : Hid (S ≤ W.heap.size) := Lib.hid (by rw [← hS]; exact hbW.size)
 obtain ⟨m1, hm1⟩ : ∃ m : Nat, m = l.cls.length + l.up.length := ⟨_, rfl⟩
 obtain ⟨m2, hm2⟩ : ∃ m : Nat, m = m1 + l.lo.length := ⟨_, rfl⟩
 obtain ⟨m3, hm3⟩ : ∃ m : Nat, m = m2 + l.ord.length := ⟨_, rfl⟩
 obtain ⟨f1, f2, f3, f4, f5, f6⟩ := hin
 have y1 : IntKind.i64.wrap ((l.cls.length : Int) + (l.up.length : Int)) = (m1 : Int) := by rw [IntKind.wrap_i64]; omega
 have y2 : IntKind.i64.wrap ((m1 : Int) + (l.lo.length : Int)) = (m2 : Int) := by rw [IntKind.wrap_i64]; omega
 have y3 : IntKind.i64.wrap ((m2 : Int) + (l.ord.length : Int)) = (m3 : Int) := by rw [IntKind.wrap_i64]; omega
 rw [hS]
 rw [hS] at q0 q1 q2 q3
 rw [hS] at HLL HRI
 by_cases g1 : 30 < m3
 ·have g1' : (30 : Int) < (m3 : Int) := by omega
  clear hl hbW hL w1 w2 w3 w4 hG hby h2 h3 h4 h6 hh hm1 hm2 hm3 f1 f2 f3 f4 f5 f6 g1
  go_enter Tryz.func6, Tryz.ntmps6
  go_wp2_with fail
  rw [← hW]
  with_reducible refine hkn.mono ?_
  rintro e u2 ⟨rfl, hb2⟩
  have HE := Lib.hid (HBW.out.trans (hb2.mono HSW.out))
  clear hkn hb2 q0 q1 q2 q3 hW
  go_wp2
  go_ret
  exact ⟨rfl, HE.out⟩
 by_cases g2 : 60 < s5.size
 ·have g1' : ¬ (30 : Int) < (m3 : Int) := by omega
  have g2' : (60 : Int) < (s5.size : Int) := by omega
  clear hl hbW hL w1 w2 w3 w4 hG hby h2 h3 h4 h6 hh hm1 hm2 hm3 f1 f2 f3 f4 f5 f6 g1 g2
  go_enter Tryz.func6, Tryz.ntmps6
  go_wp2_with fail
  rw [← hW]
  with_reducible refine hkn.mono ?_
  rintro e u2 ⟨rfl, hb2⟩
  have HE := Lib.hid (HBW.out.trans (hb2.mono HSW.out))
  clear hkn hb2 q0 q1 q2 q3 hW
  go_wp2
  go_ret
  exact ⟨rfl, HE.out⟩
 have g1' : ¬ (30 : Int) < (m3 : Int) := by omega
 have g2' : ¬ (60 : Int) < (s5.size : Int) := by omega
 have HSL : Hid (Small l) := Lib.hid ⟨by omega, by omega, by omega, by omega, f5, f6⟩
 clear hl hbW hL w1 w2 w3 w4 hG hby hm1 hm2 hm3 f1 f2 f3 f4 f5 f6 g1
 go_enter Tryz.func6, Tryz.ntmps6
 go_wp2_with fail
 rw [← hW]
 with_reducible refine hkn.mono ?_
 rintro e u2 ⟨rfl, hb2⟩
 have hlc := locale_any u2 S a1 len1 cap1 _ (RI.below (RI.below HRI.out HBW.out) (hb2.mono HSW.out)) (Nat.le_trans HSW.out hb2.size) HBY.out HLEN.out
 obtain ⟨hsm, hne⟩ := genL_small _ HBY.out
 obtain ⟨x, hx⟩ : ∃ x, x = genL (z1.take len1) := ⟨_, rfl⟩
 rw [← hx] at hlc hsm hne
 have HB2 := Lib.hid hb2
 have HSM := Lib.hid hsm
 have HNE := Lib.hid hne
 clear hkn hb2 hW q0 q1 q2 q3 y1 y2 y3 g1' g2' hx hsm hne
 go_wp2_with fail
 with_reducible refine hlc.mono ?_
 rintro e u3 ⟨u1', u2', u3', u4', rfl, hLx, hb3⟩
 have hRx := LocR.of hLx (fun c hc => by have := (HSM.out.n1 c hc).1; unfold maxLen; omega) (fun c hc => by have := HSM.out.n2 c hc; unfold maxLen; omega)
 obtain ⟨⟨B1, e1, b1, rfl, -⟩, ⟨B2, e2, rfl, -⟩, ⟨B3, e3, rfl, -⟩, ⟨B4, e4, b4, rfl, -⟩, -⟩ := id hRx
 have HLC := Lib.hid hLx.1
 have hB1 : ∀ ad, B1 = some ad → BlkAt u3 u2.heap.size ad.block := fun ad e => by
  obtain ⟨vs, _, ho, _⟩ := hLx.1
  rw [e] at ho
  exact BlkAt.of ho
 have hB2 : ∀ ad, B2 = some ad → BlkAt u3 u2.heap.size ad.block := fun ad e => by
  have ho := hLx.2.1
  rw [e] at ho
  exact BlkAt.of ho
 have hB4 : ∀ ad, B4 = some ad → BlkAt u3 u2.heap.size ad.block := fun ad e => by
  obtain ⟨vs, _, ho, _⟩ := hLx.2.2.2
  rw [e] at ho
  exact BlkAt.of ho
 obtain ⟨n1, hn1⟩ : ∃ n, n = x.cls.length := ⟨_, rfl⟩
 obtain ⟨n2, hn2⟩ : ∃ n, n = x.up.length := ⟨_, rfl⟩
 obtain ⟨n3, hn3⟩ : ∃ n, n = x.lo.length := ⟨_, rfl⟩
 obtain ⟨n4, hn4⟩ : ∃ n, n = x.ord.length := ⟨_, rfl⟩
 have HNN : Hid (n1 = x.cls.length ∧ n2 = x.up.length ∧ n3 = x.lo.length ∧ n4 = x.ord.length) := Lib.hid ⟨hn1, hn2, hn3, hn4⟩
 rw [← hn1, ← hn2, ← hn3, ← hn4] at hRx ⊢
 obtain ⟨X, hX⟩ : ∃ X, u3.heap.size = X := ⟨_, rfl⟩
 obtain ⟨W4, hW4⟩ : ∃ W4, W4 = u3.alloc (.cells #[.slice B1 n1 e1, .slice B2 n2 e2, .slice B3 n3 e3, .slice B4 n4 e4] 26) := ⟨_, rfl⟩
 have hb4 : Below u3.heap.size u3 W4 := by rw [hW4]; exact (Below.refl _ _).alloc (Nat.le_refl _) _
 have hZ4 : LocZ W4 X (.slice B1 n1 e1) (.slice B2 n2 e2) (.slice B3 n3 e3) (.slice B4 n4 e4) := by
  unfold LocZ
  rw [hW4, ← hX]
  exact heap_alloc_new u3 _
 have HX := Lib.hid hZ4
 have HXW : Hid (X ≤ W4.heap.size) := Lib.hid (by rw [← hX]; exact hb4.size)
 have HBX : Hid (Below W.heap.size W W4) := Lib.hid ((HB2.out.trans (hb3.mono HB2.out.size)).trans (hb4.mono (Nat.le_trans HB2.out.size hb3.size)))
 have HRX : Hid (LocR W4 X (.slice B1 n1 e1) (.slice B2 n2 e2) (.slice B3 n3 e3) (.slice B4 n4 e4) x) := Lib.hid (by rw [← hX]; exact hRx.on hb4 (Nat.le_refl _))
 have HB1 : Hid (∀ ad, B1 = some ad → BlkAt W4 W.heap.size ad.block) := Lib.hid (fun ad e => ⟨Nat.le_trans HB2.out.size (hB1 ad e).1, ((hB1 ad e).on hb4 (Nat.le_refl _)).2⟩)
 have HB2' : Hid (∀ ad, B2 = some ad → BlkAt W4 W.heap.size ad.block) := Lib.hid (fun ad e => ⟨Nat.le_trans HB2.out.size (hB2 ad e).1, ((hB2 ad e).on hb4 (Nat.le_refl _)).2⟩)
 have HB4 : Hid (∀ ad, B4 = some ad → BlkAt W4 W.heap.size ad.block) := Lib.hid (fun ad e => ⟨Nat.le_trans HB2.out.size (hB4 ad e).1, ((hB4 ad e).on hb4 (Nat.le_refl _)).2⟩)
 have HLOW0 : Hid (∀ ad (r : Nat) k, B1 = some ad → x.cls[r]? = some k → ∀ A m c', u3.cell? ⟨(ad.add (r * 2)).block, (ad.add (r * 2)).off + 1, none⟩ = some (.slice (some A) m c') → BlkAt u3 u2.heap.size A.block) := Lib.hid (fun ad r k e hk A m c' hc => cls_low HLC.out ad e1 (by rw [e]) hk hc)
 have HLTX0 : Hid (∀ ad, B1 = some ad → ad.block < X) := Lib.hid (fun ad e => by rw [← hX]; exact (hB1 ad e).lt)
 have HLOW : Hid (∀ ad, B1 = some ad → ∀ (r : Nat) k, x.cls[r]? = some k → ∀ A m c', W4.cell? ⟨(ad.add (r * 2)).block, (ad.add (r * 2)).off + 1, none⟩ = some (.slice (some A) m c') → BlkAt W4 W.heap.size A.block ∧ A.block < X) := Lib.hid (fun ad e r k hk A m c' hc => by
  have h1 := HLOW0.out ad r k e hk A m c' (by rw [← hb4.cell (p := ⟨_, _, none⟩) (by rw [block_of_add]; exact (hB1 ad e).lt)]; exact hc)
  exact ⟨⟨Nat.le_trans HB2.out.size h1.1, (h1.on hb4 (Nat.le_refl _)).2⟩, by rw [← hX]; exact h1.lt⟩)
 have HLT2 : Hid (∀ ad, B2 = some ad → ad.block < X) := Lib.hid (fun ad e => by rw [← hX]; exact (hB2 ad e).lt)
 have HLT4 : Hid (∀ ad, B4 = some ad → ad.block < X) := Lib.hid (fun ad e => by rw [← hX]; exact (hB4 ad e).lt)
 have HBEND : Hid (∀ (k : World) (p : Addr) (old u : Value), Below W4.heap.size W4 k → k.cell? p = some old → SameKind old u → W.heap.size ≤ p.block → p.block < X → ∃ l', LocZ (k.setCell p u) X (.slice B1 n1 e1) (.slice B2 n2 e2) (.slice B3 n3 e3) (.slice B4 n4 e4) ∧ LocR (k.setCell p u) X (.slice B1 n1 e1) (.slice B2 n2 e2) (.slice B3 n3 e3) (.slice B4 n4 e4) l' ∧ Small l' ∧ Below W.heap.size W (k.setCell p u)) := Lib.hid (fun k p old u hk hc hkd h1 h2 => by
  obtain ⟨l', r1, r2⟩ := LocR.kind hc hkd (HRX.out.on hk HXW.out) HSM.out
  refine ⟨l', ?_, r1, r2, (HBX.out.trans (hk.mono HBX.out.size)).setCell h1 _⟩
  unfold LocZ
  rw [heap_setCell_other _ _ _ _ (by omega)]
  exact (hk.block _ HX.out.lt).trans HX.out)
 have HBASE : Hid (∃ l', LocZ W4 X (.slice B1 n1 e1) (.slice B2 n2 e2) (.slice B3 n3 e3) (.slice B4 n4 e4) ∧ LocR W4 X (.slice B1 n1 e1) (.slice B2 n2 e2) (.slice B3 n3 e3) (.slice B4 n4 e4) l' ∧ Small l' ∧ Below W.heap.size W W4) := Lib.hid ⟨x, HX.out, HRX.out, HSM.out, HBX.out⟩
 have zs5 : s5.size ≤ 60 := by omega
 have wz3 : IntKind.i64.wrap a3 = a3 := by rw [IntKind.wrap_i64]; omega
 have wz4 : IntKind.i64.wrap a4 = a4 := by rw [IntKind.wrap_i64]; omega
 have HM : Hid (a2.tmod 6 = (h : Int) ∧ h < 6) := Lib.hid ⟨by rw [Int.tmod_eq_emod_of_nonneg h2.1]; exact hh, h6⟩
 clear hlc hLx hRx hb3 hb4 hZ4 hB1 hB2 hB4 hn1 hn2 hn3 hn4 g2 HLOW0 HLC hh h6 h2
 go_upto_block 0 with fail
 try rw [← hW4]
 try rw [hX]
 clear hW4 hX
 go_cut [] (fun wx => Hid (∃ l', LocZ wx X (.slice B1 n1 e1) (.slice B2 n2 e2) (.slice B3 n3 e3) (.slice B4 n4 e4) ∧ LocR wx X (.slice B1 n1 e1) (.slice B2 n2 e2) (.slice B3 n3 e3) (.slice B4 n4 e4) l' ∧ Small l' ∧ Below W.heap.size W wx))
 case first =>
  obtain ⟨ht, h6⟩ := HM.out
  clear HM
  obtain ⟨x0, x1, x2, x3⟩ := HX.out.cells
  rcases (by omega : h = 0 ∨ h = 1 ∨ h = 2 ∨ h = 3 ∨ h = 4 ∨ h = 5) with rfl | rfl | rfl | rfl | rfl | rfl
  ·have ht' : a2.tmod 6 = 0 := by omega
   clear ht h6
   by_cases hn : 0 < n1
   ·have hn' : (0 : Int) < (n1 : Int) := by omega
    obtain ⟨r, hr⟩ : ∃ r : Nat, a3 % (n1 : Int) = (r : Int) := ⟨(a3 % (n1 : Int)).toNat, by have := Int.emod_nonneg a3 (show (n1 : Int) ≠ 0 by omega); omega⟩
    have r1 : (r : Int) < (n1 : Int) := by rw [← hr]; exact Int.emod_lt_of_pos a3 (by omega)
    have r0 : (0 : Int) ≤ (r : Int) := by omega
    have s6 : ¬ n1 = 0 := by omega
    have s8 : ¬ (n1 : Int) = 0 := by omega
    have s7 : a3.tmod (n1 : Int) = (r : Int) := by rw [Int.tmod_eq_emod_of_nonneg h3.1]; exact hr
    have hRx := HRX.out
    obtain ⟨k, hk⟩ : ∃ k, x.cls[r]? = some k := ⟨_, List.getElem?_eq_getElem (by have := HNN.out.1; omega)⟩
    obtain ⟨ad, cx, A, cc, hv, hbl, d0, d1, hpr, -⟩ := clsR_at hRx.1 hk
    injection hv with hv hv2 hv3
    clear hv2
    subst hv hv3
    have hblk := HB1.out ad rfl
    have fz : W4.frozen? (ad.add (r * 2)) = false := by
     have hb' : ((ad.add (r * 2)) : Addr).block = ad.block := by first | rfl | exact block_of_add _ _ | (show (Addr.add _ _).block = _; exact block_of_add _ _)
     obtain ⟨-, cs', t', hh⟩ := hblk
     rw [← hb'] at hh
     unfold World.frozen?
     rw [hh]
     rfl
    have hlo' : W.heap.size ≤ ((ad.add (r * 2)) : Addr).block := by
     have hb' : ((ad.add (r * 2)) : Addr).block = ad.block := by first | rfl | exact block_of_add _ _ | (show (Addr.add _ _).block = _; exact block_of_add _ _)
     rw [hb']
     exact hblk.1
    have hhi' : ((ad.add (r * 2)) : Addr).block < X := by
     have hb' : ((ad.add (r * 2)) : Addr).block = ad.block := by first | rfl | exact block_of_add _ _ | (show (Addr.add _ _).block = _; exact block_of_add _ _)
     rw [hb']
     exact HLTX0.out ad rfl
    have HEND := Lib.hid (HBEND.out W4.drew (ad.add (r * 2)) (.string (str k.name)) (.string s5) (below_drew (Below.refl _ _)) d0 (.inl ⟨_, _, rfl, rfl, by omega⟩) hlo' hhi')
    clear hk hr hRx hpr hblk hlo' hhi'
    go_upto_region 7 with fail
    refine wp_region_E (S := fun W' : World => W'.cell? ⟨X, 0, none⟩ = some (.slice (some ad) n1 e1) ∧ W'.cell? (ad.add (r * 2)) = some (.string (str k.name))) (L := 10) (by kernel_rfl) ?_
    have hS1 : (fun W' : World => W'.cell? ⟨X, 0, none⟩ = some (.slice (some ad) n1 e1) ∧ W'.cell? (ad.add (r * 2)) = some (.string (str k.name))) W4.drew := ⟨x0, d0⟩
    iterate 8 (refine wpE rfl rfl ?_; try simp only [Act.put, g1, g2, g3, g4, g5, g6])
    refine wpAnyE_one (i := 8) (by kernel_rfl) rfl (fun K hK => ?_)
    simp only [g4, g5, g6]
    go_simp
    refine hK.out _ _ (fun _ => hS1) (fun _ => ?_)
    try simp only [Act.put, g1, g2, g3, g4, g5, g6]
    iterate 1 (refine wpE rfl rfl ?_; try simp only [Act.put, g1, g2, g3, g4, g5, g6])
    refine wpAnyE_one (i := 10) (by kernel_rfl) rfl (fun K hK => ?_)
    simp only [g4, g5, g6]
    go_simp
    refine hK.out _ _ (fun h => absurd rfl h) (fun _ => ?_)
    refine wpAnyE_done (by kernel_rfl) ?_ _
    go_wp2
    go_meet
    exact HEND
   ·have hn' : ¬ (0 : Int) < (n1 : Int) := by omega
    clear hn
    go_wp2
    go_meet
    exact HBASE
  ·have ht' : a2.tmod 6 = 1 := by omega
   clear ht h6
   by_cases hn : 0 < n4
   ·have hn' : (0 : Int) < (n4 : Int) := by omega
    obtain ⟨r, hr⟩ : ∃ r : Nat, a3 % (n4 : Int) = (r : Int) := ⟨(a3 % (n4 : Int)).toNat, by have := Int.emod_nonneg a3 (show (n4 : Int) ≠ 0 by omega); omega⟩
    have r1 : (r : Int) < (n4 : Int) := by rw [← hr]; exact Int.emod_lt_of_pos a3 (by omega)
    have r0 : (0 : Int) ≤ (r : Int) := by omega
    have s6 : ¬ n4 = 0 := by omega
    have s8 : ¬ (n4 : Int) = 0 := by omega
    have s7 : a3.tmod (n4 : Int) = (r : Int) := by rw [Int.tmod_eq_emod_of_nonneg h3.1]; exact hr
    have hRx := HRX.out
    obtain ⟨k, hk⟩ : ∃ k, x.ord[r]? = some k := ⟨_, List.getElem?_eq_getElem (by have := HNN.out.2.2.2; omega)⟩
    obtain ⟨ad, cx, A, cc, hv, hbl, d0, d1, d2, -⟩ := elmR_at hRx.2.2.2.1 hk
    injection hv with hv hv2 hv3
    clear hv2
    subst hv hv3
    have hblk := HB4.out ad rfl
    have fz : W4.frozen? ⟨(ad.add (r * 3)).block, (ad.add (r * 3)).off + 2, none⟩ = false := by
     have hb' : (⟨(ad.add (r * 3)).block, (ad.add (r * 3)).off + 2, none⟩ : Addr).block = ad.block := by first | rfl | exact block_of_add _ _ | (show (Addr.add _ _).block = _; exact block_of_add _ _)
     obtain ⟨-, cs', t', hh⟩ := hblk
     rw [← hb'] at hh
     unfold World.frozen?
     rw [hh]
     rfl
    have hlo' : W.heap.size ≤ (⟨(ad.add (r * 3)).block, (ad.add (r * 3)).off + 2, none⟩ : Addr).block := by
     have hb' : (⟨(ad.add (r * 3)).block, (ad.add (r * 3)).off + 2, none⟩ : Addr).block = ad.block := by first | rfl | exact block_of_add _ _ | (show (Addr.add _ _).block = _; exact block_of_add _ _)
     rw [hb']
     exact hblk.1
    have hhi' : (⟨(ad.add (r * 3)).block, (ad.add (r * 3)).off + 2, none⟩ : Addr).block < X := by
     have hb' : (⟨(ad.add (r * 3)).block, (ad.add (r * 3)).off + 2, none⟩ : Addr).block = ad.block := by first | rfl | exact block_of_add _ _ | (show (Addr.add _ _).block = _; exact block_of_add _ _)
     rw [hb']
     exact HLT4.out ad rfl
    have HEND := Lib.hid (HBEND.out W4.drew ⟨(ad.add (r * 3)).block, (ad.add (r * 3)).off + 2, none⟩ (.int .i64 k.same) (.int .i64 a4) (below_drew (Below.refl _ _)) d2 (.inr ⟨_, _, _, rfl, rfl⟩) hlo' hhi')
    clear hk hr hRx  hblk hlo' hhi'
    go_upto_region 9 with fail
    refine wp_region_E (S := fun W' : World => W'.cell? ⟨X, 3, none⟩ = some (.slice (some ad) n4 e4) ∧ W'.cell? ⟨(ad.add (r * 3)).block, (ad.add (r * 3)).off + 2, none⟩ = some (.int .i64 k.same)) (L := 11) (by kernel_rfl) ?_
    have hS1 : (fun W' : World => W'.cell? ⟨X, 3, none⟩ = some (.slice (some ad) n4 e4) ∧ W'.cell? ⟨(ad.add (r * 3)).block, (ad.add (r * 3)).off + 2, none⟩ = some (.int .i64 k.same)) W4.drew := ⟨x3, d2⟩
    iterate 9 (refine wpE rfl rfl ?_; try simp only [Act.put, g1, g2, g3, g4, g5, g6])
    refine wpAnyE_one (i := 9) (by kernel_rfl) rfl (fun K hK => ?_)
    simp only [g4, g5, g6]
    go_simp
    refine hK.out _ _ (fun _ => hS1) (fun _ => ?_)
    try simp only [Act.put, g1, g2, g3, g4, g5, g6]
    iterate 1 (refine wpE rfl rfl ?_; try simp only [Act.put, g1, g2, g3, g4, g5, g6])
    refine wpAnyE_one (i := 11) (by kernel_rfl) rfl (fun K hK => ?_)
    simp only [g4, g5, g6]
    go_simp
    refine hK.out _ _ (fun h => absurd rfl h) (fun _ => ?_)
    refine wpAnyE_done (by kernel_rfl) ?_ _
    go_wp2
    go_meet
    exact HEND
   ·have hn' : ¬ (0 : Int) < (n4 : Int) := by omega
    clear hn
    go_wp2
    go_meet
    exact HBASE
  ·have ht' : a2.tmod 6 = 2 := by omega
   clear ht h6
   by_cases hn : 0 < n4
   ·have hn' : (0 : Int) < (n4 : Int) := by omega
    obtain ⟨r, hr⟩ : ∃ r : Nat, a3 % (n4 : Int) = (r : Int) := ⟨(a3 % (n4 : Int)).toNat, by have := Int.emod_nonneg a3 (show (n4 : Int) ≠ 0 by omega); omega⟩
    have r1 : (r : Int) < (n4 : Int) := by rw [← hr]; exact Int.emod_lt_of_pos a3 (by omega)
    have r0 : (0 : Int) ≤ (r : Int) := by omega
    have s6 : ¬ n4 = 0 := by omega
    have s8 : ¬ (n4 : Int) = 0 := by omega
    have s7 : a3.tmod (n4 : Int) = (r : Int) := by rw [Int.tmod_eq_emod_of_nonneg h3.1]; exact hr
    have hRx := HRX.out
    obtain ⟨k, hk⟩ : ∃ k, x.ord[r]? = some k := ⟨_, List.getElem?_eq_getElem (by have := HNN.out.2.2.2; omega)⟩
    obtain ⟨ad, cx, A, cc, hv, hbl, d0, d1, d2, -⟩ := elmR_at hRx.2.2.2.1 hk
    injection hv with hv hv2 hv3
    clear hv2
    subst hv hv3
    have hblk := HB4.out ad rfl
    have fz : W4.frozen? (ad.add (r * 3)) = false := by
     have hb' : ((ad.add (r * 3)) : Addr).block = ad.block := by first | rfl | exact block_of_add _ _ | (show (Addr.add _ _).block = _; exact block_of_add _ _)
     obtain ⟨-, cs', t', hh⟩ := hblk
     rw [← hb'] at hh
     unfold World.frozen?
     rw [hh]
     rfl
    have hlo' : W.heap.size ≤ ((ad.add (r * 3)) : Addr).block := by
     have hb' : ((ad.add (r * 3)) : Addr).block = ad.block := by first | rfl | exact block_of_add _ _ | (show (Addr.add _ _).block = _; exact block_of_add _ _)
     rw [hb']
     exact hblk.1
    have hhi' : ((ad.add (r * 3)) : Addr).block < X := by
     have hb' : ((ad.add (r * 3)) : Addr).block = ad.block := by first | rfl | exact block_of_add _ _ | (show (Addr.add _ _).block = _; exact block_of_add _ _)
     rw [hb']
     exact HLT4.out ad rfl
    have HEND := Lib.hid (HBEND.out W4.drew (ad.add (r * 3)) (.string (str k.name)) (.string s5) (below_drew (Below.refl _ _)) d0 (.inl ⟨_, _, rfl, rfl, by omega⟩) hlo' hhi')
    clear hk hr hRx  hblk hlo' hhi'
    go_upto_region 11 with fail
    refine wp_region_E (S := fun W' : World => W'.cell? ⟨X, 3, none⟩ = some (.slice (some ad) n4 e4) ∧ W'.cell? (ad.add (r * 3)) = some (.string (str k.name))) (L := 10) (by kernel_rfl) ?_
    have hS1 : (fun W' : World => W'.cell? ⟨X, 3, none⟩ = some (.slice (some ad) n4 e4) ∧ W'.cell? (ad.add (r * 3)) = some (.string (str k.name))) W4.drew := ⟨x3, d0⟩
    iterate 8 (refine wpE rfl rfl ?_; try simp only [Act.put, g1, g2, g3, g4, g5, g6])
    refine wpAnyE_one (i := 8) (by kernel_rfl) rfl (fun K hK => ?_)
    simp only [g4, g5, g6]
    go_simp
    refine hK.out _ _ (fun _ => hS1) (fun _ => ?_)
    try simp only [Act.put, g1, g2, g3, g4, g5, g6]
    iterate 1 (refine wpE rfl rfl ?_; try simp only [Act.put, g1, g2, g3, g4, g5, g6])
    refine wpAnyE_one (i := 10) (by kernel_rfl) rfl (fun K hK => ?_)
    simp only [g4, g5, g6]
    go_simp
    refine hK.out _ _ (fun h => absurd rfl h) (fun _ => ?_)
    refine wpAnyE_done (by kernel_rfl) ?_ _
    go_wp2
    go_meet
    exact HEND
   ·have hn' : ¬ (0 : Int) < (n4 : Int) := by omega
    clear hn
    go_wp2
    go_meet
    exact HBASE
  ·have ht' : a2.tmod 6 = 3 := by omega
   clear ht h6
   by_cases hn : 0 < n2
   ·have hn' : (0 : Int) < (n2 : Int) := by omega
    obtain ⟨r, hr⟩ : ∃ r : Nat, a3 % (n2 : Int) = (r : Int) := ⟨(a3 % (n2 : Int)).toNat, by have := Int.emod_nonneg a3 (show (n2 : Int) ≠ 0 by omega); omega⟩
    have r1 : (r : Int) < (n2 : Int) := by rw [← hr]; exact Int.emod_lt_of_pos a3 (by omega)
    have r0 : (0 : Int) ≤ (r : Int) := by omega
    have s6 : ¬ n2 = 0 := by omega
    have s8 : ¬ (n2 : Int) = 0 := by omega
    have s7 : a3.tmod (n2 : Int) = (r : Int) := by rw [Int.tmod_eq_emod_of_nonneg h3.1]; exact hr
    have hRx := HRX.out
    obtain ⟨k, hk⟩ : ∃ k, x.up[r]? = some k := ⟨_, List.getElem?_eq_getElem (by have := HNN.out.2.1; omega)⟩
    obtain ⟨Ap, cp, hg, hsi⟩ := hRx.2.1
    injection hg with hg hg2 hg3
    clear hg2
    subst hg hg3
    obtain ⟨ad, rfl, hbl, d0, d1⟩ := prsR_at hsi hk
    have hblk := HB2'.out ad rfl
    have fz : W4.frozen? (ad.add (r * 2)) = false := by
     have hb' : ((ad.add (r * 2)) : Addr).block = ad.block := by first | rfl | exact block_of_add _ _ | (show (Addr.add _ _).block = _; exact block_of_add _ _)
     obtain ⟨-, cs', t', hh⟩ := hblk
     rw [← hb'] at hh
     unfold World.frozen?
     rw [hh]
     rfl
    have hlo' : W.heap.size ≤ ((ad.add (r * 2)) : Addr).block := by
     have hb' : ((ad.add (r * 2)) : Addr).block = ad.block := by first | rfl | exact block_of_add _ _ | (show (Addr.add _ _).block = _; exact block_of_add _ _)
     rw [hb']
     exact hblk.1
    have hhi' : ((ad.add (r * 2)) : Addr).block < X := by
     have hb' : ((ad.add (r * 2)) : Addr).block = ad.block := by first | rfl | exact block_of_add _ _ | (show (Addr.add _ _).block = _; exact block_of_add _ _)
     rw [hb']
     exact HLT2.out ad rfl
    have HEND := Lib.hid (HBEND.out W4.drew (ad.add (r * 2)) (.int .i32 k.1) (.int .i32 a4) (below_drew (Below.refl _ _)) d0 (.inr ⟨_, _, _, rfl, rfl⟩) hlo' hhi')
    clear hk hr hRx  hblk hlo' hhi'
    go_upto_region 13 with fail
    refine wp_region_E (S := fun W' : World => W'.cell? ⟨X, 1, none⟩ = some (.slice (some ad) n2 e2) ∧ W'.cell? (ad.add (r * 2)) = some (.int .i32 k.1)) (L := 10) (by kernel_rfl) ?_
    have hS1 : (fun W' : World => W'.cell? ⟨X, 1, none⟩ = some (.slice (some ad) n2 e2) ∧ W'.cell? (ad.add (r * 2)) = some (.int .i32 k.1)) W4.drew := ⟨x1, d0⟩
    iterate 8 (refine wpE rfl rfl ?_; try simp only [Act.put, g1, g2, g3, g4, g5, g6])
    refine wpAnyE_one (i := 8) (by kernel_rfl) rfl (fun K hK => ?_)
    simp only [g4, g5, g6]
    go_simp
    refine hK.out _ _ (fun _ => hS1) (fun _ => ?_)
    try simp only [Act.put, g1, g2, g3, g4, g5, g6]
    iterate 1 (refine wpE rfl rfl ?_; try simp only [Act.put, g1, g2, g3, g4, g5, g6])
    refine wpAnyE_one (i := 10) (by kernel_rfl) rfl (fun K hK => ?_)
    simp only [g4, g5, g6]
    go_simp
    refine hK.out _ _ (fun h => absurd rfl h) (fun _ => ?_)
    refine wpAnyE_done (by kernel_rfl) ?_ _
    go_wp2
    go_meet
    exact HEND
   ·have hn' : ¬ (0 : Int) < (n2 : Int) := by omega
    clear hn
    go_wp2
    go_meet
    exact HBASE
  ·have ht' : a2.tmod 6 = 4 := by omega
   clear ht h6
   by_cases hn : 0 < n1
   ·have hn' : (0 : Int) < (n1 : Int) := by omega
    obtain ⟨r, hr⟩ : ∃ r : Nat, a3 % (n1 : Int) = (r : Int) := ⟨(a3 % (n1 : Int)).toNat, by have := Int.emod_nonneg a3 (show (n1 : Int) ≠ 0 by omega); omega⟩
    have r1 : (r : Int) < (n1 : Int) := by rw [← hr]; exact Int.emod_lt_of_pos a3 (by omega)
    have r0 : (0 : Int) ≤ (r : Int) := by omega
    have s6 : ¬ n1 = 0 := by omega
    have s8 : ¬ (n1 : Int) = 0 := by omega
    have s7 : a3.tmod (n1 : Int) = (r : Int) := by rw [Int.tmod_eq_emod_of_nonneg h3.1]; exact hr
    have hRx := HRX.out
    obtain ⟨k, hk⟩ : ∃ k, x.cls[r]? = some k := ⟨_, List.getElem?_eq_getElem (by have := HNN.out.1; omega)⟩
    obtain ⟨ad, cx, A, cc, hv, hbl, d0, d1, hpr, -⟩ := clsR_at hRx.1 hk
    injection hv with hv hv2 hv3
    clear hv2
    subst hv hv3
    obtain ⟨Ap, cp, hg, hsi⟩ := hpr
    injection hg with hg hg2 hg3
    clear hg2
    subst hg hg3
    have hne := HNE.out k (List.mem_of_getElem? hk)
    obtain ⟨rg, hrg⟩ : ∃ rg, k.rs[0]? = some rg := ⟨_, List.getElem?_eq_getElem (by cases hq : k.rs with | nil => exact absurd hq hne | cons => simp)⟩
    have hrl : 0 < k.rs.length := (List.getElem?_eq_some_iff.1 hrg).1
    obtain ⟨rd, rfl, -, -, y1⟩ := prsR_at hsi hrg
    obtain ⟨nr, hnr⟩ : ∃ nr, nr = k.rs.length := ⟨_, rfl⟩
    rw [← hnr] at d1 hrl
    obtain ⟨hblk, hlt⟩ := HLOW.out ad rfl r k hk rd nr cc d1
    have t0 : (0 : Int) < (nr : Int) := by omega
    clear hnr
    have y1' : W4.cell? ⟨rd.block, rd.off + 1, none⟩ = some (.int .i32 rg.2) := by rw [Nat.zero_mul, Addr.add_zero'] at y1; exact y1
    have fz : W4.frozen? ⟨rd.block, rd.off + 1, none⟩ = false := by
     have hb' : (⟨rd.block, rd.off + 1, none⟩ : Addr).block = rd.block := by first | rfl | exact block_of_add _ _ | (show (Addr.add _ _).block = _; exact block_of_add _ _)
     obtain ⟨-, cs', t', hh⟩ := hblk
     rw [← hb'] at hh
     unfold World.frozen?
     rw [hh]
     rfl
    have hlo' : W.heap.size ≤ (⟨rd.block, rd.off + 1, none⟩ : Addr).block := by
     have hb' : (⟨rd.block, rd.off + 1, none⟩ : Addr).block = rd.block := by first | rfl | exact block_of_add _ _ | (show (Addr.add _ _).block = _; exact block_of_add _ _)
     rw [hb']
     exact hblk.1
    have hhi' : (⟨rd.block, rd.off + 1, none⟩ : Addr).block < X := by
     have hb' : (⟨rd.block, rd.off + 1, none⟩ : Addr).block = rd.block := by first | rfl | exact block_of_add _ _ | (show (Addr.add _ _).block = _; exact block_of_add _ _)
     rw [hb']
     exact hlt
    have HEND := Lib.hid (HBEND.out W4.drew ⟨rd.block, rd.off + 1, none⟩ (.int .i32 rg.2) (.int .i32 a4) (below_drew (Below.refl _ _)) y1' (.inr ⟨_, _, _, rfl, rfl⟩) hlo' hhi')
    clear hk hr hRx  hblk hlo' hhi'
    go_upto_region 15 with fail
    refine wp_region_E (S := fun W' : World => W'.cell? ⟨X, 0, none⟩ = some (.slice (some ad) n1 e1) ∧ W'.cell? ⟨rd.block, rd.off + 1, none⟩ = some (.int .i32 rg.2) ∧ W'.cell? ⟨(ad.add (r * 2)).block, (ad.add (r * 2)).off + 1, none⟩ = some (.slice (some rd) nr cc)) (L := 13) (by kernel_rfl) ?_
    have hS1 : (fun W' : World => W'.cell? ⟨X, 0, none⟩ = some (.slice (some ad) n1 e1) ∧ W'.cell? ⟨rd.block, rd.off + 1, none⟩ = some (.int .i32 rg.2) ∧ W'.cell? ⟨(ad.add (r * 2)).block, (ad.add (r * 2)).off + 1, none⟩ = some (.slice (some rd) nr cc)) W4.drew := ⟨x0, y1', d1⟩
    iterate 11 (refine wpE rfl rfl ?_; try simp only [Act.put, g1, g2, g3, g4, g5, g6])
    refine wpAnyE_one (i := 11) (by kernel_rfl) rfl (fun K hK => ?_)
    simp only [g4, g5, g6]
    go_simp
    refine hK.out _ _ (fun _ => hS1) (fun _ => ?_)
    try simp only [Act.put, g1, g2, g3, g4, g5, g6]
    iterate 1 (refine wpE rfl rfl ?_; try simp only [Act.put, g1, g2, g3, g4, g5, g6])
    refine wpAnyE_one (i := 13) (by kernel_rfl) rfl (fun K hK => ?_)
    simp only [g4, g5, g6]
    go_simp
    refine hK.out _ _ (fun h => absurd rfl h) (fun _ => ?_)
    refine wpAnyE_done (by kernel_rfl) ?_ _
    go_wp2
    go_meet
    exact HEND
   ·have hn' : ¬ (0 : Int) < (n1 : Int) := by omega
    clear hn
    go_wp2
    go_meet
    exact HBASE
  ·have ht' : a2.tmod 6 = 5 := by omega
   clear ht h6
   go_wp2
   go_meet
   exact HBASE
 case rest =>
  generalize wc = wD at *
  obtain ⟨l', hZ, hR, hS', hbD⟩ := hcut.out
  have HP2 : Hid (∀ u, Below wD.heap.size wD u → Calls Tryz.prog 14 #[.agg #[.slice B1 n1 e1, .slice B2 n2 e2, .slice B3 n3 e3, .slice B4 n4 e4]] u fun e w' => e = .returned (.bool true) ∧ Below u.heap.size u w') := Lib.hid (fun u hu => prints_any u X _ _ _ _ l' (hR.on hu (Nat.le_trans (Nat.le_of_lt hZ.lt) (Nat.le_refl _))) (Nat.le_trans (Nat.le_of_lt hZ.lt) hu.size) (hGW.out.next (hbD.trans (hu.mono hbD.size))) hS'.fc hS'.fu hS'.fl hS'.fo hS'.n1 hS'.n2)
  have hpr := prints_any wD S _ _ _ _ l (HLL.out.on hbD HSW.out) (Nat.le_trans HSW.out hbD.size) (hGW.out.next hbD) HSL.out.fc HSL.out.fu HSL.out.fl HSL.out.fo HSL.out.n1 HSL.out.n2
  obtain ⟨q0, q1, q2, q3⟩ := (HC.out wD hbD).cells
  have HZD : Hid (∀ u, Below wD.heap.size wD u → u.cell? ⟨X, 0, none⟩ = some (.slice B1 n1 e1) ∧ u.cell? ⟨X, 1, none⟩ = some (.slice B2 n2 e2) ∧ u.cell? ⟨X, 2, none⟩ = some (.slice B3 n3 e3) ∧ u.cell? ⟨X, 3, none⟩ = some (.slice B4 n4 e4)) := Lib.hid (fun u hu => LocZ.cells ((hu.block _ hZ.lt).trans hZ))
  have HBD := Lib.hid hbD
  clear hcut hZ hR hS' hbD
  go_wp2_with fail
  with_reducible refine hpr.mono ?_
  rintro e u5 ⟨rfl, hb5⟩
  have HB5 := Lib.hid hb5
  clear hpr hb5 q0 q1 q2 q3
  have hcu := HP2.out u5 HB5.out
  obtain ⟨k0, k1, k2, k3⟩ := HZD.out u5 HB5.out
  go_wp2_with fail
  with_reducible refine hcu.mono ?_
  rintro e u6 ⟨rfl, hb6⟩
  have HE := Lib.hid (HBW.out.trans ((HBD.out.trans ((HB5.out.trans (hb6.mono HB5.out.size)).mono HBD.out.size)).mono HSW.out))
  clear hcu hb6 k0 k1 k2 k3
  go_wp2
  go_ret
  exact ⟨rfl, HE.out⟩
end Go.Proofs.YthaibekbefndlaaGreatDoor.C
