/-
  TreeRights: whether any tree, and one of choices that is bent in one place, may be, and Print of it, is what the chapter says. Condition: what the listed variables hold.
-/
import Derived.Test.YtcpjcepeiplfgaaDoorTeN
import Derived.Test.YtcpjcepeiplfgaaDoorTdA
import Derived.Test.YtcpjcepeiplfgaaDoorTaE
namespace Go.Proofs.YtcpjcepeiplfgaaDoor.C
open Go.RowKit

set_option maxRecDepth 100000 in
set_option maxHeartbeats 8000000 in
theorem treeRightsWalk (A : Option Addr) (c : Nat) (ns : List Nd) (xs : List (List Value)) (g : Int) (a1 : Option Addr) (len1 cap1 : Nat) (z1 : List Int) (a2 a3 a4 : Int) (w : World) (hG : Gt w) (hN : NdsP w (· < w.heap.size) A ns xs) (hl : ns.length ≤ maxLen) (hf : FewN ns) (w1 : L.IsRow .u8 w a1 len1 cap1 z1) (h2 : (Lit.int .u8 a2).wf = true) (h3 : (Lit.int .u8 a3).wf = true) (h4 : (Lit.int .i32 a4).wf = true) :
    Calls Tryd.prog 5 #[.agg #[.slice A ns.length c, .int .i64 g], .slice a1 len1 cap1, .int .u8 a2, .int .u8 a3, .int .i32 a4] w fun e w' => e = .returned (.bool true) ∧ Below w.heap.size w w' := by
  have hX := RI.of_row w1
  have hZ := row_u8 w1
  have hc1 := row_len w1
  have HG : Hid (∀ w', Below w.heap.size w w' → Gt w') := Lib.hid (fun w' hb => hG.next hb hG.lt)
  obtain ⟨S, hS⟩ : ∃ S, w.heap.size = S := ⟨_, rfl⟩
  rw [hS] at hX hN HG ⊢
  obtain ⟨n, hn⟩ : ∃ n, n = ns.length := ⟨_, rfl⟩
  rw [← hn]
  obtain ⟨W, hW⟩ : ∃ W, W = w.alloc (.cells #[.slice A n c, .int .i64 g] 34) := ⟨_, rfl⟩
  have hb : Below S w W := by rw [hW, ← hS]; exact (Below.refl _ _).alloc (Nat.le_refl _) _
  have hro : Rw W S 34 #[.slice A n c, .int .i64 g] := by rw [hW, ← hS]; exact heap_alloc_new w _
  have hsz : W.heap.size = S + 1 := by rw [hW, ← hS]; simp
  have HB := Lib.hid hb
  have HRO := Lib.hid hro
  have HN := Lib.hid hN
  have HX := Lib.hid hX
  have HL : Hid (n = ns.length ∧ ns.length ≤ maxLen) := Lib.hid ⟨hn, hl⟩
  have HF := Lib.hid hf
  have HSW := Lib.hid hsz
  have HZ : Hid ((∀ z ∈ z1.take len1, 0 ≤ z ∧ z ≤ 255) ∧ len1 ≤ maxLen) := Lib.hid ⟨hZ, by omega⟩
  have ha2 : 0 ≤ a2 ∧ a2 ≤ 255 := by simp [Lit.wf, IntKind.min, IntKind.max, IntKind.bits, IntKind.signed] at h2; omega
  have ha3 : 0 ≤ a3 ∧ a3 ≤ 255 := by simp [Lit.wf, IntKind.min, IntKind.max, IntKind.bits, IntKind.signed] at h3; omega
  have ha4 : -2147483648 ≤ a4 ∧ a4 ≤ 2147483647 := by simp [Lit.wf, IntKind.min, IntKind.max, IntKind.bits, IntKind.signed] at h4; omega
  have HA : Hid ((0 ≤ a2 ∧ a2 ≤ 255) ∧ (0 ≤ a3 ∧ a3 ≤ 255) ∧ -2147483648 ≤ a4 ∧ a4 ≤ 2147483647) := Lib.hid ⟨ha2, ha3, ha4⟩
  have H0 : Hid (Below (S + 1) W W) := Lib.hid (Below.refl _ _)
  clear hf hG w1 h2 h3 h4 hb hro hsz hN hX hZ hc1 hl hn ha2 ha3 ha4
  go_enter Tryd.func5, Tryd.ntmps5
  go_upto_region 1 with fail
  rw [← hW]
  clear hW hS
  go_wp2
  go_loopw [11, 12] (fun mv iv wr => ∃ i : Nat, i ≤ n ∧ iv = .int .i64 i ∧ mv = .int .i64 (IntKind.i64.wrap ((sumM (ns.take i) : Nat) : Int)) ∧ Hid (Below (S + 1) W wr)) (fun _ iv _ => n - (intOf iv).toNat)
  case atStart => exact ⟨0, Nat.zero_le _, rfl, by simp [sumM, IntKind.wrap_i64], H0⟩
  case round =>
    clear H0
    obtain ⟨i, hin, rfl, rfl, HQ⟩ := hrel
    have r1 : Rw wr S 34 #[.slice A n c, .int .i64 g] := HRO.out.on HQ.out (by omega)
    have c0 : wr.cell? ⟨S, 0, none⟩ = some (.slice A n c) := r1.cell (i := 0) rfl
    by_cases hlt : i < n
    · obtain ⟨x, hx⟩ : ∃ x, ns[i]? = some x := ⟨_, List.getElem?_eq_getElem (by have := HL.out; omega)⟩
      obtain ⟨ad, vR, vT, vK, rfl, -, h9, hnd⟩ := (HN.out.keep (below_cells (P := fun b => b < S) (HB.out.trans (HQ.out.mono (by omega))) (fun b hb => hb))).at_ hx
      have d3 := h9.c3
      have d4 := h9.c4
      have d8 := h9.c8
      obtain ⟨⟨AR, cR, rfl, -, -⟩, ⟨AT, cT, us, rfl, -, -, -⟩, ⟨AK, cK, rfl, -, -⟩⟩ := hnd
      obtain ⟨kr, hkr⟩ : ∃ kr, kr = x.rs.length := ⟨_, rfl⟩
      obtain ⟨kt, hkt⟩ : ∃ kt, kt = x.ts.length := ⟨_, rfl⟩
      obtain ⟨kk, hkk⟩ : ∃ kk, kk = x.ks.length := ⟨_, rfl⟩
      rw [← hkr] at d3
      rw [← hkt] at d4
      rw [← hkk] at d8
      have hw4 : sumM (ns.take (i + 1)) = sumM (ns.take i) + (1 + kk + kr + kt) := by rw [hkr, hkt, hkk]; exact sumM_next hx
      have hm47 : kk ≤ 17592186044416 ∧ kr ≤ 17592186044416 ∧ kt ≤ 17592186044416 := by rw [hkr, hkt, hkk]; exact HF.out x (List.mem_of_getElem? hx)
      have wk1 : IntKind.i64.wrap (1 + (kk : Int)) = 1 + (kk : Int) := by rw [IntKind.wrap_i64]; omega
      have wk2 : IntKind.i64.wrap (1 + (kk : Int) + (kr : Int)) = 1 + (kk : Int) + (kr : Int) := by rw [IntKind.wrap_i64]; omega
      have wk3 : IntKind.i64.wrap (1 + (kk : Int) + (kr : Int) + (kt : Int)) = 1 + (kk : Int) + (kr : Int) + (kt : Int) := by rw [IntKind.wrap_i64]; omega
      obtain ⟨M0, hM0⟩ : ∃ M0, M0 = IntKind.i64.wrap ((sumM (ns.take i) : Nat) : Int) := ⟨_, rfl⟩
      obtain ⟨M1, hM1⟩ : ∃ M1, M1 = IntKind.i64.wrap ((sumM (ns.take (i + 1)) : Nat) : Int) := ⟨_, rfl⟩
      have wk4 : IntKind.i64.wrap (M0 + (1 + (kk : Int) + (kr : Int) + (kt : Int))) = M1 := by
        have h := wrap_add (sumM (ns.take i)) (1 + kk + kr + kt)
        rw [← hw4, ← hM0, ← hM1] at h
        rw [show 1 + (kk : Int) + (kr : Int) + (kt : Int) = ((1 + kk + kr + kt : Nat) : Int) from by omega]
        exact h
      have HM1 := Lib.hid hM1
      have wi : IntKind.i64.wrap ((i : Int) + 1) = (i : Int) + 1 := by rw [IntKind.wrap_i64]; have := HL.out; unfold maxLen at this; omega
      have HE : Hid (Below (S + 1) W wr.drew) := Lib.hid (below_drew HQ.out)
      rw [← hM0]
      have hS1 : (fun W' : World => W'.cell? ⟨S, 0, none⟩ = some (.slice (some ad) n c) ∧ W'.cell? ⟨(ad.add (i * 9)).block, (ad.add (i * 9)).off + 3, none⟩ = some (.slice AR kr cR) ∧ W'.cell? ⟨(ad.add (i * 9)).block, (ad.add (i * 9)).off + 4, none⟩ = some (.slice AT kt cT) ∧ W'.cell? ⟨(ad.add (i * 9)).block, (ad.add (i * 9)).off + 8, none⟩ = some (.slice AK kk cK)) wr.drew := ⟨c0, d3, d4, d8⟩
      clear hx h9 hkr hkt hkk hw4 hm47 hM0 hM1 r1
      go_upto_region 5 with fail
      clear c0 d3 d4 d8
      refine wp_region_held (S := (fun W' : World => W'.cell? ⟨S, 0, none⟩ = some (.slice (some ad) n c) ∧ W'.cell? ⟨(ad.add (i * 9)).block, (ad.add (i * 9)).off + 3, none⟩ = some (.slice AR kr cR) ∧ W'.cell? ⟨(ad.add (i * 9)).block, (ad.add (i * 9)).off + 4, none⟩ = some (.slice AT kt cT) ∧ W'.cell? ⟨(ad.add (i * 9)).block, (ad.add (i * 9)).off + 8, none⟩ = some (.slice AK kk cK))) (by kernel_rfl) ?_
      change wpAnyH _ _ _ _ _ _ _ _ wr.drew
      iterate 28 (refine wpH rfl rfl ?_; try simp only [Act.put, g1, g2, g3, g4, g5, g6])
      refine wpAnyH_one (i := 28) (by kernel_rfl) rfl (fun K hK => ?_)
      simp only [g4, g5, g6]
      go_simp
      refine hK.out _ _ hS1 (fun _ => ?_)
      clear hK
      try simp only [Act.put, g1, g2, g3, g4, g5, g6]
      refine wpAnyH_done (by kernel_rfl) ?_ _
      clear hS1
      go_wp2
      go_roundw
      case rel => exact ⟨i + 1, by omega, by go_num, by rw [HM1.out], HE⟩
      case measure => simp [intOf]; omega
    · obtain rfl : i = n := by omega
      have htk : ns.take i = ns := by have h := HL.out.1; rw [h]; exact List.take_length
      obtain ⟨M, hM⟩ : ∃ M, M = IntKind.i64.wrap ((sumM ns : Nat) : Int) := ⟨_, rfl⟩
      rw [htk, ← hM]
      have HM := Lib.hid hM
      have hbS : Below S w wr := HB.out.trans (HQ.out.mono (by omega))
      have hsr : S < wr.heap.size := r1.lt
      have hkn := known_any wr (HG.out _ hbS)
      have HBS := Lib.hid hbS
      have HR1 := Lib.hid r1
      have HSR := Lib.hid hsr
      clear htk hM hbS r1 HQ hsr
      by_cases hm : 60 < M
      · go_wp2_with fail
        refine hkn.mono ?_
        rintro e w9 ⟨rfl, hb9⟩
        have HE : Hid (Below S w w9) := Lib.hid (HBS.out.trans (hb9.mono (Nat.le_of_lt HSR.out)))
        clear hkn hb9 c0
        go_wp2
        go_ret
        exact ⟨rfl, HE.out⟩
      · have HMM : Hid (IntKind.i64.wrap ((sumM ns : Nat) : Int) ≤ 60) := Lib.hid (by rw [← HM.out]; omega)
        go_wp2_with fail
        refine hkn.mono ?_
        rintro e w9 ⟨rfl, hb9⟩
        have HB9 : Hid (Below S w w9) := Lib.hid (HBS.out.trans (hb9.mono (Nat.le_of_lt HSR.out)))
        have HR9 := Lib.hid (HR1.out.on hb9 HSR.out)
        have htree := tree_any w9 S a1 len1 cap1 (z1.take len1) (HX.out.below HB9.out) (Nat.le_of_lt HR9.out.lt) HZ.out.1 HZ.out.2
        have hbe := bent_tree (z1.take len1)
        have hok := treeG_ok (z1.take len1)
        obtain ⟨t, ht⟩ : ∃ t, t = treeG (z1.take len1) := ⟨_, rfl⟩
        rw [← ht] at htree hbe hok
        have HBE := Lib.hid hbe
        have HOK := Lib.hid hok.2
        clear hkn hb9 c0 ht hbe hok hm HX HZ
        go_wp2_with fail
        refine htree.mono ?_
        rintro e w10 ⟨hb10, A2, c2, xs2, rfl, hN10, hap⟩
        clear htree
        obtain ⟨m, hm⟩ : ∃ m, m = t.ns.length := ⟨_, rfl⟩
        rw [← hm]
        have HMT := Lib.hid hm
        clear hm
        obtain ⟨D, hD⟩ : ∃ D, w10.heap.size = D := ⟨_, rfl⟩
        obtain ⟨E, hE⟩ : ∃ E, w9.heap.size = E := ⟨_, rfl⟩
        have hED : S < E ∧ E ≤ D := by have := HR9.out.lt; have := hb10.size; omega
        have hSD : S < D := by omega
        obtain ⟨w11, hw11⟩ : ∃ w11, w11 = w10.alloc (.cells #[.slice A2 m c2, .int .i64 t.g] 34) := ⟨_, rfl⟩
        have hb11 : Below D w10 w11 := by rw [hw11, ← hD]; exact (Below.refl _ _).alloc (Nat.le_refl _) _
        have hr11 : Rw w11 D 34 #[.slice A2 m c2, .int .i64 t.g] := by rw [hw11, ← hD]; exact heap_alloc_new w10 _
        have hs11 : w11.heap.size = D + 1 := by rw [hw11, ← hD]; simp
        have HB11 : Hid (Below S w w11) := Lib.hid ((HB9.out.trans (hb10.mono (Nat.le_of_lt HR9.out.lt))).trans (hb11.mono (Nat.le_of_lt hSD)))
        have hN10' : NdsP w10 (fun b => E ≤ b ∧ b < D) A2 t.ns xs2 := by rw [← hE, ← hD]; exact hN10
        have HN11 : Hid (NdsP w11 (fun b => E ≤ b ∧ b < D) A2 t.ns xs2) := Lib.hid (hN10'.keep (below_cells (P := fun b => E ≤ b ∧ b < D) hb11 (fun b hb => hb.2)))
        have HAW : Hid (AptW w11 A2 c2 xs2) := Lib.hid (hap.keep hN10' (fun b hb => hb11.block b hb.2))
        have HR11 := Lib.hid hr11
        have HD : Hid (S < E ∧ E ≤ D ∧ w11.heap.size = D + 1) := Lib.hid ⟨hED.1, hED.2, hs11⟩
        have c0 : w11.cell? ⟨D, 0, none⟩ = some (.slice A2 m c2) := hr11.cell (i := 0) rfl
        have c1 : w11.cell? ⟨D, 1, none⟩ = some (.int .i64 t.g) := hr11.cell (i := 1) rfl
        have f0 : w11.frozen? ⟨D, 0, none⟩ = false := rw_frozen hr11 0
        have f1 : w11.frozen? ⟨D, 1, none⟩ = false := rw_frozen hr11 1
        have wa3 : IntKind.i64.wrap a3 = a3 := by rw [IntKind.wrap_i64]; have := HA.out; omega
        have hm0 : (m : Int) ≠ 0 := by have := HOK.out; have := HMT.out; omega
        obtain ⟨j, hj⟩ : ∃ j : Nat, a3.tmod (m : Int) = (j : Int) := ⟨(a3.tmod (m : Int)).toNat, by rw [Int.tmod_eq_emod_of_nonneg HA.out.2.1.1]; have := Int.emod_nonneg a3 hm0; omega⟩
        have hjm : j < m := by
          rw [Int.tmod_eq_emod_of_nonneg HA.out.2.1.1] at hj
          have := Int.emod_lt_of_pos a3 (show (0 : Int) < m from by omega)
          omega
        have wj : IntKind.i64.wrap (j : Int) = (j : Int) := by rw [IntKind.wrap_i64]; have := HOK.out; have := HMT.out; omega
        have HRS : Hid (Rw w11 S 34 #[.slice A i c, .int .i64 g]) := Lib.hid ((HR9.out.on hb10 HR9.out.lt).on hb11 hSD)
        clear hb10 hN10 hN10' hED hE hap hb11 hr11 hs11 hSD HB9 HR9
        go_upto_region 9 with fail
        rw [← hw11]
        clear hw11 hD
        obtain ⟨q, hq⟩ : ∃ q, a2.tmod 8 = q := ⟨_, rfl⟩
        have hq8 : 0 ≤ q ∧ q < 8 := by
          rw [Int.tmod_eq_emod_of_nonneg HA.out.1.1] at hq
          omega
        have wq : IntKind.u8.wrap q = q := by rw [IntKind.wrap_u8]; omega
        have HQ8 := Lib.hid hq8
        clear hq8
        go_upto_block 2 with fail
        clear hq
        obtain ⟨x, hx⟩ : ∃ x, t.ns[j]? = some x := ⟨_, List.getElem?_eq_getElem (by have := HMT.out; omega)⟩
        obtain ⟨ad, vR, vT, vK, rfl, hadb, h9, -⟩ := HN11.out.at_ hx
        have z0 := h9.c0
        have z1 := h9.c1
        have z5 := h9.c5
        have z7 := h9.c7
        have fz : ∀ p : Addr, p.block = ad.block → w11.frozen? p = false := fun p hp => by
          have h := HAW.out.2 (by have := HN11.out.1.1; have := HMT.out; omega) ad rfl p.off
          unfold World.frozen? at h ⊢
          rw [hp]
          exact h
        have y0 := fz (ad.add (j * 9)) (block_of_add ..)
        have y1 := fz ⟨(ad.add (j * 9)).block, (ad.add (j * 9)).off + 1, none⟩ (block_of_add ..)
        have y5 := fz ⟨(ad.add (j * 9)).block, (ad.add (j * 9)).off + 5, none⟩ (block_of_add ..)
        have y7 := fz ⟨(ad.add (j * 9)).block, (ad.add (j * 9)).off + 7, none⟩ (block_of_add ..)
        have hmc : m ≤ c2 := by have := HAW.out.1.2; have := HN11.out.1.1; have := HMT.out; omega
        have wa4 : IntKind.i64.wrap a4 = a4 := by rw [IntKind.wrap_i64]; have := HA.out; omega
        have HADB := Lib.hid hadb
        have HXX := Lib.hid hx
        have hr11' : Rw w11 D 34 #[.slice (some ad) t.ns.length c2, .int .i64 t.g] := by rw [← HMT.out]; exact HR11.out
        have HNO : Hid (BentAt E D w11 w11) := Lib.hid (bend_no HN11.out HBE.out hr11')
        have HC0 : Hid (BentAt E D w11 (w11.setCell (ad.add (j * 9)) (.int .u8 (a4 % 256)))) := Lib.hid (bend_cell HN11.out HAW.out.1.1 HBE.out hr11' hadb hx (x' := { x with k := a4 % 256 }) (f := 0) (fun _ _ _ => rfl) ⟨rfl, rfl, rfl⟩ (by omega) rfl)
        have HC1 : Hid (BentAt E D w11 (w11.setCell ⟨(ad.add (j * 9)).block, (ad.add (j * 9)).off + 1, none⟩ (.int .i32 a4))) := Lib.hid (bend_cell HN11.out HAW.out.1.1 HBE.out hr11' hadb hx (x' := { x with c := a4 }) (f := 1) (fun _ _ _ => rfl) ⟨rfl, rfl, rfl⟩ (by omega) (add_more9 _ _ _ (by omega)))
        have HC5 : Hid (BentAt E D w11 (w11.setCell ⟨(ad.add (j * 9)).block, (ad.add (j * 9)).off + 5, none⟩ (.int .i64 a4))) := Lib.hid (bend_cell HN11.out HAW.out.1.1 HBE.out hr11' hadb hx (x' := { x with n := a4 }) (f := 5) (fun _ _ _ => rfl) ⟨rfl, rfl, rfl⟩ (by omega) (add_more9 _ _ _ (by omega)))
        have HC7 : Hid (BentAt E D w11 (w11.setCell ⟨(ad.add (j * 9)).block, (ad.add (j * 9)).off + 7, none⟩ (.int .i64 a4))) := Lib.hid (bend_cell HN11.out HAW.out.1.1 HBE.out hr11' hadb hx (x' := { x with mx := a4 }) (f := 7) (fun _ _ _ => rfl) ⟨rfl, rfl, rfl⟩ (by omega) (add_more9 _ _ _ (by omega)))
        have HCG : Hid (∀ g : Int, BentAt E D w11 (w11.setCell ⟨D, 1, none⟩ (.int .i64 g))) := Lib.hid (fun g => bend_groups HN11.out HBE.out hr11' HD.out.2.1 g)
        have HCT : Hid (BentAt E D w11 (w11.setCell ⟨D, 0, none⟩ (.slice (some ad) j c2))) := Lib.hid (bend_take HN11.out HBE.out hr11' HD.out.2.1 (by have := HMT.out; omega))
        have hjc : j ≤ c2 := by omega
        clear hx hadb h9 fz hr11'
        go_cut [14] (fun jv wx => jv = .int .i64 (j : Int) ∧ Hid (BentAt E D w11 wx))
        case first =>
          have h8 := HQ8.out
          rcases (show q = 0 ∨ q = 1 ∨ q = 2 ∨ q = 3 ∨ q = 4 ∨ q = 5 ∨ 6 ≤ q from by omega) with rfl | rfl | rfl | rfl | rfl | rfl | h6
          · clear h8
            go_wp2
            go_meet
            with_reducible exact ⟨rfl, HC0⟩
          · clear h8
            go_wp2
            go_meet
            with_reducible exact ⟨rfl, HC1⟩
          · clear h8
            go_wp2
            go_meet
            with_reducible exact ⟨rfl, HC5⟩
          · clear h8
            go_wp2
            go_meet
            with_reducible exact ⟨rfl, HC7⟩
          · clear h8
            go_wp2
            go_meet
            with_reducible exact ⟨rfl, Lib.hid (HCG.out _)⟩
          · clear h8
            go_wp2
            go_meet
            with_reducible exact ⟨rfl, HCT⟩
          · have e0 : (q == 0) = false := beq_eq_false_iff_ne.2 (by omega)
            have e1 : (q == 1) = false := beq_eq_false_iff_ne.2 (by omega)
            have e2 : (q == 2) = false := beq_eq_false_iff_ne.2 (by omega)
            have e3 : (q == 3) = false := beq_eq_false_iff_ne.2 (by omega)
            have e4 : (q == 4) = false := beq_eq_false_iff_ne.2 (by omega)
            have e5 : (q == 5) = false := beq_eq_false_iff_ne.2 (by omega)
            clear h8
            go_wp2
            go_meet
            with_reducible exact ⟨rfl, HNO⟩
        case rest =>
          generalize wc = w12 at *
          obtain ⟨rfl, HBT⟩ := hcut
          clear z0 z1 z5 z7 y0 y1 y5 y7 c0 c1 f0 f1 HC0 HC1 HC5 HC7 HCG HCT HNO
          obtain ⟨hbE, A3, c3, t3, xs3, hr12, hN3, hbe3⟩ := HBT.out
          have hs12 : D < w12.heap.size := hr12.lt
          have HB12 : Hid (Below S w w12) := Lib.hid (HB11.out.trans (hbE.mono (Nat.le_of_lt HD.out.1)))
          have hrs := HRS.out.on hbE HD.out.1
          have d0 : w12.cell? ⟨S, 0, none⟩ = some (.slice A i c) := hrs.cell (i := 0) rfl
          have d1 : w12.cell? ⟨S, 1, none⟩ = some (.int .i64 g) := hrs.cell (i := 1) rfl
          obtain ⟨m3, hm3⟩ : ∃ m3, m3 = t3.ns.length := ⟨_, rfl⟩
          rw [← hm3] at hr12
          have HR12 := Lib.hid hr12
          have HN12 := Lib.hid hN3
          have HBE3 := Lib.hid hbe3
          have HM3 := Lib.hid hm3
          have HS12 : Hid (S < D ∧ D < w12.heap.size) := Lib.hid ⟨by have := HD.out; omega, hs12⟩
          have hsum := sum_tells (t := ⟨ns, g⟩) HF.out HMM.out
          have htl := tells_any w12 (fun b => b < S) A c ⟨ns, g⟩ xs (HN.out.keep (below_cells HB12.out fun _ h => h)) (fun b hb => by have := HS12.out; omega) HL.out.2 hsum.1 hsum.2 (HG.out _ HB12.out)
          dsimp only at htl
          rw [← HL.out.1] at htl
          clear hbE hr12 hN3 hbe3 hs12 hrs hm3 hsum HBT
          go_wp2_with fail
          refine htl.mono ?_
          rintro e w13 ⟨rfl, hb13⟩
          have HB13 : Hid (Below S w w13) := Lib.hid (HB12.out.trans (hb13.mono (by have := HS12.out; omega)))
          have hr13 := HR12.out.on hb13 HS12.out.2
          have HS13 : Hid (D < w13.heap.size) := Lib.hid hr13.lt
          have e0 : w13.cell? ⟨D, 0, none⟩ = some (.slice A3 m3 c3) := hr13.cell (i := 0) rfl
          have e1 : w13.cell? ⟨D, 1, none⟩ = some (.int .i64 t3.g) := hr13.cell (i := 1) rfl
          have htl2 := tells_any w13 (fun b => E ≤ b ∧ b < D) A3 c3 t3 xs3 (HN12.out.keep (below_cells (P := fun b => E ≤ b ∧ b < D) hb13 fun b hb => by have := HS12.out; omega)) (fun b hb => by have := HS13.out; omega) (by have := HBE3.out.2.2; unfold maxLen; omega) HBE3.out.tells.1 HBE3.out.tells.2 (HG.out _ HB13.out)
          rw [← HM3.out] at htl2
          clear htl hb13 hr13 d0 d1
          go_wp2_with fail
          refine htl2.mono ?_
          rintro e w14 ⟨rfl, hb14⟩
          have HE : Hid (Below S w w14) := Lib.hid (HB13.out.trans (hb14.mono (by have := HS12.out; have := HS13.out; omega)))
          clear htl2 hb14 e0 e1
          go_wp2
          go_ret
          exact ⟨by first | rfl | simp, HE.out⟩
end Go.Proofs.YtcpjcepeiplfgaaDoor.C
