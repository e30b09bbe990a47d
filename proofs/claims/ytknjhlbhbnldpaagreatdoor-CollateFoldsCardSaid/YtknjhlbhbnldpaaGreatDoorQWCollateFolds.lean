/-
  The law CollateFolds answers true: what counts as one with a cell has it in it, rising, each once; of letters both. Condition: the choices are a row of bytes, the others a byte and a cell; what is asked of the listed variables.
-/
import Derived.Test.YtknjhlbhbnldpaaGreatDoorQKoX
namespace Go.Proofs.YtknjhlbhbnldpaaGreatDoor.C
open Go.RowKit

theorem plain_folds : ∀ i : Nat, i < 26 → foldL plainLoc (97 + (i : Int)) = [65 + (i : Int), 97 + (i : Int)] ∧ foldL plainLoc (65 + (i : Int)) = [65 + (i : Int), 97 + (i : Int)] := by decide +kernel
theorem fold_mem (L : Loc) (c : Int) : c ∈ foldL L c := by unfold foldL; rw [rise_mem]; simp
theorem fold_up (L : Loc) (c : Int) : (foldL L c).Pairwise (· < ·) := rise_up _
theorem fold_len (L : Loc) (c : Int) : (foldL L c).length ≤ 5 := rise_len _
theorem ri_two (w : World) (c d : Int) : RI .i32 (w.alloc (.cells #[.int .i32 c, .int .i32 d] 23)) (w.heap.size + 1) (some ⟨w.heap.size, 0, none⟩) 2 [c, d] := RI.new w .i32 [c, d] _
set_option maxRecDepth 100000 in
set_option maxHeartbeats 8000000 in
theorem collateFoldsWalk (a0 : Option Addr) (len0 cap0 : Nat) (z0 : List Int) (a1 a2 : Int) (w : World) (hG : Gm w) (w0 : L.IsRow .u8 w a0 len0 cap0 z0) (w1 : (Lit.int .u8 a1).wf = true) (_w2 : (Lit.int .i32 a2).wf = true) :
  Calls Tryz.prog 3 #[.slice a0 len0 cap0, .int .u8 a1, .int .i32 a2] w fun e w' => e = .returned (.bool true) ∧ Below w.heap.size w w' := by
 have ha1 := byte_in w1
 have hby : Byt (z0.take len0) := row_u8 w0
 have hln := row_len w0
 have hlo := locale_any w w.heap.size a0 len0 cap0 _ (RI.of_row w0) (Nat.le_refl _) hby (by omega)
 obtain ⟨zs, hzs⟩ : ∃ zs, zs = z0.take len0 := ⟨_, rfl⟩
 rw [← hzs] at hlo hby
 obtain ⟨m, hm⟩ : ∃ m : Nat, a1.tmod 26 = (m : Int) := ⟨(a1 % 26).toNat, by rw [Int.tmod_eq_emod_of_nonneg ha1.1]; omega⟩
 have hm26 : m < 26 := by rw [Int.tmod_eq_emod_of_nonneg ha1.1] at hm; omega
 have HG := Lib.hid hG
 have HY := Lib.hid hby
 clear hG w0 hzs hln hby w1 ha1
 go_enter Tryz.func3, Tryz.ntmps3
 go_wp2_with fail
 refine hlo.mono ?_
 rintro e w1 ⟨v1, v2, v3, v4, rfl, hL, hb1⟩
 have HB1 := Lib.hid hb1
 have hn := new_yes w1 w1.heap.size v1 v2 v3 v4 (genL zs) (genL_locR HY.out hL) (Nat.le_refl _) (HG.out.next hb1) (genL_right HY.out) (genL_new zs HY.out)
 clear hlo hL hb1
 go_wp2_with fail
 refine hn.mono ?_
 rintro e w2 ⟨T, rfl, hT, ht, hb2, -⟩
 have HT : Hid (w.heap.size ≤ T) := Lib.hid (Nat.le_trans HB1.out.size hT)
 have HB2 := Lib.hid (HB1.out.trans (hb2.mono HB1.out.size))
 have HT2 := Lib.hid ht
 have hp := plain_any w2
 clear hn ht hb2 hT
 go_wp2_with fail
 refine hp.mono ?_
 rintro e w3 ⟨u1, u2, u3, u4, rfl, hL, hb3⟩
 have HB3 := Lib.hid (HB2.out.trans (hb3.mono HB2.out.size))
 have HT3 := Lib.hid (HT2.out.keep hb3)
 have hn := new_yes w3 w3.heap.size u1 u2 u3 u4 plainLoc (LocR.of hL plain_cls plain_ord) (Nat.le_refl _) (HG.out.next HB3.out) plain_right plain_new
 clear hp hL hb3
 go_wp2_with fail
 refine hn.mono ?_
 rintro e w4 ⟨U, rfl, hU, -, hb4, htu⟩
 have HU : Hid (w.heap.size ≤ U) := Lib.hid (Nat.le_trans HB3.out.size hU)
 have HTU : Hid (T < U) := Lib.hid (by have := HT3.out.lt; omega)
 have HTURN := Lib.hid (fun W hf => htu T W HT3.out.lt hf)
 have HB4 := Lib.hid (HB3.out.trans (hb4.mono HB3.out.size))
 have hfo := fold_any w4 T (genL zs) 0 a2 (HT3.out.keep hb4) (by omega) (by omega) (genL_right HY.out)
 have HT4l : Hid (T < w4.heap.size) := Lib.hid (by have := HT3.out.lt; have := hb4.size; omega)
 clear hn htu hb4 hU
 go_wp2_with fail
 refine hfo.mono ?_
 rintro e w5 ⟨v, rfl, hown, ht, hf⟩
 obtain ⟨xs, hxs⟩ : ∃ xs, xs = foldL (genL zs) a2 := ⟨_, rfl⟩
 rw [← hxs] at hown
 have hmem : a2 ∈ xs := by rw [hxs]; exact fold_mem _ _
 have hup : xs.Pairwise (· < ·) := by rw [hxs]; exact fold_up _ _
 have hle : xs.length ≤ 5 := by rw [hxs]; exact fold_len _ _
 obtain ⟨A5, c5, rfl⟩ : ∃ A cc, v = .slice A xs.length cc := row_form hown
 have HR5 := Lib.hid (RI.of_own (zs := xs) hown)
 have HU5 := Lib.hid (HTURN.out w5 hf)
 have HB5 := Lib.hid (Fr.past HB4.out hf HT.out)
 have HUP := Lib.hid hup
 have HMEM := Lib.hid hmem
 clear hfo hown ht hf hup hmem hxs HTURN
 go_wp2
 go_loopw [10, 11] (fun bv iv wr => ∃ (k : Nat) (b : Bool), k ≤ xs.length ∧ bv = .bool b ∧ iv = .int .i64 k ∧ Hid (b = decide (a2 ∈ xs.take k)) ∧ Hid (∃ q, wr = w5.drewN q)) (fun _ iv _ => xs.length - (intOf iv).toNat)
 case atStart => exact ⟨0, false, Nat.zero_le _, rfl, rfl, Lib.hid (by simp), Lib.hid ⟨0, rfl⟩⟩
 case round =>
  obtain ⟨k, b, hk, rfl, rfl, HBV, HW⟩ := hrel
  obtain ⟨q, rfl⟩ := HW.out
  clear HW
  by_cases hlt : k < xs.length
  ·obtain ⟨x, hx⟩ : ∃ x, xs[k]? = some x := ⟨_, List.getElem?_eq_getElem hlt⟩
   obtain ⟨ad, rfl, hbl, hcs⟩ := HR5.out.2 (by omega)
   have c0 : (w5.drewN q).cell? (ad.add k) = some (.int .i32 x) := hcs k x hx
   have HX := Lib.hid hx
   have i0 : (0 : Int) ≤ (k : Int) := by omega
   have i1 : (k : Int) < (xs.length : Int) := by omega
   have HBN : Hid ((b || decide (x = a2)) = decide (a2 ∈ xs.take (k + 1))) := Lib.hid (by
    rw [HBV.out, take_one hx]
    simp only [List.mem_append, List.mem_singleton]
    by_cases h1 : a2 ∈ xs.take k <;> by_cases h2 : x = a2
    ·simp [h1]
    ·simp [h1]
    ·simp [h2]
    ·have h3 : ¬ a2 = x := fun h => h2 h.symm
     simp [h1, h2, h3])
   by_cases hk0 : k = 0
   ·have i2 : ¬ (0 : Int) < ((0 : Nat) : Int) := by omega
    have hb : b = false := by rw [HBV.out, hk0]; simp
    subst hb hk0
    rw [Addr.add_zero'] at c0
    rw [Bool.false_or] at HBN
    clear hx hcs hbl
    by_cases e : x = a2
    ·have e1 : (x == a2) = true := by simpa using e
     rw [decide_eq_true e] at HBN
     go_wp2
     refine wp_region_held (S := fun _ : World => True) (by kernel_rfl) ?_
     change wpAnyH _ _ _ _ _ _ _ _ (w5.drewN q).drew
     have hS1 : (fun _ : World => True) (w5.drewN q).drew := trivial
     iterate 3 (refine wpH rfl rfl ?_; try simp only [Act.put, g1, g2, g3, g4, g5, g6])
     iterate 10 (refine wpHs rfl rfl rfl ?_; try simp only [Act.put, g1, g2, g3, g4, g5, g6])
     iterate 1 (refine wpH rfl rfl ?_; try simp only [Act.put, g1, g2, g3, g4, g5, g6])
     refine wpAnyH_done (by kernel_rfl) ?_ _
     clear hS1
     go_wp2
     go_roundw
     case rel => exact ⟨0 + 1, _, by omega, rfl, by go_num, HBN, Lib.hid ⟨q + 1, rfl⟩⟩
     case measure => simp [intOf]; omega
    ·have e1 : (x == a2) = false := by simpa using e
     rw [decide_eq_false e] at HBN
     go_wp2
     refine wp_region_held (S := fun _ : World => True) (by kernel_rfl) ?_
     change wpAnyH _ _ _ _ _ _ _ _ (w5.drewN q).drew
     have hS1 : (fun _ : World => True) (w5.drewN q).drew := trivial
     iterate 3 (refine wpH rfl rfl ?_; try simp only [Act.put, g1, g2, g3, g4, g5, g6])
     iterate 10 (refine wpHs rfl rfl rfl ?_; try simp only [Act.put, g1, g2, g3, g4, g5, g6])
     iterate 1 (refine wpH rfl rfl ?_; try simp only [Act.put, g1, g2, g3, g4, g5, g6])
     refine wpAnyH_done (by kernel_rfl) ?_ _
     clear hS1
     go_wp2
     go_roundw
     case rel => exact ⟨0 + 1, _, by omega, rfl, by go_num, HBN, Lib.hid ⟨q + 1, rfl⟩⟩
     case measure => simp [intOf]; omega
   ·obtain ⟨j, hj⟩ : ∃ j, k = j + 1 := ⟨k - 1, by omega⟩
    obtain ⟨y, hy⟩ : ∃ y, xs[j]? = some y := ⟨_, List.getElem?_eq_getElem (by omega)⟩
    have c1 : (w5.drewN q).cell? (ad.add j) = some (.int .i32 y) := hcs j y hy
    have hyx : ¬ x ≤ y := by
     have := (List.pairwise_iff_getElem.1 HUP.out) j k (List.getElem?_eq_some_iff.1 hy).1 hlt (by omega)
     rw [(List.getElem?_eq_some_iff.1 hy).2, (List.getElem?_eq_some_iff.1 hx).2] at this
     omega
    have i2 : 0 < k := by omega
    have e3 : decide (x ≤ y) = false := decide_eq_false hyx
    have wj : IntKind.i64.wrap ((k : Int) - 1) = (j : Int) := by rw [IntKind.wrap_i64]; omega
    have i3 : (0 : Int) ≤ (j : Int) := by omega
    have i4 : (j : Int) < (xs.length : Int) := by omega
    have HJ := Lib.hid hj
    clear hx hy hcs hbl hj
    cases b with
    | true =>
     rw [Bool.true_or] at HBN
     go_wp2
     refine wp_region_held (S := fun W' : World => W'.cell? (ad.add k) = some (.int .i32 x) ∧ W'.cell? (ad.add j) = some (.int .i32 y)) (by kernel_rfl) ?_
     change wpAnyH _ _ _ _ _ _ _ _ (w5.drewN q).drew
     have hS1 : (fun W' : World => W'.cell? (ad.add k) = some (.int .i32 x) ∧ W'.cell? (ad.add j) = some (.int .i32 y)) (w5.drewN q).drew := ⟨c0, c1⟩
     refine wpH rfl rfl ?_; try simp only [Act.put, g1, g2, g3, g4, g6]
     refine wpHn 1 (v := .bool true) rfl ?_; try simp only [Act.put, g1, g2, g3, g4, g5, g6]
     iterate 12 (refine wpH rfl rfl ?_; try simp only [Act.put, g1, g2, g3, g4, g5, g6])
     refine wpAnyH_done (by kernel_rfl) ?_ _
     clear hS1
     go_wp2
     go_roundw
     case rel => exact ⟨k + 1, _, by omega, rfl, by go_num, HBN, Lib.hid ⟨q + 1, rfl⟩⟩
     case measure => simp [intOf]; omega
    | false =>
     rw [Bool.false_or] at HBN
     by_cases e : x = a2
     ·have e1 : (x == a2) = true := by simpa using e
      rw [decide_eq_true e] at HBN
      go_wp2
      refine wp_region_held (S := fun W' : World => W'.cell? (ad.add k) = some (.int .i32 x) ∧ W'.cell? (ad.add j) = some (.int .i32 y)) (by kernel_rfl) ?_
      change wpAnyH _ _ _ _ _ _ _ _ (w5.drewN q).drew
      have hS1 : (fun W' : World => W'.cell? (ad.add k) = some (.int .i32 x) ∧ W'.cell? (ad.add j) = some (.int .i32 y)) (w5.drewN q).drew := ⟨c0, c1⟩
      refine wpH rfl rfl ?_; try simp only [Act.put, g1, g2, g3, g4, g6]
      refine wpHn 1 (v := .bool true) rfl ?_; try simp only [Act.put, g1, g2, g3, g4, g5, g6]
      iterate 12 (refine wpH rfl rfl ?_; try simp only [Act.put, g1, g2, g3, g4, g5, g6])
      refine wpAnyH_done (by kernel_rfl) ?_ _
      clear hS1
      go_wp2
      go_roundw
      case rel => exact ⟨k + 1, _, by omega, rfl, by go_num, HBN, Lib.hid ⟨q + 1, rfl⟩⟩
      case measure => simp [intOf]; omega
     ·have e1 : (x == a2) = false := by simpa using e
      rw [decide_eq_false e] at HBN
      go_wp2
      refine wp_region_held (S := fun W' : World => W'.cell? (ad.add k) = some (.int .i32 x) ∧ W'.cell? (ad.add j) = some (.int .i32 y)) (by kernel_rfl) ?_
      change wpAnyH _ _ _ _ _ _ _ _ (w5.drewN q).drew
      have hS1 : (fun W' : World => W'.cell? (ad.add k) = some (.int .i32 x) ∧ W'.cell? (ad.add j) = some (.int .i32 y)) (w5.drewN q).drew := ⟨c0, c1⟩
      refine wpH rfl rfl ?_; try simp only [Act.put, g1, g2, g3, g4, g6]
      refine wpHn 1 (v := .bool true) rfl ?_; try simp only [Act.put, g1, g2, g3, g4, g5, g6]
      iterate 12 (refine wpH rfl rfl ?_; try simp only [Act.put, g1, g2, g3, g4, g5, g6])
      refine wpAnyH_done (by kernel_rfl) ?_ _
      clear hS1
      go_wp2
      go_roundw
      case rel => exact ⟨k + 1, _, by omega, rfl, by go_num, HBN, Lib.hid ⟨q + 1, rfl⟩⟩
      case measure => simp [intOf]; omega
  ·obtain rfl : k = xs.length := by omega
   have hb : b = true := by rw [HBV.out, List.take_length]; exact decide_eq_true HMEM.out
   subst hb
   obtain ⟨pl1, pl2⟩ := plain_folds m hm26
   have HT5 : Hid (TabAt (w5.drewN q) U plainLoc 0) := Lib.hid (HU5.out.keep (below_drewN (Below.refl _ _) q))
   have HB6 : Hid (Below w.heap.size w (w5.drewN q)) := Lib.hid (below_drewN HB5.out q)
   obtain ⟨W5, hW5⟩ : ∃ W5, W5 = w5.drewN q := ⟨_, rfl⟩
   rw [← hW5] at HT5 HB6 ⊢
   have hfa := fold_any W5 U plainLoc 0 (97 + (m : Int)) HT5.out (by omega) (by omega) plain_right
   rw [pl1] at hfa
   have wm : IntKind.u8.wrap (m : Int) = (m : Int) := by rw [IntKind.wrap_u8]; omega
   have wa : IntKind.u8.wrap (97 + (m : Int)) = 97 + (m : Int) := by rw [IntKind.wrap_u8]; omega
   have wb : IntKind.i32.wrap (97 + (m : Int)) = 97 + (m : Int) := by rw [IntKind.wrap_i32]; omega
   have wc : IntKind.i32.wrap (97 + (m : Int) - 32) = 65 + (m : Int) := by rw [IntKind.wrap_i32]; omega
   clear hW5 pl1 HMEM HBV
   go_wp2_with fail
   refine hfa.mono ?_
   rintro e w6 ⟨v, rfl, hown, ht, hf⟩
   obtain ⟨A6, c6, rfl⟩ : ∃ A cc, v = .slice A 2 cc := row_form hown
   have HR6 := Lib.hid (RI.of_own (zs := [65 + (m : Int), 97 + (m : Int)]) hown)
   have HNE : Hid (0 < 2 → ∀ ad, A6 = some ad → ad.block ≠ U) := Lib.hid (own_apart hown HT5.out.lt)
   have HB7 := Lib.hid (Fr.past HB6.out hf HU.out)
   have hfb := fold_any w6 U plainLoc 1 (65 + (m : Int)) ht (by omega) (by omega) plain_right
   rw [pl2] at hfb
   clear hfa hown ht hf pl2
   go_wp2_with fail
   refine hfb.mono ?_
   rintro e w7 ⟨v, rfl, hown, ht, hf⟩
   obtain ⟨A7, c7, rfl⟩ : ∃ A cc, v = .slice A 2 cc := row_form hown
   have HR7 := Lib.hid (RI.of_own (zs := [65 + (m : Int), 97 + (m : Int)]) hown)
   have HR67 := Lib.hid (HR6.out.fr hf (Nat.le_refl _) HNE.out)
   have HS67 := Lib.hid hf.size
   have HB8 := Lib.hid (Fr.past HB7.out hf HU.out)
   have hkn := known08_any w7 (HG.out.next HB8.out)
   clear hfb hown ht hf HR6 HNE
   go_wp2_with fail
   refine hkn.mono ?_
   rintro e w8 ⟨rfl, hb8⟩
   have HB9 := Lib.hid (HB8.out.trans (hb8.mono HB8.out.size))
   have HR8a := Lib.hid (HR67.out.on hb8 HS67.out)
   have HR8b := Lib.hid (HR7.out.on hb8 (Nat.le_refl _))
   have HS8 := Lib.hid hb8.size
   obtain ⟨w9, hw9⟩ : ∃ w9, w9 = w8.alloc (.cells #[.int .i32 (65 + (m : Int)), .int .i32 (97 + (m : Int))] 23) := ⟨_, rfl⟩
   have hb9 : Below w8.heap.size w8 w9 := by rw [hw9]; exact (Below.refl _ _).alloc (Nat.le_refl _) _
   have hr9 : RI .i32 w9 (w8.heap.size + 1) (some ⟨w8.heap.size, 0, none⟩) 2 [65 + (m : Int), 97 + (m : Int)] := by rw [hw9]; exact ri_two w8 _ _
   have hsa := same_yes w9 _ _ A6 (some ⟨w8.heap.size, 0, none⟩) 2 c6 2 2 _ _ rfl (HR8a.out.on hb9 (by have := HS67.out; have := HS8.out; omega)) hr9 (by decide) (by decide)
   have hsb := fun q => same_yes (w9.drewN q) _ _ A7 A6 2 c7 2 c6 _ _ rfl (HR8b.out.on (below_drewN hb9 q) HS8.out) (HR8a.out.on (below_drewN hb9 q) (by have := HS67.out; have := HS8.out; omega)) (by decide) (by decide)
   have HB10 := Lib.hid (HB9.out.trans (hb9.mono HB9.out.size))
   have i5 : (xs.length : Int) ≤ 5 := by omega
   clear hkn hb8 hb9 hr9
   go_wp2_with fail
   rw [← hw9]
   clear hw9
   refine hsa.mono ?_
   rintro e w10 ⟨rfl, q1, rfl⟩
   have hsc := hsb q1
   clear hsa hsb
   go_wp2_with fail
   refine hsc.mono ?_
   rintro e w11 ⟨rfl, q2, rfl⟩
   clear hsc
   go_wp2
   go_ret
   exact ⟨rfl, below_drewN HB10.out _⟩
end Go.Proofs.YtknjhlbhbnldpaaGreatDoor.C
