/-
  The law CollateCounts answers true: a table is told how often it was asked, and answers alike each time. Condition: the choices are a row of bytes, the number one byte; what is asked of the listed variables.
-/
import Derived.Test.YtknjhlbhbnldpaaGreatDoorQKoX
namespace Go.Proofs.YtknjhlbhbnldpaaGreatDoor.C
open Go.RowKit

set_option maxRecDepth 100000 in
set_option maxHeartbeats 8000000 in
theorem collateCountsWalk (a0 : Option Addr) (len0 cap0 : Nat) (z0 : List Int) (a1 : Int) (w : World) (hG : Gm w) (w0 : L.IsRow .u8 w a0 len0 cap0 z0) (w1 : (Lit.int .u8 a1).wf = true) :
  Calls Tryz.prog 7 #[.slice a0 len0 cap0, .int .u8 a1] w fun e w' => e = .returned (.bool true) ∧ Below w.heap.size w w' := by
 have ha1 := byte_in w1
 have hby : Byt (z0.take len0) := row_u8 w0
 have hln := row_len w0
 have hlo := locale_any w w.heap.size a0 len0 cap0 _ (RI.of_row w0) (Nat.le_refl _) hby (by omega)
 obtain ⟨zs, hzs⟩ : ∃ zs, zs = z0.take len0 := ⟨_, rfl⟩
 rw [← hzs] at hlo hby
 obtain ⟨m, hm⟩ : ∃ m : Nat, a1.tmod 50 = (m : Int) := ⟨(a1 % 50).toNat, by rw [Int.tmod_eq_emod_of_nonneg ha1.1]; omega⟩
 have hm50 : m < 50 := by rw [Int.tmod_eq_emod_of_nonneg ha1.1] at hm; omega
 have HG := Lib.hid hG
 have HY := Lib.hid hby
 clear hG w0 hzs hln hby w1 ha1
 go_enter Tryz.func7, Tryz.ntmps7
 go_wp2_with fail
 refine hlo.mono ?_
 rintro e w1 ⟨v1, v2, v3, v4, rfl, hL, hb1⟩
 have HB1 := Lib.hid hb1
 have hn := new_yes w1 w1.heap.size v1 v2 v3 v4 (genL zs) (genL_locR HY.out hL) (Nat.le_refl _) (HG.out.next hb1) (genL_right HY.out) (genL_new zs HY.out)
 clear hlo hL hb1
 go_wp2_with fail
 refine hn.mono ?_
 rintro e w2 ⟨T, rfl, hT, ht, hb2, -⟩
 have HT : Hid (w.heap.size ≤ T) := Lib.hid (Nat.le_trans HB1.out.size hT)
 have HB2 := Lib.hid (HB1.out.trans (hb2.mono HB1.out.size))
 have HT2 := Lib.hid ht
 have hak := asked_any w2 T (genL zs) 0 ht
 clear hn ht hb2 hT
 go_wp2_with fail
 refine hak.mono ?_
 rintro e w3 ⟨rfl, rfl⟩
 clear hak
 go_wp2
 go_loopw [6] (fun iv wr => ∃ k : Nat, k ≤ m ∧ iv = .int .i64 k ∧ Hid (TabAt wr T (genL zs) (2 * (k : Int)) ∧ Below w.heap.size w wr)) (fun iv _ => m - (intOf iv).toNat)
 case atStart => exact ⟨0, Nat.zero_le _, rfl, Lib.hid ⟨HT2.out, HB2.out⟩⟩
 case round =>
  obtain ⟨k, hk, rfl, HQ⟩ := hrel
  have wm : IntKind.u8.wrap (a1.tmod 50) = (m : Int) := by rw [hm, IntKind.wrap_u8]; omega
  have wm2 : IntKind.i64.wrap (m : Int) = (m : Int) := by rw [IntKind.wrap_i64]; omega
  by_cases hlt : k < m
  ·obtain ⟨c, hc⟩ : ∃ c : Int, c = 97 + (k : Int) % 5 := ⟨_, rfl⟩
   have wc0 : (k : Int).tmod 5 = (k : Int) % 5 := Int.tmod_eq_emod_of_nonneg (by omega)
   have wc1 : IntKind.i64.wrap ((k : Int) % 5) = (k : Int) % 5 := by rw [IntKind.wrap_i64]; omega
   have wc2 : IntKind.i64.wrap (97 + (k : Int) % 5) = c := by rw [IntKind.wrap_i64]; omega
   have wc3 : IntKind.i32.wrap c = c := by rw [IntKind.wrap_i32]; omega
   have i1 : (k : Int) < (m : Int) := by omega
   have hfa := fold_any wr T (genL zs) (2 * (k : Int)) c HQ.out.1 (by omega) (by omega) (genL_right HY.out)
   clear hc
   go_wp2_with fail
   refine hfa.mono ?_
   rintro e w4 ⟨v, rfl, hown, ht, hf⟩
   obtain ⟨A4, c4, rfl⟩ : ∃ A cc, v = .slice A (foldL (genL zs) c).length cc := row_form hown
   have HR4 := Lib.hid (RI.of_own (zs := foldL (genL zs) c) hown)
   have HM := Lib.hid (own_len hown)
   have hfb := fold_any w4 T (genL zs) (2 * (k : Int) + 1) c ht (by omega) (by omega) (genL_right HY.out)
   have HB4 := Lib.hid (Fr.past HQ.out.2 hf HT.out)
   have hne : 0 < (foldL (genL zs) c).length → ∀ ad, A4 = some ad → ad.block ≠ T := own_apart hown HQ.out.1.lt
   have HNE := Lib.hid hne
   clear hfa hown ht hf hne
   go_wp2_with fail
   refine hfb.mono ?_
   rintro e w5 ⟨v, rfl, hown, ht, hf⟩
   obtain ⟨A5, c5, rfl⟩ : ∃ A cc, v = .slice A (foldL (genL zs) c).length cc := row_form hown
   have hr5 := RI.of_own (zs := foldL (genL zs) c) hown
   have hr4 := HR4.out.fr hf (Nat.le_refl _) HNE.out
   have hsa := same_yes w5 _ _ A4 A5 _ c4 _ c5 _ _ rfl hr4 hr5 HM.out HM.out
   have HB5 := Lib.hid (Fr.past HB4.out hf HT.out)
   have HT5 := Lib.hid ht
   clear hfb hown ht hf hr5 hr4
   have wk1 : IntKind.i64.wrap (2 * (k : Int)) = 2 * (k : Int) := by rw [IntKind.wrap_i64]; omega
   have wk2 : IntKind.i64.wrap (2 * (k : Int) + 2) = 2 * (k : Int) + 2 := by rw [IntKind.wrap_i64]; omega
   have hq1 : 2 * (k : Int) + 1 + 1 = 2 * (k : Int) + 2 := by omega
   go_wp2_with fail
   refine hsa.mono ?_
   rintro e w6 ⟨rfl, q, rfl⟩
   have HT6 := Lib.hid (HT5.out.keep (below_drewN (Below.refl _ _) q))
   have HB6 := Lib.hid (below_drewN HB5.out q)
   have hak := asked_any (w5.drewN q) T (genL zs) (2 * (k : Int) + 1 + 1) HT6.out
   rw [hq1] at hak
   clear hsa
   go_wp2_with fail
   refine hak.mono ?_
   rintro e w7 ⟨rfl, rfl⟩
   clear hak
   go_wp2
   go_roundw
   case rel => exact ⟨k + 1, by omega, by go_num, Lib.hid ⟨by rw [show (2 * ((k + 1 : Nat) : Int)) = 2 * (k : Int) + 1 + 1 by omega]; exact HT6.out, HB6.out⟩⟩
   case measure => simp [intOf]; omega
  ·obtain rfl : k = m := by omega
   have hkn := known08_any wr (HG.out.next HQ.out.2)
   go_wp2_with fail
   refine hkn.mono ?_
   rintro e w4 ⟨rfl, hb4⟩
   have HE : Hid (Below w.heap.size w w4) := Lib.hid (HQ.out.2.trans (hb4.mono HQ.out.2.size))
   clear hkn hb4
   go_wp2
   go_ret
   exact ⟨rfl, HE.out⟩
end Go.Proofs.YtknjhlbhbnldpaaGreatDoor.C
