/-
  Contracts of lines.Join and of the document's own: the cells of lines (2^30 at most), in new memory; nothing that was there changes.
-/
import Derived.Test.YtlecioifjdmmmaaLnG
namespace Go.Proofs.Ytlecioifjdmmmaa.C
open Go.RowKit

theorem join_snoc {ls : List (List Int × Bool)} {k : Nat} {x : List Int × Bool} (h : ls[k]? = some x) : joinL (ls.take (k + 1)) = (joinL (ls.take k) ++ x.1) ++ (if x.2 then [10] else []) := by
  obtain ⟨l, b⟩ := x
  rw [take_snoc h, join_app]
  simp [joinL]
theorem join_part (ls : List (List Int × Bool)) (k : Nat) : (joinL (ls.take k)).length ≤ (joinL ls).length := by
  conv => rhs; rw [← List.take_append_drop k ls, join_app, List.length_append]
  omega

set_option maxRecDepth 100000 in
set_option maxHeartbeats 2000000 in
theorem join_any (w : World) (B : Nat) (A : Option Addr) (n c : Nat) (ls : List (List Int × Bool)) (hx : LI w B A n ls) (hB : B ≤ w.heap.size) (hn : n ≤ 1073741824) (hj : (joinL ls).length ≤ 1073741824) :
    Calls Try.prog 14 #[.slice A n c] w fun e w' => ∃ v, e = .returned v ∧ w'.ownsRow w.heap.size 25 1 v (joinL ls).length ((joinL ls).map (Value.int .i32)) ∧ Below w.heap.size w w' := by
  obtain ⟨i0, hi, hz0, hz1, hz2⟩ := info_parts info33
  have HX := Lib.hid hx
  clear hx
  go_enter Try.func14, Try.ntmps14
  go_wp2
  go_loopw [3, 8] (fun v iv wr => ∃ k : Nat, k ≤ n ∧ iv = .int .i64 k ∧ Hid (wr.ownsRow w.heap.size 25 1 v (joinL (ls.take k)).length ((joinL (ls.take k)).map (Value.int .i32))) ∧ Below w.heap.size w wr) (fun _ iv _ => n - (intOf iv).toNat)
  case atStart => exact ⟨0, Nat.zero_le _, rfl, World.ownsRow_nil _ _ _ _, Below.refl _ _⟩
  case round =>
    obtain ⟨k, hk, rfl, HW, hbr⟩ := hrel
    have hsz := hbr.size
    by_cases hlt : k < n
    · obtain ⟨ad, x, Aj, nj, cj, rfl, hbl, hxk, hcr0, hcr1, hnc, hcm, hri⟩ := (HX.out.on hbr hB).at2 hlt
      have k0 : (0 : Int) ≤ (k : Int) := by omega
      have k1 : (k : Int) < (n : Int) := by omega
      have hpart := join_part ls (k + 1)
      have hsn := join_snoc hxk
      obtain ⟨l, b⟩ := x
      rw [hsn, List.length_append, List.length_append] at hpart
      simp only at hpart hri hsn hcr1
      rw [hri.len] at hpart
      have HS := Lib.hid hsn
      have HLN := Lib.hid hri.len
      have HRI := Lib.hid hri
      have hHW := HW.out
      have hpn := (PairAt.new wr (.slice Aj nj cj) (.bool b))
      have hne : some wr.heap.size ≠ (Value.ownBlock u3) := fun e => by
        have := (hHW.lt _ e.symm).2
        omega
      clear hxk hri hsn
      cases b with
      | false =>
        simp only [Bool.false_eq_true, if_false, List.length_nil, Nat.add_zero, List.append_nil] at hpart HS
        go_wp2_with (at_builtin; (refine wpList_append_ri _ rfl _ _ 23 rfl w.heap.size 25 i0 (.int .i32 0) 4 Try.underlying23 hi hz0 hz1 hz2 rfl u3 _ _ rfl (HW.out.alloc _) .i32 B Aj nj cj l rfl (HRI.out.alloc (by omega) _) (by unfold maxLen; omega) (by omega) (by simp; omega) ?_); intro v' w3 hown' hgrow; have m1 := (hpn.kept hgrow hne).c1; have HO3 := Lib.hid hown'; have HG3 := Lib.hid hgrow; clear hown' hgrow)
        have hown2 : Hid (w3.ownsRow w.heap.size 25 1 v' (joinL (ls.take (k + 1))).length ((joinL (ls.take (k + 1))).map (Value.int .i32))) := by
          rw [HS.out]
          have := HO3.out
          rw [← HLN.out] at this
          simpa [Hid] using this
        have hb3 : Below w.heap.size w w3 := (hbr.alloc (by omega) _).grown HG3.out (by simp; omega) (fun g hg => (hHW.lt g hg).1)
        go_roundw
        case rel => exact ⟨k + 1, by omega, by go_num, hown2, hb3⟩
        case measure => simp [intOf]; omega
      | true =>
        simp only [if_true, List.length_singleton] at hpart HS
        go_wp2_with (first
          | (at_builtin; (refine wpList_append_ri _ rfl _ _ 23 rfl w.heap.size 25 i0 (.int .i32 0) 4 Try.underlying23 hi hz0 hz1 hz2 rfl u3 _ _ rfl (HW.out.alloc _) .i32 B Aj nj cj l rfl (HRI.out.alloc (by omega) _) (by unfold maxLen; omega) (by omega) (by simp; omega) ?_); intro v' w3 hown' hgrow; have m1 := (hpn.kept hgrow hne).c1; have HO3 := Lib.hid hown'; have HG3 := Lib.hid hgrow; clear hown' hgrow)
          | (at_builtin; (refine wpList_append_own _ rfl _ _ 23 rfl w.heap.size 25 i0 (.int .i32 0) 1 4 Try.underlying23 hi hz0 hz1 hz2 rfl (by decide) v' _ _ rfl (HO3.out.alloc _) _ 1 1 [.int .i32 10] rfl rfl (cell_one_new _ _ _) (by intro u hu; simp at hu; subst hu; rfl) (by unfold maxLen; omega) (by omega) (by have := HG3.out.size; simp at this ⊢; omega) ?_); intro v2 w4 hown' hgrow _; have HO4 := Lib.hid hown'; have HG4 := Lib.hid hgrow; clear hown' hgrow))
        have hown2 : Hid (w4.ownsRow w.heap.size 25 1 v2 (joinL (ls.take (k + 1))).length ((joinL (ls.take (k + 1))).map (Value.int .i32))) := by
          rw [HS.out]
          have := HO4.out
          rw [← HLN.out] at this
          simpa [Hid, Nat.add_assoc] using this
        have hb3 : Below w.heap.size w w3 := (hbr.alloc (by omega) _).grown HG3.out (by simp; omega) (fun g hg => (hHW.lt g hg).1)
        have hs3 := hb3.size
        have hb4 : Below w.heap.size w w4 := (hb3.alloc (by omega) _).grown HG4.out (by simp; omega) (fun g hg => (HO3.out.lt g hg).1)
        go_roundw
        case rel => exact ⟨k + 1, by omega, by go_num, hown2, hb4⟩
        case measure => simp [intOf]; omega
    · have hkn : ls.take k = ls := List.take_of_length_le (by rw [HX.out.len]; omega)
      have HK := Lib.hid hkn
      clear hkn
      go_wp2
      go_ret
      refine ⟨_, rfl, ?_, hbr⟩
      have := HW.out
      rwa [HK.out] at this

set_option maxRecDepth 100000 in
set_option maxHeartbeats 2000000 in
theorem refJoin_any (w : World) (B : Nat) (A : Option Addr) (n c : Nat) (ls : List (List Int × Bool)) (hx : LI w B A n ls) (hB : B ≤ w.heap.size) (hn : n ≤ 1073741824) (hj : (joinL ls).length ≤ 1073741824) :
    Calls Try.prog 15 #[.slice A n c] w fun e w' => ∃ v, e = .returned v ∧ w'.ownsRow w.heap.size 25 1 v (joinL ls).length ((joinL ls).map (Value.int .i32)) ∧ Below w.heap.size w w' := by
  obtain ⟨i0, hi, hz0, hz1, hz2⟩ := info_parts info33
  have HX := Lib.hid hx
  clear hx
  go_enter Try.func15, Try.ntmps15
  go_wp2
  go_loopw [3, 4] (fun v iv wr => ∃ k : Nat, k ≤ n ∧ iv = .int .i64 k ∧ Hid (wr.ownsRow w.heap.size 25 1 v (joinL (ls.take k)).length ((joinL (ls.take k)).map (Value.int .i32))) ∧ Below w.heap.size w wr) (fun _ iv _ => n - (intOf iv).toNat)
  case atStart => exact ⟨0, Nat.zero_le _, rfl, World.ownsRow_nil _ _ _ _, Below.refl _ _⟩
  case round =>
    obtain ⟨k, hk, rfl, HW, hbr⟩ := hrel
    have hsz := hbr.size
    by_cases hlt : k < n
    · obtain ⟨ad, x, Aj, nj, cj, rfl, hbl, hxk, hcr0, hcr1, hnc, hcm, hri⟩ := (HX.out.on hbr hB).at2 hlt
      have k0 : (0 : Int) ≤ (k : Int) := by omega
      have k1 : (k : Int) < (n : Int) := by omega
      have hpart := join_part ls (k + 1)
      have hsn := join_snoc hxk
      obtain ⟨l, b⟩ := x
      rw [hsn, List.length_append, List.length_append] at hpart
      simp only at hpart hri hsn hcr1
      rw [hri.len] at hpart
      have HS := Lib.hid hsn
      have HLN := Lib.hid hri.len
      have HRI := Lib.hid hri
      have hHW := HW.out
      have hne : some (ad.add (k * 2)).block ≠ (Value.ownBlock u3) := fun e => by
        have := (hHW.lt _ e.symm).1
        rw [block_of_add] at this
        omega
      clear hxk hri hsn
      cases b with
      | false =>
        simp only [Bool.false_eq_true, if_false, List.length_nil, Nat.add_zero, List.append_nil] at hpart HS
        go_wp2_with (at_builtin; (refine wpList_append_ri _ rfl _ _ 23 rfl w.heap.size 25 i0 (.int .i32 0) 4 Try.underlying23 hi hz0 hz1 hz2 rfl u3 _ _ rfl HW.out .i32 B Aj nj cj l rfl HRI.out (by unfold maxLen; omega) (by omega) (by omega) ?_); intro v' w3 hown' hgrow; have m1 := hgrow.cell hcr1 hne; have HO3 := Lib.hid hown'; have HG3 := Lib.hid hgrow; clear hown' hgrow)
        have hown2 : Hid (w3.ownsRow w.heap.size 25 1 v' (joinL (ls.take (k + 1))).length ((joinL (ls.take (k + 1))).map (Value.int .i32))) := by
          rw [HS.out]
          have := HO3.out
          rw [← HLN.out] at this
          simpa [Hid] using this
        have hb3 : Below w.heap.size w w3 := hbr.grown HG3.out (by omega) (fun g hg => (hHW.lt g hg).1)
        go_roundw
        case rel => exact ⟨k + 1, by omega, by go_num, hown2, hb3⟩
        case measure => simp [intOf]; omega
      | true =>
        simp only [if_true, List.length_singleton] at hpart HS
        go_wp2_with (first
          | (at_builtin; (refine wpList_append_ri _ rfl _ _ 23 rfl w.heap.size 25 i0 (.int .i32 0) 4 Try.underlying23 hi hz0 hz1 hz2 rfl u3 _ _ rfl HW.out .i32 B Aj nj cj l rfl HRI.out (by unfold maxLen; omega) (by omega) (by omega) ?_); intro v' w3 hown' hgrow; have m1 := hgrow.cell hcr1 hne; have HO3 := Lib.hid hown'; have HG3 := Lib.hid hgrow; clear hown' hgrow)
          | (at_builtin; (refine wpList_append_own _ rfl _ _ 23 rfl w.heap.size 25 i0 (.int .i32 0) 1 4 Try.underlying23 hi hz0 hz1 hz2 rfl (by decide) v' _ _ rfl (HO3.out.alloc _) _ 1 1 [.int .i32 10] rfl rfl (cell_one_new _ _ _) (by intro u hu; simp at hu; subst hu; rfl) (by unfold maxLen; omega) (by omega) (by have := HG3.out.size; simp at this ⊢; omega) ?_); intro v2 w4 hown' hgrow _; have HO4 := Lib.hid hown'; have HG4 := Lib.hid hgrow; clear hown' hgrow))
        have hown2 : Hid (w4.ownsRow w.heap.size 25 1 v2 (joinL (ls.take (k + 1))).length ((joinL (ls.take (k + 1))).map (Value.int .i32))) := by
          rw [HS.out]
          have := HO4.out
          rw [← HLN.out] at this
          simpa [Hid, Nat.add_assoc] using this
        have hb3 : Below w.heap.size w w3 := hbr.grown HG3.out (by omega) (fun g hg => (hHW.lt g hg).1)
        have hs3 := hb3.size
        have hb4 : Below w.heap.size w w4 := (hb3.alloc (by omega) _).grown HG4.out (by simp; omega) (fun g hg => (HO3.out.lt g hg).1)
        go_roundw
        case rel => exact ⟨k + 1, by omega, by go_num, hown2, hb4⟩
        case measure => simp [intOf]; omega
    · have hkn : ls.take k = ls := List.take_of_length_le (by rw [HX.out.len]; omega)
      have HK := Lib.hid hkn
      clear hkn
      go_wp2
      go_ret
      refine ⟨_, rfl, ?_, hbr⟩
      have := HW.out
      rwa [HK.out] at this
end Go.Proofs.Ytlecioifjdmmmaa.C
