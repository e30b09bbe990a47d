/-
  falling: numbers that differ, sorted and turned round. Condition: no more than four of them.
-/
import Derived.Test.YthgiikhkcpbpfaaGreatDoorQBaX
namespace Go.Proofs.YthgiikhkcpbpfaaGreatDoor.C
open Go.RowKit

def rvK (zs : List Int) (i : Nat) : List Int := (List.range zs.length).map fun p => if p < i ∨ zs.length ≤ p + i then zs.getD (zs.length - 1 - p) 0 else zs.getD p 0
theorem rvK_len (zs : List Int) (i : Nat) : (rvK zs i).length = zs.length := by simp [rvK]
theorem rvK_at (zs : List Int) (i p : Nat) (h : p < (rvK zs i).length) : (rvK zs i)[p] = if p < i ∨ zs.length ≤ p + i then zs.getD (zs.length - 1 - p) 0 else zs.getD p 0 := by simp [rvK]
theorem rvK_get (zs : List Int) (i p : Nat) (hp : p < zs.length) : (rvK zs i).getD p 0 = if p < i ∨ zs.length ≤ p + i then zs.getD (zs.length - 1 - p) 0 else zs.getD p 0 := by
 rw [List.getD_eq_getElem?_getD]
 unfold rvK
 rw [List.getElem?_map, List.getElem?_range hp]
 rfl
theorem rvK_zero (zs : List Int) : rvK zs 0 = zs := by
 refine List.ext_getElem (rvK_len zs 0) fun p h1 h2 => ?_
 rw [rvK_at]
 rw [if_neg (by omega), List.getD_eq_getElem?_getD, List.getElem?_eq_getElem h2]
 rfl
theorem rvK_step (zs : List Int) (i : Nat) (h : i < zs.length - 1 - i) : ((rvK zs i).set i (zs.getD (zs.length - 1 - i) 0)).set (zs.length - 1 - i) (zs.getD i 0) = rvK zs (i + 1) := by
 refine List.ext_getElem (by simp [rvK_len]) fun p h1 h2 => ?_
 have hp : p < zs.length := by rwa [rvK_len] at h2
 rw [List.getElem_set, List.getElem_set, rvK_at, rvK_at]
 by_cases c1 : zs.length - 1 - i = p
 ·subst c1
  rw [if_pos rfl, if_pos (by omega), show zs.length - 1 - (zs.length - 1 - i) = i by omega]
 ·rw [if_neg c1]
  by_cases c2 : i = p
  ·subst c2
   rw [if_pos rfl, if_pos (by omega)]
  ·rw [if_neg c2]
   by_cases c3 : p < i ∨ zs.length ≤ p + i
   ·rw [if_pos c3, if_pos (by omega)]
   ·rw [if_neg c3, if_neg (by omega)]
theorem rvK_end (zs : List Int) (i : Nat) (h : zs.length ≤ i + i + 1) : rvK zs i = zs.reverse := by
 refine List.ext_getElem (by simp [rvK_len]) fun p h1 h2 => ?_
 have hp : p < zs.length := by rwa [rvK_len] at h1
 rw [List.getElem_reverse]
 rw [rvK_at]
 have hg : ∀ k (hk : k < zs.length), zs.getD k 0 = zs[k] := fun k hk => by rw [List.getD_eq_getElem?_getD, List.getElem?_eq_getElem hk]; rfl
 by_cases c : p < i ∨ zs.length ≤ p + i
 ·rw [if_pos c, hg _ (by omega)]
 ·rw [if_neg c, hg _ hp]
  congr 1
  omega
set_option maxRecDepth 100000 in
set_option maxHeartbeats 1000000 in
theorem compactJ_any (w : World) (g c n : Nat) (t : TypeId) (ys : List Int) (rest : List Value) (hr : Row w g t (celJ ys ++ rest)) (hlen : ys.length = n) (hn : n ≤ 12) (h0 : 0 < n) (hup : ys.Pairwise (· < ·)) :
  Calls Tryz.prog 47 #[.slice (some ⟨g, 0, none⟩) n c] w fun e w' => e = .returned (.slice (some ⟨g, 0, none⟩) n c) ∧ Row w' g t (celJ ys ++ rest) ∧ Fr w w' (· = g) := by
 have HR := Lib.hid hr
 have HU : Hid (∀ k, k + 1 < n → (ys.getD (k + 1) 0 == ys.getD k 0) = false) := Lib.hid fun k hk => by
  have h := List.pairwise_iff_getElem.1 hup k (k + 1) (by omega) (by omega) (by omega)
  simp only [List.getD_eq_getElem?_getD, List.getElem?_eq_getElem (show k < ys.length by omega), List.getElem?_eq_getElem (show k + 1 < ys.length by omega), Option.getD_some, beq_eq_false_iff_ne]
  omega
 have HL := Lib.hid hlen
 clear hr hup hlen
 go_enter Tryz.func47, Tryz.ntmps47
 by_cases h1 : n = 1
 ·subst h1
  go_wp2
  go_ret
  exact ⟨rfl, HR.out, Fr.refl _ _⟩
 ·have h2 : ¬ (n : Int) < 2 := by omega
  go_wp2
  go_loopw [3] (fun vi wr => ∃ i : Nat, vi = .int .i64 ((i : Int) + 1) ∧ i + 1 ≤ n ∧ Hid (Row wr g t (celJ ys ++ rest) ∧ Fr w wr (· = g))) (fun vi _ => n - (intOf vi).toNat)
  case atStart => exact ⟨0, by go_num, by omega, Lib.hid ⟨HR.out, Fr.refl _ _⟩⟩
  case round =>
   obtain ⟨i, rfl, hin, HQ⟩ := hrel
   by_cases hlt : i + 1 < n
   ·have hlt' : (i : Int) + 1 < (n : Int) := by omega
    have c1 : wr.cell? ⟨g, i + 1, none⟩ = some (.int .i64 (ys.getD (i + 1) 0)) := HQ.out.1.cell (getD_atJ (by have := HL.out; omega) rest)
    have c0 : wr.cell? ⟨g, i, none⟩ = some (.int .i64 (ys.getD i 0)) := HQ.out.1.cell (getD_atJ (by have := HL.out; omega) rest)
    have hne := HU.out i hlt
    obtain ⟨x, hx⟩ : ∃ x, x = ys.getD (i + 1) 0 := ⟨_, rfl⟩
    obtain ⟨y, hy⟩ : ∃ y, y = ys.getD i 0 := ⟨_, rfl⟩
    rw [← hx, ← hy] at hne
    rw [← hx] at c1
    rw [← hy] at c0
    have i0 : (0 : Int) ≤ (i : Int) + 1 := by omega
    have i3 : (i : Int) < (n : Int) := by omega
    clear hx hy
    go_wp2
    go_quiet (fail)
    go_wp2
    go_roundw
    case rel => exact ⟨i + 1, by go_num, by omega, Lib.hid ⟨HQ.out.1, HQ.out.2.drewN nq⟩⟩
    case measure => simp [intOf]; omega
   ·obtain rfl : i + 1 = n := by omega
    have HE := HQ
    go_wp2
    go_ret
    exact ⟨rfl, HE.out.1, HE.out.2⟩
theorem row_rvK {w : World} {g : Nat} {t : TypeId} {zs : List Int} {rest : List Value} {i : Nat} (h : Row w g t (celJ (rvK zs i) ++ rest)) (hi : i < zs.length - 1 - i) : Row ((w.setCell ⟨g, i, none⟩ (.int .i64 (zs.getD (zs.length - 1 - i) 0))).setCell ⟨g, zs.length - 1 - i, none⟩ (.int .i64 (zs.getD i 0))) g t (celJ (rvK zs (i + 1)) ++ rest) := by
 have h2 := (h.set i (.int .i64 (zs.getD (zs.length - 1 - i) 0))).set (zs.length - 1 - i) (.int .i64 (zs.getD i 0))
 have e : ((celJ (rvK zs i) ++ rest).set i (.int .i64 (zs.getD (zs.length - 1 - i) 0))).set (zs.length - 1 - i) (.int .i64 (zs.getD i 0)) = celJ (rvK zs (i + 1)) ++ rest := by
  rw [List.set_append_left _ _ (by simp [celJ, rvK_len]; omega), List.set_append_left _ _ (by simp [celJ, rvK_len]; omega), ← rvK_step zs i hi]
  unfold celJ
  rw [List.map_set, List.map_set]
 rwa [e] at h2
set_option maxRecDepth 100000 in
set_option maxHeartbeats 1000000 in
theorem reverseJ_any (w : World) (g c n : Nat) (t : TypeId) (zs : List Int) (rest : List Value) (hr : Row w g t (celJ zs ++ rest)) (hlen : zs.length = n) (hn : n ≤ 12) (h0 : 0 < n) :
  Calls Tryz.prog 48 #[.slice (some ⟨g, 0, none⟩) n c] w fun e w' => e = .returned (.tuple #[]) ∧ Row w' g t (celJ zs.reverse ++ rest) ∧ Fr w w' (· = g) := by
 have HR := Lib.hid hr
 have HL := Lib.hid hlen
 have wk : IntKind.i64.wrap ((n : Int) - 1) = (n : Int) - 1 := by rw [IntKind.wrap_i64]; omega
 clear hr hlen
 go_enter Tryz.func48, Tryz.ntmps48
 go_wp2
 go_loopw [2, 3] (fun a b wr => ∃ i : Nat, i + i ≤ n ∧ a = .int .i64 (i : Int) ∧ b = .int .i64 ((n : Int) - 1 - (i : Int)) ∧ Hid (Row wr g t (celJ (rvK zs i) ++ rest) ∧ Fr w wr (· = g))) (fun a _ _ => n - (intOf a).toNat)
 case atStart => exact ⟨0, by omega, rfl, by simp, Lib.hid ⟨by rw [rvK_zero]; exact HR.out, Fr.refl _ _⟩⟩
 case round =>
  obtain ⟨i, hin, rfl, rfl, HQ⟩ := hrel
  by_cases hlt : i < n - 1 - i
  ·obtain ⟨j, hj⟩ : ∃ j : Nat, j = n - 1 - i := ⟨_, rfl⟩
   have hji : (n : Int) - 1 - (i : Int) = (j : Int) := by omega
   have hlt' : (i : Int) < (j : Int) := by omega
   have c1 : wr.cell? ⟨g, j, none⟩ = some (.int .i64 (zs.getD j 0)) := by
    have := HQ.out.1.cell (getD_atJ (ys := rvK zs i) (k := j) (by rw [rvK_len, HL.out]; omega) rest)
    rwa [rvK_get _ _ _ (by rw [HL.out]; omega), if_neg (by rw [HL.out]; omega)] at this
   have c0 : wr.cell? ⟨g, i, none⟩ = some (.int .i64 (zs.getD i 0)) := by
    have := HQ.out.1.cell (getD_atJ (ys := rvK zs i) (k := i) (by rw [rvK_len, HL.out]; omega) rest)
    rwa [rvK_get _ _ _ (by rw [HL.out]; omega), if_neg (by rw [HL.out]; omega)] at this
   have f1 := HQ.out.1.frozen j
   have f0 := HQ.out.1.frozen i
   have HSW : Hid (Row ((wr.setCell ⟨g, i, none⟩ (.int .i64 (zs.getD j 0))).setCell ⟨g, j, none⟩ (.int .i64 (zs.getD i 0))) g t (celJ (rvK zs (i + 1)) ++ rest)) := Lib.hid (by
    have := row_rvK (w := wr) (zs := zs) (i := i) HQ.out.1 (by rw [HL.out]; omega)
    rw [HL.out, ← hj] at this
    exact this)
   have HFS : Hid (Fr w ((wr.setCell ⟨g, i, none⟩ (.int .i64 (zs.getD j 0))).setCell ⟨g, j, none⟩ (.int .i64 (zs.getD i 0))) (· = g)) := Lib.hid ((HQ.out.2.setT _ _).setT _ _)
   obtain ⟨x, hx⟩ : ∃ x, x = zs.getD j 0 := ⟨_, rfl⟩
   obtain ⟨y, hy⟩ : ∃ y, y = zs.getD i 0 := ⟨_, rfl⟩
   rw [← hx] at c1 HSW HFS
   rw [← hy] at c0 HSW HFS
   have i1 : (j : Int) < (n : Int) := by omega
   have i3 : (i : Int) < (n : Int) := by omega
   rw [hji]
   have HJ := Lib.hid hji
   clear hx hy hji hj
   go_wp2
   go_region
   all_goals go_wp2
   go_roundw
   case rel => exact ⟨i + 1, by omega, by go_num, by have := HJ.out; go_num, Lib.hid ⟨HSW.out, HFS.out.drew⟩⟩
   case measure => simp [intOf]; omega
  ·have hge : ¬ (i : Int) < (n : Int) - 1 - (i : Int) := by omega
   have HE : Hid (Row wr g t (celJ zs.reverse ++ rest) ∧ Fr w wr (· = g)) := Lib.hid ⟨by rw [← rvK_end zs i (by rw [HL.out]; omega)]; exact HQ.out.1, HQ.out.2⟩
   clear HQ
   go_wp2
   go_end0
   exact ⟨rfl, HE.out⟩
theorem sorted_one {a b : List Int} (hp : a.Perm b) (ha : a.Pairwise (· ≤ ·)) (hb : b.Pairwise (· < ·)) : a = b :=
 hp.eq_of_pairwise (le := fun x y => decide (x ≤ y) = true) (fun x y _ _ h1 h2 => by simp at h1 h2; omega) (ha.imp fun h => by simpa using h) (hb.imp fun h => by simp; omega)
set_option maxRecDepth 100000 in
set_option maxHeartbeats 1000000 in
theorem fallingJ_any (w : World) (lo n : Nat) (v : Value) (zs ys : List Int) (ho : w.ownsRow lo 3 1 v n (celJ zs)) (hlen : zs.length = n) (hn : n ≤ 4) (h0 : 0 < n) (hp : zs.Perm ys) (hup : ys.Pairwise (· < ·)) :
  Calls Tryz.prog 27 #[v] w fun e w' => ∃ g c, e = .returned (.slice (some ⟨g, 0, none⟩) n c) ∧ lo ≤ g ∧ (∃ rest, Row w' g 3 (celJ ys.reverse ++ rest)) ∧ Fr w w' (· = g) := by
 obtain ⟨g, cap, rest, rfl, hg, hr, hc1, hc2, hc3⟩ := own_openJ ho h0
 have h1 := sortJ_any w g cap _ zs rest hr n hlen hn h0
 have HP := Lib.hid hp
 have HU := Lib.hid hup
 have HG := Lib.hid hg
 have HL := Lib.hid hlen
 clear ho hr hp hup hg hc1 hc2 hc3 hlen
 go_enter Tryz.func27, Tryz.ntmps27
 go_wp2_with fail
 refine h1.mono ?_
 rintro e w1 ⟨rfl, xs, hr1, hp1, hs1, hf1⟩
 obtain rfl : xs = ys := sorted_one (hp1.trans HP.out) hs1 HU.out
 have hxl : xs.length = n := by rw [← HL.out]; exact HP.out.length_eq.symm
 have h2 := compactJ_any w1 g cap n _ xs rest hr1 hxl (by omega) h0 HU.out
 have HF1 := Lib.hid hf1
 have HX := Lib.hid hxl
 clear h1 hr1 hp1 hs1 hf1 hxl
 go_wp2_with fail
 refine h2.mono ?_
 rintro e w2 ⟨rfl, hr2, hf2⟩
 have h3 := reverseJ_any w2 g cap n _ xs rest hr2 HX.out (by omega) h0
 have HF2 := Lib.hid (HF1.out.trans hf2)
 clear h2 hr2 hf2
 go_wp2_with fail
 refine h3.mono ?_
 rintro e w3 ⟨rfl, hr3, hf3⟩
 have HE : Hid ((∃ rest, Row w3 g 3 (celJ xs.reverse ++ rest)) ∧ Fr w w3 (· = g)) := Lib.hid ⟨⟨_, hr3⟩, HF2.out.trans hf3⟩
 clear h3 hr3 hf3
 go_wp2
 go_ret
 exact ⟨g, cap, rfl, HG.out, HE.out⟩
end Go.Proofs.YthgiikhkcpbpfaaGreatDoor.C
