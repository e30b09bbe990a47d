/-
  The law BracketMost answers true: of texts of several cells the longest is told first; no more stands in a bracket than there is. Condition: a row of bytes and a byte; what is asked of the listed variables.
-/
import Derived.Test.YthgiikhkcpbpfaaGreatDoorQBbA
namespace Go.Proofs.YthgiikhkcpbpfaaGreatDoor.C
open Go.RowKit

def abcd (m : Nat) : List Int := (List.range m).map fun (i : Nat) => (97 : Int) + (i : Int)
def tsM : List (List Int) := [[97, 98], [97, 98, 99, 100], [97, 98, 99]]
def upM (m : Nat) : List Int := (List.range m).map fun (i : Nat) => (1 : Int) + (i : Int)
theorem abcd_of : ∀ m, m ≤ 4 → ofL ((⟨#[97, 98, 99, 100]⟩ : ByteArray).extract 0 m) = abcd m := by decide +kernel
theorem upM_perm : ∀ m, m < 4 → (txL tsM (abcd (m + 1)) ++ [1]).Perm (upM (m + 1)) := by decide +kernel
theorem upM_get : ∀ m, m ≤ 4 → ∀ i, i < m → (upM m).reverse[i]? = some ((m : Int) - (i : Int)) := by decide +kernel
theorem upM_up : ∀ m, m ≤ 4 → (upM m).Pairwise (· < ·) := by decide +kernel
def mostW (w : World) : World :=
 (((((w.alloc (.cells #[.int .i32 97, .int .i32 97] 46)).alloc (.cells #[.int .i32 97, .int .i32 98] 30)).alloc (.cells #[.int .i32 97, .int .i32 98, .int .i32 99, .int .i32 100] 30)).alloc (.cells #[.int .i32 97, .int .i32 98, .int .i32 99] 30)).alloc
  (.cells #[.slice (some ⟨w.heap.size + 1, 0, none⟩) 2 2, .slice (some ⟨w.heap.size + 1 + 1, 0, none⟩) 4 4, .slice (some ⟨w.heap.size + 1 + 1 + 1, 0, none⟩) 3 3] 39)).alloc
  (.cells #[.bool false, .slice (some ⟨w.heap.size, 0, none⟩) 1 1, .slice (some ⟨w.heap.size + 1 + 1 + 1 + 1, 0, none⟩) 3 3] 34)
theorem mostW_is (w : World) : BrkZ (mostW w) (w.heap.size + 1 + 1 + 1 + 1 + 1) (.bool false) (.slice (some ⟨w.heap.size, 0, none⟩) 1 1) (.slice (some ⟨w.heap.size + 1 + 1 + 1 + 1, 0, none⟩) 3 3) ∧
  (mostW w).ownsRow w.heap.size 46 2 (.slice (some ⟨w.heap.size, 0, none⟩) 1 1) 1 (prsC [(97, 97)]) ∧ RowsR (mostW w) (mostW w).heap.size (some ⟨w.heap.size + 1 + 1 + 1 + 1, 0, none⟩) tsM ∧ Below w.heap.size w (mostW w) := by
 obtain ⟨v1, h1⟩ : ∃ v1, v1 = w.alloc (.cells #[.int .i32 97, .int .i32 97] 46) := ⟨_, rfl⟩
 obtain ⟨v2, h2⟩ : ∃ v2, v2 = v1.alloc (.cells #[.int .i32 97, .int .i32 98] 30) := ⟨_, rfl⟩
 obtain ⟨v3, h3⟩ : ∃ v3, v3 = v2.alloc (.cells #[.int .i32 97, .int .i32 98, .int .i32 99, .int .i32 100] 30) := ⟨_, rfl⟩
 obtain ⟨v4, h4⟩ : ∃ v4, v4 = v3.alloc (.cells #[.int .i32 97, .int .i32 98, .int .i32 99] 30) := ⟨_, rfl⟩
 obtain ⟨v5, h5⟩ : ∃ v5, v5 = v4.alloc (.cells #[.slice (some ⟨w.heap.size + 1, 0, none⟩) 2 2, .slice (some ⟨w.heap.size + 1 + 1, 0, none⟩) 4 4, .slice (some ⟨w.heap.size + 1 + 1 + 1, 0, none⟩) 3 3] 39) := ⟨_, rfl⟩
 obtain ⟨v6, h6⟩ : ∃ v6, v6 = v5.alloc (.cells #[.bool false, .slice (some ⟨w.heap.size, 0, none⟩) 1 1, .slice (some ⟨w.heap.size + 1 + 1 + 1 + 1, 0, none⟩) 3 3] 34) := ⟨_, rfl⟩
 have e : mostW w = v6 := by rw [h6, h5, h4, h3, h2, h1]; rfl
 rw [e]
 have s1 : v1.heap.size = w.heap.size + 1 := by rw [h1]; simp
 have s2 : v2.heap.size = w.heap.size + 1 + 1 := by rw [h2, ← s1]; simp
 have s3 : v3.heap.size = w.heap.size + 1 + 1 + 1 := by rw [h3, ← s2]; simp
 have s4 : v4.heap.size = w.heap.size + 1 + 1 + 1 + 1 := by rw [h4, ← s3]; simp
 have s5 : v5.heap.size = w.heap.size + 1 + 1 + 1 + 1 + 1 := by rw [h5, ← s4]; simp
 have s6 : v6.heap.size = w.heap.size + 1 + 1 + 1 + 1 + 1 + 1 := by rw [h6, ← s5]; simp
 have b1 : Below w.heap.size w v1 := by rw [h1]; exact below_new _ _
 have b2 : Below v1.heap.size v1 v2 := by rw [h2]; exact below_new _ _
 have b3 : Below v2.heap.size v2 v3 := by rw [h3]; exact below_new _ _
 have b4 : Below v3.heap.size v3 v4 := by rw [h4]; exact below_new _ _
 have b5 : Below v4.heap.size v4 v5 := by rw [h5]; exact below_new _ _
 have b6 : Below v5.heap.size v5 v6 := by rw [h6]; exact below_new _ _
 have c5 : Below v4.heap.size v4 v6 := b5.trans (b6.mono (by omega))
 have c4 : Below v3.heap.size v3 v6 := b4.trans (c5.mono (by omega))
 have c3 : Below v2.heap.size v2 v6 := b3.trans (c4.mono (by omega))
 have c2 : Below v1.heap.size v1 v6 := b2.trans (c3.mono (by omega))
 have c1 : Below w.heap.size w v6 := b1.trans (c2.mono (by omega))
 have r2 : RI .i32 v2 v2.heap.size (some ⟨w.heap.size + 1, 0, none⟩) 2 [97, 98] := by
  have := RI.new v1 .i32 [97, 98] 30
  rw [s2, ← s1, h2]; simpa using this
 have r3 : RI .i32 v3 v3.heap.size (some ⟨w.heap.size + 1 + 1, 0, none⟩) 4 [97, 98, 99, 100] := by
  have := RI.new v2 .i32 [97, 98, 99, 100] 30
  rw [s3, ← s2, h3]; simpa using this
 have r4 : RI .i32 v4 v4.heap.size (some ⟨w.heap.size + 1 + 1 + 1, 0, none⟩) 3 [97, 98, 99] := by
  have := RI.new v3 .i32 [97, 98, 99] 30
  rw [s4, ← s3, h4]; simpa using this
 have x5 : v5.heap[w.heap.size + 1 + 1 + 1 + 1]? = some (.cells #[.slice (some ⟨w.heap.size + 1, 0, none⟩) 2 2, .slice (some ⟨w.heap.size + 1 + 1, 0, none⟩) 4 4, .slice (some ⟨w.heap.size + 1 + 1 + 1, 0, none⟩) 3 3] 39 (0, 0)) := by
  rw [h5, ← s4]; exact heap_alloc_new v4 _
 have x6 : v6.heap[w.heap.size + 1 + 1 + 1 + 1]? = _ := (b6.block _ (by omega)).trans x5
 refine ⟨?_, ?_, ?_, c1⟩
 ·rw [h6, ← s5]
  exact heap_alloc_new v5 _
 ·refine own_next ?_ c2
  rw [h1]
  exact own_newK (l := prsC [(97, 97)]) (Nat.le_refl _) rfl (by decide)
 ·intro _
  refine ⟨_, rfl, by show w.heap.size + 1 + 1 + 1 + 1 < v6.heap.size; omega, fun i r hr => ?_⟩
  have hi : i < 3 := (List.getElem?_eq_some_iff.1 hr).1
  rcases (by omega : i = 0 ∨ i = 1 ∨ i = 2) with rfl | rfl | rfl
  ·obtain rfl := Option.some.inj hr
   exact ⟨some ⟨w.heap.size + 1, 0, none⟩, 2, by simp [World.cell?, Addr.add, x6], (r2.below (c3.mono (Nat.le_refl _))).more (by omega), by decide⟩
  ·obtain rfl := Option.some.inj hr
   exact ⟨some ⟨w.heap.size + 1 + 1, 0, none⟩, 4, by simp [World.cell?, Addr.add, x6], (r3.below (c4.mono (Nat.le_refl _))).more (by omega), by decide⟩
  ·obtain rfl := Option.some.inj hr
   exact ⟨some ⟨w.heap.size + 1 + 1 + 1, 0, none⟩, 3, by simp [World.cell?, Addr.add, x6], (r4.below (c5.mono (Nat.le_refl _))).more (by omega), by decide⟩
theorem rowsR_moreM {w : World} {B B' : Nat} {A : Option Addr} {rs : List (List Int)} (h : RowsR w B A rs) (hB : B ≤ B') : RowsR w B' A rs := fun h0 => by
 obtain ⟨ad, e, h1, h2⟩ := h h0
 refine ⟨ad, e, by omega, fun i r hr => ?_⟩
 obtain ⟨a, c, h3, h4, h5⟩ := h2 i r hr
 exact ⟨a, c, h3, h4.more hB, h5⟩
theorem own_capM {w : World} {lo n c sz : Nat} {A : Option Addr} {xs : List Value} {e : TypeId} (h : w.ownsRow lo e sz (.slice A n c) n xs) : n ≤ c := by
 rcases h.2 with ⟨_, h0⟩ | ⟨g, cap, cur, e, _, _, h1, _⟩
 ·rw [h0]; exact Nat.zero_le _
 ·injection e with _ _ e3
  omega
set_option maxRecDepth 100000 in
set_option maxHeartbeats 4000000 in
theorem bracketMostWalk (a0 : Option Addr) (len0 cap0 : Nat) (z0 : List Int) (a1 : Int) (w : World) (hG : Gm w) (w0 : L.IsRow .u8 w a0 len0 cap0 z0) (w1 : (Lit.int .u8 a1).wf = true) :
  Calls Tryz.prog 4 #[.slice a0 len0 cap0, .int .u8 a1] w fun e w' => e = .returned (.bool true) ∧ Below w.heap.size w w' := by
 have ha1 := byte_in w1
 have hln := row_len w0
 unfold maxLen at hln
 obtain ⟨m, hm⟩ : ∃ m : Nat, a1 % 5 = (m : Int) := ⟨(a1 % 5).toNat, by omega⟩
 have hm5 : m ≤ 4 := by omega
 have HG := Lib.hid hG
 clear hG w0 w1
 go_enter Tryz.func4, Tryz.ntmps4
 obtain ⟨hz, hr, ht, hb⟩ := mostW_is w
 obtain ⟨P, hP⟩ : ∃ P, P = w.heap.size + 1 + 1 + 1 + 1 + 1 := ⟨_, rfl⟩
 obtain ⟨AT, hAT⟩ : ∃ AT : Option Addr, AT = some ⟨w.heap.size + 1 + 1 + 1 + 1, 0, none⟩ := ⟨_, rfl⟩
 obtain ⟨AR, hAR⟩ : ∃ AR : Option Addr, AR = some ⟨w.heap.size, 0, none⟩ := ⟨_, rfl⟩
 obtain ⟨W, hW⟩ : ∃ W, W = mostW w := ⟨_, rfl⟩
 rw [← hP, ← hAT, ← hAR, ← hW] at hz
 rw [← hAR, ← hW] at hr
 rw [← hAT, ← hW] at ht
 rw [← hW] at hb
 have HZ := Lib.hid hz
 have HR := Lib.hid hr
 have HTS := Lib.hid ht
 have HB := Lib.hid hb
 have hof := refOf_any ((⟨#[97, 98, 99, 100]⟩ : ByteArray).extract 0 m) W (by rw [ByteArray.size_extract]; omega)
 rw [abcd_of m hm5] at hof
 clear hz hr ht hb
 unfold mostW at hW
 go_wp2_with fail
 rw [← hP, ← hAT, ← hAR] at *
 rw [← hW]
 clear hW
 refine hof.mono ?_
 rintro e w1 ⟨v, rfl, ho, hb1⟩
 obtain ⟨Ao, co, rfl⟩ := row_form ho
 have hnl : (abcd m).length = m := by simp [abcd]
 rw [hnl] at ho ⊢
 have HZ1 : Hid (BrkZ w1 P (.bool false) (.slice AR 1 1) (.slice AT 3 3)) := Lib.hid ((hb1.block _ HZ.out.lt).trans HZ.out)
 have HR1 := Lib.hid (own_next HR.out hb1)
 have HT1 : Hid (RowsR w1 w1.heap.size AT tsM) := Lib.hid (rowsR_moreM (HTS.out.on hb1 (Nat.le_refl _)) hb1.size)
 have HB1 : Hid (Below w.heap.size w w1) := Lib.hid (HB.out.trans (hb1.mono HB.out.size))
 have HL1 : Hid (RI .i32 w1 w1.heap.size Ao m (abcd m)) := Lib.hid (RI.of_own ho)
 have hco : m ≤ co := own_capM ho
 have HM := Lib.hid hm
 have HNL := Lib.hid hnl
 obtain ⟨p0, p1, p2⟩ := HZ1.out.cells
 clear hof ho hb1 hm hnl
 rcases Nat.eq_zero_or_pos m with h0 | h0
 ·subst h0
  have hlo := lensOut_any w1 false AR AT Ao none 1 1 3 3 0 co 0 (by omega)
  go_wp2_with fail
  refine hlo.mono ?_
  rintro e w2 ⟨rfl, hb2⟩
  have HB2 : Hid (Below w.heap.size w w2) := Lib.hid (HB1.out.trans (hb2.mono HB1.out.size))
  have HZ2 : Hid (BrkZ w2 P (.bool false) (.slice AR 1 1) (.slice AT 3 3)) := Lib.hid ((hb2.block _ HZ1.out.lt).trans HZ1.out)
  have hkn := known10_any w2 (HG.out.next HB2.out)
  clear hlo hb2 p0 p1 p2
  go_wp2
  go_loop [8] (fun iv => iv = .int .i64 0) (fun _ => 0)
  case atStart => rfl
  case round =>
   obtain rfl := hrel
   go_wp2_with fail
   refine hkn.mono ?_
   rintro e w3 ⟨rfl, hb3⟩
   have HB3 : Hid (Below w.heap.size w w3) := Lib.hid (HB2.out.trans (hb3.mono HB2.out.size))
   have HZ3 : Hid (BrkZ w3 P (.bool false) (.slice AR 1 1) (.slice AT 3 3)) := Lib.hid ((hb3.block _ HZ2.out.lt).trans HZ2.out)
   obtain ⟨p0, p1, p2⟩ := HZ3.out.cells
   have hl1 := fun k h => lensOut_any w3 false AR AT Ao none 1 1 3 3 0 co k h
   clear hkn hb3
   go_wp2_with fail
   refine (hl1 _ (by simp only [wrap64]; omega)).mono ?_
   rintro e w4 ⟨rfl, hb4⟩
   have HB4 : Hid (Below w.heap.size w w4) := Lib.hid (HB3.out.trans (hb4.mono HB3.out.size))
   have HZ4 : Hid (BrkZ w4 P (.bool false) (.slice AR 1 1) (.slice AT 3 3)) := Lib.hid ((hb4.block _ HZ3.out.lt).trans HZ3.out)
   clear hl1 hb4 p0 p1 p2
   obtain ⟨p0, p1, p2⟩ := HZ4.out.cells
   have hl2 := lensOut_any w4 false AR AT Ao none 1 1 3 3 0 co (-1) (by omega)
   go_wp2_with fail
   refine hl2.mono ?_
   rintro e w5 ⟨rfl, hb5⟩
   have HB5 : Hid (Below w.heap.size w w5) := Lib.hid (HB4.out.trans (hb5.mono HB4.out.size))
   clear hl2 hb5 p0 p1 p2
   go_wp2
   go_ret
   exact ⟨rfl, HB5.out⟩
 ·obtain ⟨j, hj⟩ : ∃ j, m = j + 1 := ⟨m - 1, by omega⟩
  have hx : (abcd m)[0]? = some 97 := by subst hj; simp [abcd]
  have hyl : (upM m).length = m := by simp [upM]
  have hle := lensM_any w1 (.slice AR 1 1) [(97, 97)] AT Ao 3 m co w1.heap.size w.heap.size 97 (abcd m) (upM m) tsM HR1.out HT1.out HL1.out (Nat.le_refl _) hco h0 (by omega) hx (by decide) (by decide) (by subst hj; exact upM_perm j (by omega)) (upM_up m hm5)
  rw [hyl, show tsM.length = 3 from rfl] at hle
  have HYL := Lib.hid hyl
  clear hx hyl hj
  go_wp2_with fail
  refine hle.mono ?_
  rintro e w2 ⟨⟨g, c, rest, rfl, hg, hrow⟩, hb2⟩
  have HB2 : Hid (Below w.heap.size w w2) := Lib.hid (HB1.out.trans (hb2.mono HB1.out.size))
  have HZ2 : Hid (BrkZ w2 P (.bool false) (.slice AR 1 1) (.slice AT 3 3)) := Lib.hid ((hb2.block _ HZ1.out.lt).trans HZ1.out)
  have HROW : Hid (∀ i : Nat, i < m → w2.cell? ⟨g, i, none⟩ = some (.int .i64 ((m : Int) - (i : Int)))) := Lib.hid (fun i hi => by
   have h1 := upM_get m hm5 i hi
   have h2 : (celJ (upM m).reverse ++ rest)[i]? = some (.int .i64 ((m : Int) - (i : Int))) := by
    rw [List.getElem?_append_left (by unfold celJ; rw [List.length_map, List.length_reverse, HYL.out]; exact hi)]
    unfold celJ
    rw [List.getElem?_map, h1]
    rfl
   exact hrow.cell h2)
  have hkn := known10_any w2 (HG.out.next HB2.out)
  clear hle hb2 p0 p1 p2 hrow hg
  go_wp2
  go_loop [8] (fun iv => ∃ i : Nat, i ≤ m ∧ iv = .int .i64 (i : Int)) (fun iv => m - (intOf iv).toNat)
  case atStart => exact ⟨0, by omega, rfl⟩
  case round =>
   obtain ⟨i, him, rfl⟩ := hrel
   by_cases hlt : i < m
   ·have hc := HROW.out i hlt
    have i0 : (i : Int) < (m : Int) := by omega
    have i1 : (0 : Int) ≤ (i : Int) := by omega
    clear hkn
    go_wp2
    go_round
    case rel => exact ⟨i + 1, by omega, by go_num⟩
    case measure => simp [intOf]; omega
   ·have him' : i = m := by omega
    subst him'
    have i0 : ¬ (i : Int) < (i : Int) := by omega
    go_wp2_with fail
    refine hkn.mono ?_
    rintro e w3 ⟨rfl, hb3⟩
    have HB3 : Hid (Below w.heap.size w w3) := Lib.hid (HB2.out.trans (hb3.mono HB2.out.size))
    have HZ3 : Hid (BrkZ w3 P (.bool false) (.slice AR 1 1) (.slice AT 3 3)) := Lib.hid ((hb3.block _ HZ2.out.lt).trans HZ2.out)
    obtain ⟨p0, p1, p2⟩ := HZ3.out.cells
    have hl1 := fun k h => lensOut_any w3 false AR AT Ao none 1 1 3 3 i co k h
    clear hkn hb3
    go_wp2_with fail
    refine (hl1 _ (by simp only [wrap64]; omega)).mono ?_
    rintro e w4 ⟨rfl, hb4⟩
    have HB4 : Hid (Below w.heap.size w w4) := Lib.hid (HB3.out.trans (hb4.mono HB3.out.size))
    have HZ4 : Hid (BrkZ w4 P (.bool false) (.slice AR 1 1) (.slice AT 3 3)) := Lib.hid ((hb4.block _ HZ3.out.lt).trans HZ3.out)
    clear hl1 hb4 p0 p1 p2
    obtain ⟨p0, p1, p2⟩ := HZ4.out.cells
    have hl2 := lensOut_any w4 false AR AT Ao none 1 1 3 3 i co (-1) (by omega)
    go_wp2_with fail
    refine hl2.mono ?_
    rintro e w5 ⟨rfl, hb5⟩
    have HB5 : Hid (Below w.heap.size w w5) := Lib.hid (HB4.out.trans (hb5.mono HB4.out.size))
    clear hl2 hb5 p0 p1 p2
    go_wp2
    go_ret
    exact ⟨rfl, HB5.out⟩
end Go.Proofs.YthgiikhkcpbpfaaGreatDoor.C
