/-
  Lengths without a table: of texts those with which others begin, the longest first. Condition: no more than three of them, all different.
-/
import Derived.Test.YthgiikhkcpbpfaaGreatDoorQBaY
import Derived.Test.YthgiikhkcpbpfaaGreatDoorB17
import Derived.Test.YthgiikhkcpbpfaaGreatDoorB24
import Derived.Test.YthgiikhkcpbpfaaGreatDoorB27
namespace Go.Proofs.YthgiikhkcpbpfaaGreatDoor.C
open Go.RowKit

def begB (r ls : List Int) : Bool := decide (r ≠ [] ∧ r.length ≤ ls.length ∧ r = ls.take r.length)
def txL (ts : List (List Int)) (ls : List Int) : List Int := (ts.filter fun r => begB r ls).map fun r => (r.length : Int)
theorem txL_snoc (ts : List (List Int)) (r ls : List Int) : txL (ts ++ [r]) ls = txL ts ls ++ if begB r ls then [(r.length : Int)] else [] := by
 unfold txL
 rw [List.filter_append, List.map_append]
 congr 1
 by_cases h : begB r ls = true
 ·simp [h]
 ·simp [h]
theorem txL_len (ts : List (List Int)) (ls : List Int) : (txL ts ls).length ≤ ts.length := by
 unfold txL
 rw [List.length_map]
 exact List.length_filter_le _ _
set_option maxRecDepth 100000 in
theorem alikeE_any (w : World) (a : Int) (p : Option Addr) :
  Calls Tryz.prog 28 #[.int .i32 a, .int .i32 a, .pointer p] w fun e w' => e = .returned (.bool true) ∧ w' = w := by
 have h1 : (a == a) = true := by simp
 go_enter Tryz.func28, Tryz.ntmps28
 go_wp2
 go_ret
 exact ⟨rfl, rfl⟩
set_option maxRecDepth 100000 in
set_option maxHeartbeats 1000000 in
theorem textsN_any (w : World) (AT : Option Addr) (cT : Nat) (ts : List (List Int)) (Al : Option Addr) (nl cl B : Nat) (ls : List Int) (ht : RowsR w B AT ts) (hl : RI .i32 w B Al nl ls) (hB : B ≤ w.heap.size) (hn : ts.length ≤ 100000) (hnl : nl ≤ 100000) :
  Calls Tryz.prog 21 #[.slice AT ts.length cT, .slice Al nl cl, .pointer none] w fun e w' => ∃ v, e = .returned v ∧ w'.ownsRow w.heap.size 3 1 v (txL ts ls).length (celJ (txL ts ls)) ∧ Below w.heap.size w w' := by
 obtain ⟨i0, hi, hz0, hz1, hz2⟩ := info_parts infoInt8
 have HT := Lib.hid ht
 have HL := Lib.hid hl
 clear ht hl
 go_enter Tryz.func21, Tryz.ntmps21
 go_wp2
 go_step3
 go_wp2
 go_step3
 go_wp2
 go_loopw [7, 14] (fun a iv wr => ∃ i : Nat, i ≤ ts.length ∧ iv = .int .i64 (i : Int) ∧ Hid (wr.ownsRow w.heap.size 3 1 a (txL (ts.take i) ls).length (celJ (txL (ts.take i) ls)) ∧ Below w.heap.size w wr)) (fun _ iv _ => ts.length - (intOf iv).toNat)
 case atStart => exact ⟨0, by omega, rfl, Lib.hid ⟨World.ownsRow_nil _ _ _ _, Below.refl _ _⟩⟩
 case round =>
  obtain ⟨i, hin, rfl, HQ⟩ := hrel
  by_cases hlt : i < ts.length
  ·obtain ⟨ad, rfl, hbl, hrr⟩ := HT.out (by omega)
   obtain ⟨r, hr⟩ : ∃ r, ts[i]? = some r := ⟨_, List.getElem?_eq_getElem hlt⟩
   obtain ⟨Ar, cr, hc, hri, hrl⟩ := hrr i r hr
   have c0 : wr.cell? (ad.add i) = some (.slice Ar r.length cr) := (HQ.out.2.cell (p := ad.add i) (by rw [block_of_add]; omega)).trans hc
   have HRI := Lib.hid (hri.below (HQ.out.2.mono hB))
   have HLI := Lib.hid (HL.out.below (HQ.out.2.mono hB))
   have HNX : Hid (txL (ts.take (i + 1)) ls = txL (ts.take i) ls ++ if begB r ls then [(r.length : Int)] else []) := Lib.hid (by rw [take_snoc hr, txL_snoc])
   have hlt' : (i : Int) < (ts.length : Int) := by omega
   have HLN := Lib.hid (HL.out.1)
   clear hrr hr hc hri hbl
   by_cases e0 : r.length = 0
   ·have hbg : begB r ls = false := by
     unfold begB
     rw [decide_eq_false_iff_not]
     rintro ⟨h, -⟩
     exact h (List.eq_nil_of_length_eq_zero e0)
    have HE : Hid (txL (ts.take (i + 1)) ls = txL (ts.take i) ls) := Lib.hid (by rw [HNX.out, hbg]; simp)
    have he : ((r.length : Int) == 0) = true := by rw [beq_iff_eq]; omega
    clear hbg
    go_wp2
    go_roundw
    case rel => exact ⟨i + 1, by omega, by go_num, Lib.hid (by rw [HE.out]; exact HQ.out)⟩
    case measure => simp [intOf]; omega
   ·have he : ((r.length : Int) == 0) = false := by rw [beq_eq_false_iff_ne]; omega
    by_cases e1 : nl < r.length
    ·have hbg : begB r ls = false := by
      unfold begB
      rw [decide_eq_false_iff_not]
      rintro ⟨-, h, -⟩
      have := HLN.out
      omega
     have HE : Hid (txL (ts.take (i + 1)) ls = txL (ts.take i) ls) := Lib.hid (by rw [HNX.out, hbg]; simp)
     clear hbg
     go_wp2
     go_roundw
     case rel => exact ⟨i + 1, by omega, by go_num, Lib.hid (by rw [HE.out]; exact HQ.out)⟩
     case measure => simp [intOf]; omega
    ·go_wp2
     go_loopw [30] (fun jv wr2 => ∃ j : Nat, j ≤ r.length ∧ jv = .int .i64 (j : Int) ∧ r.take j = ls.take j ∧ wr = wr2) (fun jv _ => r.length - (intOf jv).toNat)
     case atStart => exact ⟨0, by omega, rfl, rfl, rfl⟩
     case round =>
      obtain ⟨j, hj, rfl, htk, rfl⟩ := hrel
      by_cases hjl : j < r.length
      ·obtain ⟨ar, x, rfl, hrb, hx, hcx⟩ := HRI.out.at_ hjl
       obtain ⟨al, y, rfl, hlb, hy, hcy⟩ := HLI.out.at_ (k := j) (by omega)
       have hjl' : (j : Int) < (r.length : Int) := by omega
       have hjn : (j : Int) < (nl : Int) := by omega
       by_cases hxy : x = y
       ·subst hxy
        have hal := alikeE_any wr x none
        have HTK : Hid (r.take (j + 1) = ls.take (j + 1)) := Lib.hid (by rw [take_snoc hx, take_snoc hy, htk])
        clear hx hy htk
        go_wp2_with fail
        refine hal.mono ?_
        rintro e w' ⟨rfl, rfl⟩
        clear hal
        go_wp2
        go_roundw
        case rel => exact ⟨j + 1, by omega, by go_num, HTK.out, trivial⟩
        case measure => simp [intOf]; omega
       ·have hal := alikeN_any wr x y hxy
        have HE : Hid (txL (ts.take (i + 1)) ls = txL (ts.take i) ls) := Lib.hid (by
         have hbg : begB r ls = false := by
          unfold begB
          rw [decide_eq_false_iff_not]
          rintro ⟨-, -, h⟩
          have h2 : r[j]? = ls[j]? := by rw [h, List.getElem?_take_of_lt hjl]
          rw [hx, hy] at h2
          exact hxy (Option.some.inj h2)
         rw [HNX.out, hbg]; simp)
        clear hx hy htk
        go_wp2_with fail
        refine hal.mono ?_
        rintro e w' ⟨rfl, rfl⟩
        clear hal
        go_wp2
        go_roundw
        case rel => exact ⟨i + 1, by omega, by go_num, Lib.hid (by rw [HE.out]; exact HQ.out)⟩
        case measure => simp [intOf]; omega
      ·obtain rfl : j = r.length := by omega
       have HE : Hid (txL (ts.take (i + 1)) ls = txL (ts.take i) ls ++ [(r.length : Int)]) := Lib.hid (by
        have hbg : begB r ls = true := by
         unfold begB
         rw [decide_eq_true_iff]
         refine ⟨fun h => e0 (by rw [h]; rfl), by have := HLN.out; omega, ?_⟩
         rw [← htk, List.take_length]
        rw [HNX.out, hbg]; simp)
       have HLE : Hid ((txL (ts.take i) ls).length ≤ 100000) := Lib.hid (by have := txL_len (ts.take i) ls; rw [List.length_take] at this; omega)
       have hle := HLE.out
       have hsz := HQ.out.2.size
       clear htk
       go_wp2_with (at_builtin; (refine wpList_append_own _ rfl _ _ 40 rfl w.heap.size 3 i0 (.int .i64 0) 1 8 Tryz.underlying40 hi hz0 hz1 hz2 rfl (by decide) _ _ _ rfl (HQ.out.1.alloc _) _ 1 1 [.int .i64 (r.length : Int)] rfl rfl (cell_one_new _ _ _) (by intro u hu; simp at hu; subst hu; rfl) (by unfold maxLen; omega) (by omega) (by simp; omega) ?_); intro v' w3 hown' hgrow _; have HO3 := Lib.hid hown'; have HG3 := Lib.hid hgrow; clear hown' hgrow)
       go_roundw
       case rel => exact ⟨i + 1, by omega, by go_num, Lib.hid ⟨by rw [HE.out, List.length_append]; simpa [celJ] using HO3.out, (HQ.out.2.alloc HQ.out.2.size _).grown HG3.out (by simp; omega) (fun j hj => (HQ.out.1.lt j hj).1)⟩⟩
       case measure => simp [intOf]; omega
  ·obtain rfl : i = ts.length := by omega
   have HE : Hid (wr.ownsRow w.heap.size 3 1 u7 (txL ts ls).length (celJ (txL ts ls)) ∧ Below w.heap.size w wr) := Lib.hid (by have := HQ.out; rwa [List.take_length] at this)
   clear HQ
   go_wp2
   first | go_ret | (rw [Exit.noGoto_ret]; go_ret)
   exact ⟨_, rfl, HE.out⟩
end Go.Proofs.YthgiikhkcpbpfaaGreatDoor.C
