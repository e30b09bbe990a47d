/-
  Contracts of the statements' own generator Bytes (at most 62 bytes, in new memory) and of known, the chapter's examples: true wherever the decoder's two tables stand as they were laid; nothing that was there changes.
-/
import Derived.Test.YtijlecfjgcohhaaDoorCdcG
import Derived.Test.YtijlecfjgcohhaaDoorCdcN
import Derived.Test.YtijlecfjgcohhaaDoorCdcV
import Derived.Test.YtijlecfjgcohhaaDoorCdcW
namespace Go.Proofs.YtijlecfjgcohhaaDoor.C
open Go.RowKit

/-- what choices choose -/
def mixL (k : Int) (zs : List Int) : List Int :=
  if k % 4 = 0 then bytesL zs else if k % 4 = 1 then [254, 255] ++ U.bytesL zs else if k % 4 = 2 then [255, 254] ++ U.bytesL zs else U.bytesL zs
theorem mixL_bd (k : Int) (zs : List Int) : Bd (mixL k zs) := by
  unfold mixL
  split
  · exact bytesL_bd zs
  split
  · exact bd_app bd_be (U.bytesL_bd zs)
  split
  · exact bd_app bd_le (U.bytesL_bd zs)
  · exact U.bytesL_bd zs
theorem mixL_len (k : Int) (zs : List Int) : (mixL k zs).length ≤ 62 := by
  have h1 := bytesL_len zs
  have h2 := U.bytesL_len zs
  unfold mixL
  split
  · omega
  split
  · simp; omega
  split
  · simp; omega
  · omega

/-- what Bytes answers -/
def MixTold (k : Int) (zs : List Int) (w : World) (e : Ending) (w' : World) : Prop :=
  ∃ A n c, e = .returned (.slice A n c) ∧ n ≤ c ∧ c ≤ maxLen ∧ n ≤ 62 ∧ RI .u8 w' w'.heap.size A n (mixL k zs) ∧ Below w.heap.size w w'

set_option maxRecDepth 100000 in
set_option maxHeartbeats 2000000 in
theorem mix_any (w : World) (Bx : Nat) (Ax : Option Addr) (n cx : Nat) (k : Int) (zs : List Int) (hx : RI .u8 w Bx Ax n zs) (hBx : Bx ≤ w.heap.size) (hn : n ≤ 9223372036854775807) (hz : Bd zs) (k0 : 0 ≤ k) (k1 : k ≤ 255) :
    Calls Tryd.prog 15 #[.slice Ax n cx, .int .u8 k] w (MixTold k zs w) := by
  obtain ⟨i0, hi, hz0, hz1, hz2⟩ := info_parts info8
  have HX := Lib.hid hx
  have HZ := Lib.hid hz
  clear hx hz
  have hm := mixL_len k zs
  by_cases h0 : k % 4 = 0
  · have he : mixL k zs = bytesL zs := by unfold mixL; rw [if_pos h0]
    have HE := Lib.hid he
    clear he
    go_enter Tryd.func15, Tryd.ntmps15
    go_wp2_with fail
    with_reducible refine (bytes_any w Bx Ax n cx zs HX.out hBx hn HZ.out).mono ?_
    rintro e w1 ⟨v, rfl, hown, hb⟩
    obtain ⟨A', c', rfl, h1, h2, h3⟩ := own_slice2 hown
    have H3 := Lib.hid h3
    clear hown h3
    go_wp2
    go_ret
    exact ⟨A', _, c', rfl, h1, h2, by rw [HE.out] at hm; exact hm, by rw [HE.out]; exact H3.out, hb⟩
  by_cases h1 : k % 4 = 1
  · have he : mixL k zs = [254, 255] ++ U.bytesL zs := by unfold mixL; rw [if_neg h0, if_pos h1]
    have HE := Lib.hid he
    clear he
    obtain ⟨W, hW⟩ : ∃ W, W = w.alloc (.cells #[.int .u8 254, .int .u8 255] 5) := ⟨_, rfl⟩
    have hbW : Below w.heap.size w W := by rw [hW]; exact (Below.refl _ w).alloc (Nat.le_refl _) _
    have hsW : W.heap.size = w.heap.size + 1 := by rw [hW]; simp
    have hmk : RI .u8 W (w.heap.size + 1) (some ⟨w.heap.size, 0, none⟩) 2 [254, 255] := by rw [hW]; exact RI.new w .u8 [254, 255] _
    have HM := Lib.hid hmk
    have HXW := Lib.hid (HX.out.on hbW hBx)
    clear hmk
    go_enter Tryd.func15, Tryd.ntmps15
    go_wp2_with fail
    rw [← hW]
    clear hW
    with_reducible refine (U.bytes_any W Bx Ax n cx zs HXW.out (by omega) hn HZ.out).mono ?_
    rintro e w1 ⟨v, rfl, hown, hb⟩
    obtain ⟨A', c', rfl, h1', h2, h3⟩ := own_slice2 hown
    have hs := hb.size
    have hl := U.bytesL_len zs
    have H3 := Lib.hid h3
    clear hown h3
    generalize hln : (U.bytesL zs).length = ln at *
    have HLN := Lib.hid hln
    clear hln
    go_wp2_with (at_builtin; (refine wpList_append_full _ rfl _ _ 22 rfl 5 i0 (.int .u8 0) Tryd.underlying22 hi hz0 hz1 hz2 rfl (w.heap.size + 1) ⟨w.heap.size, 0, none⟩ 2 [254, 255] rfl (HM.out.on hb (by omega)) (by omega) (by omega) w1.heap.size A' ln c' (U.bytesL zs) rfl H3.out (by omega) ?_); rintro v' w4 ⟨A4, c4, rfl, h4c, h4m, hr4, hb4⟩; have HR4 := Lib.hid hr4; clear hr4)
    go_ret
    refine ⟨A4, _, c4, rfl, h4c, h4m, ?_, by rw [HE.out]; exact HR4.out, (hbW.trans (hb.mono (by omega))).trans (hb4.mono (by omega))⟩
    rw [HE.out] at hm
    exact hm
  by_cases h2 : k % 4 = 2
  · have he : mixL k zs = [255, 254] ++ U.bytesL zs := by unfold mixL; rw [if_neg h0, if_neg h1, if_pos h2]
    have HE := Lib.hid he
    clear he
    obtain ⟨W, hW⟩ : ∃ W, W = w.alloc (.cells #[.int .u8 255, .int .u8 254] 5) := ⟨_, rfl⟩
    have hbW : Below w.heap.size w W := by rw [hW]; exact (Below.refl _ w).alloc (Nat.le_refl _) _
    have hsW : W.heap.size = w.heap.size + 1 := by rw [hW]; simp
    have hmk : RI .u8 W (w.heap.size + 1) (some ⟨w.heap.size, 0, none⟩) 2 [255, 254] := by rw [hW]; exact RI.new w .u8 [255, 254] _
    have HM := Lib.hid hmk
    have HXW := Lib.hid (HX.out.on hbW hBx)
    clear hmk
    go_enter Tryd.func15, Tryd.ntmps15
    go_wp2_with fail
    rw [← hW]
    clear hW
    with_reducible refine (U.bytes_any W Bx Ax n cx zs HXW.out (by omega) hn HZ.out).mono ?_
    rintro e w1 ⟨v, rfl, hown, hb⟩
    obtain ⟨A', c', rfl, h1', h2', h3⟩ := own_slice2 hown
    have hs := hb.size
    have hl := U.bytesL_len zs
    have H3 := Lib.hid h3
    clear hown h3
    generalize hln : (U.bytesL zs).length = ln at *
    have HLN := Lib.hid hln
    clear hln
    go_wp2_with (at_builtin; (refine wpList_append_full _ rfl _ _ 22 rfl 5 i0 (.int .u8 0) Tryd.underlying22 hi hz0 hz1 hz2 rfl (w.heap.size + 1) ⟨w.heap.size, 0, none⟩ 2 [255, 254] rfl (HM.out.on hb (by omega)) (by omega) (by omega) w1.heap.size A' ln c' (U.bytesL zs) rfl H3.out (by omega) ?_); rintro v' w4 ⟨A4, c4, rfl, h4c, h4m, hr4, hb4⟩; have HR4 := Lib.hid hr4; clear hr4)
    go_ret
    refine ⟨A4, _, c4, rfl, h4c, h4m, ?_, by rw [HE.out]; exact HR4.out, (hbW.trans (hb.mono (by omega))).trans (hb4.mono (by omega))⟩
    rw [HE.out] at hm
    exact hm
  · have he : mixL k zs = U.bytesL zs := by unfold mixL; rw [if_neg h0, if_neg h1, if_neg h2]
    have HE := Lib.hid he
    clear he
    go_enter Tryd.func15, Tryd.ntmps15
    go_wp2_with fail
    with_reducible refine (U.bytes_any w Bx Ax n cx zs HX.out hBx hn HZ.out).mono ?_
    rintro e w1 ⟨v, rfl, hown, hb⟩
    obtain ⟨A', c', rfl, h1', h2', h3⟩ := own_slice2 hown
    have H3 := Lib.hid h3
    clear hown h3
    go_wp2
    go_ret
    exact ⟨A', _, c', rfl, h1', h2', by rw [HE.out] at hm; exact hm, by rw [HE.out]; exact H3.out, hb⟩
end Go.Proofs.YtijlecfjgcohhaaDoor.C
