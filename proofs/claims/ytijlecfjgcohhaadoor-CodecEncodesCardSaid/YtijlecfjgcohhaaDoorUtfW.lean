/-
  The document's own Of: the cells of a text (of at most 2^40 bytes) are what the plain function says, in new memory; nothing that was there changes.
-/
import Derived.Test.YtijlecfjgcohhaaDoorUtfV
import Derived.Test.YtijlecfjgcohhaaDoorUtfM
namespace Go.Proofs.YtijlecfjgcohhaaDoor.C
open Go.RowKit
open Go.Lib (decodeN)


theorem size_ext (s : ByteArray) (pos : Nat) : (s.extract pos s.size).size = s.size - pos := by simp
theorem gb_ext (s : ByteArray) (pos k : Nat) : gb (s.extract pos s.size) k = gb s (pos + k) := by
  simp only [gb_list]
  have hl : s.size = s.data.toList.length := (Array.length_toList (xs := s.data)).symm
  have he : (s.extract pos s.size).data.toList = s.data.toList.drop pos := by
    rw [Lib.extract_data]
    exact List.take_of_length_le (by rw [List.length_drop]; omega)
  rw [he]
  simp [List.getD_eq_getElem?_getD]
theorem first_ext (s : ByteArray) (pos : Nat) : First (s.extract pos s.size) = firstN (s.size - pos) (gb s pos) (gb s (pos + 1)) (gb s (pos + 2)) (gb s (pos + 3)) := by
  unfold First
  rw [size_ext, gb_ext, gb_ext, gb_ext, gb_ext, Nat.add_zero]
theorem first_good (s : ByteArray) (pos : Nat) (hp : pos < s.size) (h : ¬ decodeN (s.size - pos) (gb s pos) (gb s (pos + 1)) (gb s (pos + 2)) (gb s (pos + 3)) = (65533, 1)) :
    First (s.extract pos s.size) = Utf8.decode s pos ∧ cellAt s pos = ((Utf8.decode s pos).1 : Int) := by
  rw [first_ext, decode_gb, cellAt_eq s pos hp]
  unfold firstN cellN
  rw [if_neg h, if_neg h]
  exact ⟨rfl, rfl⟩
theorem first_wrong (s : ByteArray) (pos : Nat) (hp : pos < s.size) (h : decodeN (s.size - pos) (gb s pos) (gb s (pos + 1)) (gb s (pos + 2)) (gb s (pos + 3)) = (65533, 1)) :
    First (s.extract pos s.size) = (0, 0) ∧ cellAt s pos = -1 - (gb s pos : Int) ∧ (Utf8.decode s pos).2 = 1 := by
  rw [first_ext, decode_gb, cellAt_eq s pos hp]
  unfold firstN cellN
  rw [if_pos h, if_pos h, h]
  exact ⟨rfl, rfl, rfl⟩
theorem first_told (s : ByteArray) (w : World) (h1 : 1 ≤ s.size) (hmax : s.size ≤ maxLen) (F : Nat × Nat) (hF : First s = F) :
    Calls Tryd.prog 72 #[.string s] w fun e w' => e = .returned (.tuple #[.int .i32 (F.1 : Int), .int .i64 (F.2 : Int)]) ∧ Below w.heap.size w w' := by
  subst hF
  exact first_any s w h1 hmax

set_option maxHeartbeats 4000000 in
theorem refOf_any (s : ByteArray) (w : World) (hs : s.size ≤ 1099511627776) :
    Calls Tryd.prog 54 #[.string s] w fun e w' => ∃ v, e = .returned v ∧ w'.ownsRow w.heap.size 35 1 v (ofL s).length ((ofL s).map (Value.int .i32)) ∧ Below w.heap.size w w' := by
  obtain ⟨i0, hi, hz0, hz1, hz2⟩ := info_parts info33
  go_enter Tryd.func54, Tryd.ntmps54
  go_wp2
  go_loopw [3, 4] (fun v pv wr => ∃ (pos b : Nat) (acc : List Int), pv = .int .i64 pos ∧ OfSt s acc b pos ∧ Hid (wr.ownsRow w.heap.size 35 1 v acc.length (acc.map (Value.int .i32))) ∧ Below w.heap.size w wr) (fun _ pv _ => s.size - (intOf pv).toNat)
  case atStart => exact ⟨0, s.size, [], rfl, ofSt_zero s, World.ownsRow_nil _ _ _ _, Below.refl _ _⟩
  case round =>
    obtain ⟨pos, b, acc, rfl, hst, HW, hbr⟩ := hrel
    have HST := Lib.hid hst
    clear hst
    have hsz := hbr.size
    by_cases hp : pos < s.size
    · obtain ⟨b', hst'⟩ := ofSt_step HST.out hp
      have HS' := Lib.hid hst'
      have hwd := Lib.decode_width_pos s pos hp
      clear hst'
      by_cases hbad : decodeN (s.size - pos) (gb s pos) (gb s (pos + 1)) (gb s (pos + 2)) (gb s (pos + 3)) = (65533, 1)
      · obtain ⟨hF, hcv, hw1⟩ := first_wrong s pos hp hbad
        have HF := Lib.hid hF
        have HCV := Lib.hid hcv
        have HW1 := Lib.hid hw1
        have g0 := gb_get s pos hp
        have gl := gb_lt s pos
        clear hF hcv hw1 hbad hwd
        generalize gb s pos = b0 at *
        go_wp2_with fail
        refine (first_told (s.extract pos s.size) wr (by rw [size_ext]; omega) (by rw [size_ext]; unfold maxLen; omega) (0, 0) HF.out).mono ?_
        rintro e w1 ⟨rfl, hb1⟩
        have hs1 := hb1.size
        have HOW := Lib.hid (own_keep HW.out hb1)
        have hbW : Below w.heap.size w w1 := hbr.trans (hb1.mono hsz)
        go_wp2_with fail
        refine (refEscape_any (b0 : Int) w1 (by omega) (by omega)).mono ?_
        rintro e w' ⟨rfl, rfl⟩
        go_wp2_with (at_builtin; (refine wpList_append_own _ rfl _ _ 24 rfl w.heap.size 35 i0 (.int .i32 0) 1 4 Tryd.underlying24 hi hz0 hz1 hz2 rfl (by decide) _ _ _ rfl (HOW.out.alloc _) _ 1 1 [.int .i32 (-1 - (b0 : Int))] rfl rfl (cell_one_new _ _ _) (by intro u hu; simp at hu; subst hu; rfl) (by unfold maxLen; have := HST.out.2.2.2; omega) (by have := HST.out.2.2.2; omega) (by simp; omega) ?_); intro v' w3 hown' hgrow _; have HO3 := Lib.hid hown'; have HG3 := Lib.hid hgrow; clear hown' hgrow)
        go_roundw
        case rel => exact ⟨pos + (Utf8.decode s pos).2, b', acc ++ [cellAt s pos], by rw [HW1.out]; go_num, HS'.out, by have := HO3.out; rw [← HCV.out] at this; simpa [Hid] using this, ((hbW.alloc (by omega) _).grown HG3.out (by simp; omega) (fun k hk => (HOW.out.lt k hk).1))⟩
        case measure => simp [intOf]; omega
      · obtain ⟨hF, hcv⟩ := first_good s pos hp hbad
        have HF := Lib.hid hF
        have HCV := Lib.hid hcv
        have hwl := decodeN_le (s.size - pos) (gb s pos) (gb s (pos + 1)) (gb s (pos + 2)) (gb s (pos + 3)) (by omega)
        rw [← decode_gb] at hwl
        clear hF hcv hbad
        go_wp2_with fail
        refine (first_told (s.extract pos s.size) wr (by rw [size_ext]; omega) (by rw [size_ext]; unfold maxLen; omega) _ HF.out).mono ?_
        rintro e w1 ⟨rfl, hb1⟩
        have hs1 := hb1.size
        have HOW := Lib.hid (own_keep HW.out hb1)
        have hbW : Below w.heap.size w w1 := hbr.trans (hb1.mono hsz)
        have n0 : (((Utf8.decode s pos).2 : Int) == 0) = false := by simp; omega
        go_wp2_with (at_builtin; (refine wpList_append_own _ rfl _ _ 24 rfl w.heap.size 35 i0 (.int .i32 0) 1 4 Tryd.underlying24 hi hz0 hz1 hz2 rfl (by decide) _ _ _ rfl (HOW.out.alloc _) _ 1 1 [.int .i32 ((Utf8.decode s pos).1 : Int)] rfl rfl (cell_one_new _ _ _) (by intro u hu; simp at hu; subst hu; rfl) (by unfold maxLen; have := HST.out.2.2.2; omega) (by have := HST.out.2.2.2; omega) (by simp; omega) ?_); intro v' w3 hown' hgrow _; have HO3 := Lib.hid hown'; have HG3 := Lib.hid hgrow; clear hown' hgrow)
        go_roundw
        case rel => exact ⟨pos + (Utf8.decode s pos).2, b', acc ++ [cellAt s pos], by go_num, HS'.out, by have := HO3.out; rw [← HCV.out] at this; simpa [Hid] using this, ((hbW.alloc (by omega) _).grown HG3.out (by simp; omega) (fun k hk => (HOW.out.lt k hk).1))⟩
        case measure => simp [intOf]; omega
    · go_wp2
      go_ret
      refine ⟨_, rfl, ?_, hbr⟩
      rw [ofSt_end HST.out hp]
      exact HW.out
end Go.Proofs.YtijlecfjgcohhaaDoor.C
