/-
  The contract of the document's own Text: the text that shows the cells, for at most 1000 cells; nothing that was there changes.
-/
import Derived.Test.YtkijkkhjlfllnaaDoorCellS
import Derived.Test.YtkijkkhjlfllnaaDoorWCellSeen
namespace Go.Proofs.YtkijkkhjlfllnaaDoor.C
open Go.RowKit

theorem bytes_assoc (a b c : ByteArray) : a ++ b ++ c = a ++ (b ++ c) := by
  apply ByteArray.ext
  simp

set_option maxHeartbeats 4000000 in
theorem refText_any (w : World) (Bx : Nat) (Ax : Option Addr) (n cx : Nat) (xs : List Int) (hx : RI .i32 w Bx Ax n xs) (hBx : Bx ≤ w.heap.size) (hn : n ≤ 1000) :
    Calls Tryd.prog 26 #[.slice Ax n cx] w fun e w' => e = .returned (.string (str (textL xs))) ∧ Below w.heap.size w w' := by
  have HX := Lib.hid hx
  clear hx
  go_enter Tryd.func26, Tryd.ntmps26
  go_wp2
  go_loopw [3, 4] (fun sv iv wr => ∃ i : Nat, i ≤ n ∧ sv = .string (str (textL (xs.take i))) ∧ iv = .int .i64 i ∧ Below w.heap.size w wr) (fun _ iv _ => n - (intOf iv).toNat)
  case atStart => exact ⟨0, Nat.zero_le _, rfl, rfl, Below.refl _ _⟩
  case round =>
    obtain ⟨i, hin, rfl, rfl, hb⟩ := hrel
    by_cases hlt : i < n
    · obtain ⟨ad, c, rfl, hbl, hc, hcell⟩ := HX.out.at_ hlt
      have hcr : wr.cell? (ad.add i) = some (.int .i32 c) := (hb.cell (p := ad.add i) (by rw [block_of_add]; omega)).trans hcell
      have hTI : (str (textL (xs.take i))).size ≤ 10000 := by
        rw [str_size]
        have h1 := textL_le (xs.take i)
        have h2 : (xs.take i).length ≤ i := List.length_take_le _ _
        omega
      have hsn : str (textL (xs.take i)) ++ str (shown c) = str (textL (xs.take (i + 1))) := by rw [str_app, take_snoc hc, textL_snoc]
      have HSN := Lib.hid hsn
      clear hsn hc hcell
      generalize str (textL (xs.take i)) = TI at *
      by_cases h1 : ¬ (-256 ≤ c ∧ c < 55296 ∨ 57343 < c ∧ c ≤ 1114111)
      · have hsh : shown c = [92, 63] := by
          unfold shown
          rw [if_neg (by omega), if_pos h1]
        have HSH := Lib.hid hsh
        clear hsh
        have hr : rightB c = false := by simp [rightB]; omega
        have HR := Lib.hid hr
        clear hr
        go_wp2_with fail
        refine (refByte_no c wr (by omega)).mono ?_
        rintro e w' ⟨rfl, rfl⟩
        go_wp2_with fail
        refine (refRight_is c wr _ HR.out).mono ?_
        rintro e w' ⟨rfl, rfl⟩
        go_wp2
        go_roundw
        case rel => exact ⟨i + 1, by omega, by rw [← HSN.out, HSH.out]; rfl, by go_num, hb⟩
        case measure => simp [intOf]; omega
      have h1' : -256 ≤ c ∧ c < 55296 ∨ 57343 < c ∧ c ≤ 1114111 := by omega
      clear h1
      have hr : rightB c = true := by simp [rightB]; omega
      have HR := Lib.hid hr
      clear hr
      by_cases h2 : -256 ≤ c ∧ c < 0
      · obtain ⟨h2a, h2b⟩ := h2
        have hsh : shown c = [92, 120, dig ((-1 - c).toNat / 16), dig ((-1 - c).toNat % 16)] := by
          unfold shown
          rw [if_pos ⟨h2a, h2b⟩]
        obtain ⟨b, hb0⟩ : ∃ b : Nat, -1 - c = b := ⟨(-1 - c).toNat, by omega⟩
        rw [hb0, Int.toNat_natCast] at hsh
        have hb2 : b ≤ 255 := by omega
        have HSH := Lib.hid hsh
        have HB := Lib.hid hb0
        clear hsh hb0
        go_wp2_with fail
        refine (refByte_yes c wr h2a h2b).mono ?_
        rintro e w' ⟨rfl, rfl⟩
        rw [HB.out]
        go_wp2_with fail
        refine (refRight_is c wr _ HR.out).mono ?_
        rintro e w' ⟨rfl, rfl⟩
        go_wp2_with fail
        refine (hex_two b hb2 wr).mono ?_
        rintro e w' ⟨rfl, rfl⟩
        have z2 : (str [dig (b / 16), dig (b % 16)]).size = 2 := rfl
        have heq : TI ++ ByteArray.mk #[92, 120] ++ str [dig (b / 16), dig (b % 16)] = str (textL (xs.take (i + 1))) := by
          rw [← HSN.out, HSH.out, bytes_assoc]
          rfl
        have HEQ := Lib.hid heq
        clear heq
        generalize str [dig (b / 16), dig (b % 16)] = HX2 at *
        go_wp2
        go_roundw
        case rel => exact ⟨i + 1, by omega, by rw [HEQ.out], by go_num, hb⟩
        case measure => simp [intOf]; omega
      have c0 : 0 ≤ c := by omega
      by_cases h3 : c = 10
      · subst h3
        have hsh : shown 10 = [92, 110] := by
          rfl
        have HSH := Lib.hid hsh
        clear hsh
        go_wp2_with fail
        refine (refByte_no 10 wr (by omega)).mono ?_
        rintro e w' ⟨rfl, rfl⟩
        go_wp2_with fail
        refine (refRight_is 10 wr _ HR.out).mono ?_
        rintro e w' ⟨rfl, rfl⟩
        go_wp2
        go_roundw
        case rel => exact ⟨i + 1, by omega, by rw [← HSN.out, HSH.out]; rfl, by go_num, hb⟩
        case measure => simp [intOf]; omega
      by_cases h4 : c = 92
      · subst h4
        have hsh : shown 92 = [92, 92] := by
          rfl
        have HSH := Lib.hid hsh
        clear hsh
        go_wp2_with fail
        refine (refByte_no 92 wr (by omega)).mono ?_
        rintro e w' ⟨rfl, rfl⟩
        go_wp2_with fail
        refine (refRight_is 92 wr _ HR.out).mono ?_
        rintro e w' ⟨rfl, rfl⟩
        go_wp2
        go_roundw
        case rel => exact ⟨i + 1, by omega, by rw [← HSN.out, HSH.out]; rfl, by go_num, hb⟩
        case measure => simp [intOf]; omega
      have e3 : (c == 10) = false := by simpa using h3
      have e4 : (c == 92) = false := by simpa using h4
      by_cases h5 : 32 ≤ c ∧ c ≤ 126
      · obtain ⟨h5a, h5b⟩ := h5
        have hsh : shown c = [c.toNat.toUInt8] := by
          unfold shown
          rw [if_neg (by omega), if_neg (by omega), if_neg h4, if_neg h3, if_pos ⟨h5a, h5b⟩]
        have HSH := Lib.hid hsh
        have hcv := fun W => conv_one W c (by omega) (by omega)
        have z1 : (str [c.toNat.toUInt8]).size = 1 := rfl
        clear hsh h3 h4 h1'
        go_wp2_with fail
        refine (refByte_no c wr (by omega)).mono ?_
        rintro e w' ⟨rfl, rfl⟩
        go_wp2_with fail
        refine (refRight_is c wr _ HR.out).mono ?_
        rintro e w' ⟨rfl, rfl⟩
        go_wp2
        go_roundw
        case rel => exact ⟨i + 1, by omega, by rw [← HSN.out, HSH.out], by go_num, hb.alloc hb.size _⟩
        case measure => simp [intOf]; omega
      have hsh : shown c = [92, 117, 123] ++ hexL c.toNat ++ [125] := by
        unfold shown
        rw [if_neg (by omega), if_neg (by omega), if_neg h4, if_neg h3, if_neg h5]
      have hle : c ≤ 1114111 := by omega
      have hlen := hexL_len 5 c.toNat (by have : (16 : Nat) ^ (5 + 1) = 16777216 := by decide
                                          omega)
      have h6 : c < 32 ∨ 126 < c := by omega
      have HSH := Lib.hid hsh
      have hxs : (str (hexL c.toNat)).size ≤ 6 := by rw [str_size]; exact hlen
      have heq : TI ++ ByteArray.mk #[92, 117, 123] ++ str (hexL c.toNat) ++ ByteArray.mk #[125] = str (textL (xs.take (i + 1))) := by
        rw [← HSN.out, HSH.out, ← str_app, ← str_app, ← bytes_assoc, ← bytes_assoc]
        rfl
      have HEQ := Lib.hid heq
      have hc2 : c = ((c.toNat : Nat) : Int) := by omega
      have HC2 := Lib.hid hc2
      have hcn : c.toNat ≤ 1114111 := by omega
      clear hsh h3 h4 h1' h5 hlen heq hc2
      rcases h6 with h6 | h6
      all_goals
        go_wp2_with fail
        refine (refByte_no c wr (by omega)).mono ?_
        rintro e w' ⟨rfl, rfl⟩
        go_wp2_with fail
        refine (refRight_is c wr _ HR.out).mono ?_
        rintro e w' ⟨rfl, rfl⟩
        have t1 : decide (126 < c) = decide (126 < c) := rfl
        clear t1
        go_wp2_with fail
        rw [HC2.out]
        refine (hex_one c.toNat hcn wr).mono ?_
        rintro e w' ⟨rfl, rfl⟩
        generalize str (hexL c.toNat) = HX2 at *
        go_wp2
        go_roundw
        case rel => exact ⟨i + 1, by omega, by rw [HEQ.out], by go_num, hb⟩
        case measure => simp [intOf]; omega
    · have e1 : xs.take i = xs := List.take_of_length_le (by rw [HX.out.len]; omega)
      rw [e1]
      clear e1
      go_wp2
      go_ret
      exact ⟨rfl, hb⟩
end Go.Proofs.YtkijkkhjlfllnaaDoor.C
