/-
  The walk of the law CellSeen: it returns true for all choices, where the library's table stands as it was laid; nothing that was there changes.
-/
import Derived.Test.YtkijkkhjlfllnaaDoorCellR
import Derived.Test.YtkijkkhjlfllnaaDoorWCellOrder
import Derived.Laws.Concat
import Derived.OpenShut
namespace Go.Proofs.YtkijkkhjlfllnaaDoor.C
open Go.RowKit

/-- the letter of a choice -/
def letter (z : Int) : UInt8 := (97 + z.toNat % 26).toUInt8
def plainL (zs : List Int) : List UInt8 := (zs.take 40).map letter
theorem letter_nat (z : Int) : (letter z).toNat = 97 + z.toNat % 26 := by unfold letter; exact toUInt8_toNat _ (by omega)
theorem letters_map (zs : List Int) : Letters (zs.map letter) := by
  intro b hb
  simp only [List.mem_map] at hb
  obtain ⟨z, _, rfl⟩ := hb
  rw [letter_nat]
  omega
/-- a text of one byte, out of a new row -/
theorem conv_one (W : World) (x : Int) (h0 : 0 ≤ x) (h1 : x ≤ 255) : (convert 22 9 (.slice (some ⟨W.heap.size, 0, none⟩) 1 1)).run Tryd.prog (W.alloc (.cells #[.int .u8 x] 5)) = .ok (.string (str [x.toNat.toUInt8])) (W.alloc (.cells #[.int .u8 x] 5)) := by
  refine run_convert_bytes_back _ 22 9 5 ⟨W.heap.size, 0, none⟩ 1 [x.toNat.toUInt8] Tryd.underlying22 Tryd.underlying5 Tryd.underlying9 ?_
  intro j hj
  have hj0 : j = 0 := by simp at hj; omega
  subst hj0
  have := cell_one_new W (.int .u8 x) 5 0 _ rfl
  rw [this]
  simp only [List.getElem_cons_zero]
  rw [toUInt8_toNat _ (by omega), Int.toNat_of_nonneg h0]

set_option maxHeartbeats 4000000 in
theorem cellSeenWalk (a0 : Option Addr) (len0 cap0 : Nat) (z0 : List Int) (a1 : Option Addr) (len1 cap1 : Nat) (z1 : List Int) (w : World)
    (hT : w.cell? ⟨2, 15, none⟩ = some (.int .u8 4)) (w0 : L.IsRow .u8 w a0 len0 cap0 z0) (w1 : L.IsRow .u8 w a1 len1 cap1 z1) :
    Calls Tryd.prog 5 #[.slice a0 len0 cap0, .slice a1 len1 cap1] w fun e w' => e = .returned (.bool true) ∧ Below w.heap.size w w' := by
  have hTB := World.block_lt_of_cell? w _ hT
  have HT := Lib.hid hT
  have W0 := Lib.hid w0
  have HS := Lib.hid (RI.of_row w1)
  have HSZ := Lib.hid (row_u8 w1)
  have hl1 := (row_len w1).1
  have hl2 := (row_len w1).2
  unfold maxLen at hl2
  clear hT w0 w1
  generalize z1.take len1 = S at *
  go_enter Tryd.func5, Tryd.ntmps5
  go_wp2_with fail
  refine (cells_row w w a0 len0 cap0 z0 W0.out (Below.refl _ _)).mono ?_
  rintro e v1 ⟨A, n, c, rfl, hnc, hn60, hx, hb1⟩
  have HX := Lib.hid hx
  have hs1 := hb1.size
  generalize cellsL (z0.take len0) = X at *
  clear hx
  go_wp2_with fail
  refine (text_any v1 v1.heap.size A n c X HX.out (Nat.le_refl _) (by omega) ((hb1.cell (p := ⟨2, 15, none⟩) hTB).trans HT.out)).mono ?_
  rintro e v2 ⟨rfl, hb2⟩
  have hs2 := hb2.size
  have B2 : Below w.heap.size w v2 := hb1.trans (hb2.mono hs1)
  have HSEEN := Lib.hid (textL_seen X)
  have hTl := textL_le X
  have hXl := HX.out.len
  have hTs := str_size (textL X)
  have hTs2 : (str (textL X)).size ≤ 600 := by omega
  clear hTl hXl hTs
  generalize textL X = T at *
  go_wp2_with fail
  go_loop [6] (fun iv => ∃ i : Nat, i ≤ (str T).size ∧ iv = .int .i64 i) (fun iv => (str T).size - (intOf iv).toNat)
  case atStart => exact ⟨0, Nat.zero_le _, rfl⟩
  case round =>
    obtain ⟨i, hi, rfl⟩ := hrel
    by_cases hlt : i < (str T).size
    · have hbd := HSEEN.out ((str T)[i]) (by rw [str_get]; exact List.getElem_mem _)
      have hb1' : (32 : Int) ≤ ((str T)[i].toNat : Int) := by omega
      have hb2' : ((str T)[i].toNat : Int) ≤ 126 := by omega
      clear hbd
      go_wp2
      go_round
      case rel => exact ⟨i + 1, by omega, by go_num⟩
      case measure => simp [intOf]; omega
    · go_wp2_with fail
      go_loopw [7, 8] (fun sv jv wr => ∃ j : Nat, j ≤ len1 ∧ j ≤ 40 ∧ sv = .string (str ((S.take j).map letter)) ∧ jv = .int .i64 j ∧ Below w.heap.size w wr) (fun _ jv _ => 40 - (intOf jv).toNat)
      case atStart => exact ⟨0, Nat.zero_le _, by omega, rfl, rfl, B2⟩
      case round =>
        obtain ⟨j, hj, hj40, rfl, rfl, hb⟩ := hrel
        have hpl : (str ((S.take j).map letter)).size ≤ 40 := by rw [str_size]; simp; omega
        by_cases hlt2 : j < len1 ∧ j < 40
        · obtain ⟨h1, h2⟩ := hlt2
          obtain ⟨ad, z, rfl, hbl, hz, hcell⟩ := HS.out.at_ h1
          obtain ⟨z0', z1'⟩ := HSZ.out z (List.mem_of_getElem? hz)
          have hcr : wr.cell? (ad.add j) = some (.int .u8 z) := (hb.cell (p := ad.add j) (by rw [block_of_add]; omega)).trans hcell
          have hsn : str ((S.take j).map letter) ++ str [letter z] = str ((S.take (j + 1)).map letter) := by rw [str_app, take_snoc hz]; simp
          have HSN := Lib.hid hsn
          clear hsn hz hcell
          have hcv := fun W => conv_one W (97 + z % 26) (by omega) (by omega)
          have hlz : (97 + z % 26).toNat.toUInt8 = letter z := by
            unfold letter
            congr 1
            omega
          rw [hlz] at hcv
          have hpl2 : (str ((S.take j).map letter)).size + (str [letter z]).size ≤ 9223372036854775807 := by
            have e1 := str_size [letter z]
            have e2 : [letter z].length = 1 := rfl
            omega
          clear hlz
          generalize str ((S.take j).map letter) = PJ at *
          go_wp2
          go_roundw
          case rel => exact ⟨j + 1, by omega, by omega, by rw [← HSN.out], by go_num, hb.alloc hb.size _⟩
          case measure => simp [intOf]; omega
        · have HTW := Lib.hid ((hb.cell (p := ⟨2, 15, none⟩) hTB).trans HT.out)
          have hsw := hb.size
          have HLT := Lib.hid (letters_map (S.take j))
          generalize (S.take j).map letter = LJ at *
          by_cases h1 : j < len1
          · have h3 : decide ((j : Int) < 40) = false := by simp; omega
            go_wp2_with fail
            refine (known_any wr HTW.out).mono ?_
            rintro e v3 ⟨rfl, hb3⟩
            have hs3 := hb3.size
            go_wp2_with fail
            refine (of_any (str LJ) v3 (by omega)).mono ?_
            rintro e v4 ⟨V4, rfl, hown4, hb4⟩
            obtain ⟨A4, c4, rfl, hc4, hr4⟩ := own_slice hown4
            have hs4 := hb4.size
            have HR4 := Lib.hid hr4
            clear hr4 hown4
            have hol := ofL_le (str LJ)
            go_wp2_with fail
            refine (text_is v4 v4.heap.size A4 _ c4 _ HR4.out (Nat.le_refl _) (by omega) (((hb4.cell (p := ⟨2, 15, none⟩) (by show 2 < _; omega)).trans (hb3.cell (p := ⟨2, 15, none⟩) (by show 2 < _; omega))).trans HTW.out) _ (text_of_letters LJ HLT.out)).mono ?_
            rintro e v5 ⟨rfl, hb5⟩
            go_wp2
            go_ret
            exact ⟨by simp, ((hb.trans (hb3.mono hsw)).trans (hb4.mono (by omega))).trans (hb5.mono (by omega))⟩
          · have h3 : decide (j < len1) = false := by simpa using h1
            go_wp2_with fail
            refine (known_any wr HTW.out).mono ?_
            rintro e v3 ⟨rfl, hb3⟩
            have hs3 := hb3.size
            go_wp2_with fail
            refine (of_any (str LJ) v3 (by omega)).mono ?_
            rintro e v4 ⟨V4, rfl, hown4, hb4⟩
            obtain ⟨A4, c4, rfl, hc4, hr4⟩ := own_slice hown4
            have hs4 := hb4.size
            have HR4 := Lib.hid hr4
            clear hr4 hown4
            have hol := ofL_le (str LJ)
            go_wp2_with fail
            refine (text_is v4 v4.heap.size A4 _ c4 _ HR4.out (Nat.le_refl _) (by omega) (((hb4.cell (p := ⟨2, 15, none⟩) (by show 2 < _; omega)).trans (hb3.cell (p := ⟨2, 15, none⟩) (by show 2 < _; omega))).trans HTW.out) _ (text_of_letters LJ HLT.out)).mono ?_
            rintro e v5 ⟨rfl, hb5⟩
            go_wp2
            go_ret
            exact ⟨by simp, ((hb.trans (hb3.mono hsw)).trans (hb4.mono (by omega))).trans (hb5.mono (by omega))⟩
end Go.Proofs.YtkijkkhjlfllnaaDoor.C
