/-
  Contracts of the document's own Canonical, of the statements' own generator Bytes (at most 60 bytes, in new memory) and of known, the chapter's examples: true; nothing that was there changes.
-/
import Derived.Test.YtbocibecjndooaaUcsG
namespace Go.Proofs.Ytbocibecjndooaa.C
open Go.RowKit

theorem sameL_is (xs ys : List Int) : sameL xs ys = sameB xs ys := by
  by_cases h : xs = ys
  · rw [sameL_true h]; simp [sameB, h]
  · rw [sameL_false h]; simp [sameB, h]
theorem same_is (w : World) (Bx By : Nat) (Ax Ay : Option Addr) (n cx m cy : Nat) (xs ys : List Int) (r : Bool) (h : sameB xs ys = r) (hx : RI .i32 w Bx Ax n xs) (hy : RI .i32 w By Ay m ys) (hn : n ≤ maxLen) (hm : m ≤ maxLen) :
    Calls Try.prog 13 #[.slice Ax n cx, .slice Ay m cy] w fun e w' => e = .returned (.bool r) ∧ Below w.heap.size w w' := by
  have := same_any w Bx By Ax Ay n cx m cy xs ys hx hy hn hm
  rw [sameL_is, h] at this
  refine this.mono ?_
  rintro e w' ⟨rfl, q, rfl⟩
  exact ⟨rfl, below_drewN (Below.refl _ _) q⟩

set_option maxHeartbeats 2000000 in
theorem refCanonical_is (w : World) (B : Nat) (A : Option Addr) (n c : Nat) (xs : List Int) (hx : RI .i32 w B A n xs) (hB : B ≤ w.heap.size) (hn : n ≤ 268435456) (r : Bool) (hr : canonB xs = r) :
    Calls Try.prog 27 #[.slice A n c] w fun e w' => e = .returned (.bool r) ∧ Below w.heap.size w w' := by
  subst hr
  have HX := Lib.hid hx
  clear hx
  cases ha : xs.all rightB with
  | false =>
    have hcb : canonB xs = false := by simp only [canonB, backB, ha, Bool.false_and]
    have HA := Lib.hid ha
    rw [hcb]
    clear ha hcb
    go_enter Try.func27, Try.ntmps27
    go_wp2_with fail
    with_reducible refine (refEncode_no true w B A n c xs HX.out hB (by omega) HA.out).mono ?_
    rintro e w1 ⟨rfl, hb1⟩
    have hs1 := hb1.size
    go_wp2_with fail
    with_reducible refine (refEncode_no false w1 B A n c xs (HX.out.on hb1 hB) (by omega) (by omega) HA.out).mono ?_
    rintro e w2 ⟨rfl, hb2⟩
    go_wp2
    go_ret
    exact ⟨rfl, hb1.trans (hb2.mono hs1)⟩
  | true =>
    have hcb : canonB xs = (sameB (dec true (encL true xs)) xs && sameB (dec false (encL false xs)) xs) := by simp only [canonB, backB, ha, Bool.true_and]
    have HA := Lib.hid ha
    rw [hcb]
    clear ha hcb
    obtain ⟨r1, h1⟩ : ∃ r, sameB (dec true (encL true xs)) xs = r := ⟨_, rfl⟩
    obtain ⟨r2, h2⟩ : ∃ r, sameB (dec false (encL false xs)) xs = r := ⟨_, rfl⟩
    rw [h1, h2]
    have H1 := Lib.hid h1
    have H2 := Lib.hid h2
    clear h1 h2
    have hle := (encL_len true xs).2
    have hle' := (encL_len false xs).2
    rw [HX.out.len] at hle hle'
    go_enter Try.func27, Try.ntmps27
    go_wp2_with fail
    with_reducible refine (refEncode_yes true w B A n c xs HX.out hB (by omega) HA.out).mono ?_
    rintro e w1 ⟨v1, rfl, hown1, hb1⟩
    obtain ⟨A1, c1, rfl, hc1, hm1, hr1⟩ := own_slice2 hown1
    have HR1 := Lib.hid hr1
    have hs1 := hb1.size
    clear hown1 hr1
    generalize hln : (encL true xs).length = ln at *
    have HLN := Lib.hid hln
    clear hln
    go_wp2_with fail
    with_reducible refine (refEncode_yes false w1 B A n c xs (HX.out.on hb1 hB) (by omega) (by omega) HA.out).mono ?_
    rintro e w2 ⟨v2, rfl, hown2, hb2⟩
    obtain ⟨A2, c2, rfl, hc2, hm2, hr2⟩ := own_slice2 hown2
    have HR2 := Lib.hid hr2
    have hs2 := hb2.size
    have B2 : Below w.heap.size w w2 := hb1.trans (hb2.mono hs1)
    clear hown2 hr2
    generalize hlm : (encL false xs).length = lm at *
    have HLM := Lib.hid hlm
    clear hlm
    go_wp2_with fail
    with_reducible refine (refDecode_any true w2 w1.heap.size A1 ln c1 (encL true xs) (HR1.out.below hb2) (by omega) (all_bd true HA.out) (by omega)).mono ?_
    rintro e w3 ⟨v3, rfl, hown3, hb3⟩
    obtain ⟨A3, c3, rfl, hc3, hm3, hr3⟩ := own_slice2 hown3
    have HR3 := Lib.hid hr3
    have hs3 := hb3.size
    have B3 : Below w.heap.size w w3 := B2.trans (hb3.mono (by omega))
    have hd3 := dec_len true (encL true xs)
    clear hown3 hr3
    generalize hl3 : (dec true (encL true xs)).length = l3 at *
    have HL3 := Lib.hid hl3
    clear hl3
    go_wp2_with fail
    with_reducible refine (same_is w3 w3.heap.size B A3 A l3 c3 n c _ xs r1 H1.out HR3.out (HX.out.on B3 hB) (by omega) (by unfold maxLen; omega)).mono ?_
    rintro e w4 ⟨rfl, hb4⟩
    have hs4 := hb4.size
    have B4 : Below w.heap.size w w4 := B3.trans (hb4.mono (by omega))
    cases r1 with
    | false =>
      go_wp2
      go_ret
      exact ⟨rfl, B4⟩
    | true =>
      go_wp2_with fail
      with_reducible refine (refDecode_any false w4 w2.heap.size A2 lm c2 (encL false xs) ((HR2.out.below hb3).on hb4 hs3) (by omega) (all_bd false HA.out) (by omega)).mono ?_
      rintro e w5 ⟨v5, rfl, hown5, hb5⟩
      obtain ⟨A5, c5, rfl, hc5, hm5, hr5⟩ := own_slice2 hown5
      have HR5 := Lib.hid hr5
      have hs5 := hb5.size
      have B5 : Below w.heap.size w w5 := B4.trans (hb5.mono (by omega))
      have hd5 := dec_len false (encL false xs)
      clear hown5 hr5
      generalize hl5 : (dec false (encL false xs)).length = l5 at *
      have HL5 := Lib.hid hl5
      clear hl5
      go_wp2_with fail
      with_reducible refine (same_is w5 w5.heap.size B A5 A l5 c5 n c _ xs r2 H2.out HR5.out (HX.out.on B5 hB) (by omega) (by unfold maxLen; omega)).mono ?_
      rintro e w6 ⟨rfl, hb6⟩
      go_wp2
      go_ret
      exact ⟨by simp, B5.trans (hb6.mono (by omega))⟩

/-- the bytes that choices choose from -/
def tabB : List Int := [0, 65, 215, 216, 219, 220, 223, 224, 255, 254, 61, 10]
def byteOf (k : Int) : Int := tabB.getD (k % 12).toNat 0
def bytesL (zs : List Int) : List Int := (zs.take 60).map byteOf
theorem bytesL_len (zs : List Int) : (bytesL zs).length ≤ 60 := by simp [bytesL]; omega
theorem tabB_bd : Bd tabB := by intro z hz; revert z; decide
theorem byteOf_bd (k : Int) : 0 ≤ byteOf k ∧ byteOf k ≤ 255 := by
  unfold byteOf
  rcases Nat.lt_or_ge (k % 12).toNat tabB.length with h | h
  · rw [List.getD_eq_getElem?_getD, List.getElem?_eq_getElem h]
    exact tabB_bd _ (List.getElem_mem h)
  · rw [List.getD_eq_getElem?_getD, List.getElem?_eq_none h]
    simp
theorem bytesL_bd (zs : List Int) : Bd (bytesL zs) := by
  intro z hz
  obtain ⟨k, _, rfl⟩ := List.mem_map.1 hz
  exact byteOf_bd k
theorem byteOf_at (k : Int) : tabB[(k % 12).toNat]? = some (byteOf k) := by
  have h : (k % 12).toNat < tabB.length := by show _ < 12; omega
  unfold byteOf
  rw [List.getD_eq_getElem?_getD, List.getElem?_eq_getElem h]
  rfl

set_option maxHeartbeats 2000000 in
theorem bytes_any (w : World) (Bx : Nat) (Ax : Option Addr) (n cx : Nat) (zs : List Int) (hx : RI .u8 w Bx Ax n zs) (hBx : Bx ≤ w.heap.size) (hn : n ≤ 9223372036854775807) (hz : Bd zs) :
    Calls Try.prog 10 #[.slice Ax n cx] w fun e w' => ∃ v, e = .returned v ∧ w'.ownsRow w.heap.size 5 1 v (bytesL zs).length ((bytesL zs).map (Value.int .u8)) ∧ Below w.heap.size w w' := by
  obtain ⟨i0, hi, hz0, hz1, hz2⟩ := info_parts info8
  have HX := Lib.hid hx
  have HZ := Lib.hid hz
  clear hx hz
  go_enter Try.func10, Try.ntmps10
  go_wp2
  go_loopw [4, 5] (fun v iv wr => ∃ i : Nat, i ≤ n ∧ i ≤ 60 ∧ iv = .int .i64 i ∧ w.heap.size + 1 ≤ wr.heap.size ∧ Hid (RI .u8 wr (w.heap.size + 1) (some ⟨w.heap.size, 0, none⟩) 12 tabB) ∧ Hid (wr.ownsRow (w.heap.size + 1) 5 1 v i (((zs.take i).map byteOf).map (Value.int .u8))) ∧ Below w.heap.size w wr) (fun _ iv _ => 60 - (intOf iv).toNat)
  case atStart => exact ⟨0, by omega, by omega, rfl, by simp, RI.new w .u8 tabB _, World.ownsRow_nil _ _ _ _, (Below.refl _ _).alloc (Nat.le_refl _) _⟩
  case round =>
    obtain ⟨i, hin, hi60, rfl, hsz, HTB, HW, hb⟩ := hrel
    by_cases hlt : i < n ∧ i < 60
    · obtain ⟨h1, h2⟩ := hlt
      obtain ⟨ad, k, rfl, hbl, hk, hcell⟩ := HX.out.at_ h1
      have hcr : wr.cell? (ad.add i) = some (.int .u8 k) := (hb.cell (p := ad.add i) (by rw [block_of_add]; omega)).trans hcell
      obtain ⟨k0, k1⟩ := HZ.out k (List.mem_of_getElem? hk)
      have HK := Lib.hid hk
      have hct : wr.cell? ⟨w.heap.size, (k % 12).toNat, none⟩ = some (.int .u8 (byteOf k)) := by
        obtain ⟨b, off, e, _, hc⟩ := HTB.out.flat (by omega)
        injection e with e
        injection e with e1 e2
        subst e1 e2
        have := hc _ _ (byteOf_at k)
        simpa using this
      clear hk hcell
      go_wp2_with (at_builtin; (refine wpList_append_own _ rfl _ _ 22 rfl (w.heap.size + 1) 5 i0 (.int .u8 0) 1 1 Try.underlying22 hi hz0 hz1 hz2 rfl (by decide) _ _ _ rfl (HW.out.alloc _) _ 1 1 [.int .u8 (byteOf k)] rfl rfl (cell_one_new _ _ _) (by intro u hu; simp at hu; subst hu; rfl) (by unfold maxLen; omega) (by omega) (by simp; omega) ?_); intro v' w3 hown' hgrow _; have HO3 := Lib.hid hown'; have HG3 := Lib.hid hgrow; clear hown' hgrow)
      have hlt3 := fun g (hg : _ = some g) => (HW.out.lt g hg).1
      have hown2 : Hid (w3.ownsRow (w.heap.size + 1) 5 1 v' (i + 1) (((zs.take (i + 1)).map byteOf).map (Value.int .u8))) := by
        rw [take_snoc HK.out]
        simpa [Hid] using HO3.out
      have hsz3 : w.heap.size + 1 ≤ w3.heap.size := by have := HG3.out.size; simp at this; omega
      go_roundw
      case rel => exact ⟨i + 1, by omega, by omega, by go_num, hsz3, (HTB.out.alloc hsz _).grown HG3.out (by simp; omega) hlt3, hown2, (hb.alloc (by omega) _).grown HG3.out (by simp; omega) (fun g hg => Nat.le_of_succ_le (hlt3 g hg))⟩
      case measure => simp [intOf]; omega
    · have hv : bytesL zs = (zs.take i).map byteOf := by
        unfold bytesL
        rcases Nat.lt_or_ge i 60 with h | h
        · rw [List.take_of_length_le (by rw [HX.out.len]; omega), List.take_of_length_le (by rw [HX.out.len]; omega)]
        · rw [show i = 60 by omega]
      have hl : (bytesL zs).length = i := by
        rw [hv]
        have := HX.out.len
        simp; omega
      have HV := Lib.hid hv
      have HL := Lib.hid hl
      clear hv hl
      by_cases h1 : i < n
      · have h2 : ¬ i < 60 := fun h => hlt ⟨h1, h⟩
        clear hlt
        go_wp2
        go_ret
        refine ⟨_, rfl, ?_, hb⟩
        rw [HL.out, HV.out]
        exact own_less HW.out (Nat.le_succ _)
      · clear hlt
        go_wp2
        go_ret
        refine ⟨_, rfl, ?_, hb⟩
        rw [HL.out, HV.out]
        exact own_less HW.out (Nat.le_succ _)

theorem dec_known1 : dec true [216, 61, 222, 0, 97] = [128512, -98] := by decide +kernel
theorem dec_known2 : dec true [216, 0, 0, 65] = [-217, -1, 65] := by decide +kernel
theorem enc_known : encL false [128512] = [61, 216, 0, 222] := by decide +kernel
theorem sb_known : sb [61, 216, 0, 222] = ⟨#[61, 216, 0, 222]⟩ := by decide +kernel
theorem canon_known : canonB [-1, -2] = false := by decide +kernel
theorem bd_known1 : Bd [216, 61, 222, 0, 97] := by intro z hz; revert z; decide
theorem bd_known2 : Bd [216, 0, 0, 65] := by intro z hz; revert z; decide
set_option maxHeartbeats 2000000 in
theorem known_any (w : World) :
    Calls Try.prog 12 #[] w fun e w' => e = .returned (.bool true) ∧ Below w.heap.size w w' := by
  go_enter Try.func12, Try.ntmps12
  go_wp2_with fail
  refine (decode_any true (w.alloc (.cells #[.int .u8 216, .int .u8 61, .int .u8 222, .int .u8 0, .int .u8 97] 5)) (w.heap.size + 1) (some ⟨w.heap.size, 0, none⟩) 5 5 [216, 61, 222, 0, 97] (RI.new w .u8 [216, 61, 222, 0, 97] _) (by simp) bd_known1 (by omega) (by omega) (by decide)).mono ?_
  rintro e w1 ⟨v1, rfl, hown1, hb1⟩
  rw [dec_known1] at hown1
  obtain ⟨g, cap, rfl, hg1, hg2⟩ := hown1.form (by simp)
  have hb1' : Below w.heap.size w w1 := ((Below.refl _ _).alloc (Nat.le_refl _) _).trans (hb1.mono (by simp))
  have hs1 := hb1'.size
  have HO1 := Lib.hid hown1
  clear hown1 hb1 hg1
  go_wp2_with fail
  refine (decode_any true (w1.alloc (.cells #[.int .u8 216, .int .u8 0, .int .u8 0, .int .u8 65] 5)) (w1.heap.size + 1) (some ⟨w1.heap.size, 0, none⟩) 4 4 [216, 0, 0, 65] (RI.new w1 .u8 [216, 0, 0, 65] _) (by simp) bd_known2 (by omega) (by omega) (by decide)).mono ?_
  rintro e w2 ⟨v2, rfl, hown2, hb2⟩
  rw [dec_known2] at hown2
  obtain ⟨g', cap', rfl, hg1', hg2'⟩ := hown2.form (by simp)
  have hb2' : Below w1.heap.size w1 w2 := ((Below.refl _ _).alloc (Nat.le_refl _) _).trans (hb2.mono (by simp))
  have hs2 := hb2'.size
  have HO2 := Lib.hid hown2
  clear hown2 hb2 hg1'
  go_wp2_with fail
  refine (encode_yes false (w2.alloc (.cells #[.int .i32 128512] 28)) (w2.heap.size + 1) (some ⟨w2.heap.size, 0, none⟩) 1 1 [128512] (RI.new w2 .i32 [128512] _) (by simp) (by omega) (by decide)).mono ?_
  rintro e w3 ⟨v3, rfl, hown3, hb3⟩
  rw [enc_known] at hown3
  obtain ⟨A3, c3, rfl, hc3, hm3, hr3⟩ := own_slice2 hown3
  have hb3' : Below w2.heap.size w2 w3 := ((Below.refl _ _).alloc (Nat.le_refl _) _).trans (hb3.mono (by simp))
  have hs3 := hb3'.size
  have HR3 := Lib.hid hr3
  clear hown3 hb3 hr3
  have hl0 : w3.cell? ⟨g, 0, none⟩ = some (.int .i32 128512) := ((hb3'.cell (p := ⟨g, 0, none⟩) (by show g < _; omega)).trans (hb2'.cell (p := ⟨g, 0, none⟩) hg2)).trans (HO1.out.cells (g := g) rfl 0 _ rfl)
  have hl1 : w3.cell? ⟨g, 1, none⟩ = some (.int .i32 (-98)) := ((hb3'.cell (p := ⟨g, 1, none⟩) (by show g < _; omega)).trans (hb2'.cell (p := ⟨g, 1, none⟩) hg2)).trans (HO1.out.cells (g := g) rfl 1 _ rfl)
  have hm0 : w3.cell? ⟨g', 0, none⟩ = some (.int .i32 (-217)) := (hb3'.cell (p := ⟨g', 0, none⟩) hg2').trans (HO2.out.cells (g := g') rfl 0 _ rfl)
  have hm2 : w3.cell? ⟨g', 2, none⟩ = some (.int .i32 65) := (hb3'.cell (p := ⟨g', 2, none⟩) hg2').trans (HO2.out.cells (g := g') rfl 2 _ rfl)
  have hcv : (convert 22 9 (.slice A3 4 c3)).run Try.prog w3 = .ok (.string ⟨#[61, 216, 0, 222]⟩) w3 := by
    have := conv_ri HR3.out c3
    rwa [sb_known] at this
  have hbA : Below w.heap.size w w3 := (hb1'.trans (hb2'.mono hs1)).trans (hb3'.mono (by omega))
  go_wp2_with fail
  refine (canonical_is (w3.alloc (.cells #[.int .i32 (-1), .int .i32 (-2)] 28)) (w3.heap.size + 1) (some ⟨w3.heap.size, 0, none⟩) 2 2 [-1, -2] (RI.new w3 .i32 [-1, -2] _) (by simp) (by omega) false canon_known).mono ?_
  rintro e w4 ⟨rfl, hb4⟩
  clear hl0 hl1 hm0 hm2 hcv
  go_wp2
  go_ret
  exact ⟨rfl, (hbA.alloc (by omega) _).trans (hb4.mono (by simp; omega))⟩
end Go.Proofs.Ytbocibecjndooaa.C
