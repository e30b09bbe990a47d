/-
  The walk of CodecLatin: for all bytes and numbers it returns true; nothing that was there changes. Condition: the decoder's two tables stand as they were laid.
-/
import Derived.Test.YtijlecfjgcohhaaDoorCdcT
namespace Go.Proofs.YtijlecfjgcohhaaDoor.C
open Go.RowKit

theorem lat_no {c : Int} (h : rightB c = false) : errE 3 false false [c] = 10 := err_cell (.inr (.inr rfl)) (.inr rfl) (by simp [h])
theorem lat_high {c : Int} (h : rightB c = true) (hc : 255 < c) : errE 3 false false [c] = 11 := err_high rfl (by simp [h]) (by simp [lowB]; omega)
theorem lat_low {c : Int} (h : rightB c = true) (hc : c ≤ 255) : errE 3 false false [c] = 0 := err_low rfl (by simp [h]) (by simp [lowB]; omega)
theorem lat_one {c : Int} (h : rightB c = true) (hc : c ≤ 255) : (bytesE 3 false false [c]).length = 1 := by
  rw [bytes_three (lat_low h hc)]
  rfl

set_option maxRecDepth 100000 in
set_option maxHeartbeats 4000000 in
theorem codecLatinWalk (a0 : Option Addr) (len0 cap0 : Nat) (z0 : List Int) (c : Int) (w : World) (hT : Lib.Utf8Tabs 0 1 w) (w0 : L.IsRow .u8 w a0 len0 cap0 z0) (_wc : (Lit.int .i32 c).wf = true) :
    Calls Tryd.prog 4 #[.slice a0 len0 cap0, .int .i32 c] w fun e w' => e = .returned (.bool true) ∧ Below w.heap.size w w' := by
  have hr0 := RI.of_row w0
  have hz0 : Bd (z0.take len0) := row_u8 w0
  obtain ⟨hlc, hcm⟩ := row_len w0
  generalize z0.take len0 = zs at *
  have HR0 := Lib.hid hr0
  have HZ0 := Lib.hid hz0
  have HT := Lib.hid hT
  have HL0 := Lib.hid hr0.len
  clear w0 hr0 hz0 hT
  by_cases hbig : 200 < len0
  · have tb : ((200 : Int) < (len0 : Int)) := by omega
    go_enter Tryd.func4, Tryd.ntmps4
    go_wp2_with fail
    with_reducible refine (known_any w HT.out).mono ?_
    rintro e w1 ⟨rfl, hb1⟩
    go_wp2
    go_ret
    exact ⟨rfl, hb1⟩
  · go_enter Tryd.func4, Tryd.ntmps4
    go_wp2_with fail
    with_reducible refine (known_any w HT.out).mono ?_
    rintro e w1 ⟨rfl, hb1⟩
    have hs1 := hb1.size
    go_wp2_with fail
    with_reducible refine (decodeC_any 3 (.inr (.inr rfl)) w1 w.heap.size a0 len0 cap0 zs (HR0.out.below hb1) hs1 HZ0.out hlc (by omega) hcm (tabs_below HT.out hb1)).mono ?_
    rintro e w2 ⟨A2, m2, c2, rfl, hm2, h2c, h2m, hr2, hb2⟩
    rw [bigB_three, bomB_three]
    rw [cellsD_three] at hr2
    obtain rfl : m2 = len0 := hr2.len.symm.trans HL0.out
    have hs2 := hb2.size
    obtain ⟨V, hV⟩ : ∃ V, V = w2.alloc (.cells #[.int .u8 3, .bool false, .bool false, .slice A2 m2 c2] 26) := ⟨_, rfl⟩
    have hbV : Below w2.heap.size w2 V := by rw [hV]; exact (Below.refl _ _).alloc (Nat.le_refl _) _
    have hsV : V.heap.size = w2.heap.size + 1 := by rw [hV]; simp
    have hcV : ∀ j, V.cell? ⟨w2.heap.size, j, none⟩ = (#[Value.int .u8 3, .bool false, .bool false, .slice A2 m2 c2] : Array Value)[j]? := fun j => by rw [hV]; exact World.cell?_alloc_new _ _ _ _
    have e0 := hcV 0
    have e1 := hcV 1
    have e2 := hcV 2
    have e3 := hcV 3
    have HR2 := Lib.hid (hr2.below hbV)
    have BV : Below w.heap.size w V := (hb1.trans (hb2.mono hs1)).trans (hbV.mono (by omega))
    have HQ0 := Lib.hid (HR0.out.below BV)
    have HHV := Lib.hid hV
    clear hr2 hcV hV
    go_wp2_with fail
    rw [← HHV.out]
    clear HHV
    go_loopw [7] (fun iv wr => ∃ k q : Nat, k ≤ m2 ∧ iv = .int .i64 k ∧ wr = V.drewN q) (fun iv _ => m2 - (intOf iv).toNat)
    case atStart => exact ⟨0, 0, Nat.zero_le _, rfl, drewN_zero V⟩
    case round =>
      obtain ⟨k, q, hk, rfl, rfl⟩ := hrel
      by_cases hlt : k < m2
      · obtain ⟨ad, u, rfl, _, hu, hcu⟩ := HR2.out.at_ hlt
        obtain ⟨ad0, u', rfl, _, hu', hcu'⟩ := HQ0.out.at_ hlt
        obtain rfl : u = u' := by rw [hu] at hu'; exact Option.some.inj hu'
        obtain ⟨u0, u1⟩ := HZ0.out u (List.mem_of_getElem? hu)
        have k0 : (0 : Int) ≤ (k : Int) := by omega
        have k1 : (k : Int) < (m2 : Int) := by omega
        have t1 : (u != u) = false := by simp
        clear hu hu'
        go_wp2
        go_quiet (fail)
        go_wp2
        go_roundw
        case rel => exact ⟨k + 1, _, by omega, by go_num, rfl⟩
        case measure => simp [intOf]; omega
      · obtain ⟨W, hW⟩ : ∃ W, W = (V.drewN q).alloc (.cells #[.int .i32 c] 35) := ⟨_, rfl⟩
        have hbW : Below V.heap.size V W := by rw [hW]; exact (below_drewN (Below.refl _ _) q).alloc (Nat.le_refl _) _
        have hsW : W.heap.size = w2.heap.size + 2 := by rw [hW]; simp [hsV]
        have hmk : RI .i32 W (w2.heap.size + 2) (some ⟨w2.heap.size + 1, 0, none⟩) 1 [c] := by
          have := RI.new (V.drewN q) .i32 [c] 35
          rw [hW, ← hsV]
          simpa [hsV] using this
        have HM := Lib.hid hmk
        clear hmk
        cases hrc : rightB c with
        | false =>
          have HRC := Lib.hid hrc
          clear hrc
          go_wp2_with fail
          rw [← hW]
          clear hW
          with_reducible refine (with_any W 3 false false (.slice A2 m2 c2) (w2.heap.size + 2) (some ⟨w2.heap.size + 1, 0, none⟩) 1 1 [c] ⟨_, _, _, rfl⟩ HM.out (by omega) (by omega)).mono ?_
          rintro e w5 ⟨A5, c5, rfl, h5c, h5m, hr5, hb5⟩
          have hs5 := hb5.size
          have HR5 := Lib.hid hr5
          clear hr5
          go_wp2_with fail
          with_reducible refine (encodeC_any w5 3 w5.heap.size A5 1 c5 [c] false false HR5.out (Nat.le_refl _) (by omega)).mono ?_
          rintro e w6 ⟨A6, m6, c6, rfl, h6c, h6m, hr6, hb6⟩
          have B6 : Below w.heap.size w w6 := (BV.trans (hbW.mono (by omega))).trans ((hb5.mono (by omega)).trans (hb6.mono (by omega)))
          have hl6 := hr6.len
          rw [lat_no HRC.out]
          clear hr6 hl6
          go_wp2_with fail
          refine (refRight_is c w6 false HRC.out).mono ?_
          rintro e w' ⟨rfl, rfl⟩
          go_wp2
          go_ret
          exact ⟨rfl, B6⟩
        | true =>
          have HRC := Lib.hid hrc
          clear hrc
          by_cases hlow : c ≤ 255
          · go_wp2_with fail
            rw [← hW]
            clear hW
            with_reducible refine (with_any W 3 false false (.slice A2 m2 c2) (w2.heap.size + 2) (some ⟨w2.heap.size + 1, 0, none⟩) 1 1 [c] ⟨_, _, _, rfl⟩ HM.out (by omega) (by omega)).mono ?_
            rintro e w5 ⟨A5, c5, rfl, h5c, h5m, hr5, hb5⟩
            have hs5 := hb5.size
            have HR5 := Lib.hid hr5
            clear hr5
            go_wp2_with fail
            with_reducible refine (encodeC_any w5 3 w5.heap.size A5 1 c5 [c] false false HR5.out (Nat.le_refl _) (by omega)).mono ?_
            rintro e w6 ⟨A6, m6, c6, rfl, h6c, h6m, hr6, hb6⟩
            have B6 : Below w.heap.size w w6 := (BV.trans (hbW.mono (by omega))).trans ((hb5.mono (by omega)).trans (hb6.mono (by omega)))
            have hl6 := hr6.len
            rw [lat_one HRC.out hlow] at hl6
            subst hl6
            rw [lat_low HRC.out hlow]
            clear hr6
            go_wp2_with fail
            refine (refRight_is c w6 true HRC.out).mono ?_
            rintro e w' ⟨rfl, rfl⟩
            go_wp2
            go_ret
            exact ⟨rfl, B6⟩
          · have hhi : 255 < c := by omega
            go_wp2_with fail
            rw [← hW]
            clear hW
            with_reducible refine (with_any W 3 false false (.slice A2 m2 c2) (w2.heap.size + 2) (some ⟨w2.heap.size + 1, 0, none⟩) 1 1 [c] ⟨_, _, _, rfl⟩ HM.out (by omega) (by omega)).mono ?_
            rintro e w5 ⟨A5, c5, rfl, h5c, h5m, hr5, hb5⟩
            have hs5 := hb5.size
            have HR5 := Lib.hid hr5
            clear hr5
            go_wp2_with fail
            with_reducible refine (encodeC_any w5 3 w5.heap.size A5 1 c5 [c] false false HR5.out (Nat.le_refl _) (by omega)).mono ?_
            rintro e w6 ⟨A6, m6, c6, rfl, h6c, h6m, hr6, hb6⟩
            have B6 : Below w.heap.size w w6 := (BV.trans (hbW.mono (by omega))).trans ((hb5.mono (by omega)).trans (hb6.mono (by omega)))
            have hl6 := hr6.len
            rw [lat_high HRC.out hhi]
            clear hr6 hl6
            go_wp2_with fail
            refine (refRight_is c w6 true HRC.out).mono ?_
            rintro e w' ⟨rfl, rfl⟩
            go_wp2
            go_ret
            refine ⟨?_, B6⟩
            have hd : decide (c ≤ 255) = false := decide_eq_false (by omega)
            simp [hd]
end Go.Proofs.YtijlecfjgcohhaaDoor.C
