/-
  The walk of LexBlank: for every choice of tokens it returns true; nothing that was there changes. Condition: what is asked of the listed variables ('Gl').
-/
import Derived.Test.YtnifcgiajjmogaaGreatDoorLyB
namespace Go.Proofs.YtnifcgiajjmogaaGreatDoor.C
open Go.RowKit

set_option maxRecDepth 100000 in
set_option maxHeartbeats 8000000 in
theorem lexBlankWalk (a0 : Option Addr) (len0 cap0 : Nat) (z0 : List Int) (w : World) (hG : Gl w) (w0 : L.IsRow .u8 w a0 len0 cap0 z0) :
    Calls Tryz.prog 4 #[.slice a0 len0 cap0] w fun e w' => e = .returned (.bool true) ∧ Below w.heap.size w w' := by
  have htx := text_any w w.heap.size a0 len0 cap0 _ (RI.of_row w0) (Nat.le_refl _) (row_u8 w0)
  have htl := txtL_len (z0.take len0)
  have hkn := known_any
  have htk := fun W (hW : Gl W) => tokens_any (str (txtL (z0.take len0))) W hW
  have htk2 := fun W (hW : Gl W) => tokens_any (str (txtB (z0.take len0))) W hW
  have hsz := str_size (txtL (z0.take len0))
  obtain ⟨ts, us, er, at1, at2, hl1, hl2, hal, hln, _⟩ := blank_facts (z0.take len0)
  have hS : (str (txtL (z0.take len0))).size ≤ 360 := by omega
  have hB : str (txtB (z0.take len0)) = ⟨#[32, 32, 10]⟩ ++ str (ins (str (txtL (z0.take len0))).data.toList true) := by
    show _ = str [32, 32, 10] ++ str _
    rw [str_append]
    rfl
  simp only [str_list] at htk htk2
  rw [hl1] at htk
  rw [hl2, hB] at htk2
  have HG := Lib.hid hG
  obtain ⟨S, hSS⟩ : ∃ S, str (txtL (z0.take len0)) = S := ⟨_, rfl⟩
  rw [hSS] at htx htk htk2 hS
  have HAL := Lib.hid hal
  have HLN := Lib.hid hln
  clear w0 hG htl hsz hSS hl1 hl2 hB hal hln
  go_enter Tryz.func4, Tryz.ntmps4
  go_wp2_with fail
  refine htx.mono ?_
  rintro e w1 ⟨rfl, hb1⟩
  have HG1 := Lib.hid (HG.out.next hb1)
  have HB1 := Lib.hid hb1
  clear hb1 htx
  go_wp2
  go_loop [4, 5] (fun tv iv => ∃ (i : Nat) (t : Int) (T : ByteArray), i ≤ S.size ∧ t = (i : Int) ∧ iv = .int .i64 t ∧ tv = .string T ∧ Hid (T = str (ins (S.data.toList.take i) true)) ∧ T.size ≤ 8 * i) (fun _ iv => S.size - (intOf iv).toNat)
  case atStart => exact ⟨0, 0, _, Nat.zero_le _, rfl, rfl, rfl, Lib.hid rfl, by show 0 ≤ _; omega⟩
  case round =>
    obtain ⟨i, t, T, hi, hti, rfl, rfl, HT, hsz⟩ := hrel
    by_cases hlt : i < S.size
    · have hsn : (str (ins (S.data.toList.take (i + 1)) true)).size ≤ 8 * (i + 1) := by
        have h1 := ins_len (S.data.toList.take (i + 1)) true
        have h2 : (S.data.toList.take (i + 1)).length ≤ i + 1 := by rw [List.length_take]; omega
        rw [str_size]
        omega
      have i0 : (0 : Int) ≤ (i : Int) := by omega
      have i1 : (i : Int) < (S.size : Int) := by omega
      have hsl := slice_ij S (i : Int) ((i : Int) + 1) i0 (by omega) (by omega) i (i + 1) (by omega) (by omega)
      by_cases hc : (S[i]'hlt).toNat = 10
      · have hc' : (S[i]'hlt) = 10 := ba_eq hc
        have e1 : (((S[i]'hlt).toNat : Int) == 10) = true := by simp; omega
        rcases Nat.eq_zero_or_pos i with h0 | h0
        · subst h0
          obtain rfl : t = 0 := by omega
          have hn := ins_hit hlt HT.out ⟨hc', last_zero _⟩
          rw [← hn] at hsn
          have HN := Lib.hid hn
          have hsl0 : ∀ W, (Instr.slice 9 (.string S) (some (.int .i64 0)) (some (.int .i64 1)) none).run Tryz.prog W = .ok (.string (S.extract 0 (0 + 1))) W := fun W => hsl W
          clear hc hc' hn hti hsl
          go_wp2
          go_round
          case rel => exact ⟨1, 1, _, by omega, rfl, rfl, rfl, HN, hsn⟩
          case measure => simp [intOf]; omega
        · obtain ⟨j, hj⟩ : ∃ j, i = j + 1 := ⟨i - 1, by omega⟩
          have hjl : j < S.size := by omega
          have hlj := last_one hjl
          rw [← hj] at hlj
          have ht1 : (i : Int) - 1 = (j : Int) := by omega
          have j0 : (0 : Int) ≤ (j : Int) := by omega
          have j1 : (j : Int) < (S.size : Int) := by omega
          have i4 : ((i : Int) == 0) = false := by simp; omega
          obtain rfl : t = (i : Int) := hti
          by_cases hd : (S[j]'hjl).toNat = 32
          · have e2 : (((S[j]'hjl).toNat : Int) == 32) = true := by simp; omega
            have hn := ins_hit hlt HT.out ⟨hc', by rw [hlj]; exact decide_eq_true (ba_eq hd)⟩
            rw [← hn] at hsn
            have HN := Lib.hid hn
            clear hc hc' hn hd hlj hj h0
            go_wp2
            go_round
            case rel => exact ⟨i + 1, (i : Int) + 1, _, by omega, by omega, rfl, rfl, HN, hsn⟩
            case measure => simp [intOf]; omega
          · have e2 : (((S[j]'hjl).toNat : Int) == 32) = false := by simp; omega
            have hn := ins_miss hlt HT.out (fun h => by
              have h2 := h.2
              rw [hlj] at h2
              exact hd (by rw [of_decide_eq_true h2]; rfl))
            rw [← hn] at hsn
            have HN := Lib.hid hn
            clear hc hc' hn hd hlj hj h0
            go_wp2
            go_round
            case rel => exact ⟨i + 1, (i : Int) + 1, _, by omega, by omega, rfl, rfl, HN, hsn⟩
            case measure => simp [intOf]; omega
      · have e1 : (((S[i]'hlt).toNat : Int) == 10) = false := by simp; omega
        have hn := ins_miss hlt HT.out (fun h => hc (by rw [h.1]; rfl))
        rw [← hn] at hsn
        have HN := Lib.hid hn
        obtain rfl : t = (i : Int) := hti
        clear hc hn
        go_wp2
        go_round
        case rel => exact ⟨i + 1, (i : Int) + 1, _, by omega, by omega, rfl, rfl, HN, hsn⟩
        case measure => simp [intOf]; omega
    · obtain rfl : i = S.size := by omega
      obtain rfl : t = (S.size : Int) := hti
      have hT := HT.out
      rw [← size_list, List.take_length] at hT
      rw [← hT] at htk2
      clear hT hlt hi
      go_wp2_with fail
      refine (htk _ HG1.out).mono ?_
      rintro e w2 ⟨A1, n, c1, rfl, hnc, hcm, ht, hb2⟩
      simp only
      have HG2 := Lib.hid (HG1.out.next hb2)
      have HB2 := Lib.hid (HB1.out.trans (hb2.mono HB1.out.size))
      have HT1 := Lib.hid ht
      have hn1 := ht.len
      have hn2 : n ≤ 1000 := by rw [← hn1]; exact HLN.out
      clear ht hb2 htk
      go_wp2_with fail
      refine (htk2 _ HG2.out).mono ?_
      rintro e w3 ⟨A2, m, c2, rfl, hmc, hcm2, ht2, hb3⟩
      simp only
      obtain rfl : n = m := by rw [← hn1, HAL.out.len, ht2.len]
      have HG3 := Lib.hid (HG2.out.next hb3)
      have HB3 := Lib.hid (HB2.out.trans (hb3.mono HB2.out.size))
      have HS := Lib.hid (fun q => sameT_yes (w3.drewN q) w2.heap.size w3.heap.size A1 A2 n c1 c2 ts us ((HT1.out.on hb3 (Nat.le_refl _)).drewN q) (ht2.drewN q) HAL.out (by omega))
      clear hb3 htk2 hn1 ht2
      go_wp2_with fail
      refine (HS.out 0).mono ?_
      rintro e w4 ⟨rfl, q, rfl⟩
      simp only
      have hkn2 := hkn (w3.drewN q) (HG3.out.keep fun b _ => rfl)
      have HB4 := Lib.hid (below_drewN0 HB3.out q)
      go_wp2_with fail
      refine hkn2.mono ?_
      rintro e w5 ⟨rfl, hb5⟩
      have HB5 := Lib.hid (HB4.out.trans (hb5.mono HB4.out.size))
      clear hb5 hkn2
      go_wp2
      go_ret
      exact ⟨rfl, HB5.out⟩
end Go.Proofs.YtnifcgiajjmogaaGreatDoor.C
