/-
  The walk of LexPlaces: for every choice of tokens it returns true; nothing that was there changes. Condition: what is asked of the listed variables ('Gl').
-/
import Derived.Test.YtnifcgiajjmogaaDoorLxJ
namespace Go.Proofs.YtnifcgiajjmogaaDoor.C
open Go.RowKit

set_option maxRecDepth 100000 in
set_option maxHeartbeats 8000000 in
theorem lexPlacesWalk (a0 : Option Addr) (len0 cap0 : Nat) (z0 : List Int) (w : World) (hG : Gl w) (w0 : L.IsRow .u8 w a0 len0 cap0 z0) :
    Calls Tryd.prog 4 #[.slice a0 len0 cap0] w fun e w' => e = .returned (.bool true) ∧ Below w.heap.size w w' := by
  have htx := text_any w w.heap.size a0 len0 cap0 _ (RI.of_row w0) (Nat.le_refl _) (row_u8 w0)
  have htl := txtL_len (z0.take len0)
  have hkn := known_any
  have htk := fun W (hW : Gl W) => tokens_any (str (txtL (z0.take len0))) W hW
  have hsz := str_size (txtL (z0.take len0))
  have hfx := lex_facts (txtL (z0.take len0)) (by omega)
  rw [← hsz] at hfx
  have hS : (str (txtL (z0.take len0))).size ≤ 360 := by omega
  simp only [str_list] at htk
  have HG := Lib.hid hG
  generalize txtL (z0.take len0) = T at *
  obtain ⟨S, hSS⟩ : ∃ S, str T = S := ⟨_, rfl⟩
  rw [hSS] at htx htk hfx hS
  clear w0 hG htl hsz hSS
  rcases hfx with ⟨ts, hlx, ⟨hw1, hw2, hw3, hw4⟩, hln⟩ | ⟨at_, hlx, hlt⟩
  · rw [hlx] at htk
    have W1 := Lib.hid hw1
    have W2 := Lib.hid hw2
    have W3 := Lib.hid hw3
    have W4 := Lib.hid hw4
    have HLN := Lib.hid hln
    clear hlx hw1 hw2 hw3 hw4 hln
    go_enter Tryd.func4, Tryd.ntmps4
    go_wp2_with fail
    refine htx.mono ?_
    rintro e w1 ⟨rfl, hb1⟩
    have HG1 := Lib.hid (HG.out.next hb1)
    have HB1 := Lib.hid hb1
    clear hb1 htx
    go_wp2_with fail
    refine (htk _ HG1.out).mono ?_
    rintro e w2 ⟨A, n, c, rfl, hnc, hcm, ht, hb2⟩
    simp only
    have HG2 := Lib.hid (HG1.out.next hb2)
    have HB2 := Lib.hid (HB1.out.trans (hb2.mono HB1.out.size))
    have HT := Lib.hid ht
    have HL := Lib.hid ht.len
    have hn901 : n ≤ 901 := by rw [← HL.out]; exact HLN.out
    clear ht hb2 htk
    go_wp2
    go_loopw [7] (fun iv wr => ∃ (i q : Nat) (t : Int), i ≤ n ∧ t = (i : Int) ∧ iv = .int .i64 t ∧ wr = w2.drewN q) (fun iv _ => n - (intOf iv).toNat)
    case atStart => exact ⟨0, 0, 0, Nat.zero_le _, rfl, rfl, rfl⟩
    case round =>
      obtain ⟨i, q, t, hi, hti, rfl, rfl⟩ := hrel
      by_cases hlt : i < n
      · obtain ⟨ad, x, hA, hbl, hx, q0, q1, q2, q3⟩ := HT.out.at4 hlt
        subst hA
        have hxa := W1.out x (List.mem_of_getElem? hx)
        have d1 : decide ((x.at_ : Int) < 0) = false := decide_eq_false (by omega)
        have d2 : decide (S.size < x.at_) = false := decide_eq_false (by omega)
        have HX := Lib.hid hx
        clear hx hxa
        rcases Nat.eq_zero_or_pos i with h0 | h0
        · subst h0
          obtain rfl : t = 0 := by omega
          have n0 : (0 : Int) < (n : Int) := by omega
          have r0 : w2.cell? ad = some (.int .u8 x.k) := q0
          have r3 : w2.cell? ⟨ad.block, ad.off + 3, none⟩ = some (.int .i64 x.at_) := q3
          clear hti q0 q1 q2 q3 hlt hi
          go_wp2
          go_quiet (fail)
          go_wp2
          go_roundw
          case rel => exact ⟨1, _, 1, by omega, rfl, rfl, rfl⟩
          case measure => simp [intOf]; omega
        · obtain ⟨j, hj⟩ : ∃ j, i = j + 1 := ⟨i - 1, by omega⟩
          obtain ⟨ad', y, hA, _, hy, p0, p1, p2, p3⟩ := HT.out.at4 (show j < n by omega)
          obtain rfl : ad' = ad := by injection hA with hA; exact hA.symm
          have hcon := W2.out j y x hy (by rw [← hj]; exact HX.out)
          have d3 : decide (x.at_ ≤ y.at_) = false := decide_eq_false (by omega)
          have ht1 : (i : Int) - 1 = (j : Int) := by omega
          have i1 : (i : Int) < (n : Int) := by omega
          have i0 : (0 : Int) ≤ (i : Int) := by omega
          have i2 : decide ((0 : Int) < (i : Int)) = true := decide_eq_true (by omega)
          have i3 : (0 : Int) < (i : Int) := by omega
          have j0 : (0 : Int) ≤ (j : Int) := by omega
          have j1 : (j : Int) < (n : Int) := by omega
          obtain rfl : t = (i : Int) := hti
          have HJ := Lib.hid hj
          clear hj hy hA
          by_cases h6 : x.k = 6
          · have e1 : ((x.k : Int) == 6) = true := by simp; omega
            have e2 : ((y.k : Int) == 6) = false := by
              have : y.k ≠ 6 := fun e => hcon.2 ⟨e, h6⟩
              simp; omega
            clear hcon h6
            go_wp2
            go_quiet (fail)
            go_wp2
            go_roundw
            case rel => exact ⟨i + 1, _, (i : Int) + 1, by omega, by omega, rfl, rfl⟩
            case measure => simp [intOf]; omega
          · have e1 : ((x.k : Int) == 6) = false := by simp; omega
            clear hcon h6
            go_wp2
            go_quiet (fail)
            go_wp2
            go_roundw
            case rel => exact ⟨i + 1, _, (i : Int) + 1, by omega, by omega, rfl, rfl⟩
            case measure => simp [intOf]; omega
      · obtain rfl : i = n := by omega
        obtain rfl : t = (i : Int) := hti
        have hkn2 := hkn (w2.drewN q) (HG2.out.keep fun b _ => rfl)
        clear hlt hi
        rcases Nat.eq_zero_or_pos i with h0 | h0
        · subst h0
          go_wp2_with fail
          refine hkn2.mono ?_
          rintro e w3 ⟨rfl, hb3⟩
          have HB3 := Lib.hid (HB2.out.trans (((below_drewN0 (Below.refl _ w2) q).trans hb3).mono HB2.out.size))
          clear hb3 hkn2
          go_wp2
          go_ret
          exact ⟨rfl, HB3.out⟩
        · obtain ⟨ad, x, hA, hbl, hx, q0, _⟩ := HT.out.at4 h0
          obtain ⟨j, hj⟩ : ∃ j, i = j + 1 := ⟨i - 1, by omega⟩
          have hxk := W3.out x hx
          obtain ⟨y, hy⟩ : ∃ y, ts[j]? = some y := ⟨_, List.getElem?_eq_getElem (by rw [HL.out]; omega)⟩
          have hyk : y.k = 6 := by rw [← last_at hy (by rw [HL.out]; exact hj)]; exact W4.out
          obtain rfl := hA
          have hq1 : ∀ w3, Below w2.heap.size w2 w3 → w3.cell? ad = some (.int .u8 x.k) ∧ w3.cell? (ad.add (j * 4)) = some (.int .u8 6) := fun w3 hb3 => by
            have ht3 := HT.out.on hb3 (Nat.le_refl _)
            refine ⟨ht3.cell rfl hx 0 _ rfl, ?_⟩
            have := ht3.cell rfl hy 0 _ rfl
            rw [hyk] at this
            exact this
          have HQ := Lib.hid hq1
          have e1 : ((x.k : Int) != 6) = true := nat_ne hxk
          have ht1 : (i : Int) - 1 = (j : Int) := by omega
          have i3 : (0 : Int) < (i : Int) := by omega
          have i4 : ((i : Int) == 0) = false := by simp; omega
          have j0 : (0 : Int) ≤ (j : Int) := by omega
          have j1 : (j : Int) < (i : Int) := by omega
          clear hx q0 hj hxk hy hyk hq1
          go_wp2_with fail
          refine hkn2.mono ?_
          rintro e w3 ⟨rfl, hb3⟩
          have hb4 := (below_drewN0 (Below.refl _ w2) q).trans hb3
          obtain ⟨r0, r1⟩ := HQ.out w3 hb4
          have HB3 := Lib.hid (HB2.out.trans (hb4.mono HB2.out.size))
          clear hb3 hb4 hkn2
          go_wp2
          go_ret
          exact ⟨rfl, HB3.out⟩
  · rw [hlx] at htk
    have a0 : (0 : Int) ≤ (at_ : Int) := by omega
    clear hlx
    go_enter Tryd.func4, Tryd.ntmps4
    go_wp2_with fail
    refine htx.mono ?_
    rintro e w1 ⟨rfl, hb1⟩
    have HG1 := Lib.hid (HG.out.next hb1)
    have HB1 := Lib.hid hb1
    clear hb1 htx
    go_wp2_with fail
    refine (htk _ HG1.out).mono ?_
    rintro e w2 ⟨A, n, c, rfl, hnc, hcm, ht, hb2⟩
    obtain rfl : n = 0 := ht.len.symm
    simp only
    have HG2 := Lib.hid (HG1.out.next hb2)
    have HB2 := Lib.hid (HB1.out.trans (hb2.mono HB1.out.size))
    clear ht hb2 htk
    go_wp2_with fail
    refine (hkn _ HG2.out).mono ?_
    rintro e w3 ⟨rfl, hb3⟩
    have HB3 := Lib.hid (HB2.out.trans (hb3.mono HB2.out.size))
    clear hb3
    go_wp2
    go_ret
    exact ⟨rfl, HB3.out⟩
end Go.Proofs.YtnifcgiajjmogaaDoor.C
