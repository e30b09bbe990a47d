/-
  The contract of the statements' tells: what Split, Number, Count and Join tell of any cells (2^30 at most), and any place, is what the document's own do; nothing that was there changes.
-/
import Derived.Test.YtlecioifjdmmmaaLnN
namespace Go.Proofs.Ytlecioifjdmmmaa.C
open Go.RowKit

theorem number_two (w : World) (B : Nat) (A : Option Addr) (m c : Nat) (zs : List Int) (hx : RI .i32 w B A m zs) (hB : B ≤ w.heap.size) (hmc : m ≤ c) (hc : c ≤ maxLen) (hm : m ≤ 1073741824) (at_ : Int) :
    ∃ p q : Int, (∀ W, Below w.heap.size w W → Calls Try.prog 16 #[.slice A m c, .int .i64 at_] W fun e w' => e = .returned (.tuple #[.int .i64 p, .int .i64 q]) ∧ Below W.heap.size W w') ∧
      (∀ W, Below w.heap.size w W → Calls Try.prog 19 #[.slice A m c, .int .i64 at_] W fun e w' => e = .returned (.tuple #[.int .i64 p, .int .i64 q]) ∧ w' = W) := by
  by_cases h0 : at_ < 0
  · exact ⟨0, 0, fun W _ => number_low W A m c at_ h0, fun W _ => refNumber_low W A m c at_ h0⟩
  by_cases h1 : (m : Int) < at_
  · exact ⟨0, 0, fun W _ => number_high W A m c at_ hm h1, fun W _ => refNumber_high W A m c at_ hm h1⟩
  obtain ⟨k, rfl⟩ : ∃ k : Nat, at_ = (k : Int) := ⟨at_.toNat, by omega⟩
  exact ⟨_, _, fun W hW => number_in W B A m c zs (hx.on hW hB) (by have := hW.size; omega) hmc hc hm k (by omega), fun W hW => refNumber_in W B A m c zs (hx.on hW hB) hm k (by omega)⟩

set_option maxRecDepth 100000 in
set_option maxHeartbeats 2000000 in
theorem tells_any (w : World) (B : Nat) (A : Option Addr) (m c : Nat) (zs : List Int) (hx : RI .i32 w B A m zs) (hB : B ≤ w.heap.size) (hmc : m ≤ c) (hc : c ≤ maxLen) (hm : m ≤ 1073741824) (at_ : Int) :
    Calls Try.prog 13 #[.slice A m c, .int .i64 at_] w fun e w' => e = .returned (.bool true) ∧ Below w.heap.size w w' := by
  obtain ⟨p, q, hn1, hn2⟩ := number_two w B A m c zs hx hB hmc hc hm at_
  have hpp : (p == p) = true := by simp
  have hqq : (q == q) = true := by simp
  have HX := Lib.hid hx
  have HL := Lib.hid hx.len
  have HSL := Lib.hid (split_len zs)
  clear hx
  go_enter Try.func13, Try.ntmps13
  go_wp2_with fail
  with_reducible refine (hn1 w (Below.refl _ _)).mono ?_
  rintro e w1 ⟨rfl, hb1⟩
  have hs1 := hb1.size
  go_wp2_with fail
  with_reducible refine (hn2 w1 hb1).mono ?_
  rintro e w' ⟨rfl, rfl⟩
  clear hn1 hn2
  go_wp2_with fail
  with_reducible refine (split_any w' B A m c zs (HX.out.on hb1 hB) (by omega) hmc hc hm).mono ?_
  rintro e w2 ⟨A2, n2, c2, rfl, h2c, h2m, hl2, hb2⟩
  have hs2 := hb2.size
  have B2 := hb1.trans (hb2.mono hs1)
  have hn2l : n2 ≤ m := by have := hl2.len; have := HSL.out; have := HL.out; omega
  have HL2 := Lib.hid hl2
  clear hl2
  go_wp2_with fail
  with_reducible refine (refSplit_any w2 B A m c zs (HX.out.on B2 hB) (by omega) hm).mono ?_
  rintro e w3 ⟨A3, n3, c3, rfl, h3c, h3m, hl3, hb3⟩
  have hs3 := hb3.size
  have B3 := B2.trans (hb3.mono (by omega))
  obtain rfl : n2 = n3 := by rw [← hl3.len, ← HL2.out.len]
  have HL3 := Lib.hid hl3
  have HL2' := Lib.hid (HL2.out.on hb3 (Nat.le_refl _))
  have hcl := hl3.len
  clear hl3
  go_wp2_with fail
  with_reducible refine (refSame_yes w3 w2.heap.size w3.heap.size A2 A3 n2 c2 c3 (splitL zs) HL2'.out HL3.out (by omega)).mono ?_
  rintro e w4 ⟨rfl, q4, rfl⟩
  have B4 : Below w.heap.size w (w3.drewN q4) := below_drewN B3 q4
  have hs4 : w3.heap.size = (w3.drewN q4).heap.size := rfl
  have HL4 := Lib.hid (HL3.out.drewN q4)
  generalize w3.drewN q4 = W4 at *
  go_wp2_with fail
  have hcnt := count_any W4 B A m c zs (HX.out.on B4 hB) (by omega) hmc hc hm
  rw [hcl] at hcnt
  with_reducible refine hcnt.mono ?_
  rintro e w5 ⟨rfl, hb5⟩
  have hs5 := hb5.size
  have B5 := B4.trans (hb5.mono (by omega))
  have hnn : ((n2 : Int) == (n2 : Int)) = true := by simp
  clear hcnt
  go_wp2_with fail
  with_reducible refine (join_any w5 w3.heap.size A3 n2 c3 (splitL zs) (HL4.out.on hb5 (by omega)) (by omega) (by omega) (by rw [join_split, HL.out]; exact hm)).mono ?_
  rintro e w6 ⟨v6, rfl, hown6, hb6⟩
  rw [join_split] at hown6
  obtain ⟨A6, c6, rfl, h6c, h6m, hr6⟩ := own_slice2 hown6
  have hs6 := hb6.size
  have B6 := B5.trans (hb6.mono (by omega))
  have HR6 := Lib.hid hr6
  rw [HL.out] at *
  clear hown6 hr6
  go_wp2_with fail
  with_reducible refine (same_yes w6 w6.heap.size B A6 A m c6 m c zs zs rfl HR6.out (HX.out.on B6 hB) (by omega) (by omega)).mono ?_
  rintro e w7 ⟨rfl, q7, rfl⟩
  go_wp2
  go_ret
  exact ⟨rfl, below_drewN B6 q7⟩
end Go.Proofs.Ytlecioifjdmmmaa.C
