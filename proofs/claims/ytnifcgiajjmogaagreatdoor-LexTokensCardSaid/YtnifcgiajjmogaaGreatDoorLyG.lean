/-
  The contract of the statements' own tells: the two answers agree. Condition: what is asked of the listed variables ('Gl').
-/
import Derived.Test.YtnifcgiajjmogaaGreatDoorLyW
namespace Go.Proofs.YtnifcgiajjmogaaGreatDoor.C
open Go.RowKit

theorem lex_err (l : List UInt8) : (lexL l).2.1 ≤ 20 := by
  unfold lexL
  split
  · simp
  · cases runL l 0 [] with
    | inl ts =>
      simp only
      split <;> simp
    | inr a => simp

set_option maxRecDepth 100000 in
set_option maxHeartbeats 4000000 in
theorem tells_any (s : ByteArray) (w : World) (hG : Gl w) : Calls Tryz.prog 7 #[.string s] w fun e w' => e = .returned (.bool true) ∧ Below w.heap.size w w' := by
  have htk := fun W (hW : Gl W) => tokens_any s W hW
  have hrf := fun W => tokens_ref s W
  have her := lex_err s.data.toList
  have HG := Lib.hid hG
  obtain ⟨r, hr⟩ : ∃ r, lexL s.data.toList = r := ⟨_, rfl⟩
  rw [hr] at htk hrf her
  obtain ⟨ts, er, at_⟩ := r
  simp only at her
  obtain ⟨x, hx⟩ : ∃ x : Int, (er : Int) = x := ⟨_, rfl⟩
  have x0 : 0 ≤ x := by omega
  have x1 : x ≤ 20 := by omega
  have htk2 : ∀ W, Gl W → Calls Tryz.prog 8 #[.string s] W fun e w' => ∃ A n c, e = .returned (.tuple #[.slice A n c, .int .u16 x, .int .i64 at_]) ∧ TI w' w'.heap.size A n ts ∧ Below W.heap.size W w' := fun W hW => (htk W hW).mono fun e w' ⟨A, n, c, he, _, _, h1, h2⟩ => ⟨A, n, c, by rw [he, ← hx], h1, h2⟩
  have hrf2 : ∀ W, Calls Tryz.prog 11 #[.string s] W fun e w' => ∃ A n c, e = .returned (.tuple #[.slice A n c, .int .i64 x, .int .i64 at_]) ∧ n ≤ 5000 ∧ TI w' w'.heap.size A n ts ∧ Below W.heap.size W w' := fun W => (hrf W).mono fun e w' ⟨A, n, c, he, h0, h1, h2⟩ => ⟨A, n, c, by rw [he, ← hx], h0, h1, h2⟩
  clear htk hrf her hr hx hG
  go_enter Tryz.func7, Tryz.ntmps7
  go_wp2_with fail
  refine (htk2 _ HG.out).mono ?_
  rintro e w1 ⟨A1, n, c1, rfl, ht1, hb1⟩
  simp only
  have HT1 := Lib.hid ht1
  have HB1 := Lib.hid hb1
  have hn1 := ht1.len
  clear ht1 hb1 htk2
  go_wp2_with fail
  refine (hrf2 _).mono ?_
  rintro e w2 ⟨A2, m, c2, rfl, hm5, ht2, hb2⟩
  simp only
  obtain rfl : n = m := by rw [← hn1, ht2.len]
  have HB2 := Lib.hid (HB1.out.trans (hb2.mono HB1.out.size))
  have hex := exact_yes w2 w1.heap.size w2.heap.size A1 A2 n c1 c2 ts (HT1.out.on hb2 (Nat.le_refl _)) ht2 hm5
  clear hb2 hrf2 ht2 hn1 HT1
  go_wp2_with fail
  refine hex.mono ?_
  rintro e w3 ⟨rfl, q, rfl⟩
  simp only
  have HB3 := Lib.hid (below_drewN0 HB2.out q)
  clear hex
  go_wp2
  go_ret
  exact ⟨rfl, HB3.out⟩
end Go.Proofs.YtnifcgiajjmogaaGreatDoor.C
