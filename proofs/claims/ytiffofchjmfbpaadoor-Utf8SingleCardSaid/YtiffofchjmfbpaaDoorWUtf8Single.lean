/-
  The walk of Utf8Single: for every byte it returns true; nothing that was there changes. Condition: the decoder's two tables stand as they were laid.
-/
import Derived.Test.YtiffofchjmfbpaaDoorUtfH
namespace Go.Proofs.YtiffofchjmfbpaaDoor.C
open Go.RowKit

theorem of_low {b : Int} (h0 : 0 ≤ b) (h1 : b < 128) : ofL (sb [b]) = [b] := by
  have h : encL [b] = [b] := by
    rw [encL_cons, encL_nil, List.append_nil]
    unfold encC
    rw [if_neg (by omega), Lib.encodeRuneZ_one h0 (by omega)]
  have := of_enc (l := [b]) (by intro c hc; simp at hc; subst hc; exact ⟨by unfold rightB; simp; omega, h0⟩)
  rwa [h] at this
theorem of_high {b : Int} (h0 : 128 ≤ b) (h1 : b ≤ 255) : ofL (sb [b]) = [-1 - b] := by
  refine of_bad (bd_cons ⟨by omega, h1⟩ bd_nil) fun pos hp => ?_
  obtain rfl : pos = 0 := by simp at hp; omega
  unfold Lib.decodeN nb
  simp
  omega

set_option maxHeartbeats 1000000 in
theorem utf8SingleWalk (a0 : Int) (w : World) (hT : Lib.Utf8Tabs 0 1 w) (w0 : (Lit.int .u8 a0).wf = true) :
    Calls Tryd.prog 4 #[.int .u8 a0] w fun e w' => e = .returned (.bool true) ∧ Below w.heap.size w w' := by
  obtain ⟨h0, h1⟩ := bounds_u8 w0
  have HT := Lib.hid hT
  clear hT w0
  by_cases hlow : a0 < 128
  · have ho := of_low h0 hlow
    have HOF := Lib.hid ho
    clear ho
    go_enter Tryd.func4, Tryd.ntmps4
    go_wp2_with fail
    refine (decode_any (w.alloc (.cells #[.int .u8 a0] 5)) (w.heap.size + 1) (some ⟨w.heap.size, 0, none⟩) 1 1 [a0] (RI.new w .u8 [a0] _) (by simp) (bd_cons ⟨h0, h1⟩ bd_nil) (by omega) (by omega) (by decide) (tabs_below HT.out ((Below.refl _ _).alloc (Nat.le_refl _) _))).mono ?_
    rintro e w1 ⟨v1, rfl, hown1, hb1⟩
    rw [HOF.out] at hown1
    obtain ⟨g, cap, rfl, _, hg2⟩ := hown1.form (by simp)
    have hb1' : Below w.heap.size w w1 := ((Below.refl _ _).alloc (Nat.le_refl _) _).trans (hb1.mono (by simp))
    have hs1 := hb1'.size
    have hl0 : w1.cell? ⟨g, 0, none⟩ = some (.int .i32 a0) := hown1.cells (g := g) rfl 0 _ rfl
    clear hown1 hb1
    go_wp2_with fail
    refine (known_any w1 (tabs_below HT.out hb1')).mono ?_
    rintro e w2 ⟨rfl, hb2⟩
    have hl2 : w2.cell? ⟨g, 0, none⟩ = some (.int .i32 a0) := (hb2.cell (p := ⟨g, 0, none⟩) hg2).trans hl0
    clear hl0
    go_wp2
    go_ret
    exact ⟨rfl, hb1'.trans (hb2.mono hs1)⟩
  · have ho := of_high (b := a0) (by omega) h1
    have HOF := Lib.hid ho
    clear ho
    go_enter Tryd.func4, Tryd.ntmps4
    go_wp2_with fail
    refine (decode_any (w.alloc (.cells #[.int .u8 a0] 5)) (w.heap.size + 1) (some ⟨w.heap.size, 0, none⟩) 1 1 [a0] (RI.new w .u8 [a0] _) (by simp) (bd_cons ⟨h0, h1⟩ bd_nil) (by omega) (by omega) (by decide) (tabs_below HT.out ((Below.refl _ _).alloc (Nat.le_refl _) _))).mono ?_
    rintro e w1 ⟨v1, rfl, hown1, hb1⟩
    rw [HOF.out] at hown1
    obtain ⟨g, cap, rfl, _, hg2⟩ := hown1.form (by simp)
    have hb1' : Below w.heap.size w w1 := ((Below.refl _ _).alloc (Nat.le_refl _) _).trans (hb1.mono (by simp))
    have hs1 := hb1'.size
    have hl0 : w1.cell? ⟨g, 0, none⟩ = some (.int .i32 (-1 - a0)) := hown1.cells (g := g) rfl 0 _ rfl
    clear hown1 hb1
    go_wp2_with fail
    refine (refEscape_any a0 w1 h0 h1).mono ?_
    rintro e w' ⟨rfl, rfl⟩
    go_wp2_with fail
    refine (known_any w1 (tabs_below HT.out hb1')).mono ?_
    rintro e w2 ⟨rfl, hb2⟩
    have hl2 : w2.cell? ⟨g, 0, none⟩ = some (.int .i32 (-1 - a0)) := (hb2.cell (p := ⟨g, 0, none⟩) hg2).trans hl0
    clear hl0
    go_wp2
    go_ret
    exact ⟨rfl, hb1'.trans (hb2.mono hs1)⟩
end Go.Proofs.YtiffofchjmfbpaaDoor.C
