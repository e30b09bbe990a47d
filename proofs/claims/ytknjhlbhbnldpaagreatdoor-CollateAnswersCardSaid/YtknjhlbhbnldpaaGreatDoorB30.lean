/-
  Joined: KoW. Each with what its own head says.
-/
import Derived.Test.YtknjhlbhbnldpaaGreatDoorB27
import Derived.Test.YtknjhlbhbnldpaaGreatDoorB25

namespace Go.Proofs.YtknjhlbhbnldpaaGreatDoor.C
open Go.RowKit

theorem plain_right : rightL plainLoc = true := by decide +kernel
theorem plain_new : NewOk plainLoc where
 cls := by decide +kernel
 up := by decide +kernel
 lo := by decide +kernel
 ord := by decide +kernel
theorem plain_cls : ∀ c ∈ plainLoc.cls, c.name.length ≤ maxLen := by decide +kernel
theorem plain_ord : ∀ e ∈ plainLoc.ord, e.name.length ≤ maxLen := by decide +kernel
theorem plain_fold : foldL plainLoc 97 = [65, 97] := by decide +kernel
theorem plain_p97 : placeV plainLoc.ord [97] = 97 := by decide +kernel
theorem plain_p99 : placeV plainLoc.ord [99] = 99 := by decide +kernel
theorem plain_p233 : placeV plainLoc.ord [233] = -1 := by decide +kernel
theorem plain_up : toL plainLoc.up 97 = 65 := by decide +kernel
theorem plain_is : isL plainLoc.cls [100, 105, 103, 105, 116] 55 = true := by decide +kernel
def badLoc : Loc := ⟨[], [(-5, 0)], [], []⟩
theorem bad_right : rightL badLoc = false := by decide +kernel
theorem bad_locR (w : World) : LocR (w.alloc (.cells #[.int .i32 (-5), .int .i32 0] 95)) (w.heap.size + 1) (.slice none 0 0) (.slice (some ⟨w.heap.size, 0, none⟩) 1 1) (.slice none 0 0) (.slice none 0 0) badLoc := by
 refine ⟨⟨none, 0, [], rfl, SI.nil _ _ _ _, by simp [badLoc]⟩, ⟨_, 1, rfl, rfl, by simp [badLoc, prRow], fun _ => ⟨_, rfl, Nat.lt_succ_self _, ?_⟩⟩, ⟨none, 0, rfl, SI.nil _ _ _ _⟩, ⟨none, 0, [], rfl, SI.nil _ _ _ _, by simp [badLoc]⟩, by decide⟩
 intro j x hx i u hu
 rcases j with _ | j
 ·obtain rfl : [Value.int .i32 (-5), .int .i32 0] = x := by simpa [badLoc, prRow] using hx
  rcases i with _ | _ | i
  ·simp at hu; subst hu; simp [Addr.add, World.cell?_alloc_new]
  ·simp at hu; subst hu; simp [Addr.add, World.cell?_alloc_new]
  ·simp at hu
 ·simp [badLoc] at hx
theorem add_one8 (a : Addr) : a.add 1 = ⟨a.block, a.off + 1, none⟩ := by unfold Addr.add; rw [if_neg (by omega)]
theorem Fr.past {w w0 w' : World} {T : Nat} (hb : Below w.heap.size w w0) (hf : Fr w0 w' (· = T)) (hT : w.heap.size ≤ T) : Below w.heap.size w w' :=
 hb.trans (hf.below (by rintro j _ rfl; exact hT) hb.size)
theorem ri_one (w : World) (c : Int) : RI .i32 (w.alloc (.cells #[.int .i32 c] 23)) (w.heap.size + 1) (some ⟨w.heap.size, 0, none⟩) 1 [c] := RI.new w .i32 [c] _
set_option maxRecDepth 100000 in
set_option maxHeartbeats 1000000 in
theorem rank8_any (w : World) (T : Nat) (L : Loc) (n : Int) (Bx : Nat) (Ax : Option Addr) (m cx : Nat) (cs : List Int) (h : TabAt w T L n) (h0 : 0 ≤ n) (h1 : n < 4611686018427387904) (hR : rightL L = true) (hx : RI .i32 w Bx Ax m cs) (hBx : Bx ≤ w.heap.size) (hxT : 0 < m → ∀ ad, Ax = some ad → ad.block ≠ T) (hG : Gl w) (hgT : (5 : Nat) < T) :
  Calls Tryz.prog 38 #[.pointer (some ⟨T, 0, none⟩), .slice Ax m cx] w fun e w' => e = .returned (.int .i64 (placeV L.ord cs)) ∧ TabAt w' T L (n + 1) ∧ Fr w w' (· = T) := by
 have hc := count_any w T L n h h0 h1
 have HTl : Hid (T ≤ w.heap.size) := Lib.hid (Nat.le_of_lt h.lt)
 have HX := Lib.hid hx
 have HXT := Lib.hid hxT
 have HG := Lib.hid hG
 clear h hx hxT hG
 go_enter Tryz.func38, Tryz.ntmps38
 go_wp2_with fail
 refine hc.mono ?_
 rintro e w1 ⟨rfl, ht, hf⟩
 have hs := hf.size
 have hra := rankO_any w1 T L (n + 1) Bx Ax m cx cs ht hR (HX.out.fr hf hBx HXT.out) (by omega) HXT.out (((hf.belowT HTl.out).cell (p := ⟨5, 15, none⟩) hgT).trans HG.out) hgT
 have HF := Lib.hid hf
 clear hc ht hf hs
 go_wp2_with fail
 refine hra.mono ?_
 rintro e w2 ⟨rfl, ht, hf⟩
 have HE : Hid (TabAt w2 T L (n + 1) ∧ Fr w w2 (· = T)) := Lib.hid ⟨ht, HF.out.trans hf⟩
 clear hra ht hf
 go_wp2
 go_ret
 exact ⟨rfl, HE.out⟩
set_option maxRecDepth 100000 in
set_option maxHeartbeats 8000000 in
theorem known08_any (w : World) (hG : Gm w) : Calls Tryz.prog 14 #[] w fun e w' => e = .returned (.bool true) ∧ Below w.heap.size w w' := by
 have hp := plain_any w
 have HG := Lib.hid hG
 clear hG
 go_enter Tryz.func14, Tryz.ntmps14
 go_wp2_with fail
 refine hp.mono ?_
 rintro e w1 ⟨v1, v2, v3, v4, rfl, hL, hb1⟩
 have HB1 := Lib.hid hb1
 have hn := new_yes w1 w1.heap.size v1 v2 v3 v4 plainLoc (LocR.of hL plain_cls plain_ord) (Nat.le_refl _) (HG.out.next hb1) plain_right plain_new
 clear hp hL hb1
 go_wp2_with fail
 refine hn.mono ?_
 rintro e w2 ⟨T, rfl, hT, ht, hb2, -⟩
 have HT2 := Lib.hid ht
 have HT : Hid (w.heap.size ≤ T) := Lib.hid (Nat.le_trans HB1.out.size hT)
 have HB2 := Lib.hid (HB1.out.trans (hb2.mono HB1.out.size))
 clear hn ht hb2 hT
 obtain ⟨w3, hw3⟩ : ∃ w3, w3 = w2.alloc (.cells #[.int .i32 (-5), .int .i32 0] 95) := ⟨_, rfl⟩
 have hb3 : Below w2.heap.size w2 w3 := by rw [hw3]; exact (Below.refl _ _).alloc (Nat.le_refl _) _
 have hs3 : w3.heap.size = w2.heap.size + 1 := by rw [hw3]; simp
 have hno := new_no w3 (w2.heap.size + 1) _ _ _ _ badLoc (by rw [hw3]; exact bad_locR w2) (by rw [hs3]; exact Nat.le_refl _) (HG.out.next (HB2.out.trans (hb3.mono HB2.out.size))) bad_right
 have HT3 := Lib.hid (HT2.out.keep hb3)
 have HB3 := Lib.hid (HB2.out.trans (hb3.mono HB2.out.size))
 clear hb3 hs3 HT2
 go_wp2_with fail
 rw [← hw3]
 clear hw3
 refine hno.mono ?_
 rintro e w4 ⟨rfl, hb4⟩
 have HT4 := Lib.hid (HT3.out.keep hb4)
 have HB4 := Lib.hid (HB3.out.trans (hb4.mono HB3.out.size))
 clear hno hb4 HT3
 obtain ⟨w5, hw5⟩ : ∃ w5, w5 = (w4.alloc (.cells #[.int .i32 97] 23)).alloc (.cells #[.int .i32 99] 23) := ⟨_, rfl⟩
 have hb5 : Below w4.heap.size w4 w5 := by rw [hw5]; exact ((Below.refl _ _).alloc (Nat.le_refl _) _).alloc (by simp) _
 have hx5 : RI .i32 w5 (w4.heap.size + 1) (some ⟨w4.heap.size, 0, none⟩) 1 [97] := by
  rw [hw5]
  exact (ri_one w4 97).keep fun p hp => ((Below.refl _ _).alloc (by simp) _).cell (p := p) hp
 have hy5 : RI .i32 w5 (w4.heap.size + 2) (some ⟨w4.heap.size + 1, 0, none⟩) 1 [99] := by
  rw [hw5]
  have := ri_one (w4.alloc (.cells #[.int .i32 97] 23)) 99
  simpa using this
 have hs5 : w5.heap.size = w4.heap.size + 2 := by rw [hw5]; simp
 have ht5 := HT4.out.keep hb5
 have HB5 := Lib.hid (HB4.out.trans (hb5.mono HB4.out.size))
 have hgT : (5 : Nat) < T := Nat.lt_of_lt_of_le (World.block_lt_of_cell? w _ HG.out.1) HT.out
 have HTl : Hid (T < w4.heap.size) := Lib.hid HT4.out.lt
 have hbt := between_any w5 T plainLoc 0 _ _ _ _ 1 1 1 1 [97] [99] ht5 (by omega) (by omega) plain_right hx5 (by omega) (by rintro _ ad h; injection h with h; subst h; have := HTl.out; simp only; omega) hy5 (by omega) (by rintro _ ad h; injection h with h; subst h; have := HTl.out; simp only; omega) (HG.out.next HB5.out).1 hgT
 clear hb5 hx5 hy5 hs5 ht5 HT4 HTl
 go_wp2_with fail
 rw [← hw5]
 clear hw5
 refine hbt.mono ?_
 rintro e w6 ⟨ht, hf, -, hyes⟩
 obtain ⟨v, rfl, hrow⟩ := hyes 97 99 plain_p97 plain_p99 (by omega)
 obtain ⟨vs, _, hown, _⟩ := hrow
 obtain ⟨A6, c6, rfl⟩ : ∃ A c, v = .slice A 3 c := row_form hown
 have HB6 := Lib.hid (Fr.past HB5.out hf HT.out)
 have hfd := fold_any w6 T plainLoc 1 97 ht (by omega) (by omega) plain_right
 clear hbt ht hf hyes hown hgT
 go_wp2_with fail
 refine hfd.mono ?_
 rintro e w7 ⟨v, rfl, hown, ht, hf⟩
 rw [plain_fold] at hown
 have HB7 := Lib.hid (Fr.past HB6.out hf HT.out)
 obtain ⟨A7, c7, rfl⟩ : ∃ A c, v = .slice A 2 c := row_form hown
 obtain ⟨_, hri⟩ := RI.of_own (zs := [65, 97]) hown
 obtain ⟨ad, rfl, hbl, hcs⟩ := hri (by decide)
 have z0 : w7.cell? ad = some (.int .i32 65) := by have := hcs 0 _ rfl; rwa [Addr.add_zero'] at this
 have z1 : w7.cell? (ad.add 1) = some (.int .i32 97) := hcs 1 _ rfl
 rw [add_one8] at z1
 have HT7 := Lib.hid ht
 clear hfd hown hri hcs ht hf
 go_wp2_with fail
 obtain ⟨w8, hw8⟩ : ∃ w8, w8 = w7.alloc (.cells #[.int .i32 233] 23) := ⟨_, rfl⟩
 have hb8 : Below w7.heap.size w7 w8 := by rw [hw8]; exact (Below.refl _ _).alloc (Nat.le_refl _) _
 have hx8 : RI .i32 w8 (w7.heap.size + 1) (some ⟨w7.heap.size, 0, none⟩) 1 [233] := by rw [hw8]; exact ri_one w7 233
 have hs8 : w8.heap.size = w7.heap.size + 1 := by rw [hw8]; simp
 have ht8 := HT7.out.keep hb8
 have HB8 := Lib.hid (HB7.out.trans (hb8.mono HB7.out.size))
 have hgT : (5 : Nat) < T := Nat.lt_of_lt_of_le (World.block_lt_of_cell? w _ HG.out.1) HT.out
 have hT7 := HT7.out.lt
 have hrk := rank8_any w8 T plainLoc 2 _ _ 1 1 [233] ht8 (by omega) (by omega) plain_right hx8 (by omega) (by rintro _ ad h; injection h with h; subst h; simp only; omega) (HG.out.next HB8.out).1 hgT
 rw [plain_p233] at hrk
 clear hb8 hx8 hs8 ht8 HT7 hT7 hgT
 go_wp2_with fail
 rw [← hw8]
 clear hw8
 refine hrk.mono ?_
 rintro e w9 ⟨rfl, ht, hf⟩
 have hup := upper_any w9 T plainLoc 3 97 ht (by omega) (by omega) plain_right
 rw [plain_up] at hup
 have HB9 := Lib.hid (Fr.past HB8.out hf HT.out)
 clear hrk ht hf
 go_wp2_with fail
 refine hup.mono ?_
 rintro e w10 ⟨rfl, ht, hf⟩
 have his := is_any w10 T plainLoc 4 55 [100, 105, 103, 105, 116] ht (by omega) (by omega) plain_right
 rw [plain_is] at his
 have HB10 := Lib.hid (Fr.past HB9.out hf HT.out)
 clear hup ht hf
 go_wp2_with fail
 refine his.mono ?_
 rintro e w11 ⟨rfl, ht, hf⟩
 have hak := asked_any w11 T plainLoc 5 ht
 have HB11 := Lib.hid (Fr.past HB10.out hf HT.out)
 clear his ht hf
 go_wp2_with fail
 refine hak.mono ?_
 rintro e w12 ⟨rfl, rfl⟩
 clear hak
 go_wp2
 go_ret
 exact ⟨rfl, HB11.out⟩
end Go.Proofs.YtknjhlbhbnldpaaGreatDoor.C
