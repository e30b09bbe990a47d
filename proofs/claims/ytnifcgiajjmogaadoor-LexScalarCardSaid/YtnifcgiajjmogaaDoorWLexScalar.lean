/-
  The walk of LexScalar: for every number it returns true; nothing that was there changes. Condition: what is asked of the listed variables ('Gl').
-/
import Derived.Test.YtnifcgiajjmogaaDoorLxE
namespace Go.Proofs.YtnifcgiajjmogaaDoor.C
open Go.RowKit

theorem refRight_int (c : Int) (b : Bool) (h0 : 0 ≤ c) (h : b = decide (c < 55296 ∨ 57343 < c ∧ c ≤ 1114111)) (w : World) : Calls Tryd.prog 8 #[.int .i32 c] w fun e w' => e = .returned (.bool b) ∧ w' = w := by
  have a0 : decide (-256 ≤ c) = true := decide_eq_true (by omega)
  by_cases h2 : 1114111 < c
  · obtain rfl : b = false := by rw [h]; exact decide_eq_false (by omega)
    have d1 : decide (c < 55296) = false := decide_eq_false (by omega)
    have d2 : decide (57343 < c) = true := decide_eq_true (by omega)
    have d3 : decide (c ≤ 1114111) = false := decide_eq_false (by omega)
    clear h
    go_enter Tryd.func8, Tryd.ntmps8
    go_wp2
    all_goals go_ret
    all_goals exact ⟨rfl, rfl⟩
  by_cases h3 : c < 55296
  · obtain rfl : b = true := by rw [h]; exact decide_eq_true (by omega)
    have d1 : decide (c < 55296) = true := decide_eq_true (by omega)
    have d2 : decide (57343 < c) = false := decide_eq_false (by omega)
    have d3 : decide (c ≤ 1114111) = true := decide_eq_true (by omega)
    clear h
    go_enter Tryd.func8, Tryd.ntmps8
    go_wp2
    all_goals go_ret
    all_goals exact ⟨rfl, rfl⟩
  by_cases h4 : 57343 < c
  · obtain rfl : b = true := by rw [h]; exact decide_eq_true (by omega)
    have d1 : decide (c < 55296) = false := decide_eq_false (by omega)
    have d2 : decide (57343 < c) = true := decide_eq_true (by omega)
    have d3 : decide (c ≤ 1114111) = true := decide_eq_true (by omega)
    clear h
    go_enter Tryd.func8, Tryd.ntmps8
    go_wp2
    all_goals go_ret
    all_goals exact ⟨rfl, rfl⟩
  · obtain rfl : b = false := by rw [h]; exact decide_eq_false (by omega)
    have d1 : decide (c < 55296) = false := decide_eq_false (by omega)
    have d2 : decide (57343 < c) = false := decide_eq_false (by omega)
    have d3 : decide (c ≤ 1114111) = true := decide_eq_true (by omega)
    clear h
    go_enter Tryd.func8, Tryd.ntmps8
    go_wp2
    all_goals go_ret
    all_goals exact ⟨rfl, rfl⟩
theorem refRight_is (n : Nat) (w : World) (b : Bool) (h : rightN n = b) : Calls Tryd.prog 8 #[.int .i32 n] w fun e w' => e = .returned (.bool b) ∧ w' = w :=
  refRight_int n b (by omega) (by rw [← h]; unfold rightN; rw [decide_eq_decide]; omega) w
theorem TI.one (w : World) (x : Tok) : TI (w.alloc (.cells #[.int .u8 x.k, .string (str x.t), .int .i64 x.n, .int .i64 x.at_] 25)) (w.heap.size + 1) (some ⟨w.heap.size, 0, none⟩) 1 [x] :=
  ⟨rfl, fun _ => ⟨_, rfl, Nat.lt_succ_self _, fun j y hy i u hu => by
    have hj : j = 0 := by
      have := (List.getElem?_eq_some_iff.1 hy).1
      simp at this
      exact this
    subst hj
    simp at hy
    subst hy
    rw [add_off0, Nat.zero_mul, Nat.zero_add, World.cell?_alloc_new]
    simpa [tkC] using hu⟩⟩

set_option maxRecDepth 100000 in
set_option maxHeartbeats 4000000 in
theorem lexScalarWalk (a0 : Int) (w : World) (hG : Gl w) (w0 : (Lit.int .u32 a0).wf = true) :
    Calls Tryd.prog 3 #[.int .u32 a0] w fun e w' => e = .returned (.bool true) ∧ Below w.heap.size w w' := by
  have hw0 : 0 ≤ a0 ∧ a0 < 4294967296 := by
    have hmin : IntKind.u32.min = 0 := rfl
    have hmax : IntKind.u32.max = 4294967295 := rfl
    simp only [Lit.wf, Bool.and_eq_true, decide_eq_true_eq] at w0
    omega
  clear w0
  obtain ⟨n, hn⟩ : ∃ n : Nat, a0 % 1179648 = (n : Int) := ⟨(a0 % 1179648).toNat, by omega⟩
  have hn2 : n < 1179648 := by omega
  obtain ⟨hw1, hw2⟩ := hw0
  have hb0 : Below w.heap.size w (w.alloc (.cells #[.int .u8 3, .string ⟨#[]⟩, .int .i64 n, .int .i64 0] 25)) := (Below.refl _ _).alloc (Nat.le_refl _) _
  have hT0 : TI (w.alloc (.cells #[.int .u8 3, .string ⟨#[]⟩, .int .i64 n, .int .i64 0] 25)) (w.heap.size + 1) (some ⟨w.heap.size, 0, none⟩) 1 [⟨3, [], n, 0⟩] := TI.one w ⟨3, [], n, 0⟩
  have hG0 := hG.next hb0
  have hpr := print_any _ _ _ 1 1 _ hT0 (by simp) hG0 (by omega) (by intro x hx; simp at hx; subst hx; simp; omega)
  have htk := fun W (hW : Gl W) => tokens_any (str (prtL [⟨3, [], n, 0⟩])) W hW
  rw [str_list, lex_scalar n (by omega)] at htk
  have hri := fun W b h => refRight_is n W b h
  have hkn := known_any
  have HB0 := Lib.hid hb0
  have HG0 := Lib.hid hG0
  obtain ⟨c, hc⟩ : ∃ c : Int, (n : Int) = c := ⟨_, rfl⟩
  have c0 : 0 ≤ c := by omega
  have c1 : c < 1179648 := by omega
  rw [hc] at hn hpr HB0 HG0 hri
  clear hb0 hT0 hG0 hG
  by_cases hr : rightN n = true
  · rw [if_pos hr] at htk
    have hri1 := fun W => hri W true hr
    have hc' : ((n : Int)) = c := hc
    have HC := Lib.hid hc'
    clear hr hri hc hc' hn2
    generalize str (prtL [⟨3, [], n, 0⟩]) = S at *
    go_enter Tryd.func3, Tryd.ntmps3
    go_wp2_with fail
    refine hpr.mono ?_
    rintro e w1 ⟨rfl, hb1⟩
    have HG1 := Lib.hid (HG0.out.next hb1)
    have HB1 := Lib.hid (HB0.out.trans (hb1.mono (by simp)))
    clear hb1
    go_wp2_with fail
    refine (htk _ HG1.out).mono ?_
    rintro e w2 ⟨A, m, cc, rfl, hmc, hmm, ht, hb2⟩
    obtain rfl : m = 2 := ht.len.symm
    have HG2 := Lib.hid (HG1.out.next hb2)
    have HB2 := Lib.hid (HB1.out.trans (hb2.mono HB1.out.size))
    have HT := Lib.hid ht
    clear ht hb2
    go_wp2_with fail
    refine (hri1 _).mono ?_
    rintro e w' ⟨rfl, rfl⟩
    go_wp2_with fail
    refine (hkn _ HG2.out).mono ?_
    rintro e w3 ⟨rfl, hb3⟩
    have ht3 := HT.out.on hb3 (Nat.le_refl _)
    have HB3 := Lib.hid (HB2.out.trans (hb3.mono HB2.out.size))
    obtain ⟨ad, rfl, hbl⟩ := ht3.some_ (by omega)
    have q0 : w3.cell? ad = some (.int .u8 3) := ht3.cell rfl (k := 0) (x := ⟨3, [], n, 0⟩) rfl 0 _ rfl
    have q2 : w3.cell? (ad.add 2) = some (.int .i64 c) := by rw [← HC.out]; exact ht3.cell rfl (k := 0) (x := ⟨3, [], n, 0⟩) rfl 2 _ rfl
    rw [add_pos _ _ (by omega)] at q2
    clear ht3 hb3
    go_wp2
    go_ret
    exact ⟨rfl, HB3.out⟩
  · rw [if_neg hr] at htk
    have hri1 := fun W => hri W false (by simpa using hr)
    clear hr hri hc hn2
    generalize str (prtL [⟨3, [], n, 0⟩]) = S at *
    go_enter Tryd.func3, Tryd.ntmps3
    go_wp2_with fail
    refine hpr.mono ?_
    rintro e w1 ⟨rfl, hb1⟩
    have HG1 := Lib.hid (HG0.out.next hb1)
    have HB1 := Lib.hid (HB0.out.trans (hb1.mono (by simp)))
    clear hb1
    go_wp2_with fail
    refine (htk _ HG1.out).mono ?_
    rintro e w2 ⟨A, m, cc, rfl, hmc, hmm, ht, hb2⟩
    have HG2 := Lib.hid (HG1.out.next hb2)
    have HB2 := Lib.hid (HB1.out.trans (hb2.mono HB1.out.size))
    clear ht hb2
    go_wp2_with fail
    refine (hri1 _).mono ?_
    rintro e w' ⟨rfl, rfl⟩
    go_wp2_with fail
    refine (hkn _ HG2.out).mono ?_
    rintro e w3 ⟨rfl, hb3⟩
    go_wp2
    go_ret
    exact ⟨rfl, HB2.out.trans (hb3.mono HB2.out.size)⟩
end Go.Proofs.YtnifcgiajjmogaaDoor.C
