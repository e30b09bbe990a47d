/-
  TreeLeaves: each cell alone is a tree that may be, and no number that is none. Condition: what the listed variables hold.
-/
import Derived.Test.YtcpjcepeiplfgaaDoorTdB
namespace Go.Proofs.YtcpjcepeiplfgaaDoor.C
open Go.RowKit

set_option maxRecDepth 100000 in
set_option maxHeartbeats 8000000 in
theorem treeLeavesWalk (c k : Int) (w : World) (hG : Gt w) (_hc : (Lit.int .i32 c).wf = true) (hk : (Lit.int .u8 k).wf = true) : Calls Tryd.prog 3 #[.int .i32 c, .int .u8 k] w fun e w' => e = .returned (.bool true) ∧ Below w.heap.size w w' := by
  obtain ⟨S, hS⟩ : ∃ S, w.heap.size = S := ⟨_, rfl⟩
  rw [hS]
  have hk0 : 0 ≤ k ∧ k ≤ 255 := by simp [Lit.wf, IntKind.min, IntKind.max, IntKind.bits, IntKind.signed] at hk; omega
  obtain ⟨kk, hkk⟩ : ∃ kk, k % 13 = kk := ⟨_, rfl⟩
  have tkk : k.tmod 13 = kk := by rw [Int.tmod_eq_emod_of_nonneg hk0.1]; exact hkk
  have wkk : IntKind.u8.wrap (k.tmod 13) = kk := by rw [tkk, IntKind.wrap_u8]; omega
  have hkn := known_any w hG
  rw [hS] at hkn
  have HKN := Lib.hid hkn
  have HSS := Lib.hid hS
  clear hkn hG hk0 hkk hk
  go_enter Tryd.func3, Tryd.ntmps3
  go_upto_region 1 with fail
  go_cut [5] (fun v wx => v = .bool (celOk c) ∧ w = wx)
  case first =>
    by_cases h1 : c < -256
    · have e : celOk c = false := by unfold celOk; rw [decide_eq_false]; omega
      have HE := Lib.hid e
      clear e
      go_wp2
      go_meet
      exact ⟨by rw [HE.out], rfl⟩
    by_cases h2 : c < 55296
    · have e : celOk c = true := by unfold celOk; rw [decide_eq_true]; omega
      have HE := Lib.hid e
      clear e
      have h3 : -256 ≤ c := by omega
      go_wp2
      go_meet
      exact ⟨by rw [HE.out], rfl⟩
    by_cases h3 : c ≤ 57343
    · have e : celOk c = false := by unfold celOk; rw [decide_eq_false]; omega
      have HE := Lib.hid e
      clear e
      have h4 : -256 ≤ c := by omega
      have h5 : ¬ 57343 < c := by omega
      go_wp2
      go_meet
      exact ⟨by rw [HE.out], rfl⟩
    by_cases h4 : c ≤ 1114111
    · have e : celOk c = true := by unfold celOk; rw [decide_eq_true]; omega
      have HE := Lib.hid e
      clear e
      have h5 : -256 ≤ c := by omega
      have h6 : 57343 < c := by omega
      go_wp2
      go_meet
      exact ⟨by rw [HE.out], rfl⟩
    have e : celOk c = false := by unfold celOk; rw [decide_eq_false]; omega
    have HE := Lib.hid e
    clear e
    have h5 : -256 ≤ c := by omega
    have h6 : 57343 < c := by omega
    go_wp2
    go_meet
    exact ⟨by rw [HE.out], rfl⟩
  case rest =>
    generalize wc = wx at *
    obtain ⟨rfl, rfl⟩ := hcut
    go_upto_region 3 with fail
    go_cut [7] (fun v wx => v = .bool (decide (kk = 2 ∨ kk = 4 ∨ kk = 5 ∨ kk = 11 ∨ kk = 3)) ∧ w = wx)
    case first =>
      by_cases k2 : kk = 2
      · have HE : Hid (decide (kk = 2 ∨ kk = 4 ∨ kk = 5 ∨ kk = 11 ∨ kk = 3) = true) := Lib.hid (decide_eq_true (.inl k2))
        have e : (kk == 2) = true := by rw [k2]; rfl
        clear k2
        go_wp2
        go_meet
        exact ⟨by rw [HE.out], rfl⟩
      have e2 : (kk == 2) = false := beq_eq_false_iff_ne.2 k2
      by_cases k4 : kk = 4
      · have HE : Hid (decide (kk = 2 ∨ kk = 4 ∨ kk = 5 ∨ kk = 11 ∨ kk = 3) = true) := Lib.hid (decide_eq_true (.inr (.inl k4)))
        have e : (kk == 4) = true := by rw [k4]; rfl
        clear k4
        go_wp2
        go_meet
        exact ⟨by rw [HE.out], rfl⟩
      have e4 : (kk == 4) = false := beq_eq_false_iff_ne.2 k4
      by_cases k5 : kk = 5
      · have HE : Hid (decide (kk = 2 ∨ kk = 4 ∨ kk = 5 ∨ kk = 11 ∨ kk = 3) = true) := Lib.hid (decide_eq_true (.inr (.inr (.inl k5))))
        have e : (kk == 5) = true := by rw [k5]; rfl
        clear k5
        go_wp2
        go_meet
        exact ⟨by rw [HE.out], rfl⟩
      have e5 : (kk == 5) = false := beq_eq_false_iff_ne.2 k5
      by_cases k11 : kk = 11
      · have HE : Hid (decide (kk = 2 ∨ kk = 4 ∨ kk = 5 ∨ kk = 11 ∨ kk = 3) = true) := Lib.hid (decide_eq_true (.inr (.inr (.inr (.inl k11)))))
        have e : (kk == 11) = true := by rw [k11]; rfl
        clear k11
        go_wp2
        go_meet
        exact ⟨by rw [HE.out], rfl⟩
      have e11 : (kk == 11) = false := beq_eq_false_iff_ne.2 k11
      by_cases k3 : kk = 3
      · have HE : Hid (decide (kk = 2 ∨ kk = 4 ∨ kk = 5 ∨ kk = 11 ∨ kk = 3) = true) := Lib.hid (decide_eq_true (.inr (.inr (.inr (.inr k3)))))
        have e : (kk == 3) = true := by rw [k3]; rfl
        clear k3
        go_wp2
        go_meet
        exact ⟨by rw [HE.out], rfl⟩
      have e3 : (kk == 3) = false := beq_eq_false_iff_ne.2 k3
      have HE : Hid (decide (kk = 2 ∨ kk = 4 ∨ kk = 5 ∨ kk = 11 ∨ kk = 3) = false) := Lib.hid (decide_eq_false (by omega))
      clear k2 k4 k5 k11 k3
      go_wp2
      go_meet
      exact ⟨by rw [HE.out], rfl⟩
    case rest =>
      generalize wc = wx at *
      obtain ⟨rfl, rfl⟩ := hcut
      obtain ⟨bb, hbb⟩ : ∃ bb, decide (kk = 2 ∨ kk = 4 ∨ kk = 5 ∨ kk = 11 ∨ kk = 3) = bb := ⟨_, rfl⟩
      rw [hbb]
      have HBB := Lib.hid hbb
      clear hbb
      go_wp2_with (go_at_call 9; refine HKN.out.mono ?_; rintro e w1 ⟨rfl, hb1⟩; have HB1 := Lib.hid hb1; clear hb1)
      obtain ⟨w2, hw2⟩ : ∃ w2, w2 = w1.alloc (.cells #[.int .u8 1, .int .i32 c, .bool false, .slice none 0 0, .slice none 0 0, .int .i64 0, .int .i64 0, .int .i64 0, .slice none 0 0] 31) := ⟨_, rfl⟩
      have hb2 : Below w1.heap.size w1 w2 := by rw [hw2]; exact (Below.refl _ _).alloc (Nat.le_refl _) _
      have hS1 : S ≤ w1.heap.size := by have := HB1.out.size; have := HSS.out; omega
      have hn := lit_one (w := w1) (W := w2) (t := 31) (x := { nd 1 with c := c }) (P := (· = w1.heap.size)) (vR := .slice none 0 0) (vT := .slice none 0 0) (vK := .slice none 0 0) hw2 rfl (nd_plain 1)
      have hc1 := treeRight_any w2 _ _ 1 ⟨[{ nd 1 with c := c }], 0⟩ _ hn (by rintro b rfl; rw [hw2]; simp) (by simp [maxLen])
      rw [right_cell] at hc1
      rw [← hw2]
      simp only [List.length_singleton] at hc1
      have HB2 : Hid (Below S w w2) := Lib.hid (HB1.out.trans (hb2.mono hS1))
      have HS2 : Hid (S ≤ w2.heap.size) := Lib.hid (by have := hb2.size; omega)
      clear hb2 hS1 hn HKN HB1 hw2
      refine hc1.mono ?_
      rintro e w3 ⟨rfl, hb3⟩
      have HB3 : Hid (Below S w w3) := Lib.hid (HB2.out.trans (hb3.mono HS2.out))
      have HS3 : Hid (S ≤ w3.heap.size) := Lib.hid (by have := hb3.size; have := HS2.out; omega)
      clear hc1 hb3
      go_wp2_with fail
      obtain ⟨w4, hw4⟩ : ∃ w4, w4 = w3.alloc (.cells #[.int .u8 kk, .int .i32 0, .bool false, .slice none 0 0, .slice none 0 0, .int .i64 0, .int .i64 0, .int .i64 0, .slice none 0 0] 31) := ⟨_, rfl⟩
      have hb4 : Below w3.heap.size w3 w4 := by rw [hw4]; exact (Below.refl _ _).alloc (Nat.le_refl _) _
      have hn := lit_one (w := w3) (W := w4) (t := 31) (x := nd kk) (P := (· = w3.heap.size)) (vR := .slice none 0 0) (vT := .slice none 0 0) (vK := .slice none 0 0) hw4 rfl (nd_plain kk)
      have hc1 := treeRight_any w4 _ _ 1 ⟨[nd kk], 0⟩ _ hn (by rintro b rfl; rw [hw4]; simp) (by simp [maxLen])
      rw [right_kind] at hc1
      rw [← hw4]
      simp only [List.length_singleton] at hc1
      have HB4 : Hid (Below S w w4) := Lib.hid (HB3.out.trans (hb4.mono HS3.out))
      have HS4 : Hid (S ≤ w4.heap.size) := Lib.hid (by have := hb4.size; have := HS3.out; omega)
      obtain ⟨b1, hb1⟩ : ∃ b1, decide (kk = 1) = b1 := ⟨_, rfl⟩
      have e1 : (kk == 1) = b1 := by rw [← hb1]; rfl
      rw [HBB.out, hb1] at hc1
      clear hb4 hn hw4 hb1
      refine hc1.mono ?_
      rintro e w5 ⟨rfl, hb5⟩
      have HB5 : Hid (Below S w w5) := Lib.hid (HB4.out.trans (hb5.mono HS4.out))
      clear hc1 hb5
      cases bb with
      | true =>
        go_wp2
        go_ret
        exact ⟨by simp, HB5.out⟩
      | false =>
        cases b1 <;> (go_wp2; go_ret; exact ⟨by simp, HB5.out⟩)
end Go.Proofs.YtcpjcepeiplfgaaDoor.C
