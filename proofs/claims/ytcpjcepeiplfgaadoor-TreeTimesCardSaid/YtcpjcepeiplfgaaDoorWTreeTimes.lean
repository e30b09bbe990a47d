/-
  TreeTimes: a node is repeated from 0 times on, 255 at most, or any number of times. Condition: what the listed variables hold.
-/
import Derived.Test.YtcpjcepeiplfgaaDoorTdB
namespace Go.Proofs.YtcpjcepeiplfgaaDoor.C
open Go.RowKit

theorem right_times (a b : Int) : rightT ⟨[nd 2, { nd 10 with mn := a, mx := b, ks := [0] }], 0⟩ = timB a b := by
  simp [rightT, nodeAt, nodeB, nd, bareB, useN, grpN, List.range_succ, timB]
theorem times_lit {w W1 W2 W3 : World} {a b : Int} (hW1 : W1 = w.alloc (.cells #[.int .i64 0] 3)) (hW2 : W2 = W1.alloc (.cells #[.int .u8 2, .int .i32 0, .bool false, .slice none 0 0, .slice none 0 0, .int .i64 0, .int .i64 0, .int .i64 0, .slice none 0 0, .int .u8 10, .int .i32 0, .bool false, .slice none 0 0, .slice none 0 0, .int .i64 0, .int .i64 a, .int .i64 b, .slice (some ⟨w.heap.size, 0, none⟩) 1 1] 31)) (hW3 : W3 = W2.alloc (.cells #[.slice (some ⟨w.heap.size + 1, 0, none⟩) 2 2, .int .i64 0] 34)) :
    NdsP W3 (fun b => w.heap.size ≤ b ∧ b < W2.heap.size) (some ⟨w.heap.size + 1, 0, none⟩) [nd 2, { nd 10 with mn := a, mx := b, ks := [0] }] [ndRow (nd 2) (.slice none 0 0) (.slice none 0 0) (.slice none 0 0), ndRow { nd 10 with mn := a, mx := b, ks := [0] } (.slice none 0 0) (.slice none 0 0) (.slice (some ⟨w.heap.size, 0, none⟩) 1 1)] ∧ Below w.heap.size w W3 ∧ W3.heap.size = w.heap.size + 3 ∧ W2.heap.size = w.heap.size + 2 ∧ Rw W3 (w.heap.size + 2) 34 #[.slice (some ⟨w.heap.size + 1, 0, none⟩) 2 2, .int .i64 0] := by
  have s1 : W1.heap.size = w.heap.size + 1 := by rw [hW1]; simp
  have s2 : W2.heap.size = w.heap.size + 2 := by rw [hW2]; simp [s1]
  have s3 : W3.heap.size = w.heap.size + 3 := by rw [hW3]; simp [s2]
  have b1 : Below w.heap.size w W1 := by rw [hW1]; exact (Below.refl _ _).alloc (Nat.le_refl _) _
  have b2 : Below (w.heap.size + 1) W1 W2 := by rw [hW2]; exact (Below.refl _ _).alloc (by omega) _
  have b3 : Below (w.heap.size + 2) W2 W3 := by rw [hW3]; exact (Below.refl _ _).alloc (by omega) _
  have hk : RIp .i64 W2 (· = w.heap.size) (some ⟨w.heap.size, 0, none⟩) 1 [0] := by
    have := int_new w 0
    rw [← hW1] at this
    exact this.keep (below_cells (P := (· = w.heap.size)) b2 (fun b hb => by omega))
  have hn : NdsP W2 (fun b => w.heap.size ≤ b ∧ b < W2.heap.size) (some ⟨W1.heap.size, 0, none⟩) [nd 2, { nd 10 with mn := a, mx := b, ks := [0] }] [ndRow (nd 2) (.slice none 0 0) (.slice none 0 0) (.slice none 0 0), ndRow { nd 10 with mn := a, mx := b, ks := [0] } (.slice none 0 0) (.slice none 0 0) (.slice (some ⟨w.heap.size, 0, none⟩) 1 1)] := by
    refine lit_nds (w := W1) (t := 31) (by rw [hW2]; rfl) rfl ⟨by omega, by omega⟩ fun i y hy => ?_
    rcases i with _ | _ | i
    · obtain rfl : nd 2 = y := by simpa using hy
      exact ⟨_, _, _, rfl, nd_plain 2⟩
    · obtain rfl : { nd 10 with mn := a, mx := b, ks := [0] } = y := by simpa using hy
      exact ⟨_, _, _, rfl, nd_kids 10 (hk.mono fun b hb1 hb => by omega) (by simp [maxLen]) 0 a b⟩
    · simp at hy
  rw [s1] at hn
  refine ⟨hn.keep (below_cells (P := fun b => w.heap.size ≤ b ∧ b < W2.heap.size) b3 (fun b hb => by omega)), b1.trans ((b2.trans (b3.mono (by omega))).mono (by omega)), s3, s2, ?_⟩
  rw [hW3, ← s2]
  exact heap_alloc_new W2 _
set_option maxRecDepth 100000 in
set_option maxHeartbeats 8000000 in
theorem treeTimesWalk (a b : Int) (w : World) (hG : Gt w) (ha : (Lit.int .i16 a).wf = true) (hb : (Lit.int .i16 b).wf = true) : Calls Tryd.prog 4 #[.int .i16 a, .int .i16 b] w fun e w' => e = .returned (.bool true) ∧ Below w.heap.size w w' := by
  obtain ⟨S, hS⟩ : ∃ S, w.heap.size = S := ⟨_, rfl⟩
  have ha0 : -32768 ≤ a ∧ a ≤ 32767 := by simp [Lit.wf, IntKind.min, IntKind.max, IntKind.bits, IntKind.signed] at ha; omega
  have hb0 : -32768 ≤ b ∧ b ≤ 32767 := by simp [Lit.wf, IntKind.min, IntKind.max, IntKind.bits, IntKind.signed] at hb; omega
  have wa : IntKind.i64.wrap a = a := by rw [IntKind.wrap_i64]; omega
  have wb : IntKind.i64.wrap b = b := by rw [IntKind.wrap_i64]; omega
  obtain ⟨W1, hW1⟩ : ∃ W1, W1 = w.alloc (.cells #[.int .i64 0] 3) := ⟨_, rfl⟩
  obtain ⟨W2, hW2⟩ : ∃ W2, W2 = W1.alloc (.cells #[.int .u8 2, .int .i32 0, .bool false, .slice none 0 0, .slice none 0 0, .int .i64 0, .int .i64 0, .int .i64 0, .slice none 0 0, .int .u8 10, .int .i32 0, .bool false, .slice none 0 0, .slice none 0 0, .int .i64 0, .int .i64 a, .int .i64 b, .slice (some ⟨w.heap.size, 0, none⟩) 1 1] 31) := ⟨_, rfl⟩
  obtain ⟨W3, hW3⟩ : ∃ W3, W3 = W2.alloc (.cells #[.slice (some ⟨w.heap.size + 1, 0, none⟩) 2 2, .int .i64 0] 34) := ⟨_, rfl⟩
  have hlit := times_lit hW1 hW2 hW3
  have hgt := hG.next hlit.2.1 hG.lt
  rw [hS] at hlit hW2 hW3 ⊢
  have hkn := known_any W3 hgt
  have HL := Lib.hid hlit
  rw [hlit.2.2.1] at hkn
  have HKN := Lib.hid hkn
  have HSS := Lib.hid hS
  have HW : Hid (W3 = ((w.alloc (.cells #[.int .i64 0] 3)).alloc (.cells #[.int .u8 2, .int .i32 0, .bool false, .slice none 0 0, .slice none 0 0, .int .i64 0, .int .i64 0, .int .i64 0, .slice none 0 0, .int .u8 10, .int .i32 0, .bool false, .slice none 0 0, .slice none 0 0, .int .i64 0, .int .i64 a, .int .i64 b, .slice (some ⟨S, 0, none⟩) 1 1] 31)).alloc (.cells #[.slice (some ⟨S + 1, 0, none⟩) 2 2, .int .i64 0] 34)) := Lib.hid (by rw [hW3, hW2, hW1])
  have HAB := Lib.hid (And.intro ha0 hb0)
  clear hkn hG hlit hgt ha0 hb0 ha hb hW1 hW2 hW3
  go_enter Tryd.func4, Tryd.ntmps4
  go_upto_region 2 with fail
  rw [← HW.out]
  go_wp2_with (go_at_call 9; refine HKN.out.mono ?_; rintro e w4 ⟨rfl, hb4⟩; have HB4 := Lib.hid hb4; have c0 : w4.cell? ⟨S + 1 + 1, 0, none⟩ = some (.slice (some ⟨S + 1, 0, none⟩) 2 2) := (HL.out.2.2.2.2.on hb4 (by omega)).cell (i := 0) rfl; have c1 : w4.cell? ⟨S + 1 + 1, 1, none⟩ = some (.int .i64 0) := (HL.out.2.2.2.2.on hb4 (by omega)).cell (i := 1) rfl; clear hb4)
  have hc := treeRight_any w4 (fun b => S ≤ b ∧ b < W2.heap.size) _ 2 ⟨[nd 2, { nd 10 with mn := a, mx := b, ks := [0] }], 0⟩ _ (HL.out.1.keep (below_cells (P := fun b => S ≤ b ∧ b < W2.heap.size) HB4.out (fun b hb => by have := HL.out.2.2.2.1; omega))) (fun b hb => by have := HL.out.2.2.2.1; have := HB4.out.size; have := HL.out.2.2.1; omega) (by simp [maxLen])
  rw [right_times] at hc
  refine hc.mono ?_
  rintro e w5 ⟨rfl, hb5⟩
  have HB5 : Hid (Below S w w5) := Lib.hid (HL.out.2.1.trans ((HB4.out.mono (by omega)).trans (hb5.mono (by have := HB4.out.size; have := HL.out.2.2.1; omega))))
  clear hc hb5 c0 c1
  have hd : timB a b = (decide (0 ≤ a) && decide (a ≤ 255) && (decide (b = -1) || (decide (a ≤ b) && decide (b ≤ 255)))) := rfl
  obtain ⟨tb, htb⟩ : ∃ tb, timB a b = tb := ⟨_, rfl⟩
  rw [htb] at hd ⊢
  clear htb
  by_cases h1 : 0 ≤ a
  · by_cases h2 : a ≤ 255
    · rw [decide_eq_true h1, decide_eq_true h2] at hd
      by_cases h3 : b = -1
      · rw [decide_eq_true h3] at hd
        have e3 : (b == -1) = true := by rw [h3]; rfl
        clear h3
        obtain rfl : tb = true := hd
        go_wp2
        go_ret
        exact ⟨rfl, HB5.out⟩
      · rw [decide_eq_false h3] at hd
        have e3 : (b == -1) = false := beq_eq_false_iff_ne.2 h3
        by_cases h4 : a ≤ b
        · rw [decide_eq_true h4] at hd
          by_cases h5 : b ≤ 255
          · rw [decide_eq_true h5] at hd
            obtain rfl : tb = true := hd
            go_wp2
            go_ret
            exact ⟨rfl, HB5.out⟩
          · rw [decide_eq_false h5] at hd
            obtain rfl : tb = false := hd
            go_wp2
            go_ret
            exact ⟨by simp [h5], HB5.out⟩
        · rw [decide_eq_false h4] at hd
          obtain rfl : tb = false := hd
          go_wp2
          go_ret
          exact ⟨rfl, HB5.out⟩
    · rw [decide_eq_true h1, decide_eq_false h2] at hd
      obtain rfl : tb = false := hd
      go_wp2
      go_ret
      exact ⟨rfl, HB5.out⟩
  · rw [decide_eq_false h1] at hd
    obtain rfl : tb = false := by rw [hd]; rfl
    clear hd
    have h1' : a < 0 := by omega
    clear h1
    go_wp2
    go_ret
    exact ⟨rfl, HB5.out⟩
end Go.Proofs.YtcpjcepeiplfgaaDoor.C
