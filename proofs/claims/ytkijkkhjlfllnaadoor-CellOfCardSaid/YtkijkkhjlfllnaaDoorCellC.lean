/-
  Contracts of cell.Cut.
-/
import Derived.Test.YtkijkkhjlfllnaaDoorCellB
import Derived.Laws.CopyOwn
namespace Go.Proofs.YtkijkkhjlfllnaaDoor.C
open Go.RowKit

theorem info33 : (Tryd.prog.info? 33).map (fun i => (i.zero, i.size, i.bytes)) = some (some (.int .i32 0), 1, 4) := by kernel_rfl
theorem size33 : (Tryd.prog.info? 33).map (·.size) = some 1 := by kernel_rfl

set_option maxHeartbeats 400000 in
theorem cut_no (w : World) (Ax : Option Addr) (n cx : Nat) (a b : Int) (h : a < 0 ∨ b < a ∨ (n : Int) < b) :
    Calls Tryd.prog 16 #[.slice Ax n cx, .int .i64 a, .int .i64 b] w fun e w' => e = .returned (.tuple #[.slice none 0 0, .int .u16 1]) ∧ w = w' := by
  by_cases h1 : a < 0
  · go_enter Tryd.func16, Tryd.ntmps16
    go_wp2
    all_goals go_ret2
    all_goals exact ⟨rfl, rfl⟩
  by_cases h2 : b < a
  · go_enter Tryd.func16, Tryd.ntmps16
    go_wp2
    all_goals go_ret2
    all_goals exact ⟨rfl, rfl⟩
  · have h3 : (n : Int) < b := by omega
    go_enter Tryd.func16, Tryd.ntmps16
    go_wp2
    all_goals go_ret2
    all_goals exact ⟨rfl, rfl⟩

theorem own_whole {w : World} {base : Nat} {e : TypeId} {g n : Nat} {xs : List Value} (h : w.ownsRow base e 1 (.slice (some ⟨g, 0, none⟩) n n) n xs) : w.heap[g]? = some (.cells xs.toArray e (0, 0)) := by
  rcases h.2 with ⟨h1, _⟩ | ⟨g', cap, cur, h1, _, h2, _, _, h3, h4⟩
  · cases h1
  · injection h1 with h5 h6 h7
    injection h5 with h5
    injection h5 with h5
    subst h5 h7
    rw [h2, ← h4, List.take_of_length_le (by simp [h3])]
theorem own_of_block {w : World} {base : Nat} {e : TypeId} {g n : Nat} {xs : List Value} (h : w.heap[g]? = some (.cells xs.toArray e (0, 0))) (hn : xs.length = n) (hb : base ≤ g) (hm : n ≤ maxLen) : w.ownsRow base e 1 (.slice (some ⟨g, 0, none⟩) n n) n xs :=
  ⟨by simp [hn], .inr ⟨g, n, xs.toArray, rfl, hb, h, Nat.le_refl _, hm, by simp [hn], by simp [hn, List.take_of_length_le]⟩⟩
theorem splice_all {α : Type} (L cs : List α) (h : cs.length = L.length) : splice L 0 cs = cs := by simp [splice, h]

theorem copy_run {P : Program} (w0 w : World) (B : Nat) (dT ty elem : TypeId) (hu : P.underlying dT = some (.slice elem)) (hs : (P.info? elem).map (·.size) = some 1) (g m c : Nat) (SP : Option Addr) (zs cs : List Value) (t : TypeId)
    (hg : w.heap[g]? = some (.cells zs.toArray t (0, 0))) (hz : zs.length = m) (hc : cs.length = m) (hpos : 0 < m → ∃ ad, SP = some ad ∧ ∀ j v, cs[j]? = some v → w.cell? (ad.add j) = some v) (h1 : ∀ v ∈ cs, v.oneCell' = true)
    (hb : Below B w0 w) (hB : B ≤ g) :
    ∃ w2, (Builtin.copy_ #[dT, dT] ty #[.slice (some ⟨g, 0, none⟩) m m, .slice SP m c]).run P w = .ok (goInt m) w2 ∧ w2.heap[g]? = some (.cells cs.toArray t (0, 0)) ∧ Below B w0 w2 := by
  by_cases h0 : m = 0
  · subst h0
    obtain rfl : zs = [] := List.eq_nil_of_length_eq_zero hz
    obtain rfl : cs = [] := List.eq_nil_of_length_eq_zero hc
    exact ⟨w, run_copy_none (P := P) w dT dT ty elem _ SP 0 0 0 c hu hs (by simp), hg, hb⟩
  · obtain ⟨ad, rfl, hsrc⟩ := hpos (by omega)
    have hr := run_copy_row (P := P) w dT dT ty elem g 0 m m ad m c zs.toArray t cs hu hs hg (by rw [hc]; exact (Nat.min_self _).symm) hsrc (by simp [hz, hc]) h1
    rw [hc] at hr
    refine ⟨_, hr, ?_, below_setRow hb hB _⟩
    have := setRow_heap w g zs.toArray (List.take 0 zs.toArray.toList ++ cs ++ List.drop (0 + m) zs.toArray.toList).toArray t (0, 0) hg
    rw [this]
    simp [List.drop_of_length_le, hz]

set_option maxHeartbeats 400000 in
theorem cut_yes (w : World) (Bx : Nat) (Ax : Option Addr) (n cx : Nat) (xs : List Int) (a b : Nat) (hx : RI .i32 w Bx Ax n xs) (hBx : Bx ≤ w.heap.size) (hn : n ≤ cx) (hcx : n * 4 ≤ 140737488355328) (hab : a ≤ b) (hbn : b ≤ n) :
    Calls Tryd.prog 16 #[.slice Ax n cx, .int .i64 a, .int .i64 b] w fun e w' => e = .returned (.tuple #[.slice (some ⟨w.heap.size, 0, none⟩) (b - a) (b - a), .int .u16 0]) ∧
      w'.ownsRow w.heap.size 33 1 (.slice (some ⟨w.heap.size, 0, none⟩) (b - a) (b - a)) (b - a) (((xs.drop a).take (b - a)).map (Value.int .i32)) ∧ Below w.heap.size w w' := by
  have hl : (((xs.drop a).take (b - a)).map (Value.int .i32)).length = b - a := by
    have := hx.len
    simp; omega
  have hone := ints_oneCell .i32 ((xs.drop a).take (b - a))
  have hcell : 0 < b - a → ∃ ad, Ax = some ad ∧ ad.block < Bx ∧ ∀ j v, (((xs.drop a).take (b - a)).map (Value.int .i32))[j]? = some v → w.cell? ((ad.add a).add j) = some v := by
    intro h0
    obtain ⟨ad, e, hb, hc⟩ := hx.2 (by omega)
    refine ⟨ad, e, hb, fun j v hv => ?_⟩
    rw [List.getElem?_map] at hv
    obtain ⟨u, hu, rfl⟩ := Option.map_eq_some_iff.1 hv
    rw [List.getElem?_take] at hu
    split at hu
    · rw [List.getElem?_drop] at hu
      rw [add_of_add]
      exact hc _ _ hu
    · cases hu
  generalize (((xs.drop a).take (b - a)).map (Value.int .i32)) = cs at *
  have HL := Lib.hid hl
  have HO := Lib.hid hone
  have HC := Lib.hid hcell
  clear hx hl hone hcell
  obtain ⟨i0, hi, hz0, hz1, hz2⟩ := info_parts info33
  have t1 : decide ((a : Int) < 0) = false := by simp
  have t2 : decide (b < a) = false := by simp; omega
  have t3 : decide (n < b) = false := by simp; omega
  by_cases hca : cx = a
  · obtain rfl : n = b := by omega
    obtain rfl : a = n := by omega
    obtain rfl : cx = a := by omega
    go_enter Tryd.func16, Tryd.ntmps16
    go_wp2_with (at_make; (refine wpList_make_full _ rfl _ _ 23 rfl w.heap.size 33 i0 (.int .i32 0) 1 Tryd.underlying23 hi hz0 hz1 .i64 .i64 _ _ (cx - cx) rfl rfl (by omega) (by omega) (by rw [hz2]; omega) (by unfold maxLen; omega) (Nat.le_refl _) ?_); intro w1 hown hgrow; have HB := Lib.hid (own_whole hown); have hbel : Below w.heap.size w w1 := (Below.refl _ _).grown hgrow (Nat.le_refl _) (fun _ h => by cases h); have HLZ := Lib.hid hown.1; clear hown hgrow; generalize (madeCells (Value.int IntKind.i32 0).cells ((cx - cx) * 1)).toList = zs at *)
    obtain ⟨w2, hrun, hw2, hb2⟩ := copy_run (P := Tryd.prog) w w1 w.heap.size 23 3 33 Tryd.underlying23 size33 w.heap.size 0 0 Ax zs cs 33 HB.out (by rw [HLZ.out]; omega) (by rw [HL.out]; omega)
      (fun h0 => absurd h0 (by omega)) HO.out hbel (Nat.le_refl _)
    rw [hrun]
    have HW := Lib.hid hw2
    clear hrun hw2 HB
    go_wp2
    go_ret2
    exact ⟨by rw [Nat.sub_self]; rfl, own_of_block HW.out HL.out (Nat.le_refl _) (by unfold maxLen; omega), hb2⟩
  · go_enter Tryd.func16, Tryd.ntmps16
    go_wp2_with (at_make; (refine wpList_make_full _ rfl _ _ 23 rfl w.heap.size 33 i0 (.int .i32 0) 1 Tryd.underlying23 hi hz0 hz1 .i64 .i64 _ _ (b - a) rfl rfl (by omega) (by omega) (by rw [hz2]; omega) (by unfold maxLen; omega) (Nat.le_refl _) ?_); intro w1 hown hgrow; have HB := Lib.hid (own_whole hown); have hbel : Below w.heap.size w w1 := (Below.refl _ _).grown hgrow (Nat.le_refl _) (fun _ h => by cases h); have HLZ := Lib.hid hown.1; clear hown hgrow; generalize (madeCells (Value.int IntKind.i32 0).cells ((b - a) * 1)).toList = zs at *)
    obtain ⟨w2, hrun, hw2, hb2⟩ := copy_run (P := Tryd.prog) w w1 w.heap.size 23 3 33 Tryd.underlying23 size33 w.heap.size (b - a) (cx - a) (Option.map (fun x => x.add a) Ax) zs cs 33 HB.out (by rw [HLZ.out]; omega) HL.out
      (fun h0 => by
        obtain ⟨ad, e, hb, hc⟩ := HC.out h0
        exact ⟨ad.add a, by rw [e]; rfl, fun j v hv => (hbel.cell (by rw [block_of_add, block_of_add]; omega)).trans (hc j v hv)⟩) HO.out hbel (Nat.le_refl _)
    rw [hrun]
    have HW := Lib.hid hw2
    clear hrun hw2 HB
    go_wp2
    go_ret2
    exact ⟨rfl, own_of_block HW.out HL.out (Nat.le_refl _) (by unfold maxLen; omega), hb2⟩
end Go.Proofs.YtkijkkhjlfllnaaDoor.C
