/-
  The contract of cell.Of: the cells of a text (of at most 2^40 bytes) are what the plain function says, in new memory; nothing that was there changes.
-/
import Derived.Test.YtkijkkhjlfllnaaDoorCellE
import Derived.Test.YtkijkkhjlfllnaaDoorCellQ
import Derived.WalkSmall
import Derived.Maps.AppendAt
namespace Go.Proofs.YtkijkkhjlfllnaaDoor.C
open Go.RowKit

theorem own_iter {w : World} {base : Nat} {e : TypeId} {size : Nat} {v : Value} {n : Nat} {xs : List Value} (h : w.ownsRow base e size v n xs) {k : Nat} {s : ByteArray} {pos : Nat} (hk : w.heap[k]? = some (.stringIter s pos)) (pos' : Nat) :
    (w.iterAt k s pos').ownsRow base e size v n xs := by
  refine ⟨h.1, ?_⟩
  rcases h.2 with h1 | ⟨g, cap, cur, h1, h2, h3, h4⟩
  · exact .inl h1
  · refine .inr ⟨g, cap, cur, h1, h2, ?_, h4⟩
    rw [Lib.iterAt_other _ _ _ _ _ (fun e => by subst e; rw [h3] at hk; cases hk)]
    exact h3
theorem own_ne_iter {w : World} {base : Nat} {e : TypeId} {size : Nat} {v : Value} {n : Nat} {xs : List Value} (h : w.ownsRow base e size v n xs) {k : Nat} {s : ByteArray} {pos : Nat} (hk : w.heap[k]? = some (.stringIter s pos)) : some k ≠ v.ownBlock := by
  rcases h.2 with ⟨rfl, _⟩ | ⟨g, cap, cur, rfl, _, h3, _⟩
  · simp [Value.ownBlock]
  · intro he
    simp [Value.ownBlock] at he
    subst he
    rw [h3] at hk
    cases hk
/-- one cell more, behind a step of the iterator -/
theorem of_more {w wr w2 : World} {B K : Nat} {e : TypeId} {v : Value} {n : Nat} {xs : List Value} {s : ByteArray} {pos p' : Nat} {o : Obj} (hown : wr.ownsRow B e 1 v n xs) (hit : wr.heap[K]? = some (.stringIter s pos)) (hb : Below B w wr) (hBK : B ≤ K) (hBw : B ≤ w.heap.size)
    (hg : ((wr.iterAt K s p').alloc o).grownBy w2 v.ownBlock) : w2.heap[K]? = some (.stringIter s p') ∧ Below B w w2 := by
  have hK : K < wr.heap.size := (Array.getElem?_eq_some_iff.1 hit).1
  have hne := own_ne_iter hown hit
  have hsz : (wr.iterAt K s p').heap.size = wr.heap.size := Lib.iterAt_size _ _ _ _
  have hBr : B ≤ wr.heap.size := Nat.le_trans hBw hb.size
  constructor
  · rw [hg.block K (by simp; omega) hne, Below.heap_alloc _ _ _ (by omega)]
    exact Lib.iterAt_heap wr K s pos p' hit
  · refine Below.grown ((Lib.below_iterAt hb hBK s p').alloc (by omega) o) hg (by simp; omega) ?_
    intro k hk
    exact (hown.lt k hk).1

theorem hasPrefix_at (s : ByteArray) (pos : Nat) (b : Bool) (h : hasP s pos = b) (w : World) :
    Calls Tryd.prog 34 #[.string (s.extract pos s.size), .string ⟨#[239, 191, 189]⟩] w fun e w' => e = .returned (.bool b) ∧ w = w' := by
  have := hasPrefix_any (s.extract pos s.size) ⟨#[239, 191, 189]⟩ w
  rw [show Lib.hasPrefix (s.extract pos s.size).data.toList (ByteArray.mk #[239, 191, 189]).data.toList = b from h] at this
  exact this

set_option maxHeartbeats 2000000 in
theorem of_any (s : ByteArray) (w : World) (hs : s.size ≤ 1099511627776) :
    Calls Tryd.prog 18 #[.string s] w fun e w' => ∃ v, e = .returned v ∧ w'.ownsRow w.heap.size 33 1 v (ofL s).length ((ofL s).map (Value.int .i32)) ∧ Below w.heap.size w w' := by
  obtain ⟨i0, hi, hz0, hz1, hz2⟩ := info_parts info33
  have hrc := Lib.runeCount_le s
  go_enter Tryd.func18, Tryd.ntmps18
  go_wp2_with fail
  refine (runeCount_any s w (by omega)).mono ?_
  rintro e w1 ⟨rfl, pos, rfl⟩
  have hb1 : Below w.heap.size w (w.iter s pos) := (Below.refl _ _).alloc (Nat.le_refl _) _
  have hs1 : (w.iter s pos).heap.size = w.heap.size + 1 := by simp [World.iter]
  generalize w.iter s pos = w1 at *
  have HS1 := Lib.hid hs1
  clear hs1
  generalize Lib.runeCount s = rc at *
  go_wp2_with (at_make; (refine wpList_make_own _ rfl _ _ 23 rfl w.heap.size 33 i0 (.int .i32 0) 1 Tryd.underlying23 hi hz0 hz1 .i64 .i64 _ rc rfl rfl (by omega) (by rw [hz2]; omega) (by unfold maxLen; omega) (by rw [HS1.out]; omega) ?_); intro w2 hown hgrow; have hb2 : Below w.heap.size w w2 := hb1.grown hgrow (by rw [HS1.out]; omega) (fun _ h => by cases h); clear hgrow; have HO := Lib.hid hown; clear hown)
  go_loopw [3] (fun v wr => ∃ (pos b : Nat) (acc : List Int), OfSt s acc b pos ∧ Hid (wr.ownsRow w.heap.size 33 1 v acc.length (acc.map (Value.int .i32))) ∧ Hid (wr.heap[w2.heap.size]? = some (.stringIter s pos)) ∧ Below w.heap.size w wr) (fun _ wr => s.size - wr.iterPos w2.heap.size)
  case atStart => exact ⟨0, s.size, [], ofSt_zero s, HO.out.alloc _, heap_alloc_new _ _, hb2.alloc hb2.size _⟩
  case round =>
    obtain ⟨pos, b, acc, hst, HW, HI, hbr⟩ := hrel
    have HST := Lib.hid hst
    clear hst
    have hsz := hbr.size
    have hsz2 := hb2.size
    have hmes : s.size - wr.iterPos w2.heap.size = s.size - pos := by rw [iterPos_of HI.out]
    have HM := Lib.hid hmes
    clear hmes
    by_cases hp : pos < s.size
    · obtain ⟨b', hst'⟩ := ofSt_step HST.out hp
      have hnx : ∀ ty, (Instr.next (.pointer (some ⟨w2.heap.size, 0, none⟩)) true ty).run Tryd.prog wr = _ := fun ty => Lib.run_next_any_at wr w2.heap.size s pos ty HI.out hp
      have hwd := Lib.decode_width_pos s pos hp
      have hszi : w.heap.size ≤ (wr.iterAt w2.heap.size s (pos + (Utf8.decode s pos).2)).heap.size := by rw [Lib.iterAt_size]; exact hsz
      by_cases hr : (((Utf8.decode s pos).1 : Int) == 65533) = true
      · cases hh : hasP s pos with
        | false =>
          have hcell : cellAt s pos = -1 - ((s.get! pos).toNat : Int) := if_pos ⟨hr, hh⟩
          have hget : s.get! pos = s[pos] := get_at s pos hp
          rw [hcell, hget] at hst'
          have HS' := Lib.hid hst'
          have hbd : (s[pos].toNat : Int) ≤ 255 := by have := s[pos].toNat_lt; omega
          clear hst' hcell hget
          go_wp2_with fail
          refine (hasPrefix_at s pos false hh _).mono ?_
          rintro e w' ⟨rfl, rfl⟩
          clear hh
          go_wp2_with fail
          refine (escape_any _ _ (by omega) hbd).mono ?_
          rintro e w' ⟨rfl, rfl⟩
          go_wp2_with (at_builtin; (refine wpList_append_own _ rfl _ _ 23 rfl w.heap.size 33 i0 (.int .i32 0) 1 4 Tryd.underlying23 hi hz0 hz1 hz2 rfl (by decide) _ _ _ rfl ((own_iter HW.out HI.out _).alloc _) _ 1 1 [.int .i32 (-1 - (s[pos].toNat : Int))] rfl rfl (cell_one_new _ _ _) (by intro u hu; simp at hu; subst hu; rfl) (by unfold maxLen; have := HST.out.2.2.2; omega) (by have := HST.out.2.2.2; omega) (by simp; omega) ?_); intro v' w3 hown' hgrow _; have R := Lib.hid (of_more HW.out HI.out hbr hsz2 (Nat.le_refl _) hgrow); have HO3 := Lib.hid hown'; clear hown' hgrow)
          go_roundw
          case rel => exact ⟨_, b', acc ++ [(-1 - (s[pos].toNat : Int))], HS'.out, by simpa [Hid] using HO3.out, R.out.1, R.out.2⟩
          case measure => rw [HM.out, iterPos_of R.out.1]; omega
        | true =>
          have hcell : cellAt s pos = ((Utf8.decode s pos).1 : Int) := if_neg (by rw [hh]; simp)
          rw [hcell] at hst'
          have HS' := Lib.hid hst'
          clear hst' hcell
          go_wp2_with fail
          refine (hasPrefix_at s pos true hh _).mono ?_
          rintro e w' ⟨rfl, rfl⟩
          clear hh
          go_wp2_with (at_builtin; (refine wpList_append_own _ rfl _ _ 23 rfl w.heap.size 33 i0 (.int .i32 0) 1 4 Tryd.underlying23 hi hz0 hz1 hz2 rfl (by decide) _ _ _ rfl ((own_iter HW.out HI.out _).alloc _) _ 1 1 [.int .i32 ((Utf8.decode s pos).1 : Int)] rfl rfl (cell_one_new _ _ _) (by intro u hu; simp at hu; subst hu; rfl) (by unfold maxLen; have := HST.out.2.2.2; omega) (by have := HST.out.2.2.2; omega) (by simp; omega) ?_); intro v' w3 hown' hgrow _; have R := Lib.hid (of_more HW.out HI.out hbr hsz2 (Nat.le_refl _) hgrow); have HO3 := Lib.hid hown'; clear hown' hgrow)
          go_roundw
          case rel => exact ⟨_, b', acc ++ [((Utf8.decode s pos).1 : Int)], HS'.out, by simpa [Hid] using HO3.out, R.out.1, R.out.2⟩
          case measure => rw [HM.out, iterPos_of R.out.1]; omega
      · have hr' : (((Utf8.decode s pos).1 : Int) == 65533) = false := by simpa using hr
        have hcell : cellAt s pos = ((Utf8.decode s pos).1 : Int) := if_neg (by rw [hr']; simp)
        rw [hcell] at hst'
        have HS' := Lib.hid hst'
        clear hst' hcell hr
        go_wp2_with (at_builtin; (refine wpList_append_own _ rfl _ _ 23 rfl w.heap.size 33 i0 (.int .i32 0) 1 4 Tryd.underlying23 hi hz0 hz1 hz2 rfl (by decide) _ _ _ rfl ((own_iter HW.out HI.out _).alloc _) _ 1 1 [.int .i32 ((Utf8.decode s pos).1 : Int)] rfl rfl (cell_one_new _ _ _) (by intro u hu; simp at hu; subst hu; rfl) (by unfold maxLen; have := HST.out.2.2.2; omega) (by have := HST.out.2.2.2; omega) (by simp; omega) ?_); intro v' w3 hown' hgrow _; have R := Lib.hid (of_more HW.out HI.out hbr hsz2 (Nat.le_refl _) hgrow); have HO3 := Lib.hid hown'; clear hown' hgrow)
        go_roundw
        case rel => exact ⟨_, b', acc ++ [((Utf8.decode s pos).1 : Int)], HS'.out, by simpa [Hid] using HO3.out, R.out.1, R.out.2⟩
        case measure => rw [HM.out, iterPos_of R.out.1]; omega
    · have hnx : ∀ ty, (Instr.next (.pointer (some ⟨w2.heap.size, 0, none⟩)) true ty).run Tryd.prog wr = _ := fun ty => Lib.run_next_end_at wr w2.heap.size s pos ty HI.out hp
      go_wp2
      go_ret
      refine ⟨_, rfl, ?_, hbr⟩
      rw [ofSt_end HST.out hp]
      exact HW.out
end Go.Proofs.YtkijkkhjlfllnaaDoor.C
