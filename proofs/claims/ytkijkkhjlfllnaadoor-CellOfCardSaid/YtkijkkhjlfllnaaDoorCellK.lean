/-
  The contract of known, the chapter's example: it returns true wherever the library's table stands as it was laid; nothing that was there changes.
-/
import Derived.Test.YtkijkkhjlfllnaaDoorCellJ
namespace Go.Proofs.YtkijkkhjlfllnaaDoor.C
open Go.RowKit

theorem RI.of_own {w : World} {base : Nat} {e : TypeId} {ki : IntKind} {A : Option Addr} {n c : Nat} {zs : List Int} (h : w.ownsRow base e 1 (.slice A n c) n (zs.map (Value.int ki))) : RI ki w w.heap.size A n zs := by
  refine ⟨by have := h.1; simpa using this, fun hn => ?_⟩
  obtain ⟨g, cap, hv, _, hlt⟩ := h.form hn
  have hA : A = some ⟨g, 0, none⟩ := by injection hv
  subst hA
  refine ⟨_, rfl, hlt, fun j u hu => h.cells (g := g) rfl j _ ?_⟩
  simp [hu]
theorem own_cap {w : World} {base : Nat} {e : TypeId} {g n m c : Nat} {xs : List Value} (h : w.ownsRow base e 1 (.slice (some ⟨g, 0, none⟩) n c) m xs) : m ≤ c ∧ c ≤ maxLen := by
  rcases h.2 with ⟨h1, _⟩ | ⟨g', cap, cur, h1, _, _, h4, h5, _⟩
  · cases h1
  · injection h1 with _ _ h7
    subst h7
    exact ⟨h4, h5⟩

theorem ofL_known : ofL ⟨#[97, 255, 195, 169]⟩ = [97, -256, 233] := by decide +kernel
theorem textL_known : str (textL [97, -256, 233]) = ⟨#[97, 92, 120, 102, 102, 92, 117, 123, 101, 57, 125]⟩ := by
  simp [textL, shown, hexL, dig, str]
theorem find_zero (w : World) (Bx By : Nat) (Ax Ay : Option Addr) (n cx m cy : Nat) (xs ys : List Int) (hx : RI .i32 w Bx Ax n xs) (hy : RI .i32 w By Ay m ys) (hn : n ≤ maxLen) (hm : m ≤ maxLen) (r : Int) (hr : findL xs ys 0 = r) :
    Calls Tryd.prog 29 #[.slice Ax n cx, .slice Ay m cy, .int .i64 0] w fun e w' => e = .returned (.int .i64 r) ∧ w = w' := by
  subst hr
  exact find_at w Bx By Ax Ay n cx m cy xs ys 0 hx hy hn hm (Nat.zero_le _)
theorem compare_is (w : World) (Bx By : Nat) (Ax Ay : Option Addr) (n cx m cy : Nat) (xs ys : List Int) (hx : RI .i32 w Bx Ax n xs) (hy : RI .i32 w By Ay m ys) (hn : n ≤ maxLen) (hm : m ≤ maxLen) (r : Int) (hr : cmpL xs ys = r) :
    Calls Tryd.prog 14 #[.slice Ax n cx, .slice Ay m cy] w fun e w' => e = .returned (.int .i64 r) ∧ w = w' := by
  subst hr
  exact compare_any w Bx By Ax Ay n cx m cy xs ys hx hy hn hm
theorem right_is (c : Int) (w : World) (r : Bool) (hr : rightB c = r) : Calls Tryd.prog 22 #[.int .i32 c] w fun e w' => e = .returned (.bool r) ∧ w = w' := by
  subst hr
  exact right_any c w
theorem text_is (w : World) (Bx : Nat) (Ax : Option Addr) (n cx : Nat) (xs : List Int) (hx : RI .i32 w Bx Ax n xs) (hBx : Bx ≤ w.heap.size) (hn : n ≤ 1073741824) (hT : w.cell? ⟨2, 15, none⟩ = some (.int .u8 4)) (r : ByteArray) (hr : str (textL xs) = r) :
    Calls Tryd.prog 17 #[.slice Ax n cx] w fun e w' => e = .returned (.string r) ∧ Below w.heap.size w w' := by
  subst hr
  exact text_any w Bx Ax n cx xs hx hBx hn hT

set_option maxHeartbeats 2000000 in
theorem known_any (w : World) (hT : w.cell? ⟨2, 15, none⟩ = some (.int .u8 4)) :
    Calls Tryd.prog 13 #[] w fun e w' => e = .returned (.bool true) ∧ Below w.heap.size w w' := by
  have hTB := World.block_lt_of_cell? w _ hT
  have HT := Lib.hid hT
  clear hT
  go_enter Tryd.func13, Tryd.ntmps13
  go_wp2_with fail
  refine (of_any ⟨#[97, 255, 195, 169]⟩ w (by decide)).mono ?_
  rintro e w1 ⟨v1, rfl, hown1, hb1⟩
  rw [ofL_known] at hown1
  obtain ⟨g, cap, rfl, hg1, hg2⟩ := hown1.form (by simp)
  obtain ⟨hc1, hc2⟩ := own_cap hown1
  have hr1 := RI.of_own hown1
  have HR1 := Lib.hid hr1
  have HO1 := Lib.hid hown1
  clear hown1 hr1
  go_wp2_with fail
  refine (byte_yes (-256) w1 (by omega) (by omega)).mono ?_
  rintro e w' ⟨rfl, rfl⟩
  go_wp2_with fail
  refine (cut_yes w1 w1.heap.size (some ⟨g, 0, none⟩) 3 cap [97, -256, 233] 1 3 HR1.out (Nat.le_refl _) hc1 (by omega) (by omega) (by omega)).mono ?_
  rintro e w2 ⟨rfl, hown2, hb2⟩
  have hr2 := RI.of_own hown2
  have HR2 := Lib.hid hr2
  have hs1 := hb1.size
  have hs2 := hb2.size
  have hl0 : w2.cell? ⟨g, 0, none⟩ = some (.int .i32 97) := (hb2.cell (p := ⟨g, 0, none⟩) hg2).trans (HO1.out.cells (g := g) rfl 0 _ rfl)
  have hl1 : w2.cell? ⟨g, 1, none⟩ = some (.int .i32 (-256)) := (hb2.cell (p := ⟨g, 1, none⟩) hg2).trans (HO1.out.cells (g := g) rfl 1 _ rfl)
  have hl2 : w2.cell? ⟨g, 2, none⟩ = some (.int .i32 233) := (hb2.cell (p := ⟨g, 2, none⟩) hg2).trans (HO1.out.cells (g := g) rfl 2 _ rfl)
  clear hown2 hr2
  go_wp2_with fail
  refine (text_is w2 w1.heap.size (some ⟨g, 0, none⟩) 3 cap [97, -256, 233] (HR1.out.below hb2) hs2 (by omega) (((hb2.cell (p := ⟨2, 15, none⟩) (by show 2 < _; omega)).trans (hb1.cell (p := ⟨2, 15, none⟩) hTB)).trans HT.out) _ textL_known).mono ?_
  rintro e w3 ⟨rfl, hb3⟩
  have hs3 := hb3.size
  have hx3 : RI .i32 w3 w2.heap.size (some ⟨g, 0, none⟩) 3 [97, -256, 233] := ((HR1.out.below hb2).more hs2).below hb3
  have hy3 : RI .i32 w3 w2.heap.size (some ⟨w1.heap.size, 0, none⟩) 2 [-256, 233] := HR2.out.below hb3
  have HX3 := Lib.hid hx3
  have HY3 := Lib.hid hy3
  clear hx3 hy3 hl0 hl1 hl2
  go_wp2_with fail
  refine (right_is (-256) _ true (by decide)).mono ?_
  rintro e w' ⟨rfl, rfl⟩
  go_wp2_with fail
  refine (right_is (-257) _ false (by decide)).mono ?_
  rintro e w' ⟨rfl, rfl⟩
  go_wp2_with fail
  refine (right_is 55296 _ false (by decide)).mono ?_
  rintro e w' ⟨rfl, rfl⟩
  go_wp2_with fail
  refine (find_zero w3 w2.heap.size w2.heap.size (some ⟨g, 0, none⟩) (some ⟨w1.heap.size, 0, none⟩) 3 cap 2 2 [97, -256, 233] [-256, 233] HX3.out HY3.out (by decide) (by decide) 1 (by decide)).mono ?_
  rintro e w' ⟨rfl, rfl⟩
  go_wp2_with fail
  refine (compare_is w3 w2.heap.size w2.heap.size (some ⟨g, 0, none⟩) (some ⟨w1.heap.size, 0, none⟩) 3 cap 2 2 [97, -256, 233] [-256, 233] HX3.out HY3.out (by decide) (by decide) 1 (by decide)).mono ?_
  rintro e w' ⟨rfl, rfl⟩
  go_wp2
  go_ret
  exact ⟨rfl, (hb1.trans (hb2.mono hs1)).trans (hb3.mono (by omega))⟩
end Go.Proofs.YtkijkkhjlfllnaaDoor.C
