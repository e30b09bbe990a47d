/-
  The walk of the law CellOf: it returns true for all texts within the row's reach, all cells, bytes and choices, where the library's table stands as it was laid; nothing that was there changes.
-/
import Derived.Test.YtkijkkhjlfllnaaDoorCellW
import Derived.Test.YtkijkkhjlfllnaaDoorWCellOrder
import Derived.OpenShut
namespace Go.Proofs.YtkijkkhjlfllnaaDoor.C
open Go.RowKit

def byteV (c : Int) : Int := if -256 ≤ c ∧ c < 0 then -1 - c else 0
theorem byte_is (c : Int) (w : World) (x : Int) (r : Bool) (hx : byteV c = x) (hr : escB c = r) : Calls Tryd.prog 19 #[.int .i32 c] w fun e w' => e = .returned (.tuple #[.int .u8 x, .bool r]) ∧ w = w' := by
  subst hx hr
  by_cases h : -256 ≤ c ∧ c < 0
  · have e1 : byteV c = -1 - c := if_pos h
    have e2 : escB c = true := by simp [escB, h]
    rw [e1, e2]
    exact byte_yes c w h.1 h.2
  · have e1 : byteV c = 0 := if_neg h
    have e2 : escB c = false := by simp [escB]; omega
    rw [e1, e2]
    exact byte_no c w (by omega)
theorem refByte_is (c : Int) (w : World) (x : Int) (r : Bool) (hx : byteV c = x) (hr : escB c = r) : Calls Tryd.prog 20 #[.int .i32 c] w fun e w' => e = .returned (.tuple #[.int .u8 x, .bool r]) ∧ w = w' := by
  subst hx hr
  by_cases h : -256 ≤ c ∧ c < 0
  · have e1 : byteV c = -1 - c := if_pos h
    have e2 : escB c = true := by simp [escB, h]
    rw [e1, e2]
    exact refByte_yes c w h.1 h.2
  · have e1 : byteV c = 0 := if_neg h
    have e2 : escB c = false := by simp [escB]; omega
    rw [e1, e2]
    exact refByte_no c w (by omega)

theorem choice (j : Nat) (h : j < 10) : ∃ d : Int, -257 ≤ d ∧ d ≤ 1114112 ∧ (#[.int .i64 (55295), .int .i64 (55296), .int .i64 (57343), .int .i64 (57344), .int .i64 (1114111), .int .i64 (1114112), .int .i64 (-256), .int .i64 (-257), .int .i64 (0), .int .i64 (-1)] : Array Value)[j]? = some (.int .i64 d) := by
  match j, h with
  | 0, _ => exact ⟨55295, by decide, by decide, rfl⟩
  | 1, _ => exact ⟨55296, by decide, by decide, rfl⟩
  | 2, _ => exact ⟨57343, by decide, by decide, rfl⟩
  | 3, _ => exact ⟨57344, by decide, by decide, rfl⟩
  | 4, _ => exact ⟨1114111, by decide, by decide, rfl⟩
  | 5, _ => exact ⟨1114112, by decide, by decide, rfl⟩
  | 6, _ => exact ⟨-256, by decide, by decide, rfl⟩
  | 7, _ => exact ⟨-257, by decide, by decide, rfl⟩
  | 8, _ => exact ⟨0, by decide, by decide, rfl⟩
  | 9, _ => exact ⟨-1, by decide, by decide, rfl⟩

set_option maxHeartbeats 8000000 in
theorem cellOfWalk (s : ByteArray) (c b k : Int) (w : World)
    (hT : w.cell? ⟨2, 15, none⟩ = some (.int .u8 4)) (_ws : s.size ≤ maxLen) (qs : s.size ≤ 140737488351232) (_wc : (Lit.int .i32 c).wf = true) (wb : (Lit.int .u8 b).wf = true) (wk : (Lit.int .u8 k).wf = true) :
    Calls Tryd.prog 6 #[.string s, .int .i32 c, .int .u8 b, .int .u8 k] w fun e w' => e = .returned (.bool true) ∧ Below w.heap.size w w' := by
  have HT := Lib.hid hT
  obtain ⟨hb0, hb1⟩ := bounds_u8 wb
  obtain ⟨hk0, hk1⟩ := bounds_u8 wk
  clear hT _ws _wc wb wk
  by_cases hbig : 300 < s.size
  · have hb' : (300 : Int) < (s.size : Int) := by omega
    go_enter Tryd.func6, Tryd.ntmps6
    go_wp2_with fail
    refine (known_any w HT.out).mono ?_
    rintro e v1 ⟨rfl, hb1'⟩
    go_wp2
    go_ret
    exact ⟨rfl, hb1'⟩
  have hs' : ¬ (300 : Int) < (s.size : Int) := by omega
  have hs2 : decide ((300 : Int) < (s.size : Int)) = false := by simpa using hs'
  obtain ⟨j, hj⟩ : ∃ j : Nat, k % 10 = (j : Int) := ⟨(k % 10).toNat, by omega⟩
  have hj10 : j < 10 := by omega
  obtain ⟨d, hd0, hd1, hdj⟩ := choice j hj10
  have hj0 : (j : Int) < 10 := by omega
  go_enter Tryd.func6, Tryd.ntmps6
  go_wp2_with fail
  refine (known_any w HT.out).mono ?_
  rintro e v1 ⟨rfl, hb1'⟩
  have hz1 := hb1'.size
  have hcell : (v1.alloc (.cells (#[.int .i64 (55295), .int .i64 (55296), .int .i64 (57343), .int .i64 (57344), .int .i64 (1114111), .int .i64 (1114112), .int .i64 (-256), .int .i64 (-257), .int .i64 (0), .int .i64 (-1)] : Array Value) 3)).cell? ⟨v1.heap.size, j, none⟩ = some (.int .i64 d) := (cell_of_row _ _ j _ _ _ (heap_alloc_new v1 _)).trans hdj
  go_wp2_with fail
  have B2 : Below w.heap.size w (v1.alloc (.cells (#[.int .i64 (55295), .int .i64 (55296), .int .i64 (57343), .int .i64 (57344), .int .i64 (1114111), .int .i64 (1114112), .int .i64 (-256), .int .i64 (-257), .int .i64 (0), .int .i64 (-1)] : Array Value) 3)) := hb1'.alloc hz1 _
  generalize v1.alloc (.cells (#[.int .i64 (55295), .int .i64 (55296), .int .i64 (57343), .int .i64 (57344), .int .i64 (1114111), .int .i64 (1114112), .int .i64 (-256), .int .i64 (-257), .int .i64 (0), .int .i64 (-1)] : Array Value) 3) = v2 at *
  have hz2 := B2.size
  clear hcell hdj
  obtain ⟨xc, hxc⟩ : ∃ x, byteV c = x := ⟨_, rfl⟩
  obtain ⟨ic, hic⟩ : ∃ x, escB c = x := ⟨_, rfl⟩
  obtain ⟨rc, hrc⟩ : ∃ x, rightB c = x := ⟨_, rfl⟩
  obtain ⟨xd, hxd⟩ : ∃ x, byteV d = x := ⟨_, rfl⟩
  obtain ⟨idd, hid⟩ : ∃ x, escB d = x := ⟨_, rfl⟩
  obtain ⟨rd, hrd⟩ : ∃ x, rightB d = x := ⟨_, rfl⟩
  have HXC := Lib.hid hxc
  have HIC := Lib.hid hic
  have HRC := Lib.hid hrc
  have HXD := Lib.hid hxd
  have HID := Lib.hid hid
  have HRD := Lib.hid hrd
  clear hxc hic hrc hxd hid hrd
  refine (byte_is c v2 xc ic HXC.out HIC.out).mono ?_
  rintro e w' ⟨rfl, rfl⟩
  go_wp2_with fail
  refine (refByte_is c v2 xc ic HXC.out HIC.out).mono ?_
  rintro e w' ⟨rfl, rfl⟩
  go_wp2_with fail
  refine (byte_is d v2 xd idd HXD.out HID.out).mono ?_
  rintro e w' ⟨rfl, rfl⟩
  go_wp2_with fail
  refine (refByte_is d v2 xd idd HXD.out HID.out).mono ?_
  rintro e w' ⟨rfl, rfl⟩
  go_wp2_with fail
  have ble := ofL_le s
  refine (of_any s v2 (by omega)).mono ?_
  rintro e v3 ⟨V3, rfl, hown3, hb3⟩
  obtain ⟨A3, c3, rfl, hc3, hr3⟩ := own_slice hown3
  clear hown3
  have hz3 := hb3.size
  have HR3 := Lib.hid hr3
  clear hr3
  go_wp2_with fail
  refine (refOf_any s v3 (by omega)).mono ?_
  rintro e v4 ⟨V4, rfl, hown4, hb4⟩
  obtain ⟨A4, c4, rfl, hc4, hr4⟩ := own_slice hown4
  clear hown4
  have hz4 := hb4.size
  have HR4 := Lib.hid hr4
  clear hr4
  have B4 : Below w.heap.size w v4 := (B2.trans (hb3.mono hz2)).trans (hb4.mono (by omega))
  go_wp2_with fail
  refine (same_yes v4 v3.heap.size v4.heap.size A3 A4 _ c3 _ c4 (ofL s) (ofL s) rfl (HR3.out.below hb4) HR4.out (by unfold maxLen; omega) (by unfold maxLen; omega)).mono ?_
  rintro e w' ⟨rfl, dq, rfl⟩
  go_wp2_with fail
  refine (right_is c _ rc HRC.out).mono ?_
  rintro e w' ⟨rfl, rfl⟩
  go_wp2_with fail
  refine (refRight_is c _ rc HRC.out).mono ?_
  rintro e w' ⟨rfl, rfl⟩
  go_wp2_with fail
  refine (right_is d _ rd HRD.out).mono ?_
  rintro e w' ⟨rfl, rfl⟩
  go_wp2_with fail
  refine (refRight_is d _ rd HRD.out).mono ?_
  rintro e w' ⟨rfl, rfl⟩
  go_wp2_with fail
  refine (escape_any b _ hb0 hb1).mono ?_
  rintro e w' ⟨rfl, rfl⟩
  go_wp2_with fail
  refine (refEscape_any b _ hb0 hb1).mono ?_
  rintro e w' ⟨rfl, rfl⟩
  go_wp2
  go_ret
  exact ⟨by simp, below_drewN B4 _⟩
end Go.Proofs.YtkijkkhjlfllnaaDoor.C
