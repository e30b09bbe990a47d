/-
  The walk of the law CellBytes: it returns true for all bytes b, d and every cell c, where the library's table stands as it was laid; nothing that was there changes.
-/
import Derived.Test.YtkijkkhjlfllnaaDoorCellK
import Derived.OpenShut
namespace Go.Proofs.YtkijkkhjlfllnaaDoor.C
open Go.RowKit

theorem wf_u8 {a : Int} (h : (Lit.int .u8 a).wf = true) : 0 ≤ a ∧ a ≤ 255 := bounds_u8 h

set_option maxHeartbeats 2000000 in
theorem cellBytesWalk (b d c : Int) (w : World) (hT : w.cell? ⟨2, 15, none⟩ = some (.int .u8 4)) (hb : (Lit.int .u8 b).wf = true) (hd : (Lit.int .u8 d).wf = true) (_hc : (Lit.int .i32 c).wf = true) :
    Calls Tryd.prog 9 #[.int .u8 b, .int .u8 d, .int .i32 c] w fun e w' => e = .returned (.bool true) ∧ Below w.heap.size w w' := by
  obtain ⟨hb0, hb1⟩ := wf_u8 hb
  obtain ⟨hd0, hd1⟩ := wf_u8 hd
  clear hb hd _hc
  have HT := Lib.hid hT
  clear hT
  have e1 : rightB (-1 - b) = true := by simp [rightB]; omega
  have E1 := Lib.hid e1
  have e4 : (-1 - (-1 - b) == b) = true := by simp; omega
  clear e1
  have e23 : ((b == d) = true ∧ (-1 - d == -1 - b) = true) ∨ ((b == d) = false ∧ (-1 - d == -1 - b) = false) := by
    by_cases h : b = d
    · left
      subst h
      exact ⟨by simp, by simp⟩
    · right
      refine ⟨by simpa using h, ?_⟩
      simp only [beq_eq_false_iff_ne, ne_eq]
      omega
  by_cases hc : -256 ≤ c ∧ c < 0
  · obtain ⟨hc0, hc1⟩ := hc
    have e5 : rightB c = true := by simp [rightB]; omega
    have E5 := Lib.hid e5
    clear e5
    rcases e23 with ⟨e2, e3⟩ | ⟨e2, e3⟩
    all_goals
      go_enter Tryd.func9, Tryd.ntmps9
      go_wp2_with fail
      refine (escape_any b w hb0 hb1).mono ?_
      rintro e w' ⟨rfl, rfl⟩
      go_wp2_with fail
      refine (byte_yes (-1 - b) w (by omega) (by omega)).mono ?_
      rintro e w' ⟨rfl, rfl⟩
      go_wp2_with fail
      refine (byte_yes c w hc0 hc1).mono ?_
      rintro e w' ⟨rfl, rfl⟩
      go_wp2_with fail
      refine (known_any w HT.out).mono ?_
      rintro e w1 ⟨rfl, hbel⟩
      go_wp2_with fail
      refine (right_is (-1 - b) w1 true E1.out).mono ?_
      rintro e w' ⟨rfl, rfl⟩
      go_wp2_with fail
      refine (escape_any d w1 hd0 hd1).mono ?_
      rintro e w' ⟨rfl, rfl⟩
      go_wp2_with fail
      refine (right_is c w1 true E5.out).mono ?_
      rintro e w' ⟨rfl, rfl⟩
      go_wp2
      go_ret
      exact ⟨rfl, hbel⟩
  · have hc2 : c < -256 ∨ 0 ≤ c := by omega
    clear hc
    rcases hc2 with hc | hc <;> rcases e23 with ⟨e2, e3⟩ | ⟨e2, e3⟩
    all_goals
      go_enter Tryd.func9, Tryd.ntmps9
      go_wp2_with fail
      refine (escape_any b w hb0 hb1).mono ?_
      rintro e w' ⟨rfl, rfl⟩
      go_wp2_with fail
      refine (byte_yes (-1 - b) w (by omega) (by omega)).mono ?_
      rintro e w' ⟨rfl, rfl⟩
      go_wp2_with fail
      refine (byte_no c w (by omega)).mono ?_
      rintro e w' ⟨rfl, rfl⟩
      go_wp2_with fail
      refine (known_any w HT.out).mono ?_
      rintro e w1 ⟨rfl, hbel⟩
      go_wp2_with fail
      refine (right_is (-1 - b) w1 true E1.out).mono ?_
      rintro e w' ⟨rfl, rfl⟩
      go_wp2_with fail
      refine (escape_any d w1 hd0 hd1).mono ?_
      rintro e w' ⟨rfl, rfl⟩
      go_wp2
      go_ret
      exact ⟨rfl, hbel⟩
end Go.Proofs.YtkijkkhjlfllnaaDoor.C
