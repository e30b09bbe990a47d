/-
  Layer 3: a unit's number, its bytes.
-/
import Derived.Test.YtijlecfjgcohhaaDoorUtfS
import Derived.Test.YtijlecfjgcohhaaDoorUtfM
import Derived.Test.YtijlecfjgcohhaaDoorCdI
import Derived.Laws.BitsLemmas
namespace Go.Proofs.YtijlecfjgcohhaaDoor.C.U
open Go.RowKit


/-- a unit's number, and its bytes -/
def num (g : Bool) (a b : Int) : Int := if g then a * 256 + b else b * 256 + a
def un (g : Bool) (u : Int) : List Int := if g then [u / 256, u % 256] else [u % 256, u / 256]

theorem or_bytes (a b : Int) (a0 : 0 ≤ a) (a1 : a ≤ 255) (b0 : 0 ≤ b) (b1 : b ≤ 255) : bits .or .i32 (a * 256) b = a * 256 + b :=
  bits_join .i32 31 (by decide) wraps_i32 8 (a * 256) b (by omega) (by omega) (by omega) b0 (by omega) (by omega)
theorem num_true (a b : Int) : num true a b = a * 256 + b := rfl
theorem num_false (a b : Int) : num false a b = b * 256 + a := rfl
theorem un_true (u : Int) : un true u = [u / 256, u % 256] := rfl
theorem un_false (u : Int) : un false u = [u % 256, u / 256] := rfl
theorem num_bound (g : Bool) {a b : Int} (a0 : 0 ≤ a) (a1 : a ≤ 255) (b0 : 0 ≤ b) (b1 : b ≤ 255) : 0 ≤ num g a b ∧ num g a b ≤ 65535 := by
  cases g
  · rw [num_false]; omega
  · rw [num_true]; omega
theorem un_num (g : Bool) {a b : Int} (a0 : 0 ≤ a) (a1 : a ≤ 255) (b0 : 0 ≤ b) (b1 : b ≤ 255) : un g (num g a b) = [a, b] := by
  cases g
  · rw [num_false, un_false]
    have h1 : (b * 256 + a) / 256 = b := by omega
    have h2 : (b * 256 + a) % 256 = a := by omega
    rw [h1, h2]
  · rw [num_true, un_true]
    have h1 : (a * 256 + b) / 256 = a := by omega
    have h2 : (a * 256 + b) % 256 = b := by omega
    rw [h1, h2]

set_option maxRecDepth 100000 in
set_option maxHeartbeats 400000 in
theorem numberOf_true (a b : Int) (w : World) (a0 : 0 ≤ a) (a1 : a ≤ 255) (b0 : 0 ≤ b) (b1 : b ≤ 255) :
    Calls Tryd.prog 66 #[.bool true, .agg #[.int .u8 a, .int .u8 b]] w fun e w' => e = .returned (.int .i32 (a * 256 + b)) ∧ ∃ o, w' = w.alloc o := by
  have hor := or_bytes a b a0 a1 b0 b1
  go_enter Tryd.func66, Tryd.ntmps66
  go_wp2
  go_ret
  exact ⟨rfl, _, rfl⟩
set_option maxRecDepth 100000 in
set_option maxHeartbeats 400000 in
theorem numberOf_false (a b : Int) (w : World) (a0 : 0 ≤ a) (a1 : a ≤ 255) (b0 : 0 ≤ b) (b1 : b ≤ 255) :
    Calls Tryd.prog 66 #[.bool false, .agg #[.int .u8 a, .int .u8 b]] w fun e w' => e = .returned (.int .i32 (b * 256 + a)) ∧ ∃ o, w' = w.alloc o := by
  have hor := or_bytes b a b0 b1 a0 a1
  go_enter Tryd.func66, Tryd.ntmps66
  go_wp2
  go_ret
  exact ⟨rfl, _, rfl⟩
theorem numberOf_any (g : Bool) (a b : Int) (w : World) (a0 : 0 ≤ a) (a1 : a ≤ 255) (b0 : 0 ≤ b) (b1 : b ≤ 255) :
    Calls Tryd.prog 66 #[.bool g, .agg #[.int .u8 a, .int .u8 b]] w fun e w' => e = .returned (.int .i32 (num g a b)) ∧ ∃ o, w' = w.alloc o := by
  cases g
  · exact numberOf_false a b w a0 a1 b0 b1
  · exact numberOf_true a b w a0 a1 b0 b1
set_option maxRecDepth 100000 in
set_option maxHeartbeats 400000 in
theorem unitOf_true (c : Int) (w : World) (c0 : 0 ≤ c) (c1 : c ≤ 65535) :
    Calls Tryd.prog 69 #[.bool true, .int .i32 c] w fun e w' => e = .returned (.agg #[.int .u8 (c / 256), .int .u8 (c % 256)]) ∧ ∃ o, w' = w.alloc o := by
  go_enter Tryd.func69, Tryd.ntmps69
  go_wp2
  refine bodyPost_ret (v := .agg #[.int .u8 (c / 256), .int .u8 (c % 256)]) (by simp [results, Tryd.results69, go_sem]) rfl ⟨rfl, _, rfl⟩
set_option maxRecDepth 100000 in
set_option maxHeartbeats 400000 in
theorem unitOf_false (c : Int) (w : World) (c0 : 0 ≤ c) (c1 : c ≤ 65535) :
    Calls Tryd.prog 69 #[.bool false, .int .i32 c] w fun e w' => e = .returned (.agg #[.int .u8 (c % 256), .int .u8 (c / 256)]) ∧ ∃ o, w' = w.alloc o := by
  go_enter Tryd.func69, Tryd.ntmps69
  go_wp2
  refine bodyPost_ret (v := .agg #[.int .u8 (c % 256), .int .u8 (c / 256)]) (by simp [results, Tryd.results69, go_sem]) rfl ⟨rfl, _, rfl⟩
theorem unitOf_any (g : Bool) (c x y : Int) (w : World) (c0 : 0 ≤ c) (c1 : c ≤ 65535) (h : un g c = [x, y]) :
    Calls Tryd.prog 69 #[.bool g, .int .i32 c] w fun e w' => e = .returned (.agg #[.int .u8 x, .int .u8 y]) ∧ ∃ o, w' = w.alloc o := by
  cases g
  · rw [un_false] at h
    injection h with h1 h2
    injection h2 with h2 _
    subst h1 h2
    exact unitOf_false c w c0 c1
  · rw [un_true] at h
    injection h with h1 h2
    injection h2 with h2 _
    subst h1 h2
    exact unitOf_true c w c0 c1
end Go.Proofs.YtijlecfjgcohhaaDoor.C.U
