/-
  The walk of Utf16Lone: for every half of a pair, every unit behind it and both orders it returns true; nothing that was there changes.
-/
import Derived.Test.YtbocibecjndooaaUcsK
import Derived.Deep.DeepCutAuto
namespace Go.Proofs.Ytbocibecjndooaa.C
open Go.RowKit

theorem two_new (w : World) (o : Obj) (l : List Value) (t : TypeId) (j : Nat) (u : Value) (hj : l[j]? = some u) : ((w.alloc o).alloc (.cells l.toArray t)).cell? ⟨w.heap.size + 1, j, none⟩ = some u := by
  have := cells_new w o l t j u hj
  rwa [add_plain, Nat.zero_add] at this
theorem new_two (w : World) (o : Obj) (ki : IntKind) (zs : List Int) (t : TypeId) : RI ki ((w.alloc o).alloc (.cells (zs.map (Value.int ki)).toArray t)) (w.heap.size + 1 + 1) (some ⟨w.heap.size + 1, 0, none⟩) zs.length zs := by
  have := RI.new (w.alloc o) ki zs t
  have e : (w.alloc o).heap.size = w.heap.size + 1 := by simp
  rwa [e] at this
theorem bounds_u16 {n : Int} (h : (Lit.int .u16 n).wf = true) : 0 ≤ n ∧ n ≤ 65535 := by
  simp only [Lit.wf, Bool.and_eq_true, decide_eq_true_eq] at h
  exact h

set_option maxHeartbeats 4000000 in
theorem utf16LoneWalk (a b : Int) (g : Bool) (w : World) (wa : (Lit.int .u16 a).wf = true) (wb : (Lit.int .u16 b).wf = true) :
    Calls Try.prog 4 #[.int .u16 a, .int .u16 b, .bool g] w fun e w' => e = .returned (.bool true) ∧ Below w.heap.size w w' := by
  obtain ⟨a0, a1⟩ := bounds_u16 wa
  obtain ⟨b0, b1⟩ := bounds_u16 wb
  clear wa wb
  obtain ⟨u, hu, u0, u1⟩ : ∃ u : Int, 55296 + a % 2048 = u ∧ 55296 ≤ u ∧ u ≤ 57343 := ⟨_, rfl, by omega, by omega⟩
  go_enter Try.func4, Try.ntmps4
  go_upto_region 3 with fail
  go_cut [26] (fun s26 wx => ∃ rb : Bool, s26 = .bool rb ∧ (rb = false → 56320 ≤ u ∨ b < 56320 ∨ 57343 < b) ∧ w = wx)
  case first =>
    by_cases c1 : u < 56320
    · by_cases c2 : 56320 ≤ b
      · by_cases c3 : b ≤ 57343
        · go_wp2_with fail
          go_meet
          exact ⟨true, rfl, (fun h => by cases h), rfl⟩
        · have t3 : decide (b ≤ 57343) = false := by simpa using c3
          go_wp2_with fail
          go_meet
          exact ⟨false, rfl, (fun _ => by omega), rfl⟩
      · have t2 : decide (56320 ≤ b) = false := by simpa using c2
        go_wp2_with fail
        go_meet
        exact ⟨false, rfl, (fun _ => by omega), rfl⟩
    · have t1 : decide (u < 56320) = false := by simpa using c1
      go_wp2_with fail
      go_meet
      exact ⟨false, rfl, (fun _ => by omega), rfl⟩
  case rest =>
  obtain ⟨rb, rfl, hrb, rfl⟩ := hcut
  go_upto_if 26 with fail
  go_cut [8] (fun s8 wx => ∃ v : Int, s8 = .int .i32 v ∧ 0 ≤ v ∧ v ≤ 65535 ∧ (56320 ≤ u ∨ v < 56320 ∨ 57343 < v) ∧ w = wx)
  case first =>
    cases rb with
    | true =>
      go_wp2_with fail
      go_meet
      exact ⟨120, rfl, by omega, by omega, by omega, rfl⟩
    | false =>
      have hv := hrb rfl
      go_wp2_with fail
      go_meet
      exact ⟨b, rfl, by omega, by omega, by omega, rfl⟩
  case rest =>
  obtain ⟨v, rfl, v0, v1, huv, rfl⟩ := hcut
  clear hrb
  clear hu
  obtain ⟨p, hp, p0, p1⟩ : ∃ p : Int, u / 256 = p ∧ 0 ≤ p ∧ p ≤ 255 := ⟨_, rfl, by omega, by omega⟩
  obtain ⟨q, hq, q0, q1⟩ : ∃ q : Int, u % 256 = q ∧ 0 ≤ q ∧ q ≤ 255 := ⟨_, rfl, by omega, by omega⟩
  obtain ⟨r, hr, r0, r1⟩ : ∃ r : Int, v / 256 = r ∧ 0 ≤ r ∧ r ≤ 255 := ⟨_, rfl, by omega, by omega⟩
  obtain ⟨s, hs, s0, s1⟩ : ∃ s : Int, v % 256 = s ∧ 0 ≤ s ∧ s ≤ 255 := ⟨_, rfl, by omega, by omega⟩
  have hpq : p * 256 + q = u := by omega
  have hrs : r * 256 + s = v := by omega
  have HPQ := Lib.hid hpq
  have HRS := Lib.hid hrs
  clear hpq hrs
  cases g with
  | true =>
    go_wp2_with fail
    refine (decode_any true (w.alloc (.cells #[.int .u8 p, .int .u8 q, .int .u8 r, .int .u8 s] 5)) (w.heap.size + 1) (some ⟨w.heap.size, 0, none⟩) 4 4 [p, q, r, s] (RI.new w .u8 [p, q, r, s] _) (by simp) (bd_cons ⟨p0, p1⟩ (bd_cons ⟨q0, q1⟩ (bd_cons ⟨r0, r1⟩ (bd_cons ⟨s0, s1⟩ bd_nil)))) (by omega) (by omega) (by decide)).mono ?_
    rintro e w1 ⟨v1, rfl, hown1, hb1⟩
    rw [dec_lone true p q r s (by rw [num_true]; omega) (by rw [num_true]; omega) (by rw [num_true, num_true]; omega)] at hown1
    have htl := dec_some true r s
    generalize dec true [r, s] = tl at *
    obtain ⟨g1, c1, rfl, hg1, hg1'⟩ := hown1.form (by simp)
    have hl0 : w1.cell? ⟨g1, 0, none⟩ = some (.int .i32 (-1 - p)) := hown1.cells (g := g1) rfl 0 _ rfl
    have hl1 : w1.cell? ⟨g1, 1, none⟩ = some (.int .i32 (-1 - q)) := hown1.cells (g := g1) rfl 1 _ rfl
    have ho0 : w1.cell? ⟨w.heap.size, 0, none⟩ = some (.int .u8 p) := (hb1.cell (p := ⟨w.heap.size, 0, none⟩) (by show w.heap.size < _; simp)).trans (by rw [World.cell?_alloc_new]; rfl)
    have ho1 : w1.cell? ⟨w.heap.size, 1, none⟩ = some (.int .u8 q) := (hb1.cell (p := ⟨w.heap.size, 1, none⟩) (by show w.heap.size < _; simp)).trans (by rw [World.cell?_alloc_new]; rfl)
    have hs1 : w.heap.size + 1 ≤ w1.heap.size := by have := hb1.size; simp at this; omega
    have B1 : Below w.heap.size w w1 := ((Below.refl _ _).alloc (Nat.le_refl _) _).trans (hb1.mono (by simp))
    have hn1 : 3 ≤ ((-1 - p) :: (-1 - q) :: tl).length := by simp; omega
    generalize ((-1 - p) :: (-1 - q) :: tl).length = n1 at *
    have t0 : 0 < n1 := by omega
    have t1 : (1 : Int) < (n1 : Int) := by omega
    have t3 : (3 : Int) ≤ (n1 : Int) := by omega
    clear hown1 hb1 htl hg1
    have kl0 : ∀ z : Kept w1, z.w.cell? ⟨g1, 0, none⟩ = some (.int .i32 (-1 - p)) := fun z => z.cell hg1' hl0
    have kl1 : ∀ z : Kept w1, z.w.cell? ⟨g1, 1, none⟩ = some (.int .i32 (-1 - q)) := fun z => z.cell hg1' hl1
    have ko0 : ∀ z : Kept w1, z.w.cell? ⟨w.heap.size, 0, none⟩ = some (.int .u8 p) := fun z => z.cell (by show w.heap.size < _; omega) ho0
    have ko1 : ∀ z : Kept w1, z.w.cell? ⟨w.heap.size, 1, none⟩ = some (.int .u8 q) := fun z => z.cell (by show w.heap.size < _; omega) ho1
    clear hl0 hl1 ho0 ho1
    go_wp2_with fail
    refine wp_region_kept (by kernel_rfl) (by kernel_rfl) ?_
    repeat (quiet_step (first
      | (go_at_call 12; exact Kept.of_calls (known_any _))
      | (go_at_call 14; first | exact Kept.of_still (refEsc p _ p0 p1) | exact Kept.of_still (refEsc q _ q0 q1))))
    refine wpQuiet_nil ?_
    rintro _ ⟨z, rfl⟩
    go_wp2
    go_ret
    exact ⟨rfl, B1.trans (z.below.mono (by omega))⟩
  | false =>
    go_wp2_with fail
    refine (decode_any false ((w.alloc (.cells #[.int .u8 p, .int .u8 q, .int .u8 r, .int .u8 s] 5)).alloc (.cells #[.int .u8 q, .int .u8 p, .int .u8 s, .int .u8 r] 5)) (w.heap.size + 1 + 1) (some ⟨w.heap.size + 1, 0, none⟩) 4 4 [q, p, s, r] (new_two w _ .u8 [q, p, s, r] _) (by simp) (bd_cons ⟨q0, q1⟩ (bd_cons ⟨p0, p1⟩ (bd_cons ⟨s0, s1⟩ (bd_cons ⟨r0, r1⟩ bd_nil)))) (by omega) (by omega) (by decide)).mono ?_
    rintro e w1 ⟨v1, rfl, hown1, hb1⟩
    rw [dec_lone false q p s r (by rw [num_false]; omega) (by rw [num_false]; omega) (by rw [num_false, num_false]; omega)] at hown1
    have htl := dec_some false s r
    generalize dec false [s, r] = tl at *
    obtain ⟨g1, c1, rfl, hg1, hg1'⟩ := hown1.form (by simp)
    have hl0 : w1.cell? ⟨g1, 0, none⟩ = some (.int .i32 (-1 - q)) := hown1.cells (g := g1) rfl 0 _ rfl
    have hl1 : w1.cell? ⟨g1, 1, none⟩ = some (.int .i32 (-1 - p)) := hown1.cells (g := g1) rfl 1 _ rfl
    have ho0 : w1.cell? ⟨w.heap.size + 1, 0, none⟩ = some (.int .u8 q) := (hb1.cell (p := ⟨w.heap.size + 1, 0, none⟩) (by show w.heap.size + 1 < _; simp)).trans (two_new w _ _ _ 0 _ rfl)
    have ho1 : w1.cell? ⟨w.heap.size + 1, 1, none⟩ = some (.int .u8 p) := (hb1.cell (p := ⟨w.heap.size + 1, 1, none⟩) (by show w.heap.size + 1 < _; simp)).trans (two_new w _ _ _ 1 _ rfl)
    have hs1 : w.heap.size + 1 + 1 ≤ w1.heap.size := by have := hb1.size; simp at this; omega
    have B1 : Below w.heap.size w w1 := (((Below.refl _ _).alloc (Nat.le_refl _) _).alloc (by simp) _).trans (hb1.mono (by simp; omega))
    have hn1 : 3 ≤ ((-1 - q) :: (-1 - p) :: tl).length := by simp; omega
    generalize ((-1 - q) :: (-1 - p) :: tl).length = n1 at *
    have t0 : 0 < n1 := by omega
    have t1 : (1 : Int) < (n1 : Int) := by omega
    have t3 : (3 : Int) ≤ (n1 : Int) := by omega
    clear hown1 hb1 htl hg1
    have kl0 : ∀ z : Kept w1, z.w.cell? ⟨g1, 0, none⟩ = some (.int .i32 (-1 - q)) := fun z => z.cell hg1' hl0
    have kl1 : ∀ z : Kept w1, z.w.cell? ⟨g1, 1, none⟩ = some (.int .i32 (-1 - p)) := fun z => z.cell hg1' hl1
    have ko0 : ∀ z : Kept w1, z.w.cell? ⟨w.heap.size + 1, 0, none⟩ = some (.int .u8 q) := fun z => z.cell (by show w.heap.size + 1 < _; omega) ho0
    have ko1 : ∀ z : Kept w1, z.w.cell? ⟨w.heap.size + 1, 1, none⟩ = some (.int .u8 p) := fun z => z.cell (by show w.heap.size + 1 < _; omega) ho1
    clear hl0 hl1 ho0 ho1
    go_wp2_with fail
    refine wp_region_kept (by kernel_rfl) (by kernel_rfl) ?_
    repeat (quiet_step (first
      | (go_at_call 12; exact Kept.of_calls (known_any _))
      | (go_at_call 14; first | exact Kept.of_still (refEsc q _ q0 q1) | exact Kept.of_still (refEsc p _ p0 p1))))
    refine wpQuiet_nil ?_
    rintro _ ⟨z, rfl⟩
    go_wp2
    go_ret
    exact ⟨rfl, B1.trans (z.below.mono (by omega))⟩
end Go.Proofs.Ytbocibecjndooaa.C
