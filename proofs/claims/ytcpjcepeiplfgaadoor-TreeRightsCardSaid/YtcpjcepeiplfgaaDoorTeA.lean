/-
  The document's own Right of a cell, and bare. No condition.
-/
import Derived.Test.YtcpjcepeiplfgaaDoorTbF
namespace Go.Proofs.YtcpjcepeiplfgaaDoor.C
open Go.RowKit

theorem refCel_any (c : Int) (w : World) : Calls Tryd.prog 60 #[.int .i32 c] w fun e w' => e = .returned (.bool (celOk c)) ∧ w' = w := by
  have HR : Hid (celOk c = decide (-256 ≤ c ∧ c < 55296 ∨ 57343 < c ∧ c ≤ 1114111)) := Lib.hid rfl
  by_cases h1 : -256 ≤ c
  · by_cases h2 : c < 55296
    · have HE : Hid (celOk c = true) := Lib.hid (by rw [HR.out]; simp; omega)
      go_enter Tryd.func60, Tryd.ntmps60
      go_wp2
      go_ret
      exact ⟨by rw [HE.out]; rfl, rfl⟩
    · by_cases h3 : 57343 < c
      · by_cases h4 : c ≤ 1114111
        · have HE : Hid (celOk c = true) := Lib.hid (by rw [HR.out]; simp; omega)
          go_enter Tryd.func60, Tryd.ntmps60
          go_wp2
          go_ret
          exact ⟨by rw [HE.out]; rfl, rfl⟩
        · have HE : Hid (celOk c = false) := Lib.hid (by rw [HR.out]; simp; omega)
          go_enter Tryd.func60, Tryd.ntmps60
          go_wp2
          go_ret
          exact ⟨by rw [HE.out]; rfl, rfl⟩
      · have HE : Hid (celOk c = false) := Lib.hid (by rw [HR.out]; simp; omega)
        go_enter Tryd.func60, Tryd.ntmps60
        go_wp2
        go_ret
        exact ⟨by rw [HE.out]; rfl, rfl⟩
  · have h3 : ¬ 57343 < c := by omega
    have HE : Hid (celOk c = false) := Lib.hid (by rw [HR.out]; simp; omega)
    go_enter Tryd.func60, Tryd.ntmps60
    go_wp2
    go_ret
    exact ⟨by rw [HE.out]; rfl, rfl⟩
theorem len_dec (n : Nat) : (((n : Nat) : Int) == 0) = decide (n = 0) := by
  by_cases h : n = 0
  · rw [h]; rfl
  · rw [decide_eq_false h]
    exact beq_eq_false_iff_ne.2 (by omega)
set_option maxRecDepth 100000 in
set_option maxHeartbeats 4000000 in
theorem bareR_any (w : World) (x : Nd) (AR AT AK : Option Addr) (cR cT cK : Nat) (b1 b2 b3 b4 : Bool) : Calls Tryd.prog 61 #[.agg #[.int .u8 x.k, .int .i32 x.c, .bool x.nt, .slice AR x.rs.length cR, .slice AT x.ts.length cT, .int .i64 x.n, .int .i64 x.mn, .int .i64 x.mx, .slice AK x.ks.length cK], .bool b1, .bool b2, .bool b3, .bool b4] w fun e w' => e = .returned (.bool (bareB x b1 b2 b3 b4)) ∧ Below w.heap.size w w' := by
  obtain ⟨S, hS⟩ : ∃ S, w.heap.size = S := ⟨_, rfl⟩
  obtain ⟨W, hW⟩ : ∃ W, W = w.alloc (.cells #[.int .u8 x.k, .int .i32 x.c, .bool x.nt, .slice AR x.rs.length cR, .slice AT x.ts.length cT, .int .i64 x.n, .int .i64 x.mn, .int .i64 x.mx, .slice AK x.ks.length cK] 31) := ⟨_, rfl⟩
  obtain ⟨hr, -, hb⟩ := node_start w W S x _ _ _ hS hW
  have p1 : W.cell? ⟨S, 1, none⟩ = some (.int .i32 x.c) := hr.cell (i := 1) rfl
  have p2 : W.cell? ⟨S, 2, none⟩ = some (.bool x.nt) := hr.cell (i := 2) rfl
  have p3 : W.cell? ⟨S, 3, none⟩ = some (.slice AR x.rs.length cR) := hr.cell (i := 3) rfl
  have p4 : W.cell? ⟨S, 4, none⟩ = some (.slice AT x.ts.length cT) := hr.cell (i := 4) rfl
  have p5 : W.cell? ⟨S, 5, none⟩ = some (.int .i64 x.n) := hr.cell (i := 5) rfl
  have p6 : W.cell? ⟨S, 6, none⟩ = some (.int .i64 x.mn) := hr.cell (i := 6) rfl
  have p7 : W.cell? ⟨S, 7, none⟩ = some (.int .i64 x.mx) := hr.cell (i := 7) rfl
  rw [hS]
  have HB := Lib.hid hb
  obtain ⟨q1, hq1⟩ : ∃ q1, (b1 || decide (x.c = 0)) = q1 := ⟨_, rfl⟩
  obtain ⟨q2, hq2⟩ : ∃ q2, (b2 || (!x.nt && decide (x.rs.length = 0) && decide (x.ts.length = 0))) = q2 := ⟨_, rfl⟩
  obtain ⟨n0, hn0⟩ : ∃ n0, decide (x.n = 0) = n0 := ⟨_, rfl⟩
  obtain ⟨m0, hm0⟩ : ∃ m0, decide (x.mn = 0) = m0 := ⟨_, rfl⟩
  obtain ⟨x0, hx0⟩ : ∃ x0, decide (x.mx = 0) = x0 := ⟨_, rfl⟩
  have HBE : Hid (bareB x b1 b2 b3 b4 = (q1 && q2 && (b3 || n0) && (b4 || (m0 && x0)))) := Lib.hid (by unfold bareB; rw [hq1, hq2, hn0, hm0, hx0])
  have en : (x.n == 0) = n0 := hn0
  have em : (x.mn == 0) = m0 := hm0
  have ex : (x.mx == 0) = x0 := hx0
  clear hn0 hm0 hx0 hr hb
  go_enter Tryd.func61, Tryd.ntmps61
  go_upto_region 1 with fail
  rw [← hW]
  clear hW
  go_cut [11] (fun v wx => v = .bool q1 ∧ W = wx)
  case first =>
    obtain ⟨c0, hc0⟩ : ∃ c0, decide (x.c = 0) = c0 := ⟨_, rfl⟩
    have ec : (x.c == 0) = c0 := hc0
    rw [hc0] at hq1
    have HQ := Lib.hid hq1
    clear hc0 hq1 hq2
    rcases b1 with _ | _
    · go_wp2
      go_meet
      exact ⟨by rw [← HQ.out]; rfl, rfl⟩
    · go_wp2
      go_meet
      exact ⟨by rw [← HQ.out]; rfl, rfl⟩
  case rest =>
    generalize wc = W' at *
    obtain ⟨rfl, rfl⟩ := hcut
    clear hq1
    go_upto_region 2 with fail
    go_cut [12] (fun v wx => v = .bool q2 ∧ W = wx)
    case first =>
      obtain ⟨nb, hnb⟩ : ∃ nb, x.nt = nb := ⟨_, rfl⟩
      obtain ⟨r0, hr0⟩ : ∃ r0, decide (x.rs.length = 0) = r0 := ⟨_, rfl⟩
      obtain ⟨t0, ht0⟩ : ∃ t0, decide (x.ts.length = 0) = t0 := ⟨_, rfl⟩
      have er : ((x.rs.length : Int) == 0) = r0 := by rw [len_dec]; exact hr0
      have et : ((x.ts.length : Int) == 0) = t0 := by rw [len_dec]; exact ht0
      rw [hnb, hr0, ht0] at hq2
      rw [hnb] at p2
      have HQ := Lib.hid hq2
      clear hnb hr0 ht0 hq2
      rcases b2 with _ | _
      · rcases nb with _ | _
        · rcases r0 with _ | _
          · go_wp2
            go_meet
            exact ⟨by rw [← HQ.out]; rfl, rfl⟩
          · go_wp2
            go_meet
            exact ⟨by rw [← HQ.out]; rfl, rfl⟩
        · go_wp2
          go_meet
          exact ⟨by rw [← HQ.out]; rfl, rfl⟩
      · go_wp2
        go_meet
        exact ⟨by rw [← HQ.out]; rfl, rfl⟩
    case rest =>
      generalize wc = W' at *
      obtain ⟨rfl, rfl⟩ := hcut
      clear hq2
      rcases q1 with _ | _
      · go_wp2
        go_ret
        exact ⟨by rw [HBE.out]; simp, HB.out⟩
      · rcases q2 with _ | _
        · go_wp2
          go_ret
          exact ⟨by rw [HBE.out]; simp, HB.out⟩
        · rcases b3 with _ | _
          · rcases n0 with _ | _
            · go_wp2
              go_ret
              exact ⟨by rw [HBE.out]; simp, HB.out⟩
            · rcases b4 with _ | _
              · rcases m0 with _ | _
                · go_wp2
                  go_ret
                  exact ⟨by rw [HBE.out]; simp, HB.out⟩
                · go_wp2
                  go_ret
                  exact ⟨by rw [HBE.out]; simp, HB.out⟩
              · go_wp2
                go_ret
                exact ⟨by rw [HBE.out]; simp, HB.out⟩
          · rcases b4 with _ | _
            · rcases m0 with _ | _
              · go_wp2
                go_ret
                exact ⟨by rw [HBE.out]; simp, HB.out⟩
              · go_wp2
                go_ret
                exact ⟨by rw [HBE.out]; simp, HB.out⟩
            · go_wp2
              go_ret
              exact ⟨by rw [HBE.out]; simp, HB.out⟩
end Go.Proofs.YtcpjcepeiplfgaaDoor.C
