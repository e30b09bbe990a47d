/-
  The document's own node. No condition.
-/
import Derived.Test.YtcpjcepeiplfgaaDoorTeB
namespace Go.Proofs.YtcpjcepeiplfgaaDoor.C
open Go.RowKit

theorem nodeR1 {x : Nd} (g : Int) (h : x.k = 1) : nodeB x g = (decide (x.ks.length = 0) && celOk x.c && bareB x true false false false) := by
  unfold nodeB
  rw [h]
  simp
theorem nodeR2 {x : Nd} (g : Int) (h : x.k = 2) : nodeB x g = (decide (x.ks.length = 0) && bareB x false false false false) := by
  unfold nodeB
  rw [h]
  simp
theorem nodeR4 {x : Nd} (g : Int) (h : x.k = 4) : nodeB x g = (decide (x.ks.length = 0) && bareB x false false false false) := by
  unfold nodeB
  rw [h]
  simp
theorem nodeR5 {x : Nd} (g : Int) (h : x.k = 5) : nodeB x g = (decide (x.ks.length = 0) && bareB x false false false false) := by
  unfold nodeB
  rw [h]
  simp
theorem nodeR11 {x : Nd} (g : Int) (h : x.k = 11) : nodeB x g = (decide (x.ks.length = 0) && bareB x false false false false) := by
  unfold nodeB
  rw [h]
  simp
theorem nodeR3 {x : Nd} (g : Int) (h : x.k = 3) : nodeB x g = (decide (x.ks.length = 0) && setB x && bareB x false true false false) := by
  unfold nodeB
  rw [h]
  simp
theorem nodeR6 {x : Nd} (g : Int) (h : x.k = 6) : nodeB x g = (decide (x.ks.length = 0) && decide (1 ≤ x.n) && decide (x.n ≤ g) && bareB x false false true false) := by
  unfold nodeB
  rw [h]
  simp
theorem nodeR7 {x : Nd} (g : Int) (h : x.k = 7) : nodeB x g = (decide (x.ks.length = 1) && decide (1 ≤ x.n) && decide (x.n ≤ g) && bareB x false false true false) := by
  unfold nodeB
  rw [h]
  simp
theorem nodeR8 {x : Nd} (g : Int) (h : x.k = 8) : nodeB x g = (decide (2 ≤ x.ks.length) && bareB x false false false false) := by
  unfold nodeB
  rw [h]
  simp
theorem nodeR9 {x : Nd} (g : Int) (h : x.k = 9) : nodeB x g = (decide (2 ≤ x.ks.length) && bareB x false false false false) := by
  unfold nodeB
  rw [h]
  simp
theorem nodeR10 {x : Nd} (g : Int) (h : x.k = 10) : nodeB x g = (decide (x.ks.length = 1) && decide (0 ≤ x.mn) && decide (x.mn ≤ 255) && (decide (x.mx = -1) || (decide (x.mn ≤ x.mx) && decide (x.mx ≤ 255))) && bareB x false false false true) := by
  unfold nodeB
  rw [h]
  simp
theorem nodeR_else {x : Nd} (g : Int) (h : x.k ≠ 1 ∧ x.k ≠ 2 ∧ x.k ≠ 4 ∧ x.k ≠ 5 ∧ x.k ≠ 11 ∧ x.k ≠ 3 ∧ x.k ≠ 6 ∧ x.k ≠ 7 ∧ x.k ≠ 8 ∧ x.k ≠ 9 ∧ x.k ≠ 10) : nodeB x g = false := by
  unfold nodeB
  simp [h]
set_option maxRecDepth 100000 in
set_option maxHeartbeats 8000000 in
theorem refNode_any (w : World) (P : Nat → Prop) (x : Nd) (vR vT vK : Value) (g : Int) (hx : NdP w P x vR vT vK) (hP : ∀ b, P b → b < w.heap.size) :
    Calls Tryd.prog 44 #[ndVal x vR vT vK, .int .i64 g] w fun e w' => e = .returned (.bool (nodeB x g)) ∧ Below w.heap.size w w' := by
  obtain ⟨S, hS⟩ : ∃ S, w.heap.size = S := ⟨_, rfl⟩
  obtain ⟨W, hW⟩ : ∃ W, W = w.alloc (.cells #[.int .u8 x.k, .int .i32 x.c, .bool x.nt, vR, vT, .int .i64 x.n, .int .i64 x.mn, .int .i64 x.mx, vK] 31) := ⟨_, rfl⟩
  obtain ⟨hr, hs, hb⟩ := node_start w W S x vR vT vK hS hW
  have hn := hx.keep (below_cells (P := P) hb (fun b hb => by rw [← hS]; exact hP b hb))
  obtain ⟨⟨AR, cR, rfl, -⟩, ⟨AT, cT, _, rfl, -⟩, ⟨AK, cK, rfl, -⟩⟩ := hx
  rw [hS]
  unfold ndVal
  have p0 : W.cell? ⟨S, 0, none⟩ = some (.int .u8 x.k) := hr.cell (i := 0) rfl
  have p1 : W.cell? ⟨S, 1, none⟩ = some (.int .i32 x.c) := hr.cell (i := 1) rfl
  have p2 : W.cell? ⟨S, 2, none⟩ = some (.bool x.nt) := hr.cell (i := 2) rfl
  have p3 : W.cell? ⟨S, 3, none⟩ = some (.slice AR x.rs.length cR) := hr.cell (i := 3) rfl
  have p4 : W.cell? ⟨S, 4, none⟩ = some (.slice AT x.ts.length cT) := hr.cell (i := 4) rfl
  have p5 : W.cell? ⟨S, 5, none⟩ = some (.int .i64 x.n) := hr.cell (i := 5) rfl
  have p6 : W.cell? ⟨S, 6, none⟩ = some (.int .i64 x.mn) := hr.cell (i := 6) rfl
  have p7 : W.cell? ⟨S, 7, none⟩ = some (.int .i64 x.mx) := hr.cell (i := 7) rfl
  have p8 : W.cell? ⟨S, 8, none⟩ = some (.slice AK x.ks.length cK) := hr.cell (i := 8) rfl
  have HN := Lib.hid hn
  have HB := Lib.hid hb
  have HRO := Lib.hid hr
  have HSW : Hid (S < W.heap.size) := Lib.hid hr.lt
  have HP : Hid (∀ b, P b → b < W.heap.size) := Lib.hid (fun b hb => by have := hP b hb; omega)
  clear hn hb hr hP hs
  go_enter Tryd.func44, Tryd.ntmps44
  go_upto_region 1 with fail
  rw [← hW]
  clear hW hS
  by_cases hk : x.k = 1
  · have HK := Lib.hid hk
    have e1 : (x.k == 1) = true := by rw [hk]; rfl
    clear hk
    by_cases hl0 : x.ks.length = 0
    · have f0 : ((x.ks.length : Int) == 0) = true := by rw [len_dec]; exact decide_eq_true hl0
      have hcel := fun W => refCel_any x.c W
      by_cases hd : celOk x.c = true
      · rw [hd] at hcel
        have HF : Hid (nodeB x g = bareB x true false false false) := Lib.hid (by rw [nodeR1 g HK.out]; simp [hl0, hd])
        clear hl0 hd
        obtain ⟨qb, hqb⟩ : ∃ qb, bareB x true false false false = qb := ⟨_, rfl⟩
        have hbare := fun W => bareR_any W x AR AT AK cR cT cK true false false false
        rw [hqb] at HF hbare
        clear hqb
        go_wp2_with (first | (go_at_call 60; with_reducible refine (hcel _).mono ?_; rintro e w' ⟨rfl, rfl⟩) | fail)
        refine (hbare _).mono ?_
        rintro e w5 ⟨rfl, hb5⟩
        have HE : Hid (Below S w w5) := Lib.hid (HB.out.trans (hb5.mono (by have := HSW.out; omega)))
        clear hb5 hbare
        go_wp2
        go_ret
        exact ⟨by rw [HF.out]; rfl, HE.out⟩
      · have hd' : celOk x.c = false := by simpa using hd
        rw [hd'] at hcel
        have HF : Hid (nodeB x g = false) := Lib.hid (by rw [nodeR1 g HK.out]; simp [hd'])
        clear hd hd' hl0
        go_wp2_with (go_at_call 60; with_reducible refine (hcel _).mono ?_; rintro e w' ⟨rfl, rfl⟩)
        go_ret
        exact ⟨by rw [HF.out]; rfl, HB.out⟩
    · have f0 : ((x.ks.length : Int) == 0) = false := by rw [len_dec]; exact decide_eq_false hl0
      have HF : Hid (nodeB x g = false) := Lib.hid (by rw [nodeR1 g HK.out]; simp [hl0])
      clear hl0
      go_wp2
      go_ret
      exact ⟨by rw [HF.out]; rfl, HB.out⟩
  by_cases hk : x.k = 2
  · have HK := Lib.hid hk
    have e1 : (x.k == 1) = false := by rw [hk]; rfl
    have e2 : (x.k == 2) = true := by rw [hk]; rfl
    clear hk
    by_cases hl0 : x.ks.length = 0
    · have f0 : ((x.ks.length : Int) == 0) = true := by rw [len_dec]; exact decide_eq_true hl0
      have HF : Hid (nodeB x g = bareB x false false false false) := Lib.hid (by rw [nodeR2 g HK.out]; simp [hl0])
      clear hl0
      obtain ⟨qb, hqb⟩ : ∃ qb, bareB x false false false false = qb := ⟨_, rfl⟩
      have hbare := fun W => bareR_any W x AR AT AK cR cT cK false false false false
      rw [hqb] at HF hbare
      clear hqb
      go_wp2_with fail
      refine (hbare _).mono ?_
      rintro e w5 ⟨rfl, hb5⟩
      have HE : Hid (Below S w w5) := Lib.hid (HB.out.trans (hb5.mono (by have := HSW.out; omega)))
      clear hb5 hbare
      go_wp2
      go_ret
      exact ⟨by rw [HF.out]; rfl, HE.out⟩
    · have f0 : ((x.ks.length : Int) == 0) = false := by rw [len_dec]; exact decide_eq_false hl0
      have HF : Hid (nodeB x g = false) := Lib.hid (by rw [nodeR2 g HK.out]; simp [hl0])
      clear hl0
      go_wp2
      go_ret
      exact ⟨by rw [HF.out]; rfl, HB.out⟩
  by_cases hk : x.k = 4
  · have HK := Lib.hid hk
    have e1 : (x.k == 1) = false := by rw [hk]; rfl
    have e2 : (x.k == 2) = false := by rw [hk]; rfl
    have e4 : (x.k == 4) = true := by rw [hk]; rfl
    clear hk
    by_cases hl0 : x.ks.length = 0
    · have f0 : ((x.ks.length : Int) == 0) = true := by rw [len_dec]; exact decide_eq_true hl0
      have HF : Hid (nodeB x g = bareB x false false false false) := Lib.hid (by rw [nodeR4 g HK.out]; simp [hl0])
      clear hl0
      obtain ⟨qb, hqb⟩ : ∃ qb, bareB x false false false false = qb := ⟨_, rfl⟩
      have hbare := fun W => bareR_any W x AR AT AK cR cT cK false false false false
      rw [hqb] at HF hbare
      clear hqb
      go_wp2_with fail
      refine (hbare _).mono ?_
      rintro e w5 ⟨rfl, hb5⟩
      have HE : Hid (Below S w w5) := Lib.hid (HB.out.trans (hb5.mono (by have := HSW.out; omega)))
      clear hb5 hbare
      go_wp2
      go_ret
      exact ⟨by rw [HF.out]; rfl, HE.out⟩
    · have f0 : ((x.ks.length : Int) == 0) = false := by rw [len_dec]; exact decide_eq_false hl0
      have HF : Hid (nodeB x g = false) := Lib.hid (by rw [nodeR4 g HK.out]; simp [hl0])
      clear hl0
      go_wp2
      go_ret
      exact ⟨by rw [HF.out]; rfl, HB.out⟩
  by_cases hk : x.k = 5
  · have HK := Lib.hid hk
    have e1 : (x.k == 1) = false := by rw [hk]; rfl
    have e2 : (x.k == 2) = false := by rw [hk]; rfl
    have e4 : (x.k == 4) = false := by rw [hk]; rfl
    have e5 : (x.k == 5) = true := by rw [hk]; rfl
    clear hk
    by_cases hl0 : x.ks.length = 0
    · have f0 : ((x.ks.length : Int) == 0) = true := by rw [len_dec]; exact decide_eq_true hl0
      have HF : Hid (nodeB x g = bareB x false false false false) := Lib.hid (by rw [nodeR5 g HK.out]; simp [hl0])
      clear hl0
      obtain ⟨qb, hqb⟩ : ∃ qb, bareB x false false false false = qb := ⟨_, rfl⟩
      have hbare := fun W => bareR_any W x AR AT AK cR cT cK false false false false
      rw [hqb] at HF hbare
      clear hqb
      go_wp2_with fail
      refine (hbare _).mono ?_
      rintro e w5 ⟨rfl, hb5⟩
      have HE : Hid (Below S w w5) := Lib.hid (HB.out.trans (hb5.mono (by have := HSW.out; omega)))
      clear hb5 hbare
      go_wp2
      go_ret
      exact ⟨by rw [HF.out]; rfl, HE.out⟩
    · have f0 : ((x.ks.length : Int) == 0) = false := by rw [len_dec]; exact decide_eq_false hl0
      have HF : Hid (nodeB x g = false) := Lib.hid (by rw [nodeR5 g HK.out]; simp [hl0])
      clear hl0
      go_wp2
      go_ret
      exact ⟨by rw [HF.out]; rfl, HB.out⟩
  by_cases hk : x.k = 11
  · have HK := Lib.hid hk
    have e1 : (x.k == 1) = false := by rw [hk]; rfl
    have e2 : (x.k == 2) = false := by rw [hk]; rfl
    have e4 : (x.k == 4) = false := by rw [hk]; rfl
    have e5 : (x.k == 5) = false := by rw [hk]; rfl
    have e11 : (x.k == 11) = true := by rw [hk]; rfl
    clear hk
    by_cases hl0 : x.ks.length = 0
    · have f0 : ((x.ks.length : Int) == 0) = true := by rw [len_dec]; exact decide_eq_true hl0
      have HF : Hid (nodeB x g = bareB x false false false false) := Lib.hid (by rw [nodeR11 g HK.out]; simp [hl0])
      clear hl0
      obtain ⟨qb, hqb⟩ : ∃ qb, bareB x false false false false = qb := ⟨_, rfl⟩
      have hbare := fun W => bareR_any W x AR AT AK cR cT cK false false false false
      rw [hqb] at HF hbare
      clear hqb
      go_wp2_with fail
      refine (hbare _).mono ?_
      rintro e w5 ⟨rfl, hb5⟩
      have HE : Hid (Below S w w5) := Lib.hid (HB.out.trans (hb5.mono (by have := HSW.out; omega)))
      clear hb5 hbare
      go_wp2
      go_ret
      exact ⟨by rw [HF.out]; rfl, HE.out⟩
    · have f0 : ((x.ks.length : Int) == 0) = false := by rw [len_dec]; exact decide_eq_false hl0
      have HF : Hid (nodeB x g = false) := Lib.hid (by rw [nodeR11 g HK.out]; simp [hl0])
      clear hl0
      go_wp2
      go_ret
      exact ⟨by rw [HF.out]; rfl, HB.out⟩
  by_cases hk : x.k = 3
  · have HK := Lib.hid hk
    have e1 : (x.k == 1) = false := by rw [hk]; rfl
    have e2 : (x.k == 2) = false := by rw [hk]; rfl
    have e4 : (x.k == 4) = false := by rw [hk]; rfl
    have e5 : (x.k == 5) = false := by rw [hk]; rfl
    have e11 : (x.k == 11) = false := by rw [hk]; rfl
    have e3 : (x.k == 3) = true := by rw [hk]; rfl
    clear hk
    by_cases hl0 : x.ks.length = 0
    · have f0 : ((x.ks.length : Int) == 0) = true := by rw [len_dec]; exact decide_eq_true hl0
      have HL := Lib.hid hl0
      have hset := refSet_any W P x x.nt (.slice AR x.rs.length cR) (.slice AT x.ts.length cT) HN.out.1 HN.out.2.1 HP.out
      clear hl0
      go_wp2_with fail
      refine hset.mono ?_
      rintro e w4 ⟨rfl, hb4⟩
      have HB4 : Hid (Below S w w4) := Lib.hid (HB.out.trans (hb4.mono (by have := HSW.out; omega)))
      have hr4 := HRO.out.on hb4 HSW.out
      have HSW4 : Hid (S < w4.heap.size) := Lib.hid hr4.lt
      clear p0 p1 p2 p3 p4 p5 p6 p7 p8 hset hb4
      have p0 : w4.cell? ⟨S, 0, none⟩ = some (.int .u8 x.k) := hr4.cell (i := 0) rfl
      have p1 : w4.cell? ⟨S, 1, none⟩ = some (.int .i32 x.c) := hr4.cell (i := 1) rfl
      have p2 : w4.cell? ⟨S, 2, none⟩ = some (.bool x.nt) := hr4.cell (i := 2) rfl
      have p3 : w4.cell? ⟨S, 3, none⟩ = some (.slice AR x.rs.length cR) := hr4.cell (i := 3) rfl
      have p4 : w4.cell? ⟨S, 4, none⟩ = some (.slice AT x.ts.length cT) := hr4.cell (i := 4) rfl
      have p5 : w4.cell? ⟨S, 5, none⟩ = some (.int .i64 x.n) := hr4.cell (i := 5) rfl
      have p6 : w4.cell? ⟨S, 6, none⟩ = some (.int .i64 x.mn) := hr4.cell (i := 6) rfl
      have p7 : w4.cell? ⟨S, 7, none⟩ = some (.int .i64 x.mx) := hr4.cell (i := 7) rfl
      have p8 : w4.cell? ⟨S, 8, none⟩ = some (.slice AK x.ks.length cK) := hr4.cell (i := 8) rfl
      clear hr4
      by_cases hd : setB x = true
      · rw [hd]
        obtain ⟨qb, hqb⟩ : ∃ qb, bareB x false true false false = qb := ⟨_, rfl⟩
        have HF : Hid (nodeB x g = qb) := Lib.hid (by rw [nodeR3 g HK.out, hqb]; simp [hd, HL.out])
        have hbare := fun W => bareR_any W x AR AT AK cR cT cK false true false false
        rw [hqb] at hbare
        clear hqb hd
        go_wp2_with fail
        refine (hbare _).mono ?_
        rintro e w5 ⟨rfl, hb5⟩
        have HE : Hid (Below S w w5) := Lib.hid (HB4.out.trans (hb5.mono (by have := HSW4.out; omega)))
        clear hb5 hbare
        go_wp2
        go_ret
        exact ⟨by rw [HF.out]; rfl, HE.out⟩
      · have hd' : setB x = false := by simpa using hd
        rw [hd']
        have HF : Hid (nodeB x g = false) := Lib.hid (by rw [nodeR3 g HK.out]; simp [hd'])
        clear hd hd'
        go_wp2
        go_ret
        exact ⟨by rw [HF.out]; rfl, HB4.out⟩
    · have f0 : ((x.ks.length : Int) == 0) = false := by rw [len_dec]; exact decide_eq_false hl0
      have HF : Hid (nodeB x g = false) := Lib.hid (by rw [nodeR3 g HK.out]; simp [hl0])
      clear hl0
      go_wp2
      go_ret
      exact ⟨by rw [HF.out]; rfl, HB.out⟩
  by_cases hk : x.k = 6
  · have HK := Lib.hid hk
    have e1 : (x.k == 1) = false := by rw [hk]; rfl
    have e2 : (x.k == 2) = false := by rw [hk]; rfl
    have e4 : (x.k == 4) = false := by rw [hk]; rfl
    have e5 : (x.k == 5) = false := by rw [hk]; rfl
    have e11 : (x.k == 11) = false := by rw [hk]; rfl
    have e3 : (x.k == 3) = false := by rw [hk]; rfl
    have e6 : (x.k == 6) = true := by rw [hk]; rfl
    clear hk
    by_cases hl0 : x.ks.length = 0
    · have f0 : ((x.ks.length : Int) == 0) = true := by rw [len_dec]; exact decide_eq_true hl0
      by_cases hn1 : 1 ≤ x.n
      · by_cases hng : x.n ≤ g
        · have HF : Hid (nodeB x g = bareB x false false true false) := Lib.hid (by rw [nodeR6 g HK.out]; simp [hl0, hn1, hng])
          clear hl0
          obtain ⟨qb, hqb⟩ : ∃ qb, bareB x false false true false = qb := ⟨_, rfl⟩
          have hbare := fun W => bareR_any W x AR AT AK cR cT cK false false true false
          rw [hqb] at HF hbare
          clear hqb
          go_wp2_with fail
          refine (hbare _).mono ?_
          rintro e w5 ⟨rfl, hb5⟩
          have HE : Hid (Below S w w5) := Lib.hid (HB.out.trans (hb5.mono (by have := HSW.out; omega)))
          clear hb5 hbare
          go_wp2
          go_ret
          exact ⟨by rw [HF.out]; rfl, HE.out⟩
        · have HF : Hid (nodeB x g = false) := Lib.hid (by rw [nodeR6 g HK.out]; simp [hng])
          clear hl0
          go_wp2
          go_ret
          exact ⟨by rw [HF.out]; rfl, HB.out⟩
      · have HF : Hid (nodeB x g = false) := Lib.hid (by rw [nodeR6 g HK.out]; simp [hn1])
        clear hl0
        go_wp2
        go_ret
        exact ⟨by rw [HF.out]; rfl, HB.out⟩
    · have f0 : ((x.ks.length : Int) == 0) = false := by rw [len_dec]; exact decide_eq_false hl0
      have HF : Hid (nodeB x g = false) := Lib.hid (by rw [nodeR6 g HK.out]; simp [hl0])
      clear hl0
      go_wp2
      go_ret
      exact ⟨by rw [HF.out]; rfl, HB.out⟩
  by_cases hk : x.k = 7
  · have HK := Lib.hid hk
    have e1 : (x.k == 1) = false := by rw [hk]; rfl
    have e2 : (x.k == 2) = false := by rw [hk]; rfl
    have e4 : (x.k == 4) = false := by rw [hk]; rfl
    have e5 : (x.k == 5) = false := by rw [hk]; rfl
    have e11 : (x.k == 11) = false := by rw [hk]; rfl
    have e3 : (x.k == 3) = false := by rw [hk]; rfl
    have e6 : (x.k == 6) = false := by rw [hk]; rfl
    have e7 : (x.k == 7) = true := by rw [hk]; rfl
    clear hk
    by_cases hl1 : x.ks.length = 1
    · have f0 : ((x.ks.length : Int) == 1) = true := by rw [hl1]; rfl
      by_cases hn1 : 1 ≤ x.n
      · by_cases hng : x.n ≤ g
        · have HF : Hid (nodeB x g = bareB x false false true false) := Lib.hid (by rw [nodeR7 g HK.out]; simp [hl1, hn1, hng])
          clear hl1
          obtain ⟨qb, hqb⟩ : ∃ qb, bareB x false false true false = qb := ⟨_, rfl⟩
          have hbare := fun W => bareR_any W x AR AT AK cR cT cK false false true false
          rw [hqb] at HF hbare
          clear hqb
          go_wp2_with fail
          refine (hbare _).mono ?_
          rintro e w5 ⟨rfl, hb5⟩
          have HE : Hid (Below S w w5) := Lib.hid (HB.out.trans (hb5.mono (by have := HSW.out; omega)))
          clear hb5 hbare
          go_wp2
          go_ret
          exact ⟨by rw [HF.out]; rfl, HE.out⟩
        · have HF : Hid (nodeB x g = false) := Lib.hid (by rw [nodeR7 g HK.out]; simp [hng])
          clear hl1
          go_wp2
          go_ret
          exact ⟨by rw [HF.out]; rfl, HB.out⟩
      · have HF : Hid (nodeB x g = false) := Lib.hid (by rw [nodeR7 g HK.out]; simp [hn1])
        clear hl1
        go_wp2
        go_ret
        exact ⟨by rw [HF.out]; rfl, HB.out⟩
    · have f0 : ((x.ks.length : Int) == 1) = false := beq_eq_false_iff_ne.2 (by omega)
      have HF : Hid (nodeB x g = false) := Lib.hid (by rw [nodeR7 g HK.out]; simp [hl1])
      clear hl1
      go_wp2
      go_ret
      exact ⟨by rw [HF.out]; rfl, HB.out⟩
  by_cases hk : x.k = 8
  · have HK := Lib.hid hk
    have e1 : (x.k == 1) = false := by rw [hk]; rfl
    have e2 : (x.k == 2) = false := by rw [hk]; rfl
    have e4 : (x.k == 4) = false := by rw [hk]; rfl
    have e5 : (x.k == 5) = false := by rw [hk]; rfl
    have e11 : (x.k == 11) = false := by rw [hk]; rfl
    have e3 : (x.k == 3) = false := by rw [hk]; rfl
    have e6 : (x.k == 6) = false := by rw [hk]; rfl
    have e7 : (x.k == 7) = false := by rw [hk]; rfl
    have e8 : (x.k == 8) = true := by rw [hk]; rfl
    clear hk
    by_cases hl2 : 2 ≤ x.ks.length
    · have f0 : (2 : Int) ≤ (x.ks.length : Int) := by omega
      have HF : Hid (nodeB x g = bareB x false false false false) := Lib.hid (by rw [nodeR8 g HK.out]; simp [hl2])
      clear hl2
      obtain ⟨qb, hqb⟩ : ∃ qb, bareB x false false false false = qb := ⟨_, rfl⟩
      have hbare := fun W => bareR_any W x AR AT AK cR cT cK false false false false
      rw [hqb] at HF hbare
      clear hqb
      go_wp2_with fail
      refine (hbare _).mono ?_
      rintro e w5 ⟨rfl, hb5⟩
      have HE : Hid (Below S w w5) := Lib.hid (HB.out.trans (hb5.mono (by have := HSW.out; omega)))
      clear hb5 hbare
      go_wp2
      go_ret
      exact ⟨by rw [HF.out]; rfl, HE.out⟩
    · have f0 : ¬ (2 : Int) ≤ (x.ks.length : Int) := by omega
      have HF : Hid (nodeB x g = false) := Lib.hid (by rw [nodeR8 g HK.out]; simp [hl2])
      clear hl2
      go_wp2
      go_ret
      exact ⟨by rw [HF.out]; rfl, HB.out⟩
  by_cases hk : x.k = 9
  · have HK := Lib.hid hk
    have e1 : (x.k == 1) = false := by rw [hk]; rfl
    have e2 : (x.k == 2) = false := by rw [hk]; rfl
    have e4 : (x.k == 4) = false := by rw [hk]; rfl
    have e5 : (x.k == 5) = false := by rw [hk]; rfl
    have e11 : (x.k == 11) = false := by rw [hk]; rfl
    have e3 : (x.k == 3) = false := by rw [hk]; rfl
    have e6 : (x.k == 6) = false := by rw [hk]; rfl
    have e7 : (x.k == 7) = false := by rw [hk]; rfl
    have e8 : (x.k == 8) = false := by rw [hk]; rfl
    have e9 : (x.k == 9) = true := by rw [hk]; rfl
    clear hk
    by_cases hl2 : 2 ≤ x.ks.length
    · have f0 : (2 : Int) ≤ (x.ks.length : Int) := by omega
      have HF : Hid (nodeB x g = bareB x false false false false) := Lib.hid (by rw [nodeR9 g HK.out]; simp [hl2])
      clear hl2
      obtain ⟨qb, hqb⟩ : ∃ qb, bareB x false false false false = qb := ⟨_, rfl⟩
      have hbare := fun W => bareR_any W x AR AT AK cR cT cK false false false false
      rw [hqb] at HF hbare
      clear hqb
      go_wp2_with fail
      refine (hbare _).mono ?_
      rintro e w5 ⟨rfl, hb5⟩
      have HE : Hid (Below S w w5) := Lib.hid (HB.out.trans (hb5.mono (by have := HSW.out; omega)))
      clear hb5 hbare
      go_wp2
      go_ret
      exact ⟨by rw [HF.out]; rfl, HE.out⟩
    · have f0 : ¬ (2 : Int) ≤ (x.ks.length : Int) := by omega
      have HF : Hid (nodeB x g = false) := Lib.hid (by rw [nodeR9 g HK.out]; simp [hl2])
      clear hl2
      go_wp2
      go_ret
      exact ⟨by rw [HF.out]; rfl, HB.out⟩
  by_cases hk : x.k = 10
  · have HK := Lib.hid hk
    have e1 : (x.k == 1) = false := by rw [hk]; rfl
    have e2 : (x.k == 2) = false := by rw [hk]; rfl
    have e4 : (x.k == 4) = false := by rw [hk]; rfl
    have e5 : (x.k == 5) = false := by rw [hk]; rfl
    have e11 : (x.k == 11) = false := by rw [hk]; rfl
    have e3 : (x.k == 3) = false := by rw [hk]; rfl
    have e6 : (x.k == 6) = false := by rw [hk]; rfl
    have e7 : (x.k == 7) = false := by rw [hk]; rfl
    have e8 : (x.k == 8) = false := by rw [hk]; rfl
    have e9 : (x.k == 9) = false := by rw [hk]; rfl
    have e10 : (x.k == 10) = true := by rw [hk]; rfl
    clear hk
    by_cases hl1 : x.ks.length = 1
    · have f0 : ((x.ks.length : Int) == 1) = true := by rw [hl1]; rfl
      by_cases hm0 : 0 ≤ x.mn
      · by_cases hm5 : x.mn ≤ 255
        · by_cases hm : x.mx = -1
          · have f1 : (x.mx == -1) = true := by rw [hm]; rfl
            have HF : Hid (nodeB x g = bareB x false false false true) := Lib.hid (by rw [nodeR10 g HK.out]; simp [hl1, hm0, hm5, hm])
            clear hm hl1
            obtain ⟨qb, hqb⟩ : ∃ qb, bareB x false false false true = qb := ⟨_, rfl⟩
            have hbare := fun W => bareR_any W x AR AT AK cR cT cK false false false true
            rw [hqb] at HF hbare
            clear hqb
            go_wp2_with fail
            refine (hbare _).mono ?_
            rintro e w5 ⟨rfl, hb5⟩
            have HE : Hid (Below S w w5) := Lib.hid (HB.out.trans (hb5.mono (by have := HSW.out; omega)))
            clear hb5 hbare
            go_wp2
            go_ret
            exact ⟨by rw [HF.out]; rfl, HE.out⟩
          · have f1 : (x.mx == -1) = false := beq_eq_false_iff_ne.2 hm
            by_cases hm2 : x.mn ≤ x.mx
            · by_cases hm3 : x.mx ≤ 255
              · have HF : Hid (nodeB x g = bareB x false false false true) := Lib.hid (by rw [nodeR10 g HK.out]; simp [hl1, hm0, hm5, hm2, hm3])
                clear hm hl1
                obtain ⟨qb, hqb⟩ : ∃ qb, bareB x false false false true = qb := ⟨_, rfl⟩
                have hbare := fun W => bareR_any W x AR AT AK cR cT cK false false false true
                rw [hqb] at HF hbare
                clear hqb
                go_wp2_with fail
                refine (hbare _).mono ?_
                rintro e w5 ⟨rfl, hb5⟩
                have HE : Hid (Below S w w5) := Lib.hid (HB.out.trans (hb5.mono (by have := HSW.out; omega)))
                clear hb5 hbare
                go_wp2
                go_ret
                exact ⟨by rw [HF.out]; rfl, HE.out⟩
              · have HF : Hid (nodeB x g = false) := Lib.hid (by rw [nodeR10 g HK.out]; simp [hm, hm3])
                clear hm hl1
                go_wp2
                go_ret
                exact ⟨by rw [HF.out]; rfl, HB.out⟩
            · have HF : Hid (nodeB x g = false) := Lib.hid (by rw [nodeR10 g HK.out]; simp [hm, hm2])
              clear hm hl1
              go_wp2
              go_ret
              exact ⟨by rw [HF.out]; rfl, HB.out⟩
        · have HF : Hid (nodeB x g = false) := Lib.hid (by rw [nodeR10 g HK.out]; simp [hm5])
          clear hl1
          go_wp2
          go_ret
          exact ⟨by rw [HF.out]; rfl, HB.out⟩
      · have HF : Hid (nodeB x g = false) := Lib.hid (by rw [nodeR10 g HK.out]; simp [hm0])
        clear hl1
        go_wp2
        go_ret
        exact ⟨by rw [HF.out]; rfl, HB.out⟩
    · have f0 : ((x.ks.length : Int) == 1) = false := beq_eq_false_iff_ne.2 (by omega)
      have HF : Hid (nodeB x g = false) := Lib.hid (by rw [nodeR10 g HK.out]; simp [hl1])
      clear hl1
      go_wp2
      go_ret
      exact ⟨by rw [HF.out]; rfl, HB.out⟩
  have HF : Hid (nodeB x g = false) := Lib.hid (nodeR_else g (by refine ⟨?_, ?_, ?_, ?_, ?_, ?_, ?_, ?_, ?_, ?_, ?_⟩ <;> assumption))
  have e1 : (x.k == 1) = false := beq_eq_false_iff_ne.2 (by omega)
  have e2 : (x.k == 2) = false := beq_eq_false_iff_ne.2 (by omega)
  have e4 : (x.k == 4) = false := beq_eq_false_iff_ne.2 (by omega)
  have e5 : (x.k == 5) = false := beq_eq_false_iff_ne.2 (by omega)
  have e11 : (x.k == 11) = false := beq_eq_false_iff_ne.2 (by omega)
  have e3 : (x.k == 3) = false := beq_eq_false_iff_ne.2 (by omega)
  have e6 : (x.k == 6) = false := beq_eq_false_iff_ne.2 (by omega)
  have e7 : (x.k == 7) = false := beq_eq_false_iff_ne.2 (by omega)
  have e8 : (x.k == 8) = false := beq_eq_false_iff_ne.2 (by omega)
  have e9 : (x.k == 9) = false := beq_eq_false_iff_ne.2 (by omega)
  have e10 : (x.k == 10) = false := beq_eq_false_iff_ne.2 (by omega)
  clear HN HRO HP
  go_wp2
  go_ret
  exact ⟨by rw [HF.out]; rfl, HB.out⟩
end Go.Proofs.YtcpjcepeiplfgaaDoor.C
