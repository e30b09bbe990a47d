/-
  TreeFew: a row, or either, of one is that one; of none nothing stands for it; what was laid stays. Condition: what the listed variables hold.
-/
import Derived.Test.YtcpjcepeiplfgaaDoorTdB
namespace Go.Proofs.YtcpjcepeiplfgaaDoor.C
open Go.RowKit

theorem ksp_one {w W : World} (z : Int) (hW : W = w.alloc (.cells #[.int .i64 z] 3)) : KsP W (· = w.heap.size) (.slice (some ⟨w.heap.size, 0, none⟩) 1 1) [z] := ⟨_, 1, rfl, by rw [hW]; exact int_new w z, by simp [maxLen]⟩
set_option maxRecDepth 100000 in
set_option maxHeartbeats 8000000 in
theorem treeFewWalk (c : Int) (w : World) (hG : Gt w) (hc : (Lit.int .u8 c).wf = true) : Calls Tryd.prog 7 #[.int .u8 c] w fun e w' => e = .returned (.bool true) ∧ Below w.heap.size w w' := by
  obtain ⟨S, hS⟩ : ∃ S, w.heap.size = S := ⟨_, rfl⟩
  rw [hS]
  have hc0 : 0 ≤ c ∧ c ≤ 255 := by simp [Lit.wf, IntKind.min, IntKind.max, IntKind.bits, IntKind.signed] at hc; omega
  have wc : IntKind.i32.wrap c = c := by rw [IntKind.wrap_i32]; omega
  have HG : Hid (∀ w', Below S w w' → Gt w') := Lib.hid (fun w' hb => hG.next hb (by rw [← hS]; exact hG.lt))
  have HNW := Lib.hid (bnew_any w)
  rw [hS] at HNW
  clear hG hS hc hc0
  go_enter Tryd.func7, Tryd.ntmps7
  go_wp2_with (go_at_call 13; refine HNW.out.mono ?_; rintro e w1 ⟨rfl, hbu1, hb1, hs1⟩; have HBU1 := Lib.hid hbu1; have HB1 := Lib.hid hb1; clear hbu1 hb1 hs1)
  clear HNW
  have hc := bleaf_any w1 (fun _ => False) S (.slice none 0 0) ⟨[], 0⟩ { nd 1 with c := c } (.slice none 0 0) (.slice none 0 0) (.slice none 0 0) HBU1.out (nd_plain 1) (fun _ h => h.elim) rfl (by simp [nd]) (by simp [nd]) (by simp) (by decide)
  unfold ndVal at hc
  refine hc.mono ?_
  rintro e w2 h2
  have hb2 := h2.below HBU1.out
  obtain ⟨rfl, v2, hbu2, -, -⟩ := h2
  have HBU2 := Lib.hid hbu2
  have HB2 := Lib.hid (HB1.out.trans hb2)
  clear hc hb2 hbu2 HBU1 HB1
  obtain ⟨t1, ht1⟩ : ∃ t1, t1 = layT ⟨[], 0⟩ { nd 1 with c := c } := ⟨_, rfl⟩
  rw [← ht1] at HBU2
  have HT1 : Hid (t1 = ⟨[{ nd 1 with c := c }], 0⟩) := Lib.hid (by rw [ht1]; rfl)
  clear ht1
  -- a row of one
  obtain ⟨w3, hw3⟩ : ∃ w3, w3 = w2.alloc (.cells #[.int .i64 0] 3) := ⟨_, rfl⟩
  have hb3 : Below w2.heap.size w2 w3 := by rw [hw3]; exact (Below.refl _ _).alloc (Nat.le_refl _) _
  have hj := brow_any w3 _ S v2 t1 [0] _ (HBU2.out.next hb3) (ksp_one 0 hw3) (by rintro b rfl; exact ⟨by rw [hw3]; simp, by have := HBU2.out.1.lt; omega⟩) (by simp) (by rw [HT1.out]; simp) (by rw [HT1.out]; simp)
  have hs2 : S < w2.heap.size := HBU2.out.1.lt
  have HB3 := Lib.hid (HB2.out.trans (hb3.mono (Nat.le_of_lt hs2)))
  have HBU3 := Lib.hid (HBU2.out.next hb3)
  clear hb3 hs2
  go_upto_region 5 with fail
  go_wp2_with fail
  rw [← hw3]
  clear hw3 HBU2 HB2
  refine hj.mono ?_
  rintro e w3' ⟨rfl, rfl⟩
  clear hj
  -- either of one
  obtain ⟨w4, hw4⟩ : ∃ w4, w4 = w3'.alloc (.cells #[.int .i64 0] 3) := ⟨_, rfl⟩
  have hb4 : Below w3'.heap.size w3' w4 := by rw [hw4]; exact (Below.refl _ _).alloc (Nat.le_refl _) _
  have hj := beither_any w4 _ S v2 t1 [0] _ (HBU3.out.next hb4) (ksp_one 0 hw4) (by rintro b rfl; exact ⟨by rw [hw4]; simp, by have := HBU3.out.1.lt; omega⟩) (by simp) (by rw [HT1.out]; simp) (by rw [HT1.out]; simp)
  have hs3 : S < w3'.heap.size := HBU3.out.1.lt
  have HB4 := Lib.hid (HB3.out.trans (hb4.mono (Nat.le_of_lt hs3)))
  have HBU4 := Lib.hid (HBU3.out.next hb4)
  clear hb4 hs3
  go_wp2_with fail
  rw [← hw4]
  clear hw4 HBU3 HB3
  refine hj.mono ?_
  rintro e w4' ⟨rfl, rfl⟩
  clear hj
  -- what was laid till here
  have hc := btree_any w4' S v2 t1 HBU4.out (by rw [HT1.out]; intro x hx; simp at hx; subst hx; simp [nd]) (by rw [HT1.out]; simp)
  go_wp2_with fail
  refine hc.mono ?_
  rintro e w5 ⟨A5, c5, xs5, rfl, -, hb5⟩
  have hs4 : S < w4'.heap.size := HBU4.out.1.lt
  have HB5 : Hid (Below S w w5) := Lib.hid (HB4.out.trans (hb5.mono (Nat.le_of_lt hs4)))
  have HBU5 := Lib.hid (HBU4.out.next hb5)
  clear hc hb5 hs4 HBU4 HB4
  obtain ⟨w6, hw6⟩ : ∃ w6, w6 = w5.alloc (.cells #[.slice A5 t1.ns.length c5, .int .i64 t1.g] 34) := ⟨_, rfl⟩
  have hb6 : Below w5.heap.size w5 w6 := by rw [hw6]; exact (Below.refl _ _).alloc (Nat.le_refl _) _
  have hr6 : Rw w6 w5.heap.size 34 #[.slice A5 t1.ns.length c5, .int .i64 t1.g] := by rw [hw6]; exact heap_alloc_new w5 _
  have hs5 : S < w5.heap.size := HBU5.out.1.lt
  have HB6 : Hid (Below S w w6) := Lib.hid (HB5.out.trans (hb6.mono (Nat.le_of_lt hs5)))
  have HBU6 := Lib.hid (HBU5.out.next hb6)
  have HR6 := Lib.hid hr6
  have HS5 := Lib.hid hs5
  have hrow6 : ∀ b, v2.ownBlock = some b → b ≠ w5.heap.size := fun b hb e => by
    obtain ⟨ys, _, hy, _⟩ := HBU5.out.2
    have := (hy.lt b hb).2
    omega
  have HROW := Lib.hid hrow6
  -- a row of none
  have hj := brow_any w6 (fun _ => False) S v2 t1 [] (.slice none 0 0) HBU6.out ⟨none, 0, rfl, ⟨rfl, fun h => absurd h (by simp)⟩, by simp⟩ (fun _ h => h.elim) (by simp) (by rw [HT1.out]; simp) (by rw [HT1.out]; simp)
  clear hb6 hr6 hs5 hrow6
  go_upto_region 8 with fail
  rw [← hw6]
  clear hw6 HBU5 HB5
  go_wp2_with fail
  refine hj.mono ?_
  rintro e w7 h7
  have h7' : BuTold w6 S v2 t1 (nd 11) e w7 := h7
  have hb7 := h7'.below HBU6.out
  obtain ⟨rfl, v7, hbu7, hf7, -⟩ := h7'
  have HB7 := Lib.hid (HB6.out.trans hb7)
  have HBU7 := Lib.hid hbu7
  have HR7 : Hid (Rw w7 w5.heap.size 34 #[.slice A5 t1.ns.length c5, .int .i64 t1.g]) := Lib.hid ((hf7.block _ HR6.out.lt (fun e => by rcases e with e | e; exact (by have := HS5.out; omega); exact HROW.out _ e rfl)).trans HR6.out)
  have HN1 : Hid (t1.ns.length = 1) := Lib.hid (by rw [HT1.out]; rfl)
  clear hj h7 hb7 hbu7 hf7 HBU6 HB6 HR6
  rw [HN1.out]
  obtain ⟨t2, ht2⟩ : ∃ t2, t2 = layT t1 (nd 11) := ⟨_, rfl⟩
  rw [← ht2] at HBU7
  have HT2 : Hid (t2 = ⟨[{ nd 1 with c := c }, nd 11], 0⟩) := Lib.hid (by rw [ht2, HT1.out]; rfl)
  clear ht2
  -- all that was laid
  have hc := btree_any w7 S v7 t2 HBU7.out (by rw [HT2.out]; intro x hx; simp at hx; rcases hx with rfl | rfl <;> simp [nd]) (by rw [HT2.out]; simp)
  go_wp2_with fail
  refine hc.mono ?_
  rintro e w8 ⟨A8, c8, xs8, rfl, hN8, hb8⟩
  have hs7 : S < w7.heap.size := HBU7.out.1.lt
  have HB8 : Hid (Below S w w8) := Lib.hid (HB7.out.trans (hb8.mono (Nat.le_of_lt hs7)))
  have HR8 := Lib.hid (HR7.out.on hb8 HR7.out.lt)
  have HN8 : Hid (NdsP w8 (fun b => b < w8.heap.size) A8 t2.ns xs8) := Lib.hid (hN8.mono fun b _ hb => hb.2)
  have HS8 : Hid (S < w8.heap.size) := Lib.hid (by have := hb8.size; omega)
  clear hc hb8 hs7 hN8 HBU7 HB7 HR7
  obtain ⟨w9, hw9⟩ : ∃ w9, w9 = w8.alloc (.cells #[.slice A8 t2.ns.length c8, .int .i64 t2.g] 34) := ⟨_, rfl⟩
  have hb9 : Below w8.heap.size w8 w9 := by rw [hw9]; exact (Below.refl _ _).alloc (Nat.le_refl _) _
  have hr9 : Rw w9 w8.heap.size 34 #[.slice A8 t2.ns.length c8, .int .i64 t2.g] := by rw [hw9]; exact heap_alloc_new w8 _
  have HB9 : Hid (Below S w w9) := Lib.hid (HB8.out.trans (hb9.mono (Nat.le_of_lt HS8.out)))
  have HR9 := Lib.hid hr9
  have HN2 : Hid (t2.ns.length = 2) := Lib.hid (by rw [HT2.out]; rfl)
  have a0 : w9.cell? ⟨w5.heap.size, 0, none⟩ = some (.slice A5 1 c5) := by have := (HR8.out.on hb9 HR8.out.lt).cell (i := 0) (v := .slice A5 t1.ns.length c5) rfl; rwa [HN1.out] at this
  have d0 : w9.cell? ⟨w8.heap.size, 0, none⟩ = some (.slice A8 2 c8) := by have := hr9.cell (i := 0) (v := .slice A8 t2.ns.length c8) rfl; rwa [HN2.out] at this
  have HN9 := Lib.hid (HN8.out.keep (below_cells hb9 (fun _ h => h)))
  have hkn := known_any w9 (HG.out _ HB9.out)
  clear hb9 hr9
  go_upto_region 10 with fail
  rw [← hw9]
  clear hw9
  go_wp2_with fail
  refine hkn.mono ?_
  rintro e w10 ⟨rfl, hb10⟩
  have HB10 : Hid (Below S w w10) := Lib.hid (HB9.out.trans (hb10.mono (by have := HR9.out.lt; have := HS8.out; omega)))
  have d0 : w10.cell? ⟨w8.heap.size, 0, none⟩ = some (.slice A8 2 c8) := below_cell hb10 d0
  have hn := HN9.out.keep (below_cells (P := fun b => b < w8.heap.size) hb10 (fun b hb => by have := HR9.out.lt; omega))
  rw [HT2.out] at hn
  obtain ⟨ad, vR, vT, vK, rfl, -, h90, -⟩ := hn.at_ (i := 0) rfl
  obtain ⟨ad', vR', vT', vK', hA, -, h91, -⟩ := hn.at_ (i := 1) rfl
  injection hA with hA
  subst hA
  have q0 := h90.c1
  have q1 := h91.c0
  rw [show ad.add (0 * 9) = ad from by unfold Addr.add; rw [if_pos (by simp)]] at q0
  rw [show 1 * 9 = 9 from rfl] at q1
  have q0' : w10.cell? ⟨ad.block, ad.off + 1, none⟩ = some (.int .i32 c) := q0
  have q1' : w10.cell? ⟨ad.block, ad.off + 9, none⟩ = some (.int .u8 11) := by
    have h : ad.add 9 = ⟨ad.block, ad.off + 9, none⟩ := by unfold Addr.add; rw [if_neg (by decide)]
    rw [← h]
    exact q1
  clear hkn hb10 hn h90 h91 q0 q1
  go_wp2
  go_ret
  exact ⟨by simp, HB10.out⟩
end Go.Proofs.YtcpjcepeiplfgaaDoor.C
