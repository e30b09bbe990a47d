/-
  The walk of Utf16Odd: for every choice of bytes, every byte and both orders it returns true; nothing that was there changes.
-/
import Derived.Test.YtbocibecjndooaaUcsJ
import Derived.Deep.RegionWith
namespace Go.Proofs.Ytbocibecjndooaa.C
open Go.RowKit

set_option maxHeartbeats 4000000 in
theorem utf16OddWalk (a0 : Option Addr) (len0 cap0 : Nat) (z0 : List Int) (b : Int) (g : Bool) (w : World) (w0 : L.IsRow .u8 w a0 len0 cap0 z0) (wb : (Lit.int .u8 b).wf = true) :
    Calls Try.prog 3 #[.slice a0 len0 cap0, .int .u8 b, .bool g] w fun e w' => e = .returned (.bool true) ∧ Below w.heap.size w w' := by
  obtain ⟨b0, b1⟩ := bounds_u8 wb
  obtain ⟨i0, hi, hz0, hz1, hz2⟩ := info_parts info8
  have HW0 := Lib.hid w0
  clear w0 wb
  go_enter Try.func3, Try.ntmps3
  go_wp2_with fail
  refine (bytes_any w w.heap.size a0 len0 cap0 (z0.take len0) (RI.of_row HW0.out) (Nat.le_refl _) (Nat.le_trans (row_len HW0.out).1 (row_len HW0.out).2) (row_u8 HW0.out)).mono ?_
  rintro e w1 ⟨v1, rfl, hown1, hb1⟩
  have hz := bytesL_bd (z0.take len0)
  have hn60 := bytesL_len (z0.take len0)
  generalize bytesL (z0.take len0) = zs at *
  have hs1 := hb1.size
  obtain ⟨A, c, rfl, hnc, hcm, hr⟩ := own_slice2 hown1
  generalize hl : zs.length = n at *
  obtain ⟨h, hh, hhn⟩ : ∃ h : Nat, (n : Int) / 2 = (h : Int) ∧ h * 2 ≤ n := ⟨n / 2, by omega, by omega⟩
  obtain ⟨m, hm, hmn, hme⟩ : ∃ m : Nat, (h : Int) * 2 = (m : Int) ∧ m ≤ n ∧ m % 2 = 0 := ⟨h * 2, by omega, by omega, by omega⟩
  have hof := own_front hown1 hmn
  rw [← List.map_take] at hof
  have HOF := Lib.hid hof
  have HF := Lib.hid (hr.front hmn)
  have HZ := Lib.hid hz
  have HL := Lib.hid hl
  have hlt := fun k hk => (hown1.lt k hk).2
  have HLT := Lib.hid hlt
  unfold maxLen at hcm
  clear hr hof hz hl hown1 hlt
  go_wp2_with fail
  with_reducible refine (decode_any g w1 w1.heap.size A m c (zs.take m) HF.out (Nat.le_refl _) (bd_take HZ.out m) (by omega) (by omega) (by unfold maxLen; omega)).mono ?_
  rintro e w2 ⟨v2, rfl, hown2, hb2⟩
  have hs2 := hb2.size
  obtain ⟨A2, c2, rfl, h2c, h2m, hr2⟩ := own_slice2 hown2
  have HO2 := Lib.hid hown2
  have hd2 := dec_len g (zs.take m)
  have htl : (zs.take m).length = m := by rw [List.length_take, HL.out]; omega
  have HTL := Lib.hid htl
  rw [htl] at hd2
  generalize hln : (dec g (zs.take m)).length = n2 at *
  have HLN := Lib.hid hln
  have HOX := Lib.hid (own_keep HOF.out hb2)
  clear hown2 hr2 hln HOF htl
  go_wp2_with (at_builtin; (refine wpList_append_own _ rfl _ _ 22 rfl w.heap.size 5 i0 (.int .u8 0) 1 1 Try.underlying22 hi hz0 hz1 hz2 rfl (by decide) _ _ _ rfl (HOX.out.alloc _) _ 1 1 [.int .u8 b] rfl rfl (cell_one_new _ _ _) (by intro u hu; simp at hu; subst hu; rfl) (by unfold maxLen; omega) (by omega) (by simp; omega) ?_); intro v3 w3 hown3 hgrow3 _; have HO3 := Lib.hid hown3; have HG3 := Lib.hid hgrow3; clear hown3 hgrow3)
  have hg3 : (w2.alloc (.cells #[.int .u8 b] 5)).grownBy w3 (Value.slice A m c).ownBlock := HG3.out
  have hne : (Value.slice A2 n2 c2).ownBlock = none ∨ (Value.slice A2 n2 c2).ownBlock ≠ (Value.slice A m c).ownBlock := by
    rcases hk : (Value.slice A2 n2 c2).ownBlock with _ | k2
    · exact .inl rfl
    · refine .inr fun he => ?_
      have h1 := (HO2.out.lt k2 hk).1
      have h2 := HLT.out k2 (by rw [he]; cases A <;> rfl)
      omega
  have hk2 := (HO2.out.alloc (.cells #[.int .u8 b] 5)).kept hg3 hne
  have B2 : Below w.heap.size w w2 := hb1.trans (hb2.mono hs1)
  have B3 : Below w.heap.size w w3 := (B2.alloc (by omega) _).grown hg3 (by simp; omega) (fun k hk => (HOX.out.lt k hk).1)
  have hs3 := B3.size
  have ho3 : w3.ownsRow w.heap.size 5 1 v3 (m + 1) ((zs.take m ++ [b]).map (Value.int .u8)) := by simpa using HO3.out
  have hr2 : RI .i32 w3 w3.heap.size A2 n2 (dec g (zs.take m)) := RI.of_own hk2
  have HR2 := Lib.hid hr2
  clear HO3 HG3 hg3 hne hk2 HO2 HOX hr2
  obtain ⟨A3, c3, rfl, h3c, h3m, hr3⟩ := own_slice2 ho3
  have HR3 := Lib.hid hr3
  clear ho3 hr3
  go_wp2_with fail
  with_reducible refine (decode_any g w3 w3.heap.size A3 (m + 1) c3 (zs.take m ++ [b]) HR3.out (Nat.le_refl _) (bd_app (bd_take HZ.out m) (bd_cons ⟨b0, b1⟩ bd_nil)) h3c (by omega) h3m).mono ?_
  rintro e w4 ⟨v4, rfl, hown4, hb4⟩
  rw [dec_odd g b (by rw [HTL.out]; exact hme), List.length_append, HLN.out] at hown4
  obtain ⟨g4, c4, rfl, hg4, hg4'⟩ := hown4.form (by simp)
  have hs4 := hb4.size
  have B4 : Below w.heap.size w w4 := B3.trans (hb4.mono (by omega))
  obtain ⟨h4c, h4m⟩ := own_cap hown4
  have hr4 : RI .i32 w4 w4.heap.size (some ⟨g4, 0, none⟩) (n2 + 1) (dec g (zs.take m) ++ [-1 - b]) := RI.of_own hown4
  have hf4 : RI .i32 w4 w4.heap.size (some ⟨g4, 0, none⟩) n2 (dec g (zs.take m)) := by
    have := hr4.front (m := n2) (by omega)
    rwa [List.take_append_of_le_length (by rw [HLN.out]; exact Nat.le_refl _), List.take_of_length_le (by rw [HLN.out]; exact Nat.le_refl _)] at this
  have hcl : w4.cell? ⟨g4, n2, none⟩ = some (.int .i32 (-1 - b)) := by
    have := hown4.cells (g := g4) rfl n2 (.int .i32 (-1 - b)) (by simp [HLN.out])
    rwa [add_plain, Nat.zero_add] at this
  have hr2 : RI .i32 w4 w3.heap.size A2 n2 (dec g (zs.take m)) := HR2.out.below hb4
  have HF4 := Lib.hid hf4
  have HR2' := Lib.hid hr2
  unfold maxLen at h4m h2m
  clear hown4 hr4 hf4 hr2 HR2 hh hm
  generalize hn4 : n2 + [-1 - b].length = n4 at *
  have hn4' : n4 = n2 + 1 := by rw [← hn4]; rfl
  have t1 : ((n4 : Int) != (n2 : Int) + 1) = false := by simp; omega
  have t2 : (n2 : Int) < (n4 : Int) := by omega
  have t3 : ((n2 : Int) ≤ (c4 : Int)) := by omega
  clear hn4 hn4'
  go_wp2_with fail
  go_region_with (first
    | (go_at_call 12; refine (known_drew w4).mono ?_; rintro e w5 ⟨rfl, hb5⟩; have hs5 := hb5.size; have hcl5 : w5.cell? ⟨g4, n2, none⟩ = some (.int .i32 (-1 - b)) := (hb5.cell (p := ⟨g4, n2, none⟩) hg4').trans hcl; have HF5 := Lib.hid (HF4.out.below hb5); have HR5 := Lib.hid (HR2'.out.on hb5 hs4); have B5 : Below w.heap.size w w5 := B4.trans (hb5.mono (by omega)))
    | (go_at_call 13; refine (same_is w5 w4.heap.size w3.heap.size (some ⟨g4, 0, none⟩) A2 n2 c4 n2 c2 _ _ true (by simp [sameB]) HF5.out HR5.out (by unfold maxLen; omega) (by unfold maxLen; omega)).mono ?_; rintro e w6 ⟨rfl, hb6⟩; have hcl6 : w6.cell? ⟨g4, n2, none⟩ = some (.int .i32 (-1 - b)) := (hb6.cell (p := ⟨g4, n2, none⟩) (by show g4 < _; omega)).trans hcl5; have B6 : Below w.heap.size w w6 := B5.trans (hb6.mono (by have := B5.size; omega)))
    | (go_at_call 14; refine (refEsc b _ b0 b1).mono ?_; rintro e w' ⟨rfl, rfl⟩))
  all_goals
    go_wp2
    go_ret
    exact ⟨rfl, B6⟩
end Go.Proofs.Ytbocibecjndooaa.C
