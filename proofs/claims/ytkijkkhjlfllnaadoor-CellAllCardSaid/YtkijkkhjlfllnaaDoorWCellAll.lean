/-
  The walk of the law CellAll: it returns true for all texts within the row's reach, where the library's table stands as it was laid; nothing that was there changes.
-/
import Derived.Test.YtkijkkhjlfllnaaDoorCellU
import Derived.Test.YtkijkkhjlfllnaaDoorWCellOrder
import Derived.Laws.Concat
namespace Go.Proofs.YtkijkkhjlfllnaaDoor.C
open Go.RowKit

theorem end_x (s : ByteArray) : gb (s ++ ByteArray.mk #[120]) ((s ++ ByteArray.mk #[120]).size - 1) < 128 := by
  have h1 : (s ++ ByteArray.mk #[120]).size = s.size + 1 := by rw [size_app]; rfl
  rw [h1, Nat.add_sub_cancel]
  have h2 := gb_right s (ByteArray.mk #[120]) 0
  rw [Nat.add_zero] at h2
  rw [h2]
  decide

set_option maxHeartbeats 8000000 in
theorem cellAllWalk (s t : ByteArray) (w : World)
    (hT : w.cell? ⟨2, 15, none⟩ = some (.int .u8 4)) (_ws : s.size ≤ maxLen) (qs : s.size ≤ 140737488351232) (_wt : t.size ≤ maxLen) (qt : t.size ≤ 140737488351232) :
    Calls Tryd.prog 10 #[.string s, .string t] w fun e w' => e = .returned (.bool true) ∧ Below w.heap.size w w' := by
  obtain ⟨i0, hi, hz0, hz1, hz2⟩ := info_parts info33
  have hTB := World.block_lt_of_cell? w _ hT
  have HT := Lib.hid hT
  clear hT _ws _wt
  by_cases hbig : 300 < s.size + t.size
  · have hb' : (300 : Int) < (s.size : Int) + (t.size : Int) := by omega
    go_enter Tryd.func10, Tryd.ntmps10
    go_wp2_with fail
    refine (known_any w HT.out).mono ?_
    rintro e v1 ⟨rfl, hb1⟩
    go_wp2
    go_ret
    exact ⟨rfl, hb1⟩
  have hs' : ¬ (300 : Int) < (s.size : Int) + (t.size : Int) := by omega
  have hs2 : decide ((300 : Int) < (s.size : Int) + (t.size : Int)) = false := by simpa using hs'
  go_enter Tryd.func10, Tryd.ntmps10
  go_wp2_with fail
  refine (known_any w HT.out).mono ?_
  rintro e v1 ⟨rfl, hb1⟩
  have hz1' := hb1.size
  have hxs : (s ++ ByteArray.mk #[120]).size = s.size + 1 := by rw [size_app]; rfl
  have hal : (s ++ ByteArray.mk #[120] ++ t).size = s.size + 1 + t.size := by rw [size_app, hxs]
  have b1 := ofL_le (s ++ ByteArray.mk #[120])
  have b2 := ofL_le t
  have b3 := ofL_le (s ++ ByteArray.mk #[120] ++ t)
  rw [hxs] at b1
  rw [hal] at b3
  have HXS := Lib.hid hxs
  have HAL := Lib.hid hal
  have HBO := Lib.hid (ofL_both (s ++ ByteArray.mk #[120]) t (end_x s))
  have HRI := Lib.hid (ofL_right (s ++ ByteArray.mk #[120] ++ t))
  clear hxs hal
  go_wp2_with fail
  refine (of_any (s ++ ByteArray.mk #[120]) v1 (by rw [HXS.out]; omega)).mono ?_
  rintro e v2 ⟨V2, rfl, hown2, hb2⟩
  obtain ⟨A2, c2, rfl, hc2, hr2⟩ := own_slice hown2
  clear hown2
  generalize ofL (s ++ ByteArray.mk #[120]) = LU at *
  obtain ⟨n2, hn2⟩ : ∃ n2, LU.length = n2 := ⟨_, rfl⟩
  rw [hn2] at hr2 b1 hc2
  rw [hn2]
  have HU2 := Lib.hid hr2
  have hs2' := hb2.size
  clear hr2 hn2
  go_wp2_with fail
  refine (of_any t v2 (by omega)).mono ?_
  rintro e v3 ⟨V3, rfl, hown3, hb3⟩
  obtain ⟨A3, c3, rfl, hc3, hr3⟩ := own_slice hown3
  clear hown3
  generalize ofL t = LT at *
  obtain ⟨n3, hn3⟩ : ∃ n3, LT.length = n3 := ⟨_, rfl⟩
  rw [hn3] at hr3 b2 hc3
  rw [hn3]
  have HT3 := Lib.hid hr3
  have hs3' := hb3.size
  clear hr3 hn3
  go_wp2_with fail
  refine (of_any (s ++ ByteArray.mk #[120] ++ t) v3 (by rw [HAL.out]; omega)).mono ?_
  rintro e v4 ⟨V4, rfl, hown4, hb4⟩
  obtain ⟨A4, c4, rfl, hc4, hr4⟩ := own_slice hown4
  clear hown4
  generalize ofL (s ++ ByteArray.mk #[120] ++ t) = LA at *
  obtain ⟨n4, hn4⟩ : ∃ n4, LA.length = n4 := ⟨_, rfl⟩
  rw [hn4] at hr4 b3 hc4
  rw [hn4]
  have HA4 := Lib.hid hr4
  have hs4' := hb4.size
  clear hr4 hn4
  have B4 : Below w.heap.size w v4 := ((hb1.trans (hb2.mono hz1')).trans (hb3.mono (by omega))).trans (hb4.mono (by omega))
  have HU4 := Lib.hid ((((HU2.out.below hb3).more hs3').below hb4).more hs4')
  have HT4 := Lib.hid ((HT3.out.below hb4).more hs4')
  clear HU2 HT3
  go_wp2_with fail
  go_loop [8] (fun iv => ∃ i : Nat, i ≤ n4 ∧ iv = .int .i64 i) (fun iv => n4 - (intOf iv).toNat)
  case atStart => exact ⟨0, Nat.zero_le _, rfl⟩
  case round =>
    obtain ⟨i, hi4, rfl⟩ := hrel
    by_cases hlt : i < n4
    · obtain ⟨ad, c, rfl, _, hc, hcell⟩ := HA4.out.at_ hlt
      have HRC := Lib.hid (HRI.out c (List.mem_of_getElem? hc))
      clear hc
      go_wp2_with fail
      refine (right_is c v4 true HRC.out).mono ?_
      rintro e w' ⟨rfl, rfl⟩
      go_wp2
      go_round
      case rel => exact ⟨i + 1, by omega, by go_num⟩
      case measure => simp [intOf]; omega
    · have hle : (n4 : Int) ≤ (s.size : Int) + 1 + (t.size : Int) := by omega
      go_wp2_with (first | (at_builtin; (refine wpList_append_ri _ rfl (.tmp 43) (.tmp 44) 23 rfl v4.heap.size 33 i0 (.int .i32 0) 4 Tryd.underlying23 hi hz0 hz1 hz2 rfl _ 0 [] rfl (World.ownsRow_nil _ _ _ _) .i32 v4.heap.size _ n2 c2 LU rfl HU4.out (by unfold maxLen; omega) (by omega) (by first | exact Nat.le_refl _ | exact hb5.size) ?_); intro u5 v5 hown' hgrow; have hb5 : Below v4.heap.size v4 v5 := (Below.refl _ _).grown hgrow (Nat.le_refl _) (fun k hk => by cases hk); have HO5 := Lib.hid hown'; clear hown' hgrow) | (at_builtin; (refine wpList_append_ri _ rfl (.tmp 46) (.tmp 47) 23 rfl v4.heap.size 33 i0 (.int .i32 0) 4 Tryd.underlying23 hi hz0 hz1 hz2 rfl _ (0 + n2) _ rfl HO5.out .i32 v4.heap.size _ n3 c3 LT rfl (HT4.out.below hb5) (by unfold maxLen; omega) (by omega) (by first | exact Nat.le_refl _ | exact hb5.size) ?_); intro u6 v6 hown' hgrow; have hb6 : Below v4.heap.size v4 v6 := hb5.grown hgrow hb5.size (fun k hk => (HO5.out.lt k hk).1); have HO6 := Lib.hid hown'; clear hown' hgrow))
      have hO : v6.ownsRow v4.heap.size 33 1 u6 (n2 + n3) ((LU ++ LT).map (Value.int .i32)) := by simpa using HO6.out
      obtain ⟨AB, cB, rfl, hBc, hB6⟩ := own_slice hO
      have HB6 := Lib.hid hB6
      clear hB6 hO HO6 HO5
      refine (same_yes v6 v4.heap.size v6.heap.size A4 AB n4 c4 (n2 + n3) cB LA (LU ++ LT) HBO.out (HA4.out.below hb6) HB6.out (by unfold maxLen; omega) (by unfold maxLen; omega)).mono ?_
      rintro e w' ⟨rfl, dq, rfl⟩
      go_wp2
      go_ret
      exact ⟨rfl, below_drewN (B4.trans (hb6.mono B4.size)) _⟩
end Go.Proofs.YtkijkkhjlfllnaaDoor.C
