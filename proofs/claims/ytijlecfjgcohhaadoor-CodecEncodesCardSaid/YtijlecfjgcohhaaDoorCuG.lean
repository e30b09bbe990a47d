/-
  The document's bytes and Encode of layer 3.
-/
import Derived.Test.YtijlecfjgcohhaaDoorCuF
namespace Go.Proofs.YtijlecfjgcohhaaDoor.C.U
open Go.RowKit


set_option maxRecDepth 100000 in
set_option maxHeartbeats 400000 in
theorem refBytes_any (g : Bool) (c x y : Int) (w : World) (c0 : 0 ≤ c) (c1 : c ≤ 65535) (h : un g c = [x, y]) :
    Calls Tryd.prog 59 #[.int .i32 c, .bool g] w fun e w' => e = .returned (.slice (some ⟨w.heap.size, 0, none⟩) 2 2) ∧ w' = w.alloc (.cells #[.int .u8 x, .int .u8 y] 5) := by
  cases g
  · rw [un_false] at h
    injection h with h1 h2
    injection h2 with h2 _
    subst h1 h2
    go_enter Tryd.func59, Tryd.ntmps59
    go_wp2
    go_ret
    exact ⟨rfl, rfl⟩
  · rw [un_true] at h
    injection h with h1 h2
    injection h2 with h2 _
    subst h1 h2
    go_enter Tryd.func59, Tryd.ntmps59
    go_wp2
    go_ret
    exact ⟨rfl, rfl⟩

/-- what the document's Encode answers -/
def REncTold (g : Bool) (xs : List Int) (w : World) (e : Ending) (w' : World) : Prop :=
  Below w.heap.size w w' ∧ ((xs.all rightB = true ∧ ∃ v, e = .returned (.tuple #[v, .int .i64 0]) ∧ w'.ownsRow w.heap.size 5 1 v (encL g xs).length ((encL g xs).map (Value.int .u8))) ∨
    (xs.all rightB = false ∧ e = .returned (.tuple #[.slice none 0 0, .int .i64 10])))

set_option maxRecDepth 100000 in
set_option maxHeartbeats 4000000 in
theorem refEncode_told (g : Bool) (w : World) (B : Nat) (A : Option Addr) (n c : Nat) (xs : List Int) (hx : RI .i32 w B A n xs) (hB : B ≤ w.heap.size) (hn : n ≤ 1073741824) :
    Calls Tryd.prog 39 #[.slice A n c, .bool g] w (REncTold g xs w) := by
  obtain ⟨i0, hi, hz0, hz1, hz2⟩ := info_parts info8
  have HX := Lib.hid hx
  clear hx
  go_enter Tryd.func39, Tryd.ntmps39
  go_wp2
  go_loopw [6, 7] (fun v i wr => ∃ k : Nat, k ≤ n ∧ i = .int .i64 k ∧ Hid ((xs.take k).all rightB = true) ∧ Hid (wr.ownsRow w.heap.size 5 1 v (encL g (xs.take k)).length ((encL g (xs.take k)).map (Value.int .u8))) ∧ Below w.heap.size w wr) (fun _ i _ => n - (intOf i).toNat)
  case atStart => exact ⟨0, Nat.zero_le _, rfl, rfl, World.ownsRow_nil _ _ _ _, Below.refl _ _⟩
  case round =>
    obtain ⟨k, hk, rfl, HA, HW, hbr⟩ := hrel
    have hsz := hbr.size
    by_cases hlt : k < n
    · obtain ⟨ad, u, rfl, hbl, hu, hcell⟩ := HX.out.at_ hlt
      have hcr : wr.cell? (ad.add k) = some (.int .i32 u) := (hbr.cell (p := ad.add k) (by rw [block_of_add]; omega)).trans hcell
      have HU := Lib.hid hu
      clear hu hcell
      cases hru : rightB u with
      | true =>
        have hle := (encL_len g (xs.take k)).2
        have hlk : (xs.take k).length ≤ k := List.length_take_le _ _
        have hub : -256 ≤ u ∧ u ≤ 1114111 := by unfold rightB at hru; simp at hru; omega
        obtain ⟨hub, hub2⟩ := hub
        have HRU := Lib.hid hru
        clear hru
        generalize hel : (encL g (xs.take k)).length = el at *
        have HEL := Lib.hid hel
        clear hel
        by_cases hneg : u < 0
        · have he : encC g u = [-1 - u] := encC_esc g hneg
          have HE := Lib.hid he
          clear he
          have t1 : decide (65536 ≤ u) = false := by simp; omega
          go_wp2_with fail
          with_reducible refine (refRight_is u wr true HRU.out).mono ?_
          rintro e w' ⟨rfl, rfl⟩
          go_wp2_with fail
          with_reducible refine (refByte_yes u wr hub hneg).mono ?_
          rintro e w' ⟨rfl, rfl⟩
          go_wp2_with (at_builtin; (refine wpList_append_ri _ rfl (.tmp 59) (.tmp 60) 22 rfl w.heap.size 5 i0 (.int .u8 0) 1 Tryd.underlying22 hi hz0 hz1 hz2 rfl _ _ _ rfl (HW.out.alloc _) .u8 _ _ 1 1 _ rfl (RI.new _ .u8 [-1 - u] _) (by unfold maxLen; omega) (by omega) (by simp; omega) ?_); intro v' w3 hown' hgrow; have HO3 := Lib.hid hown'; have HG3 := Lib.hid hgrow; clear hown' hgrow)
          have hown2 : Hid (w3.ownsRow w.heap.size 5 1 v' (encL g (xs.take (k + 1))).length ((encL g (xs.take (k + 1))).map (Value.int .u8))) := by
            rw [take_snoc HU.out, encL_snoc, HE.out, List.length_append, HEL.out]
            simpa [Hid] using HO3.out
          go_roundw
          case rel => exact ⟨k + 1, by omega, by go_num, take_right HA.out HU.out HRU.out, hown2, (hbr.alloc (by omega) _).grown HG3.out (by simp; omega) (fun k hk => (HW.out.lt k hk).1)⟩
          case measure => simp [intOf]; omega
        by_cases hlow : u < 65536
        · obtain ⟨x, y, hxy, _⟩ := num_un g u
          have he : encC g u = [x, y] := (encC_low g (by omega) hlow).trans hxy
          have HE := Lib.hid he
          have HXY := Lib.hid hxy
          clear he hxy
          have t1 : decide (65536 ≤ u) = false := by simp; omega
          go_wp2_with fail
          with_reducible refine (refRight_is u wr true HRU.out).mono ?_
          rintro e w' ⟨rfl, rfl⟩
          go_wp2_with fail
          with_reducible refine (refByte_no u wr (by omega)).mono ?_
          rintro e w' ⟨rfl, rfl⟩
          go_wp2_with fail
          refine (refBytes_any g u x y _ (by omega) (by omega) HXY.out).mono ?_
          rintro e w1 ⟨rfl, hw1⟩
          have hsw : (wr.alloc (.cells #[.int .u8 0] 5)).heap.size = wr.heap.size + 1 := by simp
          have hr1 : RI .u8 w1 (wr.heap.size + 1 + 1) (some ⟨wr.heap.size + 1, 0, none⟩) 2 [x, y] := by
            have := RI.new (wr.alloc (.cells #[.int .u8 0] 5)) .u8 [x, y] 5
            rw [hsw] at this
            rw [hw1]
            exact this
          have hb1 : Below wr.heap.size wr w1 := by rw [hw1]; exact ((Below.refl _ _).alloc (Nat.le_refl _) _).alloc (by simp) _
          have hs1 := hb1.size
          have HR1 := Lib.hid hr1
          have HOW := Lib.hid (own_keep HW.out hb1)
          have hbW : Below w.heap.size w w1 := hbr.trans (hb1.mono hsz)
          clear hw1 hr1 hsw
          go_wp2_with (at_builtin; (refine wpList_append_ri _ rfl (.tmp 59) (.tmp 60) 22 rfl w.heap.size 5 i0 (.int .u8 0) 1 Tryd.underlying22 hi hz0 hz1 hz2 rfl _ _ _ rfl HOW.out .u8 _ _ 2 2 _ rfl HR1.out (by unfold maxLen; omega) (by omega) (by omega) ?_); intro v' w3 hown' hgrow; have HO3 := Lib.hid hown'; have HG3 := Lib.hid hgrow; clear hown' hgrow)
          have hown2 : Hid (w3.ownsRow w.heap.size 5 1 v' (encL g (xs.take (k + 1))).length ((encL g (xs.take (k + 1))).map (Value.int .u8))) := by
            rw [take_snoc HU.out, encL_snoc, HE.out, List.length_append, HEL.out]
            simpa [Hid] using HO3.out
          go_roundw
          case rel => exact ⟨k + 1, by omega, by go_num, take_right HA.out HU.out HRU.out, hown2, hbW.grown HG3.out (by omega) (fun k hk => (HOW.out.lt k hk).1)⟩
          case measure => simp [intOf]; omega
        · obtain ⟨x, y, hxy, _⟩ := num_un g (55296 + (u - 65536) / 1024)
          obtain ⟨x', y', hxy', _⟩ := num_un g (56320 + (u - 65536) % 1024)
          have he : encC g u = [x, y, x', y'] := by rw [encC_pair g (by omega), hxy, hxy']; rfl
          have HE := Lib.hid he
          have HXY := Lib.hid hxy
          have HXY' := Lib.hid hxy'
          clear he hxy hxy'
          have t1 : decide (u < 65536) = false := by simp; omega
          have t2 : 65536 ≤ u := by omega
          go_wp2_with fail
          with_reducible refine (refRight_is u wr true HRU.out).mono ?_
          rintro e w' ⟨rfl, rfl⟩
          go_wp2_with fail
          with_reducible refine (refByte_no u wr (by omega)).mono ?_
          rintro e w' ⟨rfl, rfl⟩
          go_wp2_with fail
          refine (refBytes_any g (55296 + (u - 65536) / 1024) x y _ (by omega) (by omega) HXY.out).mono ?_
          rintro e w1 ⟨rfl, hw1⟩
          have hsw : (wr.alloc (.cells #[.int .u8 0] 5)).heap.size = wr.heap.size + 1 := by simp
          have ho1 : w1.ownsRow wr.heap.size 5 1 (.slice (some ⟨wr.heap.size + 1, 0, none⟩) 2 2) 2 ([x, y].map (Value.int .u8)) := by
            have := World.ownsRow_lit (base := wr.heap.size) (e := 5) (size := 1) (wr.alloc (.cells #[.int .u8 0] 5)) #[.int .u8 x, .int .u8 y] 2 (by simp) (by decide) rfl
            rw [hsw] at this
            rw [hw1]
            exact this
          have hb1 : Below wr.heap.size wr w1 := by rw [hw1]; exact ((Below.refl _ _).alloc (Nat.le_refl _) _).alloc (by simp) _
          have hs1 := hb1.size
          have HO1 := Lib.hid ho1
          clear hw1 ho1 hsw
          go_wp2_with fail
          refine (refBytes_any g (56320 + (u - 65536) % 1024) x' y' _ (by omega) (by omega) HXY'.out).mono ?_
          rintro e w2 ⟨rfl, hw2⟩
          have hr2 : RI .u8 w2 (w1.heap.size + 1) (some ⟨w1.heap.size, 0, none⟩) 2 [x', y'] := by rw [hw2]; exact RI.new w1 .u8 [x', y'] _
          have ho2 : w2.ownsRow wr.heap.size 5 1 (.slice (some ⟨wr.heap.size + 1, 0, none⟩) 2 2) 2 ([x, y].map (Value.int .u8)) := by rw [hw2]; exact HO1.out.alloc _
          have hb2 : Below wr.heap.size wr w2 := by rw [hw2]; exact hb1.alloc hs1 _
          have hs2 := hb2.size
          have HR2 := Lib.hid hr2
          have HO2 := Lib.hid ho2
          clear hw2 hr2 ho2 HO1
          go_wp2_with (at_builtin; first
            | ((refine wpList_append_ri _ rfl (.tmp 56) (.tmp 57) 22 rfl wr.heap.size 5 i0 (.int .u8 0) 1 Tryd.underlying22 hi hz0 hz1 hz2 rfl _ _ _ rfl HO2.out .u8 _ _ 2 2 _ rfl HR2.out (by decide) (by decide) (by omega) ?_); intro v4 w4 hown4 hgrow4; have hb4 : Below wr.heap.size wr w4 := hb2.grown hgrow4 hs2 (fun k hk => (HO2.out.lt k hk).1); have hs4 := hb4.size; (obtain ⟨A4, c4, rfl, _, hr4⟩ := own_slice (ki := .u8) (zs := [x, y] ++ [x', y']) (by simpa using hown4)); have HR4 := Lib.hid hr4; have HOW := Lib.hid (own_keep HW.out hb4); have hbW : Below w.heap.size w w4 := hbr.trans (hb4.mono hsz); clear hown4 hgrow4 hr4)
            | ((refine wpList_append_ri _ rfl (.tmp 59) (.tmp 60) 22 rfl w.heap.size 5 i0 (.int .u8 0) 1 Tryd.underlying22 hi hz0 hz1 hz2 rfl _ _ _ rfl HOW.out .u8 _ _ _ _ _ rfl HR4.out (by unfold maxLen; omega) (by omega) (by omega) ?_); intro v' w3 hown' hgrow; have HO3 := Lib.hid hown'; have HG3 := Lib.hid hgrow; clear hown' hgrow))
          have hown2 : Hid (w3.ownsRow w.heap.size 5 1 v' (encL g (xs.take (k + 1))).length ((encL g (xs.take (k + 1))).map (Value.int .u8))) := by
            rw [take_snoc HU.out, encL_snoc, HE.out, List.length_append, HEL.out]
            simpa [Hid] using HO3.out
          go_roundw
          case rel => exact ⟨k + 1, by omega, by go_num, take_right HA.out HU.out HRU.out, hown2, hbW.grown HG3.out (by omega) (fun k hk => (HOW.out.lt k hk).1)⟩
          case measure => simp [intOf]; omega
      | false =>
        have HRU := Lib.hid hru
        clear hru
        go_wp2_with fail
        with_reducible refine (refRight_is u wr false HRU.out).mono ?_
        rintro e w' ⟨rfl, rfl⟩
        go_wp2
        go_ret2
        exact ⟨hbr, .inr ⟨not_right HU.out HRU.out, rfl⟩⟩
    · have hkn : xs.take k = xs := List.take_of_length_le (by rw [HX.out.len]; omega)
      have HK := Lib.hid hkn
      clear hkn
      go_wp2
      go_ret2
      refine ⟨hbr, .inl ⟨?_, _, rfl, ?_⟩⟩
      · have := HA.out
        rwa [HK.out] at this
      · have := HW.out
        rwa [HK.out] at this
theorem refEncode_yes (g : Bool) (w : World) (B : Nat) (A : Option Addr) (n c : Nat) (xs : List Int) (hx : RI .i32 w B A n xs) (hB : B ≤ w.heap.size) (hn : n ≤ 1073741824) (ha : xs.all rightB = true) :
    Calls Tryd.prog 39 #[.slice A n c, .bool g] w fun e w' => ∃ v, e = .returned (.tuple #[v, .int .i64 0]) ∧ w'.ownsRow w.heap.size 5 1 v (encL g xs).length ((encL g xs).map (Value.int .u8)) ∧ Below w.heap.size w w' := by
  refine (refEncode_told g w B A n c xs hx hB hn).mono ?_
  rintro e w' ⟨hb, ⟨_, v, rfl, ho⟩ | ⟨h, _⟩⟩
  · exact ⟨v, rfl, ho, hb⟩
  · rw [ha] at h; cases h
theorem refEncode_no (g : Bool) (w : World) (B : Nat) (A : Option Addr) (n c : Nat) (xs : List Int) (hx : RI .i32 w B A n xs) (hB : B ≤ w.heap.size) (hn : n ≤ 1073741824) (ha : xs.all rightB = false) :
    Calls Tryd.prog 39 #[.slice A n c, .bool g] w fun e w' => e = .returned (.tuple #[.slice none 0 0, .int .i64 10]) ∧ Below w.heap.size w w' := by
  refine (refEncode_told g w B A n c xs hx hB hn).mono ?_
  rintro e w' ⟨hb, ⟨h, _⟩ | ⟨_, rfl⟩⟩
  · rw [ha] at h; cases h
  · exact ⟨rfl, hb⟩
end Go.Proofs.YtijlecfjgcohhaaDoor.C.U
