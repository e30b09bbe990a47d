/-
  appendCell and Encode of layer 2. No condition.
-/
import Derived.Test.YtijlecfjgcohhaaDoorUtfD
namespace Go.Proofs.YtijlecfjgcohhaaDoor.C
open Go.RowKit


theorem info8 : (Tryd.prog.info? 5).map (fun i => (i.zero, i.size, i.bytes)) = some (some (.int .u8 0), 1, 1) := by kernel_rfl

set_option maxHeartbeats 1000000 in
theorem appendCell_any (w : World) (B : Nat) (v : Value) (zs : List Int) (c : Int) (hr : rightB c = true) (hB : B ≤ w.heap.size) (hown : w.ownsRow B 5 1 v zs.length (zs.map (Value.int .u8))) (hlen : zs.length + 4 ≤ 140737488355328) :
    Calls Tryd.prog 46 #[v, .int .i32 c] w fun e w' => ∃ v', e = .returned v' ∧ w'.ownsRow B 5 1 v' (zs ++ encC c).length ((zs ++ encC c).map (Value.int .u8)) ∧ Below B w w' := by
  obtain ⟨i0, hi, hz0, hz1, hz2⟩ := info_parts info8
  have hb : -256 ≤ c ∧ c ≤ 1114111 := by unfold rightB at hr; simp at hr; omega
  have HO := Lib.hid hown
  clear hown hr
  by_cases hc : c < 0
  · have he : encC c = [-1 - c] := by unfold encC; rw [if_pos hc]
    have HE := Lib.hid he
    clear he
    go_enter Tryd.func46, Tryd.ntmps46
    go_wp2_with fail
    refine (byte_yes c w hb.1 hc).mono ?_
    rintro e w' ⟨rfl, rfl⟩
    go_wp2_with (at_builtin; (refine wpList_append_own _ rfl _ _ 22 rfl B 5 i0 (.int .u8 0) 1 1 Tryd.underlying22 hi hz0 hz1 hz2 rfl (by decide) _ _ _ rfl (HO.out.alloc _) _ 1 1 [.int .u8 (-1 - c)] rfl rfl (cell_one_new _ _ _) (by intro u hu; simp at hu; subst hu; rfl) (by unfold maxLen; omega) (by omega) (by simp; omega) ?_); intro v' w3 hown' hgrow _; have HO3 := Lib.hid hown'; have HG3 := Lib.hid hgrow; clear hown' hgrow)
    go_ret
    refine ⟨_, rfl, ?_, (((Below.refl B w).alloc hB _).grown HG3.out (by simp; omega) (fun k hk => (HO.out.lt k hk).1))⟩
    rw [HE.out]
    simpa using HO3.out
  · have he : encC c = Lib.encodeRuneZ c := by unfold encC; rw [if_neg hc]
    have HE := Lib.hid he
    clear he
    go_enter Tryd.func46, Tryd.ntmps46
    go_wp2_with fail
    refine (byte_no c w (by omega)).mono ?_
    rintro e w' ⟨rfl, rfl⟩
    go_wp2_with fail
    refine (Tryd.utf8_AppendRune_plain B v zs.length (zs.map (Value.int .u8)) c (by omega) (by omega) w HO.out hlen hB).mono ?_
    rintro e w1 ⟨v', rfl, hown1, o, hg⟩
    have HO1 := Lib.hid hown1
    have HG := Lib.hid hg
    clear hown1 hg
    go_wp2
    go_ret
    refine ⟨_, rfl, ?_, (((Below.refl B w).alloc hB _).grown HG.out (by simp; omega) (fun k hk => (HO.out.lt k hk).1))⟩
    rw [HE.out]
    have := HO1.out
    unfold Lib.runeCells at this
    simpa using this

/-- what Encode answers -/
def EncTold (xs : List Int) (w : World) (e : Ending) (w' : World) : Prop :=
  Below w.heap.size w w' ∧ ((xs.all rightB = true ∧ ∃ v, e = .returned (.tuple #[v, .int .u16 0]) ∧ w'.ownsRow w.heap.size 5 1 v (encL xs).length ((encL xs).map (Value.int .u8))) ∨
    (xs.all rightB = false ∧ e = .returned (.tuple #[.slice none 0 0, .int .u16 10])))
theorem take_right {xs : List Int} {k : Nat} {c : Int} (h : (xs.take k).all rightB = true) (hc : xs[k]? = some c) (hr : rightB c = true) : (xs.take (k + 1)).all rightB = true := by
  rw [take_snoc hc, List.all_append, h]
  simp [hr]
theorem not_right {xs : List Int} {k : Nat} {c : Int} (hc : xs[k]? = some c) (hr : rightB c = false) : xs.all rightB = false := by
  rw [List.all_eq_false]
  exact ⟨c, List.mem_of_getElem? hc, by simp [hr]⟩

set_option maxHeartbeats 2000000 in
theorem encode_told (w : World) (B : Nat) (A : Option Addr) (n c : Nat) (xs : List Int) (hx : RI .i32 w B A n xs) (hB : B ≤ w.heap.size) (hn : n ≤ 1073741824) :
    Calls Tryd.prog 30 #[.slice A n c] w (EncTold xs w) := by
  obtain ⟨i0, hi, hz0, hz1, hz2⟩ := info_parts info8
  have HX := Lib.hid hx
  clear hx
  go_enter Tryd.func30, Tryd.ntmps30
  go_wp2_with (at_make; (refine wpList_make_own _ rfl _ _ 22 rfl w.heap.size 5 i0 (.int .u8 0) 1 Tryd.underlying22 hi hz0 hz1 .i64 .i64 _ n rfl rfl (by omega) (by rw [hz2]; omega) (by unfold maxLen; omega) (by omega) ?_); intro w2 hown hgrow; have hb2 : Below w.heap.size w w2 := (Below.refl _ _).grown hgrow (by omega) (fun _ h => by cases h); clear hgrow; have HO := Lib.hid hown; clear hown)
  go_loopw [4, 12] (fun v i wr => ∃ k : Nat, k ≤ n ∧ i = .int .i64 k ∧ Hid ((xs.take k).all rightB = true) ∧ Hid (wr.ownsRow w.heap.size 5 1 v (encL (xs.take k)).length ((encL (xs.take k)).map (Value.int .u8))) ∧ Below w.heap.size w wr) (fun _ i _ => n - (intOf i).toNat)
  case atStart => exact ⟨0, Nat.zero_le _, rfl, rfl, HO.out, hb2⟩
  case round =>
    obtain ⟨k, hk, rfl, HA, HW, hbr⟩ := hrel
    have hsz := hbr.size
    by_cases hlt : k < n
    · obtain ⟨ad, u, rfl, hbl, hu, hcell⟩ := HX.out.at_ hlt
      have hcr : wr.cell? (ad.add k) = some (.int .i32 u) := (hbr.cell (p := ad.add k) (by rw [block_of_add]; omega)).trans hcell
      have HU := Lib.hid hu
      clear hu hcell
      cases hru : rightB u with
      | true =>
        have HRU := Lib.hid hru
        clear hru
        have hle := (encL_len (xs.take k)).2
        have hlk : (xs.take k).length ≤ k := List.length_take_le _ _
        go_wp2_with fail
        refine (right_is u wr true HRU.out).mono ?_
        rintro e w' ⟨rfl, rfl⟩
        go_wp2_with fail
        refine (appendCell_any wr w.heap.size _ (encL (xs.take k)) u HRU.out hsz HW.out (by omega)).mono ?_
        rintro e w1 ⟨v1, rfl, hown1, hb1⟩
        have hown2 : Hid (w1.ownsRow w.heap.size 5 1 v1 (encL (xs.take (k + 1))).length ((encL (xs.take (k + 1))).map (Value.int .u8))) := by
          rw [take_snoc HU.out, encL_snoc]
          exact hown1
        clear hown1
        have hb3 := hbr.trans hb1
        go_wp2
        go_roundw
        case rel => exact ⟨k + 1, by omega, by go_num, take_right HA.out HU.out HRU.out, hown2, hb3⟩
        case measure => simp [intOf]; omega
      | false =>
        have HRU := Lib.hid hru
        clear hru
        go_wp2_with fail
        refine (right_is u wr false HRU.out).mono ?_
        rintro e w' ⟨rfl, rfl⟩
        go_wp2
        go_ret2
        exact ⟨hbr, .inr ⟨not_right HU.out HRU.out, rfl⟩⟩
    · have hkn : xs.take k = xs := List.take_of_length_le (by rw [HX.out.len]; omega)
      have HK := Lib.hid hkn
      clear hkn
      go_wp2
      go_ret2
      refine ⟨hbr, .inl ⟨?_, _, rfl, ?_⟩⟩
      · have := HA.out
        rwa [HK.out] at this
      · have := HW.out
        rwa [HK.out] at this
theorem encode_yes (w : World) (B : Nat) (A : Option Addr) (n c : Nat) (xs : List Int) (hx : RI .i32 w B A n xs) (hB : B ≤ w.heap.size) (hn : n ≤ 1073741824) (ha : xs.all rightB = true) :
    Calls Tryd.prog 30 #[.slice A n c] w fun e w' => ∃ v, e = .returned (.tuple #[v, .int .u16 0]) ∧ w'.ownsRow w.heap.size 5 1 v (encL xs).length ((encL xs).map (Value.int .u8)) ∧ Below w.heap.size w w' := by
  refine (encode_told w B A n c xs hx hB hn).mono ?_
  rintro e w' ⟨hb, ⟨_, v, rfl, ho⟩ | ⟨h, _⟩⟩
  · exact ⟨v, rfl, ho, hb⟩
  · rw [ha] at h; cases h
theorem encode_no (w : World) (B : Nat) (A : Option Addr) (n c : Nat) (xs : List Int) (hx : RI .i32 w B A n xs) (hB : B ≤ w.heap.size) (hn : n ≤ 1073741824) (ha : xs.all rightB = false) :
    Calls Tryd.prog 30 #[.slice A n c] w fun e w' => e = .returned (.tuple #[.slice none 0 0, .int .u16 10]) ∧ Below w.heap.size w w' := by
  refine (encode_told w B A n c xs hx hB hn).mono ?_
  rintro e w' ⟨hb, ⟨h, _⟩ | ⟨_, rfl⟩⟩
  · rw [ha] at h; cases h
  · exact ⟨rfl, hb⟩

/-- are two rows alike? -/
def sameB (xs ys : List Int) : Bool := decide (xs = ys)
theorem prefix_step {xs ys : List Int} {k : Nat} {a : Int} (h : xs.take k = ys.take k) (hx : xs[k]? = some a) (hy : ys[k]? = some a) : xs.take (k + 1) = ys.take (k + 1) := by
  rw [take_snoc hx, take_snoc hy, h]
end Go.Proofs.YtijlecfjgcohhaaDoor.C
