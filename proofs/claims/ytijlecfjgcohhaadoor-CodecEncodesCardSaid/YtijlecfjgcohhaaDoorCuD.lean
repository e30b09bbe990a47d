/-
  appendCell and Encode of layer 3.
-/
import Derived.Test.YtijlecfjgcohhaaDoorCuC
namespace Go.Proofs.YtijlecfjgcohhaaDoor.C.U
open Go.RowKit

theorem cells_new (w : World) (o : Obj) (l : List Value) (t : TypeId) : ∀ j u, l[j]? = some u → ((w.alloc o).alloc (.cells l.toArray t)).cell? ((⟨w.heap.size + 1, 0, none⟩ : Addr).add j) = some u := by
  intro j u hj
  have e : (⟨w.heap.size + 1, 0, none⟩ : Addr) = ⟨(w.alloc o).heap.size, 0, none⟩ := by simp
  rw [e, add_plain, Nat.zero_add, World.cell?_alloc_new]
  simpa using hj
theorem below_one {B : Nat} {a w w1 : World} (h : Below B a w) (hB : B ≤ w.heap.size) (h1 : ∃ o, w1 = w.alloc o) : Below B a w1 := by
  obtain ⟨o, rfl⟩ := h1
  exact h.alloc hB o
theorem and_low (r : Int) (h0 : 0 ≤ r) (h1 : r ≤ 1048575) : bits .and .i32 r 1023 = r % 1024 := bits_mask .i32 31 (by decide) wraps_i32 10 (by decide) r h0 (by omega)

/-- what appendCell answers -/
def AppTold (g : Bool) (B : Nat) (zs : List Int) (c : Int) (w : World) (e : Ending) (w' : World) : Prop :=
  ∃ v', e = .returned v' ∧ w'.ownsRow B 5 1 v' (zs ++ encC g c).length ((zs ++ encC g c).map (Value.int .u8)) ∧ Below B w w'

set_option maxRecDepth 100000 in
set_option maxHeartbeats 1000000 in
theorem appendCell_any (g : Bool) (w : World) (B : Nat) (v : Value) (zs : List Int) (c : Int) (hr : rightB c = true) (hB : B ≤ w.heap.size) (hown : w.ownsRow B 5 1 v zs.length (zs.map (Value.int .u8))) (hlen : zs.length + 4 ≤ 140737488355328) :
    Calls Tryd.prog 70 #[v, .int .i32 c, .func (.func 69) #[.bool g] #[]] w (AppTold g B zs c w) := by
  obtain ⟨i0, hi, hz0, hz1, hz2⟩ := info_parts info8
  have hb : -256 ≤ c ∧ c ≤ 1114111 := by unfold rightB at hr; simp at hr; omega
  have HO := Lib.hid hown
  clear hown hr
  by_cases hc : c < 0
  · have he : encC g c = [-1 - c] := encC_esc g hc
    have HE := Lib.hid he
    clear he
    go_enter Tryd.func70, Tryd.ntmps70
    go_wp2_with fail
    refine (byte_yes c w hb.1 hc).mono ?_
    rintro e w' ⟨rfl, rfl⟩
    go_wp2_with (at_builtin; (refine wpList_append_own _ rfl _ _ 22 rfl B 5 i0 (.int .u8 0) 1 1 Tryd.underlying22 hi hz0 hz1 hz2 rfl (by decide) _ _ _ rfl (HO.out.alloc _) _ 1 1 [.int .u8 (-1 - c)] rfl rfl (cell_one_new _ _ _) (by intro u hu; simp at hu; subst hu; rfl) (by unfold maxLen; omega) (by omega) (by simp; omega) ?_); intro v' w3 hown' hgrow _; have HO3 := Lib.hid hown'; have HG3 := Lib.hid hgrow; clear hown' hgrow)
    go_ret
    refine ⟨_, rfl, ?_, (((Below.refl B w).alloc hB _).grown HG3.out (by simp; omega) (fun k hk => (HO.out.lt k hk).1))⟩
    rw [HE.out]
    simpa using HO3.out
  by_cases hc2 : c < 65536
  · obtain ⟨x, y, hxy, _⟩ := num_un g c
    have he : encC g c = [x, y] := (encC_low g (by omega) hc2).trans hxy
    have HE := Lib.hid he
    have HXY := Lib.hid hxy
    clear he hxy
    go_enter Tryd.func70, Tryd.ntmps70
    go_wp2_with fail
    refine (byte_no c w (by omega)).mono ?_
    rintro e w' ⟨rfl, rfl⟩
    go_wp2_with fail
    refine (unitOf_any g c x y w (by omega) (by omega) HXY.out).mono ?_
    rintro e w1 ⟨rfl, hw1⟩
    have hbw : Below w.heap.size w w1 := below_one (Below.refl _ _) (Nat.le_refl _) hw1
    have hs1 := hbw.size
    have HO1 := Lib.hid (own_keep HO.out hbw)
    have hb1 : Below B w w1 := hbw.mono hB
    clear hw1 hbw
    go_wp2_with (at_builtin; (refine wpList_append_own _ rfl _ _ 22 rfl B 5 i0 (.int .u8 0) 1 1 Tryd.underlying22 hi hz0 hz1 hz2 rfl (by decide) _ _ _ rfl ((HO1.out.alloc _).alloc _) _ 2 2 [.int .u8 x, .int .u8 y] rfl rfl (cells_new _ _ _ _) (by intro u hu; simp at hu; rcases hu with rfl | rfl <;> rfl) (by unfold maxLen; omega) (by omega) (by simp; omega) ?_); intro v' w3 hown' hgrow _; have HO3 := Lib.hid hown'; have HG3 := Lib.hid hgrow; clear hown' hgrow)
    go_ret
    refine ⟨_, rfl, ?_, (((hb1.alloc (by omega) _).alloc (by simp; omega) _).grown HG3.out (by simp; omega) (fun k hk => (HO1.out.lt k hk).1))⟩
    rw [HE.out]
    simpa using HO3.out
  · obtain ⟨x, y, hxy, _⟩ := num_un g (55296 + (c - 65536) / 1024)
    obtain ⟨x', y', hxy', _⟩ := num_un g (56320 + (c - 65536) % 1024)
    have he : encC g c = [x, y, x', y'] := by rw [encC_pair g (by omega), hxy, hxy']; rfl
    have hand := and_low (c - 65536) (by omega) (by omega)
    have HE := Lib.hid he
    have HXY := Lib.hid hxy
    have HXY' := Lib.hid hxy'
    clear he hxy hxy'
    go_enter Tryd.func70, Tryd.ntmps70
    go_wp2_with fail
    refine (byte_no c w (by omega)).mono ?_
    rintro e w' ⟨rfl, rfl⟩
    go_wp2_with fail
    refine (unitOf_any g (55296 + (c - 65536) / 1024) x y w (by omega) (by omega) HXY.out).mono ?_
    rintro e w1 ⟨rfl, hw1⟩
    have hbw : Below w.heap.size w w1 := below_one (Below.refl _ _) (Nat.le_refl _) hw1
    have hs1 := hbw.size
    have HO1 := Lib.hid (own_keep HO.out hbw)
    have hb1 : Below B w w1 := hbw.mono hB
    clear hw1 hbw
    go_wp2_with fail
    refine (unitOf_any g (56320 + (c - 65536) % 1024) x' y' _ (by omega) (by omega) HXY'.out).mono ?_
    rintro e w2 ⟨rfl, hw2⟩
    have hbw : Below (w1.heap.size + 1) (w1.alloc (.cells #[.int .u8 x, .int .u8 y] 105)) w2 := below_one (Below.refl _ _) (by simp) hw2
    have hs2 : w1.heap.size + 1 ≤ w2.heap.size := by have := hbw.size; simpa using this
    have HO2 := Lib.hid (own_keep (HO1.out.alloc (.cells #[.int .u8 x, .int .u8 y] 105)) (hbw.mono (by simp)))
    have hb2 : Below B w w2 := (hb1.alloc (by omega) _).trans (hbw.mono (by omega))
    have hx0 : ∀ o, (w2.alloc o).cell? ⟨w1.heap.size, 0, none⟩ = some (.int .u8 x) := fun o => by
      rw [World.cell?_alloc_lt w2 o _ (by show w1.heap.size < _; omega), hbw.cell (p := ⟨w1.heap.size, 0, none⟩) (by show w1.heap.size < _; omega), World.cell?_alloc_new]
      rfl
    have hx1 : ∀ o, (w2.alloc o).cell? ⟨w1.heap.size, 1, none⟩ = some (.int .u8 y) := fun o => by
      rw [World.cell?_alloc_lt w2 o _ (by show w1.heap.size < _; omega), hbw.cell (p := ⟨w1.heap.size, 1, none⟩) (by show w1.heap.size < _; omega), World.cell?_alloc_new]
      rfl
    clear hw2 hbw hand
    go_wp2_with (at_builtin; (refine wpList_append_own _ rfl _ _ 22 rfl B 5 i0 (.int .u8 0) 1 1 Tryd.underlying22 hi hz0 hz1 hz2 rfl (by decide) _ _ _ rfl ((HO2.out.alloc _).alloc _) _ 4 4 [.int .u8 x, .int .u8 y, .int .u8 x', .int .u8 y'] rfl rfl (cells_new _ _ _ _) (by intro u hu; simp at hu; rcases hu with rfl | rfl | rfl | rfl <;> rfl) (by unfold maxLen; omega) (by omega) (by simp; omega) ?_); intro v' w3 hown' hgrow _; have HO3 := Lib.hid hown'; have HG3 := Lib.hid hgrow; clear hown' hgrow)
    go_ret
    refine ⟨_, rfl, ?_, (((hb2.alloc (by omega) _).alloc (by simp; omega) _).grown HG3.out (by simp; omega) (fun k hk => (HO2.out.lt k hk).1))⟩
    rw [HE.out]
    simpa using HO3.out

/-- what Encode answers -/
def EncTold (g : Bool) (xs : List Int) (w : World) (e : Ending) (w' : World) : Prop :=
  Below w.heap.size w w' ∧ ((xs.all rightB = true ∧ ∃ v, e = .returned (.tuple #[v, .int .u16 0]) ∧ w'.ownsRow w.heap.size 5 1 v (encL g xs).length ((encL g xs).map (Value.int .u8))) ∨
    (xs.all rightB = false ∧ e = .returned (.tuple #[.slice none 0 0, .int .u16 10])))
set_option maxRecDepth 100000 in
set_option maxHeartbeats 2000000 in
theorem encode_told (g : Bool) (w : World) (B : Nat) (A : Option Addr) (n c : Nat) (xs : List Int) (hx : RI .i32 w B A n xs) (hB : B ≤ w.heap.size) (hn : n ≤ 1073741824) :
    Calls Tryd.prog 49 #[.slice A n c, .bool g] w (EncTold g xs w) := by
  obtain ⟨i0, hi, hz0, hz1, hz2⟩ := info_parts info8
  have hmf : ∀ (fn : Fn) (first cap : Array Value) (w : World), (Instr.makeFunc fn first cap).run Tryd.prog w = .ok (.func fn first cap) w := fun _ _ _ _ => rfl
  obtain ⟨q, hq, hqn⟩ : ∃ q : Nat, 2 * (n : Int) = (q : Int) ∧ q ≤ 2147483648 := ⟨2 * n, by omega, by omega⟩
  have HX := Lib.hid hx
  clear hx
  go_enter Tryd.func49, Tryd.ntmps49
  go_wp2_with (at_make; (refine wpList_make_own _ rfl _ _ 22 rfl w.heap.size 5 i0 (.int .u8 0) 1 Tryd.underlying22 hi hz0 hz1 .i64 .i64 _ q rfl rfl (by omega) (by rw [hz2]; omega) (by unfold maxLen; omega) (by omega) ?_); intro w2 hown hgrow; have hb2 : Below w.heap.size w w2 := (Below.refl _ _).grown hgrow (by omega) (fun _ h => by cases h); clear hgrow; have HO := Lib.hid hown; clear hown)
  clear hq
  go_loopw [7, 18] (fun v i wr => ∃ k : Nat, k ≤ n ∧ i = .int .i64 k ∧ Hid ((xs.take k).all rightB = true) ∧ Hid (wr.ownsRow w.heap.size 5 1 v (encL g (xs.take k)).length ((encL g (xs.take k)).map (Value.int .u8))) ∧ Below w.heap.size w wr) (fun _ i _ => n - (intOf i).toNat)
  case atStart => exact ⟨0, Nat.zero_le _, rfl, rfl, HO.out, hb2⟩
  case round =>
    obtain ⟨k, hk, rfl, HA, HW, hbr⟩ := hrel
    have hsz := hbr.size
    by_cases hlt : k < n
    · obtain ⟨ad, u, rfl, hbl, hu, hcell⟩ := HX.out.at_ hlt
      have hcr : wr.cell? (ad.add k) = some (.int .i32 u) := (hbr.cell (p := ad.add k) (by rw [block_of_add]; omega)).trans hcell
      have HU := Lib.hid hu
      clear hu hcell
      cases hru : rightB u with
      | true =>
        have HRU := Lib.hid hru
        clear hru
        have hle := (encL_len g (xs.take k)).2
        have hlk : (xs.take k).length ≤ k := List.length_take_le _ _
        go_wp2_with fail
        refine (right_is u wr true HRU.out).mono ?_
        rintro e w' ⟨rfl, rfl⟩
        go_wp2_with fail
        refine (appendCell_any g wr w.heap.size _ (encL g (xs.take k)) u HRU.out hsz HW.out (by omega)).mono ?_
        rintro e w1 ⟨v1, rfl, hown1, hb1⟩
        have hown2 : Hid (w1.ownsRow w.heap.size 5 1 v1 (encL g (xs.take (k + 1))).length ((encL g (xs.take (k + 1))).map (Value.int .u8))) := by
          rw [take_snoc HU.out, encL_snoc]
          exact hown1
        clear hown1
        have hb3 := hbr.trans hb1
        go_wp2
        go_roundw
        case rel => exact ⟨k + 1, by omega, by go_num, take_right HA.out HU.out HRU.out, hown2, hb3⟩
        case measure => simp [intOf]; omega
      | false =>
        have HRU := Lib.hid hru
        clear hru
        go_wp2_with fail
        refine (right_is u wr false HRU.out).mono ?_
        rintro e w' ⟨rfl, rfl⟩
        go_wp2
        go_ret2
        exact ⟨hbr, .inr ⟨not_right HU.out HRU.out, rfl⟩⟩
    · have hkn : xs.take k = xs := List.take_of_length_le (by rw [HX.out.len]; omega)
      have HK := Lib.hid hkn
      clear hkn
      go_wp2
      go_ret2
      refine ⟨hbr, .inl ⟨?_, _, rfl, ?_⟩⟩
      · have := HA.out
        rwa [HK.out] at this
      · have := HW.out
        rwa [HK.out] at this
theorem encode_yes (g : Bool) (w : World) (B : Nat) (A : Option Addr) (n c : Nat) (xs : List Int) (hx : RI .i32 w B A n xs) (hB : B ≤ w.heap.size) (hn : n ≤ 1073741824) (ha : xs.all rightB = true) :
    Calls Tryd.prog 49 #[.slice A n c, .bool g] w fun e w' => ∃ v, e = .returned (.tuple #[v, .int .u16 0]) ∧ w'.ownsRow w.heap.size 5 1 v (encL g xs).length ((encL g xs).map (Value.int .u8)) ∧ Below w.heap.size w w' := by
  refine (encode_told g w B A n c xs hx hB hn).mono ?_
  rintro e w' ⟨hb, ⟨_, v, rfl, ho⟩ | ⟨h, _⟩⟩
  · exact ⟨v, rfl, ho, hb⟩
  · rw [ha] at h; cases h
theorem encode_no (g : Bool) (w : World) (B : Nat) (A : Option Addr) (n c : Nat) (xs : List Int) (hx : RI .i32 w B A n xs) (hB : B ≤ w.heap.size) (hn : n ≤ 1073741824) (ha : xs.all rightB = false) :
    Calls Tryd.prog 49 #[.slice A n c, .bool g] w fun e w' => e = .returned (.tuple #[.slice none 0 0, .int .u16 10]) ∧ Below w.heap.size w w' := by
  refine (encode_told g w B A n c xs hx hB hn).mono ?_
  rintro e w' ⟨hb, ⟨h, _⟩ | ⟨_, rfl⟩⟩
  · rw [ha] at h; cases h
  · exact ⟨rfl, hb⟩
end Go.Proofs.YtijlecfjgcohhaaDoor.C.U
