/-
  The document's unit and Decode of layer 3.
-/
import Derived.Test.YtijlecfjgcohhaaDoorCuD
import Derived.Deep.RegionLaw
namespace Go.Proofs.YtijlecfjgcohhaaDoor.C.U
open Go.RowKit


set_option maxRecDepth 100000 in
set_option maxHeartbeats 400000 in
theorem refUnit_any (g : Bool) (a b : Int) (w : World) (a0 : 0 ≤ a) (a1 : a ≤ 255) (b0 : 0 ≤ b) (b1 : b ≤ 255) :
    Calls Tryd.prog 56 #[.int .u8 a, .int .u8 b, .bool g] w fun e w' => e = .returned (.int .i32 (num g a b)) ∧ w = w' := by
  cases g
  · rw [num_false]
    go_enter Tryd.func56, Tryd.ntmps56
    go_wp2
    go_ret
    exact ⟨rfl, rfl⟩
  · rw [num_true]
    go_enter Tryd.func56, Tryd.ntmps56
    go_wp2
    go_ret
    exact ⟨rfl, rfl⟩
theorem refEsc (b : Int) (w : World) (h0 : 0 ≤ b) (h1 : b ≤ 255) : Calls Tryd.prog 55 #[.int .u8 b] w fun e w' => e = .returned (.int .i32 (-1 - b)) ∧ w' = w :=
  (refEscape_any b w h0 h1).mono fun _ _ ⟨h1, h2⟩ => ⟨h1, h2.symm⟩
theorem drop_two {zs : List Int} {pos : Nat} {a b : Int} (h0 : zs[pos]? = some a) (h1 : zs[pos + 1]? = some b) : zs.drop pos = a :: b :: zs.drop (pos + 2) := by
  obtain ⟨l0, e0⟩ := List.getElem?_eq_some_iff.1 h0
  obtain ⟨l1, e1⟩ := List.getElem?_eq_some_iff.1 h1
  rw [List.drop_eq_getElem_cons l0, List.drop_eq_getElem_cons l1, e0, e1]
theorem drop_one {zs : List Int} {pos : Nat} {a : Int} (h0 : zs[pos]? = some a) (hl : zs.length = pos + 1) : zs.drop pos = [a] := by
  obtain ⟨l0, e0⟩ := List.getElem?_eq_some_iff.1 h0
  rw [List.drop_eq_getElem_cons l0, e0, List.drop_of_length_le (by omega)]
theorem dec_lone_go {g : Bool} {zs acc : List Int} {pos : Nat} {a b : Int} (h : acc ++ dec g (zs.drop pos) = dec g zs) (h0 : zs[pos]? = some a) (h1 : zs[pos + 1]? = some b) (hs : scal g (zs.drop pos) = (0, 0)) :
    (acc ++ [-1 - a, -1 - b]) ++ dec g (zs.drop (pos + 2)) = dec g zs := by
  have hl : pos + 1 < zs.length := (List.getElem?_eq_some_iff.1 h1).1
  have hw : wid g (zs.drop pos) = 2 := by rw [wid_zero hs]; simp; omega
  refine dec_go h (by omega) hw ?_
  rw [cel_zero hs, hw, drop_two h0 h1]
  rfl
theorem cell_two_new (w : World) (x y : Value) (t : TypeId) : ∀ j u, [x, y][j]? = some u → (w.alloc (.cells #[x, y] t)).cell? ((⟨w.heap.size, 0, none⟩ : Addr).add j) = some u := by
  intro j u hj
  rw [add_plain, Nat.zero_add, World.cell?_alloc_new]
  simpa using hj

set_option maxRecDepth 100000 in
set_option maxHeartbeats 4000000 in
set_option maxRecDepth 100000 in
theorem refDecode_any (g : Bool) (w : World) (B : Nat) (A : Option Addr) (n c : Nat) (zs : List Int) (hx : RI .u8 w B A n zs) (hB : B ≤ w.heap.size) (hz : Bd zs) (hn : n ≤ 1099511627776) :
    Calls Tryd.prog 36 #[.slice A n c, .bool g] w fun e w' => ∃ v, e = .returned v ∧ w'.ownsRow w.heap.size 35 1 v (dec g zs).length ((dec g zs).map (Value.int .i32)) ∧ Below w.heap.size w w' := by
  obtain ⟨i0, hi, hz0, hz1, hz2⟩ := info_parts info33
  have HL := Lib.hid hx.len
  have HX := Lib.hid hx
  have HZ := Lib.hid hz
  clear hx hz
  go_enter Tryd.func36, Tryd.ntmps36
  go_wp2
  go_loopw [5, 6] (fun v iv wr => ∃ (pos : Nat) (acc : List Int), pos ≤ n ∧ iv = .int .i64 pos ∧ Hid (acc ++ dec g (zs.drop pos) = dec g zs) ∧ acc.length ≤ pos ∧ Hid (wr.ownsRow w.heap.size 35 1 v acc.length (acc.map (Value.int .i32))) ∧ Below w.heap.size w wr) (fun _ iv _ => n - (intOf iv).toNat)
  case atStart => exact ⟨0, [], Nat.zero_le _, rfl, rfl, Nat.le_refl _, World.ownsRow_nil _ _ _ _, Below.refl _ _⟩
  case round =>
    obtain ⟨pos, acc, hp, rfl, HST, hac, HW, hbr⟩ := hrel
    have hsz := hbr.size
    by_cases hlt : pos < n
    · obtain ⟨ad, a, rfl, hbl, ha, hca⟩ := HX.out.at_ hlt
      obtain ⟨a0, a1⟩ := HZ.out a (List.mem_of_getElem? ha)
      have hcr : wr.cell? (ad.add pos) = some (.int .u8 a) := (hbr.cell (p := ad.add pos) (by rw [block_of_add]; omega)).trans hca
      have HA := Lib.hid ha
      clear ha hca
      have p0 : (pos : Int) < (n : Int) := by omega
      by_cases hone : pos + 1 = n
      · have t1 : ((pos : Int) + 1 == (n : Int)) = true := by simp; omega
        go_wp2_with fail
        refine (refEsc a wr a0 a1).mono ?_
        rintro e w' ⟨rfl, rfl⟩
        go_wp2_with (at_builtin; (refine wpList_append_own _ rfl _ _ 24 rfl w.heap.size 35 i0 (.int .i32 0) 1 4 Tryd.underlying24 hi hz0 hz1 hz2 rfl (by decide) _ _ _ rfl (HW.out.alloc _) _ 1 1 [.int .i32 (-1 - a)] rfl rfl (cell_one_new _ _ _) (by intro u hu; simp at hu; subst hu; rfl) (by unfold maxLen; omega) (by omega) (by simp; omega) ?_); intro v' w3 hown' hgrow _; have HO3 := Lib.hid hown'; have HG3 := Lib.hid hgrow; clear hown' hgrow)
        go_ret
        have hd : acc ++ [-1 - a] = dec g zs := by
          have := HST.out
          rwa [drop_one HA.out (by rw [HL.out]; omega)] at this
        refine ⟨_, rfl, ?_, (hbr.alloc (by omega) _).grown HG3.out (by simp; omega) (fun g hg => (HW.out.lt g hg).1)⟩
        rw [← hd]
        simpa using HO3.out
      · have t1 : ((pos : Int) + 1 == (n : Int)) = false := by simp; omega
        obtain ⟨ad', b, hadr, _, hb', hcb⟩ := HX.out.at_ (k := pos + 1) (by omega)
        injection hadr with hadr
        subst hadr
        obtain ⟨b0, b1⟩ := HZ.out b (List.mem_of_getElem? hb')
        obtain ⟨p1, hp1⟩ : ∃ p1 : Nat, p1 = pos + 1 := ⟨_, rfl⟩
        have hcr1 : wr.cell? (ad.add p1) = some (.int .u8 b) := by rw [hp1]; exact (hbr.cell (p := ad.add (pos + 1)) (by rw [block_of_add]; omega)).trans hcb
        have hwr1 : IntKind.i64.wrap ((pos : Int) + 1) = (p1 : Int) := by rw [IntKind.wrap_i64]; omega
        have HWR1 := Lib.hid hwr1
        clear hwr1
        obtain ⟨u0, u1⟩ := num_bound g a0 a1 b0 b1
        have HB' := Lib.hid hb'
        clear hb' hcb
        have q1 : (p1 : Int) < (n : Int) := by omega
        clear hp1
        go_wp2_with fail
        have hwr1 := HWR1.out
        go_still_tail 10, (by kernel_rfl)
        change wpList _ _ _ _ _ wr.drew
        clear hwr1
        go_wp2_with fail
        refine (refUnit_any g a b wr.drew a0 a1 b0 b1).mono ?_
        rintro e w1 ⟨rfl, hw1⟩
        have HW1 : Hid (w1.ownsRow w.heap.size 35 1 u5 acc.length (acc.map (Value.int .i32))) := by rw [← hw1]; exact HW.out.drew
        have hb1 : Below w.heap.size w w1 := by rw [← hw1]; exact below_drewN hbr 1
        have hs1 : w.heap.size ≤ w1.heap.size := hb1.size
        have hd0 : w1.cell? (ad.add pos) = some (.int .u8 a) := by rw [← hw1]; exact hcr
        have hd1 : w1.cell? (ad.add p1) = some (.int .u8 b) := by rw [← hw1]; exact hcr1
        clear hw1 hcr hcr1 HW hbr hsz
        generalize hu : num g a b = u at *
        have HU := Lib.hid hu
        clear hu
        by_cases c1 : u < 55296
        · go_wp2_with (at_builtin; (refine wpList_append_own _ rfl _ _ 24 rfl w.heap.size 35 i0 (.int .i32 0) 1 4 Tryd.underlying24 hi hz0 hz1 hz2 rfl (by decide) _ _ _ rfl (HW1.out.alloc _) _ 1 1 [.int .i32 (u)] rfl rfl (cell_one_new _ _ _) (by intro u hu; simp at hu; subst hu; rfl) (by unfold maxLen; omega) (by omega) (by simp; omega) ?_); intro v' w3 hown' hgrow _; have HO3 := Lib.hid hown'; have HG3 := Lib.hid hgrow; clear hown' hgrow)
          have hst' := dec_go HST.out (by rw [HL.out]; omega) (wid_some (k := 2) (by rw [drop_two HA.out HB'.out, scal_two g _ (by rw [HU.out]; omega), HU.out]) (by omega)) (cel_some (k := 2) (by rw [drop_two HA.out HB'.out, scal_two g _ (by rw [HU.out]; omega), HU.out]) (by omega))
          have HST' := Lib.hid hst'
          clear hst'
          go_roundw
          case rel => exact ⟨pos + 2, acc ++ [u], by omega, by go_num, HST'.out, by simp; omega, by simpa [Hid] using HO3.out, (hb1.alloc (by omega) _).grown HG3.out (by simp; omega) (fun g hg => (HW1.out.lt g hg).1)⟩
          case measure => simp [intOf]; omega
        have t2 : decide (u < 55296) = false := by simpa using c1
        by_cases c2 : 57343 < u
        · go_wp2_with (at_builtin; (refine wpList_append_own _ rfl _ _ 24 rfl w.heap.size 35 i0 (.int .i32 0) 1 4 Tryd.underlying24 hi hz0 hz1 hz2 rfl (by decide) _ _ _ rfl (HW1.out.alloc _) _ 1 1 [.int .i32 (u)] rfl rfl (cell_one_new _ _ _) (by intro u hu; simp at hu; subst hu; rfl) (by unfold maxLen; omega) (by omega) (by simp; omega) ?_); intro v' w3 hown' hgrow _; have HO3 := Lib.hid hown'; have HG3 := Lib.hid hgrow; clear hown' hgrow)
          have hst' := dec_go HST.out (by rw [HL.out]; omega) (wid_some (k := 2) (by rw [drop_two HA.out HB'.out, scal_two g _ (by rw [HU.out]; omega), HU.out]) (by omega)) (cel_some (k := 2) (by rw [drop_two HA.out HB'.out, scal_two g _ (by rw [HU.out]; omega), HU.out]) (by omega))
          have HST' := Lib.hid hst'
          clear hst'
          go_roundw
          case rel => exact ⟨pos + 2, acc ++ [u], by omega, by go_num, HST'.out, by simp; omega, by simpa [Hid] using HO3.out, (hb1.alloc (by omega) _).grown HG3.out (by simp; omega) (fun g hg => (HW1.out.lt g hg).1)⟩
          case measure => simp [intOf]; omega
        have t3 : decide (57343 < u) = false := by simpa using c2
        by_cases n4 : pos + 3 < n
        · have p3 : (pos : Int) + 3 < (n : Int) := by omega
          obtain ⟨p2, hp2⟩ : ∃ p2 : Nat, p2 = pos + 2 := ⟨_, rfl⟩
          obtain ⟨p3', hp3⟩ : ∃ p3 : Nat, p3 = pos + 3 := ⟨_, rfl⟩
          have q2 : (p2 : Int) < (n : Int) := by omega
          have q3 : (p3' : Int) < (n : Int) := by omega
          obtain ⟨ad', c', hadr, _, hc', hcc⟩ := HX.out.at_ (k := pos + 2) (by omega)
          injection hadr with hadr
          subst hadr
          obtain ⟨ad', d, hadr, _, hd', hcd⟩ := HX.out.at_ (k := pos + 3) (by omega)
          injection hadr with hadr
          subst hadr
          obtain ⟨e0, e1⟩ := HZ.out c' (List.mem_of_getElem? hc')
          obtain ⟨f0, f1⟩ := HZ.out d (List.mem_of_getElem? hd')
          have hd2 : w1.cell? (ad.add p2) = some (.int .u8 c') := by rw [hp2]; exact (hb1.cell (p := ad.add (pos + 2)) (by rw [block_of_add]; omega)).trans hcc
          have hd3 : w1.cell? (ad.add p3') = some (.int .u8 d) := by rw [hp3]; exact (hb1.cell (p := ad.add (pos + 3)) (by rw [block_of_add]; omega)).trans hcd
          have HWR2 : Hid (IntKind.i64.wrap ((pos : Int) + 2) = (p2 : Int)) := by show _ = _; rw [IntKind.wrap_i64]; omega
          have HWR3 : Hid (IntKind.i64.wrap ((pos : Int) + 3) = (p3' : Int)) := by show _ = _; rw [IntKind.wrap_i64]; omega
          clear hp2 hp3
          obtain ⟨v0, v1⟩ := num_bound g e0 e1 f0 f1
          have HC := Lib.hid hc'
          have HD := Lib.hid hd'
          clear hc' hd' hcc hcd
          go_wp2_with fail
          have hwr2 := HWR2.out
          have hwr3 := HWR3.out
          go_still_tail 11, (by kernel_rfl)
          change wpList _ _ _ _ _ w1.drew
          clear hwr2 hwr3
          go_wp2_with fail
          refine (refUnit_any g c' d w1.drew e0 e1 f0 f1).mono ?_
          rintro e w2 ⟨rfl, hw2⟩
          have HW2 : Hid (w2.ownsRow w.heap.size 35 1 u5 acc.length (acc.map (Value.int .i32))) := by rw [← hw2]; exact HW1.out.drew
          have hb2 : Below w.heap.size w w2 := by rw [← hw2]; exact below_drewN hb1 1
          have hs2 : w.heap.size ≤ w2.heap.size := hb2.size
          have he0 : w2.cell? (ad.add pos) = some (.int .u8 a) := by rw [← hw2]; exact hd0
          have he1 : w2.cell? (ad.add p1) = some (.int .u8 b) := by rw [← hw2]; exact hd1
          clear hw2 hd0 hd1 hd2 hd3 HW1 hb1 hs1
          generalize hv : num g c' d = v at *
          have HV := Lib.hid hv
          clear hv
          by_cases c3 : u < 56320
          · by_cases c4 : 56320 ≤ v
            · by_cases c5 : v ≤ 57343
              · have hsp : scal g (zs.drop pos) = (65536 + (u - 55296) * 1024 + v - 56320, 4) := by rw [drop_two HA.out HB'.out, drop_two HC.out HD.out, scal_pair g _ (by rw [HU.out]; omega) (by rw [HU.out]; omega) (by rw [HV.out]; omega) (by rw [HV.out]; omega), HU.out, HV.out, Int.add_sub_assoc]
                have HSP := Lib.hid hsp
                clear hsp he0 he1
                go_wp2_with (at_builtin; (refine wpList_append_own _ rfl _ _ 24 rfl w.heap.size 35 i0 (.int .i32 0) 1 4 Tryd.underlying24 hi hz0 hz1 hz2 rfl (by decide) _ _ _ rfl (HW2.out.alloc _) _ 1 1 [.int .i32 (65536 + (u - 55296) * 1024 + v - 56320)] rfl rfl (cell_one_new _ _ _) (by intro u hu; simp at hu; subst hu; rfl) (by unfold maxLen; omega) (by omega) (by simp; omega) ?_); intro v' w3 hown' hgrow _; have HO3 := Lib.hid hown'; have HG3 := Lib.hid hgrow; clear hown' hgrow)
                have hst' := dec_go (cs := [65536 + (u - 55296) * 1024 + v - 56320]) HST.out (by rw [HL.out]; omega) (wid_some HSP.out (by omega)) (cel_some HSP.out (by omega))
                have HST' := Lib.hid hst'
                clear hst'
                go_roundw
                case rel => exact ⟨pos + 4, acc ++ [65536 + (u - 55296) * 1024 + v - 56320], by omega, by go_num, HST'.out, by simp; omega, by simpa [Hid] using HO3.out, (hb2.alloc (by omega) _).grown HG3.out (by simp; omega) (fun g hg => (HW2.out.lt g hg).1)⟩
                case measure => simp [intOf]; omega
              · have t4 : decide (v ≤ 57343) = false := by simpa using c5
                have hsc : scal g (zs.drop pos) = (0, 0) := by rw [drop_two HA.out HB'.out, drop_two HC.out HD.out]; exact scal_lone g _ (by rw [HU.out]; omega) (by rw [HU.out]; omega) (by rw [HV.out]; omega)
                have hst' := dec_lone_go HST.out HA.out HB'.out hsc
                have HST' := Lib.hid hst'
                clear hst' hsc
                go_wp2_with fail
                have hwr1 := HWR1.out
                go_region_law (first
                  | (go_simp; go_at_call 55; first
                      | (with_reducible refine (refEsc a _ a0 a1).mono ?_; rintro e w' ⟨rfl, rfl⟩)
                      | (with_reducible refine (refEsc b _ b0 b1).mono ?_; rintro e w' ⟨rfl, rfl⟩))
                  | ((refine step_append_lies _ rfl (.tmp 89) (.tmp 101) 24 rfl w.heap.size 35 i0 (.int .i32 0) 1 4 Tryd.underlying24 hi hz0 hz1 hz2 rfl (by decide) u5 acc.length (acc.map (Value.int .i32)) (by simp [Act.eval]) (HW2.out.alloc _) _ 2 2 [.int .i32 (-1 - a), .int .i32 (-1 - b)] (by simp [Act.eval]) rfl (cell_two_new _ _ _ _) (by intro u hu; simp at hu; rcases hu with rfl | rfl <;> rfl) (by decide) (by unfold maxLen; omega) (by omega) (by simp; omega) _ rfl ?_); intro g3 cap3 w3 hown' hgrow _ _))
                all_goals
                  have HO3 := Lib.hid hown'
                  have HG3 := Lib.hid hgrow
                  clear hown' hgrow hwr1
                  go_wp2
                  go_roundw
                  case rel => exact ⟨pos + 2, acc ++ [-1 - a, -1 - b], by omega, by go_num, HST'.out, by simp; omega, by simpa [Hid] using HO3.out, (hb2.alloc (by omega) _).drew.grown HG3.out (by simp; omega) (fun g hg => (HW2.out.lt g hg).1)⟩
                  case measure => simp [intOf]; omega
            · have t4 : decide (56320 ≤ v) = false := by simpa using c4
              have hsc : scal g (zs.drop pos) = (0, 0) := by rw [drop_two HA.out HB'.out, drop_two HC.out HD.out]; exact scal_lone g _ (by rw [HU.out]; omega) (by rw [HU.out]; omega) (by rw [HV.out]; omega)
              have hst' := dec_lone_go HST.out HA.out HB'.out hsc
              have HST' := Lib.hid hst'
              clear hst' hsc
              go_wp2_with fail
              have hwr1 := HWR1.out
              go_region_law (first
                | (go_simp; go_at_call 55; first
                    | (with_reducible refine (refEsc a _ a0 a1).mono ?_; rintro e w' ⟨rfl, rfl⟩)
                    | (with_reducible refine (refEsc b _ b0 b1).mono ?_; rintro e w' ⟨rfl, rfl⟩))
                | ((refine step_append_lies _ rfl (.tmp 89) (.tmp 101) 24 rfl w.heap.size 35 i0 (.int .i32 0) 1 4 Tryd.underlying24 hi hz0 hz1 hz2 rfl (by decide) u5 acc.length (acc.map (Value.int .i32)) (by simp [Act.eval]) (HW2.out.alloc _) _ 2 2 [.int .i32 (-1 - a), .int .i32 (-1 - b)] (by simp [Act.eval]) rfl (cell_two_new _ _ _ _) (by intro u hu; simp at hu; rcases hu with rfl | rfl <;> rfl) (by decide) (by unfold maxLen; omega) (by omega) (by simp; omega) _ rfl ?_); intro g3 cap3 w3 hown' hgrow _ _))
              all_goals
                have HO3 := Lib.hid hown'
                have HG3 := Lib.hid hgrow
                clear hown' hgrow hwr1
                go_wp2
                go_roundw
                case rel => exact ⟨pos + 2, acc ++ [-1 - a, -1 - b], by omega, by go_num, HST'.out, by simp; omega, by simpa [Hid] using HO3.out, (hb2.alloc (by omega) _).drew.grown HG3.out (by simp; omega) (fun g hg => (HW2.out.lt g hg).1)⟩
                case measure => simp [intOf]; omega
          · have t4 : decide (u < 56320) = false := by simpa using c3
            have hsc : scal g (zs.drop pos) = (0, 0) := by rw [drop_two HA.out HB'.out]; exact scal_low g _ (by rw [HU.out]; omega) (by rw [HU.out]; omega)
            have hst' := dec_lone_go HST.out HA.out HB'.out hsc
            have HST' := Lib.hid hst'
            clear hst' hsc
            go_wp2_with fail
            have hwr1 := HWR1.out
            go_region_law (first
              | (go_simp; go_at_call 55; first
                  | (with_reducible refine (refEsc a _ a0 a1).mono ?_; rintro e w' ⟨rfl, rfl⟩)
                  | (with_reducible refine (refEsc b _ b0 b1).mono ?_; rintro e w' ⟨rfl, rfl⟩))
              | ((refine step_append_lies _ rfl (.tmp 89) (.tmp 101) 24 rfl w.heap.size 35 i0 (.int .i32 0) 1 4 Tryd.underlying24 hi hz0 hz1 hz2 rfl (by decide) u5 acc.length (acc.map (Value.int .i32)) (by simp [Act.eval]) (HW2.out.alloc _) _ 2 2 [.int .i32 (-1 - a), .int .i32 (-1 - b)] (by simp [Act.eval]) rfl (cell_two_new _ _ _ _) (by intro u hu; simp at hu; rcases hu with rfl | rfl <;> rfl) (by decide) (by unfold maxLen; omega) (by omega) (by simp; omega) _ rfl ?_); intro g3 cap3 w3 hown' hgrow _ _))
            all_goals
              have HO3 := Lib.hid hown'
              have HG3 := Lib.hid hgrow
              clear hown' hgrow hwr1
              go_wp2
              go_roundw
              case rel => exact ⟨pos + 2, acc ++ [-1 - a, -1 - b], by omega, by go_num, HST'.out, by simp; omega, by simpa [Hid] using HO3.out, (hb2.alloc (by omega) _).drew.grown HG3.out (by simp; omega) (fun g hg => (HW2.out.lt g hg).1)⟩
              case measure => simp [intOf]; omega
        · have t5 : decide ((pos : Int) + 3 < (n : Int)) = false := by simp; omega
          by_cases c3 : u < 56320
          · have hsc : scal g (zs.drop pos) = (0, 0) := by rw [drop_two HA.out HB'.out]; exact scal_cut g _ (by rw [HU.out]; omega) (by rw [HU.out]; omega) (by rw [List.length_drop, HL.out]; omega)
            have hst' := dec_lone_go HST.out HA.out HB'.out hsc
            have HST' := Lib.hid hst'
            clear hst' hsc
            go_wp2_with fail
            have hwr1 := HWR1.out
            go_region_law (first
              | (go_simp; go_at_call 55; first
                  | (with_reducible refine (refEsc a _ a0 a1).mono ?_; rintro e w' ⟨rfl, rfl⟩)
                  | (with_reducible refine (refEsc b _ b0 b1).mono ?_; rintro e w' ⟨rfl, rfl⟩))
              | ((refine step_append_lies _ rfl (.tmp 89) (.tmp 101) 24 rfl w.heap.size 35 i0 (.int .i32 0) 1 4 Tryd.underlying24 hi hz0 hz1 hz2 rfl (by decide) u5 acc.length (acc.map (Value.int .i32)) (by simp [Act.eval]) (HW1.out.alloc _) _ 2 2 [.int .i32 (-1 - a), .int .i32 (-1 - b)] (by simp [Act.eval]) rfl (cell_two_new _ _ _ _) (by intro u hu; simp at hu; rcases hu with rfl | rfl <;> rfl) (by decide) (by unfold maxLen; omega) (by omega) (by simp; omega) _ rfl ?_); intro g3 cap3 w3 hown' hgrow _ _))
            all_goals
              have HO3 := Lib.hid hown'
              have HG3 := Lib.hid hgrow
              clear hown' hgrow hwr1
              go_wp2
              go_roundw
              case rel => exact ⟨pos + 2, acc ++ [-1 - a, -1 - b], by omega, by go_num, HST'.out, by simp; omega, by simpa [Hid] using HO3.out, (hb1.alloc (by omega) _).drew.grown HG3.out (by simp; omega) (fun g hg => (HW1.out.lt g hg).1)⟩
              case measure => simp [intOf]; omega
          · have t4 : decide (u < 56320) = false := by simpa using c3
            have hsc : scal g (zs.drop pos) = (0, 0) := by rw [drop_two HA.out HB'.out]; exact scal_low g _ (by rw [HU.out]; omega) (by rw [HU.out]; omega)
            have hst' := dec_lone_go HST.out HA.out HB'.out hsc
            have HST' := Lib.hid hst'
            clear hst' hsc
            go_wp2_with fail
            have hwr1 := HWR1.out
            go_region_law (first
              | (go_simp; go_at_call 55; first
                  | (with_reducible refine (refEsc a _ a0 a1).mono ?_; rintro e w' ⟨rfl, rfl⟩)
                  | (with_reducible refine (refEsc b _ b0 b1).mono ?_; rintro e w' ⟨rfl, rfl⟩))
              | ((refine step_append_lies _ rfl (.tmp 89) (.tmp 101) 24 rfl w.heap.size 35 i0 (.int .i32 0) 1 4 Tryd.underlying24 hi hz0 hz1 hz2 rfl (by decide) u5 acc.length (acc.map (Value.int .i32)) (by simp [Act.eval]) (HW1.out.alloc _) _ 2 2 [.int .i32 (-1 - a), .int .i32 (-1 - b)] (by simp [Act.eval]) rfl (cell_two_new _ _ _ _) (by intro u hu; simp at hu; rcases hu with rfl | rfl <;> rfl) (by decide) (by unfold maxLen; omega) (by omega) (by simp; omega) _ rfl ?_); intro g3 cap3 w3 hown' hgrow _ _))
            all_goals
              have HO3 := Lib.hid hown'
              have HG3 := Lib.hid hgrow
              clear hown' hgrow hwr1
              go_wp2
              go_roundw
              case rel => exact ⟨pos + 2, acc ++ [-1 - a, -1 - b], by omega, by go_num, HST'.out, by simp; omega, by simpa [Hid] using HO3.out, (hb1.alloc (by omega) _).drew.grown HG3.out (by simp; omega) (fun g hg => (HW1.out.lt g hg).1)⟩
              case measure => simp [intOf]; omega
    · have hend : acc = dec g zs := by
        have := HST.out
        rwa [List.drop_of_length_le (by have := HL.out; omega), dec_nil, List.append_nil] at this
      have HE := Lib.hid hend
      clear hend
      go_wp2
      go_ret
      refine ⟨_, rfl, ?_, hbr⟩
      rw [← HE.out]
      exact HW.out
end Go.Proofs.YtijlecfjgcohhaaDoor.C.U
