/-
  appendEscapes and Decode of layer 3.
-/
import Derived.Test.YtijlecfjgcohhaaDoorCuB
namespace Go.Proofs.YtijlecfjgcohhaaDoor.C.U
open Go.RowKit


theorem escs_snoc {zs : List Int} {k : Nat} {u : Int} (h : zs[k]? = some u) : escs (zs.take (k + 1)) = escs (zs.take k) ++ [-1 - u] := by
  rw [take_snoc h]
  simp [escs]
theorem escs_len (zs : List Int) : (escs zs).length = zs.length := by simp [escs]

set_option maxRecDepth 100000 in
set_option maxHeartbeats 2000000 in
theorem appendEscapes_any (w : World) (base B : Nat) (v : Value) (xs : List Int) (A : Option Addr) (n c : Nat) (zs : List Int) (hx : RI .u8 w B A n zs) (hz : Bd zs) (hB : B ≤ base) (hbase : base ≤ w.heap.size)
    (hown : w.ownsRow base 35 1 v xs.length (xs.map (Value.int .i32))) (hlen : xs.length + n ≤ 1099511627776) :
    Calls Tryd.prog 68 #[v, .slice A n c] w fun e w' => ∃ v', e = .returned v' ∧ w'.ownsRow base 35 1 v' (xs ++ escs zs).length ((xs ++ escs zs).map (Value.int .i32)) ∧ Below base w w' := by
  obtain ⟨i0, hi, hz0, hz1, hz2⟩ := info_parts info33
  have HX := Lib.hid hx
  have HZ := Lib.hid hz
  have HO := Lib.hid hown
  clear hx hz hown
  go_enter Tryd.func68, Tryd.ntmps68
  go_wp2
  go_loopw [0, 9] (fun v iv wr => ∃ k : Nat, k ≤ n ∧ iv = .int .i64 k ∧ Hid (wr.ownsRow base 35 1 v (xs ++ escs (zs.take k)).length ((xs ++ escs (zs.take k)).map (Value.int .i32))) ∧ Below base w wr) (fun _ iv _ => n - (intOf iv).toNat)
  case atStart => exact ⟨0, Nat.zero_le _, rfl, by simpa [Hid, escs] using HO.out, Below.refl _ _⟩
  case round =>
    obtain ⟨k, hk, rfl, HW, hbr⟩ := hrel
    have hsz := hbr.size
    by_cases hlt : k < n
    · obtain ⟨ad, u, rfl, hbl, hu, hcell⟩ := HX.out.at_ hlt
      have hcr : wr.cell? (ad.add k) = some (.int .u8 u) := (hbr.cell (p := ad.add k) (by rw [block_of_add]; omega)).trans hcell
      obtain ⟨u0, u1⟩ := HZ.out u (List.mem_of_getElem? hu)
      have hle : (xs ++ escs (zs.take k)).length ≤ xs.length + k := by simp [escs_len]; omega
      have HU := Lib.hid hu
      clear hu hcell
      go_wp2_with fail
      refine (escape_any u wr u0 u1).mono ?_
      rintro e w' ⟨rfl, rfl⟩
      go_wp2_with (at_builtin; (refine wpList_append_own _ rfl _ _ 24 rfl base 35 i0 (.int .i32 0) 1 4 Tryd.underlying24 hi hz0 hz1 hz2 rfl (by decide) _ _ _ rfl (HW.out.alloc _) _ 1 1 [.int .i32 (-1 - u)] rfl rfl (cell_one_new _ _ _) (by intro u hu; simp at hu; subst hu; rfl) (by unfold maxLen; omega) (by omega) (by simp; omega) ?_); intro v' w3 hown' hgrow _; have HO3 := Lib.hid hown'; have HG3 := Lib.hid hgrow; clear hown' hgrow)
      have hown2 : Hid (w3.ownsRow base 35 1 v' (xs ++ escs (zs.take (k + 1))).length ((xs ++ escs (zs.take (k + 1))).map (Value.int .i32))) := by
        rw [escs_snoc HU.out, ← List.append_assoc]
        simpa [Hid, Nat.add_assoc] using HO3.out
      go_roundw
      case rel => exact ⟨k + 1, by omega, by go_num, hown2, (hbr.alloc (by omega) _).grown HG3.out (by simp; omega) (fun g hg => (HW.out.lt g hg).1)⟩
      case measure => simp [intOf]; omega
    · have hkn : zs.take k = zs := List.take_of_length_le (by rw [HX.out.len]; omega)
      have HK := Lib.hid hkn
      clear hkn
      go_wp2
      go_ret
      refine ⟨_, rfl, ?_, hbr⟩
      have := HW.out
      rwa [HK.out] at this

theorem scalarAt_is (g : Bool) (w : World) (B : Nat) (A : Option Addr) (n c : Nat) (zs : List Int) (u : Int) (k : Nat) (hs : scal g zs = (u, k)) (hx : RI .u8 w B A n zs) (hB : B ≤ w.heap.size) (hz : Bd zs) :
    Calls Tryd.prog 67 #[.slice A n c, .func (.func 66) #[.bool g] #[]] w fun e w' => e = .returned (.tuple #[.int .i32 u, .int .i64 (k : Int)]) ∧ Below w.heap.size w w' := by
  have := scalarAt_any g w B A n c zs hx hB hz
  unfold ScalTold at this
  rw [hs] at this
  exact this

theorem dec_go {g : Bool} {zs acc : List Int} {pos K : Nat} {cs : List Int} (h : acc ++ dec g (zs.drop pos) = dec g zs) (hp : pos < zs.length) (hw : wid g (zs.drop pos) = K) (hc : cel g (zs.drop pos) = cs) :
    (acc ++ cs) ++ dec g (zs.drop (pos + K)) = dec g zs := by
  rw [← h, dec_step g (zs := zs.drop pos) (by simp; omega), hw, hc, List.drop_drop, List.append_assoc]
theorem wid_zero {g : Bool} {zs : List Int} {u : Int} (h : scal g zs = (u, 0)) : wid g zs = min zs.length 2 := by unfold wid; rw [h]; rfl
theorem wid_some {g : Bool} {zs : List Int} {u : Int} {k : Nat} (h : scal g zs = (u, k)) (hk : 0 < k) : wid g zs = k := by unfold wid; rw [h]; exact if_neg (by simp; omega)
theorem cel_zero {g : Bool} {zs : List Int} {u : Int} (h : scal g zs = (u, 0)) : cel g zs = escs (zs.take (wid g zs)) := by unfold cel; rw [h]; rfl
theorem cel_some {g : Bool} {zs : List Int} {u : Int} {k : Nat} (h : scal g zs = (u, k)) (hk : 0 < k) : cel g zs = [u] := by unfold cel; rw [h]; exact if_neg (by simp; omega)
set_option maxRecDepth 100000 in
set_option maxHeartbeats 2000000 in
theorem decode_any (g : Bool) (w : World) (B : Nat) (A : Option Addr) (n c : Nat) (zs : List Int) (hx : RI .u8 w B A n zs) (hB : B ≤ w.heap.size) (hz : Bd zs) (hnc : n ≤ c) (hn : n ≤ 1099511627776) (hc : c ≤ maxLen) :
    Calls Tryd.prog 48 #[.slice A n c, .bool g] w fun e w' => ∃ v, e = .returned v ∧ w'.ownsRow w.heap.size 35 1 v (dec g zs).length ((dec g zs).map (Value.int .i32)) ∧ Below w.heap.size w w' := by
  unfold maxLen at hc
  obtain ⟨i0, hi, hz0, hz1, hz2⟩ := info_parts info33
  have hmf : ∀ (fn : Fn) (first cap : Array Value) (w : World), (Instr.makeFunc fn first cap).run Tryd.prog w = .ok (.func fn first cap) w := fun _ _ _ _ => rfl
  obtain ⟨q, hq, hqn⟩ : ∃ q : Nat, (n : Int) / 2 + 1 = (q : Int) ∧ q ≤ n + 1 := ⟨n / 2 + 1, by omega, by omega⟩
  have HL := Lib.hid hx.len
  have HX := Lib.hid hx
  have HZ := Lib.hid hz
  clear hx hz
  go_enter Tryd.func48, Tryd.ntmps48
  go_wp2_with (at_make; (refine wpList_make_own _ rfl _ _ 24 rfl w.heap.size 35 i0 (.int .i32 0) 1 Tryd.underlying24 hi hz0 hz1 .i64 .i64 _ q rfl rfl (by omega) (by rw [hz2]; omega) (by unfold maxLen; omega) (by omega) ?_); intro w2 hown hgrow; have hb2 : Below w.heap.size w w2 := (Below.refl _ _).grown hgrow (by omega) (fun _ h => by cases h); clear hgrow; have HO := Lib.hid hown; clear hown)
  clear hq
  go_loopw [0, 6] (fun bv v wr => ∃ (pos m cp : Nat) (A' : Option Addr) (acc : List Int), bv = .slice A' m cp ∧ Hid (m + pos = n) ∧ m ≤ cp ∧ cp ≤ 9223372036854775807 ∧ Hid (acc ++ dec g (zs.drop pos) = dec g zs) ∧ Hid (acc.length ≤ pos) ∧ Hid (RI .u8 w B A' m (zs.drop pos)) ∧ Hid (wr.ownsRow w.heap.size 35 1 v acc.length (acc.map (Value.int .i32))) ∧ Below w.heap.size w wr) (fun bv _ _ => lenV bv)
  case atStart => exact ⟨0, n, c, A, [], rfl, rfl, hnc, hc, rfl, Nat.le_refl _, HX.out, HO.out, hb2⟩
  case round =>
    obtain ⟨pos, m, cp, A', acc, rfl, HM, hmc, hcp, HST, HAC, HR, HW, hbr⟩ := hrel
    have hsz := hbr.size
    by_cases hm : 0 < m
    · obtain ⟨ad, z, rfl, hbl, hzp, hcell⟩ := HR.out.at_ hm
      clear hzp hcell
      have hp : pos < zs.length := by have := HM.out; have := HL.out; omega
      have hdl : (zs.drop pos).length = m := HR.out.len
      have HP := Lib.hid hp
      have HDL := Lib.hid hdl
      obtain ⟨u, k, hsc⟩ : ∃ u k, scal g (zs.drop pos) = (u, k) := ⟨_, _, rfl⟩
      have hkl := scal_le g (zs.drop pos)
      rw [hsc, hdl] at hkl
      have hkm : k ≤ m := hkl
      have HSC := Lib.hid hsc
      have hrw : RI .u8 wr B (some ad) m (zs.drop pos) := HR.out.keep fun p hp => hbr.cell (p := p) (by omega)
      have HRW := Lib.hid hrw
      clear hrw hsc hkl hp hdl
      rcases Nat.eq_zero_or_pos k with hk0 | hk0
      · subst hk0
        obtain ⟨s, hs, hsw, hs0, hsm⟩ : ∃ s : Nat, min (m : Int) 2 = (s : Int) ∧ wid g (zs.drop pos) = s ∧ 0 < s ∧ s ≤ m := ⟨min m 2, by omega, by rw [wid_zero HSC.out, HDL.out], by omega, by omega⟩
        have HSW := Lib.hid hsw
        clear hsw
        go_wp2_with fail
        refine (scalarAt_is g wr B (some ad) m cp (zs.drop pos) u 0 HSC.out HRW.out (by omega) (bd_drop HZ.out pos)).mono ?_
        rintro e w3 ⟨rfl, hb3⟩
        have hs3 := hb3.size
        have HOW := Lib.hid (own_keep HW.out hb3)
        have hbW : Below w.heap.size w w3 := hbr.trans (hb3.mono hsz)
        have hfr : RI .u8 w3 B (some ad) s ((zs.drop pos).take s) := (HRW.out.on hb3 (by omega)).front hsm
        have HFR := Lib.hid hfr
        clear hfr
        have hcut : RI .u8 w B (if cp = s then some ad else (some ad).map (·.add s)) (m - s) (zs.drop (pos + s)) := by
          have := HR.out.behind (k := s) (cap := cp) hsm hmc
          rwa [List.drop_drop] at this
        have HCUT := Lib.hid hcut
        clear hcut
        go_wp2_with fail
        refine (appendEscapes_any w3 w.heap.size B _ acc (some ad) s cp _ HFR.out (bd_take (bd_drop HZ.out pos) s) hB (by omega) HOW.out (by have := HAC.out; have := HM.out; omega)).mono ?_
        rintro e w4 ⟨v4, rfl, hown4, hb4⟩
        have HO4 := Lib.hid hown4
        have hcs : cel g (zs.drop pos) = escs ((zs.drop pos).take s) := by rw [cel_zero HSC.out, HSW.out]
        have hst' := dec_go HST.out HP.out HSW.out hcs
        have HST' := Lib.hid hst'
        have hal : Hid ((acc ++ escs ((zs.drop pos).take s)).length ≤ pos + s) := by
          have := HAC.out
          show _ ≤ _
          simp [escs_len]
          omega
        clear hown4 hcs hst'
        go_wp2
        go_roundw
        case rel => exact ⟨pos + s, m - s, cp - s, _, acc ++ escs ((zs.drop pos).take s), rfl, by have := HM.out; show m - s + (pos + s) = n; omega, by omega, by omega, HST'.out, hal, HCUT.out, HO4.out, hbW.trans hb4⟩
        case measure => simp [lenV]; omega
      · have hk1 : ((k : Int) == 0) = false := by simp; omega
        go_wp2_with fail
        refine (scalarAt_is g wr B (some ad) m cp (zs.drop pos) u k HSC.out HRW.out (by omega) (bd_drop HZ.out pos)).mono ?_
        rintro e w3 ⟨rfl, hb3⟩
        have hs3 := hb3.size
        have HOW := Lib.hid (own_keep HW.out hb3)
        have hbW : Below w.heap.size w w3 := hbr.trans (hb3.mono hsz)
        have hcut : RI .u8 w B (if cp = k then some ad else (some ad).map (·.add k)) (m - k) (zs.drop (pos + k)) := by
          have := HR.out.behind (k := k) (cap := cp) hkm hmc
          rwa [List.drop_drop] at this
        have HCUT := Lib.hid hcut
        clear hcut
        go_wp2_with (at_builtin; (refine wpList_append_own _ rfl _ _ 24 rfl w.heap.size 35 i0 (.int .i32 0) 1 4 Tryd.underlying24 hi hz0 hz1 hz2 rfl (by decide) _ _ _ rfl (HOW.out.alloc _) _ 1 1 [.int .i32 u] rfl rfl (cell_one_new _ _ _) (by intro u hu; simp at hu; subst hu; rfl) (by unfold maxLen; have := HAC.out; have := HM.out; omega) (by have := HAC.out; have := HM.out; omega) (by simp; omega) ?_); intro v' w4 hown' hgrow _; have HO4 := Lib.hid hown'; have HG4 := Lib.hid hgrow; clear hown' hgrow)
        have hst' := dec_go HST.out HP.out (wid_some HSC.out hk0) (cel_some HSC.out hk0)
        have HST' := Lib.hid hst'
        have hal : Hid ((acc ++ [u]).length ≤ pos + k) := by
          have := HAC.out
          show _ ≤ _
          simp
          omega
        clear hst'
        go_roundw
        case rel => exact ⟨pos + k, m - k, cp - k, _, acc ++ [u], rfl, by have := HM.out; show m - k + (pos + k) = n; omega, by omega, by omega, HST'.out, hal, HCUT.out, by simpa [Hid] using HO4.out, ((hbW.alloc (by omega) _).grown HG4.out (by simp; omega) (fun k hk => (HOW.out.lt k hk).1))⟩
        case measure => simp [lenV]; omega
    · have hm0 : m = 0 := by omega
      subst hm0
      have hend : acc = dec g zs := by
        have := HST.out
        rwa [List.drop_of_length_le (by have := HM.out; have := HL.out; omega), dec_nil, List.append_nil] at this
      have HE := Lib.hid hend
      clear hend
      go_wp2
      go_ret
      refine ⟨_, rfl, ?_, hbr⟩
      rw [← HE.out]
      exact HW.out
end Go.Proofs.YtijlecfjgcohhaaDoor.C.U
