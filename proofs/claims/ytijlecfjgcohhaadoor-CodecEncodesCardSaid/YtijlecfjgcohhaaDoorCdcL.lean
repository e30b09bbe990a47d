/-
  Contracts of Latin-1's two functions and of what they call: the cells of bytes, the bytes of cells, in new memory, or the error; nothing that was there changes. No condition.
-/
import Derived.Test.YtijlecfjgcohhaaDoorCdF
namespace Go.Proofs.YtijlecfjgcohhaaDoor.C
open Go.RowKit

/-- so far these, the others 0 -/
def fill (zs : List Int) (n k : Nat) : List Int := zs.take k ++ List.replicate (n - k) 0
theorem fill_zero (zs : List Int) (n : Nat) : fill zs n 0 = List.replicate n 0 := by simp [fill]
theorem fill_all {zs : List Int} {n k : Nat} (h : zs.length = n) (hk : n ≤ k) : fill zs n k = zs := by
  unfold fill
  rw [List.take_of_length_le (by omega), show n - k = 0 by omega]
  simp
theorem fill_len {zs : List Int} {n k : Nat} (h : zs.length = n) (hk : k ≤ n) : (fill zs n k).length = n := by
  unfold fill
  rw [List.length_append, List.length_take, List.length_replicate]
  omega
theorem fill_set {zs : List Int} {n k : Nat} {a : Int} (h : zs[k]? = some a) (hl : zs.length = n) : (fill zs n k).set k a = fill zs n (k + 1) := by
  have hk : k < zs.length := (List.getElem?_eq_some_iff.1 h).1
  have ht : (zs.take k).length = k := by rw [List.length_take]; omega
  unfold fill
  rw [take_snoc h, List.set_append_right _ _ (by rw [ht]; exact Nat.le_refl _), ht, Nat.sub_self, show n - k = (n - (k + 1)) + 1 by omega, List.replicate_succ, List.set_cons_zero]
  simp

/-- the byte of a cell that has one -/
def lat (c : Int) : Int := if c < 0 then -1 - c else c
def latL (xs : List Int) : List Int := xs.map lat
theorem latL_len (xs : List Int) : (latL xs).length = xs.length := by simp [latL]
theorem latL_at {xs : List Int} {k : Nat} {c : Int} (h : xs[k]? = some c) : (latL xs)[k]? = some (lat c) := by simp [latL, h]
theorem latL_bytes {zs : List Int} (h : Bd zs) : latL zs = zs := by
  unfold latL
  conv => rhs; rw [← List.map_id zs]
  refine List.map_congr_left fun z hz => ?_
  have := h z hz
  simp only [lat, id_eq]
  rw [if_neg (by omega)]
theorem rep_map (n : Nat) (k : IntKind) : List.replicate n (Value.int k 0) = (List.replicate n (0 : Int)).map (Value.int k) := by simp

set_option maxRecDepth 100000 in
set_option maxHeartbeats 1000000 in
theorem decodeLatin1_any (w : World) (B : Nat) (A : Option Addr) (n c : Nat) (zs : List Int) (hx : RI .u8 w B A n zs) (hB : B ≤ w.heap.size) (hz : Bd zs) (hn : n ≤ 1073741824) :
    Calls Tryd.prog 33 #[.slice A n c] w fun e w' => ∃ v, e = .returned v ∧ w'.ownsRow w.heap.size 35 1 v n (zs.map (Value.int .i32)) ∧ Below w.heap.size w w' := by
  obtain ⟨i0, hi, hz0, hz1, hz2⟩ := info_parts info33
  have HX := Lib.hid hx
  have HZ := Lib.hid hz
  clear hx hz
  go_enter Tryd.func33, Tryd.ntmps33
  go_wp2_with (at_make; (refine wpList_make_full _ rfl _ _ 24 rfl w.heap.size 35 i0 (.int .i32 0) 1 Tryd.underlying24 hi hz0 hz1 .i64 .i64 _ _ n rfl rfl (by omega) (by omega) (by rw [hz2]; omega) (by unfold maxLen; omega) (Nat.le_refl _) ?_); intro w1 hown hgrow; have hb1 : Below w.heap.size w w1 := (Below.refl _ _).grown hgrow (Nat.le_refl _) (fun _ h => by cases h); have HO := Lib.hid hown; clear hown hgrow)
  go_loopw [11] (fun iv wr => ∃ k : Nat, k ≤ n ∧ iv = .int .i64 k ∧ Hid (wr.ownsRow w.heap.size 35 1 (.slice (some ⟨w.heap.size, 0, none⟩) n n) n ((fill zs n k).map (Value.int .i32))) ∧ Below w.heap.size w wr) (fun iv _ => n - (intOf iv).toNat)
  case atStart =>
    refine ⟨0, Nat.zero_le _, rfl, ?_, hb1⟩
    have := HO.out
    rw [Nat.mul_one, show (Value.int IntKind.i32 0).cells = #[Value.int IntKind.i32 0] from rfl, toList_madeCells_one, rep_map, ← fill_zero zs n] at this
    exact this
  case round =>
    obtain ⟨k, hk, rfl, HQ, hbr⟩ := hrel
    have hsz := hbr.size
    by_cases hlt : k < n
    · obtain ⟨ad, u, rfl, hbl, hu, hcell⟩ := HX.out.at_ hlt
      have hcr : wr.cell? (ad.add k) = some (.int .u8 u) := (hbr.cell (p := ad.add k) (by rw [block_of_add]; omega)).trans hcell
      obtain ⟨u0, u1⟩ := HZ.out u (List.mem_of_getElem? hu)
      have hca : (wr.cell? ⟨w.heap.size, k, none⟩).isSome = true := by
        rw [HQ.out.cellAt k (by omega), List.getElem?_map, List.getElem?_eq_getElem (by rw [fill_len HX.out.len hk]; exact hlt)]
        rfl
      obtain ⟨uu, hcu⟩ := Option.isSome_iff_exists.1 hca
      have hfa : wr.frozen? ⟨w.heap.size, k, none⟩ = false := HQ.out.frozenAt k
      obtain ⟨ho1, hgr1⟩ := HQ.out.stored k (.int .i32 u)
      have hbs : Below w.heap.size w (wr.setCell ⟨w.heap.size, k, none⟩ (.int .i32 u)) := hbr.grown hgr1 hsz (fun q hq => by injection hq with hq; omega)
      have hos : (wr.setCell ⟨w.heap.size, k, none⟩ (.int .i32 u)).ownsRow w.heap.size 35 1 (.slice (some ⟨w.heap.size, 0, none⟩) n n) n ((fill zs n (k + 1)).map (Value.int .i32)) := by
        rw [← fill_set hu HX.out.len, List.map_set]
        exact ho1
      have HBS := Lib.hid hbs
      have HOS := Lib.hid hos
      clear ho1 hgr1 hbs hos hu hcell hca
      go_wp2
      go_roundw
      case rel => exact ⟨k + 1, by omega, by go_num, HOS.out, HBS.out⟩
      case measure => simp [intOf]; omega
    · have hkn : k = n := by omega
      have ho : wr.ownsRow w.heap.size 35 1 (.slice (some ⟨w.heap.size, 0, none⟩) n n) n (zs.map (Value.int .i32)) := by
        have := HQ.out
        rwa [fill_all HX.out.len (by omega)] at this
      have HO2 := Lib.hid ho
      clear hkn ho
      go_wp2
      go_ret
      exact ⟨_, rfl, HO2.out, hbr⟩

set_option maxRecDepth 100000 in
theorem isNoCell_any (c : Int) (w : World) (r : Bool) (hr : rightB c = r) :
    Calls Tryd.prog 52 #[.int .i32 c] w fun e w' => e = .returned (.bool (!r)) ∧ w = w' := by
  go_enter Tryd.func52, Tryd.ntmps52
  go_wp2_with fail
  refine (right_is c w r hr).mono ?_
  rintro e w' ⟨rfl, rfl⟩
  go_wp2
  go_ret
  exact ⟨rfl, rfl⟩

/-- what IndexFunc answers, asked for what is no cell -/
def IdxTold (xs : List Int) (w : World) (e : Ending) (w' : World) : Prop :=
  w = w' ∧ ∃ r : Int, e = .returned (.int .i64 r) ∧ ((r = -1 ∧ xs.all rightB = true) ∨ (0 ≤ r ∧ xs.all rightB = false))

set_option maxRecDepth 100000 in
set_option maxHeartbeats 1000000 in
theorem indexFunc_any (w : World) (B : Nat) (A : Option Addr) (n c : Nat) (xs : List Int) (hx : RI .i32 w B A n xs) (hn : n ≤ 9223372036854775807) :
    Calls Tryd.prog 71 #[.slice A n c, .func (.func 52) #[] #[]] w (IdxTold xs w) := by
  have HX := Lib.hid hx
  clear hx
  go_enter Tryd.func71, Tryd.ntmps71
  go_wp2
  go_loopw [8] (fun iv wr => ∃ k : Nat, k ≤ n ∧ iv = .int .i64 k ∧ Hid ((xs.take k).all rightB = true) ∧ w = wr) (fun iv _ => n - (intOf iv).toNat)
  case atStart => exact ⟨0, Nat.zero_le _, rfl, rfl, rfl⟩
  case round =>
    obtain ⟨k, hk, rfl, HA, rfl⟩ := hrel
    by_cases hlt : k < n
    · obtain ⟨ad, u, rfl, hbl, hu, hcell⟩ := HX.out.at_ hlt
      have HU := Lib.hid hu
      clear hu
      cases hru : rightB u with
      | true =>
        have HRU := Lib.hid hru
        clear hru
        go_wp2_with fail
        refine (isNoCell_any u w true HRU.out).mono ?_
        rintro e w' ⟨rfl, rfl⟩
        go_wp2
        go_roundw
        case rel => exact ⟨k + 1, by omega, by go_num, take_right HA.out HU.out HRU.out, trivial⟩
        case measure => simp [intOf]; omega
      | false =>
        have HRU := Lib.hid hru
        clear hru
        go_wp2_with fail
        refine (isNoCell_any u w false HRU.out).mono ?_
        rintro e w' ⟨rfl, rfl⟩
        go_wp2
        go_ret
        exact ⟨rfl, _, rfl, .inr ⟨by omega, not_right HU.out HRU.out⟩⟩
    · have hkn : xs.take k = xs := List.take_of_length_le (by rw [HX.out.len]; omega)
      have ha : xs.all rightB = true := by
        have := HA.out
        rwa [hkn] at this
      have HL := Lib.hid ha
      clear hkn ha
      go_wp2
      go_ret
      exact ⟨rfl, _, rfl, .inl ⟨rfl, HL.out⟩⟩

set_option maxRecDepth 100000 in
theorem containsFunc_any (w : World) (B : Nat) (A : Option Addr) (n c : Nat) (xs : List Int) (hx : RI .i32 w B A n xs) (hn : n ≤ 9223372036854775807) (r : Bool) (hr : xs.all rightB = r) :
    Calls Tryd.prog 51 #[.slice A n c, .func (.func 52) #[] #[]] w fun e w' => e = .returned (.bool (!r)) ∧ w = w' := by
  go_enter Tryd.func51, Tryd.ntmps51
  go_wp2_with fail
  refine (indexFunc_any w B A n c xs hx hn).mono ?_
  rintro e w' ⟨rfl, q, rfl, ⟨rfl, h⟩ | ⟨h0, h⟩⟩
  · have hrt : r = true := hr.symm.trans h
    clear hr h
    subst hrt
    go_wp2
    go_ret
    exact ⟨rfl, rfl⟩
  · have hrt : r = false := hr.symm.trans h
    clear hr h
    subst hrt
    go_wp2
    go_ret
    exact ⟨by simp, rfl⟩

set_option maxRecDepth 100000 in
theorem latin1Byte_any (c : Int) (w : World) (h0 : -256 ≤ c) (h1 : c ≤ 255) (b : Int) (hb : lat c = b) :
    Calls Tryd.prog 53 #[.int .i32 c] w fun e w' => e = .returned (.int .u8 b) ∧ w = w' := by
  subst hb
  unfold lat
  by_cases hc : c < 0
  · rw [if_pos hc]
    go_enter Tryd.func53, Tryd.ntmps53
    go_wp2_with fail
    refine (byte_yes c w h0 hc).mono ?_
    rintro e w' ⟨rfl, rfl⟩
    go_wp2
    go_ret
    exact ⟨rfl, rfl⟩
  · rw [if_neg hc]
    have c0 : 0 ≤ c := by omega
    go_enter Tryd.func53, Tryd.ntmps53
    go_wp2_with fail
    refine (byte_no c w (.inr c0)).mono ?_
    rintro e w' ⟨rfl, rfl⟩
    go_wp2
    go_ret
    exact ⟨by go_num, rfl⟩

/-- what encodeLatin1 answers -/
def LatTold (xs : List Int) (w : World) (e : Ending) (w' : World) : Prop :=
  Below w.heap.size w w' ∧ ((xs.all rightB = false ∧ e = .returned (.tuple #[.slice none 0 0, .int .u16 10])) ∨
    (xs.all rightB = true ∧ (xs.all (fun c => decide (c ≤ 255)) = false) ∧ e = .returned (.tuple #[.slice none 0 0, .int .u16 11])) ∨
    (xs.all rightB = true ∧ (xs.all (fun c => decide (c ≤ 255)) = true) ∧ ∃ v, e = .returned (.tuple #[v, .int .u16 0]) ∧ w'.ownsRow w.heap.size 5 1 v xs.length ((latL xs).map (Value.int .u8))))
theorem take_low {xs : List Int} {k : Nat} {c : Int} (h : (xs.take k).all (fun c => decide (c ≤ 255)) = true) (hc : xs[k]? = some c) (hr : c ≤ 255) : (xs.take (k + 1)).all (fun c => decide (c ≤ 255)) = true := by
  rw [take_snoc hc, List.all_append, h]
  simp [hr]
theorem not_low {xs : List Int} {k : Nat} {c : Int} (hc : xs[k]? = some c) (hr : ¬ c ≤ 255) : xs.all (fun c => decide (c ≤ 255)) = false := by
  rw [List.all_eq_false]
  exact ⟨c, List.mem_of_getElem? hc, by simp; omega⟩

set_option maxRecDepth 100000 in
set_option maxHeartbeats 2000000 in
theorem encodeLatin1_told (w : World) (B : Nat) (A : Option Addr) (n c : Nat) (xs : List Int) (hx : RI .i32 w B A n xs) (hB : B ≤ w.heap.size) (hn : n ≤ 1073741824) :
    Calls Tryd.prog 34 #[.slice A n c] w (LatTold xs w) := by
  obtain ⟨i0, hi, hz0, hz1, hz2⟩ := info_parts info8
  have HX := Lib.hid hx
  clear hx
  cases ha : xs.all rightB with
  | false =>
    have HA := Lib.hid ha
    clear ha
    go_enter Tryd.func34, Tryd.ntmps34
    go_wp2_with fail
    with_reducible refine (containsFunc_any w B A n c xs HX.out (by omega) false HA.out).mono ?_
    rintro e w' ⟨rfl, rfl⟩
    go_wp2
    go_ret2
    exact ⟨Below.refl _ _, .inl ⟨HA.out, rfl⟩⟩
  | true =>
    have HA := Lib.hid ha
    clear ha
    go_enter Tryd.func34, Tryd.ntmps34
    go_wp2_with fail
    with_reducible refine (containsFunc_any w B A n c xs HX.out (by omega) true HA.out).mono ?_
    rintro e w' ⟨rfl, rfl⟩
    go_wp2_with (at_make; (refine wpList_make_full _ rfl _ _ 22 rfl w.heap.size 5 i0 (.int .u8 0) 1 Tryd.underlying22 hi hz0 hz1 .i64 .i64 _ _ n rfl rfl (by omega) (by omega) (by rw [hz2]; omega) (by unfold maxLen; omega) (Nat.le_refl _) ?_); intro w1 hown hgrow; have hb1 : Below w.heap.size w w1 := (Below.refl _ _).grown hgrow (Nat.le_refl _) (fun _ h => by cases h); have HO := Lib.hid hown; clear hown hgrow)
    go_loopw [14] (fun iv wr => ∃ k : Nat, k ≤ n ∧ iv = .int .i64 k ∧ Hid ((xs.take k).all (fun c => decide (c ≤ 255)) = true) ∧ Hid (wr.ownsRow w.heap.size 5 1 (.slice (some ⟨w.heap.size, 0, none⟩) n n) n ((fill (latL xs) n k).map (Value.int .u8))) ∧ Below w.heap.size w wr) (fun iv _ => n - (intOf iv).toNat)
    case atStart =>
      refine ⟨0, Nat.zero_le _, rfl, rfl, ?_, hb1⟩
      have := HO.out
      rw [Nat.mul_one, show (Value.int IntKind.u8 0).cells = #[Value.int IntKind.u8 0] from rfl, toList_madeCells_one, rep_map, ← fill_zero (latL xs) n] at this
      exact this
    case round =>
      obtain ⟨k, hk, rfl, HL, HQ, hbr⟩ := hrel
      have hsz := hbr.size
      have hll : (latL xs).length = n := (latL_len xs).trans HX.out.len
      by_cases hlt : k < n
      · obtain ⟨ad, u, rfl, hbl, hu, hcell⟩ := HX.out.at_ hlt
        have hcr : wr.cell? (ad.add k) = some (.int .i32 u) := (hbr.cell (p := ad.add k) (by rw [block_of_add]; omega)).trans hcell
        have hru : rightB u = true := (List.all_eq_true.1 HA.out) u (List.mem_of_getElem? hu)
        have hub : -256 ≤ u ∧ u ≤ 1114111 := by unfold rightB at hru; simp at hru; omega
        obtain ⟨u0, u1⟩ := hub
        have HU := Lib.hid hu
        clear hcell hu hru
        by_cases hlow : u ≤ 255
        · have hca : (wr.cell? ⟨w.heap.size, k, none⟩).isSome = true := by
            rw [HQ.out.cellAt k (by omega), List.getElem?_map, List.getElem?_eq_getElem (by rw [fill_len hll hk]; exact hlt)]
            rfl
          obtain ⟨uu, hcu⟩ := Option.isSome_iff_exists.1 hca
          have hfa : wr.frozen? ⟨w.heap.size, k, none⟩ = false := HQ.out.frozenAt k
          obtain ⟨b, hlb⟩ : ∃ b, lat u = b := ⟨_, rfl⟩
          obtain ⟨ho1, hgr1⟩ := HQ.out.stored k (.int .u8 b)
          have hbs : Below w.heap.size w (wr.setCell ⟨w.heap.size, k, none⟩ (.int .u8 b)) := hbr.grown hgr1 hsz (fun q hq => by injection hq with hq; omega)
          have hos : (wr.setCell ⟨w.heap.size, k, none⟩ (.int .u8 b)).ownsRow w.heap.size 5 1 (.slice (some ⟨w.heap.size, 0, none⟩) n n) n ((fill (latL xs) n (k + 1)).map (Value.int .u8)) := by
            rw [← fill_set (latL_at HU.out) hll, List.map_set, hlb]
            exact ho1
          have HBS := Lib.hid hbs
          have HOS := Lib.hid hos
          have HLB := Lib.hid hlb
          have k0 : (0 : Int) ≤ (k : Int) := by omega
          have k1 : (k : Int) < (n : Int) := by omega
          clear ho1 hgr1 hbs hos hca hlb hll
          go_wp2_with fail
          with_reducible refine (latin1Byte_any u wr u0 hlow b HLB.out).mono ?_
          rintro e w' ⟨rfl, rfl⟩
          go_wp2
          go_roundw
          case rel => exact ⟨k + 1, by omega, by go_num, take_low HL.out HU.out hlow, HOS.out, HBS.out⟩
          case measure => simp [intOf]; omega
        · go_wp2
          go_ret2
          exact ⟨hbr, .inr (.inl ⟨HA.out, not_low HU.out (by omega), rfl⟩)⟩
      · have hkn : k = n := by omega
        have ho : wr.ownsRow w.heap.size 5 1 (.slice (some ⟨w.heap.size, 0, none⟩) n n) n ((latL xs).map (Value.int .u8)) := by
          have := HQ.out
          rwa [fill_all hll (by omega)] at this
        have hlo : xs.all (fun c => decide (c ≤ 255)) = true := by
          have := HL.out
          rwa [List.take_of_length_le (by rw [HX.out.len]; omega)] at this
        have HO2 := Lib.hid ho
        have HLO := Lib.hid hlo
        have hlen := HX.out.len
        clear hkn ho hlo hll
        go_wp2
        go_ret2
        refine ⟨hbr, .inr (.inr ⟨HA.out, HLO.out, _, rfl, ?_⟩)⟩
        rw [hlen]
        exact HO2.out
end Go.Proofs.YtijlecfjgcohhaaDoor.C
