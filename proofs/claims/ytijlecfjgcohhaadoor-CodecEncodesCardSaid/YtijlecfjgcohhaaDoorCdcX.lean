/-
  Contracts of the document's latin and Encode of layer 4: the bytes of a document, of whatever encoding, are what the plain function says, in new memory, or the error; nothing that was there changes. No condition.
-/
import Derived.Test.YtijlecfjgcohhaaDoorCdcT
import Derived.Deep.AppendLies
namespace Go.Proofs.YtijlecfjgcohhaaDoor.C
open Go.RowKit

/-- what the document's latin answers -/
def RLatTold (xs : List Int) (w : World) (e : Ending) (w' : World) : Prop :=
  Below w.heap.size w w' ∧ ((lowB xs = false ∧ e = .returned (.tuple #[.slice none 0 0, .int .i64 11])) ∨
    (lowB xs = true ∧ ∃ v, e = .returned (.tuple #[v, .int .i64 0]) ∧ w'.ownsRow w.heap.size 5 1 v xs.length ((latL xs).map (Value.int .u8))))
theorem latL_snoc {xs : List Int} {k : Nat} {c : Int} (h : xs[k]? = some c) : latL (xs.take (k + 1)) = latL (xs.take k) ++ [lat c] := by
  rw [take_snoc h]
  simp [latL]

set_option maxRecDepth 100000 in
set_option maxHeartbeats 4000000 in
theorem rlatin_told (w : World) (B : Nat) (A : Option Addr) (n c : Nat) (xs : List Int) (hx : RI .i32 w B A n xs) (hB : B ≤ w.heap.size) (hn : n ≤ 1073741824) (ha : xs.all rightB = true) :
    Calls Tryd.prog 38 #[.slice A n c] w (RLatTold xs w) := by
  obtain ⟨i0, hi, hz0, hz1, hz2⟩ := info_parts info8
  have HX := Lib.hid hx
  have HA := Lib.hid ha
  clear hx ha
  go_enter Tryd.func38, Tryd.ntmps38
  go_wp2
  go_loopw [4, 5] (fun v iv wr => ∃ k : Nat, k ≤ n ∧ iv = .int .i64 k ∧ Hid (lowB (xs.take k) = true) ∧ Hid (wr.ownsRow w.heap.size 5 1 v k ((latL (xs.take k)).map (Value.int .u8))) ∧ Below w.heap.size w wr) (fun _ iv _ => n - (intOf iv).toNat)
  case atStart => exact ⟨0, Nat.zero_le _, rfl, rfl, World.ownsRow_nil _ _ _ _, Below.refl _ _⟩
  case round =>
    obtain ⟨k, hk, rfl, HL, HW, hb⟩ := hrel
    have hsz := hb.size
    by_cases hlt : k < n
    · obtain ⟨ad, u, rfl, hbl, hu, hcell⟩ := HX.out.at_ hlt
      have hcr : wr.cell? (ad.add k) = some (.int .i32 u) := (hb.cell (p := ad.add k) (by rw [block_of_add]; omega)).trans hcell
      have hru : rightB u = true := (List.all_eq_true.1 HA.out) u (List.mem_of_getElem? hu)
      have hub : -256 ≤ u ∧ u ≤ 1114111 := by unfold rightB at hru; simp at hru; omega
      obtain ⟨u0, u1⟩ := hub
      have k0 : (0 : Int) ≤ (k : Int) := by omega
      have k1 : (k : Int) < (n : Int) := by omega
      have HU := Lib.hid hu
      clear hcell hu hru
      by_cases hneg : u < 0
      · have hla : lat u = -1 - u := by unfold lat; rw [if_pos hneg]
        have hlu : u ≤ 255 := by omega
        have HLA := Lib.hid hla
        clear hla
        go_wp2_with fail
        refine (refByte_yes u wr u0 hneg).mono ?_
        rintro e w' ⟨rfl, rfl⟩
        go_wp2_with (at_builtin; (refine wpList_append_own _ rfl _ _ 22 rfl w.heap.size 5 i0 (.int .u8 0) 1 1 Tryd.underlying22 hi hz0 hz1 hz2 rfl (by decide) _ _ _ rfl (HW.out.alloc _) _ 1 1 [.int .u8 (-1 - u)] rfl rfl (cell_one_new _ _ _) (by intro u hu; simp at hu; subst hu; rfl) (by unfold maxLen; omega) (by omega) (by simp; omega) ?_); intro v' w3 hown' hgrow _; have HO3 := Lib.hid hown'; have HG3 := Lib.hid hgrow; clear hown' hgrow)
        have hown2 : Hid (w3.ownsRow w.heap.size 5 1 v' (k + 1) ((latL (xs.take (k + 1))).map (Value.int .u8))) := by
          rw [latL_snoc HU.out, HLA.out]
          simpa [Hid] using HO3.out
        go_roundw
        case rel => exact ⟨k + 1, by omega, by go_num, take_low HL.out HU.out hlu, hown2, (hb.alloc (by omega) _).grown HG3.out (by simp; omega) (fun g hg => (HW.out.lt g hg).1)⟩
        case measure => simp [intOf]; omega
      by_cases hlow : u ≤ 255
      · have hla : lat u = u := by unfold lat; rw [if_neg hneg]
        have HLA := Lib.hid hla
        have u2 : 0 ≤ u := by omega
        clear hla
        go_wp2_with fail
        refine (refByte_no u wr (.inr u2)).mono ?_
        rintro e w' ⟨rfl, rfl⟩
        go_wp2_with (at_builtin; (refine wpList_append_own _ rfl _ _ 22 rfl w.heap.size 5 i0 (.int .u8 0) 1 1 Tryd.underlying22 hi hz0 hz1 hz2 rfl (by decide) _ _ _ rfl (HW.out.alloc _) _ 1 1 [.int .u8 u] rfl rfl (cell_one_new _ _ _) (by intro u hu; simp at hu; subst hu; rfl) (by unfold maxLen; omega) (by omega) (by simp; omega) ?_); intro v' w3 hown' hgrow _; have HO3 := Lib.hid hown'; have HG3 := Lib.hid hgrow; clear hown' hgrow)
        have hown2 : Hid (w3.ownsRow w.heap.size 5 1 v' (k + 1) ((latL (xs.take (k + 1))).map (Value.int .u8))) := by
          rw [latL_snoc HU.out, HLA.out]
          simpa [Hid] using HO3.out
        go_roundw
        case rel => exact ⟨k + 1, by omega, by go_num, take_low HL.out HU.out hlow, hown2, (hb.alloc (by omega) _).grown HG3.out (by simp; omega) (fun g hg => (HW.out.lt g hg).1)⟩
        case measure => simp [intOf]; omega
      · have u2 : 0 ≤ u := by omega
        have u3 : 255 < u := by omega
        go_wp2_with fail
        refine (refByte_no u wr (.inr u2)).mono ?_
        rintro e w' ⟨rfl, rfl⟩
        go_wp2
        go_ret2
        exact ⟨hb, .inl ⟨not_low HU.out (by omega), rfl⟩⟩
    · have hkn : k = n := by omega
      have hlo : lowB xs = true := by
        have := HL.out
        rwa [List.take_of_length_le (by rw [HX.out.len]; omega)] at this
      have ho : wr.ownsRow w.heap.size 5 1 u4 k ((latL xs).map (Value.int .u8)) := by
        have := HW.out
        rwa [List.take_of_length_le (by rw [HX.out.len]; omega)] at this
      have hlen := HX.out.len
      have HO := Lib.hid ho
      have HLO := Lib.hid hlo
      clear ho hlo
      go_wp2
      go_ret2
      refine ⟨hb, .inr ⟨HLO.out, _, rfl, ?_⟩⟩
      rw [hlen, ← hkn]
      exact HO.out
end Go.Proofs.YtijlecfjgcohhaaDoor.C
