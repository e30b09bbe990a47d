/-
  The generator Bytes of layer 3's statements.
-/
import Derived.Test.YtijlecfjgcohhaaDoorCuG
namespace Go.Proofs.YtijlecfjgcohhaaDoor.C.U
open Go.RowKit

/-- the bytes that choices choose from -/
def tabB : List Int := [0, 65, 215, 216, 219, 220, 223, 224, 255, 254, 61, 10]
def byteOf (k : Int) : Int := tabB.getD (k % 12).toNat 0
def bytesL (zs : List Int) : List Int := (zs.take 60).map byteOf
theorem bytesL_len (zs : List Int) : (bytesL zs).length ≤ 60 := by simp [bytesL]; omega
theorem tabB_bd : Bd tabB := by intro z hz; revert z; decide
theorem byteOf_bd (k : Int) : 0 ≤ byteOf k ∧ byteOf k ≤ 255 := by
  unfold byteOf
  rcases Nat.lt_or_ge (k % 12).toNat tabB.length with h | h
  · rw [List.getD_eq_getElem?_getD, List.getElem?_eq_getElem h]
    exact tabB_bd _ (List.getElem_mem h)
  · rw [List.getD_eq_getElem?_getD, List.getElem?_eq_none h]
    simp
theorem bytesL_bd (zs : List Int) : Bd (bytesL zs) := by
  intro z hz
  obtain ⟨k, _, rfl⟩ := List.mem_map.1 hz
  exact byteOf_bd k
theorem byteOf_at (k : Int) : tabB[(k % 12).toNat]? = some (byteOf k) := by
  have h : (k % 12).toNat < tabB.length := by show _ < 12; omega
  unfold byteOf
  rw [List.getD_eq_getElem?_getD, List.getElem?_eq_getElem h]
  rfl

set_option maxRecDepth 100000 in
set_option maxHeartbeats 2000000 in
theorem bytes_any (w : World) (Bx : Nat) (Ax : Option Addr) (n cx : Nat) (zs : List Int) (hx : RI .u8 w Bx Ax n zs) (hBx : Bx ≤ w.heap.size) (hn : n ≤ 9223372036854775807) (hz : Bd zs) :
    Calls Tryd.prog 25 #[.slice Ax n cx] w fun e w' => ∃ v, e = .returned v ∧ w'.ownsRow w.heap.size 5 1 v (bytesL zs).length ((bytesL zs).map (Value.int .u8)) ∧ Below w.heap.size w w' := by
  obtain ⟨i0, hi, hz0, hz1, hz2⟩ := info_parts info8
  have HX := Lib.hid hx
  have HZ := Lib.hid hz
  clear hx hz
  go_enter Tryd.func25, Tryd.ntmps25
  go_wp2
  go_loopw [4, 5] (fun v iv wr => ∃ i : Nat, i ≤ n ∧ i ≤ 60 ∧ iv = .int .i64 i ∧ w.heap.size + 1 ≤ wr.heap.size ∧ Hid (RI .u8 wr (w.heap.size + 1) (some ⟨w.heap.size, 0, none⟩) 12 tabB) ∧ Hid (wr.ownsRow (w.heap.size + 1) 5 1 v i (((zs.take i).map byteOf).map (Value.int .u8))) ∧ Below w.heap.size w wr) (fun _ iv _ => 60 - (intOf iv).toNat)
  case atStart => exact ⟨0, by omega, by omega, rfl, by simp, RI.new w .u8 tabB _, World.ownsRow_nil _ _ _ _, (Below.refl _ _).alloc (Nat.le_refl _) _⟩
  case round =>
    obtain ⟨i, hin, hi60, rfl, hsz, HTB, HW, hb⟩ := hrel
    by_cases hlt : i < n ∧ i < 60
    · obtain ⟨h1, h2⟩ := hlt
      obtain ⟨ad, k, rfl, hbl, hk, hcell⟩ := HX.out.at_ h1
      have hcr : wr.cell? (ad.add i) = some (.int .u8 k) := (hb.cell (p := ad.add i) (by rw [block_of_add]; omega)).trans hcell
      obtain ⟨k0, k1⟩ := HZ.out k (List.mem_of_getElem? hk)
      have HK := Lib.hid hk
      have hct : wr.cell? ⟨w.heap.size, (k % 12).toNat, none⟩ = some (.int .u8 (byteOf k)) := by
        obtain ⟨b, off, e, _, hc⟩ := HTB.out.flat (by omega)
        injection e with e
        injection e with e1 e2
        subst e1 e2
        have := hc _ _ (byteOf_at k)
        simpa using this
      clear hk hcell
      go_wp2_with (at_builtin; (refine wpList_append_own _ rfl _ _ 22 rfl (w.heap.size + 1) 5 i0 (.int .u8 0) 1 1 Tryd.underlying22 hi hz0 hz1 hz2 rfl (by decide) _ _ _ rfl (HW.out.alloc _) _ 1 1 [.int .u8 (byteOf k)] rfl rfl (cell_one_new _ _ _) (by intro u hu; simp at hu; subst hu; rfl) (by unfold maxLen; omega) (by omega) (by simp; omega) ?_); intro v' w3 hown' hgrow _; have HO3 := Lib.hid hown'; have HG3 := Lib.hid hgrow; clear hown' hgrow)
      have hlt3 := fun g (hg : _ = some g) => (HW.out.lt g hg).1
      have hown2 : Hid (w3.ownsRow (w.heap.size + 1) 5 1 v' (i + 1) (((zs.take (i + 1)).map byteOf).map (Value.int .u8))) := by
        rw [take_snoc HK.out]
        simpa [Hid] using HO3.out
      have hsz3 : w.heap.size + 1 ≤ w3.heap.size := by have := HG3.out.size; simp at this; omega
      go_roundw
      case rel => exact ⟨i + 1, by omega, by omega, by go_num, hsz3, (HTB.out.alloc hsz _).grown HG3.out (by simp; omega) hlt3, hown2, (hb.alloc (by omega) _).grown HG3.out (by simp; omega) (fun g hg => Nat.le_of_succ_le (hlt3 g hg))⟩
      case measure => simp [intOf]; omega
    · have hv : bytesL zs = (zs.take i).map byteOf := by
        unfold bytesL
        rcases Nat.lt_or_ge i 60 with h | h
        · rw [List.take_of_length_le (by rw [HX.out.len]; omega), List.take_of_length_le (by rw [HX.out.len]; omega)]
        · rw [show i = 60 by omega]
      have hl : (bytesL zs).length = i := by
        rw [hv]
        have := HX.out.len
        simp; omega
      have HV := Lib.hid hv
      have HL := Lib.hid hl
      clear hv hl
      by_cases h1 : i < n
      · have h2 : ¬ i < 60 := fun h => hlt ⟨h1, h⟩
        clear hlt
        go_wp2
        go_ret
        refine ⟨_, rfl, ?_, hb⟩
        rw [HL.out, HV.out]
        exact own_less HW.out (Nat.le_succ _)
      · clear hlt
        go_wp2
        go_ret
        refine ⟨_, rfl, ?_, hb⟩
        rw [HL.out, HV.out]
        exact own_less HW.out (Nat.le_succ _)
end Go.Proofs.YtijlecfjgcohhaaDoor.C.U
