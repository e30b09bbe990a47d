/-
  The walk of LexNames: for every choice of signs it returns true; nothing that was there changes. Condition: what is asked of the listed variables ('Gl').
-/
import Derived.Test.YtnifcgiajjmogaaDoorLxF
namespace Go.Proofs.YtnifcgiajjmogaaDoor.C
open Go.RowKit

/-- the sign of a choice -/
def chL (k : Nat) : UInt8 := ([97, 98, 122, 65, 90, 48, 49, 57, 45, 95] : List UInt8).getD k 0
def nmL (zs : List Int) : List UInt8 := 122 :: zs.map fun z => chL (z % 10).toNat
theorem chL_word : ∀ k, k < 10 → isW (chL k) = true := by decide +kernel
theorem nmL_word (zs : List Int) : ∀ b ∈ nmL zs, isW b = true := by
  intro b hb
  rcases List.mem_cons.1 hb with rfl | hb
  · decide +kernel
  · obtain ⟨z, _, rfl⟩ := List.mem_map.1 hb
    exact chL_word _ (by omega)
theorem nmL_snoc {zs : List Int} {k : Nat} {z : Int} (h : zs[k]? = some z) : nmL (zs.take (k + 1)) = nmL (zs.take k) ++ [chL (z % 10).toNat] := by
  rw [take_snoc h]
  simp [nmL]
theorem nmL_len (zs : List Int) (k : Nat) (h : k ≤ zs.length) : (nmL (zs.take k)).length = k + 1 := by simp [nmL]; omega
theorem slice_tab (p : Nat) (hp : p < 10) (W : World) : (Instr.slice 9 (.string ⟨#[97, 98, 122, 65, 90, 48, 49, 57, 45, 95]⟩) (some (.int .u8 (p : Int))) (some (.int .u8 ((p : Int) + 1))) none).run Tryd.prog W = .ok (.string (str [chL p])) W := by
  rcases (by omega : p = 0 ∨ p = 1 ∨ p = 2 ∨ p = 3 ∨ p = 4 ∨ p = 5 ∨ p = 6 ∨ p = 7 ∨ p = 8 ∨ p = 9) with rfl | rfl | rfl | rfl | rfl | rfl | rfl | rfl | rfl | rfl <;> kernel_rfl

set_option maxRecDepth 100000 in
set_option maxHeartbeats 4000000 in
theorem lexNamesWalk (a0 : Option Addr) (len0 cap0 : Nat) (z0 : List Int) (w : World) (hG : Gl w) (w0 : L.IsRow .u8 w a0 len0 cap0 z0) :
    Calls Tryd.prog 5 #[.slice a0 len0 cap0] w fun e w' => e = .returned (.bool true) ∧ Below w.heap.size w w' := by
  have HX := Lib.hid (RI.of_row w0)
  have HZ := Lib.hid (row_u8 w0)
  obtain ⟨hlc, hcm⟩ := row_len w0
  unfold maxLen at hcm
  generalize z0.take len0 = zs at *
  have HL := Lib.hid HX.out.len
  have HG := Lib.hid hG
  clear w0 hG
  go_enter Tryd.func5, Tryd.ntmps5
  go_wp2
  go_loopw [3, 4] (fun sv iv wr => ∃ (i q : Nat) (S : ByteArray), i ≤ len0 ∧ i ≤ 40 ∧ iv = .int .i64 i ∧ sv = .string S ∧ Hid (S = str (nmL (zs.take i))) ∧ S.size = i + 1 ∧ wr = w.drewN q) (fun _ iv _ => 40 - (intOf iv).toNat)
  case atStart => exact ⟨0, 0, _, Nat.zero_le _, Nat.zero_le _, rfl, rfl, Lib.hid rfl, rfl, rfl⟩
  case round =>
    obtain ⟨i, q, S, hin, hi40, rfl, rfl, HS, hsz, rfl⟩ := hrel
    by_cases hlt : i < len0 ∧ i < 40
    · obtain ⟨h1, h2⟩ := hlt
      obtain ⟨ad, k, rfl, hbl, hk, hcell⟩ := HX.out.at_ h1
      have hkz := HZ.out k (List.mem_of_getElem? hk)
      obtain ⟨p, hp⟩ : ∃ p : Nat, k % 10 = (p : Int) := ⟨(k % 10).toNat, by omega⟩
      have hp10 : p < 10 := by omega
      have hsl := slice_tab p hp10
      have e2 : str (nmL (zs.take (i + 1))) = S ++ str [chL p] := by
        rw [nmL_snoc hk, HS.out, str_append]
        congr 2
        rw [hp]
        simp
      have HE2 := Lib.hid e2
      have hs1 : (str [chL p]).size = 1 := rfl
      obtain ⟨C, hC⟩ : ∃ C, str [chL p] = C := ⟨_, rfl⟩
      rw [hC] at hsl HE2 hs1
      have i0 : (0 : Int) ≤ (i : Int) := by omega
      have i1 : (i : Int) < (len0 : Int) := by omega
      have i2 : (i : Int) < 40 := by omega
      have k0 : 0 ≤ k := hkz.1
      have k1 : k ≤ 255 := hkz.2
      have p0 : (0 : Int) ≤ (p : Int) := by omega
      have p1 : (p : Int) < 10 := by omega
      have hp2 : k.tmod 10 = (p : Int) := by rw [Int.tmod_eq_emod_of_nonneg k0]; exact hp
      have hw1 : IntKind.u8.wrap ((p : Int) + 1) = (p : Int) + 1 := IntWalk.u8_in _ (by omega)
      have hw2 : ((p : Int) + 1).toNat = p + 1 := by omega
      have hw3 : IntKind.u8.wrap (p : Int) = (p : Int) := IntWalk.u8_in _ (by omega)
      clear hk hkz e2 hC
      go_wp2
      go_quiet (fail)
      go_wp2
      go_roundw
      case rel => exact ⟨i + 1, _, _, by omega, by omega, by go_num, rfl, Lib.hid HE2.out.symm, by rw [ByteArray.size_append, hsz, hs1], rfl⟩
      case measure => simp [intOf]; omega
    · have hw := nmL_word (zs.take i)
      have hln := nmL_len zs i (by rw [HL.out]; exact hin)
      have hlx := lex_names (nmL (zs.take i)) hw ⟨_, rfl⟩ (by omega)
      have hcat : S ++ ⟨#[60]⟩ ++ S ++ ⟨#[62]⟩ ++ S = str (nmL (zs.take i) ++ [60] ++ nmL (zs.take i) ++ [62] ++ nmL (zs.take i)) := by
        rw [HS.out]
        show str _ ++ str [60] ++ str _ ++ str [62] ++ str _ = _
        rw [str_append, str_append, str_append, str_append]
      have htk := fun W (hW : Gl W) => tokens_any (S ++ ⟨#[60]⟩ ++ S ++ ⟨#[62]⟩ ++ S) W hW
      rw [hcat, str_list, hlx, hln, ← hcat] at htk
      have hS : str (nmL (zs.take i)) = S := HS.out.symm
      have HGw : Gl (w.drewN q) := HG.out.keep fun b _ => rfl
      have htk := htk _ HGw
      have HGW := Lib.hid HGw
      have HSS := Lib.hid hS
      obtain ⟨T, hT⟩ : ∃ T, nmL (zs.take i) = T := ⟨_, rfl⟩
      rw [hT] at htk HSS
      have hkn := known_any
      have i0 : (0 : Int) ≤ (i : Int) := by omega
      have hi3 : (i : Int) ≤ 40 := by omega
      have hi4 : i = len0 ∨ (i < len0 ∧ i = 40) := by omega
      obtain ⟨j, hj⟩ : ∃ j, i + 1 = j := ⟨_, rfl⟩
      have hc1 : ((i + 1 : Nat) : Int) = (j : Int) := by omega
      have hj40 : j ≤ 41 := by omega
      rw [hj] at htk hsz
      clear hw hln hlx hcat hS HGw hT HS hlt hj hc1
      have hgo : ∀ (e : Ending) (w2 : World), TokTold (w.drewN q) ([⟨1, T, 0, 0⟩, ⟨5, T, 0, j⟩, ⟨1, T, 0, 2 * j + 2⟩, ⟨6, [], 0, 3 * j + 2⟩], 0, 0) e w2 → ∃ ad c, e = .returned (.tuple #[.slice (some ad) 4 c, .int .u16 0, .int .i64 0]) ∧ Gl w2 ∧ Below w.heap.size w w2 ∧ ad.block < w2.heap.size ∧
          ∀ w3, Below w2.heap.size w2 w3 → w3.cell? ad = some (.int .u8 1) ∧ w3.cell? ⟨ad.block, ad.off + 1, none⟩ = some (.string S) ∧ w3.cell? ⟨ad.block, ad.off + 4, none⟩ = some (.int .u8 5) ∧ w3.cell? ⟨ad.block, ad.off + 5, none⟩ = some (.string S) ∧ w3.cell? ⟨ad.block, ad.off + 7, none⟩ = some (.int .i64 (j : Int)) ∧ w3.cell? ⟨ad.block, ad.off + 9, none⟩ = some (.string S) ∧ w3.cell? ⟨ad.block, ad.off + 11, none⟩ = some (.int .i64 (2 * (j : Int) + 2)) := by
        rintro e w2 ⟨A, n, c, rfl, hmc, hmm, ht, hb2⟩
        obtain rfl : n = 4 := ht.len.symm
        obtain ⟨ad, rfl, hbl⟩ := ht.some_ (by omega)
        refine ⟨ad, c, rfl, HGW.out.next hb2, (below_drewN0 (Below.refl _ w) q).trans hb2, hbl, fun w3 hb3 => ?_⟩
        have ht3 := ht.on hb3 (Nat.le_refl _)
        have q01 : w3.cell? (ad.add 1) = _ := ht3.cell rfl (k := 0) (x := ⟨1, T, 0, 0⟩) rfl 1 _ rfl
        have q10 : w3.cell? (ad.add 4) = _ := ht3.cell rfl (k := 1) (x := ⟨5, T, 0, j⟩) rfl 0 _ rfl
        have q11 : w3.cell? (ad.add 5) = _ := ht3.cell rfl (k := 1) (x := ⟨5, T, 0, j⟩) rfl 1 _ rfl
        have q13 : w3.cell? (ad.add 7) = _ := ht3.cell rfl (k := 1) (x := ⟨5, T, 0, j⟩) rfl 3 _ rfl
        have q21 : w3.cell? (ad.add 9) = _ := ht3.cell rfl (k := 2) (x := ⟨1, T, 0, 2 * j + 2⟩) rfl 1 _ rfl
        have q23 : w3.cell? (ad.add 11) = some (.int .i64 (((2 * j + 2 : Nat)) : Int)) := ht3.cell rfl (k := 2) (x := ⟨1, T, 0, 2 * j + 2⟩) rfl 3 _ rfl
        rw [show (((2 * j + 2 : Nat)) : Int) = 2 * (j : Int) + 2 by omega] at q23
        rw [add_pos _ _ (by omega)] at q01 q10 q11 q13 q21 q23
        rw [← HSS.out]
        exact ⟨ht3.cell rfl (k := 0) (x := ⟨1, T, 0, 0⟩) rfl 0 _ rfl, q01, q10, q11, q13, q21, q23⟩
      have HGO := Lib.hid hgo
      clear hgo
      rcases hi4 with hA | ⟨hA, hB⟩
      · have hA' : ¬ ((i : Int) < (len0 : Int)) := by omega
        clear hA
        go_wp2_with fail
        refine htk.mono ?_
        intro e w2 ht2
        obtain ⟨ad, c, rfl, hG2, hb2, hbl, hq⟩ := HGO.out e w2 ht2
        go_wp2_with fail
        refine (hkn _ hG2).mono ?_
        rintro e w3 ⟨rfl, hb3⟩
        obtain ⟨q00, q01, q10, q11, q13, q21, q23⟩ := hq w3 hb3
        have HB := Lib.hid (hb2.trans (hb3.mono hb2.size))
        clear hq hb2 hb3 hG2 ht2
        go_wp2
        go_ret
        exact ⟨rfl, HB.out⟩
      · have hA' : ((i : Int) < (len0 : Int)) := by omega
        have hB' : ¬ ((i : Int) < 40) := by omega
        clear hA hB
        go_wp2_with fail
        refine htk.mono ?_
        intro e w2 ht2
        obtain ⟨ad, c, rfl, hG2, hb2, hbl, hq⟩ := HGO.out e w2 ht2
        go_wp2_with fail
        refine (hkn _ hG2).mono ?_
        rintro e w3 ⟨rfl, hb3⟩
        obtain ⟨q00, q01, q10, q11, q13, q21, q23⟩ := hq w3 hb3
        have HB := Lib.hid (hb2.trans (hb3.mono hb2.size))
        clear hq hb2 hb3 hG2 ht2
        go_wp2
        go_ret
        exact ⟨rfl, HB.out⟩
end Go.Proofs.YtnifcgiajjmogaaDoor.C
