/-
  The walk of LexTokens: for every text and every choice it returns true; nothing that was there changes. Condition: what is asked of the listed variables ('Gl').
-/
import Derived.Test.YtnifcgiajjmogaaGreatDoorLyG
namespace Go.Proofs.YtnifcgiajjmogaaGreatDoor.C
open Go.RowKit

theorem conv_two (W : World) (g : Nat) (b : UInt8) (c : Nat) (h : W.cell? ((⟨g, 0, none⟩ : Addr).add 0) = some (.int .u8 b.toNat)) : (convert 22 9 (.slice (some ⟨g, 0, none⟩) 1 c)).run Tryz.prog W = .ok (.string (str [b])) W := by
  refine run_convert_bytes_back _ 22 9 5 ⟨g, 0, none⟩ c [b] Tryz.underlying22 Tryz.underlying5 Tryz.underlying9 (fun j hj => ?_)
  have : j = 0 := by simp at hj; exact hj
  subst this
  exact h
theorem slice_to (S : ByteArray) (k : Nat) (h : k ≤ S.size) (W : World) : (Instr.slice 9 (.string S) none (some (.int .i64 (k : Nat))) none).run Tryz.prog W = .ok (.string (S.extract 0 k)) W :=
  run_slice_string_h W 9 S (by kernel_rfl) .i64 (k : Int) (by omega) (by omega)
theorem slice_from (S : ByteArray) (k : Nat) (h : k + 1 ≤ S.size) (W : World) : (Instr.slice 9 (.string S) (some (.int .i64 ((k : Nat) + 1 : Int))) none none).run Tryz.prog W = .ok (.string (S.extract (k + 1) S.size)) W :=
  run_slice_string_l W 9 S (by kernel_rfl) .i64 ((k : Int) + 1) (by omega) (by omega)
set_option maxRecDepth 100000 in
set_option maxHeartbeats 8000000 in
theorem lexTokensWalk (s0 : ByteArray) (a1 : Option Addr) (len1 cap1 : Nat) (z1 : List Int) (a2 a3 : Int) (w : World) (hG : Gl w) (_q0 : s0.size ≤ 140737488351232) (w1 : L.IsRow .u8 w a1 len1 cap1 z1) (w2 : (Lit.int .u16 a2).wf = true) (w3 : (Lit.int .u8 a3).wf = true) :
    Calls Tryz.prog 3 #[.string s0, .slice a1 len1 cap1, .int .u16 a2, .int .u8 a3] w fun e w' => e = .returned (.bool true) ∧ Below w.heap.size w w' := by
  have hk2 : 0 ≤ a2 ∧ a2 ≤ 65535 := by
    have h : IntKind.u16.min ≤ a2 ∧ a2 ≤ IntKind.u16.max := by simpa [Lit.wf] using w2
    exact h
  have hk3 : 0 ≤ a3 ∧ a3 ≤ 255 := by
    have h : IntKind.u8.min ≤ a3 ∧ a3 ≤ IntKind.u8.max := by simpa [Lit.wf] using w3
    exact h
  obtain ⟨b, rfl⟩ : ∃ b : UInt8, a3 = (b.toNat : Int) := ⟨UInt8.ofNat a3.toNat, by rw [UInt8.toNat_ofNat']; omega⟩
  have HG := Lib.hid hG
  have hkn := known_any
  have htl := fun s W (hW : Gl W) => tells_any s W hW
  by_cases h300 : 300 < s0.size
  · have i3 : (300 : Int) < (s0.size : Int) := by omega
    clear w1 w2 w3 hk2 hk3 hG htl
    go_enter Tryz.func3, Tryz.ntmps3
    go_wp2_with fail
    refine (hkn _ HG.out).mono ?_
    rintro e w4 ⟨rfl, hb4⟩
    have HB4 := Lib.hid hb4
    clear hb4 hkn
    go_wp2
    go_ret
    exact ⟨rfl, HB4.out⟩
  have i3 : ¬ (300 : Int) < (s0.size : Int) := by omega
  have htx := fun W (hb : Below w.heap.size w W) => text_any W w.heap.size a1 len1 cap1 _ ((RI.of_row w1).below hb) hb.size (row_u8 w1)
  have hln := txtL_len (z1.take len1)
  have hsz := str_size (txtL (z1.take len1))
  generalize txtL (z1.take len1) = T at *
  obtain ⟨S, hS⟩ : ∃ S, str T = S := ⟨_, rfl⟩
  rw [hS] at htx hsz
  have hS4 : S.size ≤ 360 := by omega
  have HTX := Lib.hid htx
  clear w1 w2 w3 hG htx hln hsz hS
  go_enter Tryz.func3, Tryz.ntmps3
  go_wp2_with fail
  refine (hkn _ HG.out).mono ?_
  rintro e w4 ⟨rfl, hb4⟩
  have HB4 := Lib.hid hb4
  have HG4 := Lib.hid (HG.out.next hb4)
  clear hb4 hkn
  go_wp2_with fail
  refine (HTX.out _ HB4.out).mono ?_
  rintro e w5 ⟨rfl, hb5⟩
  have HB5 := Lib.hid (HB4.out.trans (hb5.mono HB4.out.size))
  have HG5 := Lib.hid (HG4.out.next hb5)
  clear hb5
  go_wp2_with fail
  refine (htl _ _ HG5.out).mono ?_
  rintro e w6 ⟨rfl, hb6⟩
  have HB6 := Lib.hid (HB5.out.trans (hb6.mono HB5.out.size))
  have HG6 := Lib.hid (HG5.out.next hb6)
  clear hb6
  go_wp2_with fail
  refine (htl _ _ HG6.out).mono ?_
  rintro e w7 ⟨rfl, hb7⟩
  have HB7 := Lib.hid (HB6.out.trans (hb7.mono HB6.out.size))
  have HG7 := Lib.hid (HG6.out.next hb7)
  clear hb7
  by_cases hz : 0 < S.size
  · have z0 : (0 : Int) < (S.size : Int) := by omega
    have hm0 : 0 ≤ a2 % (S.size : Int) := Int.emod_nonneg _ (by omega)
    have hm1 : a2 % (S.size : Int) < (S.size : Int) := Int.emod_lt_of_pos _ z0
    obtain ⟨k, hk⟩ : ∃ k : Nat, a2 % (S.size : Int) = (k : Int) := ⟨(a2 % (S.size : Int)).toNat, by omega⟩
    have hkl : k < S.size := by omega
    have hk0 : (0 : Int) ≤ (k : Int) := by omega
    have hk1 : (k : Int) ≤ (S.size : Int) := by omega
    have hk2' : (k : Int) + 1 ≤ (S.size : Int) := by omega
    have hcv1 := fun c => conv_two (w7.alloc (.cells #[.int .u8 b.toNat] 5)).drew w7.heap.size b c (cell_one_new w7 (.int .u8 b.toNat) 5 0 _ rfl)
    have hcv2 := fun c => conv_two (w7.drew.alloc (.cells #[.int .u8 b.toNat] 5)) w7.heap.size b c (cell_one_new w7.drew (.int .u8 b.toNat) 5 0 _ rfl)
    have hcv3 := fun c => conv_two (w7.alloc (.cells #[.int .u8 b.toNat] 5)) w7.heap.size b c (cell_one_new w7 (.int .u8 b.toNat) 5 0 _ rfl)
    obtain ⟨p, hp⟩ : ∃ p : Nat, p = k + 1 := ⟨_, rfl⟩
    have hw : IntKind.i64.wrap ((k : Int) + 1) = (p : Int) := by rw [IntKind.wrap_i64]; omega
    have p0 : (0 : Int) ≤ (p : Int) := by omega
    have p1 : (p : Int) ≤ (S.size : Int) := by omega
    have hp1 : (S.extract 0 k).size ≤ 360 := by rw [ByteArray.size_extract]; omega
    have hp2 : (S.extract (k + 1) S.size).size ≤ 360 := by rw [ByteArray.size_extract]; omega
    have hp3 : (str [b]).size = 1 := rfl
    have hs1 : ∀ W, (Instr.slice 9 (.string S) none (some (.int .i64 (k : Nat))) none).run Tryz.prog W = .ok (.string (S.extract 0 k)) W := fun W => slice_to S k (by omega) W
    have hs2 : ∀ W, (Instr.slice 9 (.string S) (some (.int .i64 (p : Nat))) none none).run Tryz.prog W = .ok (.string (S.extract (k + 1) S.size)) W := fun W => by rw [hp]; exact slice_from S k (by omega) W
    have hs3 : ∀ W, (Instr.slice 9 (.string S) (some (.int .i64 ((k : Int) + 1))) none none).run Tryz.prog W = .ok (.string (S.extract (k + 1) S.size)) W := fun W => slice_from S k (by omega) W
    generalize S.extract 0 k = P1 at *
    generalize S.extract (k + 1) S.size = P2 at *
    generalize str [b] = P3 at *
    have hq1 : ¬ 9223372036854775807 < P1.size + P3.size := by omega
    have hq2 : ¬ 9223372036854775807 < P1.size + P3.size + P2.size := by omega
    have hq3 : ¬ 9223372036854775807 < (P1 ++ P3).size + P2.size := by rw [ByteArray.size_append]; exact hq2
    clear hp1 hp2 hp3
    go_wp2
    go_region_law (fail)
    have hb8 : Below w7.heap.size w7 (w7.alloc (.cells #[.int .u8 b.toNat] 5)).drew := ((Below.refl _ _).alloc (Nat.le_refl _) _).drew
    have HG8 := Lib.hid (HG7.out.next hb8)
    have HB8 := Lib.hid (HB7.out.trans (hb8.mono HB7.out.size))
    clear hb8 hcv1 hcv2 hcv3
    go_wp2_with fail
    refine (htl _ _ HG8.out).mono ?_
    rintro e w9 ⟨rfl, hb9⟩
    have HB9 := Lib.hid (HB8.out.trans (hb9.mono HB8.out.size))
    clear hb9
    go_wp2
    go_ret
    exact ⟨rfl, HB9.out⟩
  · have z0 : ¬ (0 : Int) < (S.size : Int) := by omega
    go_wp2_with fail
    refine (htl _ _ HG7.out).mono ?_
    rintro e w8 ⟨rfl, hb8⟩
    have HB8 := Lib.hid (HB7.out.trans (hb8.mono HB7.out.size))
    clear hb8
    go_wp2
    go_ret
    exact ⟨rfl, HB8.out⟩
end Go.Proofs.YtnifcgiajjmogaaGreatDoor.C
