/-
  The contract of the statements' own Text: tokens, as choices say. No condition.
-/
import Derived.Test.YtnifcgiajjmogaaGreatDoorLxF
namespace Go.Proofs.YtnifcgiajjmogaaGreatDoor.C
open Go.RowKit

def pieces : List (List UInt8) := [[99, 108, 97, 115, 115], [111, 114, 100, 101, 114], [120], [60, 85, 48, 48, 52, 49, 62], [60, 85, 48, 48, 101, 57, 62], [60, 85, 49, 70, 54, 48, 48, 62], [60, 99, 104, 62], [34, 97, 98, 34], [34, 34], [59], [44], [40], [41], [46, 46, 46], [10], [37, 32, 119, 111, 114, 100, 10], [32], [60, 85, 68, 56, 48, 48, 62], [34, 97, 10], [60, 62], [33], [60, 85, 52, 49, 62], [102, 114, 111, 109], [9], [97, 45, 98, 95, 57]]
def piece (k : Nat) : List UInt8 := pieces.getD k []
def pickK (z : Int) : Nat := if 230 < z then (16 + z % 9).toNat else (z % 16).toNat
def txt0 (zs : List Int) : List UInt8 := zs.flatMap fun z => piece (pickK z) ++ [32]
/-- the text of choices -/
def txtL (zs : List Int) : List UInt8 := txt0 (zs.take 40)
theorem pickK_lt (z : Int) : pickK z < 25 := by unfold pickK; split <;> omega
theorem piece_len : ∀ k, k < 25 → (piece k).length ≤ 8 := by decide +kernel
theorem txt0_snoc {zs : List Int} {k : Nat} {z : Int} (h : zs[k]? = some z) : txt0 (zs.take (k + 1)) = txt0 (zs.take k) ++ piece (pickK z) ++ [32] := by
  rw [take_snoc h]
  simp [txt0]
theorem txt0_len : ∀ zs : List Int, (txt0 zs).length ≤ 9 * zs.length
  | [] => by simp [txt0]
  | z :: r => by
    have h1 := piece_len _ (pickK_lt z)
    have h2 := txt0_len r
    have e : txt0 (z :: r) = piece (pickK z) ++ [32] ++ txt0 r := rfl
    rw [e, List.length_append, List.length_append, List.length_cons, List.length_cons, List.length_nil]
    omega
theorem txtL_len (zs : List Int) : (txtL zs).length ≤ 360 := by
  have h1 := txt0_len (zs.take 40)
  have h2 : (zs.take 40).length ≤ 40 := by rw [List.length_take]; omega
  unfold txtL
  omega
def pieceArr : Array Value := #[.string ⟨#[99, 108, 97, 115, 115]⟩, .string ⟨#[111, 114, 100, 101, 114]⟩, .string ⟨#[120]⟩, .string ⟨#[60, 85, 48, 48, 52, 49, 62]⟩, .string ⟨#[60, 85, 48, 48, 101, 57, 62]⟩, .string ⟨#[60, 85, 49, 70, 54, 48, 48, 62]⟩, .string ⟨#[60, 99, 104, 62]⟩, .string ⟨#[34, 97, 98, 34]⟩, .string ⟨#[34, 34]⟩, .string ⟨#[59]⟩, .string ⟨#[44]⟩, .string ⟨#[40]⟩, .string ⟨#[41]⟩, .string ⟨#[46, 46, 46]⟩, .string ⟨#[10]⟩, .string ⟨#[37, 32, 119, 111, 114, 100, 10]⟩, .string ⟨#[32]⟩, .string ⟨#[60, 85, 68, 56, 48, 48, 62]⟩, .string ⟨#[34, 97, 10]⟩, .string ⟨#[60, 62]⟩, .string ⟨#[33]⟩, .string ⟨#[60, 85, 52, 49, 62]⟩, .string ⟨#[102, 114, 111, 109]⟩, .string ⟨#[9]⟩, .string ⟨#[97, 45, 98, 95, 57]⟩]
theorem pieceArr_at : ∀ p, p < 25 → pieceArr[p]? = some (.string (str (piece p))) := by
  intro p hp
  rcases (by omega : p = 0 ∨ p = 1 ∨ p = 2 ∨ p = 3 ∨ p = 4 ∨ p = 5 ∨ p = 6 ∨ p = 7 ∨ p = 8 ∨ p = 9 ∨ p = 10 ∨ p = 11 ∨ p = 12 ∨ p = 13 ∨ p = 14 ∨ p = 15 ∨ p = 16 ∨ p = 17 ∨ p = 18 ∨ p = 19 ∨ p = 20 ∨ p = 21 ∨ p = 22 ∨ p = 23 ∨ p = 24) with rfl | rfl | rfl | rfl | rfl | rfl | rfl | rfl | rfl | rfl | rfl | rfl | rfl | rfl | rfl | rfl | rfl | rfl | rfl | rfl | rfl | rfl | rfl | rfl | rfl <;> rfl
theorem piece_cell (w : World) (t : TypeId) (p : Nat) (hp : p < 25) : (w.alloc (.cells pieceArr t)).cell? ⟨w.heap.size, p, none⟩ = some (.string (str (piece p))) := by
  rw [World.cell?_alloc_new]
  exact pieceArr_at p hp

set_option maxRecDepth 100000 in
set_option maxHeartbeats 4000000 in
theorem text_any (w : World) (Bx : Nat) (Ax : Option Addr) (n cx : Nat) (zs : List Int) (hx : RI .u8 w Bx Ax n zs) (hBx : Bx ≤ w.heap.size) (hz : ∀ z ∈ zs, 0 ≤ z ∧ z ≤ 255) :
    Calls Tryz.prog 6 #[.slice Ax n cx] w fun e w' => e = .returned (.string (str (txtL zs))) ∧ Below w.heap.size w w' := by
  have hb0 : Below w.heap.size w (w.alloc (.cells pieceArr 9)) := (Below.refl _ _).alloc (Nat.le_refl _) _
  have HX := Lib.hid ((hx.more hBx).below hb0)
  have HB0 := Lib.hid hb0
  have HL := Lib.hid hx.len
  have HZ := Lib.hid hz
  have HC := Lib.hid (piece_cell w 9)
  clear hx hz hb0
  unfold pieceArr at HX HB0 HC
  go_enter Tryz.func6, Tryz.ntmps6
  go_wp2
  generalize w.alloc (.cells #[.string ⟨#[99, 108, 97, 115, 115]⟩, .string ⟨#[111, 114, 100, 101, 114]⟩, .string ⟨#[120]⟩, .string ⟨#[60, 85, 48, 48, 52, 49, 62]⟩, .string ⟨#[60, 85, 48, 48, 101, 57, 62]⟩, .string ⟨#[60, 85, 49, 70, 54, 48, 48, 62]⟩, .string ⟨#[60, 99, 104, 62]⟩, .string ⟨#[34, 97, 98, 34]⟩, .string ⟨#[34, 34]⟩, .string ⟨#[59]⟩, .string ⟨#[44]⟩, .string ⟨#[40]⟩, .string ⟨#[41]⟩, .string ⟨#[46, 46, 46]⟩, .string ⟨#[10]⟩, .string ⟨#[37, 32, 119, 111, 114, 100, 10]⟩, .string ⟨#[32]⟩, .string ⟨#[60, 85, 68, 56, 48, 48, 62]⟩, .string ⟨#[34, 97, 10]⟩, .string ⟨#[60, 62]⟩, .string ⟨#[33]⟩, .string ⟨#[60, 85, 52, 49, 62]⟩, .string ⟨#[102, 114, 111, 109]⟩, .string ⟨#[9]⟩, .string ⟨#[97, 45, 98, 95, 57]⟩] 9) = W0 at *
  obtain ⟨b, hbq⟩ : ∃ b, w.heap.size = b := ⟨_, rfl⟩
  rw [hbq] at HB0 HC ⊢
  have HBQ := Lib.hid hbq
  clear hbq
  go_loop [4, 5] (fun sv iv => ∃ (i : Nat) (S : ByteArray), i ≤ n ∧ i ≤ 40 ∧ iv = .int .i64 i ∧ sv = .string S ∧ Hid (S = str (txt0 (zs.take i))) ∧ S.size ≤ 9 * i) (fun _ iv => 40 - (intOf iv).toNat)
  case atStart => exact ⟨0, _, Nat.zero_le _, Nat.zero_le _, rfl, rfl, Lib.hid rfl, by show 0 ≤ _; omega⟩
  case round =>
    obtain ⟨i, S, hin, hi40, rfl, rfl, HS, hsz⟩ := hrel
    by_cases hlt : i < n ∧ i < 40
    · obtain ⟨h1, h2⟩ := hlt
      obtain ⟨ad, z, rfl, hbl, hk, hcell⟩ := HX.out.at_ h1
      obtain ⟨z0, z1⟩ := HZ.out z (List.mem_of_getElem? hk)
      have e2 : S ++ str (piece (pickK z)) ++ ⟨#[32]⟩ = str (txt0 (zs.take (i + 1))) := by
        rw [txt0_snoc hk, HS.out]
        show str _ ++ str _ ++ str [32] = _
        rw [str_append, str_append]
      have hpl := piece_len _ (pickK_lt z)
      have hps := str_size (piece (pickK z))
      have hp25 := pickK_lt z
      have hpc := HC.out _ hp25
      obtain ⟨p, hp⟩ : ∃ p, pickK z = p := ⟨_, rfl⟩
      rw [hp] at e2 hpl hps hp25 hpc
      have hpc' : W0.cell? ((⟨b, 0, none⟩ : Addr).add p) = some (.string (str (piece p))) := by rw [add_off0]; exact hpc
      obtain ⟨C, hC⟩ : ∃ C, str (piece p) = C := ⟨_, rfl⟩
      rw [hC] at e2 hps hpc hpc'
      have HE2 := Lib.hid e2
      have hcs : C.size ≤ 8 := by omega
      have p0 : (0 : Int) ≤ (p : Int) := by omega
      have p1 : (p : Int) < 25 := by omega
      have i0 : (0 : Int) ≤ (i : Int) := by omega
      have i1 : (i : Int) < (n : Int) := by omega
      have i2 : (i : Int) < 40 := by omega
      have hsz2 : (S ++ C ++ ⟨#[32]⟩).size ≤ 9 * (i + 1) := by
        rw [ByteArray.size_append, ByteArray.size_append]
        show S.size + C.size + 1 ≤ _
        omega
      by_cases h230 : 230 < z
      · have hpz : 16 + z % 9 = (p : Int) := by
          unfold pickK at hp
          rw [if_pos h230] at hp
          omega
        clear hk hp hC e2 hps hpl
        go_wp2
        go_round
        case rel => exact ⟨i + 1, _, by omega, by omega, by go_num, rfl, HE2, hsz2⟩
        case measure => simp [intOf]; omega
      · have hpz : z % 16 = (p : Int) := by
          unfold pickK at hp
          rw [if_neg h230] at hp
          omega
        clear hk hp hC e2 hps hpl
        go_wp2
        go_round
        case rel => exact ⟨i + 1, _, by omega, by omega, by go_num, rfl, HE2, hsz2⟩
        case measure => simp [intOf]; omega
    · have hfin : txt0 (zs.take i) = txtL zs := by
        unfold txtL
        rcases (by omega : i = n ∨ i = 40) with h | h
        · rw [List.take_of_length_le (by rw [HL.out]; omega), List.take_of_length_le (by rw [HL.out]; omega)]
        · rw [h]
      have HF := Lib.hid hfin
      have hi4 : i = n ∨ (i < n ∧ i = 40) := by omega
      clear hfin hlt
      rcases hi4 with hA | ⟨hA, hB⟩
      · have hA' : ¬ ((i : Int) < (n : Int)) := by omega
        clear hA
        go_wp2
        go_ret
        exact ⟨by rw [← HF.out, ← HS.out]; rfl, by rw [HBQ.out]; exact HB0.out⟩
      · have hA' : ((i : Int) < (n : Int)) := by omega
        have hB' : ¬ ((i : Int) < 40) := by omega
        clear hA hB
        go_wp2
        go_ret
        exact ⟨by rw [← HF.out, ← HS.out]; rfl, by rw [HBQ.out]; exact HB0.out⟩
end Go.Proofs.YtnifcgiajjmogaaGreatDoor.C
