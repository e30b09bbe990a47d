/-
  The statements' own Text: of choices it makes what stands behind a bracket. Condition: the choices are a row of bytes.
-/
import Derived.Test.YthgiikhkcpbpfaaGreatDoorQBaT
namespace Go.Proofs.YthgiikhkcpbpfaaGreatDoor.C
open Go.RowKit

theorem ofL_leB (s : ByteArray) : (ofL s).length ≤ s.size := by
 have : ∀ f pos, (ofFrom s f pos).length ≤ f := by
  intro f
  induction f with
  | zero => intro pos; simp [ofFrom]
  | succ f ih =>
   intro pos
   rw [ofFrom]
   split
   ·have := ih (pos + (Utf8.decode s pos).2)
    simp; omega
   ·simp
 exact this _ _
def pieces : List ByteArray := [⟨#[97]⟩, ⟨#[98]⟩, ⟨#[99]⟩, ⟨#[97, 45, 99]⟩, ⟨#[93]⟩, ⟨#[45]⟩, ⟨#[91, 58, 97, 108, 112, 104, 97, 58, 93]⟩, ⟨#[91, 61, 97, 61, 93]⟩, ⟨#[91, 46, 99, 104, 46, 93]⟩, ⟨#[94]⟩, ⟨#[91, 58, 100, 105, 103, 105, 116, 58, 93]⟩, ⟨#[91, 46, 97, 46, 93, 45, 99]⟩, ⟨#[195, 169]⟩, ⟨#[65]⟩, ⟨#[99, 45, 97]⟩, ⟨#[91, 58, 110, 111, 58, 93]⟩, ⟨#[91, 46, 110, 111, 46, 93]⟩, ⟨#[91, 58, 97, 108, 112, 104, 97]⟩, ⟨#[91, 61]⟩, ⟨#[98, 45]⟩, ⟨#[91, 46, 99, 104, 46, 93, 45, 91, 46, 97, 98, 46, 93]⟩, ⟨#[226, 130, 172, 45, 226, 130, 174]⟩]
theorem pieces_size : ∀ p ∈ pieces, p.size ≤ 13 := by decide
def pieceN (z : Int) : Nat := if 225 < z then (14 + z % 8).toNat else (z % 14).toNat
theorem pieceN_lt {z : Int} (_h : 0 ≤ z) : pieceN z < 22 := by
 unfold pieceN
 split <;> omega
def pieceOf (z : Int) : ByteArray := pieces.getD (pieceN z) ⟨#[]⟩
theorem piece_at {z : Int} (h : 0 ≤ z) : pieces[pieceN z]? = some (pieceOf z) := by
 have := pieceN_lt h
 unfold pieceOf
 rw [List.getD_eq_getElem?_getD, List.getElem?_eq_getElem (show pieceN z < pieces.length from this)]
 rfl
theorem piece_size {z : Int} (h : 0 ≤ z) : (pieceOf z).size ≤ 13 := pieces_size _ (List.mem_of_getElem? (piece_at h))
def catT (zs : List Int) : ByteArray := zs.foldl (fun s z => s ++ pieceOf z) ⟨#[]⟩
theorem catT_snoc (zs : List Int) (z : Int) : catT (zs ++ [z]) = catT zs ++ pieceOf z := by simp [catT]
theorem catT_size : ∀ zs : List Int, Byt zs → (catT zs).size ≤ 13 * zs.length := by
 refine list_snoc_ind (fun _ => by simp [catT, ByteArray.size]) ?_
 intro l x ih h
 obtain ⟨h1, h2, _⟩ := byt_front h
 have := ih h1
 have := piece_size h2
 rw [catT_snoc, ByteArray.size_append, List.length_append, List.length_singleton]
 omega
def textB (zs : List Int) : List Int := ofL (catT (zs.take 10) ++ ⟨#[93]⟩)
theorem textB_len {zs : List Int} (h : Byt zs) : (textB zs).length ≤ 131 := by
 have h1 := ofL_leB (catT (zs.take 10) ++ ⟨#[93]⟩)
 have h2 := catT_size (zs.take 10) (fun z hz => h z (List.mem_of_mem_take hz))
 have h3 : (zs.take 10).length ≤ 10 := by rw [List.length_take]; omega
 rw [ByteArray.size_append] at h1
 rw [show ByteArray.size ⟨#[93]⟩ = 1 from rfl] at h1
 unfold textB
 omega
set_option maxRecDepth 100000 in
set_option maxHeartbeats 400000 in
theorem textB_any (w : World) (Bx : Nat) (Ax : Option Addr) (n cx : Nat) (zs : List Int) (hx : RI .u8 w Bx Ax n zs) (hBx : Bx ≤ w.heap.size) (hz : Byt zs) :
  Calls Tryz.prog 14 #[.slice Ax n cx] w fun e w' => ∃ v, e = .returned v ∧ w'.ownsRow w.heap.size 30 1 v (textB zs).length (celC (textB zs)) ∧ Below w.heap.size w w' := by
 obtain ⟨W, hW⟩ : ∃ W, W = w.alloc (.cells (pieces.map Value.string).toArray 9) := ⟨_, rfl⟩
 have hb : Below w.heap.size w W := by rw [hW]; exact below_new _ _
 have hcl : ∀ z : Int, 0 ≤ z → W.cell? ⟨w.heap.size, pieceN z, none⟩ = some (.string (pieceOf z)) := fun z h => by
  rw [hW, World.cell?_alloc_new]
  simp [piece_at h]
 have HB := Lib.hid hb
 have HCL := Lib.hid hcl
 have HX := Lib.hid (hx.below (hb.mono hBx))
 have HZ := Lib.hid hz
 unfold pieces at hW
 simp only [List.map_cons, List.map_nil] at hW
 clear hb hcl hx hz
 go_enter Tryz.func14, Tryz.ntmps14
 go_upto_block 0 with fail
 rw [← hW]
 clear hW
 go_cut [4] (fun v wx => v = .string (catT (zs.take 10)) ∧ wx = W)
 case first =>
  go_wp2
  go_loopw [4, 5] (fun v iv wr => ∃ i : Nat, i ≤ n ∧ i ≤ 10 ∧ iv = .int .i64 i ∧ v = .string (catT (zs.take i)) ∧ W = wr) (fun _ iv _ => 10 - (intOf iv).toNat)
  case atStart => exact ⟨0, Nat.zero_le _, Nat.zero_le _, rfl, rfl, rfl⟩
  case round =>
   obtain ⟨i, hin, hi10, rfl, rfl, rfl⟩ := hrel
   by_cases hlt : i < n ∧ i < 10
   ·obtain ⟨h1, h2⟩ := hlt
    obtain ⟨ad, z, rfl, hbl, hk, hcell⟩ := HX.out.at_ h1
    obtain ⟨z0, z1⟩ := HZ.out z (List.mem_of_getElem? hk)
    have hc := HCL.out z z0
    have hs : (catT (zs.take i)).size ≤ 130 := by
     have := catT_size (zs.take i) (fun z hz => HZ.out z (List.mem_of_mem_take hz))
     rw [List.length_take] at this
     omega
    have hp := piece_size z0
    have HNX : Hid (catT (zs.take (i + 1)) = catT (zs.take i) ++ pieceOf z) := Lib.hid (by rw [take_snoc hk, catT_snoc])
    obtain ⟨s0, hs0⟩ : ∃ s0, s0 = catT (zs.take i) := ⟨_, rfl⟩
    obtain ⟨p0, hp0⟩ : ∃ p0, p0 = pieceOf z := ⟨_, rfl⟩
    rw [← hs0] at hs HNX ⊢
    rw [← hp0] at hp hc HNX
    clear hs0 hp0 hk
    by_cases h3 : 225 < z
    ·have hpn : pieceN z = (14 + z % 8).toNat := by unfold pieceN; rw [if_pos h3]
     rw [hpn] at hc
     clear hpn
     go_wp2
     go_roundw
     case rel => exact ⟨i + 1, by omega, by omega, by go_num, by rw [HNX.out], trivial⟩
     case measure => simp [intOf]; omega
    ·have hpn : pieceN z = (z % 14).toNat := by unfold pieceN; rw [if_neg h3]
     rw [hpn] at hc
     clear hpn
     go_wp2
     go_roundw
     case rel => exact ⟨i + 1, by omega, by omega, by go_num, by rw [HNX.out], trivial⟩
     case measure => simp [intOf]; omega
   ·have e : zs.take i = zs.take 10 := by
     rcases (by omega : i = 10 ∨ n ≤ i) with rfl | h
     ·rfl
     ·rw [List.take_of_length_le (by rw [HX.out.1]; omega), List.take_of_length_le (by rw [HX.out.1]; omega)]
    have HE : Hid (catT (zs.take i) = catT (zs.take 10)) := Lib.hid (by rw [e])
    clear e
    by_cases h1 : i < n
    ·have h3 : decide ((i : Int) < 10) = false := by simp; omega
     go_wp2
     go_meet
     exact ⟨by rw [HE.out], rfl⟩
    ·have h3 : decide (i < n) = false := by simpa using h1
     go_wp2
     go_meet
     exact ⟨by rw [HE.out], rfl⟩
 case rest =>
  obtain ⟨rfl, rfl⟩ := hcut
  have hs : (catT (zs.take 10)).size ≤ 130 := by
   have := catT_size (zs.take 10) (fun z hz => HZ.out z (List.mem_of_mem_take hz))
   rw [List.length_take] at this
   omega
  have hof := refOf_any (catT (zs.take 10) ++ ⟨#[93]⟩) wc (by rw [ByteArray.size_append, show ByteArray.size ⟨#[93]⟩ = 1 from rfl]; omega)
  have HTB : Hid (ofL (catT (zs.take 10) ++ ⟨#[93]⟩) = textB zs) := Lib.hid rfl
  rw [HTB.out] at hof
  go_wp2_with fail
  refine hof.mono ?_
  rintro e w3 ⟨v, rfl, ho, hb3⟩
  have HV := Lib.hid (And.intro (own_low ho HB.out.size) (HB.out.trans (hb3.mono HB.out.size)))
  clear hof ho hb3
  go_wp2
  go_ret
  exact ⟨_, rfl, HV.out⟩
end Go.Proofs.YthgiikhkcpbpfaaGreatDoor.C
