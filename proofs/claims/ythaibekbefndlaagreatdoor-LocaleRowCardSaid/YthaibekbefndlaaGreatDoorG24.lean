/-
  Joined: LeO, LeP, WLocaleLong. Each with what its own head says.
-/
import Derived.Test.YthaibekbefndlaaGreatDoorG23

namespace Go.Proofs.YthaibekbefndlaaGreatDoor.C
open Go.RowKit

set_option maxRecDepth 100000 in
set_option maxHeartbeats 8000000 in
theorem known07_any (w : World) (hG : Gm w) : Calls Tryz.prog 11 #[] w fun e w' => e = .returned (.bool true) ∧ Below w.heap.size w w' := by
  have h1 := locParse_any ⟨#[99, 108, 97, 115, 115, 32, 120, 32, 60, 85, 48, 48, 52, 49, 62, 46, 46, 46, 60, 85, 48, 48, 52, 51, 62, 59, 60, 85, 48, 48, 54, 49, 62]⟩ w hG.1
  rw [show (ByteArray.mk #[99, 108, 97, 115, 115, 32, 120, 32, 60, 85, 48, 48, 52, 49, 62, 46, 46, 46, 60, 85, 48, 48, 52, 51, 62, 59, 60, 85, 48, 48, 54, 49, 62]).data.toList = [99, 108, 97, 115, 115, 32, 120, 32, 60, 85, 48, 48, 52, 49, 62, 46, 46, 46, 60, 85, 48, 48, 52, 51, 62, 59, 60, 85, 48, 48, 54, 49, 62] from rfl, parse_known1] at h1
  have h2 := fun W (hW : Gl W) => locParse_any ⟨#[111, 114, 100, 101, 114, 32, 60, 99, 104, 62]⟩ W hW
  rw [show (ByteArray.mk #[111, 114, 100, 101, 114, 32, 60, 99, 104, 62]).data.toList = [111, 114, 100, 101, 114, 32, 60, 99, 104, 62] from rfl, parse_known2] at h2
  have HG := Lib.hid hG
  clear hG
  go_enter Tryz.func11, Tryz.ntmps11
  go_wp2_with fail
  refine h1.mono ?_
  rintro e w1 ⟨v1, v2, v3, v4, lo, rfl, hlo1, hlo2, hL, hb1⟩
  have HG1 := Lib.hid (HG.out.next hb1)
  have hR := LocR.of hL (by intro c hc; simp [knownL] at hc; subst hc; decide) (by intro e he; simp [knownL] at he)
  obtain ⟨A1, c1, f1⟩ : ∃ A c, v1 = .slice A 1 c := hL.1.form
  obtain ⟨A2, c2, f2⟩ : ∃ A c, v2 = .slice A 0 c := row_form hL.2.1
  obtain ⟨A3, c3, f3⟩ : ∃ A c, v3 = .slice A 0 c := row_form hL.2.2.1
  obtain ⟨A4, c4, f4⟩ : ∃ A c, v4 = .slice A 0 c := hL.2.2.2.form
  subst f1 f2 f3 f4
  clear hL hlo1 hlo2
  have HR := Lib.hid hR
  have HB1 := Lib.hid hb1
  clear hR hb1 h1
  obtain ⟨W1, hW1⟩ : ∃ W1, W1 = w1.alloc (.cells #[.slice A1 1 c1, .slice A2 0 c2, .slice A3 0 c3, .slice A4 0 c4] 26) := ⟨_, rfl⟩
  have hbW : Below w1.heap.size w1 W1 := by rw [hW1]; exact (Below.refl _ _).alloc (Nat.le_refl _) _
  have hrow : Rw W1 w1.heap.size 26 #[.slice A1 1 c1, .slice A2 0 c2, .slice A3 0 c3, .slice A4 0 c4] := by rw [hW1]; exact heap_alloc_new w1 _
  have HBW := Lib.hid (HB1.out.trans (hbW.mono HB1.out.size))
  have HW := Lib.hid hrow
  have HRW := Lib.hid (HR.out.on hbW (Nat.le_refl _))
  have HGW := Lib.hid (HG1.out.next hbW)
  have HSW := Lib.hid hbW.size
  clear hbW hrow
  go_wp2_with fail
  rw [← hW1]
  refine (h2 _ HGW.out.1).mono ?_
  rintro e w2 ⟨u1, u2, u3, u4, lo2, rfl, hlo3, hlo4, hL2, hb2⟩
  obtain ⟨D1, e1, f1⟩ : ∃ A c, u1 = .slice A 0 c := hL2.1.form
  obtain ⟨D2, e2, f2⟩ : ∃ A c, u2 = .slice A 0 c := row_form hL2.2.1
  obtain ⟨D3, e3, f3⟩ : ∃ A c, u3 = .slice A 0 c := row_form hL2.2.2.1
  obtain ⟨D4, e4, f4⟩ : ∃ A c, u4 = .slice A 0 c := hL2.2.2.2.form
  subst f1 f2 f3 f4
  clear hL2 hlo3 hlo4 h2
  obtain ⟨W2, hW2⟩ : ∃ W2, W2 = w2.alloc (.cells #[.slice D1 0 e1, .slice D2 0 e2, .slice D3 0 e3, .slice D4 0 e4] 26) := ⟨_, rfl⟩
  have hbW2 : Below w2.heap.size w2 W2 := by rw [hW2]; exact (Below.refl _ _).alloc (Nat.le_refl _) _
  have hbb2 : Below W1.heap.size W1 W2 := hb2.trans (hbW2.mono hb2.size)
  have HB2 := Lib.hid (HBW.out.trans (hbb2.mono HBW.out.size))
  have hR2 := HRW.out.on hbb2 HSW.out
  have hrow2 := HW.out.on hbb2 HW.out.lt
  have hG2 := HGW.out.next hbb2
  have hsz2 : w1.heap.size ≤ W2.heap.size := Nat.le_trans HSW.out hbb2.size
  have hri := locRight_any W2 _ _ _ _ _ knownL hR2 hsz2 hG2
  rw [right_known] at hri
  obtain ⟨Ac, cc, xs, hv, hsi, hel⟩ := hR2.1
  have hv' : (Value.slice A1 1 c1) = .slice Ac 1 cc := hv
  injection hv' with ha _ hc
  subst ha
  obtain ⟨ad, rfl, hbl, hce⟩ := hsi.2.2 (by decide)
  obtain ⟨u, hx0, ⟨Ar, cr, rfl, hsr⟩, -⟩ := hel 0 _ rfl
  obtain ⟨ar, rfl, hbr, hcr⟩ := hsr.2.2 (by decide)
  subst hc
  have p0 : W2.cell? ⟨w1.heap.size, 0, none⟩ = some (.slice (some ad) 1 c1) := hrow2.cell rfl
  have p1 : W2.cell? ⟨w1.heap.size, 1, none⟩ = some (.slice A2 0 c2) := hrow2.cell rfl
  have p2 : W2.cell? ⟨w1.heap.size, 2, none⟩ = some (.slice A3 0 c3) := hrow2.cell rfl
  have p3 : W2.cell? ⟨w1.heap.size, 3, none⟩ = some (.slice A4 0 c4) := hrow2.cell rfl
  have q0 : W2.cell? ad = some (.string ⟨#[120]⟩) := by have := hce 0 _ hx0 0 _ rfl; rwa [show (0 * 2 + 0) = 0 from rfl, Addr.add_zero'] at this
  have q1 : W2.cell? (ad.add 1) = some (.slice (some ar) 2 cr) := hce 0 _ hx0 1 _ rfl
  have r0 : W2.cell? ar = some (.int .i32 65) := by have := hcr 0 _ rfl 0 _ rfl; rwa [show (0 * 2 + 0) = 0 from rfl, Addr.add_zero'] at this
  have r1 : W2.cell? (ar.add 1) = some (.int .i32 67) := hcr 0 _ rfl 1 _ rfl
  rw [add_pos _ _ (by omega)] at q1 r1
  have hnil : LocR W2 W2.heap.size (.slice none 0 0) (.slice none 0 0) (.slice none 0 0) (.slice none 0 0) noL := LocR.of (LocAt.nil W2 W2.heap.size) (by simp [noL]) (by simp [noL])
  have HNI := Lib.hid hnil
  have HG2 := Lib.hid hG2
  have HB1' := Lib.hid hbb2
  clear hR2 hrow2 hG2 hb2 hbW2 hbb2 hel hsi hsr hce hcr hx0 hv hnil HR HRW HW hW1
  subst hW2
  go_wp2_with (go_at_call 16; fail)
  refine hri.mono ?_
  rintro e w3 ⟨rfl, hb3⟩
  have hn3 := HNI.out.on hb3 (Nat.le_refl _)
  have hri3 := locRight_any w3 _ _ _ _ _ noL hn3 hb3.size (HG2.out.next hb3)
  rw [right_noL] at hri3
  have HB3 := Lib.hid (HB2.out.trans (hb3.mono HB2.out.size))
  clear hri hb3 hn3
  go_wp2_with (go_at_call 16; fail)
  refine hri3.mono ?_
  rintro e w4 ⟨rfl, hb4⟩
  have HB4 := Lib.hid (HB3.out.trans (hb4.mono HB3.out.size))
  clear hri3 hb4
  go_wp2
  go_ret
  exact ⟨rfl, HB4.out⟩
end Go.Proofs.YthaibekbefndlaaGreatDoor.C

namespace Go.Proofs.YthaibekbefndlaaGreatDoor.C
open Go.RowKit

theorem upD_cut (x : Nat) (h : x < 16) : (ByteArray.mk #[48, 49, 50, 51, 52, 53, 54, 55, 56, 57, 65, 66, 67, 68, 69, 70]).extract x (x + 1) = str [upD x] := by
  have : ∀ x : Fin 16, (ByteArray.mk #[48, 49, 50, 51, 52, 53, 54, 55, 56, 57, 65, 66, 67, 68, 69, 70]).extract x.val (x.val + 1) = str [upD x.val] := by decide +kernel
  exact this ⟨x, h⟩
set_option maxRecDepth 100000 in
set_option maxHeartbeats 4000000 in
theorem four_any (n : Nat) (hn : n < 65536) (w : World) : Calls Tryz.prog 10 #[.int .i64 n] w fun e w' => e = .returned (.string (str (fourL n))) ∧ w = w' := by
  have hF : fourL n = [upD (n / 4096 % 16), upD (n / 256 % 16), upD (n / 16 % 16), upD (n % 16)] := rfl
  obtain ⟨d0, h0⟩ : ∃ q : Nat, q = n % 16 := ⟨_, rfl⟩
  obtain ⟨d1, h1⟩ : ∃ q : Nat, q = n / 16 % 16 := ⟨_, rfl⟩
  obtain ⟨d2, h2⟩ : ∃ q : Nat, q = n / 256 % 16 := ⟨_, rfl⟩
  obtain ⟨d3, h3⟩ : ∃ q : Nat, q = n / 4096 % 16 := ⟨_, rfl⟩
  obtain ⟨y1, k1⟩ : ∃ q : Nat, q = n / 16 := ⟨_, rfl⟩
  obtain ⟨y2, k2⟩ : ∃ q : Nat, q = n / 256 := ⟨_, rfl⟩
  obtain ⟨y3, k3⟩ : ∃ q : Nat, q = n / 4096 := ⟨_, rfl⟩
  rw [← h0, ← h1, ← h2, ← h3] at hF
  have m0 : (n : Int) % 16 = (d0 : Int) := by omega
  have m1 : (y1 : Int) % 16 = (d1 : Int) := by omega
  have m2 : (y2 : Int) % 16 = (d2 : Int) := by omega
  have m3 : (y3 : Int) % 16 = (d3 : Int) := by omega
  have v0 : (n : Int) / 16 = (y1 : Int) := by omega
  have v1 : (y1 : Int) / 16 = (y2 : Int) := by omega
  have v2 : (y2 : Int) / 16 = (y3 : Int) := by omega
  have v3 : (y3 : Int) / 16 = 0 := by omega
  have l0 : d0 < 16 := by omega
  have l1 : d1 < 16 := by omega
  have l2 : d2 < 16 := by omega
  have l3 : d3 < 16 := by omega
  have c0 := upD_cut d0 l0
  have c1 := upD_cut d1 l1
  have c2 := upD_cut d2 l2
  have c3 := upD_cut d3 l3
  have a0 : str [upD d0] ++ str [] = str [upD d0] := str_append [upD d0] []
  have a1 : str [upD d1] ++ str [upD d0] = str [upD d1, upD d0] := str_append [upD d1] [upD d0]
  have a2 : str [upD d2] ++ str [upD d1, upD d0] = str [upD d2, upD d1, upD d0] := str_append [upD d2] [upD d1, upD d0]
  have a3 : str [upD d3] ++ str [upD d2, upD d1, upD d0] = str [upD d3, upD d2, upD d1, upD d0] := str_append [upD d3] [upD d2, upD d1, upD d0]
  have z0 : (str ([] : List UInt8)).size = 0 := rfl
  have z1 : (str [upD d0]).size = 1 := rfl
  have z2 : (str [upD d1, upD d0]).size = 2 := rfl
  have z3 : (str [upD d2, upD d1, upD d0]).size = 3 := rfl
  have z4 : (str [upD d3, upD d2, upD d1, upD d0]).size = 4 := rfl
  have s1 : (str [upD d1]).size = 1 := rfl
  have s2 : (str [upD d2]).size = 1 := rfl
  have s3 : (str [upD d3]).size = 1 := rfl
  have hy1 : y1 < 65536 := by omega
  have hy2 : y2 < 65536 := by omega
  have hy3 : y3 < 65536 := by omega
  rw [hF]
  clear h0 h1 h2 h3 k1 k2 k3 hF
  go_enter Tryz.func10, Tryz.ntmps10
  go_wp2
  go_loopg [0, 3, 4] 4 (fun g nv sv iv wr => w = wr ∧ ((g = 4 ∧ nv = .int .i64 n ∧ sv = .string (str []) ∧ iv = .int .i64 0) ∨ (g = 3 ∧ nv = .int .i64 y1 ∧ sv = .string (str [upD d0]) ∧ iv = .int .i64 1) ∨ (g = 2 ∧ nv = .int .i64 y2 ∧ sv = .string (str [upD d1, upD d0]) ∧ iv = .int .i64 2) ∨ (g = 1 ∧ nv = .int .i64 y3 ∧ sv = .string (str [upD d2, upD d1, upD d0]) ∧ iv = .int .i64 3) ∨ (g = 0 ∧ nv = .int .i64 0 ∧ sv = .string (str [upD d3, upD d2, upD d1, upD d0]) ∧ iv = .int .i64 4)))
  case atStart => exact ⟨rfl, .inl ⟨rfl, rfl, rfl, rfl⟩⟩
  case round =>
    obtain ⟨rfl, hrel⟩ := hrel
    rcases hrel with ⟨hg, rfl, rfl, rfl⟩ | ⟨hg, rfl, rfl, rfl⟩ | ⟨hg, rfl, rfl, rfl⟩ | ⟨hg, rfl, rfl, rfl⟩ | ⟨hg, rfl, rfl, rfl⟩
    · have HG := Lib.hid hg
      clear hg
      go_wp2
      go_roundg 3
      case measure => have := HG.out; omega
      case rel => exact ⟨rfl, .inr (.inl ⟨rfl, by first | rfl | go_num, rfl, rfl⟩)⟩
    · have HG := Lib.hid hg
      clear hg
      go_wp2
      go_roundg 2
      case measure => have := HG.out; omega
      case rel => exact ⟨rfl, .inr (.inr (.inl ⟨rfl, by first | rfl | go_num, rfl, rfl⟩))⟩
    · have HG := Lib.hid hg
      clear hg
      go_wp2
      go_roundg 1
      case measure => have := HG.out; omega
      case rel => exact ⟨rfl, .inr (.inr (.inr (.inl ⟨rfl, by first | rfl | go_num, rfl, rfl⟩)))⟩
    · have HG := Lib.hid hg
      clear hg
      go_wp2
      go_roundg 0
      case measure => have := HG.out; omega
      case rel => exact ⟨rfl, .inr (.inr (.inr (.inr ⟨rfl, by first | rfl | go_num, rfl, rfl⟩)))⟩
    · clear hg
      go_wp2
      go_ret
      exact ⟨rfl, rfl⟩
end Go.Proofs.YthaibekbefndlaaGreatDoor.C

namespace Go.Proofs.YthaibekbefndlaaGreatDoor.C
open Go.RowKit

theorem rowO_len (a n : Nat) : (rowO a n).length = n := by simp [rowO]
/-- the answer of Parse at a definition of one row of scalars -/
def RowTold (w : World) (a n : Nat) (e : Ending) (w' : World) : Prop :=
  ∃ A1 c1 A2 c2 A3 c3 A4 c4, e = .returned (.tuple #[.agg #[.slice A1 0 c1, .slice A2 0 c2, .slice A3 0 c3, .slice A4 (if n ≤ 500 then n else 0) c4], .int .u16 (if n ≤ 500 then 0 else 3), .int .i64 (if n ≤ 500 then 0 else 6)]) ∧
    OrdR w' w'.heap.size (.slice A4 (if n ≤ 500 then n else 0) c4) (if n ≤ 500 then rowO a n else []) ∧ Below w.heap.size w w'
theorem rowParse_any (d e : List UInt8) (a b n : Nat) (hd : hexN d 0 = some a) (he : hexN e 0 = some b) (wd : ∀ x ∈ d, isW x = true) (we : ∀ x ∈ e, isW x = true) (ld : d.length = 4) (le : e.length = 4)
    (hab : a ≤ b) (hb : b < 55296) (hn : b + 1 - a = n) (w : World) (hG : Gl w) : Calls Tryz.prog 9 #[.string (str (rowText d e))] w (RowTold w a n) := by
  refine (locParse_any (str (rowText d e)) w hG).mono ?_
  rintro e' w' ⟨v1, v2, v3, v4, lo, rfl, -, -, hL, hb1⟩
  rw [str_list, parse_row hd he wd we ld le hab hb, hn] at hL ⊢
  by_cases h5 : n ≤ 500
  · rw [if_pos h5] at hL ⊢
    obtain ⟨A1, c1, rfl⟩ := hL.1.form
    obtain ⟨A2, c2, rfl⟩ := row_form hL.2.1
    obtain ⟨A3, c3, rfl⟩ := row_form hL.2.2.1
    obtain ⟨A4, c4, rfl⟩ := hL.2.2.2.form
    have h4 := OrdR.of hL.2.2.2 (by
      intro e he
      simp only [rowO, List.mem_map] at he
      obtain ⟨i, _, rfl⟩ := he
      exact Nat.zero_le _)
    unfold RowTold
    simp only [if_pos h5]
    refine ⟨A1, c1, A2, c2, A3, c3, A4, c4, ?_, ?_, hb1⟩
    · rw [show (rowO a n).length = n from rowO_len a n]
      rfl
    · rw [show (rowO a n).length = n from rowO_len a n] at h4
      exact h4
  · rw [if_neg h5] at hL ⊢
    obtain ⟨A1, c1, rfl⟩ := hL.1.form
    obtain ⟨A2, c2, rfl⟩ := row_form hL.2.1
    obtain ⟨A3, c3, rfl⟩ := row_form hL.2.2.1
    obtain ⟨A4, c4, rfl⟩ := hL.2.2.2.form
    have h4 := OrdR.of hL.2.2.2 (by intro e he; cases he)
    unfold RowTold
    simp only [if_neg h5]
    exact ⟨A1, c1, A2, c2, A3, c3, A4, c4, rfl, h4, hb1⟩

set_option maxRecDepth 100000 in
set_option maxHeartbeats 4000000 in
theorem localeLongWalk (a0 : Int) (w : World) (hG : Gm w) (w0 : (Lit.int .u8 a0).wf = true) :
    Calls Tryz.prog 5 #[.int .u8 a0] w fun e w' => e = .returned (.bool true) ∧ Below w.heap.size w w' := by
  have hw0 : 0 ≤ a0 ∧ a0 < 256 := by
    have hmin : IntKind.u8.min = 0 := rfl
    have hmax : IntKind.u8.max = 255 := rfl
    simp only [Lit.wf, Bool.and_eq_true, decide_eq_true_eq] at w0
    omega
  clear w0
  obtain ⟨hw1, hw2⟩ := hw0
  obtain ⟨k, hk⟩ : ∃ k : Nat, a0 % 40 = (k : Int) := ⟨(a0 % 40).toNat, by omega⟩
  have hk2 : k < 40 := by omega
  obtain ⟨m, hm⟩ : ∃ m : Nat, (480 : Int) + (k : Int) = (m : Int) := ⟨480 + k, by omega⟩
  have hm1 : 480 ≤ m := by omega
  have hm2 : m < 520 := by omega
  obtain ⟨x, hx⟩ : ∃ x : Nat, (256 : Int) + (m : Int) - 1 = (x : Int) := ⟨255 + m, by omega⟩
  have hx2 : x = 255 + m := by omega
  have hf := four_any x (by omega) w
  have hn := fourL_num (n := x) (by omega)
  have hn0 := fourL_num (n := 256) (by omega)
  have hpr := rowParse_any (fourL 256) (fourL x) 256 x m hn0.1 hn.1 hn0.2.1 hn.2.1 hn0.2.2 hn.2.2 (by omega) (by omega) (by omega) w hG.1
  obtain ⟨T1, hT1⟩ : ∃ T1, T1 = str ([111, 114, 100, 101, 114, 32, 60, 85, 48, 49, 48, 48, 62, 32, 46, 46, 46, 32, 60, 85] ++ fourL x) := ⟨_, rfl⟩
  have t1 : (⟨#[111, 114, 100, 101, 114, 32, 60, 85, 48, 49, 48, 48, 62, 32, 46, 46, 46, 32, 60, 85]⟩ : ByteArray) ++ str (fourL x) = T1 := by rw [hT1]; exact str_append _ _
  obtain ⟨T2, hT2⟩ : ∃ T2, T2 = str (rowText (fourL 256) (fourL x)) := ⟨_, rfl⟩
  have t2 : T1 ++ (⟨#[62]⟩ : ByteArray) = T2 := by
    rw [hT1, hT2]
    refine (str_append _ [62]).trans ?_
    congr 1
  rw [← hT2] at hpr
  have z0 : (str (fourL x)).size = 4 := hn.2.2
  have z1 : T1.size = 24 := by rw [hT1]; rfl
  have z2 : T2.size = 25 := by rw [hT2]; rfl
  clear hn hn0 hT1 hT2 hx2
  generalize str (fourL x) = F at *
  have HG := Lib.hid hG
  clear hG
  go_enter Tryz.func5, Tryz.ntmps5
  go_wp2_with fail
  refine hf.mono ?_
  rintro e w' ⟨rfl, rfl⟩
  clear hf
  go_wp2_with fail
  refine hpr.mono ?_
  rintro e w1 ⟨A1, c1, A2, c2, A3, c3, A4, c4, rfl, -, hb1⟩
  clear hpr
  obtain ⟨W1, hW1⟩ : ∃ W1, W1 = w1.alloc (.cells #[.slice A1 0 c1, .slice A2 0 c2, .slice A3 0 c3, .slice A4 (if m ≤ 500 then m else 0) c4] 26) := ⟨_, rfl⟩
  have hbW : Below w1.heap.size w1 W1 := by rw [hW1]; exact (Below.refl _ _).alloc (Nat.le_refl _) _
  have hrow : Rw W1 w1.heap.size 26 #[.slice A1 0 c1, .slice A2 0 c2, .slice A3 0 c3, .slice A4 (if m ≤ 500 then m else 0) c4] := by rw [hW1]; exact heap_alloc_new w1 _
  have HB1 := Lib.hid (hb1.trans (hbW.mono hb1.size))
  have HW := Lib.hid hrow
  have hkn := known07_any W1 ((HG.out.next hb1).next hbW)
  clear hrow hb1 hbW
  by_cases h5 : m ≤ 500
  · simp only [if_pos h5] at hW1 HW ⊢
    have i5 : (m : Int) ≤ 500 := by omega
    go_wp2_with fail
    rw [← hW1]
    refine hkn.mono ?_
    rintro e w2 ⟨rfl, hb2⟩
    have p3 : w2.cell? ⟨w1.heap.size, 3, none⟩ = some (.slice A4 m c4) := (HW.out.on hb2 HW.out.lt).cell rfl
    have HB2 := Lib.hid (HB1.out.trans (hb2.mono HB1.out.size))
    clear hkn hb2 h5
    go_wp2
    go_ret
    exact ⟨rfl, HB2.out⟩
  · simp only [if_neg h5] at hW1 HW ⊢
    have i5 : ¬ (m : Int) ≤ 500 := by omega
    have d5 : (!decide ((m : Int) ≤ 500)) = true := by rw [decide_eq_false i5]; rfl
    go_wp2_with fail
    rw [← hW1]
    refine hkn.mono ?_
    rintro e w2 ⟨rfl, hb2⟩
    have HB2 := Lib.hid (HB1.out.trans (hb2.mono HB1.out.size))
    clear hkn hb2 h5
    go_wp2
    go_ret
    exact ⟨rfl, HB2.out⟩
end Go.Proofs.YthaibekbefndlaaGreatDoor.C
