/-
  The law BracketEach answers true: letters in a bracket are what it takes, and no others. Condition: a row of bytes, and bytes; what is asked of the listed variables.
-/
import Derived.Test.YthgiikhkcpbpfaaGreatDoorQBaT
import Derived.Test.YthgiikhkcpbpfaaGreatDoorB17
import Derived.Test.YthgiikhkcpbpfaaGreatDoorB24
import Derived.Test.YthgiikhkcpbpfaaGreatDoorB27
namespace Go.Proofs.YthgiikhkcpbpfaaGreatDoor.C
open Go.RowKit

theorem cell_two_new (w : World) (x y : Value) (t : TypeId) : ∀ j u, [x, y][j]? = some u → (w.alloc (.cells #[x, y] t)).cell? ((⟨w.heap.size, 0, none⟩ : Addr).add j) = some u := by
 intro j u hj
 rw [add_plain, Nat.zero_add, World.cell?_alloc_new]
 simpa using hj
def letL (m z : Int) : Int := 97 + z % m
theorem letL_in {m z : Int} (hm : 0 < m) (h : m ≤ 24) : 97 ≤ letL m z ∧ letL m z ≤ 120 := by
 have := Int.emod_nonneg z (b := m) (by omega)
 have := Int.emod_lt_of_pos z hm
 unfold letL
 omega
theorem any_one (ls : List Int) (y : Int) : (ls.map fun c => (c, c)).any (inB y) = ls.any (· == y) := by
 rw [List.any_map]
 congr 1
 funext c
 simp only [Function.comp, inB]
 rw [Bool.eq_iff_iff]
 simp
 omega
set_option maxRecDepth 100000 in
set_option maxHeartbeats 400000 in
theorem bracketEachWalk (a0 : Option Addr) (len0 cap0 : Nat) (z0 : List Int) (a1 a2 : Int) (w : World) (hG : Gm w) (w0 : L.IsRow .u8 w a0 len0 cap0 z0) (w1 : (Lit.int .u8 a1).wf = true) (w2 : (Lit.int .u8 a2).wf = true) :
  Calls Tryz.prog 7 #[.slice a0 len0 cap0, .int .u8 a1, .int .u8 a2] w fun e w' => e = .returned (.bool true) ∧ Below w.heap.size w w' := by
 have ha1 := byte_in w1
 have ha2 := byte_in w2
 have hby : Byt (z0.take len0) := row_u8 w0
 have hln := row_len w0
 have hri := RI.of_row w0
 obtain ⟨zs, hzs⟩ : ∃ zs, zs = z0.take len0 := ⟨_, rfl⟩
 rw [← hzs] at hri hby
 obtain ⟨i0, hi, hz0, hz1, hz2⟩ := info_parts info33
 obtain ⟨y, hy⟩ : ∃ y, y = letL 24 a2 := ⟨_, rfl⟩
 have hy2 : IntKind.i32.wrap (IntKind.u8.wrap (97 + a2 % 24)) = y := by
  rw [hy, letL, IntKind.wrap_u8, IntKind.wrap_i32]; omega
 have htb := tableP_any w hG
 have HG := Lib.hid hG
 have HY := Lib.hid hby
 have HRI := Lib.hid hri
 have HGT : Hid ((5 : Nat) < w.heap.size) := Lib.hid (World.block_lt_of_cell? w _ hG.1)
 have q : ∀ (a : Option Addr) (w : World), (binOp .eql 22 (.pointer a) (.pointer none)).run Tryz.prog w = .ok (.bool a.isNone) w := fun a w => ptr_nilB a w
 clear hG w0 hzs hby hri w1 w2
 go_enter Tryz.func7, Tryz.ntmps7
 go_wp2_with fail
 refine htb.mono ?_
 rintro e w1 ⟨T, v, rfl, ⟨A1, n1, c1, A2, n2, c2, A3, n3, c3, A4, n4, c4, rfl⟩, hT, ht, hb1⟩
 have HT : Hid (w.heap.size ≤ T) := Lib.hid hT
 obtain ⟨w2, hw2⟩ : ∃ w2, w2 = w1.alloc (.cells #[.slice A1 n1 c1, .slice A2 n2 c2, .slice A3 n3 c3, .slice A4 n4 c4] 27) := ⟨_, rfl⟩
 have hb2 : Below w1.heap.size w1 w2 := by rw [hw2]; exact below_new _ _
 have HB2 : Hid (Below w.heap.size w w2) := Lib.hid (hb1.trans (hb2.mono hb1.size))
 have HT2 := Lib.hid (ht.keep hb2)
 clear htb hT ht hb1 hb2
 go_wp2
 rw [← hw2]
 clear hw2
 go_loopw [9, 10] (fun v iv wr => ∃ i : Nat, i ≤ len0 ∧ i ≤ 10 ∧ iv = .int .i64 i ∧ Hid (wr.ownsRow w2.heap.size 30 1 v i (((zs.take i).map (letL 20)).map (Value.int .i32))) ∧ Below w2.heap.size w2 wr) (fun _ iv _ => 10 - (intOf iv).toNat)
 case atStart => exact ⟨0, by omega, by omega, rfl, World.ownsRow_nil _ _ _ _, Below.refl _ _⟩
 case round =>
  obtain ⟨i, hin, hi10, rfl, HW, hb⟩ := hrel
  have hsz := hb.size
  by_cases hlt : i < len0 ∧ i < 10
  ·obtain ⟨h1, h2⟩ := hlt
   obtain ⟨ad, k, rfl, hbl, hk, hcell⟩ := HRI.out.at_ h1
   have hcr : wr.cell? (ad.add i) = some (.int .u8 k) := (hb.cell (p := ad.add i) (by rw [block_of_add]; have := HB2.out.size; omega)).trans ((below_cell HB2.out hcell))
   obtain ⟨k0, k1⟩ := HY.out k (List.mem_of_getElem? hk)
   have HK := Lib.hid hk
   clear hk hcell
   go_wp2_with (at_builtin; (refine wpList_append_own _ rfl _ _ 39 rfl w2.heap.size 30 i0 (.int .i32 0) 1 4 Tryz.underlying39 hi hz0 hz1 hz2 rfl (by decide) _ _ _ rfl (HW.out.alloc _) _ 1 1 [.int .i32 (97 + k % 20)] rfl rfl (cell_one_new _ _ _) (by intro u hu; simp at hu; subst hu; rfl) (by unfold maxLen; omega) (by omega) (by simp; omega) ?_); intro v' w3 hown' hgrow _; have HO3 := Lib.hid hown'; have HG3 := Lib.hid hgrow; clear hown' hgrow)
   go_roundw
   case rel => exact ⟨i + 1, by omega, by omega, by go_num, Lib.hid (by rw [take_snoc HK.out]; simpa [letL] using HO3.out), (hb.alloc hb.size _).grown HG3.out (by simp; omega) (fun j hj => (HW.out.lt j hj).1)⟩
   case measure => simp [intOf]; omega
  ·have e : zs.take i = zs.take 10 := by
    rcases (by omega : i = 10 ∨ len0 ≤ i) with rfl | h
    ·rfl
    ·rw [List.take_of_length_le (by rw [HRI.out.1]; omega), List.take_of_length_le (by rw [HRI.out.1]; omega)]
   have HW' := HW.out
   rw [e] at HW'
   replace HW' := Lib.hid HW'
   have hlen : (zs.take 10).length = i := by
    rw [List.length_take, HRI.out.1]; omega
   obtain ⟨ls, hls⟩ : ∃ ls, ls = (zs.take 10).map (letL 20) ++ [letL 20 a1] := ⟨_, rfl⟩
   have hln1 : ls.length = i + 1 := by rw [hls, List.length_append, List.length_map, hlen]; rfl
   have hlet : Lets ls := by
    rw [hls]
    intro c hc
    rw [List.mem_append, List.mem_map, List.mem_singleton] at hc
    rcases hc with ⟨z, _, rfl⟩ | rfl
    ·have := letL_in (m := 20) (z := z) (by omega) (by omega); omega
    ·have := letL_in (m := 20) (z := a1) (by omega) (by omega); omega
   have hbrk := brk_lets plainLoc hlet (fun h => by rw [h] at hln1; simp at hln1)
   have HLS := Lib.hid hls
   have HLET := Lib.hid hlet
   have HBRK := Lib.hid hbrk
   have HLN := Lib.hid hln1
   have HB : Hid (Below w2.heap.size w2 wr) := Lib.hid hb
   have hcs : (i < len0 ∧ decide ((i : Int) < 10) = false) ∨ (True ∧ decide (i < len0) = false) := by
    by_cases h : i < len0
    ·exact .inl ⟨h, by simp; omega⟩
    ·exact .inr ⟨trivial, by simpa using h⟩
   clear HW hlt e hlen hls hlet hbrk hln1 hb
   rcases hcs with ⟨h1, h3⟩ | ⟨h1, h3⟩
   all_goals
    go_wp2_with (at_builtin; (refine wpList_append_own _ rfl _ _ 39 rfl w2.heap.size 30 i0 (.int .i32 0) 1 4 Tryz.underlying39 hi hz0 hz1 hz2 rfl (by decide) _ _ _ rfl (HW'.out.alloc _) _ 2 2 [.int .i32 (97 + a1 % 20), .int .i32 93] rfl rfl (cell_two_new _ _ _ _) (by intro u hu; simp at hu; rcases hu with rfl | rfl <;> rfl) (by unfold maxLen; omega) (by omega) (by simp; omega) ?_); intro v' w3 hown' hgrow _; have HO3 := Lib.hid hown'; have HG3 := Lib.hid hgrow; clear hown' hgrow)
    have hl2 : (ls ++ [93]).length = ls.length + 1 := by simp
    have ho : w3.ownsRow w2.heap.size 30 1 v' (ls.length + 1) (celC (ls ++ [93])) := by
     have := HO3.out
     rw [HLN.out, HLS.out]
     simpa [celC, letL] using this
    have hb3 : Below w2.heap.size w2 w3 := (HB.out.alloc HB.out.size _).grown HG3.out (by simp; have := HB.out.size; omega) (fun j hj => (HW'.out.lt j hj).1)
    obtain ⟨A, c, rfl⟩ := row_form ho
    have HB3 : Hid (Below w.heap.size w w3) := Lib.hid (HB2.out.trans (hb3.mono HB2.out.size))
    have hp := parseOf_any w3 w T 0 w2.heap.size plainLoc A c (ls ++ [93]) 0 (by rw [hl2]; exact ho) HT2.out.lt (HT2.out.keep hb3) HG.out HB3.out HT.out HGT.out (by rw [hl2, HLN.out]; omega) plain_right plain_rs (by omega)
    rw [HBRK.out] at hp
    unfold BrkTold at hp
    simp only [hl2] at hp
    have HO := Lib.hid ho
    have HT2L := Lib.hid HT2.out.lt
    have HS23 : Hid (w2.heap.size ≤ w3.heap.size) := Lib.hid hb3.size
    clear HO3 HG3 HW' HB hb3 HBRK ho HT2 hl2
    go_wp2_with fail
    refine hp.mono ?_
    rintro e w4 ⟨v, rfl, hs1, -, hf4⟩
    obtain ⟨AR, cR, AT, cT, rfl, hrow⟩ := hs1.row
    simp only [List.length_map, List.length_nil] at hrow ⊢
    have HB4 : Hid (Below w.heap.size w w4) := Lib.hid (below_T HB3.out hf4 HT.out)
    have hown4 := ownsRow_fr HO.out hf4 (fun g hg e => by have := own_ge HO.out hg; have := HT2L.out; omega)
    obtain ⟨w5, hw5⟩ : ∃ w5, w5 = w4.alloc (.cells #[.bool false, .slice AR ls.length cR, .slice AT 0 cT] 34) := ⟨_, rfl⟩
    have hb5 : Below w4.heap.size w4 w5 := by rw [hw5]; exact below_new _ _
    have hz5 : BrkZ w5 w4.heap.size (.bool false) (.slice AR ls.length cR) (.slice AT 0 cT) := by rw [hw5]; exact heap_alloc_new w4 _
    have HRI5 := Lib.hid (RI.of_own (own_next hown4 hb5))
    have HX := Lib.hid hz5.cells
    have HROW := Lib.hid (own_next hrow hb5)
    have HB5 : Hid (Below w.heap.size w w5) := Lib.hid (HB4.out.trans (hb5.mono HB4.out.size))
    have HS5 : Hid (w5.heap.size = w4.heap.size + 1) := Lib.hid (by rw [hw5]; simp)
    clear hp hs1 hf4 hrow hown4 hb5 hz5 HO
    go_wp2
    rw [← hw5]
    clear hw5
    go_loopw [15, 16] (fun b iv wr => ∃ i : Nat, i ≤ ls.length ∧ iv = .int .i64 i ∧ b = .bool ((ls.take i).any (· == 97 + a2 % 24)) ∧ w5 = wr) (fun _ iv _ => ls.length - (intOf iv).toNat)
    case atStart => exact ⟨0, by omega, rfl, rfl, rfl⟩
    case round =>
     obtain ⟨i, hin, rfl, rfl, rfl⟩ := hrel
     by_cases hlt : i < ls.length
     ·obtain ⟨ad, u, rfl, hbl, hu, hcell⟩ := HRI5.out.at_ (k := i) (by omega)
      rw [List.getElem?_append_left hlt] at hu
      obtain ⟨b, hbb⟩ : ∃ b, b = (ls.take i).any (· == 97 + a2 % 24) := ⟨_, rfl⟩
      obtain ⟨d, hd⟩ : ∃ d, (u == 97 + a2 % 24) = d := ⟨_, rfl⟩
      have hnx : (ls.take (i + 1)).any (· == 97 + a2 % 24) = (b || d) := by
       rw [take_snoc hu, List.any_append, ← hbb]
       simp only [List.any_cons, List.any_nil, Bool.or_false, hd]
      have HNX := Lib.hid hnx
      have hlt2 : (i : Int) + 1 < (ls.length : Int) + 1 := by omega
      have hl11 : ls.length ≤ 11 := by rw [HLN.out]; omega
      rw [← hbb]
      clear hnx hbb hu HRI HLS HLET
      cases b
      ·go_wp2
       go_roundw
       case rel => exact ⟨i + 1, by omega, by go_num, by rw [HNX.out]; rfl, trivial⟩
       case measure => simp [intOf]; omega
      ·go_wp2
       go_roundw
       case rel => exact ⟨i + 1, by omega, by go_num, by rw [HNX.out]; rfl, trivial⟩
       case measure => simp [intOf]; omega
     ·obtain rfl : i = ls.length := by omega
      rw [List.take_length]
      obtain ⟨b, hb⟩ : ∃ b, b = ls.any (· == 97 + a2 % 24) := ⟨_, rfl⟩
      rw [← hb]
      have HBB := Lib.hid hb
      clear hb
      have hl11 : ls.length ≤ 11 := by rw [HLN.out]; omega
      have hge : ¬ ((ls.length : Int) + 1 < (ls.length : Int) + 1) := by omega
      obtain ⟨x0, x1, x2⟩ := HX.out
      obtain ⟨w6, hw6⟩ : ∃ w6, w6 = w5.alloc (.cells #[.int .i32 (97 + a2 % 24)] 30) := ⟨_, rfl⟩
      have hb6 : Below w5.heap.size w5 w6 := by rw [hw6]; exact below_new _ _
      have hri6 : RI .i32 w6 (w5.heap.size + 1) (some ⟨w5.heap.size, 0, none⟩) 1 [97 + a2 % 24] := by rw [hw6]; exact ri_new1 w5 _
      have hs6 : w6.heap.size = w5.heap.size + 1 := by rw [hw6]; simp
      have hlen := lensN_any w6 false (.slice AR ls.length cR) (ls.map fun c => (c, c)) AT (some ⟨w5.heap.size, 0, none⟩) cT 1 _ _ (97 + a2 % 24) b (by rw [List.length_map]; exact own_next HROW.out hb6) hri6 (by omega) (by omega) (by rw [any_one, Bool.bne_false]; exact HBB.out.symm)
      have HB6 : Hid (Below w.heap.size w w6) := Lib.hid (HB5.out.trans (hb6.mono HB5.out.size))
      clear hb6 hri6 hs6 HROW HX HRI5
      go_wp2_with fail
      rw [← hw6]
      clear hw6 x0 x1 x2
      refine hlen.mono ?_
      rintro e w7 ⟨⟨An, cn, rfl, -⟩, hb7⟩
      have HB7 : Hid (Below w.heap.size w w7) := Lib.hid (HB6.out.trans (hb7.mono HB6.out.size))
      have hkn := known10_any w7 (HG.out.next HB7.out)
      clear hlen hb7
      go_wp2_with fail
      refine hkn.mono ?_
      rintro e w8 ⟨rfl, hb8⟩
      have HE : Hid (Below w.heap.size w w8) := Lib.hid (HB7.out.trans (hb8.mono HB7.out.size))
      clear hkn hb8
      cases b
      ·simp only [show lenN false = 0 from rfl]
       go_wp2
       go_ret
       exact ⟨by simp [*], HE.out⟩
      ·simp only [show lenN true = 1 from rfl]
       go_wp2
       go_ret
       exact ⟨by simp [*], HE.out⟩
end Go.Proofs.YthgiikhkcpbpfaaGreatDoor.C
