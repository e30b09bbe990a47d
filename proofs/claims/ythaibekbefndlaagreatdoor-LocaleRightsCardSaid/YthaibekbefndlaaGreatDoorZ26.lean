/-
  Joined: LfL, LfM. Each with what its own head says.
-/
import Derived.Test.YthaibekbefndlaaGreatDoorZ23

namespace Go.Proofs.YthaibekbefndlaaGreatDoor.C
open Go.RowKit

theorem canon_all {l : List Int} (h : canonB l = true) : l.all rightB = true := by
 unfold canonB at h
 rw [Bool.and_eq_true] at h
 exact h.1
theorem bytesOf_len (l : List Int) : (bytesOf l).length ≤ 4 * l.length := by
 unfold bytesOf
 have h1 := (encL_len l).2
 have h2 := sb_size (encL l)
 have h3 : (sb (encL l)).data.toList.length = (sb (encL l)).size := by rw [Array.length_toList]; rfl
 omega
theorem str_bytesOf (l : List Int) : str (bytesOf l) = sb (encL l) := str_of _
set_option maxRecDepth 100000 in
set_option maxHeartbeats 4000000 in
theorem elemPut_any (w : World) (B P T : Nat) (nm : List UInt8) (cs : List Int) (sm : Int) (Ac : Option Addr) (cc : Nat) (S : List UInt8) (h : PW w B P S T) (hS : S.length ≤ 4000) (hT : T ≤ 1000) (hG : ∀ w', Below B w w' → Gl w') (hB : B ≤ w.heap.size) (hr : RI .i32 w B Ac cs.length cs) (hok : nm ≠ [] → cs.length ≤ 4 ∧ cs.all rightB = true) (hnm : nm.length ≤ 140737488351232) :
  Calls Tryz.prog 41 #[.pointer (some ⟨P, 0, none⟩), .agg #[.string (str nm), .slice Ac cs.length cc, .int .i64 sm]] w (PutTold w B P (S ++ linesT (elemT ⟨nm, cs, sm⟩)) (T + (toksT (elemT ⟨nm, cs, sm⟩)).length)) := by
 obtain ⟨W, hW⟩ : ∃ W, W = w.alloc (.cells #[.string (str nm), .slice Ac cs.length cc, .int .i64 sm] 34) := ⟨_, rfl⟩
 have hbW : Below w.heap.size w W := by rw [hW]; exact (Below.refl _ _).alloc (Nat.le_refl _) _
 have hkW : Kp B P w W := Kp.of_below hbW hB
 have hP := h.old hbW
 by_cases h0 : nm = []
 ·subst h0
  have hx : S ++ linesT (elemT ⟨[], cs, sm⟩) = S ∧ T + (toksT (elemT ⟨[], cs, sm⟩)).length = T := by simp [elemT, linesT, toksT]
  rw [hx.1, hx.2]
  have hem : (str []).toList.isEmpty = true := by rw [str_empty]; rfl
  have HP := Lib.hid (And.intro hP hkW)
  clear h hP hkW hbW hx hG hr hok
  go_enter Tryz.func41, Tryz.ntmps41
  go_wp2
  rw [← hW]
  go_end0
  exact .inl ⟨hS, hT, rfl, HP.out.1, HP.out.2⟩
 obtain ⟨hl4, hall⟩ := hok h0
 have hem : (str nm).toList.isEmpty = false := by
  rw [str_empty]
  cases hq : nm with
  | nil => exact absurd hq h0
  | cons => rfl
 have hR : Rw W w.heap.size 34 #[.string (str nm), .slice Ac cs.length cc, .int .i64 sm] := by rw [hW]; exact heap_alloc_new w _
 have hRP : w.heap.size ≠ P := by have := h.lt; omega
 obtain ⟨X, hX⟩ : ∃ X, X = bytesOf cs := ⟨_, rfl⟩
 obtain ⟨Y, hY⟩ : ∃ Y : List Tok, Y = [⟨1, wElem, 0, 0⟩, ⟨5, nm, 0, 0⟩, ⟨1, wFrom, 0, 0⟩, ⟨4, X, 0, 0⟩] := ⟨_, rfl⟩
 have hlm : linesT (elemT ⟨nm, cs, sm⟩) = lineT Y ∧ (toksT (elemT ⟨nm, cs, sm⟩)).length = 5 := by
  have hi : itemT ⟨nm, cs, sm⟩ = ⟨5, nm, 0, 0⟩ := by unfold itemT; rw [if_neg h0]; rfl
  have he : elemT ⟨nm, cs, sm⟩ = [Y] := by unfold elemT; rw [if_neg h0, hi, hY, hX]; rfl
  rw [he]
  simp [linesT, toksT, hY]
 rw [hlm.1, hlm.2]
 have hkd : ∀ x ∈ Y, x.k ≠ 6 := by rw [hY]; intro x hx; simp at hx; rcases hx with rfl | rfl | rfl | rfl <;> simp
 have HLL := Lib.hid (line_put S (ts := Y) (by rw [hY]; simp) hkd)
 have hXl : X.length ≤ 16 := by rw [hX]; have := bytesOf_len cs; omega
 have hXs : str X = sb (encL cs) := by rw [hX]; exact str_bytesOf cs
 have hen := encode_yes W B Ac cs.length cc cs (RI.below hr (hbW.mono hB)) (Nat.le_trans hB hbW.size) (by omega) hall
 have q0 : W.cell? ⟨w.heap.size, 0, none⟩ = some (.string (str nm)) := hR.cell rfl
 have q1 : W.cell? ⟨w.heap.size, 1, none⟩ = some (.slice Ac cs.length cc) := hR.cell rfl
 have HP0 := Lib.hid hP
 have HR0 := Lib.hid hR
 have HG := Lib.hid hG
 have HKW := Lib.hid hkW
 have HBs : Hid (B ≤ w.heap.size) := Lib.hid hB
 have HY := Lib.hid hY
 have HXl := Lib.hid hXl
 have HXs := Lib.hid hXs
 have HNM := Lib.hid hnm
 have HN0 := Lib.hid h0
 have HTS := Lib.hid (And.intro hS hT)
 rw [hW] at q0 q1
 clear h hP hR hG hbW hkW hX hY hlm hkd hXl hXs hr hok hl4 hall h0
 go_enter Tryz.func41, Tryz.ntmps41
 go_wp2_with fail
 rw [← hW]
 refine hen.mono ?_
 rintro e w2 ⟨v, rfl, hown, hb2⟩
 obtain ⟨A, c, rfl, -, -, hri⟩ := own_slice2 hown
 have HK2 := Lib.hid (HKW.out.trans (Kp.of_below hb2 (Nat.le_trans HBs.out HKW.out.size)))
 have HP := Lib.hid (HP0.out.old hb2)
 have hR2 : Rw w2 w.heap.size 34 #[.string (str nm), .slice Ac cs.length cc, .int .i64 sm] := (hb2.block _ HR0.out.lt).trans HR0.out
 have HR := Lib.hid hR2
 have HCV : Hid (∀ W', Below w2.heap.size w2 W' → (convert 38 9 (.slice A (encL cs).length c)).run Tryz.prog W' = .ok (.string (str X)) W') := Lib.hid fun W' hW' => by rw [HXs.out]; exact conv_ri (RI.below hri hW') c
 have hS5 : (fun W' : World => W'.cell? ⟨w.heap.size, 0, none⟩ = some (.string (str nm)) ∧ W'.cell? ⟨w.heap.size, 1, none⟩ = some (.slice Ac cs.length cc) ∧ W'.cell? ⟨w.heap.size, 2, none⟩ = some (.int .i64 sm) ∧ (convert 38 9 (.slice A (encL cs).length c)).run Tryz.prog W' = .ok (.string (str X)) W') w2.drew := ⟨hR2.cell rfl, hR2.cell rfl, hR2.cell rfl, HCV.out _ (below_drew (Below.refl _ _))⟩
 clear hen hown hb2 hri hR2 q0 q1 hW hS hT
 go_wp2
 refine wp_region_E (S := fun W' : World => W'.cell? ⟨w.heap.size, 0, none⟩ = some (.string (str nm)) ∧ W'.cell? ⟨w.heap.size, 1, none⟩ = some (.slice Ac cs.length cc) ∧ W'.cell? ⟨w.heap.size, 2, none⟩ = some (.int .i64 sm) ∧ (convert 38 9 (.slice A (encL cs).length c)).run Tryz.prog W' = .ok (.string (str X)) W') (L := 9) (by kernel_rfl) ?_
 refine wpAnyE_take2 (i := 0) (oi := ?oiB0) (v := ?vB0) [9] ?hiB0 (by kernel_rfl) (by kernel_rfl) (by kernel_rfl) (by kernel_rfl) (by kernel_rfl) ?hqB0 (Or.inl ⟨?hwB0, ?hyB0⟩) (by assumption) ?restB0
 case hiB0 => exact rfl
 case hqB0 => exact fun _ _ _ h => h
 case hwB0 => rfl
 case hyB0 => (intro x hx; (try dsimp only at hx); simp only [g4, g6]; go_split_ands; go_simp; try with_reducible rfl)
 try simp only [Act.put, g1, g2, g3, g4, g6]
 refine wpAnyE_take2 (i := 2) (oi := ?oiB2) (v := ?vB2) [3, 8, 9] ?hiB2 (by kernel_rfl) (by kernel_rfl) (by kernel_rfl) (by kernel_rfl) (by kernel_rfl) ?hqB2 (Or.inl ⟨?hwB2, ?hyB2⟩) (by assumption) ?restB2
 case hiB2 => exact rfl
 case hqB2 => exact fun _ _ _ h => h
 case hwB2 => rfl
 case hyB2 => (intro x hx; (try dsimp only at hx); simp only [g4, g5, g6]; go_split_ands; go_simp; try with_reducible rfl)
 try simp only [Act.put, g1, g2, g3, g4, g5, g6]
 refine wpAnyE_take2 (i := 5) (oi := ?oiB5) (v := ?vB5) [6, 7, 8, 9] ?hiB5 (by kernel_rfl) (by kernel_rfl) (by kernel_rfl) (by kernel_rfl) (by kernel_rfl) ?hqB5 (Or.inl ⟨?hwB5, ?hyB5⟩) (by assumption) ?restB5
 case hiB5 => exact rfl
 case hqB5 => exact fun _ _ _ h => h
 case hwB5 => rfl
 case hyB5 => (intro x hx; (try dsimp only at hx); simp only [g4, g5, g6]; go_split_ands; go_simp; try with_reducible rfl)
 try simp only [Act.put, g1, g2, g3, g4, g5, g6]
 refine wpAnyE_take2 (i := 6) (oi := ?oiB6) (v := ?vB6) [7, 8, 9] ?hiB6 (by kernel_rfl) (by kernel_rfl) (by kernel_rfl) (by kernel_rfl) (by kernel_rfl) ?hqB6 (Or.inl ⟨?hwB6, ?hyB6⟩) (by assumption) ?restB6
 case hiB6 => exact rfl
 case hqB6 => exact fun _ _ _ h => h
 case hwB6 => rfl
 case hyB6 => (intro x hx; (try dsimp only at hx); simp only [g4, g5, g6]; go_split_ands; go_simp; try with_reducible rfl)
 try simp only [Act.put, g1, g2, g3, g4, g5, g6]
 refine wpAnyE_take2 (i := 7) (oi := ?oiB7) (v := ?vB7) [8, 9] ?hiB7 (by kernel_rfl) (by kernel_rfl) (by kernel_rfl) (by kernel_rfl) (by kernel_rfl) ?hqB7 (Or.inl ⟨?hwB7, ?hyB7⟩) (by assumption) ?restB7
 case hiB7 => exact rfl
 case hqB7 => exact fun _ _ _ h => h
 case hwB7 => rfl
 case hyB7 => (intro x hx; (try dsimp only at hx); simp only [g4, g5, g6]; go_split_ands; go_simp; try with_reducible rfl)
 try simp only [Act.put, g1, g2, g3, g4, g5, g6]
 have hcc := word_any w2.drew ⟨#[99, 111, 108, 108, 97, 116, 105, 110, 103, 45, 101, 108, 101, 109, 101, 110, 116]⟩
 refine wpAnyE_one (i := 1) (by kernel_rfl) rfl (fun K hK => ?_)
 simp only [g4, g5, g6]
 go_simp
 go_at_call 82
 with_reducible refine hcc.mono ?_
 rintro e w3 ⟨rfl, hbn⟩
 have hbm : Below w2.heap.size w2 w3 := ⟨hbn.os, hbn.tape, hbn.output, hbn.size, hbn.block⟩
 have hc3 : Below w2.heap.size w2 w3 := hbm
 have hr3 := HR.out.on hc3 HR.out.lt
 refine hK.out _ _ (fun _ => ⟨hr3.cell rfl, hr3.cell rfl, hr3.cell rfl, HCV.out _ hc3⟩) (fun hSn => ?_)
 replace hSn := hSn (by decide)
 clear hcc hbn hbm hr3 hS5
 have hS := hSn
 clear hSn
 have hcc := item_name w3 nm Ac cs.length cc sm HN0.out
 refine wpAnyE_one (i := 3) (by kernel_rfl) rfl (fun K hK => ?_)
 simp only [g4, g5, g6]
 go_simp
 go_at_call 91
 with_reducible refine hcc.mono ?_
 rintro e w4 ⟨rfl, hbn⟩
 have hbm : Below w3.heap.size w3 w4 := ⟨hbn.os, hbn.tape, hbn.output, hbn.size, hbn.block⟩
 have hc4 : Below w2.heap.size w2 w4 := hc3.trans (hbm.mono hc3.size)
 have hr4 := HR.out.on hc4 HR.out.lt
 refine hK.out _ _ (fun _ => ⟨hr4.cell rfl, hr4.cell rfl, hr4.cell rfl, HCV.out _ hc4⟩) (fun hSn => ?_)
 replace hSn := hSn (by decide)
 clear hcc hbn hbm hr4 hS hc3
 have hS := hSn
 clear hSn
 have hcc := word_any w4 ⟨#[102, 114, 111, 109]⟩
 refine wpAnyE_one (i := 4) (by kernel_rfl) rfl (fun K hK => ?_)
 simp only [g4, g5, g6]
 go_simp
 go_at_call 82
 with_reducible refine hcc.mono ?_
 rintro e w5 ⟨rfl, hbn⟩
 have hbm : Below w4.heap.size w4 w5 := ⟨hbn.os, hbn.tape, hbn.output, hbn.size, hbn.block⟩
 have hc5 : Below w2.heap.size w2 w5 := hc4.trans (hbm.mono hc4.size)
 have hr5 := HR.out.on hc5 HR.out.lt
 refine hK.out _ _ (fun _ => ⟨hr5.cell rfl, hr5.cell rfl, hr5.cell rfl, HCV.out _ hc5⟩) (fun hSn => ?_)
 replace hSn := hSn (by decide)
 clear hcc hbn hbm hr5 hS hc4
 have hS := hSn
 clear hSn
 refine wpAnyE_one (i := 8) (by kernel_rfl) rfl (fun K hK => ?_)
 simp only [g4, g5, g6]
 go_simp
 obtain ⟨W6, hW6⟩ : ∃ W6, W6 = w5.alloc (.cells #[.int .u8 1, .string ⟨#[99, 111, 108, 108, 97, 116, 105, 110, 103, 45, 101, 108, 101, 109, 101, 110, 116]⟩, .int .i64 0, .int .i64 0, .int .u8 5, .string (str nm), .int .i64 0, .int .i64 0, .int .u8 1, .string ⟨#[102, 114, 111, 109]⟩, .int .i64 0, .int .i64 0, .int .u8 4, .string (str X), .int .i64 0, .int .i64 0] 92) := ⟨_, rfl⟩
 rw [← hW6]
 have hb6 : Below w5.heap.size w5 W6 := by rw [hW6]; exact (Below.refl _ _).alloc (Nat.le_refl _) _
 have hc6 : Below w2.heap.size w2 W6 := hc5.trans (hb6.mono hc5.size)
 have hti : TI W6 (w5.heap.size + 1) (some ⟨w5.heap.size, 0, none⟩) 4 Y := by rw [hW6, HY.out]; exact TI.many w5 [⟨1, wElem, 0, 0⟩, ⟨5, nm, 0, 0⟩, ⟨1, wFrom, 0, 0⟩, ⟨4, X, 0, 0⟩] _ rfl
 have hBw2 : B ≤ w2.heap.size := Nat.le_trans HBs.out HK2.out.size
 have hk6 : Kp B P w W6 := HK2.out.trans (Kp.of_below hc6 hBw2)
 have hput := putL_any W6 B P T 4 4 _ S Y _ (HP.out.old hc6) hti (by rw [hW6]; simp) HTS.out.1 HTS.out.2 (by omega) (HG.out _ hk6.1) ⟨by rw [HY.out]; intro x hx; simp at hx; rcases hx with rfl | rfl | rfl | rfl <;> simp, by have := HXl.out; have := HNM.out; rw [HY.out]; simp [prtL, prt, wElem, wFrom]; omega⟩ (Nat.le_trans hBw2 hc6.size)
 have hr6 := HR.out.on hc6 HR.out.lt
 have HK6 := Lib.hid hk6
 have hlY : Y.length = 4 := by rw [HY.out]; rfl
 rw [hlY] at hput
 refine hK.out _ _ (fun _ => ⟨hr6.cell rfl, hr6.cell rfl, hr6.cell rfl, HCV.out _ hc6⟩) (fun hS8 => ?_)
 clear hb6 hti hk6 hc5 hc6 hS hW6 hS8 hr6 hlY
 refine wpAnyE_one (i := 9) (by kernel_rfl) rfl (fun K hK => ?_)
 simp only [g4, g5, g6]
 go_simp
 go_at_call 81
 with_reducible refine hput.mono ?_
 rintro e w7 (⟨a1, a2, rfl, a3, a4⟩ | ⟨a1, rfl, a2⟩)
 rotate_left
 ·exact ⟨rfl, .inr ⟨long_more a1 (by rw [HLL.out.2]; exact Nat.le_refl _) (by omega), rfl, HK6.out.1.trans a2⟩⟩
 refine hK.out _ _ (fun h => absurd rfl h) (fun _ => ?_)
 refine wpAnyE_done (by kernel_rfl) ?_ _
 have hk7 : Kp B P w w7 := HK6.out.trans a4
 have hen := putEnd_any w7 B P _ _ a3 (by rw [HY.out]; simp [prtL, prt]; omega) a1 a2 (fun w' h' => HG.out w' (hk7.1.trans h')) (Nat.le_trans HBs.out hk7.size)
 rw [HLL.out.1, show T + 4 + 1 = T + 5 from rfl] at hen
 have HK7 := Lib.hid hk7
 clear a1 a2 a3 a4 hk7 hput
 go_wp2_with fail
 refine hen.mono ?_
 rintro e w9 (⟨a1, a2, rfl, a3, a4⟩ | ⟨a1, rfl, a2⟩)
 rotate_left
 ·exact ⟨rfl, .inr ⟨a1, rfl, HK7.out.1.trans a2⟩⟩
 have HZ := Lib.hid (And.intro a1 (And.intro a2 (And.intro a3 (HK7.out.trans a4))))
 clear a1 a2 a3 a4 hen
 go_wp2
 go_end0
 exact .inl ⟨HZ.out.1, HZ.out.2.1, rfl, HZ.out.2.2.1, HZ.out.2.2.2⟩
end Go.Proofs.YthaibekbefndlaaGreatDoor.C

namespace Go.Proofs.YthaibekbefndlaaGreatDoor.C
open Go.RowKit

theorem elmR_at {w : World} {B : Nat} {v : Value} {o : List Elm} {i : Nat} {e : Elm} (h : OrdR w B v o) (he : o[i]? = some e) : ∃ ad c Ac cc, v = .slice (some ad) o.length c ∧ ad.block < B ∧ w.cell? (ad.add (i * 3)) = some (.string (str e.name)) ∧ w.cell? ⟨(ad.add (i * 3)).block, (ad.add (i * 3)).off + 1, none⟩ = some (.slice Ac e.cells.length cc) ∧ w.cell? ⟨(ad.add (i * 3)).block, (ad.add (i * 3)).off + 2, none⟩ = some (.int .i64 e.same) ∧ RI .i32 w B Ac e.cells.length e.cells := by
 obtain ⟨A, c, xs, rfl, hsi, hel⟩ := h
 have hi : i < o.length := (List.getElem?_eq_some_iff.1 he).1
 obtain ⟨ad, x, rfl, hb, hx, _, hc⟩ := hsi.at_ hi
 obtain ⟨Ac, cc, hxe, hri, _⟩ := hel i e he
 rw [hx] at hxe
 obtain rfl := Option.some.inj hxe
 exact ⟨ad, c, Ac, cc, rfl, hb, hc 0 _ rfl, by rw [add_more' _ _ _ (by omega)]; exact hc 1 _ rfl, by rw [add_more' _ _ _ (by omega)]; exact hc 2 _ rfl, hri⟩
theorem item_print {e : Elm} (hok : ItemOk e) (hn : e.name.length ≤ 140737488351232) : (prt (itemT e)).length ≤ 140737488351252 ∧ (itemT e).n < 1048576 * 1048576 := by
 unfold itemT
 by_cases h : e.name = []
 ·obtain ⟨a, ha, hb⟩ := hok h
  rw [if_pos h, ha]
  have hg := greatL_len (n := a) (by omega)
  simp [tC, prt]
  omega
 ·rw [if_neg h]
  simp [tN, prt]
  omega
theorem ordT_same {o : List Elm} {i : Nat} {e : Elm} (h : e.same = (i : Int)) : ordT o i e = [tW wOrder, itemT e] := by unfold ordT; rw [if_pos h]
theorem ordT_other {o : List Elm} {i j : Nat} {e x : Elm} (h : e.same = (j : Int)) (hij : i ≠ j) (hx : o[j]? = some x) : ordT o i e = [tW wOrder, itemT e] ++ [tS sSemi, itemT x] := by
 unfold ordT
 rw [if_neg (by rw [h]; omega), h, Int.toNat_natCast, hx]
 rfl
set_option maxRecDepth 100000 in
set_option maxHeartbeats 8000000 in
theorem ordPut_any (w : World) (B P T : Nat) (v : Value) (o : List Elm) (i : Nat) (e : Elm) (S : List UInt8) (h : PW w B P S T) (hS : S.length ≤ 4000) (hT : T ≤ 1000) (hG : ∀ w', Below B w w' → Gl w') (hB : B ≤ w.heap.size) (ho : OrdR w B v o) (he : o[i]? = some e) (hsm : ∃ (j : Nat) (x : Elm), e.same = (j : Int) ∧ o[j]? = some x) (hok : ∀ x ∈ o, ItemOk x ∧ x.name.length ≤ 140737488351232) :
  Calls Tryz.prog 42 #[.pointer (some ⟨P, 0, none⟩), v, .int .i64 i] w (PutTold w B P (S ++ lineT (ordT o i e)) (T + (ordT o i e).length + 1)) := by
 obtain ⟨j, x, hj, hx⟩ := hsm
 obtain ⟨ad, c, Ae, ce, rfl, had, d0, d1, d2, re⟩ := elmR_at ho he
 obtain ⟨ad', c', Ax, cx, hv, _, d3, d4, d5, rx⟩ := elmR_at ho hx
 injection hv with hv _ _
 injection hv with hv
 subst hv
 have hle : i < o.length := (List.getElem?_eq_some_iff.1 he).1
 have hlx : j < o.length := (List.getElem?_eq_some_iff.1 hx).1
 have oke := hok e (List.mem_of_getElem? he)
 have okx := hok x (List.mem_of_getElem? hx)
 have pe := item_print oke.1 oke.2
 have px := item_print okx.1 okx.2
 have ike := itemT_kind e
 have ikx := itemT_kind x
 obtain ⟨⟨ke, te, ne, ae⟩, ie⟩ : ∃ y, y = itemT e := ⟨_, rfl⟩
 obtain ⟨⟨kx, tx, nx, ax⟩, ix⟩ : ∃ y, y = itemT x := ⟨_, rfl⟩
 obtain ⟨Y, hY⟩ : ∃ Y : List Tok, Y = [⟨1, [111, 114, 100, 101, 114], 0, 0⟩, ⟨ke, te, ne, ae⟩] := ⟨_, rfl⟩
 obtain ⟨Z, hZ⟩ : ∃ Z : List Tok, Z = [⟨2, [59], 0, 0⟩, ⟨kx, tx, nx, ax⟩] := ⟨_, rfl⟩
 have hts : i = j → ordT o i e = Y := fun hij => by rw [ordT_same (by rw [hj, hij]), hY, ← ie]; rfl
 have hto : i ≠ j → ordT o i e = Y ++ Z := fun hij => by rw [ordT_other hj hij hx, hY, hZ, ← ie, ← ix]; rfl
 rw [← ie] at pe ike
 rw [← ix] at px ikx
 have hkY : ∀ x ∈ Y, x.k ≠ 6 := by rw [hY]; intro z hz; simp at hz; rcases hz with rfl | rfl <;> simp [ike]
 have hkZ : ∀ x ∈ Y ++ Z, x.k ≠ 6 := by
  intro z hz
  rcases List.mem_append.1 hz with hz | hz
  ·exact hkY z hz
  ·rw [hZ] at hz; simp at hz; rcases hz with rfl | rfl
   ·simp
   ·exact ikx
 have HLY := Lib.hid (line_put S (ts := Y) (by rw [hY]; simp) hkY)
 have HLZ := Lib.hid (line_put S (ts := Y ++ Z) (by rw [hY]; simp) hkZ)
 have hlu : ¬ ((S ++ prtL Y).length ≤ 4000 ∧ T + 2 ≤ 1000) → ¬ ((S ++ lineT (ordT o i e)).length ≤ 4000 ∧ T + (ordT o i e).length + 1 ≤ 1000) := fun a1 => by
  have hlY : Y.length = 2 := by rw [hY]; rfl
  have hlZ : (Y ++ Z).length = 4 := by rw [hY, hZ]; rfl
  by_cases hij : i = j
  ·rw [hts hij]
   exact long_more a1 (by rw [(line_put S (ts := Y) (by rw [hY]; simp) hkY).2]; exact Nat.le_refl _) (by omega)
  ·rw [hto hij]
   exact long_more a1 (by rw [(line_put S (ts := Y ++ Z) (by rw [hY]; simp) hkZ).2, prtL_app]; simp only [List.length_append]; omega) (by omega)
 have HLU := Lib.hid hlu
 have Ie : Hid (itemT e = ⟨ke, te, ne, ae⟩) := Lib.hid ie.symm
 have Ix : Hid (itemT x = ⟨kx, tx, nx, ax⟩) := Lib.hid ix.symm
 have Qe : Hid ((prt ⟨ke, te, ne, ae⟩).length ≤ 140737488351252 ∧ ne < 1048576 * 1048576) := Lib.hid pe
 have Qx : Hid ((prt ⟨kx, tx, nx, ax⟩).length ≤ 140737488351252 ∧ nx < 1048576 * 1048576) := Lib.hid px
 have HY := Lib.hid hY
 have HZ := Lib.hid hZ
 have HOKe := Lib.hid oke
 have HOKx := Lib.hid okx
 have Re := Lib.hid re
 have Rx := Lib.hid rx
 have Ce0 := Lib.hid d0
 have Ce1 := Lib.hid d1
 have Ce2 := Lib.hid d2
 have Cx0 := Lib.hid d3
 have Cx1 := Lib.hid d4
 have Cx2 := Lib.hid d5
 have HAD := Lib.hid had
 have HG := Lib.hid hG
 have HB := Lib.hid hB
 have HTS := Lib.hid hts
 have HTO := Lib.hid hto
 have i0 : (0 : Int) ≤ (i : Int) := by omega
 have i1 : (i : Int) < (o.length : Int) := by omega
 have j0 : (0 : Int) ≤ (j : Int) := by omega
 have j1 : (j : Int) < (o.length : Int) := by omega
 have HKu : Hid (Kp B P w w) := Lib.hid (Kp.refl _ _ _)
 have HBu := Lib.hid hB
 have HPu := Lib.hid h
 have HLu := Lib.hid (And.intro hS hT)
 have HJ := Lib.hid hj
 clear hlu h hS hT hG hB ho he hx hok oke okx pe px ike ikx ie ix hY hZ hts hto hkY hkZ re rx d0 d1 d2 d3 d4 d5 had hle hlx hj
 go_enter Tryz.func42, Tryz.ntmps42
 go_wp2
 refine wp_region_held (S := fun W' : World => W'.cell? (ad.add (i * 3)) = some (.string (str e.name)) ∧ W'.cell? ⟨(ad.add (i * 3)).block, (ad.add (i * 3)).off + 1, none⟩ = some (.slice Ae e.cells.length ce) ∧ W'.cell? ⟨(ad.add (i * 3)).block, (ad.add (i * 3)).off + 2, none⟩ = some (.int .i64 e.same)) (by kernel_rfl) ?_
 change wpAnyH _ _ _ _ _ _ _ _ w.drew
 have hS5 : (fun W' : World => W'.cell? (ad.add (i * 3)) = some (.string (str e.name)) ∧ W'.cell? ⟨(ad.add (i * 3)).block, (ad.add (i * 3)).off + 1, none⟩ = some (.slice Ae e.cells.length ce) ∧ W'.cell? ⟨(ad.add (i * 3)).block, (ad.add (i * 3)).off + 2, none⟩ = some (.int .i64 e.same)) w.drew := ⟨((below_drew HKu.out.1 : Below B w w.drew).cell (p := _) (by rw [block_of_add]; exact HAD.out)).trans Ce0.out, ((below_drew HKu.out.1 : Below B w w.drew).cell (p := ⟨_, _, none⟩) (by rw [block_of_add]; exact HAD.out)).trans Ce1.out, ((below_drew HKu.out.1 : Below B w w.drew).cell (p := ⟨_, _, none⟩) (by rw [block_of_add]; exact HAD.out)).trans Ce2.out⟩
 refine wpHn 0 rfl ?_
 try simp only [Act.put, g1, g2, g3, g4, g6]
 refine wpHn 2 rfl ?_
 try simp only [Act.put, g1, g2, g3, g4, g5, g6]
 refine wpHn 3 rfl ?_
 try simp only [Act.put, g1, g2, g3, g4, g5, g6]
 refine wpHn 4 rfl ?_
 try simp only [Act.put, g1, g2, g3, g4, g5, g6]
 refine wpHn 5 rfl ?_
 try simp only [Act.put, g1, g2, g3, g4, g5, g6]
 have hcc := word_any w.drew ⟨#[111, 114, 100, 101, 114]⟩
 refine wpAnyH_one (i := 1) (by kernel_rfl) rfl (fun K hK => ?_)
 simp only [g4, g5, g6]
 go_simp
 go_at_call 82
 with_reducible refine hcc.mono ?_
 rintro e1 u1 ⟨rfl, hbn⟩
 have hc1 : Below w.heap.size w u1 := ⟨hbn.os, hbn.tape, hbn.output, hbn.size, hbn.block⟩
 have hk1 : Below B w u1 := HKu.out.1.trans (hc1.mono HBu.out)
 refine hK.out _ _ ⟨(hk1.cell (p := _) (by rw [block_of_add]; exact HAD.out)).trans Ce0.out, (hk1.cell (p := ⟨_, _, none⟩) (by rw [block_of_add]; exact HAD.out)).trans Ce1.out, (hk1.cell (p := ⟨_, _, none⟩) (by rw [block_of_add]; exact HAD.out)).trans Ce2.out⟩ (fun hSn => ?_)
 have hit := item_any u1 B Ae ce e (RI.below Re.out hk1) (Nat.le_trans HBu.out hc1.size) HOKe.out.1
 rw [Ie.out] at hit
 unfold tkV at hit
 clear hcc hbn hS5 hk1
 refine wpAnyH_one (i := 6) (by kernel_rfl) rfl (fun K hK => ?_)
 simp only [g4, g5, g6]
 go_simp
 go_at_call 91
 with_reducible refine hit.mono ?_
 rintro e1 u2 ⟨rfl, hbn⟩
 have hc2 : Below w.heap.size w u2 := hc1.trans (hbn.mono hc1.size)
 refine hK.out _ _ ⟨((HKu.out.1.trans (hc2.mono HBu.out)).cell (p := _) (by rw [block_of_add]; exact HAD.out)).trans Ce0.out, ((HKu.out.1.trans (hc2.mono HBu.out)).cell (p := ⟨_, _, none⟩) (by rw [block_of_add]; exact HAD.out)).trans Ce1.out, ((HKu.out.1.trans (hc2.mono HBu.out)).cell (p := ⟨_, _, none⟩) (by rw [block_of_add]; exact HAD.out)).trans Ce2.out⟩ (fun hS6 => ?_)
 clear hit hbn hSn hc1
 refine wpAnyH_one (i := 7) (by kernel_rfl) rfl (fun K hK => ?_)
 simp only [g4, g5, g6]
 go_simp
 obtain ⟨u3, hW3⟩ : ∃ W3, W3 = u2.alloc (.cells #[.int .u8 1, .string ⟨#[111, 114, 100, 101, 114]⟩, .int .i64 0, .int .i64 0, .int .u8 ke, .string (str te), .int .i64 ne, .int .i64 ae] 92) := ⟨_, rfl⟩
 rw [← hW3]
 have hb3 : Below u2.heap.size u2 u3 := by rw [hW3]; exact (Below.refl _ _).alloc (Nat.le_refl _) _
 have hc3 : Below w.heap.size w u3 := hc2.trans (hb3.mono hc2.size)
 have hti : TI u3 (u2.heap.size + 1) (some ⟨u2.heap.size, 0, none⟩) 2 Y := by rw [hW3, HY.out]; exact TI.many u2 [⟨1, [111, 114, 100, 101, 114], 0, 0⟩, ⟨ke, te, ne, ae⟩] _ rfl
 have hk3 : Kp B P w u3 := HKu.out.trans (Kp.of_below hc3 HBu.out)
 have hput := putL_any u3 B P T 2 2 _ (S) Y _ (HPu.out.old hc3) hti (by rw [hW3]; simp) HLu.out.1 HLu.out.2 (by omega) (HG.out _ hk3.1) ⟨by have := Qe.out.2; rw [HY.out]; intro x hx; simp at hx; rcases hx with rfl | rfl <;> simp; omega, by have h1 := Qe.out.1; have h2 : (prt ⟨1, [111, 114, 100, 101, 114], 0, 0⟩).length = 6 := rfl; rw [HY.out]; simp only [prtL, List.flatMap_cons, List.flatMap_nil, List.length_append, List.length_nil]; omega⟩ (Nat.le_trans HBu.out hc3.size)
 have hlY : Y.length = 2 := by rw [HY.out]; rfl
 rw [hlY] at hput
 have HK3 := Lib.hid hk3
 refine hK.out _ _ ⟨(hk3.1.cell (p := _) (by rw [block_of_add]; exact HAD.out)).trans Ce0.out, (hk3.1.cell (p := ⟨_, _, none⟩) (by rw [block_of_add]; exact HAD.out)).trans Ce1.out, (hk3.1.cell (p := ⟨_, _, none⟩) (by rw [block_of_add]; exact HAD.out)).trans Ce2.out⟩ (fun hS7 => ?_)
 clear hb3 hti hk3 hc2 hc3 hS6 hW3 hlY
 refine wpAnyH_one (i := 8) (by kernel_rfl) rfl (fun K hK => ?_)
 simp only [g4, g5, g6]
 go_simp
 go_at_call 81
 with_reducible refine hput.mono ?_
 rintro e1 u7 (⟨a1, a2, rfl, a3, a4⟩ | ⟨a1, rfl, a2⟩)
 rotate_left
 ·exact ⟨rfl, .inr ⟨HLU.out a1, rfl, HK3.out.1.trans a2⟩⟩
 have hk7 : Kp B P w u7 := HK3.out.trans a4
 refine hK.out _ _ ⟨(hk7.1.cell (p := _) (by rw [block_of_add]; exact HAD.out)).trans Ce0.out, (hk7.1.cell (p := ⟨_, _, none⟩) (by rw [block_of_add]; exact HAD.out)).trans Ce1.out, (hk7.1.cell (p := ⟨_, _, none⟩) (by rw [block_of_add]; exact HAD.out)).trans Ce2.out⟩ (fun hS9 => ?_)
 refine ⟨by kernel_rfl, ?_⟩
 have HK7u := Lib.hid hk7
 have HP7u := Lib.hid a3
 have HL7u := Lib.hid (And.intro a1 a2)
 clear a1 a2 a3 a4 hk7 hS7 hS9 hput HK3
 have c2 : u7.cell? ⟨(ad.add (i * 3)).block, (ad.add (i * 3)).off + 2, none⟩ = some (.int .i64 e.same) := (HK7u.out.1.cell (p := ⟨_, _, none⟩) (by rw [block_of_add]; exact HAD.out)).trans Ce2.out
 rw [HJ.out] at c2
 by_cases hij : i = j
 ·have hto := HTS.out hij
  have b0 : ((j : Int) == (i : Int)) = true := by rw [hij]; simp
  have b1 : ((i : Int) == (j : Int)) = true := by rw [hij]; simp
  have HNE := Lib.hid hij
  have hln : T + 2 + 1 = T + (ordT o i e).length + 1 := by rw [hto, HY.out]; rfl
  have hlt : S ++ lineT Y = S ++ lineT (ordT o i e) := by rw [hto]
  have HLN := Lib.hid (And.intro hln hlt)
  clear hto hij hln hlt
  have hen := putEnd_any u7 B P _ _ HP7u.out (by rw [HY.out]; simp [prtL, prt]; omega) HL7u.out.1 HL7u.out.2 (fun w' h' => HG.out w' (HK7u.out.1.trans h')) (Nat.le_trans HB.out HK7u.out.size)
  rw [HLY.out.1, HLN.out.1, HLN.out.2] at hen
  go_wp2_with fail
  refine hen.mono ?_
  rintro e1 w9 (⟨a1, a2, rfl, a3, a4⟩ | ⟨a1, rfl, a2⟩)
  rotate_left
  ·exact ⟨rfl, .inr ⟨a1, rfl, HK7u.out.1.trans a2⟩⟩
  have HZ := Lib.hid (And.intro a1 (And.intro a2 (And.intro a3 (HK7u.out.trans a4))))
  clear a1 a2 a3 a4 hen
  go_wp2
  go_end0
  exact .inl ⟨HZ.out.1, HZ.out.2.1, rfl, HZ.out.2.2.1, HZ.out.2.2.2⟩
 ·have hto := HTO.out hij
  have b0 : ((j : Int) == (i : Int)) = false := beq_eq_false_iff_ne.2 (by omega)
  have b1 : ((i : Int) == (j : Int)) = false := beq_eq_false_iff_ne.2 (by omega)
  have hln : T + 2 + 2 + 1 = T + (ordT o i e).length + 1 := by rw [hto, HY.out, HZ.out]; rfl
  have hlt : S ++ lineT (Y ++ Z) = S ++ lineT (ordT o i e) := by rw [hto]
  have HLN := Lib.hid (And.intro hln hlt)
  have HLV : Hid (¬ ((S ++ prtL Y ++ prtL Z).length ≤ 4000 ∧ T + 2 + 2 ≤ 1000) → ¬ ((S ++ lineT (ordT o i e)).length ≤ 4000 ∧ T + (ordT o i e).length + 1 ≤ 1000)) := Lib.hid fun a1 => long_more a1 (by rw [hto, HLZ.out.2, prtL_app, List.append_assoc]; exact Nat.le_refl _) (by omega)
  have HKv := HK7u
  have HPv := HP7u
  have HLv := HL7u
  have HBv : Hid (B ≤ u7.heap.size) := Lib.hid (Nat.le_trans HB.out HK7u.out.size)
  have HSL : Hid (prtL Y ++ prtL Z = prtL (Y ++ Z)) := Lib.hid (prtL_app _ _).symm
  clear hto hij hln hlt
  go_wp2
  refine wp_region_held (S := fun W' : World => W'.cell? (ad.add (j * 3)) = some (.string (str x.name)) ∧ W'.cell? ⟨(ad.add (j * 3)).block, (ad.add (j * 3)).off + 1, none⟩ = some (.slice Ax x.cells.length cx) ∧ W'.cell? ⟨(ad.add (j * 3)).block, (ad.add (j * 3)).off + 2, none⟩ = some (.int .i64 x.same)) (by kernel_rfl) ?_
  change wpAnyH _ _ _ _ _ _ _ _ u7.drew
  have hS5 : (fun W' : World => W'.cell? (ad.add (j * 3)) = some (.string (str x.name)) ∧ W'.cell? ⟨(ad.add (j * 3)).block, (ad.add (j * 3)).off + 1, none⟩ = some (.slice Ax x.cells.length cx) ∧ W'.cell? ⟨(ad.add (j * 3)).block, (ad.add (j * 3)).off + 2, none⟩ = some (.int .i64 x.same)) u7.drew := ⟨((below_drew HKv.out.1 : Below B w u7.drew).cell (p := _) (by rw [block_of_add]; exact HAD.out)).trans Cx0.out, ((below_drew HKv.out.1 : Below B w u7.drew).cell (p := ⟨_, _, none⟩) (by rw [block_of_add]; exact HAD.out)).trans Cx1.out, ((below_drew HKv.out.1 : Below B w u7.drew).cell (p := ⟨_, _, none⟩) (by rw [block_of_add]; exact HAD.out)).trans Cx2.out⟩
  refine wpHn 0 rfl ?_
  try simp only [Act.put, g1, g2, g3, g4, g6]
  refine wpHn 2 rfl ?_
  try simp only [Act.put, g1, g2, g3, g4, g5, g6]
  refine wpHn 3 rfl ?_
  try simp only [Act.put, g1, g2, g3, g4, g5, g6]
  refine wpHn 4 rfl ?_
  try simp only [Act.put, g1, g2, g3, g4, g5, g6]
  refine wpHn 5 rfl ?_
  try simp only [Act.put, g1, g2, g3, g4, g5, g6]
  have hcc := sign_any7 u7.drew ⟨#[59]⟩
  refine wpAnyH_one (i := 1) (by kernel_rfl) rfl (fun K hK => ?_)
  simp only [g4, g5, g6]
  go_simp
  go_at_call 86
  with_reducible refine hcc.mono ?_
  rintro e1 v1 ⟨rfl, hbn⟩
  have hc1 : Below u7.heap.size u7 v1 := ⟨hbn.os, hbn.tape, hbn.output, hbn.size, hbn.block⟩
  have hk1 : Below B w v1 := HKv.out.1.trans (hc1.mono HBv.out)
  refine hK.out _ _ ⟨(hk1.cell (p := _) (by rw [block_of_add]; exact HAD.out)).trans Cx0.out, (hk1.cell (p := ⟨_, _, none⟩) (by rw [block_of_add]; exact HAD.out)).trans Cx1.out, (hk1.cell (p := ⟨_, _, none⟩) (by rw [block_of_add]; exact HAD.out)).trans Cx2.out⟩ (fun hSn => ?_)
  have hit := item_any v1 B Ax cx x (RI.below Rx.out hk1) (Nat.le_trans HBv.out hc1.size) HOKx.out.1
  rw [Ix.out] at hit
  unfold tkV at hit
  clear hcc hbn hS5 hk1
  refine wpAnyH_one (i := 6) (by kernel_rfl) rfl (fun K hK => ?_)
  simp only [g4, g5, g6]
  go_simp
  go_at_call 91
  with_reducible refine hit.mono ?_
  rintro e1 v2 ⟨rfl, hbn⟩
  have hc2 : Below u7.heap.size u7 v2 := hc1.trans (hbn.mono hc1.size)
  refine hK.out _ _ ⟨((HKv.out.1.trans (hc2.mono HBv.out)).cell (p := _) (by rw [block_of_add]; exact HAD.out)).trans Cx0.out, ((HKv.out.1.trans (hc2.mono HBv.out)).cell (p := ⟨_, _, none⟩) (by rw [block_of_add]; exact HAD.out)).trans Cx1.out, ((HKv.out.1.trans (hc2.mono HBv.out)).cell (p := ⟨_, _, none⟩) (by rw [block_of_add]; exact HAD.out)).trans Cx2.out⟩ (fun hS6 => ?_)
  clear hit hbn hSn hc1
  refine wpAnyH_one (i := 7) (by kernel_rfl) rfl (fun K hK => ?_)
  simp only [g4, g5, g6]
  go_simp
  obtain ⟨v3, hW3⟩ : ∃ W3, W3 = v2.alloc (.cells #[.int .u8 2, .string ⟨#[59]⟩, .int .i64 0, .int .i64 0, .int .u8 kx, .string (str tx), .int .i64 nx, .int .i64 ax] 92) := ⟨_, rfl⟩
  rw [← hW3]
  have hb3 : Below v2.heap.size v2 v3 := by rw [hW3]; exact (Below.refl _ _).alloc (Nat.le_refl _) _
  have hc3 : Below u7.heap.size u7 v3 := hc2.trans (hb3.mono hc2.size)
  have hti : TI v3 (v2.heap.size + 1) (some ⟨v2.heap.size, 0, none⟩) 2 Z := by rw [hW3, HZ.out]; exact TI.many v2 [⟨2, [59], 0, 0⟩, ⟨kx, tx, nx, ax⟩] _ rfl
  have hk3 : Kp B P w v3 := HKv.out.trans (Kp.of_below hc3 HBv.out)
  have hput := putL_any v3 B P (T + 2) 2 2 _ (S ++ prtL Y) Z _ (HPv.out.old hc3) hti (by rw [hW3]; simp) HLv.out.1 HLv.out.2 (by omega) (HG.out _ hk3.1) ⟨by have := Qx.out.2; rw [HZ.out]; intro x hx; simp at hx; rcases hx with rfl | rfl <;> simp; omega, by have h1 := Qx.out.1; have h2 : (prt ⟨2, [59], 0, 0⟩).length = 2 := rfl; rw [HZ.out]; simp only [prtL, List.flatMap_cons, List.flatMap_nil, List.length_append, List.length_nil]; omega⟩ (Nat.le_trans HBv.out hc3.size)
  have hlY : Z.length = 2 := by rw [HZ.out]; rfl
  rw [hlY] at hput
  have HK3 := Lib.hid hk3
  refine hK.out _ _ ⟨(hk3.1.cell (p := _) (by rw [block_of_add]; exact HAD.out)).trans Cx0.out, (hk3.1.cell (p := ⟨_, _, none⟩) (by rw [block_of_add]; exact HAD.out)).trans Cx1.out, (hk3.1.cell (p := ⟨_, _, none⟩) (by rw [block_of_add]; exact HAD.out)).trans Cx2.out⟩ (fun hS7 => ?_)
  clear hb3 hti hk3 hc2 hc3 hS6 hW3 hlY
  refine wpAnyH_one (i := 8) (by kernel_rfl) rfl (fun K hK => ?_)
  simp only [g4, g5, g6]
  go_simp
  go_at_call 81
  with_reducible refine hput.mono ?_
  rintro e1 v7 (⟨a1, a2, rfl, a3, a4⟩ | ⟨a1, rfl, a2⟩)
  rotate_left
  ·exact ⟨rfl, .inr ⟨HLV.out a1, rfl, HK3.out.1.trans a2⟩⟩
  have hk7 : Kp B P w v7 := HK3.out.trans a4
  refine hK.out _ _ ⟨(hk7.1.cell (p := _) (by rw [block_of_add]; exact HAD.out)).trans Cx0.out, (hk7.1.cell (p := ⟨_, _, none⟩) (by rw [block_of_add]; exact HAD.out)).trans Cx1.out, (hk7.1.cell (p := ⟨_, _, none⟩) (by rw [block_of_add]; exact HAD.out)).trans Cx2.out⟩ (fun hS9 => ?_)
  refine ⟨by kernel_rfl, ?_⟩
  have HK7v := Lib.hid hk7
  have HP7v := Lib.hid a3
  have HL7v := Lib.hid (And.intro a1 a2)
  clear a1 a2 a3 a4 hk7 hS7 hS9 hput HK3
  have hen := putEnd_any v7 B P _ _ HP7v.out (by rw [HY.out]; simp [prtL, prt]; omega) HL7v.out.1 HL7v.out.2 (fun w' h' => HG.out w' (HK7v.out.1.trans h')) (Nat.le_trans HB.out HK7v.out.size)
  rw [List.append_assoc S, HSL.out, HLZ.out.1, HLN.out.1, HLN.out.2] at hen
  go_wp2_with fail
  refine hen.mono ?_
  rintro e1 w9 (⟨a1, a2, rfl, a3, a4⟩ | ⟨a1, rfl, a2⟩)
  rotate_left
  ·exact ⟨rfl, .inr ⟨a1, rfl, HK7v.out.1.trans a2⟩⟩
  have HZ := Lib.hid (And.intro a1 (And.intro a2 (And.intro a3 (HK7v.out.trans a4))))
  clear a1 a2 a3 a4 hen
  go_wp2
  go_end0
  exact .inl ⟨HZ.out.1, HZ.out.2.1, rfl, HZ.out.2.2.1, HZ.out.2.2.2⟩
end Go.Proofs.YthaibekbefndlaaGreatDoor.C
