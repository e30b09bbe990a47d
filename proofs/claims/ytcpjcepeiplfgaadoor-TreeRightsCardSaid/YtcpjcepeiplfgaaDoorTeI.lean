/-
  The document's Print; whether tree's Right and Print are what the document's are: they are. Condition: what the listed variables hold.
-/
import Derived.Test.YtcpjcepeiplfgaaDoorTeG
import Derived.Test.YtcpjcepeiplfgaaDoorTcL
namespace Go.Proofs.YtcpjcepeiplfgaaDoor.C
open Go.RowKit

set_option maxRecDepth 100000 in
set_option maxHeartbeats 4000000 in
theorem refPrintT_any (w : World) (P : Nat → Prop) (A : Option Addr) (c : Nat) (t : Tr) (xs : List (List Value)) (hN : NdsP w P A t.ns xs) (hP : ∀ b, P b → b < w.heap.size) (hl : t.ns.length ≤ maxLen) (hkl : t.ns.length ≤ 200 → (kidsOf t.ns).length ≤ maxLen) (hs : rightT t = true → ∀ x ∈ t.ns, Sized x) (hG : Gt w) :
    Calls Tryd.prog 28 #[.agg #[.slice A t.ns.length c, .int .i64 t.g]] w fun e w' => e = .returned (.string (str (printT t))) ∧ Below w.heap.size w w' := by
  obtain ⟨S, hS⟩ : ∃ S, w.heap.size = S := ⟨_, rfl⟩
  obtain ⟨W, hW⟩ : ∃ W, W = w.alloc (.cells #[.slice A t.ns.length c, .int .i64 t.g] 34) := ⟨_, rfl⟩
  have hb : Below w.heap.size w W := by rw [hW]; exact (Below.refl _ _).alloc (Nat.le_refl _) _
  have hr : Rw W S 34 #[.slice A t.ns.length c, .int .i64 t.g] := by rw [hW, ← hS]; exact heap_alloc_new w _
  have hNW := hN.keep (below_cells hb hP)
  have HSW : Hid (S < W.heap.size) := Lib.hid hr.lt
  have hPW : ∀ b, P b → b < W.heap.size := fun b h => by have := hP b h; have := HSW.out; omega
  have hright := refRight_any W P A c t xs hNW hPW hl hkl
  have HN := Lib.hid hNW
  have HP := Lib.hid hPW
  have HB : Hid (Below S w W) := Lib.hid (by rw [← hS]; exact hb)
  have HG : Hid (∀ w', Below S w w' → Gt w') := Lib.hid (fun w' hb => hG.next hb (by rw [← hS]; exact hG.lt))
  have HRO := Lib.hid hr
  have HS := Lib.hid hs
  have c0 : W.cell? ⟨S, 0, none⟩ = some (.slice A t.ns.length c) := hr.cell (i := 0) rfl
  have c1 : W.cell? ⟨S, 1, none⟩ = some (.int .i64 t.g) := hr.cell (i := 1) rfl
  rw [hS]
  clear hN hP hb hr hNW hPW hG hs hl hkl
  go_enter Tryd.func28, Tryd.ntmps28
  go_upto_region 1 with fail
  rw [← hW]
  clear hW hS
  go_wp2_with fail
  refine hright.mono ?_
  rintro e w2 ⟨rfl, hb2⟩
  have HB2 : Hid (Below S w w2) := Lib.hid (HB.out.trans (hb2.mono (by have := HSW.out; omega)))
  have HN2 := Lib.hid (HN.out.keep (below_cells hb2 HP.out))
  have HP2 : Hid (∀ b, P b → b < w2.heap.size) := Lib.hid (fun b h => by have := HP.out b h; have := hb2.size; omega)
  have HS2 : Hid (S < w2.heap.size) := Lib.hid (by have := HSW.out; have := hb2.size; omega)
  have d0 := below_cell hb2 c0
  have d1 := below_cell hb2 c1
  clear hright hb2 c0 c1
  by_cases hrt : rightT t = true
  · obtain ⟨⟨g1, g2, g3, g4⟩, hna, -, -, -, -⟩ := right_parts hrt
    have hlen := print_len hrt (HS.out hrt)
    have hcall := refPrint_any t A c hna g4 (HS.out hrt) (t.ns.length - 1) (by omega) w2 P xs HN2.out HP2.out (HG.out _ HB2.out) (by rw [show ((t.ns.length - 1 : Nat) : Int) = (t.ns.length : Int) - 1 from by omega]; exact hlen)
    rw [show ((t.ns.length - 1 : Nat) : Int) = (t.ns.length : Int) - 1 from by omega] at hcall
    have HF : Hid (printT t = prI t ((t.ns.length : Int) - 1)) := Lib.hid (by unfold printT; rw [if_pos hrt])
    have wn : IntKind.i64.wrap ((t.ns.length : Int) - 1) = (t.ns.length : Int) - 1 := by rw [IntKind.wrap_i64]; omega
    rw [hrt]
    clear g1 g2 g3 g4 hna hlen hrt
    go_wp2_with fail
    refine hcall.mono ?_
    rintro e w3 ⟨rfl, hb3⟩
    have HE : Hid (Below S w w3) := Lib.hid (HB2.out.trans (hb3.mono (by have := HS2.out; omega)))
    clear hcall hb3
    go_wp2
    go_ret
    exact ⟨by rw [HF.out]; rfl, HE.out⟩
  · have hrf : rightT t = false := by simpa using hrt
    have HF : Hid (printT t = []) := Lib.hid (by unfold printT; rw [if_neg hrt])
    rw [hrf]
    clear hrt hrf
    go_wp2
    go_ret
    exact ⟨by rw [HF.out]; rfl, HB2.out⟩
set_option maxRecDepth 100000 in
set_option maxHeartbeats 4000000 in
theorem tells_any (w : World) (P : Nat → Prop) (A : Option Addr) (c : Nat) (t : Tr) (xs : List (List Value)) (hN : NdsP w P A t.ns xs) (hP : ∀ b, P b → b < w.heap.size) (hl : t.ns.length ≤ maxLen) (hkl : t.ns.length ≤ 200 → (kidsOf t.ns).length ≤ maxLen) (hs : rightT t = true → ∀ x ∈ t.ns, Sized x) (hG : Gt w) :
    Calls Tryd.prog 12 #[.agg #[.slice A t.ns.length c, .int .i64 t.g]] w fun e w' => e = .returned (.bool true) ∧ Below w.heap.size w w' := by
  obtain ⟨S, hS⟩ : ∃ S, w.heap.size = S := ⟨_, rfl⟩
  obtain ⟨W, hW⟩ : ∃ W, W = w.alloc (.cells #[.slice A t.ns.length c, .int .i64 t.g] 34) := ⟨_, rfl⟩
  have hb : Below w.heap.size w W := by rw [hW]; exact (Below.refl _ _).alloc (Nat.le_refl _) _
  have hro : Rw W S 34 #[.slice A t.ns.length c, .int .i64 t.g] := by rw [hW, ← hS]; exact heap_alloc_new w _
  have hNW := hN.keep (below_cells hb hP)
  have HSW : Hid (S < W.heap.size) := Lib.hid hro.lt
  have hPW : ∀ b, P b → b < W.heap.size := fun b h => by have := hP b h; have := HSW.out; omega
  have HN := Lib.hid hNW
  have HP := Lib.hid hPW
  have HB : Hid (Below S w W) := Lib.hid (by rw [← hS]; exact hb)
  have HG : Hid (∀ w', Below S w w' → Gt w') := Lib.hid (fun w' hb => hG.next hb (by rw [← hS]; exact hG.lt))
  have HS := Lib.hid hs
  have HL := Lib.hid (And.intro hl hkl)
  have c0 : W.cell? ⟨S, 0, none⟩ = some (.slice A t.ns.length c) := hro.cell (i := 0) rfl
  have c1 : W.cell? ⟨S, 1, none⟩ = some (.int .i64 t.g) := hro.cell (i := 1) rfl
  obtain ⟨r, hr⟩ : ∃ r, rightT t = r := ⟨_, rfl⟩
  obtain ⟨sp, hsp⟩ : ∃ sp, str (printT t) = sp := ⟨_, rfl⟩
  have HR := Lib.hid hr
  have HT := Lib.hid hsp
  have hc1 := treeRight_any W.drew P A c t xs (hNW.keep (w' := W.drew) fun _ _ => rfl) hPW hl
  rw [hr] at hc1
  rw [hS]
  clear hN hP hb hro hNW hPW hG hs hl hkl hr hsp
  go_enter Tryd.func12, Tryd.ntmps12
  go_upto_region 1 with fail
  rw [← hW]
  clear hW hS
  have hS1 : (fun W' : World => W'.cell? ⟨S, 0, none⟩ = some (.slice A t.ns.length c) ∧ W'.cell? ⟨S, 1, none⟩ = some (.int .i64 t.g)) W.drew := ⟨c0, c1⟩
  refine wp_region_held (S := (fun W' : World => W'.cell? ⟨S, 0, none⟩ = some (.slice A t.ns.length c) ∧ W'.cell? ⟨S, 1, none⟩ = some (.int .i64 t.g))) (by kernel_rfl) ?_
  change wpAnyH _ _ _ _ _ _ _ _ W.drew
  refine wpHn 0 rfl ?_
  try simp only [Act.put, g1, g2, g3, g4, g6]
  refine wpHn 2 rfl ?_
  try simp only [Act.put, g1, g2, g3, g4, g5, g6]
  refine wpAnyH_one (i := 1) (by kernel_rfl) rfl (fun K hK => ?_)
  simp only [g4, g5, g6]
  go_simp
  go_at_call 10
  with_reducible refine hc1.mono ?_
  rintro e w1 ⟨rfl, hb⟩
  have hbw : Below W.heap.size W w1 := (below_drew (Below.refl _ W)).trans hb
  have HWw1 : Hid (Below W.heap.size W w1) := Lib.hid (hbw)
  have hSw1 : (fun W' : World => W'.cell? ⟨S, 0, none⟩ = some (.slice A t.ns.length c) ∧ W'.cell? ⟨S, 1, none⟩ = some (.int .i64 t.g)) w1 := ⟨below_cell HWw1.out c0, below_cell HWw1.out c1⟩
  refine hK.out _ _ hSw1 (fun _ => ?_)
  clear hK hc1 hb hbw
  try simp only [Act.put, g1, g2, g3, g4, g5, g6]
  have hc2 := refRight_any w1 P A c t xs (HN.out.keep (below_cells HWw1.out HP.out)) (fun b h => Nat.lt_of_lt_of_le (HP.out b h) HWw1.out.size) HL.out.1 HL.out.2
  rw [HR.out] at hc2
  refine wpAnyH_one (i := 3) (by kernel_rfl) rfl (fun K hK => ?_)
  simp only [g4, g5, g6]
  go_simp
  go_at_call 27
  with_reducible refine hc2.mono ?_
  rintro e w2 ⟨rfl, hb⟩
  have hbw : Below w1.heap.size w1 w2 := hb
  have HWw2 : Hid (Below W.heap.size W w2) := Lib.hid (HWw1.out.trans (hbw.mono HWw1.out.size))
  have hSw2 : (fun W' : World => W'.cell? ⟨S, 0, none⟩ = some (.slice A t.ns.length c) ∧ W'.cell? ⟨S, 1, none⟩ = some (.int .i64 t.g)) w2 := ⟨below_cell HWw2.out c0, below_cell HWw2.out c1⟩
  refine hK.out _ _ hSw2 (fun _ => ?_)
  clear hK hc2 hb hbw
  try simp only [Act.put, g1, g2, g3, g4, g5, g6]
  refine wpHn 4 rfl ?_
  try simp only [Act.put, g1, g2, g3, g4, g5, g6]
  refine wpHn 5 rfl ?_
  try simp only [Act.put, g1, g2, g3, g4, g5, g6]
  refine wpHn 6 rfl ?_
  try simp only [Act.put, g1, g2, g3, g4, g5, g6]
  refine wpHn 8 rfl ?_
  try simp only [Act.put, g1, g2, g3, g4, g5, g6]
  have hc3 := treePrint_any w2 P A c t xs (HN.out.keep (below_cells HWw2.out HP.out)) (fun b h => Nat.lt_of_lt_of_le (HP.out b h) HWw2.out.size) HL.out.1 HS.out (HG.out _ (HB.out.trans (HWw2.out.mono (by have := HSW.out; omega))))
  rw [HT.out] at hc3
  refine wpAnyH_one (i := 7) (by kernel_rfl) rfl (fun K hK => ?_)
  simp only [g4, g5, g6]
  go_simp
  go_at_call 21
  with_reducible refine hc3.mono ?_
  rintro e w3 ⟨rfl, hb⟩
  have hbw : Below w2.heap.size w2 w3 := hb
  have HWw3 : Hid (Below W.heap.size W w3) := Lib.hid (HWw2.out.trans (hbw.mono HWw2.out.size))
  have hSw3 : (fun W' : World => W'.cell? ⟨S, 0, none⟩ = some (.slice A t.ns.length c) ∧ W'.cell? ⟨S, 1, none⟩ = some (.int .i64 t.g)) w3 := ⟨below_cell HWw3.out c0, below_cell HWw3.out c1⟩
  refine hK.out _ _ hSw3 (fun _ => ?_)
  clear hK hc3 hb hbw
  try simp only [Act.put, g1, g2, g3, g4, g5, g6]
  have hc4 := refPrintT_any w3 P A c t xs (HN.out.keep (below_cells HWw3.out HP.out)) (fun b h => Nat.lt_of_lt_of_le (HP.out b h) HWw3.out.size) HL.out.1 HL.out.2 HS.out (HG.out _ (HB.out.trans (HWw3.out.mono (by have := HSW.out; omega))))
  rw [HT.out] at hc4
  refine wpAnyH_one (i := 9) (by kernel_rfl) rfl (fun K hK => ?_)
  simp only [g4, g5, g6]
  go_simp
  go_at_call 28
  with_reducible refine hc4.mono ?_
  rintro e w4 ⟨rfl, hb⟩
  have hbw : Below w3.heap.size w3 w4 := hb
  have HWw4 : Hid (Below W.heap.size W w4) := Lib.hid (HWw3.out.trans (hbw.mono HWw3.out.size))
  have hSw4 : (fun W' : World => W'.cell? ⟨S, 0, none⟩ = some (.slice A t.ns.length c) ∧ W'.cell? ⟨S, 1, none⟩ = some (.int .i64 t.g)) w4 := ⟨below_cell HWw4.out c0, below_cell HWw4.out c1⟩
  refine hK.out _ _ hSw4 (fun _ => ?_)
  clear hK hc4 hb hbw
  try simp only [Act.put, g1, g2, g3, g4, g5, g6]
  refine wpHn 10 rfl ?_
  try simp only [Act.put, g1, g2, g3, g4, g5, g6]
  refine wpHn 11 rfl ?_
  try simp only [Act.put, g1, g2, g3, g4, g5, g6]
  refine wpAnyH_one (i := 12) (by kernel_rfl) rfl (fun K hK => ?_)
  simp only [g4, g5, g6]
  go_simp
  refine hK.out _ _ hSw4 (fun _ => ?_)
  clear hK
  try simp only [Act.put, g1, g2, g3, g4, g5, g6]
  refine wpAnyH_done (by kernel_rfl) ?_ _
  have HE : Hid (Below S w w4) := Lib.hid (HB.out.trans (HWw4.out.mono (by have := HSW.out; omega)))
  go_wp2
  go_ret
  exact ⟨by first | rfl | simp, HE.out⟩
end Go.Proofs.YtcpjcepeiplfgaaDoor.C
