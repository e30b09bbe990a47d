/-
  The chapter's example: it holds. Condition: what the listed variables hold.
-/
import Derived.Test.YtcpjcepeiplfgaaDoorTcL
import Derived.Test.YtcpjcepeiplfgaaDoorTcD
namespace Go.Proofs.YtcpjcepeiplfgaaDoor.C
open Go.RowKit

theorem BuTold.below {w w' : World} {Bb : Nat} {v : Value} {t : Tr} {x : Nd} {e : Ending} (h : BuTold w Bb v t x e w') (hu : BuSt w Bb v t) : Below Bb w w' := by
  obtain ⟨-, v', -, hf, -⟩ := h
  refine hf.below (fun j _ hj => ?_) (by have := hu.1.lt; omega)
  rcases hj with hj | hj
  · omega
  · obtain ⟨xs, _, hy, _⟩ := hu.2
    have := (hy.lt j hj).1
    omega
def exT : Tr := layT (layT ⟨[], 0⟩ { nd 1 with c := 97 }) { nd 10 with mn := 0, mx := -1, ks := [0] }
theorem exT_right : rightT exT = true := by decide
theorem exT_print : str (printT exT) = (⟨#[39, 97, 42, 48, 44, 45, 49]⟩ : ByteArray) := by
  have h0 : Lib.itoa 0 = [48] := by unfold Lib.itoa; rw [if_neg (by decide), Lib.decDigits, dif_pos (by decide)]; rfl
  have h1 : Lib.itoa (-1) = [45, 49] := by unfold Lib.itoa; rw [if_pos (by decide), Lib.decDigits, dif_pos (by decide)]; rfl
  have hp : printT exT = befT { nd 10 with mn := 0, mx := -1, ks := [0] } ++ joinP (betT { nd 10 with mn := 0, mx := -1, ks := [0] }) (prI exT) [0] ++ behT { nd 10 with mn := 0, mx := -1, ks := [0] } := by
    unfold printT
    rw [if_pos exT_right]
    exact prI_eq (t := exT) (i := 1) (x := { nd 10 with mn := 0, mx := -1, ks := [0] }) rfl (by simp)
  have h2 : prI exT 0 = [39, 97] := by
    have := prI_eq (t := exT) (i := 0) (x := { nd 1 with c := 97 }) rfl (by simp [nd])
    rw [show prI exT 0 = prI exT ((0 : Nat) : Int) from rfl, this]
    simp [befT, behT, joinP, nd, textL, shown]
  rw [hp]
  simp only [befT, betT, behT, joinP, nd, h0, h1, h2]
  rfl
theorem noT_right : rightT ⟨[], 0⟩ = false := by decide
theorem noT_print : str (printT ⟨[], 0⟩) = (⟨#[]⟩ : ByteArray) := by unfold printT; rw [if_neg (by rw [noT_right]; decide)]; rfl
theorem noT_nds (w : World) (P : Nat → Prop) : NdsP w P none [] [] := ⟨⟨rfl, by simp, fun h => absurd h (by simp)⟩, by simp⟩
theorem TreeTold.parts {w w' : World} {t : Tr} {e : Ending} (h : TreeTold w t e w') : ∃ A c xs, e = .returned (.agg #[.slice A t.ns.length c, .int .i64 t.g]) ∧ NdsP w' (NewB w w') A t.ns xs ∧ Below w.heap.size w w' := h
set_option maxRecDepth 100000 in
set_option maxHeartbeats 8000000 in
theorem known_any (w : World) (hG : Gt w) : Calls Tryd.prog 9 #[] w fun e w' => e = .returned (.bool true) ∧ Below w.heap.size w w' := by
  obtain ⟨S, hS⟩ : ∃ S, w.heap.size = S := ⟨_, rfl⟩
  rw [hS]
  have HG : Hid (∀ w', Below S w w' → Gt w') := Lib.hid (fun w' hb => hG.next hb (by rw [← hS]; exact hG.lt))
  have HNW := Lib.hid (bnew_any w)
  rw [hS] at HNW
  clear hG hS
  go_enter Tryd.func9, Tryd.ntmps9
  go_wp2_with (go_at_call 13; refine HNW.out.mono ?_; rintro e w1 ⟨rfl, hbu1, hb1, hs1⟩; have HBU1 := Lib.hid hbu1; have HB1 := Lib.hid hb1; clear hbu1 hb1 hs1)
  clear HNW
  have hc := bleaf_any w1 (fun _ => False) S (.slice none 0 0) ⟨[], 0⟩ { nd 1 with c := 97 } (.slice none 0 0) (.slice none 0 0) (.slice none 0 0) HBU1.out (nd_plain 1) (fun _ h => h.elim) rfl (by simp [nd]) (by simp [nd]) (by simp) (by decide)
  unfold ndVal at hc
  refine hc.mono ?_
  rintro e w2 h2
  have hb2 := h2.below HBU1.out
  obtain ⟨rfl, v2, hbu2, -, -⟩ := h2
  have HBU2 := Lib.hid hbu2
  have HB2 := Lib.hid (HB1.out.trans hb2)
  clear hc hb2 hbu2 HBU1 HB1
  have hc := btimes_any w2 S v2 (layT ⟨[], 0⟩ { nd 1 with c := 97 }) 0 0 (-1) HBU2.out (by simp [layT]) (by simp [layT, nd])
  go_wp2_with fail
  refine hc.mono ?_
  rintro e w3 h3
  have hb3 := h3.below HBU2.out
  obtain ⟨rfl, v3, hbu3, -, -⟩ := h3
  have HBU3 : Hid (BuSt w3 S v3 exT) := Lib.hid hbu3
  have HB3 := Lib.hid (HB2.out.trans hb3)
  clear hc hb3 hbu3 HBU2 HB2
  have hc := btree_any w3 S v3 exT HBU3.out (by intro x hx; simp [exT, layT, nd] at hx; rcases hx with rfl | rfl <;> simp) (by decide)
  go_wp2_with fail
  refine hc.mono ?_
  rintro e w4 ⟨A, c, xs, rfl, hN4, hb4⟩
  have hS3 : S < w3.heap.size := HBU3.out.1.lt
  have HN4 : Hid (NdsP w4 (fun b => b < w4.heap.size) A exT.ns xs) := Lib.hid (hN4.mono fun b _ hb => hb.2)
  have HB4 : Hid (Below S w w4) := Lib.hid (HB3.out.trans (hb4.mono (by omega)))
  have HS4 : Hid (S < w4.heap.size) := Lib.hid (by have := hb4.size; omega)
  clear hc hN4 hb4 HBU3 HB3 hS3
  obtain ⟨w5, hw5⟩ : ∃ w5, w5 = w4.alloc (.cells #[.slice A exT.ns.length c, .int .i64 exT.g] 34) := ⟨_, rfl⟩
  have hb5 : Below w4.heap.size w4 w5 := by rw [hw5]; exact (Below.refl _ _).alloc (Nat.le_refl _) _
  have hr5 : Rw w5 w4.heap.size 34 #[.slice A exT.ns.length c, .int .i64 exT.g] := by rw [hw5]; exact heap_alloc_new w4 _
  have c0 : w5.cell? ⟨w4.heap.size, 0, none⟩ = some (.slice A exT.ns.length c) := hr5.cell (i := 0) rfl
  have c1 : w5.cell? ⟨w4.heap.size, 1, none⟩ = some (.int .i64 exT.g) := hr5.cell (i := 1) rfl
  have hc := treeRight_any w5 _ A c exT xs (HN4.out.keep (below_cells hb5 (fun _ h => h))) (fun b hb => Nat.lt_of_lt_of_le hb hb5.size) (by decide)
  rw [exT_right] at hc
  have HR5 := Lib.hid hr5
  have HB5 := Lib.hid hb5
  clear hb5 hr5
  go_upto_region 6 with fail
  rw [← hw5]
  clear hw5
  go_wp2_with fail
  refine hc.mono ?_
  rintro e w6 ⟨rfl, hb6⟩
  have hr6 := HR5.out.on hb6 HR5.out.lt
  have c0 : w6.cell? ⟨w4.heap.size, 0, none⟩ = some (.slice A exT.ns.length c) := hr6.cell (i := 0) rfl
  have c1 : w6.cell? ⟨w4.heap.size, 1, none⟩ = some (.int .i64 exT.g) := hr6.cell (i := 1) rfl
  have hb46 : Below w4.heap.size w4 w6 := HB5.out.trans (hb6.mono HB5.out.size)
  have HB6 : Hid (Below S w w6) := Lib.hid (HB4.out.trans (hb46.mono (by have := HS4.out; omega)))
  have hN6 := HN4.out.keep (below_cells hb46 (fun _ h => h))
  have hc2 := treePrint_any w6 _ A c exT xs hN6 (fun b hb => Nat.lt_of_lt_of_le hb hb46.size) (by decide) (fun _ x hx => by simp [exT, layT, nd] at hx; rcases hx with rfl | rfl <;> simp [Sized]) (HG.out _ HB6.out)
  rw [exT_print] at hc2
  have HSZ6 : Hid (S < w6.heap.size) := Lib.hid (by have := HS4.out; have := hb46.size; omega)
  clear hc hb6 hr6 hb46 hN6
  go_wp2_with fail
  refine hc2.mono ?_
  rintro e w7 ⟨rfl, hb7⟩
  have HB7 : Hid (Below S w w7) := Lib.hid (HB6.out.trans (hb7.mono (by have := HSZ6.out; omega)))
  have HSZ7 : Hid (S < w7.heap.size) := Lib.hid (by have := HSZ6.out; have := hb7.size; omega)
  clear hc2 hb7 c0 c1
  have hc := treeRight_any w7 (fun _ => False) none 0 ⟨[], 0⟩ [] (noT_nds _ _) (fun _ h => h.elim) (by decide)
  rw [noT_right] at hc
  go_wp2_with fail
  refine hc.mono ?_
  rintro e w8 ⟨rfl, hb8⟩
  have HB8 : Hid (Below S w w8) := Lib.hid (HB7.out.trans (hb8.mono (by have := HSZ7.out; omega)))
  have HSZ8 : Hid (S < w8.heap.size) := Lib.hid (by have := HSZ7.out; have := hb8.size; omega)
  clear hc hb8
  have hc := treePrint_any w8 (fun _ => False) none 0 ⟨[], 0⟩ [] (noT_nds _ _) (fun _ h => h.elim) (by decide) (fun h => by rw [noT_right] at h; cases h) (HG.out _ HB8.out)
  rw [noT_print] at hc
  go_wp2_with fail
  refine hc.mono ?_
  rintro e w9 ⟨rfl, hb9⟩
  have HB9 : Hid (Below S w w9) := Lib.hid (HB8.out.trans (hb9.mono (by have := HSZ8.out; omega)))
  clear hc hb9
  go_wp2
  go_ret
  exact ⟨rfl, HB9.out⟩
end Go.Proofs.YtcpjcepeiplfgaaDoor.C
