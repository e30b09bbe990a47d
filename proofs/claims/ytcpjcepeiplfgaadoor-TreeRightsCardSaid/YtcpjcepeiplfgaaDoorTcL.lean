/-
  Print: a tree as a text. Condition: what the listed variables hold; at most 1000 ranges and texts in a node, if it may be.
-/
import Derived.Test.YtcpjcepeiplfgaaDoorTcK
namespace Go.Proofs.YtcpjcepeiplfgaaDoor.C
open Go.RowKit

def printT (t : Tr) : List UInt8 := if rightT t = true then prI t ((t.ns.length : Int) - 1) else []
set_option maxRecDepth 100000 in
set_option maxHeartbeats 4000000 in
theorem treePrint_any (w : World) (P : Nat → Prop) (A : Option Addr) (c : Nat) (t : Tr) (xs : List (List Value)) (hN : NdsP w P A t.ns xs) (hP : ∀ b, P b → b < w.heap.size) (hl : t.ns.length ≤ maxLen) (hs : rightT t = true → ∀ x ∈ t.ns, Sized x) (hG : Gt w) :
    Calls Tryd.prog 21 #[.agg #[.slice A t.ns.length c, .int .i64 t.g]] w fun e w' => e = .returned (.string (str (printT t))) ∧ Below w.heap.size w w' := by
  obtain ⟨S, hS⟩ : ∃ S, w.heap.size = S := ⟨_, rfl⟩
  rw [hS]
  obtain ⟨W1, hW1⟩ : ∃ W1, W1 = w.alloc (.cells #[.slice A t.ns.length c, .int .i64 t.g] 34) := ⟨_, rfl⟩
  have hb1 : Below S w W1 := by rw [hW1]; exact (Below.refl _ _).alloc (by omega) _
  have hr1 : Rw W1 S 34 #[.slice A t.ns.length c, .int .i64 t.g] := by rw [hW1, ← hS]; exact heap_alloc_new w _
  have hs1 : W1.heap.size = S + 1 := by rw [hW1]; simp; omega
  have hPS : ∀ b, P b → b < S := by rw [← hS]; exact hP
  have c0 : W1.cell? ⟨S, 0, none⟩ = some (.slice A t.ns.length c) := hr1.cell (i := 0) rfl
  have c1 : W1.cell? ⟨S, 1, none⟩ = some (.int .i64 t.g) := hr1.cell (i := 1) rfl
  have hcall := treeRight_any W1 P A c t xs (hN.keep (below_cells hb1 hPS)) (fun b hp => by have := hPS b hp; omega) hl
  have HN := Lib.hid hN
  have HP := Lib.hid hPS
  have HB1 := Lib.hid hb1
  have HR1 := Lib.hid hr1
  have HS1 := Lib.hid hs1
  have HSZ := Lib.hid hs
  have HG : Hid (∀ w', Below S w w' → Gt w') := Lib.hid (fun w' hb => hG.next hb (by rw [← hS]; exact hG.lt))
  have HS3 : Hid (3 ≤ S) := Lib.hid (by rw [← hS]; exact hG.lt)
  unfold maxLen at hl
  have HL := Lib.hid hl
  clear hN hP hPS hb1 hr1 hs1 hs hG hl
  cases hrt : rightT t with
  | false =>
    rw [hrt] at hcall
    have HE : Hid (printT t = []) := Lib.hid (if_neg (by rw [hrt]; decide))
    clear hrt
    go_enter Tryd.func21, Tryd.ntmps21
    go_upto_region 1 with fail
    rw [← hW1]
    clear hW1
    go_wp2_with fail
    refine hcall.mono ?_
    rintro e w2 ⟨rfl, hb2⟩
    have HB2 : Hid (Below S w w2) := Lib.hid (HB1.out.trans (hb2.mono (by have := HS1.out; omega)))
    clear hb2 hcall
    go_wp2
    go_ret
    rw [HE.out]
    exact ⟨rfl, HB2.out⟩
  | true =>
    rw [hrt] at hcall
    have HE : Hid (printT t = prI t ((t.ns.length : Int) - 1)) := Lib.hid (if_pos hrt)
    have HRT := Lib.hid hrt
    clear hrt
    go_enter Tryd.func21, Tryd.ntmps21
    go_upto_region 1 with fail
    rw [← hW1]
    clear hW1
    go_wp2_with fail
    refine hcall.mono ?_
    rintro e w2 ⟨rfl, hb2⟩
    have hr2 := HR1.out.on hb2 HR1.out.lt
    have c0 : w2.cell? ⟨S, 0, none⟩ = some (.slice A t.ns.length c) := hr2.cell (i := 0) rfl
    have HB2 : Hid (Below S w w2) := Lib.hid (HB1.out.trans (hb2.mono (by have := HS1.out; omega)))
    have HR2 := Lib.hid hr2
    clear hcall hb2 hr2 c1
    obtain ⟨w3, hw3⟩ : ∃ w3, w3 = w2.alloc (.cells #[.pointer none, .slice none 0 0, .slice A t.ns.length c] 77) := ⟨_, rfl⟩
    have hb3 : Below w2.heap.size w2 w3 := by rw [hw3]; exact (Below.refl _ _).alloc (Nat.le_refl _) _
    have hr3 : Rw w3 w2.heap.size 77 #[.pointer none, .slice none 0 0, .slice A t.ns.length c] := by rw [hw3]; exact heap_alloc_new w2 _
    have hu3 : IsBu 77 [.slice A t.ns.length c] w2.heap.size w2.heap.size [] w3 := .inl ⟨Nat.le_refl _, .slice none 0 0, hr3, World.ownsRow_nil _ _ _ _⟩
    have hB3 : Below S w w3 := HB2.out.trans (hb3.mono (by have := HR2.out.lt; omega))
    obtain ⟨⟨m1, m2, m3, m4⟩, hna, -⟩ := right_parts HRT.out
    obtain ⟨nn, hnn⟩ : ∃ nn : Nat, t.ns.length = nn + 1 := ⟨t.ns.length - 1, by omega⟩
    have hsz := HSZ.out HRT.out
    have hlen := print_len HRT.out hsz
    have hpi : prI t (nn : Int) = prI t ((t.ns.length : Int) - 1) := by rw [hnn]; congr 1; omega
    have hs2 : S < w2.heap.size := HR2.out.lt
    have hcall := printNode_any t w2.heap.size w2.heap.size c A xs hna m4 hsz (by have := HS3.out; omega) nn w3 [] (by omega) (HN.out.keep (below_cells hB3 HP.out) |>.mono fun b _ hp => by have := HP.out b hp; omega) hu3 (HG.out _ hB3) (by rw [hpi]; simp only [List.length_nil]; omega)
    have d0 : w3.cell? ⟨S, 0, none⟩ = some (.slice A t.ns.length c) := (HR2.out.on hb3 hs2).cell (i := 0) rfl
    have HB3 := Lib.hid hB3
    have HPI := Lib.hid hpi
    have HS2 := Lib.hid hs2
    rw [List.nil_append] at hcall
    obtain ⟨n, hn⟩ : ∃ n, n = t.ns.length := ⟨_, rfl⟩
    rw [← hn] at hcall c0 d0 hw3
    have wn : IntKind.i64.wrap ((n : Int) - 1) = (nn : Int) := by rw [IntKind.wrap_i64]; omega
    have HN2 := Lib.hid hn
    clear hr3 hu3 hB3 hb3 hna m1 m2 m3 m4 hlen hsz hpi hs2 hnn
    rw [← hn]
    clear hn
    go_upto_region 4 with fail
    rw [← hw3]
    clear hw3 c0
    go_wp2_with fail
    refine hcall.mono ?_
    rintro e w4 ⟨rfl, h1, h2, h3⟩
    have hst := string_any 77 _ w2.heap.size w2.heap.size _ w4 (.inr h1) (by have := h1.lt; omega)
    have HB4 : Hid (Below S w w4) := Lib.hid (HB3.out.trans (h3.mono (by have := HS2.out; omega)))
    have HS42 : Hid (w2.heap.size ≤ w4.heap.size) := Lib.hid (by have := h1.lt; omega)
    clear hcall h1 h2 h3
    go_wp2_with fail
    refine hst.mono ?_
    rintro e w5 ⟨rfl, hb5⟩
    have HB5 : Hid (Below S w w5) := Lib.hid (HB4.out.trans (hb5.mono (by have := HS2.out; omega)))
    clear hst hb5
    go_wp2
    go_ret
    rw [HE.out, ← HPI.out]
    exact ⟨rfl, HB5.out⟩
end Go.Proofs.YtcpjcepeiplfgaaDoor.C
