/-
  Joined: MUtfB, MUtfM, LhC. Each with what its own head says.
-/
import Derived.Test.YthaibekbefndlaaGreatDoorH31

namespace Go.Proofs.YthaibekbefndlaaGreatDoor.C
open Go.RowKit


section
variable {ki : IntKind} {w w' : World} {B B' n : Nat} {A : Option Addr} {zs : List Int}
end
theorem sameL_false {xs ys : List Int} (h : xs ≠ ys) : sameL xs ys = false := by
 have : cmpL xs ys ≠ 0 := fun e => h ((cmpL_eq xs ys).1 e)
 simp [sameL, this]

theorem same_no (w : World) (Bx By : Nat) (Ax Ay : Option Addr) (n cx m cy : Nat) (xs ys : List Int) (h : xs ≠ ys) (hx : RI .i32 w Bx Ax n xs) (hy : RI .i32 w By Ay m ys) (hn : n ≤ maxLen) (hm : m ≤ maxLen) :
  Calls Tryz.prog 29 #[.slice Ax n cx, .slice Ay m cy] w fun e w' => e = .returned (.bool false) ∧ ∃ q, w' = w.drewN q := by
 have := same_any w Bx By Ax Ay n cx m cy xs ys hx hy hn hm
 rw [sameL_false h] at this
 exact this


end Go.Proofs.YthaibekbefndlaaGreatDoor.C

namespace Go.Proofs.YthaibekbefndlaaGreatDoor.C
open Go.RowKit


theorem row_len {ki : IntKind} {w : World} {a : Option Addr} {len cap : Nat} {zs : List Int} (h : L.IsRow ki w a len cap zs) : len ≤ cap ∧ cap ≤ maxLen := by
 rcases h with ⟨rfl, rfl, rfl, rfl⟩ | ⟨x, rfl, hl, hm, hz, hc, _⟩
 ·exact ⟨Nat.le_refl _, Nat.zero_le _⟩
 ·exact ⟨hl, hm⟩
section
variable {P : Program} (w : World)
end

end Go.Proofs.YthaibekbefndlaaGreatDoor.C

namespace Go.Proofs.YthaibekbefndlaaGreatDoor.C
open Go.RowKit

theorem placeL_first {o : List Elm} {c : List Int} {i : Nat} {e : Elm} (he : o[i]? = some e) (hc : e.cells = c) : (placeL o c).isSome = true := by
 cases h : placeL o c with
 | some j => rfl
 | none => exact absurd hc (placeL_out h e (List.mem_of_getElem? he))
theorem OrdR.drewN {w : World} {B : Nat} {v : Value} {o : List Elm} (h : OrdR w B v o) (q : Nat) : OrdR (w.drewN q) B v o := h.keep fun _ _ => rfl
set_option maxRecDepth 100000 in
set_option maxHeartbeats 2000000 in
theorem place_any (w : World) (Bo Bc : Nat) (v : Value) (o : List Elm) (Ac : Option Addr) (cc : Nat) (cs : List Int) (h : OrdR w Bo v o) (hc : RI .i32 w Bc Ac cs.length cs) (hn : o.length ≤ 500) (hm : cs.length ≤ maxLen) :
  Calls Tryz.prog 25 #[v, .slice Ac cs.length cc] w fun e w' => (∃ r : Int, e = .returned (.int .i64 r) ∧ decide (0 ≤ r) = (placeL o cs).isSome) ∧ ∃ q, w' = w.drewN q := by
 obtain ⟨A, c, xs, rfl, -⟩ := id h
 have H := Lib.hid h
 have HC := Lib.hid hc
 have HM := Lib.hid hm
 clear h hc hm
 go_enter Tryz.func25, Tryz.ntmps25
 go_wp2
 go_loopw [5] (fun iv wr => ∃ i : Nat, i ≤ o.length ∧ iv = .int .i64 i ∧ Hid ((∃ q, wr = w.drewN q) ∧ ∀ x ∈ o.take i, x.cells ≠ cs)) (fun iv _ => o.length - (intOf iv).toNat)
 case atStart => exact ⟨0, Nat.zero_le _, rfl, Lib.hid ⟨⟨0, rfl⟩, by simp⟩⟩
 case round =>
  obtain ⟨i, hin, rfl, HQ⟩ := hrel
  by_cases hlt : i < o.length
  ·obtain ⟨e, he⟩ : ∃ e, o[i]? = some e := ⟨_, List.getElem?_eq_getElem hlt⟩
   have hO : OrdR wr Bo (.slice A o.length c) o := by obtain ⟨⟨q, rfl⟩, _⟩ := HQ.out; exact H.out.drewN q
   have hC : RI .i32 wr Bc Ac cs.length cs := by obtain ⟨⟨q, rfl⟩, _⟩ := HQ.out; exact HC.out.drewN q
   obtain ⟨ad, ca, Ax, cx, hA, _, u0, u1, u2, hpx⟩ := elmR_at hO he
   obtain ⟨_, _, _, hv, _, hOl⟩ := hO
   obtain ⟨_, _, _, _, hnk⟩ := hOl i e he
   injection hA with hA _ hC'
   subst hA hC'
   have i0 : (0 : Int) ≤ (i : Int) := by omega
   have i1 : (i : Int) < (o.length : Int) := by omega
   by_cases heq : e.cells = cs
   ·have hs := same_yes wr _ _ Ax Ac e.cells.length cx cs.length cc e.cells cs heq hpx hC hnk.2 HM.out
    have HF := Lib.hid (placeL_first he heq)
    have HQ1 : Hid (∃ q, wr = w.drewN q) := Lib.hid HQ.out.1
    clear hpx hC hOl hnk he heq hv u0 u2
    go_wp2_with fail
    with_reducible refine hs.mono ?_
    rintro r w1 ⟨rfl, hq⟩
    have HQ2 : Hid (∃ q, w1 = w.drewN q) := Lib.hid (by obtain ⟨q, rfl⟩ := HQ1.out; obtain ⟨q', rfl⟩ := hq; exact ⟨q + q', by rw [World.drewN_drewN]⟩)
    clear hs hq
    go_wp2
    go_ret
    exact ⟨⟨i, rfl, by rw [HF.out]; simp⟩, HQ2.out⟩
   ·have hs := same_no wr _ _ Ax Ac e.cells.length cx cs.length cc e.cells cs heq hpx hC hnk.2 HM.out
    have HQ1 : Hid (∃ q, wr = w.drewN q) := Lib.hid HQ.out.1
    have HN : Hid (∀ x ∈ o.take (i + 1), x.cells ≠ cs) := Lib.hid (by
     rw [take_one he]
     intro x hx
     rcases List.mem_append.1 hx with hx | hx
     ·exact HQ.out.2 x hx
     ·rw [List.mem_singleton] at hx
      subst hx
      exact heq)
    clear hpx hC hOl hnk he heq hv u0 u2
    go_wp2_with fail
    with_reducible refine hs.mono ?_
    rintro r w1 ⟨rfl, hq⟩
    have HQ2 : Hid ((∃ q, w1 = w.drewN q) ∧ ∀ x ∈ o.take (i + 1), x.cells ≠ cs) := Lib.hid ⟨by obtain ⟨q, rfl⟩ := HQ1.out; obtain ⟨q', rfl⟩ := hq; exact ⟨q + q', by rw [World.drewN_drewN]⟩, HN.out⟩
    clear hs hq
    go_wp2
    go_roundw
    case rel => exact ⟨i + 1, by omega, by go_num, HQ2⟩
    case measure => simp [intOf]; omega
  ·obtain rfl : i = o.length := by omega
   have hp : (placeL o cs).isSome = false := by
    have h1 := HQ.out.2
    rw [List.take_length] at h1
    rw [placeL_noneO h1]
    rfl
   have HP := Lib.hid hp
   have HQ1 : Hid (∃ q, wr = w.drewN q) := Lib.hid HQ.out.1
   clear hp
   go_wp2
   go_ret
   exact ⟨⟨-1, rfl, by rw [HP.out]; rfl⟩, HQ1.out⟩
end Go.Proofs.YthaibekbefndlaaGreatDoor.C
