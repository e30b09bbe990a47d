/-
  The statements' known: the chapter's example comes out. Condition: what is asked of the listed variables ('Gl').
-/
import Derived.Test.YtnifcgiajjmogaaGreatDoorLxL
namespace Go.Proofs.YtnifcgiajjmogaaGreatDoor.C
open Go.RowKit

theorem run_step {l l' : List UInt8} {at_ m : Nat} {acc acc' : List Tok} {r : List Tok ⊕ Nat} (h0 : l ≠ []) (h : stepL l at_ acc = some (acc', m)) (hm : 1 ≤ m) (hl : l.drop m = l') (hr : runL l' (at_ + m) acc' = r) : runL l at_ acc = r := by
  rw [runL_some h0 h hm, hl, hr]
def knownT : List Tok := [⟨1, [99, 108, 97, 115, 115], 0, 0⟩, ⟨3, [], 65, 6⟩, ⟨2, [59], 0, 13⟩, ⟨6, [], 0, 16⟩]
theorem lex_known1 : lexL [99, 108, 97, 115, 115, 32, 60, 85, 48, 48, 52, 49, 62, 59, 37, 120] = (knownT, 0, 0) := by
  have h : runL [99, 108, 97, 115, 115, 32, 60, 85, 48, 48, 52, 49, 62, 59, 37, 120] 0 [] = .inl knownT :=
    run_step (m := 5) (acc' := [⟨1, [99, 108, 97, 115, 115], 0, 0⟩]) (by simp) (by kernel_rfl) (by omega) rfl
    (run_step (m := 1) (acc' := [⟨1, [99, 108, 97, 115, 115], 0, 0⟩]) (by simp) (by kernel_rfl) (by omega) rfl
    (run_step (m := 7) (acc' := [⟨1, [99, 108, 97, 115, 115], 0, 0⟩, ⟨3, [], 65, 6⟩]) (by simp) (by kernel_rfl) (by omega) rfl
    (run_step (m := 1) (acc' := [⟨1, [99, 108, 97, 115, 115], 0, 0⟩, ⟨3, [], 65, 6⟩, ⟨2, [59], 0, 13⟩]) (by simp) (by kernel_rfl) (by omega) rfl
    (run_step (m := 2) (acc' := [⟨1, [99, 108, 97, 115, 115], 0, 0⟩, ⟨3, [], 65, 6⟩, ⟨2, [59], 0, 13⟩]) (by simp) (by kernel_rfl) (by omega) rfl
    (by show runL [] 16 _ = _; rw [runL_nil]; rfl)))))
  unfold lexL
  rw [if_neg (by decide), h]
  rfl
theorem lex_known2 : lexL [97, 32, 33] = ([], 20, 2) := by
  have h : runL [97, 32, 33] 0 [] = .inr 2 :=
    run_step (m := 1) (acc' := [⟨1, [97], 0, 0⟩]) (by simp) (by kernel_rfl) (by omega) rfl
    (run_step (m := 1) (acc' := [⟨1, [97], 0, 0⟩]) (by simp) (by kernel_rfl) (by omega) rfl
    (runL_none (by simp) (by kernel_rfl)))
  unfold lexL
  rw [if_neg (by decide), h]
theorem hexL_65 : hexL 65 = [52, 49] := by
  rw [hexL_big (by omega), hexL_small (by omega)]
  kernel_rfl
theorem prt_known : prtL knownT = [99, 108, 97, 115, 115, 32, 60, 85, 48, 48, 52, 49, 62, 32, 59, 32, 10] := by
  have h : greatL 65 = [48, 48, 52, 49] := by
    unfold greatL
    rw [hexL_65]
    kernel_rfl
  unfold prtL knownT
  simp only [List.flatMap_cons, List.flatMap_nil]
  unfold prt
  simp [h]

theorem TI.cell {w : World} {B n : Nat} {A : Option Addr} {ts : List Tok} (h : TI w B A n ts) {ad : Addr} (hA : A = some ad) {k : Nat} {x : Tok} (hx : ts[k]? = some x) (i : Nat) (u : Value) (hu : (tkC x)[i]? = some u) : w.cell? (ad.add (k * 4 + i)) = some u := by
  have hk : k < n := by rw [← h.len]; exact (List.getElem?_eq_some_iff.1 hx).1
  obtain ⟨ad', x', h1, h2, h3, h4⟩ := h.at_ hk
  rw [hA] at h1
  injection h1 with h1
  subst h1
  rw [hx] at h3
  injection h3 with h3
  subst h3
  exact h4 i u hu
theorem TI.some_ {w : World} {B n : Nat} {A : Option Addr} {ts : List Tok} (h : TI w B A n ts) (hn : 0 < n) : ∃ ad, A = some ad ∧ ad.block < B := by
  obtain ⟨ad, e, hb, _⟩ := h.2 hn
  exact ⟨ad, e, hb⟩
theorem add_pos (a : Addr) (j : Nat) (h : 0 < j) : a.add j = ⟨a.block, a.off + j, none⟩ := by
  unfold Addr.add
  rw [if_neg (by omega)]

set_option maxRecDepth 100000 in
set_option maxHeartbeats 4000000 in
theorem known_any (w : World) (hG : Gl w) : Calls Tryz.prog 5 #[] w fun e w' => e = .returned (.bool true) ∧ Below w.heap.size w w' := by
  have h1 := tokens_any ⟨#[99, 108, 97, 115, 115, 32, 60, 85, 48, 48, 52, 49, 62, 59, 37, 120]⟩ w hG
  rw [show (ByteArray.mk #[99, 108, 97, 115, 115, 32, 60, 85, 48, 48, 52, 49, 62, 59, 37, 120]).data.toList = [99, 108, 97, 115, 115, 32, 60, 85, 48, 48, 52, 49, 62, 59, 37, 120] from rfl, lex_known1] at h1
  have h2 := fun W (hW : Gl W) => tokens_any ⟨#[97, 32, 33]⟩ W hW
  rw [show (ByteArray.mk #[97, 32, 33]).data.toList = [97, 32, 33] from rfl, lex_known2] at h2
  have HG := Lib.hid hG
  clear hG
  go_enter Tryz.func5, Tryz.ntmps5
  go_wp2_with fail
  refine h1.mono ?_
  rintro e w1 ⟨A, n, c, rfl, hnc, hcm, ht, hb1⟩
  have HG1 := Lib.hid (HG.out.next hb1)
  obtain rfl : n = 4 := ht.len.symm
  go_wp2_with fail
  refine (h2 _ HG1.out).mono ?_
  rintro e w2 ⟨A2, n2, c2, rfl, _, _, _, hb2⟩
  have ht2 := ht.on hb2 (Nat.le_refl _)
  have HG2 := Lib.hid (HG1.out.next hb2)
  have HB2 := Lib.hid (hb1.trans (hb2.mono hb1.size))
  obtain ⟨ad, rfl, hbl⟩ := ht2.some_ (by omega)
  have q00 : w2.cell? ad = some (.int .u8 1) := ht2.cell rfl (k := 0) (x := ⟨1, [99, 108, 97, 115, 115], 0, 0⟩) rfl 0 _ rfl
  have q01 : w2.cell? (ad.add 1) = some (.string ⟨#[99, 108, 97, 115, 115]⟩) := ht2.cell rfl (k := 0) (x := ⟨1, [99, 108, 97, 115, 115], 0, 0⟩) rfl 1 _ rfl
  have q10 : w2.cell? (ad.add 4) = some (.int .u8 3) := ht2.cell rfl (k := 1) (x := ⟨3, [], 65, 6⟩) rfl 0 _ rfl
  have q12 : w2.cell? (ad.add 6) = some (.int .i64 65) := ht2.cell rfl (k := 1) (x := ⟨3, [], 65, 6⟩) rfl 2 _ rfl
  have q21 : w2.cell? (ad.add 9) = some (.string ⟨#[59]⟩) := ht2.cell rfl (k := 2) (x := ⟨2, [59], 0, 13⟩) rfl 1 _ rfl
  have q30 : w2.cell? (ad.add 12) = some (.int .u8 6) := ht2.cell rfl (k := 3) (x := ⟨6, [], 0, 16⟩) rfl 0 _ rfl
  rw [add_pos _ _ (by omega)] at q01 q10 q12 q21 q30
  have hp := print_any w2 _ (some ad) 4 c knownT ht2 hb2.size HG2.out (by omega) (by
    intro x hx
    simp only [knownT, List.mem_cons, List.not_mem_nil, or_false] at hx
    rcases hx with rfl | rfl | rfl | rfl <;> simp)
  rw [prt_known] at hp
  have hp' : Calls Tryz.prog 10 #[.slice (some ad) 4 c] w2 fun e w' => e = .returned (.string ⟨#[99, 108, 97, 115, 115, 32, 60, 85, 48, 48, 52, 49, 62, 32, 59, 32, 10]⟩) ∧ Below w2.heap.size w2 w' := hp
  have hs2 := HB2.out.size
  clear h1 h2 ht ht2 hb1 hb2 hp
  go_wp2_with (go_at_call 10; refine hp'.mono ?_; rintro e w3 ⟨rfl, hb3⟩)
  go_ret
  exact ⟨rfl, HB2.out.trans (hb3.mono hs2)⟩
end Go.Proofs.YtnifcgiajjmogaaGreatDoor.C
