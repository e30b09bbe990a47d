/-
  Joined: LcO, LcD, LdJ, LcG, LawKit, MUtfM, MUtfW, KoS. Each with what its own head says.
-/
import Derived.Lib.RuneBytes
import Derived.Laws.BytesArg
import Derived.Lib.BufferWrite
import Derived.Deep.RegionLaw
import Derived.StillTailTactics
import Derived.WalkMore
import Derived.Defers
import Derived.Recover
import Derived.WalkLawsBesides
import Derived.Laws.CopyRow
import Derived.Laws.BitsAllLaws
import Derived.Laws.IdiomStrings
import Derived.Deep.RegionHeld3
import Derived.Deep.RegionWith
import Derived.OrdersHeld
import Derived.MapKept
import Derived.Laws.NewBlocks
import Derived.WideMake
import Derived.Laws.NewDeep
import Derived.Lib.SmallJoins
import Derived.Laws.BitsLemmas
import Derived.Lib.Slices
import Derived.Laws.Strings3
import Derived.Laws.RangeString
import Derived.Laws.RangeAny
import Derived.Lib.LaidU8
import Derived.Test.YtknjhlbhbnldpaaGreatDoorRows
import Derived.OpenShut
import Derived.ShutString
import Derived.ChangeOld
import Derived.Carry
import Derived.Deep.DeepHandedRow
import Derived.Lib.LaidTab
import Derived.Stop.LaidErr
import Derived.LaidLaws
import Derived.Lay
import Derived.Tactics2
import Derived.Laws.Pointers
import Derived.Laws.LoneSync
import Derived.RegionCalls
import Derived.ChangeAlike
import Derived.OrdersIn
import Derived.RangeFuncNested
import Derived.RangeFuncBound
import Derived.RangeFuncCalls
import Derived.RangeFuncLeaves
import Derived.Shelf.Abstract
import Derived.Shelf.RegionOpen
import Derived.OwnWalkIn
import Derived.TacticsInMore
import Derived.LoopNIn
import Derived.LoopIn
import Derived.Test.YtknjhlbhbnldpaaGreatDoorB03


namespace Go.Proofs.YtknjhlbhbnldpaaGreatDoor.C
open Go.RowKit
section
variable {P : Program} {ops : Array Oper} {Q : Exit → Act → World → Prop} {md : Region.Mode} {S : World → Prop}
def wpAnyE (P : Program) (md : Region.Mode) (ops : Array Oper) (Q : Exit → Act → World → Prop) (S : World → Prop) (L : Nat) : Nat → Array Bool → Act → World → Prop
 | 0, listed, a, w => Region.ready md ops listed = [] ∧ Q .normal a w
 | fuel + 1, listed, a, w =>
  (Region.ready md ops listed = [] → Q .normal a w) ∧
  ∀ i ∈ Region.ready md ops listed, wpOp P ops Q i (fun a' w' => (i ≠ L → S w') ∧ wpAnyE P md ops Q S L fuel (listed.setIfInBounds i true) a' w') a w
theorem wpAny_of_E {L : Nat} : ∀ (fuel : Nat) (listed : Array Bool) (a : Act) (w : World), wpAnyE P md ops Q S L fuel listed a w → wpAny P md ops Q fuel listed a w
 | 0, _, _, _, h => h
 | fuel + 1, _, _, _, h => ⟨h.1, fun i hi => wpOp_mono (fun a' w' h' => wpAny_of_E fuel _ a' w' h'.2) (h.2 i hi)⟩
def waitsFor (md : Region.Mode) (ops : Array Oper) (L i : Nat) : Bool := match ops[L]? with
 | some o => o.after.any fun e => Region.binds md e && (e.on == i)
 | none => false
theorem wpAnyE_first {L i : Nat} {oi : Oper} {v : Value} (hi : ops[i]? = some oi) (hsel : ∀ (j : Nat) (o : Oper) cs b, ops[j]? = some o → o.op ≠ .select cs b) (hL : waitsFor md ops L i = true)
  (hQ : ∀ c a w, Q (.panic c) (a.put oi.dst v) w → Q (.panic c) a w) :
  ∀ (fuel : Nat) (listed : Array Bool) (a : Act) (w : World),
   (∀ j oj, ops[j]? = some oj → j ≠ i → listed.getD j true = false → (∀ e ∈ oj.after, Region.binds md e = true → e.on ≠ i) → oi.apart ops oj = true) →
   i ∈ Region.ready md ops listed → YieldsIf P ops S oi v a → S w →
   wpAnyE P md ops Q S L fuel (listed.setIfInBounds i true) (a.put oi.dst v) w → wpAnyE P md ops Q S L (fuel + 1) listed a w := by
 intro fuel
 induction fuel with
 | zero =>
  intro listed a w _ hr hy hS H
  refine ⟨fun h => (by rw [h] at hr; cases hr), fun j hj => ?_⟩
  by_cases hji : j = i
  ·subst hji; exact hy.wpOp hi hS ⟨fun _ => hS, H⟩
  ·have := ready_mono hj hji
   rw [H.1] at this
   cases this
 | succ fuel ih =>
  intro listed a w hfree hr hy hS H
  refine ⟨fun h => (by rw [h] at hr; cases hr), fun j hj => ?_⟩
  by_cases hji : j = i
  ·subst hji; exact hy.wpOp hi hS ⟨fun _ => hS, H⟩
  ·have h1 := H.2 j (ready_mono hj hji)
   obtain ⟨hjun, oj, hoj, hall⟩ := mem_ready.1 hj
   have hnot : ∀ e ∈ oj.after, Region.binds md e = true → e.on ≠ i := fun e he hb heq => by
    have h1 := hall e he hb
    have h0 := (mem_ready.1 hr).1
    rw [heq] at h1
    rcases Nat.lt_or_ge i listed.size with h' | h'
    ·simp [h'] at h0 h1; rw [h0] at h1; cases h1
    ·simp [Array.getElem?_eq_none h'] at h1
   have hjL : j ≠ L := by
    rintro rfl
    unfold waitsFor at hL
    rw [hoj] at hL
    simp only [Array.any_eq_true] at hL
    obtain ⟨q, hq, he⟩ := hL
    simp only [Bool.and_eq_true, beq_iff_eq] at he
    exact hnot _ (Array.getElem_mem hq) he.1 he.2
   have h2 := wpOp_putIf hoj (hfree j oj hoj hji hjun hnot) (fun cs b => hsel i oi cs b hi) (fun cs b => hsel j oj cs b hoj) hQ hy h1
   have hfree' : ∀ k ok, ops[k]? = some ok → k ≠ i → (listed.setIfInBounds j true).getD k true = false →
     (∀ e ∈ ok.after, Region.binds md e = true → e.on ≠ i) → oi.apart ops ok = true := fun k ok hk hki hun hno => by
    refine hfree k ok hk hki ?_ hno
    by_cases hjk : j = k
    ·subst hjk; exact hjun
    ·rw [getD_set_ne true hjk] at hun; exact hun
   refine wpOp_mono (fun a' w' h3 => ⟨fun _ => h3.2.1 hjL, ih (listed.setIfInBounds j true) a' w' hfree' (ready_mono hr (Ne.symm hji)) h3.1 (h3.2.1 hjL) ?_⟩) h2
   rw [Array.setIfInBounds_comm _ _ hji]
   exact h3.2.2
theorem wpAnyE_take {L i : Nat} {oi : Oper} {v : Value} {fuel : Nat} {listed : Array Bool} {a : Act} {w : World} (hi : ops[i]? = some oi)
  (hs : Region.noSelect ops = true) (hf : Region.free md ops listed i = true) (hr : (Region.ready md ops listed).contains i = true) (hL : waitsFor md ops L i = true)
  (hQ : ∀ c a w, Q (.panic c) (a.put oi.dst v) w → Q (.panic c) a w) (hy : YieldsIf P ops S oi v a) (hS : S w)
  (h : wpAnyE P md ops Q S L fuel (listed.setIfInBounds i true) (a.put oi.dst v) w) : wpAnyE P md ops Q S L (fuel + 1) listed a w :=
 wpAnyE_first hi (Region.noSelect_spec hs) hL hQ fuel listed a w (Region.free_spec hi hf) (by simpa using hr) hy hS h
theorem wpAnyE_one {L i : Nat} {o : Oper} {fuel : Nat} {listed : Array Bool} {a : Act} {w : World} (hr : Region.ready md ops listed = [i]) (ho : ops[i]? = some o)
  (h : ∀ K : Act → World → Prop, Hid (∀ a' w', (i ≠ L → S w') → ((i ≠ L → S w') → wpAnyE P md ops Q S L fuel (listed.setIfInBounds i true) a' w') → K a' w') →
   if Region.wanted o (yielded ops a.tmps) = true then Oper.wp P o a w K Q else K (a.put o.dst undef) w) : wpAnyE P md ops Q S L (fuel + 1) listed a w := by
 refine ⟨fun h0 => (by rw [hr] at h0; cases h0), fun j hj => ?_⟩
 rw [hr, List.mem_singleton] at hj
 subst hj
 have h1 := h (fun a' w' => (j ≠ L → S w') ∧ wpAnyE P md ops Q S L fuel (listed.setIfInBounds j true) a' w') (Lib.hid fun a' w' hs hh => ⟨hs, hh hs⟩)
 unfold wpOp
 simp only [ho]
 split
 ·rename_i hw
  rw [if_pos hw] at h1
  exact .inl h1
 ·rename_i hw
  rw [if_neg hw] at h1
  exact h1
theorem wpAnyE_done {L : Nat} {listed : Array Bool} {a : Act} {w : World} (hr : Region.ready md ops listed = []) (h : Q .normal a w) : ∀ fuel, wpAnyE P md ops Q S L fuel listed a w
 | 0 => ⟨hr, h⟩
 | _ + 1 => ⟨fun _ => h, by rw [hr]; simp⟩
theorem wp_region_E {L id : Nat} {a : Act} {w : World} (hm : P.follows .mixedOrders = true)
  (h : wpAnyE P .any ops Q S L ops.size (Array.replicate ops.size false) a w.drew) : (Code.region id ops true).wp P Q a w :=
 wp_region_any hm (wpAny_of_E _ _ _ _ h)
end
end Go.Proofs.YtknjhlbhbnldpaaGreatDoor.C


namespace Go.Proofs.YtknjhlbhbnldpaaGreatDoor.C
open Go.RowKit
def SI (sz : Nat) (w : World) (B : Nat) (A : Option Addr) (n : Nat) (xs : List (List Value)) : Prop :=
 xs.length = n ∧ (∀ x ∈ xs, x.length = sz) ∧ (0 < n → ∃ ad, A = some ad ∧ ad.block < B ∧ ∀ j x, xs[j]? = some x → ∀ i u, x[i]? = some u → w.cell? (ad.add (j * sz + i)) = some u)
section
variable {sz : Nat} {w w' : World} {B B' n : Nat} {A : Option Addr} {xs : List (List Value)}
theorem SI.len (h : SI sz w B A n xs) : xs.length = n := h.1
theorem SI.nil (sz : Nat) (w : World) (B : Nat) (A : Option Addr) : SI sz w B A 0 [] := ⟨rfl, by simp, fun h => absurd h (by omega)⟩
theorem SI.keep (h : SI sz w B A n xs) (hk : ∀ p : Addr, p.block < B → w'.cell? p = w.cell? p) : SI sz w' B A n xs :=
 ⟨h.1, h.2.1, fun hn => by
  obtain ⟨ad, e, hb, hc⟩ := h.2.2 hn
  exact ⟨ad, e, hb, fun j x hx i u hu => (hk _ (by rw [block_of_add]; exact hb)).trans (hc j x hx i u hu)⟩⟩
theorem SI.more (h : SI sz w B A n xs) (hB : B ≤ B') : SI sz w B' A n xs :=
 ⟨h.1, h.2.1, fun hn => by
  obtain ⟨ad, e, hb, hc⟩ := h.2.2 hn
  exact ⟨ad, e, by omega, hc⟩⟩
theorem SI.on (h : SI sz w B A n xs) (hb : Below B' w w') (hB : B ≤ B') : SI sz w' B A n xs := h.keep fun p hp => hb.cell (p := p) (by omega)
theorem SI.drewN (h : SI sz w B A n xs) (k : Nat) : SI sz (w.drewN k) B A n xs := h
theorem SI.grown (h : SI sz w B A n xs) {row : Option Nat} (hg : w.grownBy w' row) (hB : B ≤ w.heap.size) (hr : ∀ g, row = some g → B ≤ g) : SI sz w' B A n xs :=
 h.keep fun p hp => World.cell?_of_block (hg.block p.block (by omega) (fun e => by have := hr _ e.symm; omega))
theorem SI.at_ (h : SI sz w B A n xs) {k : Nat} (hk : k < n) : ∃ ad x, A = some ad ∧ ad.block < B ∧ xs[k]? = some x ∧ x.length = sz ∧ ∀ i u, x[i]? = some u → w.cell? (ad.add (k * sz + i)) = some u := by
 obtain ⟨ad, e, hb, hc⟩ := h.2.2 (by omega)
 have hl : k < xs.length := by have := h.1; omega
 exact ⟨ad, xs[k], e, hb, List.getElem?_eq_getElem hl, h.2.1 _ (List.getElem_mem hl), hc k _ (List.getElem?_eq_getElem hl)⟩
theorem add_more' (a : Addr) (j i : Nat) (hi : 0 < i) : (⟨(a.add j).block, (a.add j).off + i, none⟩ : Addr) = a.add (j + i) := by
 unfold Addr.add
 by_cases h : j = 0
 ·subst h
  rw [if_pos rfl, Nat.zero_add, if_neg (by omega)]
 ·rw [if_neg h, if_neg (by omega), Nat.add_assoc]
end
theorem SI.at2 {w : World} {B n : Nat} {A : Option Addr} {xs : List (List Value)} (h : SI 2 w B A n xs) {k : Nat} (hk : k < n) : ∃ ad u v, A = some ad ∧ ad.block < B ∧ xs[k]? = some [u, v] ∧ w.cell? (ad.add (k * 2)) = some u ∧ w.cell? ⟨(ad.add (k * 2)).block, (ad.add (k * 2)).off + 1, none⟩ = some v := by
 obtain ⟨ad, x, e, hb, hx, hl, hc⟩ := h.at_ hk
 match x, hl with
 | [u, v], _ => exact ⟨ad, u, v, e, hb, hx, hc 0 u rfl, by rw [add_more' _ _ _ (by omega)]; exact hc 1 v rfl⟩
theorem SI.at3 {w : World} {B n : Nat} {A : Option Addr} {xs : List (List Value)} (h : SI 3 w B A n xs) {k : Nat} (hk : k < n) : ∃ ad u v z, A = some ad ∧ ad.block < B ∧ xs[k]? = some [u, v, z] ∧ w.cell? (ad.add (k * 3)) = some u ∧ w.cell? ⟨(ad.add (k * 3)).block, (ad.add (k * 3)).off + 1, none⟩ = some v ∧ w.cell? ⟨(ad.add (k * 3)).block, (ad.add (k * 3)).off + 2, none⟩ = some z := by
 obtain ⟨ad, x, e, hb, hx, hl, hc⟩ := h.at_ hk
 match x, hl with
 | [u, v, z], _ => exact ⟨ad, u, v, z, e, hb, hx, hc 0 u rfl, by rw [add_more' _ _ _ (by omega)]; exact hc 1 v rfl, by rw [add_more' _ _ _ (by omega)]; exact hc 2 z rfl⟩
def FoundAt (n : Nat) (q : Nat → Bool) (Inv : Nat → World → Prop) (Fin : Nat → World → Prop) (e : Ending) (w' : World) : Prop :=
 (∃ k, k < n ∧ q k = true ∧ (∀ j, j < k → q j = false) ∧ e = .returned (.int .i64 k) ∧ Fin k w') ∨ ((∀ j, j < n → q j = false) ∧ e = .returned (.int .i64 (-1)) ∧ Inv n w')
def HasIt (n : Nat) (q : Nat → Bool) (Inv : Nat → World → Prop) (Fin : Nat → World → Prop) (e : Ending) (w' : World) : Prop :=
 (∃ k, k < n ∧ q k = true ∧ (∀ j, j < k → q j = false) ∧ e = .returned (.bool true) ∧ Fin k w') ∨ ((∀ j, j < n → q j = false) ∧ e = .returned (.bool false) ∧ Inv n w')
def Asked (b : Bool) (Inv : World → Prop) (Fin : World → Prop) (e : Ending) (w' : World) : Prop := e = .returned (.bool b) ∧ (b = false → Inv w') ∧ (b = true → Fin w')
theorem asked_step {q : Nat → Bool} {k : Nat} (hq : ∀ j, j < k → q j = false) (h : q k = false) : ∀ j, j < k + 1 → q j = false := fun j hj => by
 rcases Nat.lt_or_ge j k with h1 | h1
 ·exact hq j h1
 ·obtain rfl : j = k := by omega
  exact h
set_option maxRecDepth 100000 in
set_option maxHeartbeats 4000000 in
theorem findRange_any (w : World) (B : Nat) (A : Option Addr) (n c : Nat) (xs : List (List Value)) (V0 : Nat) (q : Nat → Bool) (Inv : Nat → World → Prop) (Fin : Nat → World → Prop) (hn : n ≤ maxLen) (h0 : Inv 0 w)
  (hk : ∀ k W, Inv k W → SI 2 W B A n xs)
  (hs : ∀ k u v W, xs[k]? = some [u, v] → Inv k W → Calls Tryz.prog 132 #[.agg #[u, v], .pointer (some ⟨V0, 0, none⟩)] W (Asked (q k) (Inv (k + 1)) (Fin k))) :
  Calls Tryz.prog 119 #[.slice A n c, .func (.func 132) #[] #[.pointer (some ⟨V0, 0, none⟩)]] w (FoundAt n q Inv Fin) := by
 unfold maxLen at hn
 have HK := Lib.hid hk
 have HS := Lib.hid hs
 have H0 := Lib.hid h0
 clear hk hs h0
 go_enter Tryz.func119, Tryz.ntmps119
 go_wp2
 go_loopw [8] (fun iv wr => ∃ k : Nat, k ≤ n ∧ iv = .int .i64 k ∧ Hid (Inv k wr) ∧ Hid (∀ j, j < k → q j = false)) (fun iv _ => n - (intOf iv).toNat)
 case atStart => exact ⟨0, Nat.zero_le _, rfl, H0, Lib.hid (fun j hj => absurd hj (by omega))⟩
 case round =>
  obtain ⟨k, hkn, rfl, HI, HQ⟩ := hrel
  by_cases hlt : k < n
  ·obtain ⟨ad, u, v, rfl, hb, hx, c0, c1⟩ := (HK.out k wr HI.out).at2 hlt
   have hc := HS.out k u v wr hx HI.out
   clear hx
   cases hq : q k with
   | true =>
    rw [hq] at hc
    have HQK := Lib.hid hq
    clear hq
    go_wp2_with (go_at_call 132; refine hc.mono ?_; rintro e w2 ⟨rfl, -, hf⟩; have HF := Lib.hid (hf rfl); clear hf hc)
    go_ret
    exact .inl ⟨k, hlt, HQK.out, HQ.out, rfl, HF.out⟩
   | false =>
    rw [hq] at hc
    have HQK := Lib.hid hq
    clear hq
    go_wp2_with (go_at_call 132; refine hc.mono ?_; rintro e w2 ⟨rfl, hf, -⟩; have HF := Lib.hid (hf rfl); clear hf hc)
    go_roundw
    case rel => exact ⟨k + 1, by omega, by go_num, HF, Lib.hid (asked_step HQ.out HQK.out)⟩
    case measure => simp [intOf]; omega
  ·obtain rfl : k = n := by omega
   go_wp2
   go_ret
   exact .inr ⟨HQ.out, rfl, HI.out⟩
set_option maxRecDepth 100000 in
set_option maxHeartbeats 4000000 in
theorem hasRange_any (w : World) (B : Nat) (A : Option Addr) (n c : Nat) (xs : List (List Value)) (V0 : Nat) (q : Nat → Bool) (Inv : Nat → World → Prop) (Fin : Nat → World → Prop) (hn : n ≤ maxLen) (h0 : Inv 0 w)
  (hk : ∀ k W, Inv k W → SI 2 W B A n xs)
  (hs : ∀ k u v W, xs[k]? = some [u, v] → Inv k W → Calls Tryz.prog 132 #[.agg #[u, v], .pointer (some ⟨V0, 0, none⟩)] W (Asked (q k) (Inv (k + 1)) (Fin k))) :
  Calls Tryz.prog 81 #[.slice A n c, .func (.func 132) #[] #[.pointer (some ⟨V0, 0, none⟩)]] w (HasIt n q Inv Fin) := by
 have hf := findRange_any w B A n c xs V0 q Inv Fin hn h0 hk hs
 clear hk hs h0 hn
 go_enter Tryz.func81, Tryz.ntmps81
 go_wp2_with fail
 refine hf.mono ?_
 intro e w2 h2
 rcases h2 with ⟨k, h1, h2, h3, rfl, h5⟩ | ⟨h1, rfl, h5⟩
 ·have HH : Hid (HasIt n q Inv Fin (.returned (.bool true)) w2) := Lib.hid (.inl ⟨k, h1, h2, h3, rfl, h5⟩)
  clear h2 h3 h5
  go_wp2
  go_ret
  exact HH.out
 ·have HH : Hid (HasIt n q Inv Fin (.returned (.bool false)) w2) := Lib.hid (.inr ⟨h1, rfl, h5⟩)
  clear h1 h5
  go_wp2
  go_ret
  exact HH.out
set_option maxRecDepth 100000 in
set_option maxHeartbeats 4000000 in
theorem findPair_any (w : World) (B : Nat) (A : Option Addr) (n c : Nat) (xs : List (List Value)) (V0 : Nat) (q : Nat → Bool) (Inv : Nat → World → Prop) (Fin : Nat → World → Prop) (hn : n ≤ maxLen) (h0 : Inv 0 w)
  (hk : ∀ k W, Inv k W → SI 2 W B A n xs)
  (hs : ∀ k u v W, xs[k]? = some [u, v] → Inv k W → Calls Tryz.prog 135 #[.agg #[u, v], .pointer (some ⟨V0, 0, none⟩)] W (Asked (q k) (Inv (k + 1)) (Fin k))) :
  Calls Tryz.prog 165 #[.slice A n c, .func (.func 135) #[] #[.pointer (some ⟨V0, 0, none⟩)]] w (FoundAt n q Inv Fin) := by
 unfold maxLen at hn
 have HK := Lib.hid hk
 have HS := Lib.hid hs
 have H0 := Lib.hid h0
 clear hk hs h0
 go_enter Tryz.func165, Tryz.ntmps165
 go_wp2
 go_loopw [8] (fun iv wr => ∃ k : Nat, k ≤ n ∧ iv = .int .i64 k ∧ Hid (Inv k wr) ∧ Hid (∀ j, j < k → q j = false)) (fun iv _ => n - (intOf iv).toNat)
 case atStart => exact ⟨0, Nat.zero_le _, rfl, H0, Lib.hid (fun j hj => absurd hj (by omega))⟩
 case round =>
  obtain ⟨k, hkn, rfl, HI, HQ⟩ := hrel
  by_cases hlt : k < n
  ·obtain ⟨ad, u, v, rfl, hb, hx, c0, c1⟩ := (HK.out k wr HI.out).at2 hlt
   have hc := HS.out k u v wr hx HI.out
   clear hx
   cases hq : q k with
   | true =>
    rw [hq] at hc
    have HQK := Lib.hid hq
    clear hq
    go_wp2_with (go_at_call 135; refine hc.mono ?_; rintro e w2 ⟨rfl, -, hf⟩; have HF := Lib.hid (hf rfl); clear hf hc)
    go_ret
    exact .inl ⟨k, hlt, HQK.out, HQ.out, rfl, HF.out⟩
   | false =>
    rw [hq] at hc
    have HQK := Lib.hid hq
    clear hq
    go_wp2_with (go_at_call 135; refine hc.mono ?_; rintro e w2 ⟨rfl, hf, -⟩; have HF := Lib.hid (hf rfl); clear hf hc)
    go_roundw
    case rel => exact ⟨k + 1, by omega, by go_num, HF, Lib.hid (asked_step HQ.out HQK.out)⟩
    case measure => simp [intOf]; omega
  ·obtain rfl : k = n := by omega
   go_wp2
   go_ret
   exact .inr ⟨HQ.out, rfl, HI.out⟩
set_option maxRecDepth 100000 in
set_option maxHeartbeats 4000000 in
theorem hasPair_any (w : World) (B : Nat) (A : Option Addr) (n c : Nat) (xs : List (List Value)) (V0 : Nat) (q : Nat → Bool) (Inv : Nat → World → Prop) (Fin : Nat → World → Prop) (hn : n ≤ maxLen) (h0 : Inv 0 w)
  (hk : ∀ k W, Inv k W → SI 2 W B A n xs)
  (hs : ∀ k u v W, xs[k]? = some [u, v] → Inv k W → Calls Tryz.prog 135 #[.agg #[u, v], .pointer (some ⟨V0, 0, none⟩)] W (Asked (q k) (Inv (k + 1)) (Fin k))) :
  Calls Tryz.prog 134 #[.slice A n c, .func (.func 135) #[] #[.pointer (some ⟨V0, 0, none⟩)]] w (HasIt n q Inv Fin) := by
 have hf := findPair_any w B A n c xs V0 q Inv Fin hn h0 hk hs
 clear hk hs h0 hn
 go_enter Tryz.func134, Tryz.ntmps134
 go_wp2_with fail
 refine hf.mono ?_
 intro e w2 h2
 rcases h2 with ⟨k, h1, h2, h3, rfl, h5⟩ | ⟨h1, rfl, h5⟩
 ·have HH : Hid (HasIt n q Inv Fin (.returned (.bool true)) w2) := Lib.hid (.inl ⟨k, h1, h2, h3, rfl, h5⟩)
  clear h2 h3 h5
  go_wp2
  go_ret
  exact HH.out
 ·have HH : Hid (HasIt n q Inv Fin (.returned (.bool false)) w2) := Lib.hid (.inr ⟨h1, rfl, h5⟩)
  clear h1 h5
  go_wp2
  go_ret
  exact HH.out
set_option maxRecDepth 100000 in
set_option maxHeartbeats 4000000 in
theorem findClass_any (w : World) (B : Nat) (A : Option Addr) (n c : Nat) (xs : List (List Value)) (V0 : Nat) (q : Nat → Bool) (Inv : Nat → World → Prop) (Fin : Nat → World → Prop) (hn : n ≤ maxLen) (h0 : Inv 0 w)
  (hk : ∀ k W, Inv k W → SI 2 W B A n xs)
  (hs : ∀ k u v W, xs[k]? = some [u, v] → Inv k W → Calls Tryz.prog 130 #[.agg #[u, v], .pointer (some ⟨V0, 0, none⟩)] W (Asked (q k) (Inv (k + 1)) (Fin k))) :
  Calls Tryz.prog 157 #[.slice A n c, .func (.func 130) #[] #[.pointer (some ⟨V0, 0, none⟩)]] w (FoundAt n q Inv Fin) := by
 unfold maxLen at hn
 have HK := Lib.hid hk
 have HS := Lib.hid hs
 have H0 := Lib.hid h0
 clear hk hs h0
 go_enter Tryz.func157, Tryz.ntmps157
 go_wp2
 go_loopw [8] (fun iv wr => ∃ k : Nat, k ≤ n ∧ iv = .int .i64 k ∧ Hid (Inv k wr) ∧ Hid (∀ j, j < k → q j = false)) (fun iv _ => n - (intOf iv).toNat)
 case atStart => exact ⟨0, Nat.zero_le _, rfl, H0, Lib.hid (fun j hj => absurd hj (by omega))⟩
 case round =>
  obtain ⟨k, hkn, rfl, HI, HQ⟩ := hrel
  by_cases hlt : k < n
  ·obtain ⟨ad, u, v, rfl, hb, hx, c0, c1⟩ := (HK.out k wr HI.out).at2 hlt
   have hc := HS.out k u v wr hx HI.out
   clear hx
   cases hq : q k with
   | true =>
    rw [hq] at hc
    have HQK := Lib.hid hq
    clear hq
    go_wp2_with (go_at_call 130; refine hc.mono ?_; rintro e w2 ⟨rfl, -, hf⟩; have HF := Lib.hid (hf rfl); clear hf hc)
    go_ret
    exact .inl ⟨k, hlt, HQK.out, HQ.out, rfl, HF.out⟩
   | false =>
    rw [hq] at hc
    have HQK := Lib.hid hq
    clear hq
    go_wp2_with (go_at_call 130; refine hc.mono ?_; rintro e w2 ⟨rfl, hf, -⟩; have HF := Lib.hid (hf rfl); clear hf hc)
    go_roundw
    case rel => exact ⟨k + 1, by omega, by go_num, HF, Lib.hid (asked_step HQ.out HQK.out)⟩
    case measure => simp [intOf]; omega
  ·obtain rfl : k = n := by omega
   go_wp2
   go_ret
   exact .inr ⟨HQ.out, rfl, HI.out⟩
set_option maxRecDepth 100000 in
set_option maxHeartbeats 4000000 in
theorem hasClass_any (w : World) (B : Nat) (A : Option Addr) (n c : Nat) (xs : List (List Value)) (V0 : Nat) (q : Nat → Bool) (Inv : Nat → World → Prop) (Fin : Nat → World → Prop) (hn : n ≤ maxLen) (h0 : Inv 0 w)
  (hk : ∀ k W, Inv k W → SI 2 W B A n xs)
  (hs : ∀ k u v W, xs[k]? = some [u, v] → Inv k W → Calls Tryz.prog 130 #[.agg #[u, v], .pointer (some ⟨V0, 0, none⟩)] W (Asked (q k) (Inv (k + 1)) (Fin k))) :
  Calls Tryz.prog 129 #[.slice A n c, .func (.func 130) #[] #[.pointer (some ⟨V0, 0, none⟩)]] w (HasIt n q Inv Fin) := by
 have hf := findClass_any w B A n c xs V0 q Inv Fin hn h0 hk hs
 clear hk hs h0 hn
 go_enter Tryz.func129, Tryz.ntmps129
 go_wp2_with fail
 refine hf.mono ?_
 intro e w2 h2
 rcases h2 with ⟨k, h1, h2, h3, rfl, h5⟩ | ⟨h1, rfl, h5⟩
 ·have HH : Hid (HasIt n q Inv Fin (.returned (.bool true)) w2) := Lib.hid (.inl ⟨k, h1, h2, h3, rfl, h5⟩)
  clear h2 h3 h5
  go_wp2
  go_ret
  exact HH.out
 ·have HH : Hid (HasIt n q Inv Fin (.returned (.bool false)) w2) := Lib.hid (.inr ⟨h1, rfl, h5⟩)
  clear h1 h5
  go_wp2
  go_ret
  exact HH.out
end Go.Proofs.YtknjhlbhbnldpaaGreatDoor.C


namespace Go.Proofs.YtknjhlbhbnldpaaGreatDoor.C
open Go.RowKit
theorem wpAnyH_one {P : Program} {ops : Array Oper} {Q : Exit → Act → World → Prop} {md : Region.Mode} {S : World → Prop} {i : Nat} {o : Oper} {fuel : Nat} {listed : Array Bool} {a : Act} {w : World} (hr : Region.ready md ops listed = [i]) (ho : ops[i]? = some o)
  (h : ∀ K : Act → World → Prop, Hid (∀ a' w', S w' → (S w' → wpAnyH P md ops Q S fuel (listed.setIfInBounds i true) a' w') → K a' w') →
   if Region.wanted o (yielded ops a.tmps) = true then Oper.wp P o a w K Q else K (a.put o.dst undef) w) : wpAnyH P md ops Q S (fuel + 1) listed a w := by
 refine ⟨fun h0 => (by rw [hr] at h0; cases h0), fun j hj => ?_⟩
 rw [hr, List.mem_singleton] at hj
 subst hj
 have h1 := h (fun a' w' => S w' ∧ wpAnyH P md ops Q S fuel (listed.setIfInBounds j true) a' w') (Lib.hid fun a' w' hs hh => ⟨hs, hh hs⟩)
 unfold wpOp
 simp only [ho]
 split
 ·rename_i hw
  rw [if_pos hw] at h1
  exact .inl h1
 ·rename_i hw
  rw [if_neg hw] at h1
  exact h1
end Go.Proofs.YtknjhlbhbnldpaaGreatDoor.C


namespace Go.Proofs.YtknjhlbhbnldpaaGreatDoor.C
open Go.RowKit
def Gm (w : World) : Prop := Gl w ∧ Lib.Utf8Tabs 0 1 w
end Go.Proofs.YtknjhlbhbnldpaaGreatDoor.C

namespace Go.Proofs.YtknjhlbhbnldpaaGreatDoor.L
open Go.ChangeShapes Go.WideShapes Go.ChangeAt Go.RowKit

theorem own : ownKnob Tryz.prog.godebug = none := by kernel_rfl
theorem laidOut : laidOutB Tryz.prog = true := by kernel_rfl
theorem gTab : Tryz.prog.globalNamed "math/bits.deBruijn64tab" = some 5 := by kernel_rfl
theorem gTabType : (Tryz.prog.globals[5]?).map (·.type) = some 291 := by kernel_rfl
theorem cellsTab : Tryz.prog.cellsOf 291 = 64 := by kernel_rfl
theorem cells5 : Tryz.prog.cellsOf 5 = 1 := by kernel_rfl
theorem table {W : World} (h0 : laidMetH Tryz.prog [("math/bits.deBruijn32tab", Rows.laid_math_bits_deBruijn32tab), ("math/bits.deBruijn64tab", Rows.laid_math_bits_deBruijn64tab), ("internal/strconv.uint64pow10", Rows.laid_internal_strconv_uint64pow10), ("unicode/utf8.acceptRanges", Rows.laid_unicode_utf8_acceptRanges), ("unicode/utf8.first", Rows.laid_unicode_utf8_first)] W) : W.cell? ⟨5, 15, none⟩ = some (.int .u8 4) := by
 have h : laidMet Tryz.prog [("math/bits.deBruijn32tab", Rows.laid_math_bits_deBruijn32tab), ("math/bits.deBruijn64tab", Rows.laid_math_bits_deBruijn64tab), ("internal/strconv.uint64pow10", Rows.laid_internal_strconv_uint64pow10), ("unicode/utf8.acceptRanges", Rows.laid_unicode_utf8_acceptRanges), ("unicode/utf8.first", Rows.laid_unicode_utf8_first)] W := h0
 have ht : Lib.TabIs Tryz.prog W "math/bits.deBruijn64tab" .u8 [0, 1, 56, 2, 57, 49, 28, 3, 61, 58, 42, 50, 38, 29, 17, 4, 62, 47, 59, 36, 45, 43, 51, 22, 53, 39, 33, 30, 24, 18, 12, 5, 63, 55, 48, 27, 60, 41, 37, 16, 46, 35, 44, 21, 52, 32, 23, 11, 54, 26, 40, 15, 34, 20, 31, 10, 25, 14, 19, 9, 13, 8, 7, 6] :=
  Lib.tabIs_of_head gTab gTabType Tryz.underlying291 Tryz.underlying5 cells5 cellsTab (laidMet.tail h)
 exact ht.cell gTab 15 (by decide)
theorem nF : Tryz.prog.globalNamed "unicode/utf8.first" = some 0 := by kernel_rfl
theorem nA : Tryz.prog.globalNamed "unicode/utf8.acceptRanges" = some 1 := by kernel_rfl
theorem yF : (Tryz.prog.globals[0]?).map (·.type) = some 276 := by kernel_rfl
theorem yA : (Tryz.prog.globals[1]?).map (·.type) = some 279 := by kernel_rfl
theorem c5 : Tryz.prog.cellsOf 5 = 1 := by kernel_rfl
theorem c256 : Tryz.prog.cellsOf 276 = 256 := by kernel_rfl
theorem c2 : Tryz.prog.cellsOf 278 = 2 := by kernel_rfl
theorem dF : (Rows.laid_unicode_utf8_first : DataW Unit) = Lib.firstData := by kernel_rfl
theorem dA : (Rows.laid_unicode_utf8_acceptRanges : DataW Unit) = Lib.acceptData := by kernel_rfl
theorem tables {W : World} (h0 : laidMetH Tryz.prog [("math/bits.deBruijn32tab", Rows.laid_math_bits_deBruijn32tab), ("math/bits.deBruijn64tab", Rows.laid_math_bits_deBruijn64tab), ("internal/strconv.uint64pow10", Rows.laid_internal_strconv_uint64pow10), ("unicode/utf8.acceptRanges", Rows.laid_unicode_utf8_acceptRanges), ("unicode/utf8.first", Rows.laid_unicode_utf8_first)] W) : Lib.Utf8Tabs 0 1 W := by
 have h : laidMet Tryz.prog [("math/bits.deBruijn32tab", Rows.laid_math_bits_deBruijn32tab), ("math/bits.deBruijn64tab", Rows.laid_math_bits_deBruijn64tab), ("internal/strconv.uint64pow10", Rows.laid_internal_strconv_uint64pow10), ("unicode/utf8.acceptRanges", Rows.laid_unicode_utf8_acceptRanges), ("unicode/utf8.first", Rows.laid_unicode_utf8_first)] W := h0
 have h3 : Lib.VarReads Tryz.prog W "unicode/utf8.first" Lib.firstData := by
  have := Lib.laidMet.reads h (n := "unicode/utf8.first") (d := Rows.laid_unicode_utf8_first) (by simp)
  rwa [dF] at this
 have h4 : Lib.VarReads Tryz.prog W "unicode/utf8.acceptRanges" Lib.acceptData := by
  have := Lib.laidMet.reads h (n := "unicode/utf8.acceptRanges") (d := Rows.laid_unicode_utf8_acceptRanges) (by simp)
  rwa [dA] at this
 refine ⟨fun c hc => ?_, fun i hi => ?_⟩
 ·obtain ⟨g, t, cs, fuel, p, hg, hty, hvar, hd⟩ := h3
  obtain rfl := Option.some.inj (nF.symm.trans hg)
  obtain rfl := Option.some.inj (yF.symm.trans hty)
  have hcs := Lib.cells_of_tab Tryz.underlying276 Tryz.underlying5 c5 c256 hd
  rw [World.var?_cell hg hvar c, ← Array.getElem?_toList, hcs]
  simp [Lib.firstTab, hc]
 ·obtain ⟨g, t, cs, fuel, p, hg, hty, hvar, hd⟩ := h4
  obtain rfl := Option.some.inj (nA.symm.trans hg)
  obtain rfl := Option.some.inj (yA.symm.trans hty)
  obtain ⟨fuel', d, q, hdi, he⟩ := Lib.array_elem Tryz.underlying279 hd i hi
  simp only [List.getElem?_map, List.getElem?_range hi, Option.map_some, Option.some.injEq] at hdi
  subst hdi
  rw [c2] at he
  have hcs := Lib.ints_of_struct Tryz.underlying278 (fun j f hj => by
   match j, hj with
   | 0, hj => simp at hj; subst hj; exact ⟨Tryz.underlying5, rfl, c5⟩
   | 1, hj => simp at hj; subst hj; exact ⟨Tryz.underlying5, rfl, c5⟩
   | j + 2, hj => simp at hj) (by rw [c2]; rfl) he
  have e0 := congrArg (·[0]?) hcs
  have e1 := congrArg (·[1]?) hcs
  simp only [List.getElem?_take, List.getElem?_drop] at e0 e1
  constructor
  ·rw [World.var?_cell hg hvar (2 * i), ← Array.getElem?_toList]
   simpa [Nat.mul_comm] using e0
  ·rw [World.var?_cell hg hvar (2 * i + 1), ← Array.getElem?_toList]
   simpa [Nat.mul_comm] using e1

theorem gl0 {W : World} (h0 : laidMetH Tryz.prog [("math/bits.deBruijn32tab", Rows.laid_math_bits_deBruijn32tab), ("math/bits.deBruijn64tab", Rows.laid_math_bits_deBruijn64tab), ("internal/strconv.uint64pow10", Rows.laid_internal_strconv_uint64pow10), ("unicode/utf8.acceptRanges", Rows.laid_unicode_utf8_acceptRanges), ("unicode/utf8.first", Rows.laid_unicode_utf8_first)] W) : C.Gl W := table h0
theorem gl {W : World} (h0 : laidMetH Tryz.prog [("math/bits.deBruijn32tab", Rows.laid_math_bits_deBruijn32tab), ("math/bits.deBruijn64tab", Rows.laid_math_bits_deBruijn64tab), ("internal/strconv.uint64pow10", Rows.laid_internal_strconv_uint64pow10), ("unicode/utf8.acceptRanges", Rows.laid_unicode_utf8_acceptRanges), ("unicode/utf8.first", Rows.laid_unicode_utf8_first)] W) : C.Gm W := ⟨gl0 h0, tables h0⟩

noncomputable def laidWorld (os : Os) : World := World.laidAll Tryz.prog os [("math/bits.deBruijn32tab", Rows.laid_math_bits_deBruijn32tab), ("math/bits.deBruijn64tab", Rows.laid_math_bits_deBruijn64tab), ("internal/strconv.uint64pow10", Rows.laid_internal_strconv_uint64pow10), ("unicode/utf8.acceptRanges", Rows.laid_unicode_utf8_acceptRanges), ("unicode/utf8.first", Rows.laid_unicode_utf8_first)]
theorem laid_met (os : Os) (args : Array Value) : laidMet Tryz.prog [("math/bits.deBruijn32tab", Rows.laid_math_bits_deBruijn32tab), ("math/bits.deBruijn64tab", Rows.laid_math_bits_deBruijn64tab), ("internal/strconv.uint64pow10", Rows.laid_internal_strconv_uint64pow10), ("unicode/utf8.acceptRanges", Rows.laid_unicode_utf8_acceptRanges), ("unicode/utf8.first", Rows.laid_unicode_utf8_first)] ((laidWorld os).forCall (fun _ _ => 0) ⟨#[], args, []⟩).memory :=
 laidMet_laidAll _ (by kernel_rfl) (by kernel_rfl)
theorem witness {H : Type} {enc : TypeId × Value → H} {C : Checked} {os : Os} {f : FuncId} {fn : Func} {s : OpenSpec} {conds : List PathCond} {apart : Bool} {laid : List (String × DataW Unit)} (modest : Bool) (w0 : World) (args : Array Value) (hos : w0.os = os)
  (hsh : (w0.forCall (fun _ _ => 0) ⟨#[], args, []⟩).Shaped C.prog)
  (hok : Input.okWideB C.prog (w0.forCall (fun _ _ => 0) ⟨#[], args, []⟩) f ⟨#[], args, []⟩ = true)
  (hrow : s.preRow enc C.prog fn conds apart laid (w0.forCall (fun _ _ => 0) ⟨#[], args, []⟩).memory args) :
  ∃ (w : World) (tape : Tape) (i : Input), w.os = os ∧ (w.forCall tape i).Shaped C.prog ∧ i.vars = [] ∧ Input.okWide C.prog (w.forCall tape i) .any w.heap.size f i ∧
   s.preRow enc C.prog fn conds apart laid (w.forCall tape i).memory i.args ∧ ({ modest := modest } : Assume).holds C.prog (lone (Frame.enter C.prog f i.args .normal) [] (w.forCall tape i)) :=
 ⟨w0, fun _ _ => 0, ⟨#[], args, []⟩, hos, hsh, (Input.okWide_of_okWideB (base := 0) hok).1, (Input.okWide_of_okWideB hok).2, hrow, by
  simp only [Assume.holds]
  exact ⟨by simp, by simp, fun _ => Modest.zero, by simp, by simp⟩⟩

def IsRow (k : IntKind) (w : World) (a : Option Addr) (len cap : Nat) (zs : List Int) : Prop :=
 (a = none ∧ len = 0 ∧ cap = 0 ∧ zs = []) ∨
 ∃ x, a = some x ∧ len ≤ cap ∧ cap ≤ maxLen ∧ zs.length = cap ∧ (∀ i, i < zs.length → w.cell? (x.add i) = some (.int k (zs.getD i 0))) ∧ ∀ n ∈ zs, (Lit.int k n).wf = true
end Go.Proofs.YtknjhlbhbnldpaaGreatDoor.L


namespace Go.Proofs.YtknjhlbhbnldpaaGreatDoor.C
open Go.RowKit
theorem RI.of_row {ki : IntKind} {w : World} {a : Option Addr} {len cap : Nat} {zs : List Int} (h : L.IsRow ki w a len cap zs) : RI ki w w.heap.size a len (zs.take len) := by
 rcases h with ⟨rfl, rfl, rfl, rfl⟩ | ⟨x, rfl, hl, hm, hz, hc, _⟩
 ·exact ⟨by simp, fun h => absurd h (by omega)⟩
 ·refine ⟨by simp; omega, fun hn => ⟨x, rfl, ?_, fun j u hu => ?_⟩⟩
  ·have := World.block_lt_of_cell? w _ (hc 0 (by omega))
   rwa [block_of_add] at this
  ·rw [List.getElem?_take] at hu
   split at hu
   ·have hj : j < zs.length := (List.getElem?_eq_some_iff.1 hu).1
    rw [hc j hj]
    simp [hu]
   ·cases hu
section
variable {P : Program} (w : World)
theorem run_append_of_nil (base : Nat) (t ty e : TypeId) (i : TypeInfo) (size : Nat) (ht : P.underlying t = some (.slice e)) (hi : P.info? e = some i)
  (v : Value) (n : Nat) (xs : List Value) (hown : w.ownsRow base e size v n xs) (c : Nat) : (Builtin.append_ #[t, t] ty #[v, .slice none 0 c]).run P w = .ok v w := by
 rcases hown.2 with ⟨rfl, rfl⟩ | ⟨g, cap, cur, rfl, _, _, hnc, _⟩
 ·simp [Builtin.append_, run_underlying ht, sizeOf, typeInfo, hi, Builtin.lenOf, Builtin.firstCells]
 ·simp [Builtin.append_, run_underlying ht, sizeOf, typeInfo, hi, Builtin.lenOf, Builtin.firstCells, hnc, storeCells]
theorem run_append_ri (base : Nat) (t ty e : TypeId) (i : TypeInfo) (z : Value) (bytes : Nat) (ht : P.underlying t = some (.slice e)) (hi : P.info? e = some i) (hz : i.zero = some z)
  (hsize : i.size = 1) (hby : i.bytes = bytes) (hzs : z.cells.size = 1)
  (v : Value) (n : Nat) (xs : List Value) (hown : w.ownsRow base e 1 v n xs) (ki : IntKind)
  (B : Nat) (A : Option Addr) (m c : Nat) (zs : List Int) (hr : RI ki w B A m zs)
  (h63 : n + m ≤ maxLen) (hbytes : (n + m) * bytes ≤ 140737488355328) (hbase : base ≤ w.heap.size) :
  ∃ v' w', (Builtin.append_ #[t, t] ty #[v, .slice A m c]).run P w = .ok v' w' ∧ w'.ownsRow base e 1 v' (n + m) (xs ++ zs.map (Value.int ki)) ∧ w.grownBy w' v.ownBlock := by
 rcases A with _ | ad
 ·have hm : m = 0 := by
   rcases Nat.eq_zero_or_pos m with h0 | h0
   ·exact h0
   ·obtain ⟨ad, h, _⟩ := hr.2 h0
    cases h
  subst hm
  have hn : zs = [] := List.eq_nil_of_length_eq_zero hr.1
  subst hn
  exact ⟨v, w, run_append_of_nil w base t ty e i 1 ht hi v n xs hown c, by simpa using hown, World.grownBy.refl w _⟩
 ·have hcells : ∀ j u, (zs.map (Value.int ki))[j]? = some u → w.cell? (ad.add j) = some u := by
   intro j u hu
   rw [List.getElem?_map] at hu
   obtain ⟨y, hy, rfl⟩ := Option.map_eq_some_iff.1 hu
   rcases Nat.eq_zero_or_pos m with h0 | h0
   ·subst h0
    have hn : zs = [] := List.eq_nil_of_length_eq_zero hr.1
    subst hn
    simp at hy
   ·obtain ⟨ad', h, _, hc⟩ := hr.2 h0
    injection h with h
    subst h
    exact hc j y hy
  obtain ⟨v', w', hrun, h2, h3, _⟩ := run_append_own_at (P := P) w base t ty e i z 1 bytes ht hi hz hsize hby hzs (by decide) v n xs hown ad m c (zs.map (Value.int ki)) (by simp [hr.1]) hcells (ints_oneCell ki zs) h63 hbytes hbase
  exact ⟨v', w', hrun, h2, h3⟩
theorem wpList_append_ri {ops : Array Oper} {rest : List Oper} {o : Oper} {a : Act} {Q : Exit → Act → World → Prop} (hgd : o.guard = none) (s x : Operand) (t : TypeId)
  (ho : o.op = .call { callee := .builtin .append, args := #[s, x], argTypes := #[t, t] })
  (base : Nat) (e : TypeId) (i : TypeInfo) (z : Value) (bytes : Nat) (ht : P.underlying t = some (.slice e)) (hi : P.info? e = some i) (hz : i.zero = some z)
  (hsize : i.size = 1) (hby : i.bytes = bytes) (hzs : z.cells.size = 1)
  (v : Value) (n : Nat) (xs : List Value) (hs : a.eval s = v) (hown : w.ownsRow base e 1 v n xs) (ki : IntKind)
  (B : Nat) (A : Option Addr) (m c : Nat) (zs : List Int) (hx : a.eval x = .slice A m c) (hr : RI ki w B A m zs)
  (h63 : n + m ≤ maxLen) (hbytes : (n + m) * bytes ≤ 140737488355328) (hbase : base ≤ w.heap.size)
  (h : ∀ v' w', w'.ownsRow base e 1 v' (n + m) (xs ++ zs.map (Value.int ki)) → w.grownBy w' v.ownBlock → wpList P ops Q rest (a.put o.dst v') w') : wpList P ops Q (o :: rest) a w := by
 refine wpList_plain hgd fun K hK => ?_
 obtain ⟨v', w', hr, h2, h3⟩ := run_append_ri (P := P) w base t o.type e i z bytes ht hi hz hsize hby hzs v n xs hown ki B A m c zs hr h63 hbytes hbase
 unfold Oper.wp execOp
 simp only [ho, resolve, invoke, builtin, Sem.run_bind, Sem.run_pure, Result.andThen_ok, List.map_toArray, List.map_cons, List.map_nil, hs, hx, hr]
 exact hK _ _ (h v' w' h2 h3)
end
end Go.Proofs.YtknjhlbhbnldpaaGreatDoor.C


namespace Go.Proofs.YtknjhlbhbnldpaaGreatDoor.C
open Go.RowKit
open Go.Lib (decodeN)
theorem size_ext (s : ByteArray) (pos : Nat) : (s.extract pos s.size).size = s.size - pos := by simp
theorem gb_ext (s : ByteArray) (pos k : Nat) : gb (s.extract pos s.size) k = gb s (pos + k) := by
 simp only [gb_list]
 have hl : s.size = s.data.toList.length := (Array.length_toList (xs := s.data)).symm
 have he : (s.extract pos s.size).data.toList = s.data.toList.drop pos := by
  rw [Lib.extract_data]
  exact List.take_of_length_le (by rw [List.length_drop]; omega)
 rw [he]
 simp [List.getD_eq_getElem?_getD]
theorem first_ext (s : ByteArray) (pos : Nat) : First (s.extract pos s.size) = firstN (s.size - pos) (gb s pos) (gb s (pos + 1)) (gb s (pos + 2)) (gb s (pos + 3)) := by
 unfold First
 rw [size_ext, gb_ext, gb_ext, gb_ext, gb_ext, Nat.add_zero]
theorem first_good (s : ByteArray) (pos : Nat) (hp : pos < s.size) (h : ¬ decodeN (s.size - pos) (gb s pos) (gb s (pos + 1)) (gb s (pos + 2)) (gb s (pos + 3)) = (65533, 1)) :
  First (s.extract pos s.size) = Utf8.decode s pos ∧ cellAt s pos = ((Utf8.decode s pos).1 : Int) := by
 rw [first_ext, decode_gb, cellAt_eq s pos hp]
 unfold firstN cellN
 rw [if_neg h, if_neg h]
 exact ⟨rfl, rfl⟩
theorem first_wrong (s : ByteArray) (pos : Nat) (hp : pos < s.size) (h : decodeN (s.size - pos) (gb s pos) (gb s (pos + 1)) (gb s (pos + 2)) (gb s (pos + 3)) = (65533, 1)) :
  First (s.extract pos s.size) = (0, 0) ∧ cellAt s pos = -1 - (gb s pos : Int) ∧ (Utf8.decode s pos).2 = 1 := by
 rw [first_ext, decode_gb, cellAt_eq s pos hp]
 unfold firstN cellN
 rw [if_pos h, if_pos h, h]
 exact ⟨rfl, rfl, rfl⟩
theorem first_told (s : ByteArray) (w : World) (h1 : 1 ≤ s.size) (hmax : s.size ≤ maxLen) (F : Nat × Nat) (hF : First s = F) :
  Calls Tryz.prog 45 #[.string s] w fun e w' => e = .returned (.tuple #[.int .i32 (F.1 : Int), .int .i64 (F.2 : Int)]) ∧ Below w.heap.size w w' := by
 subst hF
 exact first_any s w h1 hmax
set_option maxHeartbeats 4000000 in
theorem refOf_any (s : ByteArray) (w : World) (hs : s.size ≤ 1099511627776) :
  Calls Tryz.prog 17 #[.string s] w fun e w' => ∃ v, e = .returned v ∧ w'.ownsRow w.heap.size 23 1 v (ofL s).length ((ofL s).map (Value.int .i32)) ∧ Below w.heap.size w w' := by
 obtain ⟨i0, hi, hz0, hz1, hz2⟩ := info_parts info33
 go_enter Tryz.func17, Tryz.ntmps17
 go_wp2
 go_loopw [3, 4] (fun v pv wr => ∃ (pos b : Nat) (acc : List Int), pv = .int .i64 pos ∧ OfSt s acc b pos ∧ Hid (wr.ownsRow w.heap.size 23 1 v acc.length (acc.map (Value.int .i32))) ∧ Below w.heap.size w wr) (fun _ pv _ => s.size - (intOf pv).toNat)
 case atStart => exact ⟨0, s.size, [], rfl, ofSt_zero s, World.ownsRow_nil _ _ _ _, Below.refl _ _⟩
 case round =>
  obtain ⟨pos, b, acc, rfl, hst, HW, hbr⟩ := hrel
  have HST := Lib.hid hst
  clear hst
  have hsz := hbr.size
  by_cases hp : pos < s.size
  ·obtain ⟨b', hst'⟩ := ofSt_step HST.out hp
   have HS' := Lib.hid hst'
   have hwd := Lib.decode_width_pos s pos hp
   clear hst'
   by_cases hbad : decodeN (s.size - pos) (gb s pos) (gb s (pos + 1)) (gb s (pos + 2)) (gb s (pos + 3)) = (65533, 1)
   ·obtain ⟨hF, hcv, hw1⟩ := first_wrong s pos hp hbad
    have HF := Lib.hid hF
    have HCV := Lib.hid hcv
    have HW1 := Lib.hid hw1
    have g0 := gb_get s pos hp
    have gl := gb_lt s pos
    clear hF hcv hw1 hbad hwd
    generalize gb s pos = b0 at *
    go_wp2_with fail
    refine (first_told (s.extract pos s.size) wr (by rw [size_ext]; omega) (by rw [size_ext]; unfold maxLen; omega) (0, 0) HF.out).mono ?_
    rintro e w1 ⟨rfl, hb1⟩
    have hs1 := hb1.size
    have HOW := Lib.hid (own_keep HW.out hb1)
    have hbW : Below w.heap.size w w1 := hbr.trans (hb1.mono hsz)
    go_wp2_with fail
    refine (refEscape_any (b0 : Int) w1 (by omega) (by omega)).mono ?_
    rintro e w' ⟨rfl, rfl⟩
    go_wp2_with (at_builtin; (refine wpList_append_own _ rfl _ _ 33 rfl w.heap.size 23 i0 (.int .i32 0) 1 4 Tryz.underlying33 hi hz0 hz1 hz2 rfl (by decide) _ _ _ rfl (HOW.out.alloc _) _ 1 1 [.int .i32 (-1 - (b0 : Int))] rfl rfl (cell_one_new _ _ _) (by intro u hu; simp at hu; subst hu; rfl) (by unfold maxLen; have := HST.out.2.2.2; omega) (by have := HST.out.2.2.2; omega) (by simp; omega) ?_); intro v' w3 hown' hgrow _; have HO3 := Lib.hid hown'; have HG3 := Lib.hid hgrow; clear hown' hgrow)
    go_roundw
    case rel => exact ⟨pos + (Utf8.decode s pos).2, b', acc ++ [cellAt s pos], by rw [HW1.out]; go_num, HS'.out, by have := HO3.out; rw [← HCV.out] at this; simpa [Hid] using this, ((hbW.alloc (by omega) _).grown HG3.out (by simp; omega) (fun k hk => (HOW.out.lt k hk).1))⟩
    case measure => simp [intOf]; omega
   ·obtain ⟨hF, hcv⟩ := first_good s pos hp hbad
    have HF := Lib.hid hF
    have HCV := Lib.hid hcv
    have hwl := decodeN_le (s.size - pos) (gb s pos) (gb s (pos + 1)) (gb s (pos + 2)) (gb s (pos + 3)) (by omega)
    rw [← decode_gb] at hwl
    clear hF hcv hbad
    go_wp2_with fail
    refine (first_told (s.extract pos s.size) wr (by rw [size_ext]; omega) (by rw [size_ext]; unfold maxLen; omega) _ HF.out).mono ?_
    rintro e w1 ⟨rfl, hb1⟩
    have hs1 := hb1.size
    have HOW := Lib.hid (own_keep HW.out hb1)
    have hbW : Below w.heap.size w w1 := hbr.trans (hb1.mono hsz)
    have n0 : (((Utf8.decode s pos).2 : Int) == 0) = false := by simp; omega
    go_wp2_with (at_builtin; (refine wpList_append_own _ rfl _ _ 33 rfl w.heap.size 23 i0 (.int .i32 0) 1 4 Tryz.underlying33 hi hz0 hz1 hz2 rfl (by decide) _ _ _ rfl (HOW.out.alloc _) _ 1 1 [.int .i32 ((Utf8.decode s pos).1 : Int)] rfl rfl (cell_one_new _ _ _) (by intro u hu; simp at hu; subst hu; rfl) (by unfold maxLen; have := HST.out.2.2.2; omega) (by have := HST.out.2.2.2; omega) (by simp; omega) ?_); intro v' w3 hown' hgrow _; have HO3 := Lib.hid hown'; have HG3 := Lib.hid hgrow; clear hown' hgrow)
    go_roundw
    case rel => exact ⟨pos + (Utf8.decode s pos).2, b', acc ++ [cellAt s pos], by go_num, HS'.out, by have := HO3.out; rw [← HCV.out] at this; simpa [Hid] using this, ((hbW.alloc (by omega) _).grown HG3.out (by simp; omega) (fun k hk => (HOW.out.lt k hk).1))⟩
    case measure => simp [intOf]; omega
  ·go_wp2
   go_ret
   refine ⟨_, rfl, ?_, hbr⟩
   rw [ofSt_end HST.out hp]
   exact HW.out
end Go.Proofs.YtknjhlbhbnldpaaGreatDoor.C

namespace Go.Proofs.YtknjhlbhbnldpaaGreatDoor.C
open Go.RowKit Go.Shelf
attribute [local go_sem] Oper.semAt_some

abbrev PlN (N : Nat) := { x : Nat // x < N }
def encN {N : Nat} (x : PlN N) : Array Value := #[.int .i64 (x.1 : Int)]
def runN (a m : Nat) : List Nat := (List.range m).map (a + ·)
theorem runN_next (a k : Nat) : runN a (k + 1) = runN a k ++ [a + k] := by unfold runN; rw [List.range_succ, List.map_append]; rfl
theorem runN_len (a k : Nat) : (runN a k).length = k := by simp [runN]
set_option maxRecDepth 100000 in
set_option maxHeartbeats 4000000 in
theorem ft_in (n N : Nat) (hn : 1 ≤ n) (l Bt Bf B a m : Nat) (J Jx : List (PlN N) → World → Prop) (W : World) (hN : a + m ≤ N) (hm : N ≤ 4611686018427387904) (h1 : 1 ≤ m)
  (hY : ∀ pre x W1, J pre W1 → pre.length < m → YieldAt Fence.wide (n - 1) Tryz.prog l (encN x) W1 fun e W' =>
   (e = .returned (.bool true) ∧ J (pre ++ [x]) W' ∧ Below B W1 W') ∨ (e = .returned (.bool false) ∧ Jx (pre ++ [x]) W'))
  (hT : W.cell? ⟨Bt, 0, none⟩ = some (.int .i64 ((a + m - 1 : Nat) : Int))) (hF : W.cell? ⟨Bf, 0, none⟩ = some (.int .i64 (a : Int))) (hBf : Bf < B) (h0 : J [] W) :
  CallsIn Fence.wide n Tryz.prog 98 #[.func (.yield l) #[] #[], .pointer (some ⟨Bt, 0, none⟩), .pointer (some ⟨Bf, 0, none⟩)] W fun e W' => (∃ v, e = .returned v) ∧
   ((∃ ys, ys.map Subtype.val = runN a m ∧ J ys W') ∨ (∃ pre, True ∧ Jx pre W')) := by
 have hw1 : wrap64 (wrap64 (((a + m - 1 : Nat) : Int) - (a : Int)) + 1) = (m : Int) := by unfold wrap64; omega
 obtain ⟨t, ht⟩ : ∃ t : Int, t = ((a + m - 1 : Nat) : Int) := ⟨_, rfl⟩
 rw [← ht] at hT hw1
 have HF := Lib.hid hF
 clear ht
 refine callsIn_of_wp Tryz.func98 rfl trivial ?_ rfl
 simp only [Tryz.ntmps98, List.size_toArray, List.length_cons, List.length_nil, Nat.reduceAdd, Nat.reduceSub, Array.replicate_succ, Array.replicate_zero, List.push_toArray, List.append_toArray, List.nil_append, List.cons_append]
 gi_wp2
 rw [hw1]
 clear hw1
 gi_loopw [9] (fun v wr => ∃ k : Nat, k ≤ m ∧ v = .int .i64 (k : Int) ∧ (∃ pre, pre.map Subtype.val = runN a k ∧ J pre wr) ∧ Below B W wr) (fun v _ => m - (intOf v).toNat)
 case atStart => exact ⟨0, Nat.zero_le _, rfl, ⟨[], rfl, h0⟩, Below.refl _ _⟩
 case round =>
  obtain ⟨k, hk, rfl, ⟨pre, hpre, hJ⟩, hb⟩ := hrel
  by_cases hlt : k < m
  ·have hlt' : (k : Int) < (m : Int) := by omega
   have hf : wr.cell? ⟨Bf, 0, none⟩ = some (.int .i64 (a : Int)) := (hb.cell (p := ⟨Bf, 0, none⟩) hBf).trans HF.out
   have hw2 : wrap64 ((a : Int) + (k : Int)) = ((a + k : Nat) : Int) := by unfold wrap64; omega
   obtain ⟨fn, tmps, assign, body, hy, hR⟩ := hY pre ⟨a + k, by omega⟩ wr hJ (by have := congrArg List.length hpre; rw [List.length_map, runN_len] at this; omega)
   unfold encN at hy
   rw [Int.natCast_add] at hy
   gi_wp2
   refine hR.mono ?_
   rintro e W3 (⟨rfl, hJ3, hk3⟩ | ⟨rfl, hJx3⟩)
   ·gi_wp2
    go_roundw
    case rel => exact ⟨k + 1, by omega, by go_num, ⟨_, by rw [List.map_append, hpre, runN_next]; rfl, hJ3⟩, hb.trans hk3⟩
    case measure => simp [intOf]; omega
   ·gi_wp2
    refine bodyPost_ret (results_none rfl _ _ _) rfl ?_
    exact ⟨⟨_, rfl⟩, .inr ⟨_, trivial, hJx3⟩⟩
  ·obtain rfl : k = m := by omega
   gi_wp2
   go_end0
   exact ⟨⟨_, rfl⟩, .inl ⟨_, hpre, hJ⟩⟩
theorem belowS_cell {w w' : World} (hb : Below w.heap.size w w') {p : Addr} {v : Value} (h : w.cell? p = some v) : w'.cell? p = some v := (hb.cell (p := p) (World.block_lt_of_cell? w _ h)).trans h
theorem ft_stops (n N : Nat) (hn : 1 ≤ n) (Bt Bf B a m : Nat) (w : World) (hN : a + m ≤ N) (hm : N ≤ 4611686018427387904) (h1 : 1 ≤ m) (hT : w.cell? ⟨Bt, 0, none⟩ = some (.int .i64 ((a + m - 1 : Nat) : Int))) (hF : w.cell? ⟨Bf, 0, none⟩ = some (.int .i64 (a : Int))) (hBf : Bf < B) :
  SeqStopsK Fence.wide n Tryz.prog 98 #[.pointer (some ⟨Bt, 0, none⟩), .pointer (some ⟨Bf, 0, none⟩)] (encN (N := N)) (Below B) (fun ys => ys.map Subtype.val = runN a m) (fun _ => True) m w := fun l J Jx W hW _ _ hY h0 =>
 ft_in n N hn l Bt Bf B a m J Jx W hN hm h1 hY (belowS_cell hW hT) (belowS_cell hW hF) hBf h0
end Go.Proofs.YtknjhlbhbnldpaaGreatDoor.C
