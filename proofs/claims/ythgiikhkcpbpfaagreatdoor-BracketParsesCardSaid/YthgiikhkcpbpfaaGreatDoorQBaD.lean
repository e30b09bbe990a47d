/-
  A bracket's cursor: what is left, signs that stand next, the next cell, cells up to a sign. Condition: no more cells than 1000000.
-/
import Derived.Test.YthgiikhkcpbpfaaGreatDoorQBaC
import Derived.Test.YthgiikhkcpbpfaaGreatDoorB17
import Derived.Test.YthgiikhkcpbpfaaGreatDoorB24
import Derived.Test.YthgiikhkcpbpfaaGreatDoorB27
namespace Go.Proofs.YthgiikhkcpbpfaaGreatDoor.C
open Go.RowKit

def Cin (w : World) (q : BSit) (A : Option Addr) (n : Nat) (xs : List Int) : Prop := RI .i32 w q.R A n xs ∧ (0 < n → ∀ ad, A = some ad → ad.block ≠ q.T)
theorem Cin.fr {w w' : World} {q : BSit} {A : Option Addr} {n : Nat} {xs : List Int} (h : Cin w q A n xs) (hf : Fr w w' (BX q)) (hR : q.R < w.heap.size) : Cin w' q A n xs :=
 ⟨h.1.fr hf (Nat.le_of_lt hR) (fun h0 ad ha hX => by
  obtain ⟨ad', e, hb, _⟩ := h.1.2 h0
  rw [ha] at e
  injection e with e
  subst e
  rcases hX with hX | hX
  ·exact h.2 h0 ad ha hX
  ·omega), h.2⟩
theorem Cin.take {w : World} {q : BSit} {A : Option Addr} {n m : Nat} {xs : List Int} (h : Cin w q A n xs) (hm : m ≤ n) : Cin w q A m (xs.take m) := ⟨h.1.takeK hm, fun h0 ad ha => h.2 (by omega) ad ha⟩
set_option maxRecDepth 100000 in
set_option maxHeartbeats 1000000 in
theorem restB_any (w : World) (q : BSit) (m : Nat) (hi : Value → Value → Prop) (k : Nat) (s : BSet) (h : RdB w q m hi k s) (hl : q.l.length ≤ 1000000) :
  Calls Tryz.prog 63 #[.pointer (some ⟨q.R, 0, none⟩)] w fun e w' => (∃ A c, e = .returned (.slice A (q.l.length - k) c) ∧ q.l.length - k ≤ c ∧ Cin w q A (q.l.length - k) (q.l.drop k)) ∧ w' = w.drew := by
 have c0 := h.cell0
 have c1 := h.cell1
 have hr : Cin w q (if q.cl = k then q.Al else q.Al.map (·.add k)) (q.l.length - k) (q.l.drop k) := ⟨h.rest, fun h0 ad ha => by
  split at ha
  ·exact h.ac (by omega) ad ha
  ·obtain ⟨a, ha1, rfl⟩ := Option.map_eq_some_iff.1 ha
   rw [block_of_add]
   exact h.ac (by omega) a ha1⟩
 have hk := h.le
 have hlc := h.lc
 obtain ⟨R, T, Al, cl, l, L, F⟩ := q
 simp only at c0 c1 hr hk hlc hl ⊢
 obtain ⟨n, hn⟩ : ∃ n, n = l.length := ⟨_, rfl⟩
 rw [← hn] at c0 hr hk hlc hl ⊢
 have HR : Hid (∀ A', A' = (if cl = k then Al else Al.map (·.add k)) → Cin w ⟨R, T, Al, cl, l, L, F⟩ A' (n - k) (l.drop k)) := Lib.hid (fun A' e => by rw [e]; exact hr)
 have HK := Lib.hid hk
 have HLC := Lib.hid hlc
 have k0 : (0 : Int) ≤ (k : Int) := by omega
 have k1 : (k : Int) ≤ (n : Int) := by omega
 have k2 : (n : Int) ≤ (cl : Int) := by omega
 clear h hr hlc hk hn
 go_enter Tryz.func63, Tryz.ntmps63
 go_wp2
 go_region
 all_goals go_wp2
 all_goals
  go_ret
  refine ⟨⟨_, _, rfl, ?_, ?_⟩, rfl⟩
  ·have := HLC.out
   have := HK.out
   omega
  ·refine HR.out _ ?_
   first
   | rw [if_pos (by assumption)]
   | rw [if_neg (by assumption)]
theorem pre_take {l sg : List Int} : sg.isPrefixOf l = (decide (sg.length ≤ l.length) && sameB (l.take sg.length) sg) := by
 cases h : sg.isPrefixOf l with
 | true =>
  have hp := List.isPrefixOf_iff_prefix.1 h
  have h1 := hp.length_le
  have h2 := List.prefix_iff_eq_take.1 hp
  simp [sameB, h1, ← h2]
 | false =>
  symm
  by_cases h1 : sg.length ≤ l.length
  ·have : l.take sg.length ≠ sg := fun e => by
    have hp : sg <+: l := List.prefix_iff_eq_take.2 e.symm
    rw [List.isPrefixOf_iff_prefix.2 hp] at h
    cases h
   simp [sameB, h1, this]
  ·simp [h1]
theorem atS_is {l sg : List Int} {k : Nat} : atS l k sg = (decide (sg.length ≤ l.length - k) && sameB ((l.drop k).take sg.length) sg) := by
 unfold atS
 rw [pre_take, List.length_drop]
theorem tw_mem {x y : Int} : ∀ {ks : List Int}, y ∈ ks.takeWhile (fun c => c != x) → y ≠ x
 | [], h => by cases h
 | z :: r, h => by
  rw [List.takeWhile_cons] at h
  split at h
  ·next hz =>
   rcases List.mem_cons.1 h with rfl | h
   ·simpa using hz
   ·exact tw_mem h
  ·cases h
def adv (b : Bool) (k n : Nat) : Nat := if b then k + n else k
theorem RdB.step {w : World} {q : BSit} {m k : Nat} {hi : Value → Value → Prop} {s : BSet} (h : RdB w q m hi k s) {k' : Nat} (hk : k' ≤ q.l.length) (z : Int) (hz : z = (k' : Int)) : RdB (w.setCell ⟨q.R, 1, none⟩ (.int .i64 z)) q m hi k' s := by rw [hz]; exact h.to_ hk
theorem BX.step (w : World) (q : BSit) (v : Value) : Fr w (w.setCell ⟨q.R, 1, none⟩ v) (BX q) := (Fr.refl w _).set _ _ fun _ => .inr rfl
theorem RdB.drewN {w : World} {q : BSit} {m k : Nat} {hi : Value → Value → Prop} {s : BSet} (h : RdB w q m hi k s) (n : Nat) : RdB (w.drewN n) q m hi k s := h.below ⟨rfl, rfl, rfl, Nat.le_refl _, fun _ _ => rfl⟩
set_option maxRecDepth 100000 in
set_option maxHeartbeats 1000000 in
theorem takesB_any (w : World) (q : BSit) (m : Nat) (hi : Value → Value → Prop) (k : Nat) (s : BSet) (Bs : Nat) (As : Option Addr) (n c : Nat) (sg : List Int) (h : RdB w q m hi k s) (hs : RI .i32 w Bs As n sg) (hn : n ≤ 4) (_hnc : n ≤ c) (hl : q.l.length ≤ 1000000) :
  Calls Tryz.prog 41 #[.pointer (some ⟨q.R, 0, none⟩), .slice As n c] w fun e w' => e = .returned (.bool (atS q.l k sg)) ∧ RdB w' q m hi (adv (atS q.l k sg) k n) s ∧ Fr w w' (BX q) := by
 have hrest := restB_any w q m hi k s h hl
 have hsl := hs.len
 have hk := h.le
 have H := Lib.hid h
 have HS := Lib.hid hs
 clear h hs
 obtain ⟨R, T, Al, cl, l, L, F⟩ := q
 simp only at hrest hk hl H ⊢
 go_enter Tryz.func41, Tryz.ntmps41
 go_wp2_with fail
 refine hrest.mono ?_
 rintro e w1 ⟨⟨A1, c1, rfl, hc1, hri⟩, hw⟩
 have h1w : RdB w1 ⟨R, T, Al, cl, l, L, F⟩ m hi k s := by rw [hw]; exact H.out.drew
 have hf1w : Fr w w1 (BX ⟨R, T, Al, cl, l, L, F⟩) := by rw [hw]; exact (Fr.refl w _).drew
 replace hri := hri.fr hf1w H.out.rlt
 have HS1 : Hid (RI .i32 w1 Bs As n sg) := Lib.hid (by rw [hw]; exact HS.out.drew)
 clear hw
 have H1 := Lib.hid h1w
 have HF1 := Lib.hid hf1w
 obtain ⟨N, hN⟩ : ∃ N, N = l.length - k := ⟨_, rfl⟩
 rw [← hN] at hc1 hri ⊢
 have HNN := Lib.hid hN
 clear hrest hN h1w hf1w
 by_cases hnN : n ≤ N
 ·have i0 : ¬ (N : Int) < (n : Int) := by omega
  have i1 : (n : Int) ≤ (c1 : Int) := by omega
  have i2 : (0 : Int) ≤ (n : Int) := by omega
  have heq := equal_any w1 R Bs A1 As n c1 n c ((l.drop k).take n) sg (hri.1.takeK hnN) HS1.out (by omega)
  unfold EqTold at heq
  have HB : Hid (atS l k sg = sameB ((l.drop k).take n) sg) := Lib.hid (by rw [atS_is, hsl, ← HNN.out]; simp [hnN])
  obtain ⟨b, hb⟩ : ∃ b, b = sameB ((l.drop k).take n) sg := ⟨_, rfl⟩
  rw [← hb] at heq HB
  have HK : Hid (k + n ≤ l.length) := Lib.hid (by have := HNN.out; omega)
  clear hb hri hsl
  go_wp2_with fail
  refine heq.mono ?_
  rintro e w2 ⟨rfl, t, rfl⟩
  have H2 := Lib.hid (H1.out.drewN t)
  have HF2 : Hid (Fr w (w1.drewN t) (BX ⟨R, T, Al, cl, l, L, F⟩)) := Lib.hid (HF1.out.drewN t)
  have p1 := H2.out.cell1
  have p2 := H2.out.frozen 1
  simp only at p1 p2
  cases b with
  | false =>
   go_wp2
   go_ret
   refine ⟨by rw [HB.out]; rfl, ?_, HF2.out⟩
   rw [HB.out]
   exact H2.out
  | true =>
   have wk : IntKind.i64.wrap ((k : Int) + (n : Int)) = (k : Int) + (n : Int) := by rw [IntKind.wrap_i64]; omega
   have H3 := Lib.hid (H2.out.step (k' := k + n) HK.out ((k : Int) + (n : Int)) (by omega))
   have HF3 := Lib.hid (HF2.out.trans (BX.step (w1.drewN t) ⟨R, T, Al, cl, l, L, F⟩ (.int .i64 ((k : Int) + (n : Int)))))
   go_wp2
   go_ret
   refine ⟨by rw [HB.out]; rfl, ?_, HF3.out⟩
   rw [HB.out]
   exact H3.out
 ·have i0 : (N : Int) < (n : Int) := by omega
  have HB : Hid (atS l k sg = false) := Lib.hid (by rw [atS_is, hsl, ← HNN.out]; simp [hnN])
  clear hri hsl
  go_wp2
  go_ret
  refine ⟨by rw [HB.out]; rfl, ?_, HF1.out⟩
  rw [HB.out]
  exact H1.out
theorem ri_new1 (w : World) (a : Int) : RI .i32 (w.alloc (.cells #[.int .i32 a] 30)) (w.heap.size + 1) (some ⟨w.heap.size, 0, none⟩) 1 [a] := by
 have := RI.new w .i32 [a] 30
 simpa using this
theorem ri_new2 (w : World) (a b : Int) : RI .i32 (w.alloc (.cells #[.int .i32 a, .int .i32 b] 30)) (w.heap.size + 1) (some ⟨w.heap.size, 0, none⟩) 2 [a, b] := by
 have := RI.new w .i32 [a, b] 30
 simpa using this
theorem below_new (w : World) (o : Obj) : Below w.heap.size w (w.alloc o) := (Below.refl _ _).alloc (Nat.le_refl _) _
theorem takes1_any (w : World) (q : BSit) (m : Nat) (hi : Value → Value → Prop) (k : Nat) (s : BSet) (a : Int) (g : Nat) (hg : g = w.heap.size) (h : RdB w q m hi k s) (hl : q.l.length ≤ 1000000) :
  Calls Tryz.prog 41 #[.pointer (some ⟨q.R, 0, none⟩), .slice (some ⟨g, 0, none⟩) 1 1] (w.alloc (.cells #[.int .i32 a] 30)) fun e w' => e = .returned (.bool (atS q.l k [a])) ∧ RdB w' q m hi (adv (atS q.l k [a]) k 1) s ∧ Fr w w' (BX q) := by
 subst hg
 refine (takesB_any _ q m hi k s _ _ 1 1 [a] (h.below (below_new w _)) (ri_new1 w a) (by omega) (by omega) hl).mono ?_
 rintro e w' ⟨h1, h2, h3⟩
 exact ⟨h1, h2, (Fr.of_below (below_new w _)).trans h3⟩
theorem takes2_any (w : World) (q : BSit) (m : Nat) (hi : Value → Value → Prop) (k : Nat) (s : BSet) (a b : Int) (g : Nat) (hg : g = w.heap.size) (h : RdB w q m hi k s) (hl : q.l.length ≤ 1000000) :
  Calls Tryz.prog 41 #[.pointer (some ⟨q.R, 0, none⟩), .slice (some ⟨g, 0, none⟩) 2 2] (w.alloc (.cells #[.int .i32 a, .int .i32 b] 30)) fun e w' => e = .returned (.bool (atS q.l k [a, b])) ∧ RdB w' q m hi (adv (atS q.l k [a, b]) k 2) s ∧ Fr w w' (BX q) := by
 subst hg
 refine (takesB_any _ q m hi k s _ _ 2 2 [a, b] (h.below (below_new w _)) (ri_new2 w a b) (by omega) (by omega) hl).mono ?_
 rintro e w' ⟨h1, h2, h3⟩
 exact ⟨h1, h2, (Fr.of_below (below_new w _)).trans h3⟩
set_option maxRecDepth 100000 in
set_option maxHeartbeats 1000000 in
theorem throughB_any (w : World) (q : BSit) (m : Nat) (hi : Value → Value → Prop) (k : Nat) (s : BSet) (h : RdB w q m hi k s) (hl : q.l.length ≤ 1000000) :
  Calls Tryz.prog 105 #[.pointer (some ⟨q.R, 0, none⟩)] w fun e w' => e = .returned (.bool (thruL q.l k)) ∧ RdB w' q m hi (adv (thruL q.l k) k 1) s ∧ Fr w w' (BX q) := by
 have hrest := restB_any w q m hi k s h hl
 have hk := h.le
 have H := Lib.hid h
 clear h
 obtain ⟨R, T, Al, cl, l, L, F⟩ := q
 simp only at hrest hk hl H ⊢
 go_enter Tryz.func105, Tryz.ntmps105
 go_wp2_with fail
 refine hrest.mono ?_
 rintro e w1 ⟨⟨A1, c1, rfl, hc1, hri⟩, hw⟩
 have h1w : RdB w1 ⟨R, T, Al, cl, l, L, F⟩ m hi k s := by rw [hw]; exact H.out.drew
 have hf1w : Fr w w1 (BX ⟨R, T, Al, cl, l, L, F⟩) := by rw [hw]; exact (Fr.refl w _).drew
 replace hri := hri.fr hf1w H.out.rlt
 clear hw
 have H1 := Lib.hid h1w
 have HF1 := Lib.hid hf1w
 obtain ⟨N, hN⟩ : ∃ N, N = l.length - k := ⟨_, rfl⟩
 rw [← hN] at hc1 hri ⊢
 have HNN := Lib.hid hN
 have htk := takes1_any w1 _ m hi k s 45 w1.heap.size rfl h1w hl
 simp only at htk
 clear hrest hN h1w hf1w
 by_cases h1 : 1 < N
 ·have i1 : (1 : Int) < (N : Int) := by omega
  obtain ⟨ad, u, rfl, hb, hu, hc⟩ := hri.1.at_ h1
  rw [List.getElem?_drop] at hu
  have hc2 : w1.cell? ⟨ad.block, ad.off + 1, none⟩ = some (.int .i32 u) := hc
  clear hc
  have i2 : decide (k + 1 < l.length) = true := by have := HNN.out; simp; omega
  by_cases h93 : u = 93
  ·have HB : Hid (thruL l k = false) := Lib.hid (by unfold thruL; rw [hu, h93]; simp)
   have t1 : (u != 93) = false := by simp [h93]
   clear hri hu htk h93
   go_wp2
   go_ret
   refine ⟨by rw [HB.out]; rfl, ?_, HF1.out⟩
   rw [HB.out]
   exact H1.out
  ·have HB : Hid (thruL l k = atS l k [45]) := Lib.hid (by unfold thruL; rw [hu, i2]; simp [h93])
   have t1 : (u != 93) = true := by simp [h93]
   clear hri hu h93 i2
   go_wp2_with fail
   refine htk.mono ?_
   rintro e w2 ⟨rfl, h2, hf⟩
   have H2 := Lib.hid h2
   have HF2 := Lib.hid (HF1.out.trans hf)
   clear htk h2 hf
   go_wp2
   go_ret
   exact ⟨by rw [HB.out]; rfl, by rw [HB.out]; exact H2.out, HF2.out⟩
 ·have i1 : ¬ (1 : Int) < (N : Int) := by omega
  have HB : Hid (thruL l k = false) := Lib.hid (by unfold thruL; rw [show decide (k + 1 < l.length) = false by have := HNN.out; simp; omega]; simp)
  clear hri htk
  go_wp2
  go_ret
  refine ⟨by rw [HB.out]; rfl, ?_, HF1.out⟩
  rw [HB.out]
  exact H1.out
def takeL (l : List Int) (k : Nat) : Except BEr (Int × Nat) := match l[k]? with | none => .error (30, l.length) | some c => .ok (c, k + 1)
set_option maxRecDepth 100000 in
set_option maxHeartbeats 1000000 in
theorem takeB_any (w : World) (q : BSit) (m : Nat) (hi : Value → Value → Prop) (k : Nat) (s : BSet) (h : RdB w q m hi k s) (hl : q.l.length ≤ 1000000) :
  Calls Tryz.prog 149 #[.pointer (some ⟨q.R, 0, none⟩)] w (BOut w q m (takeL q.l k) fun p e w' => e = .returned (.int .i32 p.1) ∧ RdB w' q m hi p.2 s ∧ Fr w w' (BX q)) := by
 have hrest := restB_any w q m hi k s h hl
 have hk := h.le
 have H := Lib.hid h
 clear h
 obtain ⟨R, T, Al, cl, l, L, F⟩ := q
 simp only at hrest hk hl H ⊢
 go_enter Tryz.func149, Tryz.ntmps149
 go_wp2_with fail
 refine hrest.mono ?_
 rintro e w1 ⟨⟨A1, c1, rfl, hc1, hri⟩, hw⟩
 have h1w : RdB w1 ⟨R, T, Al, cl, l, L, F⟩ m hi k s := by rw [hw]; exact H.out.drew
 have hf1w : Fr w w1 (BX ⟨R, T, Al, cl, l, L, F⟩) := by rw [hw]; exact (Fr.refl w _).drew
 replace hri := hri.fr hf1w H.out.rlt
 clear hw
 have H1 := Lib.hid h1w
 have HF1 := Lib.hid hf1w
 obtain ⟨N, hN⟩ : ∃ N, N = l.length - k := ⟨_, rfl⟩
 rw [← hN] at hc1 hri ⊢
 have HNN := Lib.hid hN
 have p1 := h1w.cell1
 have p2 := h1w.frozen 1
 simp only at p1 p2
 clear hrest hN h1w hf1w
 by_cases h1 : 0 < N
 ·obtain ⟨ad, u, rfl, hb, hu, hc⟩ := hri.1.at_ h1
  rw [List.getElem?_drop, Nat.add_zero] at hu
  rw [Addr.add_zero'] at hc
  have i1 : ((N : Int) == 0) = false := by simp; omega
  have i2 : (0 : Int) < (N : Int) := by omega
  have wk : IntKind.i64.wrap ((k : Int) + 1) = (k : Int) + 1 := by rw [IntKind.wrap_i64]; omega
  have H3 := Lib.hid (H1.out.step (k' := k + 1) (by have := HNN.out; show k + 1 ≤ l.length; omega) ((k : Int) + 1) (by omega))
  have HF3 := Lib.hid (HF1.out.trans (BX.step w1 ⟨R, T, Al, cl, l, L, F⟩ (.int .i64 ((k : Int) + 1))))
  have hc' : (w1.setCell ⟨R, 1, none⟩ (.int .i64 ((k : Int) + 1))).cell? ad = some (.int .i32 u) := (World.cell?_setCell_other w1 ⟨R, 1, none⟩ ad _ (fun e => by subst e; simp at hb)).trans hc
  have HV : Hid (takeL l k = .ok (u, k + 1)) := Lib.hid (by unfold takeL; rw [hu])
  clear hri hu hb
  go_wp2
  go_ret
  rw [HV.out]
  exact ⟨rfl, H3.out, HF3.out⟩
 ·have i1 : ((N : Int) == 0) = true := by simp; omega
  have HV : Hid (takeL l k = .error (30, l.length)) := Lib.hid (by unfold takeL; rw [List.getElem?_eq_none (by have := HNN.out; omega)])
  clear hri
  go_wp2
  exact ⟨rfl, by rw [HV.out]; exact ⟨rfl, H1.out.bad (BX.all _ HF1.out)⟩⟩
set_option maxRecDepth 100000 in
set_option maxHeartbeats 1000000 in
theorem upToB_any (w : World) (q : BSit) (m : Nat) (hi : Value → Value → Prop) (k : Nat) (s : BSet) (x : Int) (h : RdB w q m hi k s) (hl : q.l.length ≤ 1000000) :
  Calls Tryz.prog 97 #[.pointer (some ⟨q.R, 0, none⟩), .int .i32 x] w (BOut w q m (upToL q.l k x) fun p e w' => (∃ A c, e = .returned (.slice A p.1.length c) ∧ p.1.length ≤ c ∧ Cin w' q A p.1.length p.1) ∧ RdB w' q m hi p.2 s ∧ Fr w w' (BX q)) := by
 have hrest := restB_any w q m hi k s h hl
 have hk := h.le
 have H := Lib.hid h
 clear h
 obtain ⟨R, T, Al, cl, l, L, F⟩ := q
 simp only at hrest hk hl H ⊢
 go_enter Tryz.func97, Tryz.ntmps97
 go_wp2_with fail
 refine hrest.mono ?_
 rintro e w1 ⟨⟨A1, c1, rfl, hc1, hri⟩, hw⟩
 have h1w : RdB w1 ⟨R, T, Al, cl, l, L, F⟩ m hi k s := by rw [hw]; exact H.out.drew
 have hf1w : Fr w w1 (BX ⟨R, T, Al, cl, l, L, F⟩) := by rw [hw]; exact (Fr.refl w _).drew
 replace hri := hri.fr hf1w H.out.rlt
 clear hw
 have H1 := Lib.hid h1w
 have HF1 := Lib.hid hf1w
 obtain ⟨N, hN⟩ : ∃ N, N = l.length - k := ⟨_, rfl⟩
 rw [← hN] at hc1 hri ⊢
 have hix := indexB_any w1 R A1 N c1 (l.drop k) x hri.1 (by omega)
 obtain ⟨cs, hcs⟩ : ∃ cs, cs = (l.drop k).takeWhile (fun c => c != x) := ⟨_, rfl⟩
 rw [← hcs] at hix
 have HNN := Lib.hid hN
 have p1 := h1w.cell1
 have p2 := h1w.frozen 1
 simp only at p1 p2
 clear hrest hN h1w hf1w
 by_cases hx : x ∈ l.drop k
 ·rw [if_pos hx] at hix
  obtain ⟨n, hn⟩ : ∃ n, n = cs.length := ⟨_, rfl⟩
  rw [← hn] at hix
  have hcn : n < N ∧ cs = (l.drop k).take n := by
   have hp : cs <+: l.drop k := by rw [hcs]; exact List.takeWhile_prefix _
   have e1 := List.prefix_iff_eq_take.1 hp
   have e2 := hp.length_le
   rw [List.length_drop, ← HNN.out] at e2
   refine ⟨?_, by rw [hn]; exact e1⟩
   rcases Nat.lt_or_ge n N with h1 | h1
   ·exact h1
   ·have e3 : cs = l.drop k := by rw [e1, List.take_of_length_le (by rw [List.length_drop, ← HNN.out]; omega)]
    have : x ∈ cs := by rw [e3]; exact hx
    rw [hcs] at this
    exact absurd rfl (tw_mem this)
  have i0 : ¬ (n : Int) < 0 := by omega
  have i1 : (n : Int) ≤ (c1 : Int) := by omega
  have i2 : (0 : Int) ≤ (n : Int) := by omega
  have wk : IntKind.i64.wrap ((k : Int) + (n : Int)) = (k : Int) + (n : Int) := by have := HNN.out; have := hcn.1; rw [IntKind.wrap_i64]; omega
  have H3 := Lib.hid (H1.out.step (k' := k + n) (by have := HNN.out; have := hcn.1; show k + n ≤ l.length; omega) ((k : Int) + (n : Int)) (by omega))
  have HF3 := Lib.hid (BX.step w1 ⟨R, T, Al, cl, l, L, F⟩ (.int .i64 ((k : Int) + (n : Int))))
  have HRI : Hid (Cin w1 ⟨R, T, Al, cl, l, L, F⟩ A1 n cs) := Lib.hid (by rw [hcn.2]; exact hri.take (by omega))
  have HN : Hid (n = cs.length ∧ n ≤ c1 ∧ cs = (l.drop k).takeWhile (fun c => c != x)) := Lib.hid ⟨hn, by omega, hcs⟩
  obtain ⟨W, hW⟩ : ∃ W, W = w1.setCell ⟨R, 1, none⟩ (.int .i64 ((k : Int) + (n : Int))) := ⟨_, rfl⟩
  rw [← hW] at H3 HF3
  have htk := takes2_any W ⟨R, T, Al, cl, l, L, F⟩ m hi (k + n) s x 93 w1.heap.size (by rw [hW]; simp [World.setCell]) H3.out hl
  simp only at htk
  have HB : Hid (upToL l k x = if atS l (k + n) [x, 93] = true then .ok (cs, k + n + 2) else .error (30, l.length)) := Lib.hid (by unfold upToL; simp only; rw [← hcs, ← hn])
  obtain ⟨b, hb⟩ : ∃ b, b = atS l (k + n) [x, 93] := ⟨_, rfl⟩
  rw [← hb] at htk HB
  clear hri hcn hx hcs hn hb
  go_wp2_with fail
  refine hix.mono ?_
  rintro e w' ⟨rfl, rfl⟩
  clear hix
  go_wp2_with fail
  rw [← hW]
  clear hW
  refine htk.mono ?_
  rintro e w2 ⟨rfl, h2, hf⟩
  have H2 := Lib.hid h2
  have HF2 := Lib.hid (HF3.out.trans hf)
  have HF2w := Lib.hid (HF1.out.trans HF2.out)
  clear htk h2 hf
  cases b with
  | true =>
   have HV : Hid (upToL l k x = .ok (cs, k + n + 2)) := Lib.hid (by rw [HB.out]; simp)
   have HC : Hid (Cin w2 ⟨R, T, Al, cl, l, L, F⟩ A1 cs.length cs) := Lib.hid (by rw [← HN.out.1]; exact HRI.out.fr HF2.out H1.out.rlt)
   go_wp2
   go_ret
   exact BOut.ok HV.out ⟨⟨A1, c1, by rw [← HN.out.1]; rfl, by have := HN.out; show cs.length ≤ c1; omega, HC.out⟩, H2.out, HF2w.out⟩
  | false =>
   have HV : Hid (upToL l k x = .error (30, l.length)) := Lib.hid (by rw [HB.out]; simp)
   go_wp2
   exact ⟨rfl, BOut.bad HV.out ⟨rfl, H2.out.bad (BX.all _ HF2w.out)⟩⟩
 ·rw [if_neg hx] at hix
  have HV : Hid (upToL l k x = .error (30, l.length)) := Lib.hid (by
   unfold upToL
   simp only
   rw [tw_none hx, List.length_drop]
   rw [if_neg]
   intro h
   have := atS_len h (by simp)
   simp at this
   omega)
  clear hri hcs hx
  go_wp2_with fail
  refine hix.mono ?_
  rintro e w' ⟨rfl, rfl⟩
  clear hix
  go_wp2
  exact ⟨rfl, by rw [HV.out]; exact ⟨rfl, H1.out.bad (BX.all _ HF1.out)⟩⟩
end Go.Proofs.YthgiikhkcpbpfaaGreatDoor.C
