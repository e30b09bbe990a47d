/-
  Joined: LcI, LcO, LcM, LcJ, LcK. Each with what its own head says.
-/
import Derived.Test.YthaibekbefndlaaGreatDoorG06
import Derived.Deep.RegionWith
import Derived.Deep.RegionLaw
import Derived.OrdersHeld
import Derived.Test.YthaibekbefndlaaGreatDoorG03
import Derived.MapKept
import Derived.Laws.NewBlocks
import Derived.WideMake
import Derived.Laws.NewDeep
import Derived.Lib.SmallJoins

namespace Go.Proofs.YthaibekbefndlaaGreatDoor.C
open Go.RowKit

theorem pair_new (w : World) (k : Nat) (a b : Value) (t : TypeId) (hk : w.heap.size = k) : ∀ j u, [a, b][j]? = some u → (w.alloc (.cells #[a, b] t)).cell? ((⟨k, 0, none⟩ : Addr).add j) = some u := by
  subst hk
  intro j u hu
  rw [add_plain, Nat.zero_add, World.cell?_alloc_new]
  simpa using hu
theorem infoRange : (Tryz.prog.info? 51).map (fun i => (i.zero, i.size, i.bytes)) = some (some (.agg #[.int .i32 0, .int .i32 0]), 2, 8) := by kernel_rfl
/-- the cells of a row of pairs of numbers -/
def prsC (l : List (Int × Int)) : List Value := l.flatMap fun x => [.int .i32 x.1, .int .i32 x.2]
theorem prsC_snoc (l : List (Int × Int)) (x : Int × Int) : prsC (l ++ [x]) = prsC l ++ [.int .i32 x.1, .int .i32 x.2] := by simp [prsC]
theorem prsC_len (l : List (Int × Int)) : (prsC l).length = l.length * 2 := by induction l with
  | nil => rfl
  | cons x r ih => simp [prsC] at ih ⊢; omega
/-- a variable of one cell -/
def One (w : World) (b : Nat) (t : TypeId) (v : Value) : Prop := w.heap[b]? = some (.cells #[v] t (0, 0))
theorem One.cell {w : World} {b : Nat} {t : TypeId} {v : Value} (h : One w b t v) : w.cell? ⟨b, 0, none⟩ = some v := by simp [World.cell?, show w.heap[b]? = _ from h]
theorem One.lt {w : World} {b : Nat} {t : TypeId} {v : Value} (h : One w b t v) : b < w.heap.size := (Array.getElem?_eq_some_iff.1 h).1
theorem One.kept {w w' : World} {row : Option Nat} {b : Nat} {t : TypeId} {v : Value} (h : One w b t v) (hg : w.grownBy w' row) (hne : some b ≠ row) : One w' b t v := (hg.block b h.lt hne).trans h
theorem One.alloc {w : World} {b : Nat} {t : TypeId} {v : Value} (h : One w b t v) (o : Obj) : One (w.alloc o) b t v := (Below.heap_alloc w o b h.lt).trans h
theorem One.far {w : World} {b : Nat} {t : TypeId} {v : Value} (h : One w b t v) {p : Addr} (hp : b ≠ p.block) (u : Value) : One (w.setCell p u) b t v := (Below.heap_setCell w p u b hp).trans h
theorem Two.kept {w w' : World} {row : Option Nat} {b : Nat} {t : TypeId} {u v : Value} (h : Two w b t u v) (hg : w.grownBy w' row) (hne : some b ≠ row) : Two w' b t u v := (hg.block b h.lt hne).trans h
theorem CU.kept {w w' : World} {row : Option Nat} {R k : Nat} {T : TV} {v1 v2 v3 v4 v5 : Value} (h : CU w R T k v1 v2 v3 v4 v5) (hg : w.grownBy w' row) (hr : ∀ g, row = some g → R < g) : CU w' R T k v1 v2 v3 v4 v5 := by
  have hlt := h.lt
  obtain ⟨h1, h2, h3⟩ := h
  refine ⟨(hg.block R hlt (fun e => by have := hr R e.symm; omega)).trans h1, h2.keep fun p hp => World.cell?_of_block (hg.block p.block (by omega) (fun e => by have := hr _ e.symm; omega)), h3⟩
theorem Moved.kept {a w w' : World} {R : Nat} {row : Option Nat} (h : Moved a w R) (hg : w.grownBy w' row) (hr : ∀ g, row = some g → a.heap.size ≤ g) : Moved a w' R :=
  ⟨hg.os.trans h.os, hg.tape.trans h.tape, hg.output.trans h.output, Nat.le_trans h.size hg.size, fun j hj hne => (hg.block j (Nat.lt_of_lt_of_le hj h.size) (fun e => by have := hr j e.symm; omega)).trans (h.block j hj hne)⟩

/-- while a class' ranges are read: the reader, the class so far (in memory of the call's own), the variable that holds the reader -/
def RgI (w0 : World) (R : Nat) (T : TV) (v1 v2 v3 v4 v5 : Value) (C Rb : Nat) (nm : Value) (rs : List (Int × Int)) (k : Nat) (w : World) : Prop :=
  CU w R T k v1 v2 v3 v4 v5 ∧ (∃ v, Two w C 47 nm v ∧ w.ownsRow w0.heap.size 51 2 v rs.length (prsC rs)) ∧ One w Rb 88 (.pointer (some ⟨R, 0, none⟩)) ∧ Moved w0 w R
section
variable (w0 : World) (R : Nat) (T : TV) (v1 v2 v3 v4 v5 : Value) (C Rb : Nat) (nm : Value)
theorem RgI.go {w0 : World} {R : Nat} {T : TV} {v1 v2 v3 v4 v5 : Value} {C Rb : Nat} {nm : Value} {rs : List (Int × Int)} {k k' : Nat} {W W' : World} (h : RgI w0 R T v1 v2 v3 v4 v5 C Rb nm rs k W) (hc : CU W' R T k' v1 v2 v3 v4 v5) (hm : Moved W W' R) (hC : C ≠ R) (hRb : Rb ≠ R) : RgI w0 R T v1 v2 v3 v4 v5 C Rb nm rs k' W' := by
  obtain ⟨h1, ⟨v, h2, h3⟩, h4, h5⟩ := h
  refine ⟨hc, ⟨v, h2.moved hm hC, h3.kept hm (.inr ?_)⟩, h4.kept hm (by simpa using hRb), h5.trans hm⟩
  exact fun e => row_ne h3 h1.1 (by decide) e
theorem RgI.below {w0 : World} {R : Nat} {T : TV} {v1 v2 v3 v4 v5 : Value} {C Rb : Nat} {nm : Value} {rs : List (Int × Int)} {k : Nat} {W W' : World} (h : RgI w0 R T v1 v2 v3 v4 v5 C Rb nm rs k W) (hb : Below W.heap.size W W') (hC : C ≠ R) (hRb : Rb ≠ R) : RgI w0 R T v1 v2 v3 v4 v5 C Rb nm rs k W' := h.go (h.1.next hb) (.of_below hb) hC hRb

theorem Two.set1 {w : World} {b : Nat} {t : TypeId} {u v : Value} (h : Two w b t u v) (x : Value) : Two (w.setCell ⟨b, 1, none⟩ x) b t u x := by
  obtain ⟨hlt, hk⟩ := Array.getElem?_eq_some_iff.1 h
  show (w.heap.modify b _)[b]? = _
  rw [Array.getElem?_eq_getElem (by rw [Array.size_modify]; exact hlt), Array.getElem_modify_self, hk]
  rfl
/-- behind a range more -/
theorem rg_done {w0 w1 w2 : World} {R k1 C Rb g cap : Nat} {T : TV} {v1 v2 v3 v4 v5 nm v : Value} (rs : List (Int × Int)) (x : Int × Int) {o : Obj} (hc : CU w1 R T k1 v1 v2 v3 v4 v5) (ho1 : w1.ownsRow w0.heap.size 51 2 v rs.length (prsC rs))
    (hv : Two w2 C 47 nm v) (hone : One w2 Rb 88 (.pointer (some ⟨R, 0, none⟩))) (ho : w2.ownsRow w0.heap.size 51 2 (.slice (some ⟨g, 0, none⟩) (rs.length + 1) cap) (rs.length + 1) (prsC rs ++ [.int .i32 x.1, .int .i32 x.2]))
    (hg : (w1.alloc o).grownBy w2 v.ownBlock) (hm : Moved w0 w1 R) (hC : w0.heap.size ≤ C) (hRb : Rb < w0.heap.size) (hR : R < w0.heap.size) :
    RgI w0 R T v1 v2 v3 v4 v5 C Rb nm (rs ++ [x]) k1 (w2.setCell ⟨C, 1, none⟩ (.slice (some ⟨g, 0, none⟩) (rs.length + 1) cap)) := by
  have hrow : ∀ b, v.ownBlock = some b → w0.heap.size ≤ b := fun b e => (ho1.lt b e).1
  refine ⟨((hc.alloc o).kept hg (fun b e => by have := hrow b e; omega)).far (p := ⟨C, 1, none⟩) (by show R < C; omega) _, ⟨_, hv.set1 _, ?_⟩, hone.far (p := ⟨C, 1, none⟩) (by show Rb ≠ C; omega) _, ((hm.alloc o).kept hg hrow).fresh (p := ⟨C, 1, none⟩) hC _⟩
  have hne := row_ne ho hv (by decide)
  have := ho.kept (Lib.grownBy_setCell w2 C 1 (.slice (some ⟨g, 0, none⟩) (rs.length + 1) cap)) (.inr hne)
  rw [List.length_append, prsC_snoc]
  exact this

set_option maxRecDepth 100000 in
set_option maxHeartbeats 4000000 in
theorem rangeItem_any (w : World) (rs : List (Int × Int)) (k : Nat) (h : RgI w0 R T v1 v2 v3 v4 v5 C Rb nm rs k w) (hN : NumOk T) (hE : Ended (T.ts.drop k)) (hC : w0.heap.size ≤ C) (hRb : Rb < w0.heap.size) (hRR : Rb ≠ R) (hR : R < w0.heap.size) (hrs : rs.length ≤ 2000) :
    Calls Tryz.prog 123 #[.pointer (some ⟨C, 0, none⟩), .pointer (some ⟨Rb, 0, none⟩)] w (ItTold T (RgI w0 R T v1 v2 v3 v4 v5 C Rb nm) (fun w' => Moved w0 w' R) (rangeL rs (T.ts.drop k))) := by
  have H := Lib.hid h
  obtain ⟨hcu, ⟨v, hv, hown⟩, hone, hmv⟩ := h
  obtain ⟨_, q1⟩ := hv.cells
  have q2 := hone.cell
  have hsc := fun W hc => scalars_any W R T k v1 v2 v3 v4 v5 hc hN hE
  have HSC := Lib.hid hsc
  have HCU := Lib.hid hcu
  rw [rangeL_scal]
  cases hs : scalL (T.ts.drop k) with
  | error er =>
    have hsc2 : ∀ W, CU W R T k v1 v2 v3 v4 v5 → Calls Tryz.prog 124 #[.pointer (some ⟨R, 0, none⟩)] W (ReTold W R T v1 v2 v3 v4 v5 pairV (.error er)) := fun W hc => by have := HSC.out W hc; rwa [hs] at this
    have HSC2 := Lib.hid hsc2
    have HMV := Lib.hid hmv
    clear hsc hv hown hone hcu hs hmv hsc2
    simp only
    go_enter Tryz.func123, Tryz.ntmps123
    go_wp2
    go_region_with ((go_at_call 124; refine (HSC2.out _ HCU.out.drew).mono ?_; rintro e w4 ⟨rfl, hm4⟩; (suffices _hh : wpAny Tryz.prog .any #[] (fun _ _ _ => True) 0 #[] ⟨#[], []⟩ w4 from ⟨rfl, rfl, HMV.out.drew.trans hm4⟩)))
    all_goals exact True.intro
  | ok y =>
    obtain ⟨x, r⟩ := y
    have hsc2 : Calls Tryz.prog 124 #[.pointer (some ⟨R, 0, none⟩)] w.drew (ReTold w.drew R T v1 v2 v3 v4 v5 pairV (.ok (x, r))) := by have := HSC.out w.drew hcu.drew; rwa [hs] at this
    have HV : Hid (Two w.drew C 47 nm v) := Lib.hid hv
    have HOWN : Hid (w.drew.ownsRow w0.heap.size 51 2 v rs.length (prsC rs)) := Lib.hid hown
    have HONE : Hid (One w.drew Rb 88 (.pointer (some ⟨R, 0, none⟩))) := Lib.hid hone
    have hCR : C ≠ R := by omega
    have hRR' : some Rb ≠ some R := by simpa using hRR
    have HNE := Lib.hid (row_ne hown hcu.1 (by decide))
    have HNC := Lib.hid (row_ne hown hv (by decide)).symm
    have HNR := Lib.hid (row_ne hown hone (by decide)).symm
    have hsz := hmv.size
    have HMV := Lib.hid hmv
    clear hsc hv hown hone hcu hs hmv
    simp only
    obtain ⟨i0, hi, hz0, hz1, hz2⟩ := info_parts infoRange
    go_enter Tryz.func123, Tryz.ntmps123
    go_wp2
    go_region_law
      ((first
        | (go_simp; go_at_call 124; refine hsc2.mono ?_; rintro e w1 ⟨k1, rfl, hc1, hr1, hm1⟩; (have HV1 := Lib.hid (HV.out.moved hm1 hCR)); (have p1 := HV1.out.cells.2); (have HONE1 := Lib.hid (HONE.out.kept hm1 hRR')); (have p2 := HONE1.out.cell); (have hlC := HV1.out.lt); (have hlR := HONE1.out.lt); (have hs1 := hm1.size); (have hs1' : w0.heap.size ≤ w1.heap.size := by have := hs1; simp at this; omega); (have HOWN1 := Lib.hid (HOWN.out.kept hm1 (.inr HNE.out))); (have HC1 := Lib.hid hc1); (have HR1 := Lib.hid hr1); (have HM1 := Lib.hid hm1); clear hc1 hr1 hm1; unfold pairV; go_simp)
        | (refine step_append_lies _ (by rfl) _ _ _ (by rfl) w0.heap.size 51 i0 (.agg #[.int .i32 0, .int .i32 0]) 2 8 Tryz.underlying45 hi hz0 hz1 hz2 rfl (by decide) v rs.length (prsC rs) (by rfl) (HOWN1.out.alloc _) ⟨w1.heap.size, 0, none⟩ 1 1 [.int .i32 x.1, .int .i32 x.2] (by rfl) (by rfl) (pair_new _ _ _ _ _ (by simp)) (by intro u hu; simp at hu; rcases hu with rfl | rfl <;> rfl) (by omega) (by unfold maxLen; omega) (by omega) (by simp; omega) (w1.heap.size + 1) (by simp) ?_; intro g cap w2 hown2 hgrow hat hlt2; (have HV2 := Lib.hid ((HV1.out.alloc (.cells #[.int .i32 x.1, .int .i32 x.2] 51)).kept hgrow HNC.out)); (have HONE2 := Lib.hid ((HONE1.out.alloc (.cells #[.int .i32 x.1, .int .i32 x.2] 51)).kept hgrow HNR.out)); (have p3 := HV2.out.cells.2); (have p4 := HONE2.out.cell); (have p5 := HV2.out.frozen 1); (have HOWN2 := Lib.hid hown2); (have HGR := Lib.hid hgrow); (have HAT := Lib.hid hat); clear hown2 hgrow hat)))
    all_goals
      go_end0
      exact ⟨k1, rfl, rg_done rs x HC1.out HOWN1.out HV2.out HONE2.out HOWN2.out HGR.out (HMV.out.drew.trans HM1.out) hC hRb hR, HR1.out⟩
end
end Go.Proofs.YthaibekbefndlaaGreatDoor.C

namespace Go.Proofs.YthaibekbefndlaaGreatDoor.C
open Go.RowKit

section
variable {P : Program} {ops : Array Oper} {Q : Exit → Act → World → Prop} {md : Region.Mode} {S : World → Prop}
/-- whatever order is picked from here on, and S holds behind every operation but number L -/
def wpAnyE (P : Program) (md : Region.Mode) (ops : Array Oper) (Q : Exit → Act → World → Prop) (S : World → Prop) (L : Nat) : Nat → Array Bool → Act → World → Prop
  | 0, listed, a, w => Region.ready md ops listed = [] ∧ Q .normal a w
  | fuel + 1, listed, a, w =>
    (Region.ready md ops listed = [] → Q .normal a w) ∧
    ∀ i ∈ Region.ready md ops listed, wpOp P ops Q i (fun a' w' => (i ≠ L → S w') ∧ wpAnyE P md ops Q S L fuel (listed.setIfInBounds i true) a' w') a w
theorem wpAny_of_E {L : Nat} : ∀ (fuel : Nat) (listed : Array Bool) (a : Act) (w : World), wpAnyE P md ops Q S L fuel listed a w → wpAny P md ops Q fuel listed a w
  | 0, _, _, _, h => h
  | fuel + 1, _, _, _, h => ⟨h.1, fun i hi => wpOp_mono (fun a' w' h' => wpAny_of_E fuel _ a' w' h'.2) (h.2 i hi)⟩
/-- operation L waits for operation i -/
def waitsFor (md : Region.Mode) (ops : Array Oper) (L i : Nat) : Bool := match ops[L]? with
  | some o => o.after.any fun e => Region.binds md e && (e.on == i)
  | none => false
theorem wpAnyE_first {L i : Nat} {oi : Oper} {v : Value} (hi : ops[i]? = some oi) (hsel : ∀ (j : Nat) (o : Oper) cs b, ops[j]? = some o → o.op ≠ .select cs b) (hL : waitsFor md ops L i = true)
    (hQ : ∀ c a w, Q (.panic c) (a.put oi.dst v) w → Q (.panic c) a w) :
    ∀ (fuel : Nat) (listed : Array Bool) (a : Act) (w : World),
      (∀ j oj, ops[j]? = some oj → j ≠ i → listed.getD j true = false → (∀ e ∈ oj.after, Region.binds md e = true → e.on ≠ i) → oi.apart ops oj = true) →
      i ∈ Region.ready md ops listed → YieldsIf P ops S oi v a → S w →
      wpAnyE P md ops Q S L fuel (listed.setIfInBounds i true) (a.put oi.dst v) w → wpAnyE P md ops Q S L (fuel + 1) listed a w := by
  intro fuel
  induction fuel with
  | zero =>
    intro listed a w _ hr hy hS H
    refine ⟨fun h => (by rw [h] at hr; cases hr), fun j hj => ?_⟩
    by_cases hji : j = i
    · subst hji; exact hy.wpOp hi hS ⟨fun _ => hS, H⟩
    · have := ready_mono hj hji
      rw [H.1] at this
      cases this
  | succ fuel ih =>
    intro listed a w hfree hr hy hS H
    refine ⟨fun h => (by rw [h] at hr; cases hr), fun j hj => ?_⟩
    by_cases hji : j = i
    · subst hji; exact hy.wpOp hi hS ⟨fun _ => hS, H⟩
    · have h1 := H.2 j (ready_mono hj hji)
      obtain ⟨hjun, oj, hoj, hall⟩ := mem_ready.1 hj
      have hnot : ∀ e ∈ oj.after, Region.binds md e = true → e.on ≠ i := fun e he hb heq => by
        have h1 := hall e he hb
        have h0 := (mem_ready.1 hr).1
        rw [heq] at h1
        rcases Nat.lt_or_ge i listed.size with h' | h'
        · simp [h'] at h0 h1; rw [h0] at h1; cases h1
        · simp [Array.getElem?_eq_none h'] at h1
      have hjL : j ≠ L := by
        rintro rfl
        unfold waitsFor at hL
        rw [hoj] at hL
        simp only [Array.any_eq_true] at hL
        obtain ⟨q, hq, he⟩ := hL
        simp only [Bool.and_eq_true, beq_iff_eq] at he
        exact hnot _ (Array.getElem_mem hq) he.1 he.2
      have h2 := wpOp_putIf hoj (hfree j oj hoj hji hjun hnot) (fun cs b => hsel i oi cs b hi) (fun cs b => hsel j oj cs b hoj) hQ hy h1
      have hfree' : ∀ k ok, ops[k]? = some ok → k ≠ i → (listed.setIfInBounds j true).getD k true = false →
          (∀ e ∈ ok.after, Region.binds md e = true → e.on ≠ i) → oi.apart ops ok = true := fun k ok hk hki hun hno => by
        refine hfree k ok hk hki ?_ hno
        by_cases hjk : j = k
        · subst hjk; exact hjun
        · rw [getD_set_ne true hjk] at hun; exact hun
      refine wpOp_mono (fun a' w' h3 => ⟨fun _ => h3.2.1 hjL, ih (listed.setIfInBounds j true) a' w' hfree' (ready_mono hr (Ne.symm hji)) h3.1 (h3.2.1 hjL) ?_⟩) h2
      rw [Array.setIfInBounds_comm _ _ hji]
      exact h3.2.2
/-- take number i first -/
theorem wpAnyE_take {L i : Nat} {oi : Oper} {v : Value} {fuel : Nat} {listed : Array Bool} {a : Act} {w : World} (hi : ops[i]? = some oi)
    (hs : Region.noSelect ops = true) (hf : Region.free md ops listed i = true) (hr : (Region.ready md ops listed).contains i = true) (hL : waitsFor md ops L i = true)
    (hQ : ∀ c a w, Q (.panic c) (a.put oi.dst v) w → Q (.panic c) a w) (hy : YieldsIf P ops S oi v a) (hS : S w)
    (h : wpAnyE P md ops Q S L fuel (listed.setIfInBounds i true) (a.put oi.dst v) w) : wpAnyE P md ops Q S L (fuel + 1) listed a w :=
  wpAnyE_first hi (Region.noSelect_spec hs) hL hQ fuel listed a w (Region.free_spec hi hf) (by simpa using hr) hy hS h
/-- one alone may come up -/
theorem wpAnyE_one {L i : Nat} {o : Oper} {fuel : Nat} {listed : Array Bool} {a : Act} {w : World} (hr : Region.ready md ops listed = [i]) (ho : ops[i]? = some o)
    (h : ∀ K : Act → World → Prop, Hid (∀ a' w', (i ≠ L → S w') → ((i ≠ L → S w') → wpAnyE P md ops Q S L fuel (listed.setIfInBounds i true) a' w') → K a' w') →
      if Region.wanted o (yielded ops a.tmps) = true then Oper.wp P o a w K Q else K (a.put o.dst undef) w) : wpAnyE P md ops Q S L (fuel + 1) listed a w := by
  refine ⟨fun h0 => (by rw [hr] at h0; cases h0), fun j hj => ?_⟩
  rw [hr, List.mem_singleton] at hj
  subst hj
  have h1 := h (fun a' w' => (j ≠ L → S w') ∧ wpAnyE P md ops Q S L fuel (listed.setIfInBounds j true) a' w') (Lib.hid fun a' w' hs hh => ⟨hs, hh hs⟩)
  unfold wpOp
  simp only [ho]
  split
  · rename_i hw
    rw [if_pos hw] at h1
    exact .inl h1
  · rename_i hw
    rw [if_neg hw] at h1
    exact h1
theorem wpAnyE_done {L : Nat} {listed : Array Bool} {a : Act} {w : World} (hr : Region.ready md ops listed = []) (h : Q .normal a w) : ∀ fuel, wpAnyE P md ops Q S L fuel listed a w
  | 0 => ⟨hr, h⟩
  | _ + 1 => ⟨fun _ => h, by rw [hr]; simp⟩
theorem wp_region_E {L id : Nat} {a : Act} {w : World} (hm : P.follows .mixedOrders = true)
    (h : wpAnyE P .any ops Q S L ops.size (Array.replicate ops.size false) a w.drew) : (Code.region id ops true).wp P Q a w :=
  wp_region_any hm (wpAny_of_E _ _ _ _ h)
end
end Go.Proofs.YthaibekbefndlaaGreatDoor.C

namespace Go.Proofs.YthaibekbefndlaaGreatDoor.C
open Go.RowKit

/-- the world with another object at a block that it has -/
def putObj (w : World) (b : Nat) (o : Obj) : World := { w with heap := w.heap.setIfInBounds b o }
theorem putObj_size (w : World) (b : Nat) (o : Obj) : (putObj w b o).heap.size = w.heap.size := by simp [putObj]
theorem putObj_at {w : World} {b : Nat} (o : Obj) (hb : b < w.heap.size) : (putObj w b o).heap[b]? = some o := by simp [putObj, hb]
theorem putObj_else (w : World) {b j : Nat} (o : Obj) (h : j ≠ b) : (putObj w b o).heap[j]? = w.heap[j]? := by
  simp only [putObj]
  rw [Array.getElem?_setIfInBounds_ne (Ne.symm h)]
theorem putObj_below {B : Nat} {a w : World} (h : Below B a w) {b : Nat} (hb : B ≤ b) (o : Obj) : Below B a (putObj w b o) :=
  h.trans ⟨rfl, rfl, rfl, by rw [putObj_size]; exact Nat.le_refl _, fun k hk => putObj_else w o (by omega)⟩

section
variable {P : Program}
theorem run_insert (t k e : TypeId) (kd : TypeDesc) (ht : P.underlying t = some (.map k e)) (hk : P.underlying k = some kd) (w : World) (b : Nat) (es : Array MapEntry) (clock : Nat) (key val : Value)
    (hb : w.heap[b]? = some (.map es clock)) (hkey : MapKept.IsKey kd key) (hf : Instr.findNow kd key es.toList 0 = some none) :
    (Instr.mapUpdate t (.map (some b)) key val).run P w = .ok () (putObj w b (.map (es.push { key := key, val := val, born := clock }) (clock + 1))) := by
  have hc : (Instr.checkKey false 10000 k key).run P w = .ok () w := MapKept.run_checkKey hk hkey false 9999
  simp [Instr.mapUpdate, run_underlying ht, MapKept.run_getObj_map hb, hc, MapKept.run_findKey hk hf, MapKept.run_setObj_map _ hb, Result.andThen, putObj]
theorem run_look_yes (t k e : TypeId) (kd : TypeDesc) (ht : P.underlying t = some (.map k e)) (hk : P.underlying k = some kd) (w : World) (b : Nat) (es : Array MapEntry) (clock : Nat) (key val : Value) (i : Nat)
    (hb : w.heap[b]? = some (.map es clock)) (hkey : MapKept.IsKey kd key) (hf : Instr.findNow kd key es.toList 0 = some (some (i, val))) (c : Bool) :
    (Instr.lookup t (.map (some b)) key c).run P w = .ok (if c then .tuple #[val, .bool true] else val) w := by
  have hc : (Instr.checkKey es.isEmpty 10000 k key).run P w = .ok () w := MapKept.run_checkKey hk hkey _ 9999
  simp [Instr.lookup, run_underlying ht, MapKept.run_getObj_map hb, hc, MapKept.run_findKey hk hf, Result.andThen]
theorem run_look_no (t k e : TypeId) (kd : TypeDesc) (ht : P.underlying t = some (.map k e)) (hk : P.underlying k = some kd) (w : World) (b : Nat) (es : Array MapEntry) (clock : Nat) (key z : Value)
    (hz : (zeroValue e).run P w = .ok z w) (hb : w.heap[b]? = some (.map es clock)) (hkey : MapKept.IsKey kd key) (hf : Instr.findNow kd key es.toList 0 = some none) (c : Bool) :
    (Instr.lookup t (.map (some b)) key c).run P w = .ok (if c then .tuple #[z, .bool false] else z) w := by
  have hc : (Instr.checkKey es.isEmpty 10000 k key).run P w = .ok () w := MapKept.run_checkKey hk hkey _ 9999
  simp [Instr.lookup, run_underlying ht, MapKept.run_getObj_map hb, hc, MapKept.run_findKey hk hf, hz, Result.andThen]
end

/-- block M is a map of these keys and values, in the order in which they came -/
def MapIs (w : World) (M : Nat) (kd : TypeDesc) (l : List (Value × Value)) : Prop :=
  ∃ es clock, w.heap[M]? = some (.map es clock) ∧ es.toList.map (fun e => (e.key, e.val)) = l ∧ (∀ x ∈ l, MapKept.IsKey kd x.1) ∧ (l.map Prod.fst).Nodup
section
variable {P : Program} {w : World} {M : Nat} {kd : TypeDesc} {l : List (Value × Value)} {t k e : TypeId} {key v : Value}
theorem MapIs.lt (h : MapIs w M kd l) : M < w.heap.size := by obtain ⟨es, c, h1, _⟩ := h; exact (Array.getElem?_eq_some_iff.1 h1).1
theorem MapIs.at_ {w' : World} (h : MapIs w M kd l) (hb : w'.heap[M]? = w.heap[M]?) : MapIs w' M kd l := by
  obtain ⟨es, c, h1, h2⟩ := h
  exact ⟨es, c, hb.trans h1, h2⟩
theorem MapIs.drewN (h : MapIs w M kd l) (n : Nat) : MapIs (w.drewN n) M kd l := h
theorem MapIs.new (w : World) (kd : TypeDesc) : MapIs (w.alloc (.map #[] 0)) w.heap.size kd [] := ⟨#[], 0, heap_alloc_new w _, rfl, by simp, by simp⟩
theorem MapIs.look_yes (h : MapIs w M kd l) (ht : P.underlying t = some (.map k e)) (hk : P.underlying k = some kd) (hkey : MapKept.IsKey kd key) (hm : (key, v) ∈ l) (c : Bool) :
    (Instr.lookup t (.map (some M)) key c).run P w = .ok (if c then .tuple #[v, .bool true] else v) w := by
  obtain ⟨es, clock, h1, h2, h3, h4⟩ := h
  have hks : ∀ x ∈ es.toList, MapKept.IsKey kd x.key := fun x hx => h3 (x.key, x.val) (by rw [← h2]; exact List.mem_map_of_mem hx)
  rcases MapKept.findNow_spec hkey es.toList 0 hks with ⟨_, hn⟩ | ⟨j, x, hf, hj, hx⟩
  · rw [← h2, List.mem_map] at hm
    obtain ⟨x, hx, hxe⟩ := hm
    exact absurd (congrArg Prod.fst hxe) (hn x hx)
  · have hv : x.val = v := by
      have hin : (x.key, x.val) ∈ l := by rw [← h2]; exact List.mem_map_of_mem (List.mem_of_getElem? hj)
      rw [hx] at hin
      have key_inj : ∀ (l : List (Value × Value)), (l.map Prod.fst).Nodup → (key, x.val) ∈ l → (key, v) ∈ l → x.val = v := by
        intro l
        induction l with
        | nil => intro _ h; cases h
        | cons a r ih =>
          intro hn ha hb
          rw [List.map_cons, List.nodup_cons] at hn
          rcases List.mem_cons.1 ha with ha | ha <;> rcases List.mem_cons.1 hb with hb | hb
          · rw [← ha] at hb; exact (congrArg Prod.snd hb).symm
          · exact absurd (by rw [← ha]; exact List.mem_map.2 ⟨_, hb, rfl⟩) hn.1
          · exact absurd (by rw [← hb]; exact List.mem_map.2 ⟨_, ha, rfl⟩) hn.1
          · exact ih hn.2 ha hb
      exact key_inj l h4 hin hm
    rw [← hv]
    exact run_look_yes t k e kd ht hk w M es clock key x.val _ h1 hkey hf c
theorem MapIs.look_no (h : MapIs w M kd l) (ht : P.underlying t = some (.map k e)) (hk : P.underlying k = some kd) (hkey : MapKept.IsKey kd key) (hm : key ∉ l.map Prod.fst) {z : Value} (hz : (zeroValue e).run P w = .ok z w) (c : Bool) :
    (Instr.lookup t (.map (some M)) key c).run P w = .ok (if c then .tuple #[z, .bool false] else z) w := by
  obtain ⟨es, clock, h1, h2, h3, h4⟩ := h
  have hks : ∀ x ∈ es.toList, MapKept.IsKey kd x.key := fun x hx => h3 (x.key, x.val) (by rw [← h2]; exact List.mem_map_of_mem hx)
  rcases MapKept.findNow_spec hkey es.toList 0 hks with ⟨hf, _⟩ | ⟨j, x, hf, hj, hx⟩
  · exact run_look_no t k e kd ht hk w M es clock key z hz h1 hkey hf c
  · exfalso
    apply hm
    rw [← h2, List.map_map, List.mem_map]
    exact ⟨x, List.mem_of_getElem? hj, hx⟩
theorem MapIs.put_new (h : MapIs w M kd l) (ht : P.underlying t = some (.map k e)) (hk : P.underlying k = some kd) (hkey : MapKept.IsKey kd key) (hm : key ∉ l.map Prod.fst) (val : Value) :
    ∃ o, (Instr.mapUpdate t (.map (some M)) key val).run P w = .ok () (putObj w M o) ∧ MapIs (putObj w M o) M kd (l ++ [(key, val)]) := by
  have hlt := h.lt
  obtain ⟨es, clock, h1, h2, h3, h4⟩ := h
  have hks : ∀ x ∈ es.toList, MapKept.IsKey kd x.key := fun x hx => h3 (x.key, x.val) (by rw [← h2]; exact List.mem_map_of_mem hx)
  rcases MapKept.findNow_spec hkey es.toList 0 hks with ⟨hf, _⟩ | ⟨j, x, hf, hj, hx⟩
  · refine ⟨_, run_insert t k e kd ht hk w M es clock key val h1 hkey hf, _, _, putObj_at _ hlt, ?_, ?_, ?_⟩
    · rw [Array.toList_push, List.map_append, h2]; rfl
    · intro x hx
      rcases List.mem_append.1 hx with hx | hx
      · exact h3 x hx
      · rw [List.mem_singleton] at hx; subst hx; exact hkey
    · rw [List.map_append, List.nodup_append]
      refine ⟨h4, by simp, ?_⟩
      intro a ha b hb
      simp only [List.map_cons, List.map_nil, List.mem_singleton] at hb
      subst hb
      rintro rfl
      exact hm ha
  · exfalso
    apply hm
    rw [← h2, List.map_map, List.mem_map]
    exact ⟨x, List.mem_of_getElem? hj, hx⟩
theorem MapIs.put_old (h : MapIs w M kd l) (ht : P.underlying t = some (.map k e)) (hk : P.underlying k = some kd) (hkey : MapKept.IsKey kd key) (hm : key ∈ l.map Prod.fst) (val : Value) :
    ∃ o, (Instr.mapUpdate t (.map (some M)) key val).run P w = .ok () (putObj w M o) := by
  obtain ⟨es, clock, h1, h2, h3, h4⟩ := h
  have hks : ∀ x ∈ es.toList, MapKept.IsKey kd x.key := fun x hx => h3 (x.key, x.val) (by rw [← h2]; exact List.mem_map_of_mem hx)
  rcases MapKept.findNow_spec hkey es.toList 0 hks with ⟨_, hn⟩ | ⟨j, x, hf, hj, hx⟩
  · exfalso
    rw [← h2, List.map_map, List.mem_map] at hm
    obtain ⟨x, hx, hxe⟩ := hm
    exact hn x hx hxe
  · have hj' : es[j]? = some x := by simpa using hj
    have hc : (Instr.checkKey false 10000 k key).run P w = .ok () w := MapKept.run_checkKey hk hkey false 9999
    exact ⟨_, by simp [Instr.mapUpdate, run_underlying ht, MapKept.run_getObj_map h1, hc, MapKept.run_findKey hk hf, hj', hx, MapKept.run_keyThatStays hkey, MapKept.run_setObj_map _ h1, Result.andThen, putObj]; rfl⟩
end
/-- only block M has turned -/
theorem putObj_only {w : World} {M : Nat} (o : Obj) : w.grownBy (putObj w M o) (some M) := ⟨rfl, rfl, rfl, by rw [putObj_size]; exact Nat.le_refl _, fun i _ hne => putObj_else w o (fun e => hne (by rw [e]))⟩
/-- the closure that says whether a key is asked for the first time, and the keys asked so far -/
def FT (w : World) (t : TypeId) (kd : TypeDesc) (A M : Nat) (keys : List Value) : Prop :=
  w.heap[A]? = some (.cells #[.map (some M)] t (0, 0)) ∧ MapIs w M kd (keys.map fun k => (k, .bool true))
theorem FT.next {w w' : World} {t : TypeId} {kd : TypeDesc} {A M : Nat} {keys : List Value} (h : FT w t kd A M keys) (hA : w'.heap[A]? = w.heap[A]?) (hM : w'.heap[M]? = w.heap[M]?) : FT w' t kd A M keys := ⟨hA.trans h.1, h.2.at_ hM⟩
theorem FT.cell {w : World} {t : TypeId} {kd : TypeDesc} {A M : Nat} {keys : List Value} (h : FT w t kd A M keys) : w.cell? ⟨A, 0, none⟩ = some (.map (some M)) := by simp [World.cell?, h.1]
theorem FT.ne {w : World} {t : TypeId} {kd : TypeDesc} {A M : Nat} {keys : List Value} (h : FT w t kd A M keys) : A ≠ M := by
  rintro rfl
  obtain ⟨es, c, h1, _⟩ := h.2
  rw [h.1] at h1
  cases h1
theorem map_keys (keys : List Value) : (keys.map fun k => (k, Value.bool true)).map Prod.fst = keys := by induction keys <;> simp_all

theorem zeroBoolS (w : World) : (zeroValue 4).run Tryz.prog w = .ok (.bool false) w := by kernel_rfl
set_option maxRecDepth 100000 in
set_option maxHeartbeats 1000000 in
theorem firstS_any (w : World) : Calls Tryz.prog 54 #[] w fun e w' => e = .returned (.func (.func 99) #[] #[.pointer (some ⟨w.heap.size + 1, 0, none⟩)]) ∧ FT w' 151 .string (w.heap.size + 1) w.heap.size [] ∧ Below w.heap.size w w' ∧ w'.heap.size = w.heap.size + 2 := by
  have hmf : ∀ (fn : Fn) (first cap : Array Value) (w : World), (Instr.makeFunc fn first cap).run Tryz.prog w = .ok (.func fn first cap) w := fun _ _ _ _ => rfl
  have hmm := @run_makeMap Tryz.prog
  have hA := heap_alloc_new (w.alloc (.map #[] 0)) (.cells #[.map (some w.heap.size)] 151)
  rw [World.size_alloc] at hA
  have hM : MapIs ((w.alloc (.map #[] 0)).alloc (.cells #[.map (some w.heap.size)] 151)) w.heap.size .string [] := (MapIs.new w .string).at_ (heap_lt _ _ (by simp))
  have HF : Hid (FT ((w.alloc (.map #[] 0)).alloc (.cells #[.map (some w.heap.size)] 151)) 151 .string (w.heap.size + 1) w.heap.size []) := Lib.hid ⟨hA, hM⟩
  clear hA hM
  go_enter Tryz.func54, Tryz.ntmps54
  go_wp2
  go_ret
  exact ⟨rfl, HF.out, ((Below.refl _ w).alloc (Nat.le_refl _) _).alloc (by simp) _, by simp⟩
set_option maxRecDepth 100000 in
set_option maxHeartbeats 1000000 in
theorem isNewS_yes (w : World) (A M : Nat) (keys : List Value) (s : ByteArray) (h : FT w 151 .string A M keys) (hs : (.string s) ∉ keys) :
    Calls Tryz.prog 99 #[(.string s), .pointer (some ⟨A, 0, none⟩)] w fun e w' => e = .returned (.bool true) ∧ FT w' 151 .string A M (keys ++ [(.string s)]) ∧ w.grownBy w' (some M) := by
  have hc := h.cell
  have hne := h.ne
  have q1 := h.2.look_no Tryz.underlying151 Tryz.underlying9 (key := (.string s)) (by first | trivial | rfl) (by rw [map_keys]; exact hs) (zeroBoolS w) false
  obtain ⟨o, q2, hM⟩ := h.2.put_new Tryz.underlying151 Tryz.underlying9 (key := (.string s)) (by first | trivial | rfl) (by rw [map_keys]; exact hs) (.bool true)
  have HF : Hid (FT (putObj w M o) 151 .string A M (keys ++ [(.string s)])) := Lib.hid ⟨(putObj_else w o hne).trans h.1, by rw [List.map_append]; exact hM⟩
  have HO : Hid (w.grownBy (putObj w M o) (some M)) := Lib.hid (putObj_only o)
  clear h hM hs
  go_enter Tryz.func99, Tryz.ntmps99
  go_wp2
  go_ret
  exact ⟨rfl, HF.out, HO.out⟩
set_option maxRecDepth 100000 in
set_option maxHeartbeats 1000000 in
theorem isNewS_no (w : World) (A M : Nat) (keys : List Value) (s : ByteArray) (h : FT w 151 .string A M keys) (hs : (.string s) ∈ keys) :
    Calls Tryz.prog 99 #[(.string s), .pointer (some ⟨A, 0, none⟩)] w fun e w' => e = .returned (.bool false) ∧ w.grownBy w' (some M) := by
  have hc := h.cell
  have q1 := h.2.look_yes Tryz.underlying151 Tryz.underlying9 (key := (.string s)) (v := .bool true) (by first | trivial | rfl) (List.mem_map_of_mem hs) false
  obtain ⟨o, q2⟩ := h.2.put_old Tryz.underlying151 Tryz.underlying9 (key := (.string s)) (by first | trivial | rfl) (by rw [map_keys]; exact hs) (.bool true)
  have HO : Hid (w.grownBy (putObj w M o) (some M)) := Lib.hid (putObj_only o)
  clear h hs
  go_enter Tryz.func99, Tryz.ntmps99
  go_wp2
  go_ret
  exact ⟨rfl, HO.out⟩

theorem zeroBoolI (w : World) : (zeroValue 4).run Tryz.prog w = .ok (.bool false) w := by kernel_rfl
set_option maxRecDepth 100000 in
set_option maxHeartbeats 1000000 in
theorem firstI_any (w : World) : Calls Tryz.prog 125 #[] w fun e w' => e = .returned (.func (.func 170) #[] #[.pointer (some ⟨w.heap.size + 1, 0, none⟩)]) ∧ FT w' 200 (.int .i64) (w.heap.size + 1) w.heap.size [] ∧ Below w.heap.size w w' ∧ w'.heap.size = w.heap.size + 2 := by
  have hmf : ∀ (fn : Fn) (first cap : Array Value) (w : World), (Instr.makeFunc fn first cap).run Tryz.prog w = .ok (.func fn first cap) w := fun _ _ _ _ => rfl
  have hmm := @run_makeMap Tryz.prog
  have hA := heap_alloc_new (w.alloc (.map #[] 0)) (.cells #[.map (some w.heap.size)] 200)
  rw [World.size_alloc] at hA
  have hM : MapIs ((w.alloc (.map #[] 0)).alloc (.cells #[.map (some w.heap.size)] 200)) w.heap.size (.int .i64) [] := (MapIs.new w (.int .i64)).at_ (heap_lt _ _ (by simp))
  have HF : Hid (FT ((w.alloc (.map #[] 0)).alloc (.cells #[.map (some w.heap.size)] 200)) 200 (.int .i64) (w.heap.size + 1) w.heap.size []) := Lib.hid ⟨hA, hM⟩
  clear hA hM
  go_enter Tryz.func125, Tryz.ntmps125
  go_wp2
  go_ret
  exact ⟨rfl, HF.out, ((Below.refl _ w).alloc (Nat.le_refl _) _).alloc (by simp) _, by simp⟩
set_option maxRecDepth 100000 in
set_option maxHeartbeats 1000000 in
theorem isNewI_yes (w : World) (A M : Nat) (keys : List Value) (s : Int) (h : FT w 200 (.int .i64) A M keys) (hs : (.int .i64 s) ∉ keys) :
    Calls Tryz.prog 170 #[(.int .i64 s), .pointer (some ⟨A, 0, none⟩)] w fun e w' => e = .returned (.bool true) ∧ FT w' 200 (.int .i64) A M (keys ++ [(.int .i64 s)]) ∧ w.grownBy w' (some M) := by
  have hc := h.cell
  have hne := h.ne
  have q1 := h.2.look_no Tryz.underlying200 Tryz.underlying3 (key := (.int .i64 s)) (by first | trivial | rfl) (by rw [map_keys]; exact hs) (zeroBoolI w) false
  obtain ⟨o, q2, hM⟩ := h.2.put_new Tryz.underlying200 Tryz.underlying3 (key := (.int .i64 s)) (by first | trivial | rfl) (by rw [map_keys]; exact hs) (.bool true)
  have HF : Hid (FT (putObj w M o) 200 (.int .i64) A M (keys ++ [(.int .i64 s)])) := Lib.hid ⟨(putObj_else w o hne).trans h.1, by rw [List.map_append]; exact hM⟩
  have HO : Hid (w.grownBy (putObj w M o) (some M)) := Lib.hid (putObj_only o)
  clear h hM hs
  go_enter Tryz.func170, Tryz.ntmps170
  go_wp2
  go_ret
  exact ⟨rfl, HF.out, HO.out⟩
set_option maxRecDepth 100000 in
set_option maxHeartbeats 1000000 in
theorem isNewI_no (w : World) (A M : Nat) (keys : List Value) (s : Int) (h : FT w 200 (.int .i64) A M keys) (hs : (.int .i64 s) ∈ keys) :
    Calls Tryz.prog 170 #[(.int .i64 s), .pointer (some ⟨A, 0, none⟩)] w fun e w' => e = .returned (.bool false) ∧ w.grownBy w' (some M) := by
  have hc := h.cell
  have q1 := h.2.look_yes Tryz.underlying200 Tryz.underlying3 (key := (.int .i64 s)) (v := .bool true) (by first | trivial | rfl) (List.mem_map_of_mem hs) false
  obtain ⟨o, q2⟩ := h.2.put_old Tryz.underlying200 Tryz.underlying3 (key := (.int .i64 s)) (by first | trivial | rfl) (by rw [map_keys]; exact hs) (.bool true)
  have HO : Hid (w.grownBy (putObj w M o) (some M)) := Lib.hid (putObj_only o)
  clear h hs
  go_enter Tryz.func170, Tryz.ntmps170
  go_wp2
  go_ret
  exact ⟨rfl, HO.out⟩

theorem zeroBoolC (w : World) : (zeroValue 4).run Tryz.prog w = .ok (.bool false) w := by kernel_rfl
set_option maxRecDepth 100000 in
set_option maxHeartbeats 1000000 in
theorem firstC_any (w : World) : Calls Tryz.prog 60 #[] w fun e w' => e = .returned (.func (.func 105) #[] #[.pointer (some ⟨w.heap.size + 1, 0, none⟩)]) ∧ FT w' 153 (.int .i32) (w.heap.size + 1) w.heap.size [] ∧ Below w.heap.size w w' ∧ w'.heap.size = w.heap.size + 2 := by
  have hmf : ∀ (fn : Fn) (first cap : Array Value) (w : World), (Instr.makeFunc fn first cap).run Tryz.prog w = .ok (.func fn first cap) w := fun _ _ _ _ => rfl
  have hmm := @run_makeMap Tryz.prog
  have hA := heap_alloc_new (w.alloc (.map #[] 0)) (.cells #[.map (some w.heap.size)] 153)
  rw [World.size_alloc] at hA
  have hM : MapIs ((w.alloc (.map #[] 0)).alloc (.cells #[.map (some w.heap.size)] 153)) w.heap.size (.int .i32) [] := (MapIs.new w (.int .i32)).at_ (heap_lt _ _ (by simp))
  have HF : Hid (FT ((w.alloc (.map #[] 0)).alloc (.cells #[.map (some w.heap.size)] 153)) 153 (.int .i32) (w.heap.size + 1) w.heap.size []) := Lib.hid ⟨hA, hM⟩
  clear hA hM
  go_enter Tryz.func60, Tryz.ntmps60
  go_wp2
  go_ret
  exact ⟨rfl, HF.out, ((Below.refl _ w).alloc (Nat.le_refl _) _).alloc (by simp) _, by simp⟩
set_option maxRecDepth 100000 in
set_option maxHeartbeats 1000000 in
theorem isNewC_yes (w : World) (A M : Nat) (keys : List Value) (s : Int) (h : FT w 153 (.int .i32) A M keys) (hs : (.int .i32 s) ∉ keys) :
    Calls Tryz.prog 105 #[(.int .i32 s), .pointer (some ⟨A, 0, none⟩)] w fun e w' => e = .returned (.bool true) ∧ FT w' 153 (.int .i32) A M (keys ++ [(.int .i32 s)]) ∧ w.grownBy w' (some M) := by
  have hc := h.cell
  have hne := h.ne
  have q1 := h.2.look_no Tryz.underlying153 Tryz.underlying35 (key := (.int .i32 s)) (by first | trivial | rfl) (by rw [map_keys]; exact hs) (zeroBoolC w) false
  obtain ⟨o, q2, hM⟩ := h.2.put_new Tryz.underlying153 Tryz.underlying35 (key := (.int .i32 s)) (by first | trivial | rfl) (by rw [map_keys]; exact hs) (.bool true)
  have HF : Hid (FT (putObj w M o) 153 (.int .i32) A M (keys ++ [(.int .i32 s)])) := Lib.hid ⟨(putObj_else w o hne).trans h.1, by rw [List.map_append]; exact hM⟩
  have HO : Hid (w.grownBy (putObj w M o) (some M)) := Lib.hid (putObj_only o)
  clear h hM hs
  go_enter Tryz.func105, Tryz.ntmps105
  go_wp2
  go_ret
  exact ⟨rfl, HF.out, HO.out⟩
set_option maxRecDepth 100000 in
set_option maxHeartbeats 1000000 in
theorem isNewC_no (w : World) (A M : Nat) (keys : List Value) (s : Int) (h : FT w 153 (.int .i32) A M keys) (hs : (.int .i32 s) ∈ keys) :
    Calls Tryz.prog 105 #[(.int .i32 s), .pointer (some ⟨A, 0, none⟩)] w fun e w' => e = .returned (.bool false) ∧ w.grownBy w' (some M) := by
  have hc := h.cell
  have q1 := h.2.look_yes Tryz.underlying153 Tryz.underlying35 (key := (.int .i32 s)) (v := .bool true) (by first | trivial | rfl) (List.mem_map_of_mem hs) false
  obtain ⟨o, q2⟩ := h.2.put_old Tryz.underlying153 Tryz.underlying35 (key := (.int .i32 s)) (by first | trivial | rfl) (by rw [map_keys]; exact hs) (.bool true)
  have HO : Hid (w.grownBy (putObj w M o) (some M)) := Lib.hid (putObj_only o)
  clear h hs
  go_enter Tryz.func105, Tryz.ntmps105
  go_wp2
  go_ret
  exact ⟨rfl, HO.out⟩
end Go.Proofs.YthaibekbefndlaaGreatDoor.C

namespace Go.Proofs.YthaibekbefndlaaGreatDoor.C
open Go.RowKit

/-- of the blocks that stood, only these may have turned -/
structure Fr (w w' : World) (X : Nat → Prop) : Prop where
  os : w'.os = w.os
  tape : w'.tape = w.tape
  output : w'.output = w.output
  size : w.heap.size ≤ w'.heap.size
  block : ∀ b, b < w.heap.size → ¬ X b → w'.heap[b]? = w.heap[b]?
section
variable {a b c w w' : World} {X Y : Nat → Prop}
theorem Fr.of_moved {R : Nat} (h : Moved w w' R) : Fr w w' (· = R) := ⟨h.os, h.tape, h.output, h.size, fun j hj hn => h.block j hj (fun e => hn (by injection e))⟩
theorem Fr.of_grown {row : Option Nat} (h : w.grownBy w' row) : Fr w w' (fun j => row = some j) := ⟨h.os, h.tape, h.output, h.size, fun j hj hn => h.block j hj (fun e => hn e.symm)⟩
theorem Fr.of_below (h : Below w.heap.size w w') : Fr w w' X := ⟨h.os, h.tape, h.output, h.size, fun j hj _ => h.block j hj⟩
theorem Fr.trans (h : Fr a b X) (k : Fr b c X) : Fr a c X := ⟨k.os.trans h.os, k.tape.trans h.tape, k.output.trans h.output, Nat.le_trans h.size k.size, fun j hj hn => (k.block j (Nat.lt_of_lt_of_le hj h.size) hn).trans (h.block j hj hn)⟩
theorem Fr.mono (h : Fr a b X) (hX : ∀ j, j < a.heap.size → X j → Y j) : Fr a b Y := ⟨h.os, h.tape, h.output, h.size, fun j hj hn => h.block j hj (fun hx => hn (hX j hj hx))⟩
/-- what comes behind may touch what is new, too -/
theorem Fr.next (h : Fr a b X) (k : Fr b c Y) (hY : ∀ j, j < a.heap.size → Y j → X j) : Fr a c X := ⟨k.os.trans h.os, k.tape.trans h.tape, k.output.trans h.output, Nat.le_trans h.size k.size, fun j hj hn => (k.block j (Nat.lt_of_lt_of_le hj h.size) (fun hy => hn (hY j hj hy))).trans (h.block j hj hn)⟩
theorem Fr.alloc (h : Fr a b X) (o : Obj) : Fr a (b.alloc o) X := h.trans (.of_below ((Below.refl _ _).alloc (Nat.le_refl _) o))
theorem Fr.drew (h : Fr a b X) : Fr a b.drew X := ⟨h.os, h.tape, h.output, h.size, h.block⟩
theorem Fr.set (h : Fr a b X) (p : Addr) (u : Value) (hp : p.block < a.heap.size → X p.block) : Fr a (b.setCell p u) X :=
  ⟨h.os, h.tape, h.output, by simpa [World.setCell] using h.size, fun j hj hn => (Below.heap_setCell b p u j (fun e => hn (e ▸ hp (e ▸ hj)))).trans (h.block j hj hn)⟩
theorem Fr.below {B : Nat} (h : Fr a b X) (hX : ∀ j, j < a.heap.size → X j → B ≤ j) (hB : B ≤ a.heap.size) : Below B a b := ⟨h.os, h.tape, h.output, h.size, fun j hj => h.block j (by omega) (fun hx => by have := hX j (by omega) hx; omega)⟩
theorem ownsRow_fr {base size n : Nat} {e : TypeId} {v : Value} {xs : List Value} (h : w.ownsRow base e size v n xs) (hf : Fr w w' X) (hx : ∀ g, v.ownBlock = some g → ¬ X g) : w'.ownsRow base e size v n xs := by
  have hl := h.lt
  obtain ⟨h1, h2⟩ := h
  refine ⟨h1, h2.imp id ?_⟩
  rintro ⟨g, cap, cur, rfl, hg, hh, r⟩
  exact ⟨g, cap, cur, rfl, hg, (hf.block g (hl g rfl).2 (hx g rfl)).trans hh, r⟩
theorem One.fr {j : Nat} {t : TypeId} {v : Value} (h : One w j t v) (hf : Fr w w' X) (hx : ¬ X j) : One w' j t v := (hf.block j h.lt hx).trans h
theorem Two.fr {j : Nat} {t : TypeId} {u v : Value} (h : Two w j t u v) (hf : Fr w w' X) (hx : ¬ X j) : Two w' j t u v := (hf.block j h.lt hx).trans h
theorem CU.fr {R k : Nat} {T : TV} {v1 v2 v3 v4 v5 : Value} (h : CU w R T k v1 v2 v3 v4 v5) (hf : Fr w w' X) (hx : ∀ j, X j → R < j) : CU w' R T k v1 v2 v3 v4 v5 := by
  have hlt := h.lt
  obtain ⟨h1, h2, h3⟩ := h
  refine ⟨(hf.block R hlt (fun e => by have := hx R e; omega)).trans h1, h2.keep fun p hp => World.cell?_of_block (hf.block p.block (by omega) (fun e => by have := hx _ e; omega)), h3⟩
theorem One.drew {j : Nat} {t : TypeId} {v : Value} (h : One w j t v) : One w.drew j t v := h
theorem MapIs.fr {M : Nat} {kd : TypeDesc} {l : List (Value × Value)} (h : MapIs w M kd l) (hf : Fr w w' X) (hx : ¬ X M) : MapIs w' M kd l := h.at_ (hf.block M h.lt hx)
theorem FT.lt {t : TypeId} {kd : TypeDesc} {A M : Nat} {keys : List Value} (h : FT w t kd A M keys) : A < w.heap.size := (Array.getElem?_eq_some_iff.1 h.1).1
theorem FT.fr {t : TypeId} {kd : TypeDesc} {A M : Nat} {keys : List Value} (h : FT w t kd A M keys) (hf : Fr w w' X) (hA : ¬ X A) (hM : ¬ X M) : FT w' t kd A M keys := h.next (hf.block A h.lt hA) (hf.block M h.2.lt hM)
end
/-- a reader's own cells -/
theorem CU.one {w : World} {R k : Nat} {T : TV} {v1 v2 v3 v4 v5 : Value} (h : CU w R T k v1 v2 v3 v4 v5) (i : Nat) : w.frozen? ⟨R, i, none⟩ = false := by simp [World.frozen?, h.1]
theorem set_row {w : World} {R i : Nat} {l : List Value} {t : TypeId} (h : w.heap[R]? = some (.cells l.toArray t (0, 0))) (u : Value) : (w.setCell ⟨R, i, none⟩ u).heap[R]? = some (.cells (l.set i u).toArray t (0, 0)) := by
  obtain ⟨hlt, hk⟩ := Array.getElem?_eq_some_iff.1 h
  show (w.heap.modify R _)[R]? = _
  rw [Array.getElem?_eq_getElem (by rw [Array.size_modify]; exact hlt), Array.getElem_modify_self, hk]
  simp
theorem TI.fr_set {w : World} {R k : Nat} {T : TV} {v1 v2 v3 v4 v5 : Value} (h : CU w R T k v1 v2 v3 v4 v5) (i : Nat) (u : Value) : TI (w.setCell ⟨R, i, none⟩ u) R T.A T.n T.ts :=
  h.2.1.keep fun p hp => World.cell?_of_block (Below.heap_setCell w ⟨R, i, none⟩ u p.block (by show p.block ≠ R; omega))
theorem CU.set1 {w : World} {R k : Nat} {T : TV} {v1 v2 v3 v4 v5 : Value} (h : CU w R T k v1 v2 v3 v4 v5) (u : Value) : CU (w.setCell ⟨R, 2, none⟩ u) R T k u v2 v3 v4 v5 := ⟨set_row (i := 2) (l := [_, _, _, _, _, _, _]) h.1 u, TI.fr_set h 2 u, h.2.2⟩
theorem CU.set2 {w : World} {R k : Nat} {T : TV} {v1 v2 v3 v4 v5 : Value} (h : CU w R T k v1 v2 v3 v4 v5) (u : Value) : CU (w.setCell ⟨R, 3, none⟩ u) R T k v1 u v3 v4 v5 := ⟨set_row (i := 3) (l := [_, _, _, _, _, _, _]) h.1 u, TI.fr_set h 3 u, h.2.2⟩
theorem CU.set3 {w : World} {R k : Nat} {T : TV} {v1 v2 v3 v4 v5 : Value} (h : CU w R T k v1 v2 v3 v4 v5) (u : Value) : CU (w.setCell ⟨R, 4, none⟩ u) R T k v1 v2 u v4 v5 := ⟨set_row (i := 4) (l := [_, _, _, _, _, _, _]) h.1 u, TI.fr_set h 4 u, h.2.2⟩
theorem CU.set4 {w : World} {R k : Nat} {T : TV} {v1 v2 v3 v4 v5 : Value} (h : CU w R T k v1 v2 v3 v4 v5) (u : Value) : CU (w.setCell ⟨R, 5, none⟩ u) R T k v1 v2 v3 u v5 := ⟨set_row (i := 5) (l := [_, _, _, _, _, _, _]) h.1 u, TI.fr_set h 5 u, h.2.2⟩

/-- the cells of a row of classes: names, and slices of ranges -/
def clsC (cs : List Cls) (vs : List Value) : List Value := (cs.zip vs).flatMap fun x => [.string (str x.1.name), x.2]
theorem clsC_snoc {cs : List Cls} {vs : List Value} (h : vs.length = cs.length) (c : Cls) (v : Value) : clsC (cs ++ [c]) (vs ++ [v]) = clsC cs vs ++ [.string (str c.name), v] := by
  unfold clsC
  rw [List.zip_append h.symm]
  simp
theorem clsC_len {cs : List Cls} {vs : List Value} (h : vs.length = cs.length) : (clsC cs vs).length = cs.length * 2 := by
  induction cs generalizing vs with
  | nil => simp [clsC]
  | cons c r ih =>
    cases vs with
    | nil => simp at h
    | cons v vs =>
      have := ih (vs := vs) (by simpa using h)
      simp [clsC] at this ⊢
      omega
/-- v is a row of these classes -/
def ClsAt (w : World) (lo : Nat) (v : Value) (cs : List Cls) : Prop :=
  ∃ vs : List Value, vs.length = cs.length ∧ w.ownsRow lo 47 2 v cs.length (clsC cs vs) ∧ ∀ (i : Nat) (c : Cls) (x : Value), cs[i]? = some c → vs[i]? = some x → w.ownsRow lo 51 2 x c.rs.length (prsC c.rs)
theorem ClsAt.nil (w : World) (lo : Nat) : ClsAt w lo (.slice none 0 0) [] := ⟨[], rfl, ⟨rfl, .inl ⟨rfl, rfl⟩⟩, by simp⟩
/-- no range lies in a row of classes -/
def Apt (v : Value) (t : TypeId) (w : World) (X : Nat → Prop) : Prop := ∀ g c z, X g → w.heap[g]? = some (.cells c t z) → v.ownBlock = some g
theorem ownsRow_ty {w : World} {base size n : Nat} {e : TypeId} {v : Value} {xs : List Value} (h : w.ownsRow base e size v n xs) {g : Nat} (hg : v.ownBlock = some g) : ∃ c, w.heap[g]? = some (.cells c e (0, 0)) := by
  rcases h.2 with ⟨rfl, _⟩ | ⟨g', cap, cur, rfl, _, hh, _⟩
  · cases hg
  · injection hg with hg
    subst hg
    exact ⟨cur, hh⟩
theorem ClsAt.fr {w w' : World} {X : Nat → Prop} {lo : Nat} {v : Value} {cs : List Cls} (h : ClsAt w lo v cs) (hf : Fr w w' X) (hx : ∀ g c z t, X g → w.heap[g]? = some (.cells c t z) → t ≠ 47 ∧ t ≠ 51) : ClsAt w' lo v cs := by
  obtain ⟨vs, h1, h2, h3⟩ := h
  refine ⟨vs, h1, ownsRow_fr h2 hf ?_, fun i c x hc hv => ownsRow_fr (h3 i c x hc hv) hf ?_⟩
  · intro g hg hX
    obtain ⟨c, hc⟩ := ownsRow_ty h2 hg
    exact (hx g _ _ _ hX hc).1 rfl
  · intro g hg hX
    obtain ⟨c, hc⟩ := ownsRow_ty (h3 i c x hc hv) hg
    exact (hx g _ _ _ hX hc).2 rfl
theorem ClsAt.frR {w w' : World} {R k : Nat} {T : TV} {v1 v2 v3 v4 v5 : Value} {lo : Nat} {v : Value} {cs : List Cls} (h : ClsAt w lo v cs) (hc : CU w R T k v1 v2 v3 v4 v5) (hf : Fr w w' (· = R)) : ClsAt w' lo v cs := h.fr hf (by
  rintro g c z t rfl hg
  rw [hc.1] at hg
  simp at hg
  obtain ⟨-, rfl, -⟩ := hg
  decide)
theorem ClsAt.frM {w w' : World} {M : Nat} {kd : TypeDesc} {l : List (Value × Value)} {lo : Nat} {v : Value} {cs : List Cls} (h : ClsAt w lo v cs) (hm : MapIs w M kd l) (hf : Fr w w' (· = M)) : ClsAt w' lo v cs := h.fr hf (by
  rintro g c z t rfl hg
  obtain ⟨es, q, h1, _⟩ := hm
  rw [h1] at hg
  cases hg)
theorem ClsAt.next {w w' : World} {lo : Nat} {v : Value} {cs : List Cls} (h : ClsAt w lo v cs) (hb : Below w.heap.size w w') : ClsAt w' lo v cs := h.fr (X := fun _ => False) (.of_below hb) (by rintro _ _ _ _ ⟨⟩)
/-- one class more -/
theorem ClsAt.snoc {w w' : World} {lo g cap : Nat} {v x : Value} {cs : List Cls} {vs : List Value} (c : Cls) (h1 : vs.length = cs.length) (h2 : w.ownsRow lo 47 2 v cs.length (clsC cs vs)) (h3 : ∀ (i : Nat) (c : Cls) (x : Value), cs[i]? = some c → vs[i]? = some x → w.ownsRow lo 51 2 x c.rs.length (prsC c.rs))
    (hx : w.ownsRow lo 51 2 x c.rs.length (prsC c.rs))
    (hg : w.grownBy w' v.ownBlock) (ho : w'.ownsRow lo 47 2 (.slice (some ⟨g, 0, none⟩) (cs.length + 1) cap) (cs.length + 1) (clsC cs vs ++ [.string (str c.name), x])) :
    ClsAt w' lo (.slice (some ⟨g, 0, none⟩) (cs.length + 1) cap) (cs ++ [c]) := by
  have key : ∀ {n : Nat} {u : Value} {xs : List Value}, w.ownsRow lo 51 2 u n xs → w'.ownsRow lo 51 2 u n xs := fun hu => hu.kept hg (by
    rcases hb : (Value.ownBlock _) with _ | g1
    · exact .inl rfl
    · refine .inr fun e => ?_
      obtain ⟨c1, hc1⟩ := ownsRow_ty hu hb
      obtain ⟨c2, hc2⟩ := ownsRow_ty h2 e.symm
      rw [hc1] at hc2
      injection hc2 with hc2
      injection hc2 with _ hc2
      cases hc2)
  refine ⟨vs ++ [x], by simp [h1], by rw [clsC_snoc h1, List.length_append]; exact ho, ?_⟩
  intro i d y hd hy
  rcases Nat.lt_or_ge i cs.length with hi | hi
  · rw [List.getElem?_append_left hi] at hd
    rw [List.getElem?_append_left (by omega)] at hy
    exact key (h3 i d y hd hy)
  · rw [List.getElem?_append_right hi] at hd
    rw [List.getElem?_append_right (by omega), h1] at hy
    have e0 : i - cs.length = 0 := by
      rcases hq : i - cs.length with _ | q
      · rfl
      · rw [hq] at hd
        simp at hd
    rw [e0] at hd hy
    simp at hd hy
    subst hd hy
    exact key hx
end Go.Proofs.YthaibekbefndlaaGreatDoor.C

namespace Go.Proofs.YthaibekbefndlaaGreatDoor.C
open Go.RowKit

/-- a class' line, over the classes alone -/
def clsL (cs : List Cls) (ts : List Tok) : Re (List Cls) :=
  match takeK [1] ts with
  | .error e => .error e
  | .ok (n, r) => if n.t ∈ cs.map Cls.name then .error (32, n.at_) else
    match itemsL rangeL (r.length + 1) [] r with
    | .error e => .error e
    | .ok (rs, r') => .ok (cs ++ [⟨n.t, rs⟩], r')
theorem classL_cls (s : Sta) (ts : List Tok) : classL s ts = match clsL s.l.cls ts with
  | .error e => .error e
  | .ok (cs, r) => .ok ({ s with l := { s.l with cls := cs } }, r) := by
  unfold classL clsL
  cases takeK [1] ts with
  | error e => rfl
  | ok y =>
    obtain ⟨n, r⟩ := y
    simp only
    by_cases hn : n.t ∈ List.map Cls.name s.l.cls
    · rw [if_pos hn, if_pos hn]
    · rw [if_neg hn, if_neg hn]
      cases itemsL rangeL (r.length + 1) [] r <;> rfl
theorem rangeL_len {rs rs' : List (Int × Int)} {ts r : List Tok} (h : rangeL rs ts = .ok (rs', r)) : rs'.length = rs.length + 1 := by
  rw [rangeL_scal] at h
  cases hs : scalL ts with
  | error e => rw [hs] at h; cases h
  | ok y =>
    obtain ⟨x, r1⟩ := y
    rw [hs] at h
    simp at h
    obtain ⟨rfl, rfl⟩ := h
    simp
theorem drop_more {T : TV} {k k' : Nat} (h : (T.ts.drop k').length < (T.ts.drop k).length) : k < k' := by
  rw [List.length_drop, List.length_drop] at h
  omega
/-- the keys asked so far -/
def namesV (cs : List Cls) : List Value := cs.map fun c => .string (str c.name)
theorem names_in {cs : List Cls} {n : List UInt8} : Value.string (str n) ∈ namesV cs ↔ n ∈ cs.map Cls.name := by
  unfold namesV
  rw [List.mem_map, List.mem_map]
  constructor
  · rintro ⟨c, hc, he⟩
    injection he with he
    exact ⟨c, hc, str_inj he⟩
  · rintro ⟨c, hc, he⟩
    exact ⟨c, hc, by rw [he]⟩

section
variable (w : World) (R : Nat) (T : TV) (k : Nat) (v1 v2 v3 v4 v5 : Value) (Rb : Nat) (nm : Value)
theorem clsItems (hc : CU w R T k v1 v2 v3 v4 v5) (hone : One w Rb 88 (.pointer (some ⟨R, 0, none⟩))) (hN : NumOk T) (hE : Ended (T.ts.drop k)) (hRR : Rb ≠ R) :
    Calls Tryz.prog 122 #[.pointer (some ⟨R, 0, none⟩), .func (.func 123) #[] #[.pointer (some ⟨w.heap.size, 0, none⟩), .pointer (some ⟨Rb, 0, none⟩)]] (w.alloc (.cells #[nm, .slice none 0 0] 47))
      (ItTold T (fun rs k' w' => RgI w R T v1 v2 v3 v4 v5 w.heap.size Rb nm rs k' w' ∧ rs.length ≤ k') (fun w' => Moved w w' R) (itemsL rangeL ((T.ts.drop k).length + 1) [] (T.ts.drop k))) := by
  have hR := hc.lt
  have hb := hone.lt
  refine itemsRange_any rangeL _ R T k w.heap.size Rb [] (T.ts.drop k).length _ _ (fun s s' ts r hE h => rangeL_left hE h) ?_ ?_ ?_ ?_ ?_ hE (Nat.le_refl _)
  · intro s k W h
    exact ⟨_, _, _, _, _, h.1.1⟩
  · intro s k W W' h hn hm
    exact ⟨h.1.go (hn _ _ _ _ _ h.1.1) hm (by omega) hRR, by have := h.2; omega⟩
  · intro s k W W' h hb'
    exact ⟨h.1.below hb' (by omega) hRR, h.2⟩
  · intro s k W h hE'
    have hk := h.1.1.2.2
    have := rangeItem_any w R T v1 v2 v3 v4 v5 w.heap.size Rb nm W s k h.1 hN hE' (Nat.le_refl _) hb hRR hR (by have := h.2; omega)
    refine this.mono ?_
    intro e w' he
    cases hr : rangeL s (T.ts.drop k) with
    | error er => rw [hr] at he; exact he
    | ok y =>
      obtain ⟨rs', r'⟩ := y
      rw [hr] at he
      obtain ⟨k', h1, h2, h3⟩ := he
      refine ⟨k', h1, ⟨h2, ?_⟩, h3⟩
      have h4 := rangeL_len hr
      have h5 := (rangeL_left hE' hr).2.1
      rw [← h3] at h5
      have := drop_more h5
      have := h.2
      omega
  · exact ⟨⟨hc.alloc _, ⟨_, Two.new w _ _ _, rfl, .inl ⟨rfl, rfl⟩⟩, hone.alloc _, (Moved.refl w R).alloc _⟩, Nat.zero_le _⟩
end

/-- what a class' line answers -/
def ClTold (w : World) (lo R : Nat) (T : TV) (v1 v2 v3 v4 v5 : Value) (A M : Nat) : Re (List Cls) → Ending → World → Prop
  | .ok (cs, r), e, w' => ∃ k u1, e = .returned (.tuple #[]) ∧ CU w' R T k u1 v2 v3 v4 v5 ∧ T.ts.drop k = r ∧ ClsAt w' lo u1 cs ∧ FT w' 151 .string A M (namesV cs) ∧ Fr w w' (fun j => j = R ∨ j = M ∨ v1.ownBlock = some j)
  | .error er, e, w' => e = .panicked (faultV er.1 er.2) ∧ Fr w w' (fun j => j = R ∨ j = M ∨ v1.ownBlock = some j)
theorem infoClass : (Tryz.prog.info? 47).map (fun i => (i.zero, i.size, i.bytes)) = some (some (.agg #[.string (str []), .slice none 0 0]), 2, 40) := by kernel_rfl
end Go.Proofs.YthaibekbefndlaaGreatDoor.C
