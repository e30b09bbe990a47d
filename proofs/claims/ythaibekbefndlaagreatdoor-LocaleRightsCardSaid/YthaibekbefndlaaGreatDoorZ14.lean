/-
  Joined: LcI, LcJ, LcK, LcN, LdA. Each with what its own head says.
-/
import Derived.Test.YthaibekbefndlaaGreatDoorZ12
import Derived.Test.YthaibekbefndlaaGreatDoorZ07

namespace Go.Proofs.YthaibekbefndlaaGreatDoor.C
open Go.RowKit

theorem pair_new (w : World) (k : Nat) (a b : Value) (t : TypeId) (hk : w.heap.size = k) : ∀ j u, [a, b][j]? = some u → (w.alloc (.cells #[a, b] t)).cell? ((⟨k, 0, none⟩ : Addr).add j) = some u := by
 subst hk
 intro j u hu
 rw [add_plain, Nat.zero_add, World.cell?_alloc_new]
 simpa using hu
theorem infoRange : (Tryz.prog.info? 51).map (fun i => (i.zero, i.size, i.bytes)) = some (some (.agg #[.int .i32 0, .int .i32 0]), 2, 8) := by kernel_rfl
def prsC (l : List (Int × Int)) : List Value := l.flatMap fun x => [.int .i32 x.1, .int .i32 x.2]
theorem prsC_snoc (l : List (Int × Int)) (x : Int × Int) : prsC (l ++ [x]) = prsC l ++ [.int .i32 x.1, .int .i32 x.2] := by simp [prsC]
def One (w : World) (b : Nat) (t : TypeId) (v : Value) : Prop := w.heap[b]? = some (.cells #[v] t (0, 0))
theorem One.cell {w : World} {b : Nat} {t : TypeId} {v : Value} (h : One w b t v) : w.cell? ⟨b, 0, none⟩ = some v := by simp [World.cell?, show w.heap[b]? = _ from h]
theorem One.lt {w : World} {b : Nat} {t : TypeId} {v : Value} (h : One w b t v) : b < w.heap.size := (Array.getElem?_eq_some_iff.1 h).1
theorem One.kept {w w' : World} {row : Option Nat} {b : Nat} {t : TypeId} {v : Value} (h : One w b t v) (hg : w.grownBy w' row) (hne : some b ≠ row) : One w' b t v := (hg.block b h.lt hne).trans h
theorem One.alloc {w : World} {b : Nat} {t : TypeId} {v : Value} (h : One w b t v) (o : Obj) : One (w.alloc o) b t v := (Below.heap_alloc w o b h.lt).trans h
theorem One.far {w : World} {b : Nat} {t : TypeId} {v : Value} (h : One w b t v) {p : Addr} (hp : b ≠ p.block) (u : Value) : One (w.setCell p u) b t v := (Below.heap_setCell w p u b hp).trans h
theorem Two.kept {w w' : World} {row : Option Nat} {b : Nat} {t : TypeId} {u v : Value} (h : Two w b t u v) (hg : w.grownBy w' row) (hne : some b ≠ row) : Two w' b t u v := (hg.block b h.lt hne).trans h
theorem CU.kept {w w' : World} {row : Option Nat} {R k : Nat} {T : TV} {v1 v2 v3 v4 v5 : Value} (h : CU w R T k v1 v2 v3 v4 v5) (hg : w.grownBy w' row) (hr : ∀ g, row = some g → R < g) : CU w' R T k v1 v2 v3 v4 v5 := by
 have hlt := h.lt
 obtain ⟨h1, h2, h3⟩ := h
 refine ⟨(hg.block R hlt (fun e => by have := hr R e.symm; omega)).trans h1, h2.keep fun p hp => World.cell?_of_block (hg.block p.block (by omega) (fun e => by have := hr _ e.symm; omega)), h3⟩
theorem Moved.kept {a w w' : World} {R : Nat} {row : Option Nat} (h : Moved a w R) (hg : w.grownBy w' row) (hr : ∀ g, row = some g → a.heap.size ≤ g) : Moved a w' R :=
 ⟨hg.os.trans h.os, hg.tape.trans h.tape, hg.output.trans h.output, Nat.le_trans h.size hg.size, fun j hj hne => (hg.block j (Nat.lt_of_lt_of_le hj h.size) (fun e => by have := hr j e.symm; omega)).trans (h.block j hj hne)⟩

def RgI (w0 : World) (R : Nat) (T : TV) (v1 v2 v3 v4 v5 : Value) (C Rb : Nat) (nm : Value) (rs : List (Int × Int)) (k : Nat) (w : World) : Prop :=
 CU w R T k v1 v2 v3 v4 v5 ∧ (∃ v, Two w C 47 nm v ∧ w.ownsRow w0.heap.size 51 2 v rs.length (prsC rs)) ∧ One w Rb 88 (.pointer (some ⟨R, 0, none⟩)) ∧ Moved w0 w R
section
variable (w0 : World) (R : Nat) (T : TV) (v1 v2 v3 v4 v5 : Value) (C Rb : Nat) (nm : Value)
theorem RgI.go {w0 : World} {R : Nat} {T : TV} {v1 v2 v3 v4 v5 : Value} {C Rb : Nat} {nm : Value} {rs : List (Int × Int)} {k k' : Nat} {W W' : World} (h : RgI w0 R T v1 v2 v3 v4 v5 C Rb nm rs k W) (hc : CU W' R T k' v1 v2 v3 v4 v5) (hm : Moved W W' R) (hC : C ≠ R) (hRb : Rb ≠ R) : RgI w0 R T v1 v2 v3 v4 v5 C Rb nm rs k' W' := by
 obtain ⟨h1, ⟨v, h2, h3⟩, h4, h5⟩ := h
 refine ⟨hc, ⟨v, h2.moved hm hC, h3.kept hm (.inr ?_)⟩, h4.kept hm (by simpa using hRb), h5.trans hm⟩
 exact fun e => row_ne h3 h1.1 (by decide) e
theorem RgI.below {w0 : World} {R : Nat} {T : TV} {v1 v2 v3 v4 v5 : Value} {C Rb : Nat} {nm : Value} {rs : List (Int × Int)} {k : Nat} {W W' : World} (h : RgI w0 R T v1 v2 v3 v4 v5 C Rb nm rs k W) (hb : Below W.heap.size W W') (hC : C ≠ R) (hRb : Rb ≠ R) : RgI w0 R T v1 v2 v3 v4 v5 C Rb nm rs k W' := h.go (h.1.next hb) (.of_below hb) hC hRb

theorem Two.set1 {w : World} {b : Nat} {t : TypeId} {u v : Value} (h : Two w b t u v) (x : Value) : Two (w.setCell ⟨b, 1, none⟩ x) b t u x := by
 obtain ⟨hlt, hk⟩ := Array.getElem?_eq_some_iff.1 h
 show (w.heap.modify b _)[b]? = _
 rw [Array.getElem?_eq_getElem (by rw [Array.size_modify]; exact hlt), Array.getElem_modify_self, hk]
 rfl
theorem rg_done {w0 w1 w2 : World} {R k1 C Rb g cap : Nat} {T : TV} {v1 v2 v3 v4 v5 nm v : Value} (rs : List (Int × Int)) (x : Int × Int) {o : Obj} (hc : CU w1 R T k1 v1 v2 v3 v4 v5) (ho1 : w1.ownsRow w0.heap.size 51 2 v rs.length (prsC rs))
  (hv : Two w2 C 47 nm v) (hone : One w2 Rb 88 (.pointer (some ⟨R, 0, none⟩))) (ho : w2.ownsRow w0.heap.size 51 2 (.slice (some ⟨g, 0, none⟩) (rs.length + 1) cap) (rs.length + 1) (prsC rs ++ [.int .i32 x.1, .int .i32 x.2]))
  (hg : (w1.alloc o).grownBy w2 v.ownBlock) (hm : Moved w0 w1 R) (hC : w0.heap.size ≤ C) (hRb : Rb < w0.heap.size) (hR : R < w0.heap.size) :
  RgI w0 R T v1 v2 v3 v4 v5 C Rb nm (rs ++ [x]) k1 (w2.setCell ⟨C, 1, none⟩ (.slice (some ⟨g, 0, none⟩) (rs.length + 1) cap)) := by
 have hrow : ∀ b, v.ownBlock = some b → w0.heap.size ≤ b := fun b e => (ho1.lt b e).1
 refine ⟨((hc.alloc o).kept hg (fun b e => by have := hrow b e; omega)).far (p := ⟨C, 1, none⟩) (by show R < C; omega) _, ⟨_, hv.set1 _, ?_⟩, hone.far (p := ⟨C, 1, none⟩) (by show Rb ≠ C; omega) _, ((hm.alloc o).kept hg hrow).fresh (p := ⟨C, 1, none⟩) hC _⟩
 have hne := row_ne ho hv (by decide)
 have := ho.kept (Lib.grownBy_setCell w2 C 1 (.slice (some ⟨g, 0, none⟩) (rs.length + 1) cap)) (.inr hne)
 rw [List.length_append, prsC_snoc]
 exact this

set_option maxRecDepth 100000 in
set_option maxHeartbeats 4000000 in
theorem rangeItem_any (w : World) (rs : List (Int × Int)) (k : Nat) (h : RgI w0 R T v1 v2 v3 v4 v5 C Rb nm rs k w) (hN : NumOk T) (hE : Ended (T.ts.drop k)) (hC : w0.heap.size ≤ C) (hRb : Rb < w0.heap.size) (hRR : Rb ≠ R) (hR : R < w0.heap.size) (hrs : rs.length ≤ 2000) :
  Calls Tryz.prog 123 #[.pointer (some ⟨C, 0, none⟩), .pointer (some ⟨Rb, 0, none⟩)] w (ItTold T (RgI w0 R T v1 v2 v3 v4 v5 C Rb nm) (fun w' => Moved w0 w' R) (rangeL rs (T.ts.drop k))) := by
 have H := Lib.hid h
 obtain ⟨hcu, ⟨v, hv, hown⟩, hone, hmv⟩ := h
 obtain ⟨_, q1⟩ := hv.cells
 have q2 := hone.cell
 have hsc := fun W hc => scalars_any W R T k v1 v2 v3 v4 v5 hc hN hE
 have HSC := Lib.hid hsc
 have HCU := Lib.hid hcu
 rw [rangeL_scal]
 cases hs : scalL (T.ts.drop k) with
 | error er =>
  have hsc2 : ∀ W, CU W R T k v1 v2 v3 v4 v5 → Calls Tryz.prog 124 #[.pointer (some ⟨R, 0, none⟩)] W (ReTold W R T v1 v2 v3 v4 v5 pairV (.error er)) := fun W hc => by have := HSC.out W hc; rwa [hs] at this
  have HSC2 := Lib.hid hsc2
  have HMV := Lib.hid hmv
  clear hsc hv hown hone hcu hs hmv hsc2
  simp only
  go_enter Tryz.func123, Tryz.ntmps123
  go_wp2
  go_region_with ((go_at_call 124; refine (HSC2.out _ HCU.out.drew).mono ?_; rintro e w4 ⟨rfl, hm4⟩; (suffices _hh : wpAny Tryz.prog .any #[] (fun _ _ _ => True) 0 #[] ⟨#[], []⟩ w4 from ⟨rfl, rfl, HMV.out.drew.trans hm4⟩)))
  all_goals exact True.intro
 | ok y =>
  obtain ⟨x, r⟩ := y
  have hsc2 : Calls Tryz.prog 124 #[.pointer (some ⟨R, 0, none⟩)] w.drew (ReTold w.drew R T v1 v2 v3 v4 v5 pairV (.ok (x, r))) := by have := HSC.out w.drew hcu.drew; rwa [hs] at this
  have HV : Hid (Two w.drew C 47 nm v) := Lib.hid hv
  have HOWN : Hid (w.drew.ownsRow w0.heap.size 51 2 v rs.length (prsC rs)) := Lib.hid hown
  have HONE : Hid (One w.drew Rb 88 (.pointer (some ⟨R, 0, none⟩))) := Lib.hid hone
  have hCR : C ≠ R := by omega
  have hRR' : some Rb ≠ some R := by simpa using hRR
  have HNE := Lib.hid (row_ne hown hcu.1 (by decide))
  have HNC := Lib.hid (row_ne hown hv (by decide)).symm
  have HNR := Lib.hid (row_ne hown hone (by decide)).symm
  have hsz := hmv.size
  have HMV := Lib.hid hmv
  clear hsc hv hown hone hcu hs hmv
  simp only
  obtain ⟨i0, hi, hz0, hz1, hz2⟩ := info_parts infoRange
  go_enter Tryz.func123, Tryz.ntmps123
  go_wp2
  go_region_law
   ((first
    | (go_simp; go_at_call 124; refine hsc2.mono ?_; rintro e w1 ⟨k1, rfl, hc1, hr1, hm1⟩; (have HV1 := Lib.hid (HV.out.moved hm1 hCR)); (have p1 := HV1.out.cells.2); (have HONE1 := Lib.hid (HONE.out.kept hm1 hRR')); (have p2 := HONE1.out.cell); (have hlC := HV1.out.lt); (have hlR := HONE1.out.lt); (have hs1 := hm1.size); (have hs1' : w0.heap.size ≤ w1.heap.size := by have := hs1; simp at this; omega); (have HOWN1 := Lib.hid (HOWN.out.kept hm1 (.inr HNE.out))); (have HC1 := Lib.hid hc1); (have HR1 := Lib.hid hr1); (have HM1 := Lib.hid hm1); clear hc1 hr1 hm1; unfold pairV; go_simp)
    | (refine step_append_lies _ (by rfl) _ _ _ (by rfl) w0.heap.size 51 i0 (.agg #[.int .i32 0, .int .i32 0]) 2 8 Tryz.underlying45 hi hz0 hz1 hz2 rfl (by decide) v rs.length (prsC rs) (by rfl) (HOWN1.out.alloc _) ⟨w1.heap.size, 0, none⟩ 1 1 [.int .i32 x.1, .int .i32 x.2] (by rfl) (by rfl) (pair_new _ _ _ _ _ (by simp)) (by intro u hu; simp at hu; rcases hu with rfl | rfl <;> rfl) (by omega) (by unfold maxLen; omega) (by omega) (by simp; omega) (w1.heap.size + 1) (by simp) ?_; intro g cap w2 hown2 hgrow hat hlt2; (have HV2 := Lib.hid ((HV1.out.alloc (.cells #[.int .i32 x.1, .int .i32 x.2] 51)).kept hgrow HNC.out)); (have HONE2 := Lib.hid ((HONE1.out.alloc (.cells #[.int .i32 x.1, .int .i32 x.2] 51)).kept hgrow HNR.out)); (have p3 := HV2.out.cells.2); (have p4 := HONE2.out.cell); (have p5 := HV2.out.frozen 1); (have HOWN2 := Lib.hid hown2); (have HGR := Lib.hid hgrow); (have HAT := Lib.hid hat); clear hown2 hgrow hat)))
  all_goals
   go_end0
   exact ⟨k1, rfl, rg_done rs x HC1.out HOWN1.out HV2.out HONE2.out HOWN2.out HGR.out (HMV.out.drew.trans HM1.out) hC hRb hR, HR1.out⟩
end
end Go.Proofs.YthaibekbefndlaaGreatDoor.C

namespace Go.Proofs.YthaibekbefndlaaGreatDoor.C
open Go.RowKit

structure Fr (w w' : World) (X : Nat → Prop) : Prop where
 os : w'.os = w.os
 tape : w'.tape = w.tape
 output : w'.output = w.output
 size : w.heap.size ≤ w'.heap.size
 block : ∀ b, b < w.heap.size → ¬ X b → w'.heap[b]? = w.heap[b]?
section
variable {a b c w w' : World} {X Y : Nat → Prop}
theorem Fr.of_moved {R : Nat} (h : Moved w w' R) : Fr w w' (· = R) := ⟨h.os, h.tape, h.output, h.size, fun j hj hn => h.block j hj (fun e => hn (by injection e))⟩
theorem Fr.of_grown {row : Option Nat} (h : w.grownBy w' row) : Fr w w' (fun j => row = some j) := ⟨h.os, h.tape, h.output, h.size, fun j hj hn => h.block j hj (fun e => hn e.symm)⟩
theorem Fr.of_below (h : Below w.heap.size w w') : Fr w w' X := ⟨h.os, h.tape, h.output, h.size, fun j hj _ => h.block j hj⟩
theorem Fr.trans (h : Fr a b X) (k : Fr b c X) : Fr a c X := ⟨k.os.trans h.os, k.tape.trans h.tape, k.output.trans h.output, Nat.le_trans h.size k.size, fun j hj hn => (k.block j (Nat.lt_of_lt_of_le hj h.size) hn).trans (h.block j hj hn)⟩
theorem Fr.mono (h : Fr a b X) (hX : ∀ j, j < a.heap.size → X j → Y j) : Fr a b Y := ⟨h.os, h.tape, h.output, h.size, fun j hj hn => h.block j hj (fun hx => hn (hX j hj hx))⟩
theorem Fr.next (h : Fr a b X) (k : Fr b c Y) (hY : ∀ j, j < a.heap.size → Y j → X j) : Fr a c X := ⟨k.os.trans h.os, k.tape.trans h.tape, k.output.trans h.output, Nat.le_trans h.size k.size, fun j hj hn => (k.block j (Nat.lt_of_lt_of_le hj h.size) (fun hy => hn (hY j hj hy))).trans (h.block j hj hn)⟩
theorem Fr.alloc (h : Fr a b X) (o : Obj) : Fr a (b.alloc o) X := h.trans (.of_below ((Below.refl _ _).alloc (Nat.le_refl _) o))
theorem Fr.drew (h : Fr a b X) : Fr a b.drew X := ⟨h.os, h.tape, h.output, h.size, h.block⟩
theorem Fr.set (h : Fr a b X) (p : Addr) (u : Value) (hp : p.block < a.heap.size → X p.block) : Fr a (b.setCell p u) X :=
 ⟨h.os, h.tape, h.output, by simpa [World.setCell] using h.size, fun j hj hn => (Below.heap_setCell b p u j (fun e => hn (e ▸ hp (e ▸ hj)))).trans (h.block j hj hn)⟩
theorem Fr.below {B : Nat} (h : Fr a b X) (hX : ∀ j, j < a.heap.size → X j → B ≤ j) (hB : B ≤ a.heap.size) : Below B a b := ⟨h.os, h.tape, h.output, h.size, fun j hj => h.block j (by omega) (fun hx => by have := hX j (by omega) hx; omega)⟩
theorem ownsRow_fr {base size n : Nat} {e : TypeId} {v : Value} {xs : List Value} (h : w.ownsRow base e size v n xs) (hf : Fr w w' X) (hx : ∀ g, v.ownBlock = some g → ¬ X g) : w'.ownsRow base e size v n xs := by
 have hl := h.lt
 obtain ⟨h1, h2⟩ := h
 refine ⟨h1, h2.imp id ?_⟩
 rintro ⟨g, cap, cur, rfl, hg, hh, r⟩
 exact ⟨g, cap, cur, rfl, hg, (hf.block g (hl g rfl).2 (hx g rfl)).trans hh, r⟩
theorem One.fr {j : Nat} {t : TypeId} {v : Value} (h : One w j t v) (hf : Fr w w' X) (hx : ¬ X j) : One w' j t v := (hf.block j h.lt hx).trans h
theorem Two.fr {j : Nat} {t : TypeId} {u v : Value} (h : Two w j t u v) (hf : Fr w w' X) (hx : ¬ X j) : Two w' j t u v := (hf.block j h.lt hx).trans h
theorem CU.fr {R k : Nat} {T : TV} {v1 v2 v3 v4 v5 : Value} (h : CU w R T k v1 v2 v3 v4 v5) (hf : Fr w w' X) (hx : ∀ j, X j → R < j) : CU w' R T k v1 v2 v3 v4 v5 := by
 have hlt := h.lt
 obtain ⟨h1, h2, h3⟩ := h
 refine ⟨(hf.block R hlt (fun e => by have := hx R e; omega)).trans h1, h2.keep fun p hp => World.cell?_of_block (hf.block p.block (by omega) (fun e => by have := hx _ e; omega)), h3⟩
theorem One.drew {j : Nat} {t : TypeId} {v : Value} (h : One w j t v) : One w.drew j t v := h
theorem MapIs.fr {M : Nat} {kd : TypeDesc} {l : List (Value × Value)} (h : MapIs w M kd l) (hf : Fr w w' X) (hx : ¬ X M) : MapIs w' M kd l := h.at_ (hf.block M h.lt hx)
theorem FT.lt {t : TypeId} {kd : TypeDesc} {A M : Nat} {keys : List Value} (h : FT w t kd A M keys) : A < w.heap.size := (Array.getElem?_eq_some_iff.1 h.1).1
theorem FT.fr {t : TypeId} {kd : TypeDesc} {A M : Nat} {keys : List Value} (h : FT w t kd A M keys) (hf : Fr w w' X) (hA : ¬ X A) (hM : ¬ X M) : FT w' t kd A M keys := h.next (hf.block A h.lt hA) (hf.block M h.2.lt hM)
end
theorem CU.one {w : World} {R k : Nat} {T : TV} {v1 v2 v3 v4 v5 : Value} (h : CU w R T k v1 v2 v3 v4 v5) (i : Nat) : w.frozen? ⟨R, i, none⟩ = false := by simp [World.frozen?, h.1]
theorem set_row {w : World} {R i : Nat} {l : List Value} {t : TypeId} (h : w.heap[R]? = some (.cells l.toArray t (0, 0))) (u : Value) : (w.setCell ⟨R, i, none⟩ u).heap[R]? = some (.cells (l.set i u).toArray t (0, 0)) := by
 obtain ⟨hlt, hk⟩ := Array.getElem?_eq_some_iff.1 h
 show (w.heap.modify R _)[R]? = _
 rw [Array.getElem?_eq_getElem (by rw [Array.size_modify]; exact hlt), Array.getElem_modify_self, hk]
 simp
theorem TI.fr_set {w : World} {R k : Nat} {T : TV} {v1 v2 v3 v4 v5 : Value} (h : CU w R T k v1 v2 v3 v4 v5) (i : Nat) (u : Value) : TI (w.setCell ⟨R, i, none⟩ u) R T.A T.n T.ts :=
 h.2.1.keep fun p hp => World.cell?_of_block (Below.heap_setCell w ⟨R, i, none⟩ u p.block (by show p.block ≠ R; omega))
theorem CU.set1 {w : World} {R k : Nat} {T : TV} {v1 v2 v3 v4 v5 : Value} (h : CU w R T k v1 v2 v3 v4 v5) (u : Value) : CU (w.setCell ⟨R, 2, none⟩ u) R T k u v2 v3 v4 v5 := ⟨set_row (i := 2) (l := [_, _, _, _, _, _, _]) h.1 u, TI.fr_set h 2 u, h.2.2⟩
theorem CU.set2 {w : World} {R k : Nat} {T : TV} {v1 v2 v3 v4 v5 : Value} (h : CU w R T k v1 v2 v3 v4 v5) (u : Value) : CU (w.setCell ⟨R, 3, none⟩ u) R T k v1 u v3 v4 v5 := ⟨set_row (i := 3) (l := [_, _, _, _, _, _, _]) h.1 u, TI.fr_set h 3 u, h.2.2⟩
theorem CU.set3 {w : World} {R k : Nat} {T : TV} {v1 v2 v3 v4 v5 : Value} (h : CU w R T k v1 v2 v3 v4 v5) (u : Value) : CU (w.setCell ⟨R, 4, none⟩ u) R T k v1 v2 u v4 v5 := ⟨set_row (i := 4) (l := [_, _, _, _, _, _, _]) h.1 u, TI.fr_set h 4 u, h.2.2⟩
def clsC (cs : List Cls) (vs : List Value) : List Value := (cs.zip vs).flatMap fun x => [.string (str x.1.name), x.2]
theorem clsC_snoc {cs : List Cls} {vs : List Value} (h : vs.length = cs.length) (c : Cls) (v : Value) : clsC (cs ++ [c]) (vs ++ [v]) = clsC cs vs ++ [.string (str c.name), v] := by
 unfold clsC
 rw [List.zip_append h.symm]
 simp
def ClsAt (w : World) (lo : Nat) (v : Value) (cs : List Cls) : Prop :=
 ∃ vs : List Value, vs.length = cs.length ∧ w.ownsRow lo 47 2 v cs.length (clsC cs vs) ∧ ∀ (i : Nat) (c : Cls) (x : Value), cs[i]? = some c → vs[i]? = some x → w.ownsRow lo 51 2 x c.rs.length (prsC c.rs)
theorem ClsAt.nil (w : World) (lo : Nat) : ClsAt w lo (.slice none 0 0) [] := ⟨[], rfl, ⟨rfl, .inl ⟨rfl, rfl⟩⟩, by simp⟩
theorem ownsRow_ty {w : World} {base size n : Nat} {e : TypeId} {v : Value} {xs : List Value} (h : w.ownsRow base e size v n xs) {g : Nat} (hg : v.ownBlock = some g) : ∃ c, w.heap[g]? = some (.cells c e (0, 0)) := by
 rcases h.2 with ⟨rfl, _⟩ | ⟨g', cap, cur, rfl, _, hh, _⟩
 ·cases hg
 ·injection hg with hg
  subst hg
  exact ⟨cur, hh⟩
theorem ClsAt.fr {w w' : World} {X : Nat → Prop} {lo : Nat} {v : Value} {cs : List Cls} (h : ClsAt w lo v cs) (hf : Fr w w' X) (hx : ∀ g c z t, X g → w.heap[g]? = some (.cells c t z) → t ≠ 47 ∧ t ≠ 51) : ClsAt w' lo v cs := by
 obtain ⟨vs, h1, h2, h3⟩ := h
 refine ⟨vs, h1, ownsRow_fr h2 hf ?_, fun i c x hc hv => ownsRow_fr (h3 i c x hc hv) hf ?_⟩
 ·intro g hg hX
  obtain ⟨c, hc⟩ := ownsRow_ty h2 hg
  exact (hx g _ _ _ hX hc).1 rfl
 ·intro g hg hX
  obtain ⟨c, hc⟩ := ownsRow_ty (h3 i c x hc hv) hg
  exact (hx g _ _ _ hX hc).2 rfl
theorem ClsAt.frR {w w' : World} {R k : Nat} {T : TV} {v1 v2 v3 v4 v5 : Value} {lo : Nat} {v : Value} {cs : List Cls} (h : ClsAt w lo v cs) (hc : CU w R T k v1 v2 v3 v4 v5) (hf : Fr w w' (· = R)) : ClsAt w' lo v cs := h.fr hf (by
 rintro g c z t rfl hg
 rw [hc.1] at hg
 simp at hg
 obtain ⟨-, rfl, -⟩ := hg
 decide)
theorem ClsAt.frM {w w' : World} {M : Nat} {kd : TypeDesc} {l : List (Value × Value)} {lo : Nat} {v : Value} {cs : List Cls} (h : ClsAt w lo v cs) (hm : MapIs w M kd l) (hf : Fr w w' (· = M)) : ClsAt w' lo v cs := h.fr hf (by
 rintro g c z t rfl hg
 obtain ⟨es, q, h1, _⟩ := hm
 rw [h1] at hg
 cases hg)
theorem ClsAt.next {w w' : World} {lo : Nat} {v : Value} {cs : List Cls} (h : ClsAt w lo v cs) (hb : Below w.heap.size w w') : ClsAt w' lo v cs := h.fr (X := fun _ => False) (.of_below hb) (by rintro _ _ _ _ ⟨⟩)
theorem ClsAt.snoc {w w' : World} {lo g cap : Nat} {v x : Value} {cs : List Cls} {vs : List Value} (c : Cls) (h1 : vs.length = cs.length) (h2 : w.ownsRow lo 47 2 v cs.length (clsC cs vs)) (h3 : ∀ (i : Nat) (c : Cls) (x : Value), cs[i]? = some c → vs[i]? = some x → w.ownsRow lo 51 2 x c.rs.length (prsC c.rs))
  (hx : w.ownsRow lo 51 2 x c.rs.length (prsC c.rs))
  (hg : w.grownBy w' v.ownBlock) (ho : w'.ownsRow lo 47 2 (.slice (some ⟨g, 0, none⟩) (cs.length + 1) cap) (cs.length + 1) (clsC cs vs ++ [.string (str c.name), x])) :
  ClsAt w' lo (.slice (some ⟨g, 0, none⟩) (cs.length + 1) cap) (cs ++ [c]) := by
 have key : ∀ {n : Nat} {u : Value} {xs : List Value}, w.ownsRow lo 51 2 u n xs → w'.ownsRow lo 51 2 u n xs := fun hu => hu.kept hg (by
  rcases hb : (Value.ownBlock _) with _ | g1
  ·exact .inl rfl
  ·refine .inr fun e => ?_
   obtain ⟨c1, hc1⟩ := ownsRow_ty hu hb
   obtain ⟨c2, hc2⟩ := ownsRow_ty h2 e.symm
   rw [hc1] at hc2
   injection hc2 with hc2
   injection hc2 with _ hc2
   cases hc2)
 refine ⟨vs ++ [x], by simp [h1], by rw [clsC_snoc h1, List.length_append]; exact ho, ?_⟩
 intro i d y hd hy
 rcases Nat.lt_or_ge i cs.length with hi | hi
 ·rw [List.getElem?_append_left hi] at hd
  rw [List.getElem?_append_left (by omega)] at hy
  exact key (h3 i d y hd hy)
 ·rw [List.getElem?_append_right hi] at hd
  rw [List.getElem?_append_right (by omega), h1] at hy
  have e0 : i - cs.length = 0 := by
   rcases hq : i - cs.length with _ | q
   ·rfl
   ·rw [hq] at hd
    simp at hd
  rw [e0] at hd hy
  simp at hd hy
  subst hd hy
  exact key hx
end Go.Proofs.YthaibekbefndlaaGreatDoor.C

namespace Go.Proofs.YthaibekbefndlaaGreatDoor.C
open Go.RowKit

def clsL (cs : List Cls) (ts : List Tok) : Re (List Cls) :=
 match takeK [1] ts with
 | .error e => .error e
 | .ok (n, r) => if n.t ∈ cs.map Cls.name then .error (32, n.at_) else
  match itemsL rangeL (r.length + 1) [] r with
  | .error e => .error e
  | .ok (rs, r') => .ok (cs ++ [⟨n.t, rs⟩], r')
theorem classL_cls (s : Sta) (ts : List Tok) : classL s ts = match clsL s.l.cls ts with
 | .error e => .error e
 | .ok (cs, r) => .ok ({ s with l := { s.l with cls := cs } }, r) := by
 unfold classL clsL
 cases takeK [1] ts with
 | error e => rfl
 | ok y =>
  obtain ⟨n, r⟩ := y
  simp only
  by_cases hn : n.t ∈ List.map Cls.name s.l.cls
  ·rw [if_pos hn, if_pos hn]
  ·rw [if_neg hn, if_neg hn]
   cases itemsL rangeL (r.length + 1) [] r <;> rfl
theorem rangeL_len {rs rs' : List (Int × Int)} {ts r : List Tok} (h : rangeL rs ts = .ok (rs', r)) : rs'.length = rs.length + 1 := by
 rw [rangeL_scal] at h
 cases hs : scalL ts with
 | error e => rw [hs] at h; cases h
 | ok y =>
  obtain ⟨x, r1⟩ := y
  rw [hs] at h
  simp at h
  obtain ⟨rfl, rfl⟩ := h
  simp
theorem drop_more {T : TV} {k k' : Nat} (h : (T.ts.drop k').length < (T.ts.drop k).length) : k < k' := by
 rw [List.length_drop, List.length_drop] at h
 omega
def namesV (cs : List Cls) : List Value := cs.map fun c => .string (str c.name)
theorem names_in {cs : List Cls} {n : List UInt8} : Value.string (str n) ∈ namesV cs ↔ n ∈ cs.map Cls.name := by
 unfold namesV
 rw [List.mem_map, List.mem_map]
 constructor
 ·rintro ⟨c, hc, he⟩
  injection he with he
  exact ⟨c, hc, str_inj he⟩
 ·rintro ⟨c, hc, he⟩
  exact ⟨c, hc, by rw [he]⟩

section
variable (w : World) (R : Nat) (T : TV) (k : Nat) (v1 v2 v3 v4 v5 : Value) (Rb : Nat) (nm : Value)
theorem clsItems (hc : CU w R T k v1 v2 v3 v4 v5) (hone : One w Rb 88 (.pointer (some ⟨R, 0, none⟩))) (hN : NumOk T) (hE : Ended (T.ts.drop k)) (hRR : Rb ≠ R) :
  Calls Tryz.prog 122 #[.pointer (some ⟨R, 0, none⟩), .func (.func 123) #[] #[.pointer (some ⟨w.heap.size, 0, none⟩), .pointer (some ⟨Rb, 0, none⟩)]] (w.alloc (.cells #[nm, .slice none 0 0] 47))
   (ItTold T (fun rs k' w' => RgI w R T v1 v2 v3 v4 v5 w.heap.size Rb nm rs k' w' ∧ rs.length ≤ k') (fun w' => Moved w w' R) (itemsL rangeL ((T.ts.drop k).length + 1) [] (T.ts.drop k))) := by
 have hR := hc.lt
 have hb := hone.lt
 refine itemsRange_any rangeL _ R T k w.heap.size Rb [] (T.ts.drop k).length _ _ (fun s s' ts r hE h => rangeL_left hE h) ?_ ?_ ?_ ?_ ?_ hE (Nat.le_refl _)
 ·intro s k W h
  exact ⟨_, _, _, _, _, h.1.1⟩
 ·intro s k W W' h hn hm
  exact ⟨h.1.go (hn _ _ _ _ _ h.1.1) hm (by omega) hRR, by have := h.2; omega⟩
 ·intro s k W W' h hb'
  exact ⟨h.1.below hb' (by omega) hRR, h.2⟩
 ·intro s k W h hE'
  have hk := h.1.1.2.2
  have := rangeItem_any w R T v1 v2 v3 v4 v5 w.heap.size Rb nm W s k h.1 hN hE' (Nat.le_refl _) hb hRR hR (by have := h.2; omega)
  refine this.mono ?_
  intro e w' he
  cases hr : rangeL s (T.ts.drop k) with
  | error er => rw [hr] at he; exact he
  | ok y =>
   obtain ⟨rs', r'⟩ := y
   rw [hr] at he
   obtain ⟨k', h1, h2, h3⟩ := he
   refine ⟨k', h1, ⟨h2, ?_⟩, h3⟩
   have h4 := rangeL_len hr
   have h5 := (rangeL_left hE' hr).2.1
   rw [← h3] at h5
   have := drop_more h5
   have := h.2
   omega
 ·exact ⟨⟨hc.alloc _, ⟨_, Two.new w _ _ _, rfl, .inl ⟨rfl, rfl⟩⟩, hone.alloc _, (Moved.refl w R).alloc _⟩, Nat.zero_le _⟩
end

def ClTold (w : World) (lo R : Nat) (T : TV) (v1 v2 v3 v4 v5 : Value) (A M : Nat) : Re (List Cls) → Ending → World → Prop
 | .ok (cs, r), e, w' => ∃ k u1, e = .returned (.tuple #[]) ∧ CU w' R T k u1 v2 v3 v4 v5 ∧ T.ts.drop k = r ∧ ClsAt w' lo u1 cs ∧ FT w' 151 .string A M (namesV cs) ∧ Fr w w' (fun j => j = R ∨ j = M ∨ v1.ownBlock = some j)
 | .error er, e, w' => e = .panicked (faultV er.1 er.2) ∧ Fr w w' (fun j => j = R ∨ j = M ∨ v1.ownBlock = some j)
theorem infoClass : (Tryz.prog.info? 47).map (fun i => (i.zero, i.size, i.bytes)) = some (some (.agg #[.string (str []), .slice none 0 0]), 2, 40) := by kernel_rfl
end Go.Proofs.YthaibekbefndlaaGreatDoor.C

namespace Go.Proofs.YthaibekbefndlaaGreatDoor.C
open Go.RowKit

section
variable {l : List (Int × Int)} {a b x : Tok} {r : List Tok}
end
theorem wrap32 {n : Int} (h0 : 0 ≤ n) (h1 : n ≤ 1114111) : IntKind.i32.wrap n = n := by
 rw [IntKind.wrap_i32]
 omega
def FnI (A : Nat) : Value := .func (.func 170) #[] #[.pointer (some ⟨A, 0, none⟩)]
def numsV (l : List (Int × Int)) : List Value := l.map fun x => .int .i64 x.1
theorem One.nomap {w : World} {j M : Nat} {t : TypeId} {v : Value} {kd : TypeDesc} {l : List (Value × Value)} (h : One w j t v) (hm : MapIs w M kd l) : j ≠ M := by
 rintro rfl
 obtain ⟨es, c, h1, _⟩ := hm
 have e := h.symm.trans h1
 simp at e
theorem row_nomap {w : World} {base size n M : Nat} {e : TypeId} {v : Value} {xs : List Value} {kd : TypeDesc} {l : List (Value × Value)} (h : w.ownsRow base e size v n xs) (hm : MapIs w M kd l) : ¬ v.ownBlock = some M := by
 intro he
 obtain ⟨c, hc⟩ := ownsRow_ty h he
 obtain ⟨es, q, h1, _⟩ := hm
 rw [h1] at hc
 cases hc
theorem One.noR {w : World} {j R k : Nat} {T : TV} {v1 v2 v3 v4 v5 v : Value} {t : TypeId} (h : One w j t v) (hc : CU w R T k v1 v2 v3 v4 v5) : j ≠ R := by
 rintro rfl
 have e := h.symm.trans hc.1
 simp at e
theorem infoPair : (Tryz.prog.info? 49).map (fun i => (i.zero, i.size, i.bytes)) = some (some (.agg #[.int .i32 0, .int .i32 0]), 2, 8) := by kernel_rfl

structure PrU (w0 : World) (u0 : Value) (lo R : Nat) (T : TV) (v1 v3 v4 v5 : Value) (A M Rb Ab Tb : Nat) (u : Value) (ks : List Value) (l : List (Int × Int)) (k : Nat) (W : World) : Prop where
 cu : CU W R T k v1 u v3 v4 v5
 row : W.ownsRow lo 49 2 u l.length (prsC l)
 own : ∀ g, u.ownBlock = some g → u0.ownBlock = some g ∨ w0.heap.size ≤ g
 ft : FT W 200 (.int .i64) A M ks
 rb : One W Rb 88 (.pointer (some ⟨R, 0, none⟩))
 ab : One W Ab 166 (FnI A)
 tb : One W Tb 132 (.pointer (some ⟨R, 3, none⟩))
 fr : Fr w0 W (fun j => j = R ∨ j = M ∨ u0.ownBlock = some j)
section
variable {w0 : World} {u0 : Value} {lo R : Nat} {T : TV} {v1 v3 v4 v5 : Value} {A M Rb Ab Tb : Nat} {u : Value} {ks : List Value} {l : List (Int × Int)} {k : Nat} {W W' : World}
theorem PrU.go {k' : Nat} (h : PrU w0 u0 lo R T v1 v3 v4 v5 A M Rb Ab Tb u ks l k W) (hc : CU W' R T k' v1 u v3 v4 v5) (hm : Moved W W' R) : PrU w0 u0 lo R T v1 v3 v4 v5 A M Rb Ab Tb u ks l k' W' := by
 have hf := Fr.of_moved hm
 have hA : ¬ A = R := by
  rintro rfl
  have e := h.ft.1.symm.trans h.cu.1
  simp at e
 have hM : ¬ M = R := by
  rintro rfl
  obtain ⟨es, q, h1, _⟩ := h.ft.2
  have e := h1.symm.trans h.cu.1
  simp at e
 exact ⟨hc, h.row.kept hm (.inr (row_ne h.row h.cu.1 (by decide))), h.own, h.ft.fr hf hA hM, h.rb.fr hf (h.rb.noR h.cu), h.ab.fr hf (h.ab.noR h.cu), h.tb.fr hf (h.tb.noR h.cu), h.fr.next hf (fun j _ e => .inl e)⟩
theorem PrU.below (h : PrU w0 u0 lo R T v1 v3 v4 v5 A M Rb Ab Tb u ks l k W) (hb : Below W.heap.size W W') : PrU w0 u0 lo R T v1 v3 v4 v5 A M Rb Ab Tb u ks l k W' := h.go (h.cu.next hb) (.of_below hb)
theorem PrU.alloc (h : PrU w0 u0 lo R T v1 v3 v4 v5 A M Rb Ab Tb u ks l k W) (o : Obj) : PrU w0 u0 lo R T v1 v3 v4 v5 A M Rb Ab Tb u ks l k (W.alloc o) := h.below ((Below.refl _ _).alloc (Nat.le_refl _) o)
theorem PrU.drew (h : PrU w0 u0 lo R T v1 v3 v4 v5 A M Rb Ab Tb u ks l k W) : PrU w0 u0 lo R T v1 v3 v4 v5 A M Rb Ab Tb u ks l k W.drew := ⟨h.cu.drew, h.row.drew, h.own, h.ft, h.rb, h.ab, h.tb, h.fr.drew⟩
theorem PrU.more {g cap : Nat} (x : Int × Int) (h : PrU w0 u0 lo R T v1 v3 v4 v5 A M Rb Ab Tb u ks l k W) (hg : W.grownBy W' u.ownBlock) (ho : W'.ownsRow lo 49 2 (.slice (some ⟨g, 0, none⟩) (l.length + 1) cap) (l.length + 1) (prsC l ++ [.int .i32 x.1, .int .i32 x.2]))
  (hat : u.ownBlock = some g ∨ w0.heap.size ≤ g) (hlo : R < lo) :
  CU W' R T k v1 u v3 v4 v5 ∧ One W' Tb 132 (.pointer (some ⟨R, 3, none⟩)) ∧ PrU w0 u0 lo R T v1 v3 v4 v5 A M Rb Ab Tb (.slice (some ⟨g, 0, none⟩) (l.length + 1) cap) ks (l ++ [x]) k (W'.setCell ⟨R, 3, none⟩ (.slice (some ⟨g, 0, none⟩) (l.length + 1) cap)) := by
 have hrow : ∀ j, u.ownBlock = some j → R < j := fun j e => by have := (h.row.lt j e).1; omega
 have hf := Fr.of_grown hg
 have hc' := h.cu.fr hf hrow
 have hset : Fr W' (W'.setCell ⟨R, 3, none⟩ (.slice (some ⟨g, 0, none⟩) (l.length + 1) cap)) (· = R) := (Fr.of_below (Below.refl _ W')).set _ _ (fun _ => rfl)
 have hA : ¬ A = R := by
  rintro rfl
  have e := h.ft.1.symm.trans h.cu.1
  simp at e
 have hM : ¬ M = R := by
  rintro rfl
  obtain ⟨es, q, h1, _⟩ := h.ft.2
  have e := h1.symm.trans h.cu.1
  simp at e
 have a1 := h.rb.fr hf (row_ne h.row h.rb (by decide))
 have a2 := h.ab.fr hf (row_ne h.row h.ab (by decide))
 have a3 := h.tb.fr hf (row_ne h.row h.tb (by decide))
 have a4 := h.ft.fr hf (row_ne h.row h.ft.1 (by decide)) (row_nomap h.row h.ft.2)
 refine ⟨hc', a3, hc'.set2 _, ?_, ?_, a4.fr hset hA hM, a1.fr hset (a1.noR hc'), a2.fr hset (a2.noR hc'), a3.fr hset (a3.noR hc'), ?_⟩
 ·rw [List.length_append, prsC_snoc]
  exact ownsRow_fr ho hset (fun j e e2 => row_ne ho hc'.1 (by decide) (by rw [e]; exact congrArg some e2))
 ·intro j e
  injection e with e
  subst e
  rcases hat with hat | hat
  ·exact h.own _ hat
  ·exact .inr hat
 ·refine (h.fr.next hf fun j hj e => ?_).next hset (fun j _ e => .inl e)
  rcases h.own j e with e | e
  ·exact .inr (.inr e)
  ·omega
end

structure PrL (w0 : World) (u0 : Value) (lo R : Nat) (T : TV) (v1 v2 v4 v5 : Value) (A M Rb Ab Tb : Nat) (u : Value) (ks : List Value) (l : List (Int × Int)) (k : Nat) (W : World) : Prop where
 cu : CU W R T k v1 v2 u v4 v5
 row : W.ownsRow lo 49 2 u l.length (prsC l)
 own : ∀ g, u.ownBlock = some g → u0.ownBlock = some g ∨ w0.heap.size ≤ g
 ft : FT W 200 (.int .i64) A M ks
 rb : One W Rb 88 (.pointer (some ⟨R, 0, none⟩))
 ab : One W Ab 166 (FnI A)
 tb : One W Tb 132 (.pointer (some ⟨R, 4, none⟩))
 fr : Fr w0 W (fun j => j = R ∨ j = M ∨ u0.ownBlock = some j)
section
variable {w0 : World} {u0 : Value} {lo R : Nat} {T : TV} {v1 v2 v4 v5 : Value} {A M Rb Ab Tb : Nat} {u : Value} {ks : List Value} {l : List (Int × Int)} {k : Nat} {W W' : World}
theorem PrL.go {k' : Nat} (h : PrL w0 u0 lo R T v1 v2 v4 v5 A M Rb Ab Tb u ks l k W) (hc : CU W' R T k' v1 v2 u v4 v5) (hm : Moved W W' R) : PrL w0 u0 lo R T v1 v2 v4 v5 A M Rb Ab Tb u ks l k' W' := by
 have hf := Fr.of_moved hm
 have hA : ¬ A = R := by
  rintro rfl
  have e := h.ft.1.symm.trans h.cu.1
  simp at e
 have hM : ¬ M = R := by
  rintro rfl
  obtain ⟨es, q, h1, _⟩ := h.ft.2
  have e := h1.symm.trans h.cu.1
  simp at e
 exact ⟨hc, h.row.kept hm (.inr (row_ne h.row h.cu.1 (by decide))), h.own, h.ft.fr hf hA hM, h.rb.fr hf (h.rb.noR h.cu), h.ab.fr hf (h.ab.noR h.cu), h.tb.fr hf (h.tb.noR h.cu), h.fr.next hf (fun j _ e => .inl e)⟩
theorem PrL.below (h : PrL w0 u0 lo R T v1 v2 v4 v5 A M Rb Ab Tb u ks l k W) (hb : Below W.heap.size W W') : PrL w0 u0 lo R T v1 v2 v4 v5 A M Rb Ab Tb u ks l k W' := h.go (h.cu.next hb) (.of_below hb)
theorem PrL.alloc (h : PrL w0 u0 lo R T v1 v2 v4 v5 A M Rb Ab Tb u ks l k W) (o : Obj) : PrL w0 u0 lo R T v1 v2 v4 v5 A M Rb Ab Tb u ks l k (W.alloc o) := h.below ((Below.refl _ _).alloc (Nat.le_refl _) o)
theorem PrL.drew (h : PrL w0 u0 lo R T v1 v2 v4 v5 A M Rb Ab Tb u ks l k W) : PrL w0 u0 lo R T v1 v2 v4 v5 A M Rb Ab Tb u ks l k W.drew := ⟨h.cu.drew, h.row.drew, h.own, h.ft, h.rb, h.ab, h.tb, h.fr.drew⟩
theorem PrL.more {g cap : Nat} (x : Int × Int) (h : PrL w0 u0 lo R T v1 v2 v4 v5 A M Rb Ab Tb u ks l k W) (hg : W.grownBy W' u.ownBlock) (ho : W'.ownsRow lo 49 2 (.slice (some ⟨g, 0, none⟩) (l.length + 1) cap) (l.length + 1) (prsC l ++ [.int .i32 x.1, .int .i32 x.2]))
  (hat : u.ownBlock = some g ∨ w0.heap.size ≤ g) (hlo : R < lo) :
  CU W' R T k v1 v2 u v4 v5 ∧ One W' Tb 132 (.pointer (some ⟨R, 4, none⟩)) ∧ PrL w0 u0 lo R T v1 v2 v4 v5 A M Rb Ab Tb (.slice (some ⟨g, 0, none⟩) (l.length + 1) cap) ks (l ++ [x]) k (W'.setCell ⟨R, 4, none⟩ (.slice (some ⟨g, 0, none⟩) (l.length + 1) cap)) := by
 have hrow : ∀ j, u.ownBlock = some j → R < j := fun j e => by have := (h.row.lt j e).1; omega
 have hf := Fr.of_grown hg
 have hc' := h.cu.fr hf hrow
 have hset : Fr W' (W'.setCell ⟨R, 4, none⟩ (.slice (some ⟨g, 0, none⟩) (l.length + 1) cap)) (· = R) := (Fr.of_below (Below.refl _ W')).set _ _ (fun _ => rfl)
 have hA : ¬ A = R := by
  rintro rfl
  have e := h.ft.1.symm.trans h.cu.1
  simp at e
 have hM : ¬ M = R := by
  rintro rfl
  obtain ⟨es, q, h1, _⟩ := h.ft.2
  have e := h1.symm.trans h.cu.1
  simp at e
 have a1 := h.rb.fr hf (row_ne h.row h.rb (by decide))
 have a2 := h.ab.fr hf (row_ne h.row h.ab (by decide))
 have a3 := h.tb.fr hf (row_ne h.row h.tb (by decide))
 have a4 := h.ft.fr hf (row_ne h.row h.ft.1 (by decide)) (row_nomap h.row h.ft.2)
 refine ⟨hc', a3, hc'.set3 _, ?_, ?_, a4.fr hset hA hM, a1.fr hset (a1.noR hc'), a2.fr hset (a2.noR hc'), a3.fr hset (a3.noR hc'), ?_⟩
 ·rw [List.length_append, prsC_snoc]
  exact ownsRow_fr ho hset (fun j e e2 => row_ne ho hc'.1 (by decide) (by rw [e]; exact congrArg some e2))
 ·intro j e
  injection e with e
  subst e
  rcases hat with hat | hat
  ·exact h.own _ hat
  ·exact .inr hat
 ·refine (h.fr.next hf fun j hj e => ?_).next hset (fun j _ e => .inl e)
  rcases h.own j e with e | e
  ·exact .inr (.inr e)
  ·omega
end
end Go.Proofs.YthaibekbefndlaaGreatDoor.C

namespace Go.Proofs.YthaibekbefndlaaGreatDoor.C
open Go.RowKit

theorem CU.map {w w' : World} {R k M : Nat} {T : TV} {v1 v2 v3 v4 v5 : Value} {kd : TypeDesc} {l l' : List (Value × Value)} (h : CU w R T k v1 v2 v3 v4 v5) (hm : MapIs w M kd l) (hm' : MapIs w' M kd l') (hg : w.grownBy w' (some M)) : CU w' R T k v1 v2 v3 v4 v5 := by
 have hlt := h.lt
 obtain ⟨h1, h2, h3⟩ := h
 have hR : some R ≠ some M := by
  intro e
  injection e with e
  subst e
  obtain ⟨es, q, h4, _⟩ := hm
  rw [h1] at h4
  cases h4
 refine ⟨(hg.block R hlt hR).trans h1, h2.keep fun p hp => ?_, h3⟩
 by_cases hp' : p.block = M
 ·obtain ⟨es, q, h4, _⟩ := hm
  obtain ⟨es', q', h4', _⟩ := hm'
  rw [← hp'] at h4 h4'
  simp [World.cell?, h4, h4']
 ·exact World.cell?_of_block (hg.block p.block (by omega) (fun e => hp' (by injection e)))
theorem LTk.map {w w' : World} {b M : Nat} {x : Tok} {kd : TypeDesc} {l : List (Value × Value)} (h : LTk w b x) (hm : MapIs w M kd l) (hg : w.grownBy w' (some M)) : LTk w' b x := (hg.block b h.lt (by
 intro e
 injection e with e
 subst e
 obtain ⟨es, q, h4, _⟩ := hm
 rw [h] at h4
 cases h4)).trans h

def celC (c : List Int) : List Value := c.map (Value.int .i32)
def DeAt (w : World) (lo M : Nat) (d : List (List UInt8 × List Int)) : Prop :=
 ∃ vs : List Value, vs.length = d.length ∧ MapIs w M .string ((d.zip vs).map fun x => (.string (str x.1.1), x.2)) ∧ ∀ (i : Nat) (e : List UInt8 × List Int) (x : Value), d[i]? = some e → vs[i]? = some x → w.ownsRow lo 35 1 x e.2.length (celC e.2)
theorem DeAt.map {w : World} {lo M : Nat} {d : List (List UInt8 × List Int)} (h : DeAt w lo M d) : ∃ l, MapIs w M .string l := by
 obtain ⟨vs, _, h2, _⟩ := h
 exact ⟨_, h2⟩
theorem DeAt.fr {w w' : World} {X : Nat → Prop} {lo M : Nat} {d : List (List UInt8 × List Int)} (h : DeAt w lo M d) (hf : Fr w w' X) (hM : ¬ X M) (hx : ∀ g c z t, X g → w.heap[g]? = some (.cells c t z) → t ≠ 35) : DeAt w' lo M d := by
 obtain ⟨vs, h1, h2, h3⟩ := h
 refine ⟨vs, h1, h2.fr hf hM, fun i e x he hv => ownsRow_fr (h3 i e x he hv) hf ?_⟩
 intro g hg hX
 obtain ⟨c, hc⟩ := ownsRow_ty (h3 i e x he hv) hg
 exact hx g _ _ _ hX hc rfl
theorem DeAt.next {w w' : World} {lo M : Nat} {d : List (List UInt8 × List Int)} (h : DeAt w lo M d) (hb : Below w.heap.size w w') : DeAt w' lo M d := h.fr (X := fun _ => False) (.of_below hb) id (by rintro _ _ _ _ ⟨⟩)
theorem DeAt.drew {w : World} {lo M : Nat} {d : List (List UInt8 × List Int)} (h : DeAt w lo M d) : DeAt w.drew lo M d := h
theorem DeAt.frR {w w' : World} {R k : Nat} {T : TV} {v1 v2 v3 v4 v5 : Value} {lo M : Nat} {d : List (List UInt8 × List Int)} (h : DeAt w lo M d) (hc : CU w R T k v1 v2 v3 v4 v5) (hf : Fr w w' (· = R)) : DeAt w' lo M d := by
 refine h.fr hf ?_ ?_
 ·rintro rfl
  obtain ⟨l, es, q, h1, _⟩ := h.map
  have e := h1.symm.trans hc.1
  simp at e
 ·rintro g c z t rfl hg
  rw [hc.1] at hg
  simp at hg
  obtain ⟨-, rfl, -⟩ := hg
  decide
theorem zip_mem {d : List (List UInt8 × List Int)} {vs : List Value} (h : vs.length = d.length) {i : Nat} {e : List UInt8 × List Int} (he : d[i]? = some e) : ∃ x, vs[i]? = some x ∧ (e, x) ∈ d.zip vs := by
 have hi : i < d.length := (List.getElem?_eq_some_iff.1 he).1
 refine ⟨vs[i]'(by omega), by simp, ?_⟩
 have : (d.zip vs)[i]? = some (e, vs[i]'(by omega)) := by
  rw [List.getElem?_zip_eq_some]
  exact ⟨he, by simp⟩
 exact List.mem_of_getElem? this
theorem lookD_some {d : List (List UInt8 × List Int)} {n : List UInt8} {c : List Int} (h : lookD d n = some c) : ∃ i : Nat, d[i]? = some (n, c) := by
 unfold lookD at h
 cases hf : d.find? (fun x => decide (x.1 = n)) with
 | none => rw [hf] at h; cases h
 | some e =>
  rw [hf] at h
  injection h with h
  have h1 := List.find?_some hf
  have h2 := List.mem_of_find?_eq_some hf
  simp at h1
  obtain ⟨i, hi⟩ := List.getElem?_of_mem h2
  exact ⟨i, by rw [hi, ← h1, ← h]⟩
theorem lookD_none {d : List (List UInt8 × List Int)} {n : List UInt8} (h : lookD d n = none) : ∀ e ∈ d, e.1 ≠ n := by
 unfold lookD at h
 rw [Option.map_eq_none_iff, List.find?_eq_none] at h
 intro e he hn
 exact h e he (by simpa using hn)
theorem zeroCells (w : World) : (zeroValue 32).run Tryz.prog w = .ok (.slice none 0 0) w := by kernel_rfl
theorem DeAt.yes {w : World} {lo M : Nat} {d : List (List UInt8 × List Int)} {n : List UInt8} {c : List Int} (h : DeAt w lo M d) (hl : lookD d n = some c) :
  ∃ v, w.ownsRow lo 35 1 v c.length (celC c) ∧ (Instr.lookup 62 (.map (some M)) (.string (str n)) true).run Tryz.prog w = .ok (.tuple #[v, .bool true]) w := by
 obtain ⟨vs, h1, h2, h3⟩ := h
 obtain ⟨i, hi⟩ := lookD_some hl
 obtain ⟨x, hx, hm⟩ := zip_mem h1 hi
 refine ⟨x, h3 i _ x hi hx, ?_⟩
 exact h2.look_yes Tryz.underlying62 Tryz.underlying9 (by first | trivial | rfl) (v := x) (List.mem_map.2 ⟨_, hm, rfl⟩) true
theorem DeAt.keys {d : List (List UInt8 × List Int)} {vs : List Value} {n : List UInt8} (hl : lookD d n = none) : (.string (str n)) ∉ ((d.zip vs).map fun x => (Value.string (str x.1.1), x.2)).map Prod.fst := by
 rw [List.map_map, List.mem_map]
 rintro ⟨⟨e, x⟩, hx, he⟩
 simp at he
 exact lookD_none hl e (List.of_mem_zip hx).1 (str_inj he)
theorem DeAt.no {w : World} {lo M : Nat} {d : List (List UInt8 × List Int)} {n : List UInt8} (h : DeAt w lo M d) (hl : lookD d n = none) :
  (Instr.lookup 62 (.map (some M)) (.string (str n)) true).run Tryz.prog w = .ok (.tuple #[.slice none 0 0, .bool false]) w := by
 obtain ⟨vs, h1, h2, h3⟩ := h
 exact h2.look_no Tryz.underlying62 Tryz.underlying9 (by first | trivial | rfl) (DeAt.keys hl) (zeroCells w) true
theorem DeAt.put {w : World} {lo M : Nat} {d : List (List UInt8 × List Int)} {n : List UInt8} {c : List Int} {v : Value} (h : DeAt w lo M d) (hl : lookD d n = none) (hv : w.ownsRow lo 35 1 v c.length (celC c)) :
  ∃ o, (Instr.mapUpdate 62 (.map (some M)) (.string (str n)) v).run Tryz.prog w = .ok () (putObj w M o) ∧ DeAt (putObj w M o) lo M (d ++ [(n, c)]) := by
 obtain ⟨vs, h1, h2, h3⟩ := h
 obtain ⟨o, q2, hM⟩ := h2.put_new Tryz.underlying62 Tryz.underlying9 (key := (.string (str n))) (by first | trivial | rfl) (DeAt.keys hl) v
 have hg := putObj_only (w := w) (M := M) o
 refine ⟨o, q2, vs ++ [v], by simp [h1], ?_, ?_⟩
 ·rw [List.zip_append h1.symm, List.map_append]
  exact hM
 ·have key : ∀ {n : Nat} {u : Value} {xs : List Value}, w.ownsRow lo 35 1 u n xs → (putObj w M o).ownsRow lo 35 1 u n xs := fun hu => hu.kept hg (.inr (row_nomap hu h2))
  intro i e y hd hy
  rcases Nat.lt_or_ge i d.length with hi | hi
  ·rw [List.getElem?_append_left hi] at hd
   rw [List.getElem?_append_left (by omega)] at hy
   exact key (h3 i e y hd hy)
  ·rw [List.getElem?_append_right hi] at hd
   rw [List.getElem?_append_right (by omega), h1] at hy
   have e0 : i - d.length = 0 := by
    rcases hq : i - d.length with _ | q
    ·rfl
    ·rw [hq] at hd
     simp at hd
   rw [e0] at hd hy
   simp at hd hy
   subst hd hy
   exact key hv

def elmC (d : List (List UInt8 × List Int)) (n : Tok) (r : List Tok) : Re (List (List UInt8 × List Int)) := match takeK [4] r with
 | .error e => .error e
 | .ok (q, r3) => if (cellsOf q.t).length < 2 ∨ 4 < (cellsOf q.t).length then .error (3, q.at_) else .ok (d ++ [(n.t, cellsOf q.t)], r3)
def elmB (d : List (List UInt8 × List Int)) (n : Tok) (r : List Tok) : Re (List (List UInt8 × List Int)) := match takeT 1 wFrom r with
 | .error e => .error e
 | .ok (_, r2) => elmC d n r2
def elmL (d : List (List UInt8 × List Int)) (ts : List Tok) : Re (List (List UInt8 × List Int)) := match takeK [5] ts with
 | .error e => .error e
 | .ok (n, r1) => if (lookD d n.t).isSome then .error (32, n.at_) else elmB d n r1
theorem elementL_elm (s : Sta) (ts : List Tok) : elementL s ts = match elmL s.d ts with
 | .error e => .error e
 | .ok (d, r) => .ok ({ s with d := d }, r) := by
 unfold elementL elmL
 cases takeK [5] ts with
 | error e => rfl
 | ok y =>
  obtain ⟨n, r⟩ := y
  simp only
  by_cases hn : (lookD s.d n.t).isSome
  ·rw [if_pos hn, if_pos hn]
  ·rw [if_neg hn, if_neg hn]
   unfold elmB
   cases takeT 1 wFrom r with
   | error e => rfl
   | ok y =>
    obtain ⟨u, r2⟩ := y
    simp only
    unfold elmC
    cases takeK [4] r2 with
    | error e => rfl
    | ok y =>
     obtain ⟨q, r3⟩ := y
     simp only
     by_cases hq : (cellsOf q.t).length < 2 ∨ 4 < (cellsOf q.t).length
     ·rw [if_pos hq, if_pos hq]
     ·rw [if_neg hq, if_neg hq]
section
variable {d : List (List UInt8 × List Int)} {n x : Tok} {r : List Tok}
end
def TxtOk (T : TV) : Prop := ∀ t ∈ T.ts, t.t.length ≤ 4000
theorem TxtOk.at_ {T : TV} (h : TxtOk T) {k : Nat} {x : Tok} {r : List Tok} (hr : T.ts.drop k = x :: r) : x.t.length ≤ 4000 := h x (List.mem_of_mem_drop (i := k) (by rw [hr]; simp))
end Go.Proofs.YthaibekbefndlaaGreatDoor.C
