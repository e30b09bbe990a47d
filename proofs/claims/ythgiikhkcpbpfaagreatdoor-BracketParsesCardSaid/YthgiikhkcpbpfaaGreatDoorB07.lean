/-
  Joined: KoB. Each with what its own head says.
-/
import Derived.WideLaws
import Derived.Test.YthgiikhkcpbpfaaGreatDoorB04
import Derived.Test.YthgiikhkcpbpfaaGreatDoorB06


namespace Go.Proofs.YthgiikhkcpbpfaaGreatDoor.C
open Go.RowKit
def Lk (l : List Value) (o : Nat) (P : Nat → Prop) : Prop := l[o + 1]? = some (.int .i32 0) ∧ ((l[o]? = some (.int .u32 0) ∧ l[o + 3]? = some (.map none)) ∨ (l[o]? = some (.int .u32 1) ∧ ∃ M, l[o + 3]? = some (.map (some M)) ∧ P M))
theorem Lk.mono {l : List Value} {o : Nat} {P Q : Nat → Prop} (h : Lk l o P) (hp : ∀ M, P M → Q M) : Lk l o Q := ⟨h.1, h.2.imp id fun ⟨a, M, b, c⟩ => ⟨a, M, b, hp M c⟩⟩
theorem Lk.same {l l' : List Value} {o : Nat} {P : Nat → Prop} (h : Lk l o P) (h0 : l'[o]? = l[o]?) (h1 : l'[o + 1]? = l[o + 1]?) (h3 : l'[o + 3]? = l[o + 3]?) : Lk l' o P := by
 unfold Lk
 rw [h0, h1, h3]
 exact h
def Else (l l' : List Value) (o : Nat) : Prop := l'.length = l.length ∧ ∀ i, i ≠ o → i ≠ o + 1 → i ≠ o + 3 → l'[i]? = l[i]?
def QM (o : Nat) (l : List Value) (P : World → Nat → Prop) (W : World) (l' : List Value) : Prop := ∃ M, l'[o + 3]? = some (.map (some M)) ∧ P W M ∧ Else l l' o
def Fills (gf : Nat) (recv : Value) (kd : TypeDesc) (T o : Nat) (t : TypeId) (w : World) (l : List Value) (P : World → Nat → Prop) : Prop :=
 ∀ W M, Fr w W (· = T) → Row W T t ((l.set (o + 1) (.int .i32 1)).set (o + 3) (.map (some M))) → w.heap.size ≤ M → MapIs W M kd [] → Calls Tryz.prog gf #[recv, .map (some M)] W fun e W' => e = .returned (.tuple #[]) ∧ Fr W W' (· = M) ∧ P W' M
theorem mapis_new_set {w : World} {kd : TypeDesc} {T i : Nat} {u : Value} {t : TypeId} {l : List Value} (hr : Row w T t l) : MapIs ((w.alloc (.map #[] 0)).setCell ⟨T, i, none⟩ u) w.heap.size kd [] :=
 (MapIs.new w kd).at_ (Below.heap_setCell _ _ _ _ (by have := hr.lt; show w.heap.size ≠ T; omega))
set_option maxRecDepth 100000 in
set_option maxHeartbeats 1600000 in
theorem get1CC_any (T o A : Nat) (t : TypeId) (l : List Value) (w W : World) (gf : Nat) (recv : Value) (P : World → Nat → Prop) (hr : Row W T t (l.set (o + 1) (.int .i32 1))) (h0 : l[o]? = some (.int .u32 0)) (h1 : l[o + 1]? = some (.int .i32 0)) (h3 : l[o + 3]? = some (.map none))
  (hA0 : One W A 237 (.pointer (some ⟨T, o, none⟩))) (hA1 : One W (A + 1) 196 (.func (.func gf) #[recv] #[])) (hw : Fr w W (· = T))
  (eg : ∀ args w, (callFunc gf args).run Tryz.prog w = .ok (.enter gf args) w) (hf : Fills gf recv (.int .i32) T o t w l P) :
  Calls Tryz.prog 154 #[.pointer (some ⟨A, 0, none⟩), .pointer (some ⟨A + 1, 0, none⟩)] W fun e W' => e = .returned (.tuple #[]) ∧ Fr W W' (· = T) ∧ ∃ l', Row W' T t l' ∧ l'[o]? = some (.int .u32 0) ∧ l'[o + 1]? = some (.int .i32 1) ∧ QM o l P W' l' := by
 have c3 : (l.set (o + 1) (.int .i32 1))[o + 3]? = some (.map none) := by rw [set_ne (by omega)]; exact h3
 have hT := hr.lt
 have a0 := hA0.cell
 have a1 := hA1.cell
 have n0 : A ≠ T := by
  intro e
  have := hA0
  unfold One at this
  rw [e, show W.heap[T]? = _ from hr] at this
  injection this with this
  injection this with this _ _
  have := congrArg Array.size this
  simp at this
  have := (List.getElem?_eq_some_iff.1 h3).1
  omega
 have n1 : A + 1 ≠ T := by
  intro e
  have := hA1
  unfold One at this
  rw [e, show W.heap[T]? = _ from hr] at this
  injection this with this
  injection this with this _ _
  have := congrArg Array.size this
  simp at this
  have := (List.getElem?_eq_some_iff.1 h3).1
  omega
 obtain ⟨W1, hW1⟩ : ∃ W1, W1 = (W.alloc (.map #[] 0)).setCell ⟨T, o + 3, none⟩ (.map (some W.heap.size)) := ⟨_, rfl⟩
 have hr1 : Row W1 T t ((l.set (o + 1) (.int .i32 1)).set (o + 3) (.map (some W.heap.size))) := by rw [hW1]; exact (hr.alloc _).set _ _
 have hm : MapIs W1 W.heap.size (.int .i32) [] := by rw [hW1]; exact mapis_new_set hr
 have hf1 : Fr W W1 (· = T) := by rw [hW1]; exact ((Fr.refl W _).alloc _).setT _ _
 have hcall := hf W1.drew W.heap.size (hw.trans hf1).drew hr1.drew hw.size (hm.drewN 1)
 have b0 : W1.cell? ⟨A, 0, none⟩ = some (.pointer (some ⟨T, o, none⟩)) := (hA0.fr hf1 n0).cell
 have b1 : W1.cell? ⟨A + 1, 0, none⟩ = some (.func (.func gf) #[recv] #[]) := (hA1.fr hf1 n1).cell
 have b3 : W1.cell? ⟨T, o + 3, none⟩ = some (.map (some W.heap.size)) := hr1.cell (set_eq c3)
 have hmm := @run_makeMap Tryz.prog
 have d3 : W.cell? ⟨T, o + 3, none⟩ = some (.map none) := hr.cell c3
 have d4 := hr.frozen (o + 3)
 have d5 : (W.alloc (.map #[] 0)).cell? ⟨T, o + 3, none⟩ = some (.map none) := (hr.alloc (.map #[] 0)).cell c3
 have d6 := (hr.alloc (.map #[] 0)).frozen (o + 3)
 have HF := Lib.hid hf1
 have HR := Lib.hid hr1
 have HT : Hid (T < W.heap.size) := Lib.hid hT
 have H0 := Lib.hid h0
 have H1 := Lib.hid h1
 have H3 := Lib.hid c3
 clear hf hf1 hr hr1 hm hA0 hA1 n0 n1 hw h0 h1 h3 c3 hT
 go_enter Tryz.func154, Tryz.ntmps154
 have HB0 := Lib.hid b0
 have HB1 := Lib.hid b1
 have HB3 := Lib.hid b3
 have HAT : Hid (A < W1.heap.size ∧ A + 1 < W1.heap.size ∧ W.heap.size ≠ A ∧ W.heap.size ≠ A + 1) := Lib.hid ⟨World.block_lt_of_cell? _ _ b0, World.block_lt_of_cell? _ _ b1, by have := World.block_lt_of_cell? _ _ a0; show W.heap.size ≠ A; simp only at this; omega, by have := World.block_lt_of_cell? _ _ a1; simp only at this; omega⟩
 go_wp2
 rw [← hW1]
 clear hW1
 refine wp_region_held (S := fun W' : World => W'.cell? ⟨A, 0, none⟩ = some (.pointer (some ⟨T, o, none⟩)) ∧ W'.cell? ⟨A + 1, 0, none⟩ = some (.func (.func gf) #[recv] #[]) ∧ W'.cell? ⟨T, o + 3, none⟩ = some (.map (some W.heap.size))) (by kernel_rfl) ?_
 change wpAnyH _ _ _ _ _ _ _ _ W1.drew
 have hS1 : (fun W' : World => W'.cell? ⟨A, 0, none⟩ = some (.pointer (some ⟨T, o, none⟩)) ∧ W'.cell? ⟨A + 1, 0, none⟩ = some (.func (.func gf) #[recv] #[]) ∧ W'.cell? ⟨T, o + 3, none⟩ = some (.map (some W.heap.size))) W1.drew := ⟨b0, b1, b3⟩
 iterate 5 (refine wpH rfl rfl ?_; try simp only [Act.put, g1, g2, g3, g4, g5, g6])
 refine wpAnyH_one (i := 5) (by kernel_rfl) rfl (fun K hK => ?_)
 simp only [g4, g5, g6]
 go_simp
 go_at_fn gf
 refine hcall.mono ?_
 rintro e w2 ⟨rfl, hf2, hp⟩
 have hS2 : (fun W' : World => W'.cell? ⟨A, 0, none⟩ = some (.pointer (some ⟨T, o, none⟩)) ∧ W'.cell? ⟨A + 1, 0, none⟩ = some (.func (.func gf) #[recv] #[]) ∧ W'.cell? ⟨T, o + 3, none⟩ = some (.map (some W.heap.size))) w2 :=
  ⟨(World.cell?_of_block (hf2.block A HAT.out.1 (Ne.symm HAT.out.2.2.1))).trans HB0.out, (World.cell?_of_block (hf2.block (A + 1) HAT.out.2.1 (Ne.symm HAT.out.2.2.2))).trans HB1.out, (World.cell?_of_block (hf2.block T HR.out.lt (by have := HT.out; omega))).trans HB3.out⟩
 refine hK.out _ _ hS2 (fun _ => ?_)
 refine wpAnyH_done (by kernel_rfl) ?_ _
 go_end0
 refine ⟨rfl, HF.out.drew.next hf2 (by intro j hj e; omega), _, HR.out.drew.fr hf2 (by have := HT.out; omega), ?_, ?_, W.heap.size, ?_, hp, ?_⟩
 ·rw [set_ne (by omega), set_ne (by omega)]; exact H0.out
 ·rw [set_ne (by omega)]; exact set_eq H1.out
 ·exact set_eq H3.out
 ·exact ⟨by simp, fun i i0 i1 i3 => by rw [set_ne (Ne.symm i3), set_ne (Ne.symm i1)]⟩
set_option maxRecDepth 100000 in
set_option maxHeartbeats 1600000 in
theorem getCC_any (T o : Nat) (t : TypeId) (l : List Value) (w : World) (gf : Nat) (recv : Value) (P : World → Nat → Prop) (hr : Row w T t l) (hk : Lk l o (P w)) (hP : ∀ W W' M, P W M → Fr W W' (· = T) → P W' M)
  (eg : ∀ args w, (callFunc gf args).run Tryz.prog w = .ok (.enter gf args) w) (hf : Fills gf recv (.int .i32) T o t w l P) :
  Calls Tryz.prog 108 #[.pointer (some ⟨T, o, none⟩), .func (.func gf) #[recv] #[]] w fun e w' => ∃ M, e = .returned (.map (some M)) ∧ P w' M ∧ Fr w w' (· = T) ∧ ∃ l', Row w' T t l' ∧ Lk l' o (P w') ∧ Else l l' o := by
 have hT := hr.lt
 obtain ⟨S, hS⟩ : ∃ S, w.heap.size = S := ⟨_, rfl⟩
 obtain ⟨W0, hW0⟩ : ∃ W0, W0 = (w.alloc (.cells #[.pointer (some ⟨T, o, none⟩)] 237)).alloc (.cells #[.func (.func gf) #[recv] #[]] 196) := ⟨_, rfl⟩
 have hb0 : Below w.heap.size w W0 := by rw [hW0]; exact ((Below.refl _ _).alloc (by omega) _).alloc (by simp) _
 have hr0 : Row W0 T t l := hr.below hb0
 have o0 : One W0 S 237 (.pointer (some ⟨T, o, none⟩)) := by
  unfold One
  rw [hW0, heap_lt _ _ (by simp; omega), ← hS]
  exact heap_new _ _
 have o1 : One W0 (S + 1) 196 (.func (.func gf) #[recv] #[]) := by
  have : (w.alloc (.cells #[.pointer (some ⟨T, o, none⟩)] 237)).heap.size = S + 1 := by simp [hS]
  unfold One
  rw [hW0, ← this]
  exact heap_new _ _
 have hmf : ∀ (fn : Fn) (first cap : Array Value) (w : World), (Instr.makeFunc fn first cap).run Tryz.prog w = .ok (.func fn first cap) w := fun _ _ _ _ => rfl
 obtain ⟨h1, hk⟩ := hk
 have HB := Lib.hid hb0
 have HP := Lib.hid hP
 have HTS : Hid (T < S) := Lib.hid (by omega)
 rcases hk with ⟨h0, h3⟩ | ⟨h0, M, h3, hp⟩
 ·have hfr0 : Fr w W0 (· = T) := .of_below hb0
  have hdo := do_first 154 #[.pointer (some ⟨S, 0, none⟩), .pointer (some ⟨S + 1, 0, none⟩)] T o t l W0 (QM o l P) hr0 h0 h1 (fun args w => run_enter Tryz.func154 (by kernel_rfl) rfl args w) (fun W hrW hfW hsW =>
   get1CC_any T o S t l w W gf recv P hrW h0 h1 h3 (o0.fr hfW (by omega)) (o1.fr hfW (by omega)) (hfr0.trans hfW) eg hf)
  have HO := Lib.hid o0
  have HFR := Lib.hid hfr0
  clear hf hr hP hb0 hfr0 o0 o1 hr0 h0 h1 h3 hT
  go_enter Tryz.func108, Tryz.ntmps108
  go_wp2_with fail
  rw [← hW0]
  refine hdo.mono ?_
  rintro e w1 ⟨rfl, hf1, W', l', ⟨M, m3, hp, hlen, hel⟩, hf2, hsz, hr1, k0, k1⟩
  have q0 : w1.cell? ⟨S, 0, none⟩ = some (.pointer (some ⟨T, o, none⟩)) := (HO.out.fr hf1 (by have := HTS.out; omega)).cell
  have q3 : w1.cell? ⟨T, o + 3, none⟩ = some (.map (some M)) := hr1.cell (by rw [set_ne (by omega), set_ne (by omega)]; exact m3)
  have HQ : Hid (Fr w w1 (· = T) ∧ P w1 M ∧ ∃ l2, Row w1 T t l2 ∧ Lk l2 o (P w1) ∧ Else l l2 o) := Lib.hid ⟨HFR.out.trans hf1, HP.out _ _ _ hp hf2, _, hr1, ⟨set_eq (by rw [set_ne (by omega)]; exact k1), .inr ⟨by rw [set_ne (by omega)]; exact set_eq k0, M, by rw [set_ne (by omega), set_ne (by omega)]; exact m3, HP.out _ _ _ hp hf2⟩⟩, by simp [hlen], fun i i0 i1 i3 => by rw [set_ne (Ne.symm i1), set_ne (Ne.symm i0)]; exact hel i i0 i1 i3⟩
  clear hdo hf1 hf2 hr1 hel hp m3 k0 k1
  go_wp2
  go_ret
  exact ⟨M, rfl, HQ.out.2.1, HQ.out.1, HQ.out.2.2⟩
 ·have hdo := do_done ⟨T, o, none⟩ (.func (.func 154) #[] #[.pointer (some ⟨S, 0, none⟩), .pointer (some ⟨S + 1, 0, none⟩)]) W0 (hr0.cell h0)
  have q0 := o0.cell
  have q3 : W0.cell? ⟨T, o + 3, none⟩ = some (.map (some M)) := hr0.cell h3
  have HQ : Hid (Fr w W0 (· = T) ∧ P W0 M ∧ ∃ l2, Row W0 T t l2 ∧ Lk l2 o (P W0) ∧ Else l l2 o) := Lib.hid ⟨.of_below hb0, hP _ _ _ hp (.of_below hb0), l, hr0, ⟨h1, .inr ⟨h0, M, h3, hP _ _ _ hp (.of_below hb0)⟩⟩, rfl, fun _ _ _ _ => rfl⟩
  clear hf hr hP hb0 o0 o1 hr0 h0 h1 h3 hT hp
  go_enter Tryz.func108, Tryz.ntmps108
  go_wp2_with fail
  rw [← hW0]
  refine hdo.mono ?_
  rintro e w1 ⟨rfl, rfl⟩
  clear hdo hW0
  go_wp2
  go_ret
  exact ⟨M, rfl, HQ.out.2.1, HQ.out.1, HQ.out.2.2⟩
set_option maxRecDepth 100000 in
set_option maxHeartbeats 1600000 in
theorem get1SR_any (T o A : Nat) (t : TypeId) (l : List Value) (w W : World) (gf : Nat) (recv : Value) (P : World → Nat → Prop) (hr : Row W T t (l.set (o + 1) (.int .i32 1))) (h0 : l[o]? = some (.int .u32 0)) (h1 : l[o + 1]? = some (.int .i32 0)) (h3 : l[o + 3]? = some (.map none))
  (hA0 : One W A 287 (.pointer (some ⟨T, o, none⟩))) (hA1 : One W (A + 1) 264 (.func (.func gf) #[recv] #[])) (hw : Fr w W (· = T))
  (eg : ∀ args w, (callFunc gf args).run Tryz.prog w = .ok (.enter gf args) w) (hf : Fills gf recv .string T o t w l P) :
  Calls Tryz.prog 208 #[.pointer (some ⟨A, 0, none⟩), .pointer (some ⟨A + 1, 0, none⟩)] W fun e W' => e = .returned (.tuple #[]) ∧ Fr W W' (· = T) ∧ ∃ l', Row W' T t l' ∧ l'[o]? = some (.int .u32 0) ∧ l'[o + 1]? = some (.int .i32 1) ∧ QM o l P W' l' := by
 have c3 : (l.set (o + 1) (.int .i32 1))[o + 3]? = some (.map none) := by rw [set_ne (by omega)]; exact h3
 have hT := hr.lt
 have a0 := hA0.cell
 have a1 := hA1.cell
 have n0 : A ≠ T := by
  intro e
  have := hA0
  unfold One at this
  rw [e, show W.heap[T]? = _ from hr] at this
  injection this with this
  injection this with this _ _
  have := congrArg Array.size this
  simp at this
  have := (List.getElem?_eq_some_iff.1 h3).1
  omega
 have n1 : A + 1 ≠ T := by
  intro e
  have := hA1
  unfold One at this
  rw [e, show W.heap[T]? = _ from hr] at this
  injection this with this
  injection this with this _ _
  have := congrArg Array.size this
  simp at this
  have := (List.getElem?_eq_some_iff.1 h3).1
  omega
 obtain ⟨W1, hW1⟩ : ∃ W1, W1 = (W.alloc (.map #[] 0)).setCell ⟨T, o + 3, none⟩ (.map (some W.heap.size)) := ⟨_, rfl⟩
 have hr1 : Row W1 T t ((l.set (o + 1) (.int .i32 1)).set (o + 3) (.map (some W.heap.size))) := by rw [hW1]; exact (hr.alloc _).set _ _
 have hm : MapIs W1 W.heap.size .string [] := by rw [hW1]; exact mapis_new_set hr
 have hf1 : Fr W W1 (· = T) := by rw [hW1]; exact ((Fr.refl W _).alloc _).setT _ _
 have hcall := hf W1.drew W.heap.size (hw.trans hf1).drew hr1.drew hw.size (hm.drewN 1)
 have b0 : W1.cell? ⟨A, 0, none⟩ = some (.pointer (some ⟨T, o, none⟩)) := (hA0.fr hf1 n0).cell
 have b1 : W1.cell? ⟨A + 1, 0, none⟩ = some (.func (.func gf) #[recv] #[]) := (hA1.fr hf1 n1).cell
 have b3 : W1.cell? ⟨T, o + 3, none⟩ = some (.map (some W.heap.size)) := hr1.cell (set_eq c3)
 have hmm := @run_makeMap Tryz.prog
 have d3 : W.cell? ⟨T, o + 3, none⟩ = some (.map none) := hr.cell c3
 have d4 := hr.frozen (o + 3)
 have d5 : (W.alloc (.map #[] 0)).cell? ⟨T, o + 3, none⟩ = some (.map none) := (hr.alloc (.map #[] 0)).cell c3
 have d6 := (hr.alloc (.map #[] 0)).frozen (o + 3)
 have HF := Lib.hid hf1
 have HR := Lib.hid hr1
 have HT : Hid (T < W.heap.size) := Lib.hid hT
 have H0 := Lib.hid h0
 have H1 := Lib.hid h1
 have H3 := Lib.hid c3
 clear hf hf1 hr hr1 hm hA0 hA1 n0 n1 hw h0 h1 h3 c3 hT
 go_enter Tryz.func208, Tryz.ntmps208
 have HB0 := Lib.hid b0
 have HB1 := Lib.hid b1
 have HB3 := Lib.hid b3
 have HAT : Hid (A < W1.heap.size ∧ A + 1 < W1.heap.size ∧ W.heap.size ≠ A ∧ W.heap.size ≠ A + 1) := Lib.hid ⟨World.block_lt_of_cell? _ _ b0, World.block_lt_of_cell? _ _ b1, by have := World.block_lt_of_cell? _ _ a0; show W.heap.size ≠ A; simp only at this; omega, by have := World.block_lt_of_cell? _ _ a1; simp only at this; omega⟩
 go_wp2
 rw [← hW1]
 clear hW1
 refine wp_region_held (S := fun W' : World => W'.cell? ⟨A, 0, none⟩ = some (.pointer (some ⟨T, o, none⟩)) ∧ W'.cell? ⟨A + 1, 0, none⟩ = some (.func (.func gf) #[recv] #[]) ∧ W'.cell? ⟨T, o + 3, none⟩ = some (.map (some W.heap.size))) (by kernel_rfl) ?_
 change wpAnyH _ _ _ _ _ _ _ _ W1.drew
 have hS1 : (fun W' : World => W'.cell? ⟨A, 0, none⟩ = some (.pointer (some ⟨T, o, none⟩)) ∧ W'.cell? ⟨A + 1, 0, none⟩ = some (.func (.func gf) #[recv] #[]) ∧ W'.cell? ⟨T, o + 3, none⟩ = some (.map (some W.heap.size))) W1.drew := ⟨b0, b1, b3⟩
 iterate 5 (refine wpH rfl rfl ?_; try simp only [Act.put, g1, g2, g3, g4, g5, g6])
 refine wpAnyH_one (i := 5) (by kernel_rfl) rfl (fun K hK => ?_)
 simp only [g4, g5, g6]
 go_simp
 go_at_fn gf
 refine hcall.mono ?_
 rintro e w2 ⟨rfl, hf2, hp⟩
 have hS2 : (fun W' : World => W'.cell? ⟨A, 0, none⟩ = some (.pointer (some ⟨T, o, none⟩)) ∧ W'.cell? ⟨A + 1, 0, none⟩ = some (.func (.func gf) #[recv] #[]) ∧ W'.cell? ⟨T, o + 3, none⟩ = some (.map (some W.heap.size))) w2 :=
  ⟨(World.cell?_of_block (hf2.block A HAT.out.1 (Ne.symm HAT.out.2.2.1))).trans HB0.out, (World.cell?_of_block (hf2.block (A + 1) HAT.out.2.1 (Ne.symm HAT.out.2.2.2))).trans HB1.out, (World.cell?_of_block (hf2.block T HR.out.lt (by have := HT.out; omega))).trans HB3.out⟩
 refine hK.out _ _ hS2 (fun _ => ?_)
 refine wpAnyH_done (by kernel_rfl) ?_ _
 go_end0
 refine ⟨rfl, HF.out.drew.next hf2 (by intro j hj e; omega), _, HR.out.drew.fr hf2 (by have := HT.out; omega), ?_, ?_, W.heap.size, ?_, hp, ?_⟩
 ·rw [set_ne (by omega), set_ne (by omega)]; exact H0.out
 ·rw [set_ne (by omega)]; exact set_eq H1.out
 ·exact set_eq H3.out
 ·exact ⟨by simp, fun i i0 i1 i3 => by rw [set_ne (Ne.symm i3), set_ne (Ne.symm i1)]⟩
set_option maxRecDepth 100000 in
set_option maxHeartbeats 1600000 in
theorem getSR_any (T o : Nat) (t : TypeId) (l : List Value) (w : World) (gf : Nat) (recv : Value) (P : World → Nat → Prop) (hr : Row w T t l) (hk : Lk l o (P w)) (hP : ∀ W W' M, P W M → Fr W W' (· = T) → P W' M)
  (eg : ∀ args w, (callFunc gf args).run Tryz.prog w = .ok (.enter gf args) w) (hf : Fills gf recv .string T o t w l P) :
  Calls Tryz.prog 178 #[.pointer (some ⟨T, o, none⟩), .func (.func gf) #[recv] #[]] w fun e w' => ∃ M, e = .returned (.map (some M)) ∧ P w' M ∧ Fr w w' (· = T) ∧ ∃ l', Row w' T t l' ∧ Lk l' o (P w') ∧ Else l l' o := by
 have hT := hr.lt
 obtain ⟨S, hS⟩ : ∃ S, w.heap.size = S := ⟨_, rfl⟩
 obtain ⟨W0, hW0⟩ : ∃ W0, W0 = (w.alloc (.cells #[.pointer (some ⟨T, o, none⟩)] 287)).alloc (.cells #[.func (.func gf) #[recv] #[]] 264) := ⟨_, rfl⟩
 have hb0 : Below w.heap.size w W0 := by rw [hW0]; exact ((Below.refl _ _).alloc (by omega) _).alloc (by simp) _
 have hr0 : Row W0 T t l := hr.below hb0
 have o0 : One W0 S 287 (.pointer (some ⟨T, o, none⟩)) := by
  unfold One
  rw [hW0, heap_lt _ _ (by simp; omega), ← hS]
  exact heap_new _ _
 have o1 : One W0 (S + 1) 264 (.func (.func gf) #[recv] #[]) := by
  have : (w.alloc (.cells #[.pointer (some ⟨T, o, none⟩)] 287)).heap.size = S + 1 := by simp [hS]
  unfold One
  rw [hW0, ← this]
  exact heap_new _ _
 have hmf : ∀ (fn : Fn) (first cap : Array Value) (w : World), (Instr.makeFunc fn first cap).run Tryz.prog w = .ok (.func fn first cap) w := fun _ _ _ _ => rfl
 obtain ⟨h1, hk⟩ := hk
 have HB := Lib.hid hb0
 have HP := Lib.hid hP
 have HTS : Hid (T < S) := Lib.hid (by omega)
 rcases hk with ⟨h0, h3⟩ | ⟨h0, M, h3, hp⟩
 ·have hfr0 : Fr w W0 (· = T) := .of_below hb0
  have hdo := do_first 208 #[.pointer (some ⟨S, 0, none⟩), .pointer (some ⟨S + 1, 0, none⟩)] T o t l W0 (QM o l P) hr0 h0 h1 (fun args w => run_enter Tryz.func208 (by kernel_rfl) rfl args w) (fun W hrW hfW hsW =>
   get1SR_any T o S t l w W gf recv P hrW h0 h1 h3 (o0.fr hfW (by omega)) (o1.fr hfW (by omega)) (hfr0.trans hfW) eg hf)
  have HO := Lib.hid o0
  have HFR := Lib.hid hfr0
  clear hf hr hP hb0 hfr0 o0 o1 hr0 h0 h1 h3 hT
  go_enter Tryz.func178, Tryz.ntmps178
  go_wp2_with fail
  rw [← hW0]
  refine hdo.mono ?_
  rintro e w1 ⟨rfl, hf1, W', l', ⟨M, m3, hp, hlen, hel⟩, hf2, hsz, hr1, k0, k1⟩
  have q0 : w1.cell? ⟨S, 0, none⟩ = some (.pointer (some ⟨T, o, none⟩)) := (HO.out.fr hf1 (by have := HTS.out; omega)).cell
  have q3 : w1.cell? ⟨T, o + 3, none⟩ = some (.map (some M)) := hr1.cell (by rw [set_ne (by omega), set_ne (by omega)]; exact m3)
  have HQ : Hid (Fr w w1 (· = T) ∧ P w1 M ∧ ∃ l2, Row w1 T t l2 ∧ Lk l2 o (P w1) ∧ Else l l2 o) := Lib.hid ⟨HFR.out.trans hf1, HP.out _ _ _ hp hf2, _, hr1, ⟨set_eq (by rw [set_ne (by omega)]; exact k1), .inr ⟨by rw [set_ne (by omega)]; exact set_eq k0, M, by rw [set_ne (by omega), set_ne (by omega)]; exact m3, HP.out _ _ _ hp hf2⟩⟩, by simp [hlen], fun i i0 i1 i3 => by rw [set_ne (Ne.symm i1), set_ne (Ne.symm i0)]; exact hel i i0 i1 i3⟩
  clear hdo hf1 hf2 hr1 hel hp m3 k0 k1
  go_wp2
  go_ret
  exact ⟨M, rfl, HQ.out.2.1, HQ.out.1, HQ.out.2.2⟩
 ·have hdo := do_done ⟨T, o, none⟩ (.func (.func 208) #[] #[.pointer (some ⟨S, 0, none⟩), .pointer (some ⟨S + 1, 0, none⟩)]) W0 (hr0.cell h0)
  have q0 := o0.cell
  have q3 : W0.cell? ⟨T, o + 3, none⟩ = some (.map (some M)) := hr0.cell h3
  have HQ : Hid (Fr w W0 (· = T) ∧ P W0 M ∧ ∃ l2, Row W0 T t l2 ∧ Lk l2 o (P W0) ∧ Else l l2 o) := Lib.hid ⟨.of_below hb0, hP _ _ _ hp (.of_below hb0), l, hr0, ⟨h1, .inr ⟨h0, M, h3, hP _ _ _ hp (.of_below hb0)⟩⟩, rfl, fun _ _ _ _ => rfl⟩
  clear hf hr hP hb0 o0 o1 hr0 h0 h1 h3 hT hp
  go_enter Tryz.func178, Tryz.ntmps178
  go_wp2_with fail
  rw [← hW0]
  refine hdo.mono ?_
  rintro e w1 ⟨rfl, rfl⟩
  clear hdo hW0
  go_wp2
  go_ret
  exact ⟨M, rfl, HQ.out.2.1, HQ.out.1, HQ.out.2.2⟩
set_option maxRecDepth 100000 in
set_option maxHeartbeats 1600000 in
theorem get1SI_any (T o A : Nat) (t : TypeId) (l : List Value) (w W : World) (gf : Nat) (recv : Value) (P : World → Nat → Prop) (hr : Row W T t (l.set (o + 1) (.int .i32 1))) (h0 : l[o]? = some (.int .u32 0)) (h1 : l[o + 1]? = some (.int .i32 0)) (h3 : l[o + 3]? = some (.map none))
  (hA0 : One W A 265 (.pointer (some ⟨T, o, none⟩))) (hA1 : One W (A + 1) 225 (.func (.func gf) #[recv] #[])) (hw : Fr w W (· = T))
  (eg : ∀ args w, (callFunc gf args).run Tryz.prog w = .ok (.enter gf args) w) (hf : Fills gf recv .string T o t w l P) :
  Calls Tryz.prog 180 #[.pointer (some ⟨A, 0, none⟩), .pointer (some ⟨A + 1, 0, none⟩)] W fun e W' => e = .returned (.tuple #[]) ∧ Fr W W' (· = T) ∧ ∃ l', Row W' T t l' ∧ l'[o]? = some (.int .u32 0) ∧ l'[o + 1]? = some (.int .i32 1) ∧ QM o l P W' l' := by
 have c3 : (l.set (o + 1) (.int .i32 1))[o + 3]? = some (.map none) := by rw [set_ne (by omega)]; exact h3
 have hT := hr.lt
 have a0 := hA0.cell
 have a1 := hA1.cell
 have n0 : A ≠ T := by
  intro e
  have := hA0
  unfold One at this
  rw [e, show W.heap[T]? = _ from hr] at this
  injection this with this
  injection this with this _ _
  have := congrArg Array.size this
  simp at this
  have := (List.getElem?_eq_some_iff.1 h3).1
  omega
 have n1 : A + 1 ≠ T := by
  intro e
  have := hA1
  unfold One at this
  rw [e, show W.heap[T]? = _ from hr] at this
  injection this with this
  injection this with this _ _
  have := congrArg Array.size this
  simp at this
  have := (List.getElem?_eq_some_iff.1 h3).1
  omega
 obtain ⟨W1, hW1⟩ : ∃ W1, W1 = (W.alloc (.map #[] 0)).setCell ⟨T, o + 3, none⟩ (.map (some W.heap.size)) := ⟨_, rfl⟩
 have hr1 : Row W1 T t ((l.set (o + 1) (.int .i32 1)).set (o + 3) (.map (some W.heap.size))) := by rw [hW1]; exact (hr.alloc _).set _ _
 have hm : MapIs W1 W.heap.size .string [] := by rw [hW1]; exact mapis_new_set hr
 have hf1 : Fr W W1 (· = T) := by rw [hW1]; exact ((Fr.refl W _).alloc _).setT _ _
 have hcall := hf W1.drew W.heap.size (hw.trans hf1).drew hr1.drew hw.size (hm.drewN 1)
 have b0 : W1.cell? ⟨A, 0, none⟩ = some (.pointer (some ⟨T, o, none⟩)) := (hA0.fr hf1 n0).cell
 have b1 : W1.cell? ⟨A + 1, 0, none⟩ = some (.func (.func gf) #[recv] #[]) := (hA1.fr hf1 n1).cell
 have b3 : W1.cell? ⟨T, o + 3, none⟩ = some (.map (some W.heap.size)) := hr1.cell (set_eq c3)
 have hmm := @run_makeMap Tryz.prog
 have d3 : W.cell? ⟨T, o + 3, none⟩ = some (.map none) := hr.cell c3
 have d4 := hr.frozen (o + 3)
 have d5 : (W.alloc (.map #[] 0)).cell? ⟨T, o + 3, none⟩ = some (.map none) := (hr.alloc (.map #[] 0)).cell c3
 have d6 := (hr.alloc (.map #[] 0)).frozen (o + 3)
 have HF := Lib.hid hf1
 have HR := Lib.hid hr1
 have HT : Hid (T < W.heap.size) := Lib.hid hT
 have H0 := Lib.hid h0
 have H1 := Lib.hid h1
 have H3 := Lib.hid c3
 clear hf hf1 hr hr1 hm hA0 hA1 n0 n1 hw h0 h1 h3 c3 hT
 go_enter Tryz.func180, Tryz.ntmps180
 have HB0 := Lib.hid b0
 have HB1 := Lib.hid b1
 have HB3 := Lib.hid b3
 have HAT : Hid (A < W1.heap.size ∧ A + 1 < W1.heap.size ∧ W.heap.size ≠ A ∧ W.heap.size ≠ A + 1) := Lib.hid ⟨World.block_lt_of_cell? _ _ b0, World.block_lt_of_cell? _ _ b1, by have := World.block_lt_of_cell? _ _ a0; show W.heap.size ≠ A; simp only at this; omega, by have := World.block_lt_of_cell? _ _ a1; simp only at this; omega⟩
 go_wp2
 rw [← hW1]
 clear hW1
 refine wp_region_held (S := fun W' : World => W'.cell? ⟨A, 0, none⟩ = some (.pointer (some ⟨T, o, none⟩)) ∧ W'.cell? ⟨A + 1, 0, none⟩ = some (.func (.func gf) #[recv] #[]) ∧ W'.cell? ⟨T, o + 3, none⟩ = some (.map (some W.heap.size))) (by kernel_rfl) ?_
 change wpAnyH _ _ _ _ _ _ _ _ W1.drew
 have hS1 : (fun W' : World => W'.cell? ⟨A, 0, none⟩ = some (.pointer (some ⟨T, o, none⟩)) ∧ W'.cell? ⟨A + 1, 0, none⟩ = some (.func (.func gf) #[recv] #[]) ∧ W'.cell? ⟨T, o + 3, none⟩ = some (.map (some W.heap.size))) W1.drew := ⟨b0, b1, b3⟩
 iterate 5 (refine wpH rfl rfl ?_; try simp only [Act.put, g1, g2, g3, g4, g5, g6])
 refine wpAnyH_one (i := 5) (by kernel_rfl) rfl (fun K hK => ?_)
 simp only [g4, g5, g6]
 go_simp
 go_at_fn gf
 refine hcall.mono ?_
 rintro e w2 ⟨rfl, hf2, hp⟩
 have hS2 : (fun W' : World => W'.cell? ⟨A, 0, none⟩ = some (.pointer (some ⟨T, o, none⟩)) ∧ W'.cell? ⟨A + 1, 0, none⟩ = some (.func (.func gf) #[recv] #[]) ∧ W'.cell? ⟨T, o + 3, none⟩ = some (.map (some W.heap.size))) w2 :=
  ⟨(World.cell?_of_block (hf2.block A HAT.out.1 (Ne.symm HAT.out.2.2.1))).trans HB0.out, (World.cell?_of_block (hf2.block (A + 1) HAT.out.2.1 (Ne.symm HAT.out.2.2.2))).trans HB1.out, (World.cell?_of_block (hf2.block T HR.out.lt (by have := HT.out; omega))).trans HB3.out⟩
 refine hK.out _ _ hS2 (fun _ => ?_)
 refine wpAnyH_done (by kernel_rfl) ?_ _
 go_end0
 refine ⟨rfl, HF.out.drew.next hf2 (by intro j hj e; omega), _, HR.out.drew.fr hf2 (by have := HT.out; omega), ?_, ?_, W.heap.size, ?_, hp, ?_⟩
 ·rw [set_ne (by omega), set_ne (by omega)]; exact H0.out
 ·rw [set_ne (by omega)]; exact set_eq H1.out
 ·exact set_eq H3.out
 ·exact ⟨by simp, fun i i0 i1 i3 => by rw [set_ne (Ne.symm i3), set_ne (Ne.symm i1)]⟩
set_option maxRecDepth 100000 in
set_option maxHeartbeats 1600000 in
theorem getSI_any (T o : Nat) (t : TypeId) (l : List Value) (w : World) (gf : Nat) (recv : Value) (P : World → Nat → Prop) (hr : Row w T t l) (hk : Lk l o (P w)) (hP : ∀ W W' M, P W M → Fr W W' (· = T) → P W' M)
  (eg : ∀ args w, (callFunc gf args).run Tryz.prog w = .ok (.enter gf args) w) (hf : Fills gf recv .string T o t w l P) :
  Calls Tryz.prog 142 #[.pointer (some ⟨T, o, none⟩), .func (.func gf) #[recv] #[]] w fun e w' => ∃ M, e = .returned (.map (some M)) ∧ P w' M ∧ Fr w w' (· = T) ∧ ∃ l', Row w' T t l' ∧ Lk l' o (P w') ∧ Else l l' o := by
 have hT := hr.lt
 obtain ⟨S, hS⟩ : ∃ S, w.heap.size = S := ⟨_, rfl⟩
 obtain ⟨W0, hW0⟩ : ∃ W0, W0 = (w.alloc (.cells #[.pointer (some ⟨T, o, none⟩)] 265)).alloc (.cells #[.func (.func gf) #[recv] #[]] 225) := ⟨_, rfl⟩
 have hb0 : Below w.heap.size w W0 := by rw [hW0]; exact ((Below.refl _ _).alloc (by omega) _).alloc (by simp) _
 have hr0 : Row W0 T t l := hr.below hb0
 have o0 : One W0 S 265 (.pointer (some ⟨T, o, none⟩)) := by
  unfold One
  rw [hW0, heap_lt _ _ (by simp; omega), ← hS]
  exact heap_new _ _
 have o1 : One W0 (S + 1) 225 (.func (.func gf) #[recv] #[]) := by
  have : (w.alloc (.cells #[.pointer (some ⟨T, o, none⟩)] 265)).heap.size = S + 1 := by simp [hS]
  unfold One
  rw [hW0, ← this]
  exact heap_new _ _
 have hmf : ∀ (fn : Fn) (first cap : Array Value) (w : World), (Instr.makeFunc fn first cap).run Tryz.prog w = .ok (.func fn first cap) w := fun _ _ _ _ => rfl
 obtain ⟨h1, hk⟩ := hk
 have HB := Lib.hid hb0
 have HP := Lib.hid hP
 have HTS : Hid (T < S) := Lib.hid (by omega)
 rcases hk with ⟨h0, h3⟩ | ⟨h0, M, h3, hp⟩
 ·have hfr0 : Fr w W0 (· = T) := .of_below hb0
  have hdo := do_first 180 #[.pointer (some ⟨S, 0, none⟩), .pointer (some ⟨S + 1, 0, none⟩)] T o t l W0 (QM o l P) hr0 h0 h1 (fun args w => run_enter Tryz.func180 (by kernel_rfl) rfl args w) (fun W hrW hfW hsW =>
   get1SI_any T o S t l w W gf recv P hrW h0 h1 h3 (o0.fr hfW (by omega)) (o1.fr hfW (by omega)) (hfr0.trans hfW) eg hf)
  have HO := Lib.hid o0
  have HFR := Lib.hid hfr0
  clear hf hr hP hb0 hfr0 o0 o1 hr0 h0 h1 h3 hT
  go_enter Tryz.func142, Tryz.ntmps142
  go_wp2_with fail
  rw [← hW0]
  refine hdo.mono ?_
  rintro e w1 ⟨rfl, hf1, W', l', ⟨M, m3, hp, hlen, hel⟩, hf2, hsz, hr1, k0, k1⟩
  have q0 : w1.cell? ⟨S, 0, none⟩ = some (.pointer (some ⟨T, o, none⟩)) := (HO.out.fr hf1 (by have := HTS.out; omega)).cell
  have q3 : w1.cell? ⟨T, o + 3, none⟩ = some (.map (some M)) := hr1.cell (by rw [set_ne (by omega), set_ne (by omega)]; exact m3)
  have HQ : Hid (Fr w w1 (· = T) ∧ P w1 M ∧ ∃ l2, Row w1 T t l2 ∧ Lk l2 o (P w1) ∧ Else l l2 o) := Lib.hid ⟨HFR.out.trans hf1, HP.out _ _ _ hp hf2, _, hr1, ⟨set_eq (by rw [set_ne (by omega)]; exact k1), .inr ⟨by rw [set_ne (by omega)]; exact set_eq k0, M, by rw [set_ne (by omega), set_ne (by omega)]; exact m3, HP.out _ _ _ hp hf2⟩⟩, by simp [hlen], fun i i0 i1 i3 => by rw [set_ne (Ne.symm i1), set_ne (Ne.symm i0)]; exact hel i i0 i1 i3⟩
  clear hdo hf1 hf2 hr1 hel hp m3 k0 k1
  go_wp2
  go_ret
  exact ⟨M, rfl, HQ.out.2.1, HQ.out.1, HQ.out.2.2⟩
 ·have hdo := do_done ⟨T, o, none⟩ (.func (.func 180) #[] #[.pointer (some ⟨S, 0, none⟩), .pointer (some ⟨S + 1, 0, none⟩)]) W0 (hr0.cell h0)
  have q0 := o0.cell
  have q3 : W0.cell? ⟨T, o + 3, none⟩ = some (.map (some M)) := hr0.cell h3
  have HQ : Hid (Fr w W0 (· = T) ∧ P W0 M ∧ ∃ l2, Row W0 T t l2 ∧ Lk l2 o (P W0) ∧ Else l l2 o) := Lib.hid ⟨.of_below hb0, hP _ _ _ hp (.of_below hb0), l, hr0, ⟨h1, .inr ⟨h0, M, h3, hP _ _ _ hp (.of_below hb0)⟩⟩, rfl, fun _ _ _ _ => rfl⟩
  clear hf hr hP hb0 o0 o1 hr0 h0 h1 h3 hT hp
  go_enter Tryz.func142, Tryz.ntmps142
  go_wp2_with fail
  rw [← hW0]
  refine hdo.mono ?_
  rintro e w1 ⟨rfl, rfl⟩
  clear hdo hW0
  go_wp2
  go_ret
  exact ⟨M, rfl, HQ.out.2.1, HQ.out.1, HQ.out.2.2⟩
set_option maxRecDepth 100000 in
set_option maxHeartbeats 1600000 in
theorem get1SC_any (T o A : Nat) (t : TypeId) (l : List Value) (w W : World) (gf : Nat) (recv : Value) (P : World → Nat → Prop) (hr : Row W T t (l.set (o + 1) (.int .i32 1))) (h0 : l[o]? = some (.int .u32 0)) (h1 : l[o + 1]? = some (.int .i32 0)) (h3 : l[o + 3]? = some (.map none))
  (hA0 : One W A 288 (.pointer (some ⟨T, o, none⟩))) (hA1 : One W (A + 1) 268 (.func (.func gf) #[recv] #[])) (hw : Fr w W (· = T))
  (eg : ∀ args w, (callFunc gf args).run Tryz.prog w = .ok (.enter gf args) w) (hf : Fills gf recv .string T o t w l P) :
  Calls Tryz.prog 209 #[.pointer (some ⟨A, 0, none⟩), .pointer (some ⟨A + 1, 0, none⟩)] W fun e W' => e = .returned (.tuple #[]) ∧ Fr W W' (· = T) ∧ ∃ l', Row W' T t l' ∧ l'[o]? = some (.int .u32 0) ∧ l'[o + 1]? = some (.int .i32 1) ∧ QM o l P W' l' := by
 have c3 : (l.set (o + 1) (.int .i32 1))[o + 3]? = some (.map none) := by rw [set_ne (by omega)]; exact h3
 have hT := hr.lt
 have a0 := hA0.cell
 have a1 := hA1.cell
 have n0 : A ≠ T := by
  intro e
  have := hA0
  unfold One at this
  rw [e, show W.heap[T]? = _ from hr] at this
  injection this with this
  injection this with this _ _
  have := congrArg Array.size this
  simp at this
  have := (List.getElem?_eq_some_iff.1 h3).1
  omega
 have n1 : A + 1 ≠ T := by
  intro e
  have := hA1
  unfold One at this
  rw [e, show W.heap[T]? = _ from hr] at this
  injection this with this
  injection this with this _ _
  have := congrArg Array.size this
  simp at this
  have := (List.getElem?_eq_some_iff.1 h3).1
  omega
 obtain ⟨W1, hW1⟩ : ∃ W1, W1 = (W.alloc (.map #[] 0)).setCell ⟨T, o + 3, none⟩ (.map (some W.heap.size)) := ⟨_, rfl⟩
 have hr1 : Row W1 T t ((l.set (o + 1) (.int .i32 1)).set (o + 3) (.map (some W.heap.size))) := by rw [hW1]; exact (hr.alloc _).set _ _
 have hm : MapIs W1 W.heap.size .string [] := by rw [hW1]; exact mapis_new_set hr
 have hf1 : Fr W W1 (· = T) := by rw [hW1]; exact ((Fr.refl W _).alloc _).setT _ _
 have hcall := hf W1.drew W.heap.size (hw.trans hf1).drew hr1.drew hw.size (hm.drewN 1)
 have b0 : W1.cell? ⟨A, 0, none⟩ = some (.pointer (some ⟨T, o, none⟩)) := (hA0.fr hf1 n0).cell
 have b1 : W1.cell? ⟨A + 1, 0, none⟩ = some (.func (.func gf) #[recv] #[]) := (hA1.fr hf1 n1).cell
 have b3 : W1.cell? ⟨T, o + 3, none⟩ = some (.map (some W.heap.size)) := hr1.cell (set_eq c3)
 have hmm := @run_makeMap Tryz.prog
 have d3 : W.cell? ⟨T, o + 3, none⟩ = some (.map none) := hr.cell c3
 have d4 := hr.frozen (o + 3)
 have d5 : (W.alloc (.map #[] 0)).cell? ⟨T, o + 3, none⟩ = some (.map none) := (hr.alloc (.map #[] 0)).cell c3
 have d6 := (hr.alloc (.map #[] 0)).frozen (o + 3)
 have HF := Lib.hid hf1
 have HR := Lib.hid hr1
 have HT : Hid (T < W.heap.size) := Lib.hid hT
 have H0 := Lib.hid h0
 have H1 := Lib.hid h1
 have H3 := Lib.hid c3
 clear hf hf1 hr hr1 hm hA0 hA1 n0 n1 hw h0 h1 h3 c3 hT
 go_enter Tryz.func209, Tryz.ntmps209
 have HB0 := Lib.hid b0
 have HB1 := Lib.hid b1
 have HB3 := Lib.hid b3
 have HAT : Hid (A < W1.heap.size ∧ A + 1 < W1.heap.size ∧ W.heap.size ≠ A ∧ W.heap.size ≠ A + 1) := Lib.hid ⟨World.block_lt_of_cell? _ _ b0, World.block_lt_of_cell? _ _ b1, by have := World.block_lt_of_cell? _ _ a0; show W.heap.size ≠ A; simp only at this; omega, by have := World.block_lt_of_cell? _ _ a1; simp only at this; omega⟩
 go_wp2
 rw [← hW1]
 clear hW1
 refine wp_region_held (S := fun W' : World => W'.cell? ⟨A, 0, none⟩ = some (.pointer (some ⟨T, o, none⟩)) ∧ W'.cell? ⟨A + 1, 0, none⟩ = some (.func (.func gf) #[recv] #[]) ∧ W'.cell? ⟨T, o + 3, none⟩ = some (.map (some W.heap.size))) (by kernel_rfl) ?_
 change wpAnyH _ _ _ _ _ _ _ _ W1.drew
 have hS1 : (fun W' : World => W'.cell? ⟨A, 0, none⟩ = some (.pointer (some ⟨T, o, none⟩)) ∧ W'.cell? ⟨A + 1, 0, none⟩ = some (.func (.func gf) #[recv] #[]) ∧ W'.cell? ⟨T, o + 3, none⟩ = some (.map (some W.heap.size))) W1.drew := ⟨b0, b1, b3⟩
 iterate 5 (refine wpH rfl rfl ?_; try simp only [Act.put, g1, g2, g3, g4, g5, g6])
 refine wpAnyH_one (i := 5) (by kernel_rfl) rfl (fun K hK => ?_)
 simp only [g4, g5, g6]
 go_simp
 go_at_fn gf
 refine hcall.mono ?_
 rintro e w2 ⟨rfl, hf2, hp⟩
 have hS2 : (fun W' : World => W'.cell? ⟨A, 0, none⟩ = some (.pointer (some ⟨T, o, none⟩)) ∧ W'.cell? ⟨A + 1, 0, none⟩ = some (.func (.func gf) #[recv] #[]) ∧ W'.cell? ⟨T, o + 3, none⟩ = some (.map (some W.heap.size))) w2 :=
  ⟨(World.cell?_of_block (hf2.block A HAT.out.1 (Ne.symm HAT.out.2.2.1))).trans HB0.out, (World.cell?_of_block (hf2.block (A + 1) HAT.out.2.1 (Ne.symm HAT.out.2.2.2))).trans HB1.out, (World.cell?_of_block (hf2.block T HR.out.lt (by have := HT.out; omega))).trans HB3.out⟩
 refine hK.out _ _ hS2 (fun _ => ?_)
 refine wpAnyH_done (by kernel_rfl) ?_ _
 go_end0
 refine ⟨rfl, HF.out.drew.next hf2 (by intro j hj e; omega), _, HR.out.drew.fr hf2 (by have := HT.out; omega), ?_, ?_, W.heap.size, ?_, hp, ?_⟩
 ·rw [set_ne (by omega), set_ne (by omega)]; exact H0.out
 ·rw [set_ne (by omega)]; exact set_eq H1.out
 ·exact set_eq H3.out
 ·exact ⟨by simp, fun i i0 i1 i3 => by rw [set_ne (Ne.symm i3), set_ne (Ne.symm i1)]⟩
set_option maxRecDepth 100000 in
set_option maxHeartbeats 1600000 in
theorem getSC_any (T o : Nat) (t : TypeId) (l : List Value) (w : World) (gf : Nat) (recv : Value) (P : World → Nat → Prop) (hr : Row w T t l) (hk : Lk l o (P w)) (hP : ∀ W W' M, P W M → Fr W W' (· = T) → P W' M)
  (eg : ∀ args w, (callFunc gf args).run Tryz.prog w = .ok (.enter gf args) w) (hf : Fills gf recv .string T o t w l P) :
  Calls Tryz.prog 182 #[.pointer (some ⟨T, o, none⟩), .func (.func gf) #[recv] #[]] w fun e w' => ∃ M, e = .returned (.map (some M)) ∧ P w' M ∧ Fr w w' (· = T) ∧ ∃ l', Row w' T t l' ∧ Lk l' o (P w') ∧ Else l l' o := by
 have hT := hr.lt
 obtain ⟨S, hS⟩ : ∃ S, w.heap.size = S := ⟨_, rfl⟩
 obtain ⟨W0, hW0⟩ : ∃ W0, W0 = (w.alloc (.cells #[.pointer (some ⟨T, o, none⟩)] 288)).alloc (.cells #[.func (.func gf) #[recv] #[]] 268) := ⟨_, rfl⟩
 have hb0 : Below w.heap.size w W0 := by rw [hW0]; exact ((Below.refl _ _).alloc (by omega) _).alloc (by simp) _
 have hr0 : Row W0 T t l := hr.below hb0
 have o0 : One W0 S 288 (.pointer (some ⟨T, o, none⟩)) := by
  unfold One
  rw [hW0, heap_lt _ _ (by simp; omega), ← hS]
  exact heap_new _ _
 have o1 : One W0 (S + 1) 268 (.func (.func gf) #[recv] #[]) := by
  have : (w.alloc (.cells #[.pointer (some ⟨T, o, none⟩)] 288)).heap.size = S + 1 := by simp [hS]
  unfold One
  rw [hW0, ← this]
  exact heap_new _ _
 have hmf : ∀ (fn : Fn) (first cap : Array Value) (w : World), (Instr.makeFunc fn first cap).run Tryz.prog w = .ok (.func fn first cap) w := fun _ _ _ _ => rfl
 obtain ⟨h1, hk⟩ := hk
 have HB := Lib.hid hb0
 have HP := Lib.hid hP
 have HTS : Hid (T < S) := Lib.hid (by omega)
 rcases hk with ⟨h0, h3⟩ | ⟨h0, M, h3, hp⟩
 ·have hfr0 : Fr w W0 (· = T) := .of_below hb0
  have hdo := do_first 209 #[.pointer (some ⟨S, 0, none⟩), .pointer (some ⟨S + 1, 0, none⟩)] T o t l W0 (QM o l P) hr0 h0 h1 (fun args w => run_enter Tryz.func209 (by kernel_rfl) rfl args w) (fun W hrW hfW hsW =>
   get1SC_any T o S t l w W gf recv P hrW h0 h1 h3 (o0.fr hfW (by omega)) (o1.fr hfW (by omega)) (hfr0.trans hfW) eg hf)
  have HO := Lib.hid o0
  have HFR := Lib.hid hfr0
  clear hf hr hP hb0 hfr0 o0 o1 hr0 h0 h1 h3 hT
  go_enter Tryz.func182, Tryz.ntmps182
  go_wp2_with fail
  rw [← hW0]
  refine hdo.mono ?_
  rintro e w1 ⟨rfl, hf1, W', l', ⟨M, m3, hp, hlen, hel⟩, hf2, hsz, hr1, k0, k1⟩
  have q0 : w1.cell? ⟨S, 0, none⟩ = some (.pointer (some ⟨T, o, none⟩)) := (HO.out.fr hf1 (by have := HTS.out; omega)).cell
  have q3 : w1.cell? ⟨T, o + 3, none⟩ = some (.map (some M)) := hr1.cell (by rw [set_ne (by omega), set_ne (by omega)]; exact m3)
  have HQ : Hid (Fr w w1 (· = T) ∧ P w1 M ∧ ∃ l2, Row w1 T t l2 ∧ Lk l2 o (P w1) ∧ Else l l2 o) := Lib.hid ⟨HFR.out.trans hf1, HP.out _ _ _ hp hf2, _, hr1, ⟨set_eq (by rw [set_ne (by omega)]; exact k1), .inr ⟨by rw [set_ne (by omega)]; exact set_eq k0, M, by rw [set_ne (by omega), set_ne (by omega)]; exact m3, HP.out _ _ _ hp hf2⟩⟩, by simp [hlen], fun i i0 i1 i3 => by rw [set_ne (Ne.symm i1), set_ne (Ne.symm i0)]; exact hel i i0 i1 i3⟩
  clear hdo hf1 hf2 hr1 hel hp m3 k0 k1
  go_wp2
  go_ret
  exact ⟨M, rfl, HQ.out.2.1, HQ.out.1, HQ.out.2.2⟩
 ·have hdo := do_done ⟨T, o, none⟩ (.func (.func 209) #[] #[.pointer (some ⟨S, 0, none⟩), .pointer (some ⟨S + 1, 0, none⟩)]) W0 (hr0.cell h0)
  have q0 := o0.cell
  have q3 : W0.cell? ⟨T, o + 3, none⟩ = some (.map (some M)) := hr0.cell h3
  have HQ : Hid (Fr w W0 (· = T) ∧ P W0 M ∧ ∃ l2, Row W0 T t l2 ∧ Lk l2 o (P W0) ∧ Else l l2 o) := Lib.hid ⟨.of_below hb0, hP _ _ _ hp (.of_below hb0), l, hr0, ⟨h1, .inr ⟨h0, M, h3, hP _ _ _ hp (.of_below hb0)⟩⟩, rfl, fun _ _ _ _ => rfl⟩
  clear hf hr hP hb0 o0 o1 hr0 h0 h1 h3 hT hp
  go_enter Tryz.func182, Tryz.ntmps182
  go_wp2_with fail
  rw [← hW0]
  refine hdo.mono ?_
  rintro e w1 ⟨rfl, rfl⟩
  clear hdo hW0
  go_wp2
  go_ret
  exact ⟨M, rfl, HQ.out.2.1, HQ.out.1, HQ.out.2.2⟩
set_option maxRecDepth 100000 in
set_option maxHeartbeats 1600000 in
theorem get1II_any (T o A : Nat) (t : TypeId) (l : List Value) (w W : World) (gf : Nat) (recv : Value) (P : World → Nat → Prop) (hr : Row W T t (l.set (o + 1) (.int .i32 1))) (h0 : l[o]? = some (.int .u32 0)) (h1 : l[o + 1]? = some (.int .i32 0)) (h3 : l[o + 3]? = some (.map none))
  (hA0 : One W A 266 (.pointer (some ⟨T, o, none⟩))) (hA1 : One W (A + 1) 228 (.func (.func gf) #[recv] #[])) (hw : Fr w W (· = T))
  (eg : ∀ args w, (callFunc gf args).run Tryz.prog w = .ok (.enter gf args) w) (hf : Fills gf recv (.int .i64) T o t w l P) :
  Calls Tryz.prog 181 #[.pointer (some ⟨A, 0, none⟩), .pointer (some ⟨A + 1, 0, none⟩)] W fun e W' => e = .returned (.tuple #[]) ∧ Fr W W' (· = T) ∧ ∃ l', Row W' T t l' ∧ l'[o]? = some (.int .u32 0) ∧ l'[o + 1]? = some (.int .i32 1) ∧ QM o l P W' l' := by
 have c3 : (l.set (o + 1) (.int .i32 1))[o + 3]? = some (.map none) := by rw [set_ne (by omega)]; exact h3
 have hT := hr.lt
 have a0 := hA0.cell
 have a1 := hA1.cell
 have n0 : A ≠ T := by
  intro e
  have := hA0
  unfold One at this
  rw [e, show W.heap[T]? = _ from hr] at this
  injection this with this
  injection this with this _ _
  have := congrArg Array.size this
  simp at this
  have := (List.getElem?_eq_some_iff.1 h3).1
  omega
 have n1 : A + 1 ≠ T := by
  intro e
  have := hA1
  unfold One at this
  rw [e, show W.heap[T]? = _ from hr] at this
  injection this with this
  injection this with this _ _
  have := congrArg Array.size this
  simp at this
  have := (List.getElem?_eq_some_iff.1 h3).1
  omega
 obtain ⟨W1, hW1⟩ : ∃ W1, W1 = (W.alloc (.map #[] 0)).setCell ⟨T, o + 3, none⟩ (.map (some W.heap.size)) := ⟨_, rfl⟩
 have hr1 : Row W1 T t ((l.set (o + 1) (.int .i32 1)).set (o + 3) (.map (some W.heap.size))) := by rw [hW1]; exact (hr.alloc _).set _ _
 have hm : MapIs W1 W.heap.size (.int .i64) [] := by rw [hW1]; exact mapis_new_set hr
 have hf1 : Fr W W1 (· = T) := by rw [hW1]; exact ((Fr.refl W _).alloc _).setT _ _
 have hcall := hf W1.drew W.heap.size (hw.trans hf1).drew hr1.drew hw.size (hm.drewN 1)
 have b0 : W1.cell? ⟨A, 0, none⟩ = some (.pointer (some ⟨T, o, none⟩)) := (hA0.fr hf1 n0).cell
 have b1 : W1.cell? ⟨A + 1, 0, none⟩ = some (.func (.func gf) #[recv] #[]) := (hA1.fr hf1 n1).cell
 have b3 : W1.cell? ⟨T, o + 3, none⟩ = some (.map (some W.heap.size)) := hr1.cell (set_eq c3)
 have hmm := @run_makeMap Tryz.prog
 have d3 : W.cell? ⟨T, o + 3, none⟩ = some (.map none) := hr.cell c3
 have d4 := hr.frozen (o + 3)
 have d5 : (W.alloc (.map #[] 0)).cell? ⟨T, o + 3, none⟩ = some (.map none) := (hr.alloc (.map #[] 0)).cell c3
 have d6 := (hr.alloc (.map #[] 0)).frozen (o + 3)
 have HF := Lib.hid hf1
 have HR := Lib.hid hr1
 have HT : Hid (T < W.heap.size) := Lib.hid hT
 have H0 := Lib.hid h0
 have H1 := Lib.hid h1
 have H3 := Lib.hid c3
 clear hf hf1 hr hr1 hm hA0 hA1 n0 n1 hw h0 h1 h3 c3 hT
 go_enter Tryz.func181, Tryz.ntmps181
 have HB0 := Lib.hid b0
 have HB1 := Lib.hid b1
 have HB3 := Lib.hid b3
 have HAT : Hid (A < W1.heap.size ∧ A + 1 < W1.heap.size ∧ W.heap.size ≠ A ∧ W.heap.size ≠ A + 1) := Lib.hid ⟨World.block_lt_of_cell? _ _ b0, World.block_lt_of_cell? _ _ b1, by have := World.block_lt_of_cell? _ _ a0; show W.heap.size ≠ A; simp only at this; omega, by have := World.block_lt_of_cell? _ _ a1; simp only at this; omega⟩
 go_wp2
 rw [← hW1]
 clear hW1
 refine wp_region_held (S := fun W' : World => W'.cell? ⟨A, 0, none⟩ = some (.pointer (some ⟨T, o, none⟩)) ∧ W'.cell? ⟨A + 1, 0, none⟩ = some (.func (.func gf) #[recv] #[]) ∧ W'.cell? ⟨T, o + 3, none⟩ = some (.map (some W.heap.size))) (by kernel_rfl) ?_
 change wpAnyH _ _ _ _ _ _ _ _ W1.drew
 have hS1 : (fun W' : World => W'.cell? ⟨A, 0, none⟩ = some (.pointer (some ⟨T, o, none⟩)) ∧ W'.cell? ⟨A + 1, 0, none⟩ = some (.func (.func gf) #[recv] #[]) ∧ W'.cell? ⟨T, o + 3, none⟩ = some (.map (some W.heap.size))) W1.drew := ⟨b0, b1, b3⟩
 iterate 5 (refine wpH rfl rfl ?_; try simp only [Act.put, g1, g2, g3, g4, g5, g6])
 refine wpAnyH_one (i := 5) (by kernel_rfl) rfl (fun K hK => ?_)
 simp only [g4, g5, g6]
 go_simp
 go_at_fn gf
 refine hcall.mono ?_
 rintro e w2 ⟨rfl, hf2, hp⟩
 have hS2 : (fun W' : World => W'.cell? ⟨A, 0, none⟩ = some (.pointer (some ⟨T, o, none⟩)) ∧ W'.cell? ⟨A + 1, 0, none⟩ = some (.func (.func gf) #[recv] #[]) ∧ W'.cell? ⟨T, o + 3, none⟩ = some (.map (some W.heap.size))) w2 :=
  ⟨(World.cell?_of_block (hf2.block A HAT.out.1 (Ne.symm HAT.out.2.2.1))).trans HB0.out, (World.cell?_of_block (hf2.block (A + 1) HAT.out.2.1 (Ne.symm HAT.out.2.2.2))).trans HB1.out, (World.cell?_of_block (hf2.block T HR.out.lt (by have := HT.out; omega))).trans HB3.out⟩
 refine hK.out _ _ hS2 (fun _ => ?_)
 refine wpAnyH_done (by kernel_rfl) ?_ _
 go_end0
 refine ⟨rfl, HF.out.drew.next hf2 (by intro j hj e; omega), _, HR.out.drew.fr hf2 (by have := HT.out; omega), ?_, ?_, W.heap.size, ?_, hp, ?_⟩
 ·rw [set_ne (by omega), set_ne (by omega)]; exact H0.out
 ·rw [set_ne (by omega)]; exact set_eq H1.out
 ·exact set_eq H3.out
 ·exact ⟨by simp, fun i i0 i1 i3 => by rw [set_ne (Ne.symm i3), set_ne (Ne.symm i1)]⟩
set_option maxRecDepth 100000 in
set_option maxHeartbeats 1600000 in
theorem getII_any (T o : Nat) (t : TypeId) (l : List Value) (w : World) (gf : Nat) (recv : Value) (P : World → Nat → Prop) (hr : Row w T t l) (hk : Lk l o (P w)) (hP : ∀ W W' M, P W M → Fr W W' (· = T) → P W' M)
  (eg : ∀ args w, (callFunc gf args).run Tryz.prog w = .ok (.enter gf args) w) (hf : Fills gf recv (.int .i64) T o t w l P) :
  Calls Tryz.prog 145 #[.pointer (some ⟨T, o, none⟩), .func (.func gf) #[recv] #[]] w fun e w' => ∃ M, e = .returned (.map (some M)) ∧ P w' M ∧ Fr w w' (· = T) ∧ ∃ l', Row w' T t l' ∧ Lk l' o (P w') ∧ Else l l' o := by
 have hT := hr.lt
 obtain ⟨S, hS⟩ : ∃ S, w.heap.size = S := ⟨_, rfl⟩
 obtain ⟨W0, hW0⟩ : ∃ W0, W0 = (w.alloc (.cells #[.pointer (some ⟨T, o, none⟩)] 266)).alloc (.cells #[.func (.func gf) #[recv] #[]] 228) := ⟨_, rfl⟩
 have hb0 : Below w.heap.size w W0 := by rw [hW0]; exact ((Below.refl _ _).alloc (by omega) _).alloc (by simp) _
 have hr0 : Row W0 T t l := hr.below hb0
 have o0 : One W0 S 266 (.pointer (some ⟨T, o, none⟩)) := by
  unfold One
  rw [hW0, heap_lt _ _ (by simp; omega), ← hS]
  exact heap_new _ _
 have o1 : One W0 (S + 1) 228 (.func (.func gf) #[recv] #[]) := by
  have : (w.alloc (.cells #[.pointer (some ⟨T, o, none⟩)] 266)).heap.size = S + 1 := by simp [hS]
  unfold One
  rw [hW0, ← this]
  exact heap_new _ _
 have hmf : ∀ (fn : Fn) (first cap : Array Value) (w : World), (Instr.makeFunc fn first cap).run Tryz.prog w = .ok (.func fn first cap) w := fun _ _ _ _ => rfl
 obtain ⟨h1, hk⟩ := hk
 have HB := Lib.hid hb0
 have HP := Lib.hid hP
 have HTS : Hid (T < S) := Lib.hid (by omega)
 rcases hk with ⟨h0, h3⟩ | ⟨h0, M, h3, hp⟩
 ·have hfr0 : Fr w W0 (· = T) := .of_below hb0
  have hdo := do_first 181 #[.pointer (some ⟨S, 0, none⟩), .pointer (some ⟨S + 1, 0, none⟩)] T o t l W0 (QM o l P) hr0 h0 h1 (fun args w => run_enter Tryz.func181 (by kernel_rfl) rfl args w) (fun W hrW hfW hsW =>
   get1II_any T o S t l w W gf recv P hrW h0 h1 h3 (o0.fr hfW (by omega)) (o1.fr hfW (by omega)) (hfr0.trans hfW) eg hf)
  have HO := Lib.hid o0
  have HFR := Lib.hid hfr0
  clear hf hr hP hb0 hfr0 o0 o1 hr0 h0 h1 h3 hT
  go_enter Tryz.func145, Tryz.ntmps145
  go_wp2_with fail
  rw [← hW0]
  refine hdo.mono ?_
  rintro e w1 ⟨rfl, hf1, W', l', ⟨M, m3, hp, hlen, hel⟩, hf2, hsz, hr1, k0, k1⟩
  have q0 : w1.cell? ⟨S, 0, none⟩ = some (.pointer (some ⟨T, o, none⟩)) := (HO.out.fr hf1 (by have := HTS.out; omega)).cell
  have q3 : w1.cell? ⟨T, o + 3, none⟩ = some (.map (some M)) := hr1.cell (by rw [set_ne (by omega), set_ne (by omega)]; exact m3)
  have HQ : Hid (Fr w w1 (· = T) ∧ P w1 M ∧ ∃ l2, Row w1 T t l2 ∧ Lk l2 o (P w1) ∧ Else l l2 o) := Lib.hid ⟨HFR.out.trans hf1, HP.out _ _ _ hp hf2, _, hr1, ⟨set_eq (by rw [set_ne (by omega)]; exact k1), .inr ⟨by rw [set_ne (by omega)]; exact set_eq k0, M, by rw [set_ne (by omega), set_ne (by omega)]; exact m3, HP.out _ _ _ hp hf2⟩⟩, by simp [hlen], fun i i0 i1 i3 => by rw [set_ne (Ne.symm i1), set_ne (Ne.symm i0)]; exact hel i i0 i1 i3⟩
  clear hdo hf1 hf2 hr1 hel hp m3 k0 k1
  go_wp2
  go_ret
  exact ⟨M, rfl, HQ.out.2.1, HQ.out.1, HQ.out.2.2⟩
 ·have hdo := do_done ⟨T, o, none⟩ (.func (.func 181) #[] #[.pointer (some ⟨S, 0, none⟩), .pointer (some ⟨S + 1, 0, none⟩)]) W0 (hr0.cell h0)
  have q0 := o0.cell
  have q3 : W0.cell? ⟨T, o + 3, none⟩ = some (.map (some M)) := hr0.cell h3
  have HQ : Hid (Fr w W0 (· = T) ∧ P W0 M ∧ ∃ l2, Row W0 T t l2 ∧ Lk l2 o (P W0) ∧ Else l l2 o) := Lib.hid ⟨.of_below hb0, hP _ _ _ hp (.of_below hb0), l, hr0, ⟨h1, .inr ⟨h0, M, h3, hP _ _ _ hp (.of_below hb0)⟩⟩, rfl, fun _ _ _ _ => rfl⟩
  clear hf hr hP hb0 o0 o1 hr0 h0 h1 h3 hT hp
  go_enter Tryz.func145, Tryz.ntmps145
  go_wp2_with fail
  rw [← hW0]
  refine hdo.mono ?_
  rintro e w1 ⟨rfl, rfl⟩
  clear hdo hW0
  go_wp2
  go_ret
  exact ⟨M, rfl, HQ.out.2.1, HQ.out.1, HQ.out.2.2⟩
end Go.Proofs.YthgiikhkcpbpfaaGreatDoor.C
