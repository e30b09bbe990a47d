/-
  Joined: LcH, LeC, LeD, LeE, LeF, LfE, LfM, LfN, LgE, LhC, KoS. Each with what its own head says.
-/
import Derived.OrdersIn
import Derived.RangeFuncNested
import Derived.RangeFuncBound
import Derived.RangeFuncCalls
import Derived.RangeFuncLeaves
import Derived.Shelf.Abstract
import Derived.Shelf.RegionOpen
import Derived.OwnWalkIn
import Derived.TacticsInMore
import Derived.LoopNIn
import Derived.LoopIn
import Derived.Test.YthgiikhkcpbpfaaGreatDoorB06
import Derived.Test.YthgiikhkcpbpfaaGreatDoorB04
import Derived.Test.YthgiikhkcpbpfaaGreatDoorB05


namespace Go.Proofs.YthgiikhkcpbpfaaGreatDoor.C
open Go.RowKit
def Left (ts r : List Tok) : Prop := Ended r ∧ r.length < ts.length ∧ r <:+ ts
theorem Left.trans {a b c : List Tok} (h : Left a b) (k : Left b c) : Left a c := ⟨k.1, Nat.lt_trans k.2.1 h.2.1, k.2.2.trans h.2.2⟩
end Go.Proofs.YthgiikhkcpbpfaaGreatDoor.C


namespace Go.Proofs.YthgiikhkcpbpfaaGreatDoor.C
open Go.RowKit
def prRow (r : Int × Int) : List Value := [.int .i32 r.1, .int .i32 r.2]
def PrsR (w : World) (B : Nat) (v : Value) (l : List (Int × Int)) : Prop := ∃ A c, v = .slice A l.length c ∧ SI 2 w B A l.length (l.map prRow)
def ClsR (w : World) (B : Nat) (v : Value) (cs : List Cls) : Prop := ∃ A c xs, v = .slice A cs.length c ∧ SI 2 w B A cs.length xs ∧ ∀ (i : Nat) (k : Cls), cs[i]? = some k → ∃ u, xs[i]? = some [.string (str k.name), u] ∧ PrsR w B u k.rs ∧ k.name.length ≤ maxLen ∧ k.rs.length ≤ maxLen
def OrdR (w : World) (B : Nat) (v : Value) (o : List Elm) : Prop := ∃ A c xs, v = .slice A o.length c ∧ SI 3 w B A o.length xs ∧ ∀ (i : Nat) (e : Elm), o[i]? = some e → ∃ Ac cc, xs[i]? = some [.string (str e.name), .slice Ac e.cells.length cc, .int .i64 e.same] ∧ RI .i32 w B Ac e.cells.length e.cells ∧ e.name.length ≤ maxLen ∧ e.cells.length ≤ maxLen
section
variable {w w' : World} {B : Nat} {v : Value}
theorem PrsR.keep {l : List (Int × Int)} (h : PrsR w B v l) (hk : ∀ p : Addr, p.block < B → w'.cell? p = w.cell? p) : PrsR w' B v l := by
 obtain ⟨A, c, e, h1⟩ := h
 exact ⟨A, c, e, h1.keep hk⟩
theorem ClsR.keep {l : List Cls} (h : ClsR w B v l) (hk : ∀ p : Addr, p.block < B → w'.cell? p = w.cell? p) : ClsR w' B v l := by
 obtain ⟨A, c, xs, e, h1, h2⟩ := h
 refine ⟨A, c, xs, e, h1.keep hk, fun i k hi => ?_⟩
 obtain ⟨u, a1, a2, a3⟩ := h2 i k hi
 exact ⟨u, a1, a2.keep hk, a3⟩
theorem OrdR.keep {l : List Elm} (h : OrdR w B v l) (hk : ∀ p : Addr, p.block < B → w'.cell? p = w.cell? p) : OrdR w' B v l := by
 obtain ⟨A, c, xs, e, h1, h2⟩ := h
 refine ⟨A, c, xs, e, h1.keep hk, fun i k hi => ?_⟩
 obtain ⟨a, b, a1, a2, a3⟩ := h2 i k hi
 exact ⟨a, b, a1, a2.keep hk, a3⟩
theorem PrsR.on {l : List (Int × Int)} {B' : Nat} (h : PrsR w B v l) (hb : Below B' w w') (hB : B ≤ B') : PrsR w' B v l := h.keep fun p hp => hb.cell (p := p) (by omega)
theorem ClsR.on {l : List Cls} {B' : Nat} (h : ClsR w B v l) (hb : Below B' w w') (hB : B ≤ B') : ClsR w' B v l := h.keep fun p hp => hb.cell (p := p) (by omega)
theorem OrdR.on {l : List Elm} {B' : Nat} (h : OrdR w B v l) (hb : Below B' w w') (hB : B ≤ B') : OrdR w' B v l := h.keep fun p hp => hb.cell (p := p) (by omega)
end
theorem prRow_at {l : List (Int × Int)} {k : Nat} {u v : Value} (h : (l.map prRow)[k]? = some [u, v]) : ∃ r, l[k]? = some r ∧ u = .int .i32 r.1 ∧ v = .int .i32 r.2 := by
 rw [List.getElem?_map] at h
 cases hl : l[k]? with
 | none => rw [hl] at h; cases h
 | some r =>
  rw [hl] at h
  simp [prRow] at h
  exact ⟨r, rfl, h.1.symm, h.2.symm⟩
theorem range_all_true {n : Nat} {f : Nat → Bool} (h : ∀ j, j < n → (!f j) = false) : (List.range n).all f = true := List.all_eq_true.2 fun j hj => by have := h j (List.mem_range.1 hj); simpa using this
theorem range_all_false {n k : Nat} {f : Nat → Bool} (hk : k < n) (h : (!f k) = true) : (List.range n).all f = false := by
 rw [List.all_eq_false]
 exact ⟨k, List.mem_range.2 hk, by simpa using h⟩
def atB {α : Type} (p : α → Bool) (l : List α) (j : Nat) : Bool := match l[j]? with
 | some x => p x
 | none => true
theorem atB_some {α : Type} {p : α → Bool} {l : List α} {j : Nat} {x : α} (h : l[j]? = some x) : atB p l j = p x := by unfold atB; rw [h]
theorem all_range_list {α : Type} (l : List α) (p : α → Bool) : (List.range l.length).all (atB p l) = l.all p := by
 rw [Bool.eq_iff_iff, List.all_eq_true, List.all_eq_true]
 constructor
 ·intro h x hx
  obtain ⟨j, hj, rfl⟩ := List.mem_iff_getElem.1 hx
  have := h j (List.mem_range.2 hj)
  rwa [atB_some (List.getElem?_eq_getElem hj)] at this
 ·intro h j hj
  have hj := List.mem_range.1 hj
  rw [atB_some (List.getElem?_eq_getElem hj)]
  exact h _ (List.getElem_mem hj)
set_option maxRecDepth 100000 in
set_option maxHeartbeats 2000000 in
theorem allRange1_any (W : World) (V0 : Nat) (r : Int × Int) (h : One W V0 65 (.func (.func 87) #[] #[])) :
  Calls Tryz.prog 133 #[.agg #[.int .i32 r.1, .int .i32 r.2], .pointer (some ⟨V0, 0, none⟩)] W fun e w' => e = .returned (.bool (!rangeB r)) ∧ Below W.heap.size W w' := by
 have hi := isRange_any (W.alloc (.cells #[.int .i32 r.1, .int .i32 r.2] 46)) r
 have q0 := (h.alloc (.cells #[.int .i32 r.1, .int .i32 r.2] 46)).cell
 clear h
 obtain ⟨a, b⟩ := r
 go_enter Tryz.func133, Tryz.ntmps133
 go_wp2_with fail
 refine hi.mono ?_
 rintro e w1 ⟨rfl, hb⟩
 have HB := Lib.hid hb
 clear hi hb
 go_wp2
 go_ret
 exact ⟨rfl, ((Below.refl _ _).alloc (Nat.le_refl _) _).trans (HB.out.mono (by simp))⟩
set_option maxRecDepth 100000 in
set_option maxHeartbeats 2000000 in
theorem allRange_any (w : World) (B : Nat) (v : Value) (rs : List (Int × Int)) (h : PrsR w B v rs) (hB : B ≤ w.heap.size) (hn : rs.length ≤ maxLen) :
  Calls Tryz.prog 86 #[v, .func (.func 87) #[] #[]] w fun e w' => e = .returned (.bool (rs.all rangeB)) ∧ Below w.heap.size w w' := by
 obtain ⟨A, c, rfl, hsi⟩ := h
 obtain ⟨W, hW⟩ : ∃ W, W = w.alloc (.cells #[.func (.func 87) #[] #[]] 65) := ⟨_, rfl⟩
 have hb : Below w.heap.size w W := by rw [hW]; exact (Below.refl _ _).alloc (Nat.le_refl _) _
 have hone : One W w.heap.size 65 (.func (.func 87) #[] #[]) := by rw [hW]; exact heap_alloc_new w _
 have hmf : ∀ (fn : Fn) (first cap : Array Value) (w : World), (Instr.makeFunc fn first cap).run Tryz.prog w = .ok (.func fn first cap) w := fun _ _ _ _ => rfl
 have hf := hasRange_any W B A rs.length c (rs.map prRow) w.heap.size (fun j => !atB rangeB rs j) (fun _ w' => Below W.heap.size W w') (fun _ w' => Below W.heap.size W w') hn (Below.refl _ _)
  (fun k w' hw => (hsi.on hb hB).on hw (by have := hb.size; omega))
  (fun k u v w' hx hw => by
   obtain ⟨r, hr, rfl, rfl⟩ := prRow_at hx
   refine (allRange1_any w' w.heap.size r ((hw.block _ hone.lt).trans hone)).mono ?_
   rintro e w2 ⟨rfl, hb2⟩
   have hw2 : Below W.heap.size W w2 := hw.trans ⟨hb2.os, hb2.tape, hb2.output, hb2.size, fun i hi => hb2.block i (by have := hw.size; omega)⟩
   simp only [atB_some hr]
   exact ⟨rfl, fun _ => hw2, fun _ => hw2⟩)
 have HB := Lib.hid hb
 have hbb : ∀ w2, Below W.heap.size W w2 → Below w.heap.size w w2 := fun w2 h2 => HB.out.trans ⟨h2.os, h2.tape, h2.output, h2.size, fun i hi => h2.block i (by have := HB.out.size; omega)⟩
 clear hsi hb hone
 go_enter Tryz.func86, Tryz.ntmps86
 go_wp2_with fail
 rw [← hW]
 refine hf.mono ?_
 rintro e w2 (⟨j, hj, hq, -, rfl, hb2⟩ | ⟨hq, rfl, hb2⟩)
 ·have hp : rs.all rangeB = false := by rw [← all_range_list]; exact range_all_false hj hq
  clear hq hf
  go_wp2
  go_ret
  rw [hp]
  exact ⟨rfl, hbb _ hb2⟩
 ·have hp : rs.all rangeB = true := by rw [← all_range_list]; exact range_all_true hq
  clear hq hf
  go_wp2
  go_ret
  rw [hp]
  exact ⟨rfl, hbb _ hb2⟩
end Go.Proofs.YthgiikhkcpbpfaaGreatDoor.C


namespace Go.Proofs.YthgiikhkcpbpfaaGreatDoor.C
open Go.RowKit
def strV (ks : List (List UInt8)) : List Value := ks.map fun n => .string (str n)
theorem strV_in {ks : List (List UInt8)} {n : List UInt8} : Value.string (str n) ∈ strV ks ↔ n ∈ ks := by
 unfold strV
 rw [List.mem_map]
 constructor
 ·rintro ⟨c, hc, he⟩
  injection he with he
  exact str_inj he ▸ hc
 ·intro h
  exact ⟨n, h, rfl⟩
theorem strV_snoc (ks : List (List UInt8)) (n : List UInt8) : strV ks ++ [.string (str n)] = strV (ks ++ [n]) := by simp [strV]
def clsOk (ks : List (List UInt8)) (k : Cls) : Bool := wordlyB k.name && !(ks.contains k.name) && !k.rs.isEmpty && k.rs.all rangeB
theorem clsOk_at {cs : List Cls} {i : Nat} {k : Cls} (h : cs[i]? = some k) : clsAt cs i = clsOk ((cs.take i).map Cls.name) k := by
 unfold clsAt clsOk
 rw [h]
def RcTold (W : World) (A M : Nat) (ks : List (List UInt8)) (k : Cls) (e : Ending) (w' : World) : Prop := e = .returned (.bool (clsOk ks k)) ∧ (clsOk ks k = true → FT w' 217 .string A M (strV (ks ++ [k.name]))) ∧ Fr W w' (fun j => j = M)
set_option maxRecDepth 100000 in
set_option maxHeartbeats 4000000 in
theorem rightClasses1_any (W : World) (B T3 A M : Nat) (ks : List (List UInt8)) (k : Cls) (u : Value) (h3 : One W T3 171 (FnS A)) (hft : FT W 217 .string A M (strV ks)) (hu : PrsR W B u k.rs) (hB : B ≤ W.heap.size) (hBM : B ≤ M) (hn : k.name.length ≤ maxLen) (hr : k.rs.length ≤ maxLen) :
  Calls Tryz.prog 84 #[.agg #[.string (str k.name), u], .pointer (some ⟨T3, 0, none⟩)] W (RcTold W A M ks k) := by
 obtain ⟨nm, rs⟩ := k
 simp only at hn hr hu
 have hu0 := hu
 obtain ⟨Ar, cr, rfl, -⟩ := hu
 obtain ⟨W1, hW1⟩ : ∃ W1, W1 = W.alloc (.cells #[.string (str nm), .slice Ar rs.length cr] 79) := ⟨_, rfl⟩
 have hb1 : Below W.heap.size W W1 := by rw [hW1]; exact (Below.refl _ _).alloc (Nat.le_refl _) _
 have HB1 := Lib.hid hb1
 have HX1 : Hid (Two W1 W.heap.size 79 (.string (str nm)) (.slice Ar rs.length cr)) := Lib.hid (by rw [hW1]; exact Two.new W _ _ _)
 have hw := isWord_any (str nm) W1 (by rw [str_size]; unfold maxLen at hn; omega)
 rw [str_list] at hw
 have HU := Lib.hid hu0
 have H3 := Lib.hid h3
 have HFT := Lib.hid hft
 clear hb1 hu0 h3 hft
 cases hwd : wordlyB nm with
 | false =>
  rw [hwd] at hw
  have hok : clsOk ks ⟨nm, rs⟩ = false := by simp [clsOk, hwd]
  unfold RcTold
  rw [hok]
  clear hwd hok
  go_enter Tryz.func84, Tryz.ntmps84
  go_wp2_with fail
  rw [← hW1]
  refine hw.mono ?_
  rintro e w2 ⟨rfl, hb2⟩
  have HF : Hid (Fr W w2 (fun j => j = M)) := Lib.hid ((Fr.of_below HB1.out).trans (.of_below hb2))
  clear hb2 hw
  go_wp2
  go_ret
  exact ⟨rfl, by simp, HF.out⟩
 | true =>
  rw [hwd] at hw
  by_cases hin : nm ∈ ks
  ·have hok : clsOk ks ⟨nm, rs⟩ = false := by simp [clsOk, hin]
   unfold RcTold
   rw [hok]
   have hno := fun W' hf => isNewS_no W' A M (strV ks) (str nm) hf (strV_in.2 hin)
   have HNO := Lib.hid hno
   clear hwd hok hin hno
   go_enter Tryz.func84, Tryz.ntmps84
   go_wp2_with fail
   rw [← hW1]
   refine hw.mono ?_
   rintro e w2 ⟨rfl, hb2⟩
   have hbW : Below W.heap.size W w2 := HB1.out.trans (hb2.mono HB1.out.size)
   have q1 := (show One w2 T3 _ _ from (hbW.block _ H3.out.lt).trans H3.out).cell
   obtain ⟨q2, q3⟩ := (show Two w2 W.heap.size _ _ _ from (hb2.block _ HX1.out.lt).trans HX1.out).cells
   unfold FnS at q1
   have HN2 := Lib.hid (HNO.out w2 (HFT.out.next (hbW.block _ HFT.out.lt) (hbW.block _ HFT.out.2.lt)))
   have HBW := Lib.hid hbW
   clear hb2 hbW hw
   go_wp2_with (go_at_call 129; refine HN2.out.mono ?_; rintro e w3 ⟨rfl, hg3⟩; (have HG3 := Lib.hid hg3); clear hg3)
   go_ret
   exact ⟨rfl, by simp, (Fr.of_below HBW.out).trans ((Fr.of_grown HG3.out).mono (fun j _ e => by injection e with e; exact e.symm))⟩
  ·have hyes := fun W' hf => isNewS_yes W' A M (strV ks) (str nm) hf (fun h => hin (strV_in.1 h))
   have HYES := Lib.hid hyes
   clear hyes
   by_cases hrs : rs = []
   ·have hok : clsOk ks ⟨nm, rs⟩ = false := by simp [clsOk, hrs]
    unfold RcTold
    rw [hok]
    have hl0 : ¬ (0 : Int) < (rs.length : Int) := by rw [hrs]; simp
    clear hwd hok hin hrs
    go_enter Tryz.func84, Tryz.ntmps84
    go_wp2_with fail
    rw [← hW1]
    refine hw.mono ?_
    rintro e w2 ⟨rfl, hb2⟩
    have hbW : Below W.heap.size W w2 := HB1.out.trans (hb2.mono HB1.out.size)
    have q1 := (show One w2 T3 _ _ from (hbW.block _ H3.out.lt).trans H3.out).cell
    have hX2 : Two w2 W.heap.size _ _ _ := (hb2.block _ HX1.out.lt).trans HX1.out
    obtain ⟨q2, q3⟩ := hX2.cells
    have HX2 := Lib.hid hX2
    unfold FnS at q1
    have hft2 := HFT.out.next (hbW.block _ HFT.out.lt) (hbW.block _ HFT.out.2.lt)
    have HFT2 := Lib.hid hft2
    have HN2 := Lib.hid (HYES.out w2 hft2)
    have HBW := Lib.hid hbW
    clear hb2 hbW hw hft2 hX2
    go_wp2_with (go_at_call 129; refine HN2.out.mono ?_; rintro e w3 ⟨rfl, hf3, hg3⟩; (have HX3 := Lib.hid (HX2.out.kept hg3 (fun e => by have := HFT2.out.2.lt; injection e with e; (obtain ⟨es, q, h1, _⟩ := HFT2.out.2); (have e2 := HX2.out.symm.trans (e ▸ h1)); simp at e2))); (have q4 := HX3.out.cells.2); (have HG3 := Lib.hid hg3); clear hg3 hf3)
    go_ret
    exact ⟨rfl, by simp, (Fr.of_below HBW.out).trans ((Fr.of_grown HG3.out).mono (fun j _ e => by injection e with e; exact e.symm))⟩
   ·have hok : clsOk ks ⟨nm, rs⟩ = rs.all rangeB := by
     cases rs with
     | nil => exact absurd rfl hrs
     | cons a r => simp [clsOk, hin, hwd]
    unfold RcTold
    rw [hok]
    have hl0 : (0 : Int) < (rs.length : Int) := by
     cases rs with
     | nil => exact absurd rfl hrs
     | cons a r => simp
    have HRL := Lib.hid hr
    clear hwd hok hin hrs
    go_enter Tryz.func84, Tryz.ntmps84
    go_wp2_with fail
    rw [← hW1]
    refine hw.mono ?_
    rintro e w2 ⟨rfl, hb2⟩
    have hbW : Below W.heap.size W w2 := HB1.out.trans (hb2.mono HB1.out.size)
    have q1 := (show One w2 T3 _ _ from (hbW.block _ H3.out.lt).trans H3.out).cell
    have hX2 : Two w2 W.heap.size _ _ _ := (hb2.block _ HX1.out.lt).trans HX1.out
    obtain ⟨q2, q3⟩ := hX2.cells
    have HX2 := Lib.hid hX2
    unfold FnS at q1
    have hft2 := HFT.out.next (hbW.block _ HFT.out.lt) (hbW.block _ HFT.out.2.lt)
    have HFT2 := Lib.hid hft2
    have HN2 := Lib.hid (HYES.out w2 hft2)
    have HBW := Lib.hid hbW
    clear hb2 hbW hw hft2 hX2 hr
    go_wp2_with fail
    refine HN2.out.mono ?_
    rintro e w3 ⟨rfl, hf3, hg3⟩
    have hX3 : Two w3 W.heap.size _ _ _ := HX2.out.kept hg3 (fun e => by
     injection e with e
     obtain ⟨es, q, h1, _⟩ := HFT2.out.2
     have e2 := HX2.out.symm.trans (e ▸ h1)
     simp at e2)
    obtain ⟨q4, q5⟩ := hX3.cells
    have hs2 := HBW.out.size
    have hu3 : PrsR w3 B (.slice Ar rs.length cr) rs := (HU.out.on HBW.out hB).keep (fun p hp => World.cell?_of_block (hg3.block p.block (by omega) (fun e => by injection e with e; omega)))
    have har := allRange_any w3 B (.slice Ar rs.length cr) rs hu3 (by have := hg3.size; omega) HRL.out
    have HF3 := Lib.hid hf3
    have HG3 := Lib.hid hg3
    clear hX3 hf3 hg3 hu3 q2 q3 HX2
    go_wp2_with fail
    refine har.mono ?_
    rintro e w4 ⟨rfl, hb4⟩
    have HB4 := Lib.hid hb4
    clear hb4 har
    go_wp2
    go_ret
    refine ⟨rfl, fun _ => ?_, ((Fr.of_below HBW.out).trans ((Fr.of_grown HG3.out).mono (fun j _ e => by injection e with e; exact e.symm))).trans (.of_below HB4.out)⟩
    rw [← strV_snoc]
    exact HF3.out.next (HB4.out.block _ HF3.out.lt) (HB4.out.block _ HF3.out.2.lt)
end Go.Proofs.YthgiikhkcpbpfaaGreatDoor.C


namespace Go.Proofs.YthgiikhkcpbpfaaGreatDoor.C
open Go.RowKit
structure RcI (w0 : World) (t : TypeId) (kd : TypeDesc) (tf : TypeId) (fn : Value) (tv : TypeId) (fv : Value) (V0 T3 A M : Nat) (ks : List Value) (W : World) : Prop where
 bel : Below w0.heap.size w0 W
 v0 : One W V0 tv fv
 t3 : One W T3 tf fn
 ft : FT W t kd A M ks
theorem RcI.next {w0 : World} {t : TypeId} {kd : TypeDesc} {tf : TypeId} {fn : Value} {tv : TypeId} {fv : Value} {V0 T3 A M : Nat} {ks ks' : List Value} {W W' : World} (h : RcI w0 t kd tf fn tv fv V0 T3 A M ks W) (hf : Fr W W' (fun j => j = M)) (hft : FT W' t kd A M ks') (hM : w0.heap.size ≤ M) : RcI w0 t kd tf fn tv fv V0 T3 A M ks' W' :=
 ⟨h.bel.trans ((hf.below (B := w0.heap.size) (fun j _ e => by rw [show j = M from e]; exact hM) h.bel.size)), h.v0.fr hf (h.v0.nomap h.ft.2), h.t3.fr hf (h.t3.nomap h.ft.2), hft⟩
theorem RcI.bel' {w0 : World} {t : TypeId} {kd : TypeDesc} {tf : TypeId} {fn : Value} {tv : TypeId} {fv : Value} {V0 T3 A M : Nat} {ks : List Value} {W W' : World} (h : RcI w0 t kd tf fn tv fv V0 T3 A M ks W) (hf : Fr W W' (fun j => j = M)) (hM : w0.heap.size ≤ M) : Below w0.heap.size w0 W' :=
 h.bel.trans ((hf.below (B := w0.heap.size) (fun j _ e => by rw [show j = M from e]; exact hM) h.bel.size))
set_option maxRecDepth 100000 in
set_option maxHeartbeats 2000000 in
theorem allClass1_any (W : World) (B V0 T3 A M : Nat) (ks : List (List UInt8)) (k : Cls) (u : Value) (hv : One W V0 175 (.func (.func 84) #[] #[.pointer (some ⟨T3, 0, none⟩)])) (h3 : One W T3 171 (FnS A)) (hft : FT W 217 .string A M (strV ks)) (hu : PrsR W B u k.rs) (hB : B ≤ W.heap.size) (hBM : B ≤ M) (hn : k.name.length ≤ maxLen) (hr : k.rs.length ≤ maxLen) :
  Calls Tryz.prog 131 #[.agg #[.string (str k.name), u], .pointer (some ⟨V0, 0, none⟩)] W fun e w' => e = .returned (.bool (!clsOk ks k)) ∧ (clsOk ks k = true → FT w' 217 .string A M (strV (ks ++ [k.name]))) ∧ Fr W w' (fun j => j = M) := by
 have hu0 := hu
 obtain ⟨Ar, cr, rfl, -⟩ := hu
 obtain ⟨W1, hW1⟩ : ∃ W1, W1 = W.alloc (.cells #[.string (str k.name), .slice Ar k.rs.length cr] 79) := ⟨_, rfl⟩
 have hb1 : Below W.heap.size W W1 := by rw [hW1]; exact (Below.refl _ _).alloc (Nat.le_refl _) _
 have hs1 := hb1.size
 have hi := rightClasses1_any W1 B T3 A M ks k (.slice Ar k.rs.length cr) ((hb1.block _ h3.lt).trans h3) (hft.next (hb1.block _ hft.lt) (hb1.block _ hft.2.lt)) (hu0.on hb1 hB) (by omega) hBM hn hr
 have q0 := (show One W1 V0 _ _ from (hb1.block _ hv.lt).trans hv).cell
 obtain ⟨q1, q2⟩ := (show Two W1 W.heap.size 79 (.string (str k.name)) (.slice Ar k.rs.length cr) by rw [hW1]; exact Two.new W _ _ _).cells
 rw [hW1] at q0 q1 q2
 have HB1 := Lib.hid hb1
 unfold RcTold at hi
 clear hb1 hu0 h3 hft hv
 obtain ⟨b, hb⟩ : ∃ b, b = clsOk ks k := ⟨_, rfl⟩
 rw [← hb] at hi ⊢
 clear hb
 go_enter Tryz.func131, Tryz.ntmps131
 go_wp2_with fail
 rw [← hW1]
 refine hi.mono ?_
 rintro e w2 ⟨rfl, hf2, hr2⟩
 have HE := Lib.hid (And.intro hf2 hr2)
 clear hf2 hr2 hi q0 q1 q2 hW1
 go_wp2
 go_ret
 exact ⟨rfl, HE.out.1, (Fr.of_below HB1.out).trans HE.out.2⟩
theorem take_next {α : Type} {l : List α} {k : Nat} {x : α} (h : l[k]? = some x) : l.take (k + 1) = l.take k ++ [x] := by
 rw [List.take_add_one, h]
 rfl
set_option maxRecDepth 100000 in
set_option maxHeartbeats 2000000 in
theorem rightClasses_any (w : World) (B : Nat) (v : Value) (cs : List Cls) (h : ClsR w B v cs) (hB : B ≤ w.heap.size) (hn : cs.length ≤ maxLen) :
  Calls Tryz.prog 57 #[v] w fun e w' => e = .returned (.bool (clsB cs)) ∧ Below w.heap.size w w' := by
 obtain ⟨Ac, c, xs, rfl, hsi, hel⟩ := h
 have hmf : ∀ (fn : Fn) (first cap : Array Value) (w : World), (Instr.makeFunc fn first cap).run Tryz.prog w = .ok (.func fn first cap) w := fun _ _ _ _ => rfl
 have hst := @run_store_func Tryz.prog
 have hfs := firstS_any w
 have hall : ∀ (W : World) (T3 A M : Nat), Below w.heap.size w W → One W T3 171 (FnS A) → FT W 217 .string A M [] → w.heap.size ≤ M → w.heap.size ≤ A → w.heap.size ≤ T3 →
   Calls Tryz.prog 83 #[.slice Ac cs.length c, .func (.func 84) #[] #[.pointer (some ⟨T3, 0, none⟩)]] W fun e w' => e = .returned (.bool (clsB cs)) ∧ Below w.heap.size w w' := by
  intro W T3 A M hbW h3 hft hM hA hT
  obtain ⟨W1, hW1⟩ : ∃ W1, W1 = W.alloc (.cells #[.func (.func 84) #[] #[.pointer (some ⟨T3, 0, none⟩)]] 175) := ⟨_, rfl⟩
  have hb1 : Below W.heap.size W W1 := by rw [hW1]; exact (Below.refl _ _).alloc (Nat.le_refl _) _
  have hI0 : RcI w 217 .string 171 (FnS A) 175 (.func (.func 84) #[] #[.pointer (some ⟨T3, 0, none⟩)]) W.heap.size T3 A M (strV ((cs.take 0).map Cls.name)) W1 :=
   ⟨hbW.trans (hb1.mono hbW.size), by rw [hW1]; exact heap_alloc_new W _, (hb1.block _ h3.lt).trans h3, hft.next (hb1.block _ hft.lt) (hb1.block _ hft.2.lt)⟩
  have hf := hasClass_any W1 B Ac cs.length c xs W.heap.size (fun j => !clsAt cs j) (fun k W' => RcI w 217 .string 171 (FnS A) 175 (.func (.func 84) #[] #[.pointer (some ⟨T3, 0, none⟩)]) W.heap.size T3 A M (strV ((cs.take k).map Cls.name)) W') (fun _ W' => Below w.heap.size w W') hn hI0
   (fun k W' hI => hsi.on hI.bel hB)
   (fun k a b W' hx hI => by
    have hk : k < cs.length := by
     have := (List.getElem?_eq_some_iff.1 hx).1
     rw [hsi.len] at this
     exact this
    obtain ⟨kc, hkc⟩ : ∃ kc, cs[k]? = some kc := ⟨_, List.getElem?_eq_getElem hk⟩
    obtain ⟨u, hu1, hu2, hu3, hu4⟩ := hel k kc hkc
    rw [hx] at hu1
    simp at hu1
    obtain ⟨rfl, rfl⟩ := hu1
    have hs := hI.bel.size
    refine (allClass1_any W' B W.heap.size T3 A M ((cs.take k).map Cls.name) kc b hI.v0 hI.t3 hI.ft (hu2.on hI.bel hB) (by omega) (by omega) hu3 hu4).mono ?_
    rintro e w2 ⟨rfl, hf2, hr2⟩
    refine ⟨by rw [clsOk_at hkc], fun hq => ?_, fun _ => hI.bel' hr2 hM⟩
    have hq2 : clsOk ((cs.take k).map Cls.name) kc = true := by
     simp only [clsOk_at hkc] at hq
     simpa using hq
    have := hI.next hr2 (hf2 hq2) hM
    rw [take_next hkc, List.map_append]
    exact this)
  have hbb : ∀ w2, Below W.heap.size W w2 → Below w.heap.size w w2 := fun w2 h2 => hbW.trans (h2.mono hbW.size)
  clear hsi hel hft h3 hI0
  go_enter Tryz.func83, Tryz.ntmps83
  go_wp2_with fail
  rw [← hW1]
  refine hf.mono ?_
  rintro e w2 (⟨j, hj, hq, -, rfl, hb2⟩ | ⟨hq, rfl, hI2⟩)
  ·have hp : clsB cs = false := range_all_false hj hq
   clear hq hf
   go_wp2
   go_ret
   rw [hp]
   exact ⟨rfl, hb2⟩
  ·have hp : clsB cs = true := range_all_true hq
   have HB := Lib.hid hI2.bel
   clear hq hf hI2
   go_wp2
   go_ret
   rw [hp]
   exact ⟨rfl, HB.out⟩
 clear hsi hel
 go_enter Tryz.func57, Tryz.ntmps57
 go_wp2_with fail
 refine hfs.mono ?_
 rintro e w1 ⟨rfl, hft, hb, hs⟩
 obtain ⟨W2, hW2⟩ : ∃ W2, W2 = w1.alloc (.cells #[FnS (w.heap.size + 1)] 171) := ⟨_, rfl⟩
 have hca := hall W2 w1.heap.size (w.heap.size + 1) w.heap.size (by rw [hW2]; exact hb.alloc hb.size _) (by rw [hW2]; exact heap_alloc_new w1 _) (by rw [hW2]; exact hft.next (heap_lt _ _ (by omega)) (heap_lt _ _ (by omega))) (Nat.le_refl _) (by omega) (by omega)
 unfold FnS at hW2
 clear hft hb hs hfs hall
 go_wp2_with fail
 rw [← hW2]
 refine hca.mono ?_
 rintro e w3 ⟨rfl, hb3⟩
 have HB3 := Lib.hid hb3
 clear hb3 hca
 go_wp2
 go_ret
 exact ⟨rfl, HB3.out⟩
end Go.Proofs.YthgiikhkcpbpfaaGreatDoor.C


namespace Go.Proofs.YthgiikhkcpbpfaaGreatDoor.C
open Go.RowKit
def FnC (A : Nat) : Value := .func (.func 134) #[] #[.pointer (some ⟨A, 0, none⟩)]
def celV (ks : List Int) : List Value := ks.map fun n => .int .i32 n
theorem celV_in {ks : List Int} {n : Int} : Value.int .i32 n ∈ celV ks ↔ n ∈ ks := by
 unfold celV
 rw [List.mem_map]
 constructor
 ·rintro ⟨c, hc, he⟩
  injection he with _ he
  exact he ▸ hc
 ·intro h
  exact ⟨n, h, rfl⟩
theorem celV_snoc (ks : List Int) (n : Int) : celV ks ++ [.int .i32 n] = celV (ks ++ [n]) := by simp [celV]
def prOk (ks : List Int) (p : Int × Int) : Bool := scalB p.1 && scalB p.2 && !(ks.contains p.1)
theorem prOk_at {l : List (Int × Int)} {i : Nat} {p : Int × Int} (h : l[i]? = some p) : pairAt l i = prOk ((l.take i).map Prod.fst) p := by
 unfold pairAt prOk
 rw [h]
def RpTold (W : World) (A M : Nat) (ks : List Int) (p : Int × Int) (r : Bool) (e : Ending) (w' : World) : Prop := e = .returned (.bool r) ∧ (prOk ks p = true → FT w' 219 (.int .i32) A M (celV (ks ++ [p.1]))) ∧ Fr W w' (fun j => j = M)
set_option maxRecDepth 100000 in
set_option maxHeartbeats 4000000 in
theorem rightPairs1_any (W : World) (T3 A M : Nat) (ks : List Int) (p : Int × Int) (h3 : One W T3 66 (FnC A)) (hft : FT W 219 (.int .i32) A M (celV ks)) :
  Calls Tryz.prog 90 #[.agg #[.int .i32 p.1, .int .i32 p.2], .pointer (some ⟨T3, 0, none⟩)] W (RpTold W A M ks p (prOk ks p)) := by
 obtain ⟨a, b⟩ := p
 obtain ⟨W1, hW1⟩ : ∃ W1, W1 = W.alloc (.cells #[.int .i32 a, .int .i32 b] 81) := ⟨_, rfl⟩
 have hb1 : Below W.heap.size W W1 := by rw [hW1]; exact (Below.refl _ _).alloc (Nat.le_refl _) _
 have HB1 := Lib.hid hb1
 have HX1 : Hid (Two W1 W.heap.size 81 (.int .i32 a) (.int .i32 b)) := Lib.hid (by rw [hW1]; exact Two.new W _ _ _)
 have HFT1 : Hid (FT W1 219 (.int .i32) A M (celV ks)) := Lib.hid (hft.next (hb1.block _ hft.lt) (hb1.block _ hft.2.lt))
 have H31 : Hid (One W1 T3 66 (FnC A)) := Lib.hid ((hb1.block _ h3.lt).trans h3)
 have h1 := fun W => isScalar_any a W
 have h2 := fun W => isScalar_any b W
 obtain ⟨q2, q3⟩ := HX1.out.cells
 have q1 := H31.out.cell
 unfold FnC at q1
 rw [hW1] at q1 q2 q3
 unfold RpTold
 clear hb1 h3 hft
 cases ha : scalB a with
 | false =>
  rw [ha] at h1
  have hok : prOk ks (a, b) = false := by simp [prOk, ha]
  rw [hok]
  clear h2 ha hok
  go_enter Tryz.func90, Tryz.ntmps90
  go_wp2_with (go_at_call 91; with_reducible refine (h1 _).mono ?_; rintro e w' ⟨rfl, rfl⟩)
  go_ret
  rw [← hW1]
  exact ⟨rfl, by simp, .of_below HB1.out⟩
 | true =>
  rw [ha] at h1
  cases hb2 : scalB b with
  | false =>
   rw [hb2] at h2
   have hok : prOk ks (a, b) = false := by simp [prOk, hb2]
   rw [hok]
   clear ha hb2 hok
   go_enter Tryz.func90, Tryz.ntmps90
   go_wp2_with (first
    | (go_at_call 91; with_reducible refine (h1 _).mono ?_; rintro e w' ⟨rfl, rfl⟩)
    | (go_at_call 91; with_reducible refine (h2 _).mono ?_; rintro e w' ⟨rfl, rfl⟩))
   go_ret
   rw [← hW1]
   exact ⟨rfl, by simp, .of_below HB1.out⟩
  | true =>
   rw [hb2] at h2
   by_cases hin : a ∈ ks
   ·have hok : prOk ks (a, b) = false := by simp [prOk, hin]
    rw [hok]
    have hno := isNewC_no W1 A M (celV ks) a HFT1.out (celV_in.2 hin)
    rw [hW1] at hno
    have HNO := Lib.hid hno
    clear ha hb2 hok hin hno
    go_enter Tryz.func90, Tryz.ntmps90
    go_wp2_with (first
     | (go_at_call 91; with_reducible refine (h1 _).mono ?_; rintro e w' ⟨rfl, rfl⟩)
     | (go_at_call 91; with_reducible refine (h2 _).mono ?_; rintro e w' ⟨rfl, rfl⟩)
     | (go_at_call 134; refine HNO.out.mono ?_; rintro e w3 ⟨rfl, hg3⟩; (have HG3 := Lib.hid hg3); clear hg3))
    go_ret
    exact ⟨rfl, by simp, (Fr.of_below HB1.out).trans ((Fr.of_grown (by rw [hW1]; exact HG3.out)).mono (fun j _ e => by injection e with e; exact e.symm))⟩
   ·have hok : prOk ks (a, b) = true := by simp [prOk, ha, hb2, hin]
    rw [hok]
    have hyes := isNewC_yes W1 A M (celV ks) a HFT1.out (fun h => hin (celV_in.1 h))
    rw [hW1] at hyes
    have HYES := Lib.hid hyes
    clear ha hb2 hok hin hyes
    go_enter Tryz.func90, Tryz.ntmps90
    go_wp2_with (first
     | (go_at_call 91; with_reducible refine (h1 _).mono ?_; rintro e w' ⟨rfl, rfl⟩)
     | (go_at_call 91; with_reducible refine (h2 _).mono ?_; rintro e w' ⟨rfl, rfl⟩)
     | (go_at_call 134; refine HYES.out.mono ?_; rintro e w3 ⟨rfl, hf3, hg3⟩; (have HF3 := Lib.hid hf3); (have HG3 := Lib.hid hg3); clear hf3 hg3))
    go_ret
    refine ⟨rfl, fun _ => ?_, (Fr.of_below HB1.out).trans ((Fr.of_grown (by rw [hW1]; exact HG3.out)).mono (fun j _ e => by injection e with e; exact e.symm))⟩
    rw [← celV_snoc]
    exact HF3.out
set_option maxRecDepth 100000 in
set_option maxHeartbeats 2000000 in
theorem allPair1_any (W : World) (V0 T3 A M : Nat) (ks : List Int) (p : Int × Int) (hv : One W V0 178 (.func (.func 90) #[] #[.pointer (some ⟨T3, 0, none⟩)])) (h3 : One W T3 66 (FnC A)) (hft : FT W 219 (.int .i32) A M (celV ks)) :
  Calls Tryz.prog 136 #[.agg #[.int .i32 p.1, .int .i32 p.2], .pointer (some ⟨V0, 0, none⟩)] W (RpTold W A M ks p (!prOk ks p)) := by
 obtain ⟨W1, hW1⟩ : ∃ W1, W1 = W.alloc (.cells #[.int .i32 p.1, .int .i32 p.2] 81) := ⟨_, rfl⟩
 have hb1 : Below W.heap.size W W1 := by rw [hW1]; exact (Below.refl _ _).alloc (Nat.le_refl _) _
 have hi := rightPairs1_any W1 T3 A M ks p ((hb1.block _ h3.lt).trans h3) (hft.next (hb1.block _ hft.lt) (hb1.block _ hft.2.lt))
 have q0 := (show One W1 V0 _ _ from (hb1.block _ hv.lt).trans hv).cell
 obtain ⟨q1, q2⟩ := (show Two W1 W.heap.size 81 (.int .i32 p.1) (.int .i32 p.2) by rw [hW1]; exact Two.new W _ _ _).cells
 rw [hW1] at q0 q1 q2
 have HB1 := Lib.hid hb1
 unfold RpTold at hi
 clear hb1 h3 hft hv
 obtain ⟨b, hb⟩ : ∃ b, b = prOk ks p := ⟨_, rfl⟩
 unfold RpTold
 rw [← hb] at hi ⊢
 clear hb
 obtain ⟨pa, pb⟩ := p
 simp only at hi hW1 q0 q1 q2 ⊢
 go_enter Tryz.func136, Tryz.ntmps136
 go_wp2_with fail
 rw [← hW1]
 refine hi.mono ?_
 rintro e w2 ⟨rfl, hf2, hr2⟩
 have HE := Lib.hid (And.intro hf2 hr2)
 clear hf2 hr2 hi q0 q1 q2 hW1
 go_wp2
 go_ret
 exact ⟨rfl, HE.out.1, (Fr.of_below HB1.out).trans HE.out.2⟩
set_option maxRecDepth 100000 in
set_option maxHeartbeats 2000000 in
theorem rightPairs_any (w : World) (B : Nat) (v : Value) (l : List (Int × Int)) (h : PrsR w B v l) (hB : B ≤ w.heap.size) (hn : l.length ≤ maxLen) :
  Calls Tryz.prog 58 #[v] w fun e w' => e = .returned (.bool (pairsB l)) ∧ Below w.heap.size w w' := by
 obtain ⟨Ac, c, rfl, hsi⟩ := h
 have hmf : ∀ (fn : Fn) (first cap : Array Value) (w : World), (Instr.makeFunc fn first cap).run Tryz.prog w = .ok (.func fn first cap) w := fun _ _ _ _ => rfl
 have hst := @run_store_func Tryz.prog
 have hfs := firstC_any w
 have hall : ∀ (W : World) (T3 A M : Nat), Below w.heap.size w W → One W T3 66 (FnC A) → FT W 219 (.int .i32) A M [] → w.heap.size ≤ M →
   Calls Tryz.prog 89 #[.slice Ac l.length c, .func (.func 90) #[] #[.pointer (some ⟨T3, 0, none⟩)]] W fun e w' => e = .returned (.bool (pairsB l)) ∧ Below w.heap.size w w' := by
  intro W T3 A M hbW h3 hft hM
  obtain ⟨W1, hW1⟩ : ∃ W1, W1 = W.alloc (.cells #[.func (.func 90) #[] #[.pointer (some ⟨T3, 0, none⟩)]] 178) := ⟨_, rfl⟩
  have hb1 : Below W.heap.size W W1 := by rw [hW1]; exact (Below.refl _ _).alloc (Nat.le_refl _) _
  have hI0 : RcI w 219 (.int .i32) 66 (FnC A) 178 (.func (.func 90) #[] #[.pointer (some ⟨T3, 0, none⟩)]) W.heap.size T3 A M (celV ((l.take 0).map Prod.fst)) W1 :=
   ⟨hbW.trans (hb1.mono hbW.size), by rw [hW1]; exact heap_alloc_new W _, (hb1.block _ h3.lt).trans h3, hft.next (hb1.block _ hft.lt) (hb1.block _ hft.2.lt)⟩
  have hf := hasPair_any W1 B Ac l.length c (l.map prRow) W.heap.size (fun j => !pairAt l j) (fun k W' => RcI w 219 (.int .i32) 66 (FnC A) 178 (.func (.func 90) #[] #[.pointer (some ⟨T3, 0, none⟩)]) W.heap.size T3 A M (celV ((l.take k).map Prod.fst)) W') (fun _ W' => Below w.heap.size w W') hn hI0
   (fun k W' hI => hsi.on hI.bel hB)
   (fun k a b W' hx hI => by
    obtain ⟨p, hp, rfl, rfl⟩ := prRow_at hx
    refine (allPair1_any W' W.heap.size T3 A M ((l.take k).map Prod.fst) p hI.v0 hI.t3 hI.ft).mono ?_
    rintro e w2 ⟨rfl, hf2, hr2⟩
    refine ⟨by rw [prOk_at hp], fun hq => ?_, fun _ => hI.bel' hr2 hM⟩
    have hq2 : prOk ((l.take k).map Prod.fst) p = true := by
     simp only [prOk_at hp] at hq
     simpa using hq
    have := hI.next hr2 (hf2 hq2) hM
    rw [take_next hp, List.map_append]
    exact this)
  have hbb : ∀ w2, Below W.heap.size W w2 → Below w.heap.size w w2 := fun w2 h2 => hbW.trans (h2.mono hbW.size)
  clear hsi hft h3 hI0
  go_enter Tryz.func89, Tryz.ntmps89
  go_wp2_with fail
  rw [← hW1]
  refine hf.mono ?_
  rintro e w2 (⟨j, hj, hq, -, rfl, hb2⟩ | ⟨hq, rfl, hI2⟩)
  ·have hp : pairsB l = false := range_all_false hj hq
   clear hq hf
   go_wp2
   go_ret
   rw [hp]
   exact ⟨rfl, hb2⟩
  ·have hp : pairsB l = true := range_all_true hq
   have HB := Lib.hid hI2.bel
   clear hq hf hI2
   go_wp2
   go_ret
   rw [hp]
   exact ⟨rfl, HB.out⟩
 clear hsi
 go_enter Tryz.func58, Tryz.ntmps58
 go_wp2_with fail
 refine hfs.mono ?_
 rintro e w1 ⟨rfl, hft, hb, hs⟩
 obtain ⟨W2, hW2⟩ : ∃ W2, W2 = w1.alloc (.cells #[FnC (w.heap.size + 1)] 66) := ⟨_, rfl⟩
 have hca := hall W2 w1.heap.size (w.heap.size + 1) w.heap.size (by rw [hW2]; exact hb.alloc hb.size _) (by rw [hW2]; exact heap_alloc_new w1 _) (by rw [hW2]; exact hft.next (heap_lt _ _ (by omega)) (heap_lt _ _ (by omega))) (Nat.le_refl _)
 unfold FnC at hW2
 clear hft hb hs hfs hall
 go_wp2_with fail
 rw [← hW2]
 refine hca.mono ?_
 rintro e w3 ⟨rfl, hb3⟩
 have HB3 := Lib.hid hb3
 clear hb3 hca
 go_wp2
 go_ret
 exact ⟨rfl, HB3.out⟩
end Go.Proofs.YthgiikhkcpbpfaaGreatDoor.C


namespace Go.Proofs.YthgiikhkcpbpfaaGreatDoor.C
open Go.RowKit
theorem prsR_at {w : World} {B : Nat} {A : Option Addr} {n : Nat} {rs : List (Int × Int)} (h : SI 2 w B A n (rs.map prRow)) {i : Nat} {r : Int × Int} (hr : rs[i]? = some r) : ∃ ad, A = some ad ∧ ad.block < B ∧ w.cell? (ad.add (i * 2)) = some (.int .i32 r.1) ∧ w.cell? ⟨(ad.add (i * 2)).block, (ad.add (i * 2)).off + 1, none⟩ = some (.int .i32 r.2) := by
 have hi : i < n := by have := h.len; rw [List.length_map] at this; rw [← this]; exact (List.getElem?_eq_some_iff.1 hr).1
 obtain ⟨ad, x, e, hb, hx, _, hc⟩ := h.at_ hi
 rw [List.getElem?_map, hr] at hx
 obtain rfl : prRow r = x := Option.some.inj hx
 exact ⟨ad, e, hb, hc 0 _ rfl, by rw [add_more' _ _ _ (by omega)]; exact hc 1 _ rfl⟩
end Go.Proofs.YthgiikhkcpbpfaaGreatDoor.C


namespace Go.Proofs.YthgiikhkcpbpfaaGreatDoor.C
open Go.RowKit
theorem elmR_at {w : World} {B : Nat} {v : Value} {o : List Elm} {i : Nat} {e : Elm} (h : OrdR w B v o) (he : o[i]? = some e) : ∃ ad c Ac cc, v = .slice (some ad) o.length c ∧ ad.block < B ∧ w.cell? (ad.add (i * 3)) = some (.string (str e.name)) ∧ w.cell? ⟨(ad.add (i * 3)).block, (ad.add (i * 3)).off + 1, none⟩ = some (.slice Ac e.cells.length cc) ∧ w.cell? ⟨(ad.add (i * 3)).block, (ad.add (i * 3)).off + 2, none⟩ = some (.int .i64 e.same) ∧ RI .i32 w B Ac e.cells.length e.cells := by
 obtain ⟨A, c, xs, rfl, hsi, hel⟩ := h
 have hi : i < o.length := (List.getElem?_eq_some_iff.1 he).1
 obtain ⟨ad, x, rfl, hb, hx, _, hc⟩ := hsi.at_ hi
 obtain ⟨Ac, cc, hxe, hri, _⟩ := hel i e he
 rw [hx] at hxe
 obtain rfl := Option.some.inj hxe
 exact ⟨ad, c, Ac, cc, rfl, hb, hc 0 _ rfl, by rw [add_more' _ _ _ (by omega)]; exact hc 1 _ rfl, by rw [add_more' _ _ _ (by omega)]; exact hc 2 _ rfl, hri⟩
end Go.Proofs.YthgiikhkcpbpfaaGreatDoor.C


namespace Go.Proofs.YthgiikhkcpbpfaaGreatDoor.C
open Go.RowKit
theorem ordB_elem {o : List Elm} (h : ordB o = true) {i : Nat} {e : Elm} (he : o[i]? = some e) : elemB e = true ∧ sameAt o i e = true := by
 unfold ordB at h
 rw [Bool.and_eq_true] at h
 have h1 := all_range h.2 (List.getElem?_eq_some_iff.1 he).1
 unfold elemAt at h1
 rw [he] at h1
 simp only [Bool.and_eq_true] at h1
 exact ⟨h1.1.1.1, h1.1.2⟩
theorem clsR_at {w : World} {B : Nat} {v : Value} {cs : List Cls} {i : Nat} {k : Cls} (h : ClsR w B v cs) (hk : cs[i]? = some k) : ∃ ad c A cc, v = .slice (some ad) cs.length c ∧ ad.block < B ∧ w.cell? (ad.add (i * 2)) = some (.string (str k.name)) ∧ w.cell? ⟨(ad.add (i * 2)).block, (ad.add (i * 2)).off + 1, none⟩ = some (.slice A k.rs.length cc) ∧ PrsR w B (.slice A k.rs.length cc) k.rs ∧ k.rs.length ≤ maxLen := by
 obtain ⟨A, c, xs, rfl, hsi, hel⟩ := h
 have hi : i < cs.length := (List.getElem?_eq_some_iff.1 hk).1
 obtain ⟨ad, x, rfl, hb, hx, _, hc⟩ := hsi.at_ hi
 obtain ⟨u, hxe, hri, _, hn⟩ := hel i k hk
 rw [hx] at hxe
 obtain rfl := Option.some.inj hxe
 obtain ⟨A, cc, rfl, hsi2⟩ := hri
 exact ⟨ad, c, A, cc, rfl, hb, hc 0 _ rfl, by rw [add_more' _ _ _ (by omega)]; exact hc 1 _ rfl, ⟨A, cc, rfl, hsi2⟩, hn⟩
theorem take_one {α : Type} {l : List α} {i : Nat} {x : α} (h : l[i]? = some x) : l.take (i + 1) = l.take i ++ [x] := by rw [List.take_add_one, h]; rfl
def Front (X Z : List (List Tok)) : Prop := (linesT X).length ≤ (linesT Z).length ∧ (toksT X).length ≤ (toksT Z).length
theorem front_app (X Y : List (List Tok)) : Front X (X ++ Y) := by
 unfold Front
 rw [linesT_app, toksT_app]
 simp only [List.length_append]
 omega
theorem Front.of {X Z : List (List Tok)} (Y : List (List Tok)) (h : X ++ Y = Z) : Front X Z := h ▸ front_app X Y
end Go.Proofs.YthgiikhkcpbpfaaGreatDoor.C


namespace Go.Proofs.YthgiikhkcpbpfaaGreatDoor.C
def nCh : List UInt8 := [99, 104]
structure Inv (s : Sta) (m0 n : Nat) : Prop where
 right : rightL s.l = true
 nm : ∀ c ∈ s.l.cls, c.name.length ≤ 16
 d : ∀ x ∈ s.d, x = (nCh, [99, 104])
 el : ∀ e ∈ s.l.ord, e.name = [] ∨ (e.name = nCh ∧ e.cells = [99, 104])
 m : mT s.l ≤ m0
 len : s.l.ord.length ≤ n
theorem right_of {l : Loc} (h1 : clsB l.cls = true) (h2 : pairsB l.up = true) (h3 : pairsB l.lo = true) (h4 : ordB l.ord = true) : rightL l = true := by unfold rightL; rw [h1, h2, h3, h4]; rfl
end Go.Proofs.YthgiikhkcpbpfaaGreatDoor.C


namespace Go.Proofs.YthgiikhkcpbpfaaGreatDoor.C
open Go.RowKit
theorem placeL_first {o : List Elm} {c : List Int} {i : Nat} {e : Elm} (he : o[i]? = some e) (hc : e.cells = c) : (placeL o c).isSome = true := by
 cases h : placeL o c with
 | some j => rfl
 | none => exact absurd hc (placeL_out h e (List.mem_of_getElem? he))
theorem OrdR.drewN {w : World} {B : Nat} {v : Value} {o : List Elm} (h : OrdR w B v o) (q : Nat) : OrdR (w.drewN q) B v o := h.keep fun _ _ => rfl
set_option maxRecDepth 100000 in
set_option maxHeartbeats 2000000 in
theorem place_any (w : World) (Bo Bc : Nat) (v : Value) (o : List Elm) (Ac : Option Addr) (cc : Nat) (cs : List Int) (h : OrdR w Bo v o) (hc : RI .i32 w Bc Ac cs.length cs) (hn : o.length ≤ 500) (hm : cs.length ≤ maxLen) :
  Calls Tryz.prog 33 #[v, .slice Ac cs.length cc] w fun e w' => (∃ r : Int, e = .returned (.int .i64 r) ∧ decide (0 ≤ r) = (placeL o cs).isSome) ∧ ∃ q, w' = w.drewN q := by
 obtain ⟨A, c, xs, rfl, -⟩ := id h
 have H := Lib.hid h
 have HC := Lib.hid hc
 have HM := Lib.hid hm
 clear h hc hm
 go_enter Tryz.func33, Tryz.ntmps33
 go_wp2
 go_loopw [5] (fun iv wr => ∃ i : Nat, i ≤ o.length ∧ iv = .int .i64 i ∧ Hid ((∃ q, wr = w.drewN q) ∧ ∀ x ∈ o.take i, x.cells ≠ cs)) (fun iv _ => o.length - (intOf iv).toNat)
 case atStart => exact ⟨0, Nat.zero_le _, rfl, Lib.hid ⟨⟨0, rfl⟩, by simp⟩⟩
 case round =>
  obtain ⟨i, hin, rfl, HQ⟩ := hrel
  by_cases hlt : i < o.length
  ·obtain ⟨e, he⟩ : ∃ e, o[i]? = some e := ⟨_, List.getElem?_eq_getElem hlt⟩
   have hO : OrdR wr Bo (.slice A o.length c) o := by obtain ⟨⟨q, rfl⟩, _⟩ := HQ.out; exact H.out.drewN q
   have hC : RI .i32 wr Bc Ac cs.length cs := by obtain ⟨⟨q, rfl⟩, _⟩ := HQ.out; exact HC.out.drewN q
   obtain ⟨ad, ca, Ax, cx, hA, _, u0, u1, u2, hpx⟩ := elmR_at hO he
   obtain ⟨_, _, _, hv, _, hOl⟩ := hO
   obtain ⟨_, _, _, _, hnk⟩ := hOl i e he
   injection hA with hA _ hC'
   subst hA hC'
   have i0 : (0 : Int) ≤ (i : Int) := by omega
   have i1 : (i : Int) < (o.length : Int) := by omega
   by_cases heq : e.cells = cs
   ·have hs := same_yes wr _ _ Ax Ac e.cells.length cx cs.length cc e.cells cs heq hpx hC hnk.2 HM.out
    have HF := Lib.hid (placeL_first he heq)
    have HQ1 : Hid (∃ q, wr = w.drewN q) := Lib.hid HQ.out.1
    clear hpx hC hOl hnk he heq hv u0 u2
    go_wp2_with fail
    with_reducible refine hs.mono ?_
    rintro r w1 ⟨rfl, hq⟩
    have HQ2 : Hid (∃ q, w1 = w.drewN q) := Lib.hid (by obtain ⟨q, rfl⟩ := HQ1.out; obtain ⟨q', rfl⟩ := hq; exact ⟨q + q', by rw [World.drewN_drewN]⟩)
    clear hs hq
    go_wp2
    go_ret
    exact ⟨⟨i, rfl, by rw [HF.out]; simp⟩, HQ2.out⟩
   ·have hs := same_no wr _ _ Ax Ac e.cells.length cx cs.length cc e.cells cs heq hpx hC hnk.2 HM.out
    have HQ1 : Hid (∃ q, wr = w.drewN q) := Lib.hid HQ.out.1
    have HN : Hid (∀ x ∈ o.take (i + 1), x.cells ≠ cs) := Lib.hid (by
     rw [take_one he]
     intro x hx
     rcases List.mem_append.1 hx with hx | hx
     ·exact HQ.out.2 x hx
     ·rw [List.mem_singleton] at hx
      subst hx
      exact heq)
    clear hpx hC hOl hnk he heq hv u0 u2
    go_wp2_with fail
    with_reducible refine hs.mono ?_
    rintro r w1 ⟨rfl, hq⟩
    have HQ2 : Hid ((∃ q, w1 = w.drewN q) ∧ ∀ x ∈ o.take (i + 1), x.cells ≠ cs) := Lib.hid ⟨by obtain ⟨q, rfl⟩ := HQ1.out; obtain ⟨q', rfl⟩ := hq; exact ⟨q + q', by rw [World.drewN_drewN]⟩, HN.out⟩
    clear hs hq
    go_wp2
    go_roundw
    case rel => exact ⟨i + 1, by omega, by go_num, HQ2⟩
    case measure => simp [intOf]; omega
  ·obtain rfl : i = o.length := by omega
   have hp : (placeL o cs).isSome = false := by
    have h1 := HQ.out.2
    rw [List.take_length] at h1
    rw [placeL_noneO h1]
    rfl
   have HP := Lib.hid hp
   have HQ1 : Hid (∃ q, wr = w.drewN q) := Lib.hid HQ.out.1
   clear hp
   go_wp2
   go_ret
   exact ⟨⟨-1, rfl, by rw [HP.out]; rfl⟩, HQ1.out⟩
end Go.Proofs.YthgiikhkcpbpfaaGreatDoor.C


namespace Go.Proofs.YthgiikhkcpbpfaaGreatDoor.C
open Go.RowKit Go.Shelf
attribute [local go_sem] Oper.semAt_some
abbrev PlN (N : Nat) := { x : Nat // x < N }
def encN {N : Nat} (x : PlN N) : Array Value := #[.int .i64 (x.1 : Int)]
def runN (a m : Nat) : List Nat := (List.range m).map (a + ·)
theorem runN_next (a k : Nat) : runN a (k + 1) = runN a k ++ [a + k] := by unfold runN; rw [List.range_succ, List.map_append]; rfl
theorem runN_len (a k : Nat) : (runN a k).length = k := by simp [runN]
set_option maxRecDepth 100000 in
set_option maxHeartbeats 4000000 in
theorem ft_in (n N : Nat) (hn : 1 ≤ n) (l Bt Bf B a m : Nat) (J Jx : List (PlN N) → World → Prop) (W : World) (hN : a + m ≤ N) (hm : N ≤ 4611686018427387904) (h1 : 1 ≤ m)
  (hY : ∀ pre x W1, J pre W1 → pre.length < m → YieldAt Fence.wide (n - 1) Tryz.prog l (encN x) W1 fun e W' =>
   (e = .returned (.bool true) ∧ J (pre ++ [x]) W' ∧ Below B W1 W') ∨ (e = .returned (.bool false) ∧ Jx (pre ++ [x]) W'))
  (hT : W.cell? ⟨Bt, 0, none⟩ = some (.int .i64 ((a + m - 1 : Nat) : Int))) (hF : W.cell? ⟨Bf, 0, none⟩ = some (.int .i64 (a : Int))) (hBf : Bf < B) (h0 : J [] W) :
  CallsIn Fence.wide n Tryz.prog 211 #[.func (.yield l) #[] #[], .pointer (some ⟨Bt, 0, none⟩), .pointer (some ⟨Bf, 0, none⟩)] W fun e W' => (∃ v, e = .returned v) ∧
   ((∃ ys, ys.map Subtype.val = runN a m ∧ J ys W') ∨ (∃ pre, True ∧ Jx pre W')) := by
 have hw1 : wrap64 (wrap64 (((a + m - 1 : Nat) : Int) - (a : Int)) + 1) = (m : Int) := by unfold wrap64; omega
 obtain ⟨t, ht⟩ : ∃ t : Int, t = ((a + m - 1 : Nat) : Int) := ⟨_, rfl⟩
 rw [← ht] at hT hw1
 have HF := Lib.hid hF
 clear ht
 refine callsIn_of_wp Tryz.func211 rfl trivial ?_ rfl
 simp only [Tryz.ntmps211, List.size_toArray, List.length_cons, List.length_nil, Nat.reduceAdd, Nat.reduceSub, Array.replicate_succ, Array.replicate_zero, List.push_toArray, List.append_toArray, List.nil_append, List.cons_append]
 gi_wp2
 rw [hw1]
 clear hw1
 gi_loopw [9] (fun v wr => ∃ k : Nat, k ≤ m ∧ v = .int .i64 (k : Int) ∧ (∃ pre, pre.map Subtype.val = runN a k ∧ J pre wr) ∧ Below B W wr) (fun v _ => m - (intOf v).toNat)
 case atStart => exact ⟨0, Nat.zero_le _, rfl, ⟨[], rfl, h0⟩, Below.refl _ _⟩
 case round =>
  obtain ⟨k, hk, rfl, ⟨pre, hpre, hJ⟩, hb⟩ := hrel
  by_cases hlt : k < m
  ·have hlt' : (k : Int) < (m : Int) := by omega
   have hf : wr.cell? ⟨Bf, 0, none⟩ = some (.int .i64 (a : Int)) := (hb.cell (p := ⟨Bf, 0, none⟩) hBf).trans HF.out
   have hw2 : wrap64 ((a : Int) + (k : Int)) = ((a + k : Nat) : Int) := by unfold wrap64; omega
   obtain ⟨fn, tmps, assign, body, hy, hR⟩ := hY pre ⟨a + k, by omega⟩ wr hJ (by have := congrArg List.length hpre; rw [List.length_map, runN_len] at this; omega)
   unfold encN at hy
   rw [Int.natCast_add] at hy
   gi_wp2
   refine hR.mono ?_
   rintro e W3 (⟨rfl, hJ3, hk3⟩ | ⟨rfl, hJx3⟩)
   ·gi_wp2
    go_roundw
    case rel => exact ⟨k + 1, by omega, by go_num, ⟨_, by rw [List.map_append, hpre, runN_next]; rfl, hJ3⟩, hb.trans hk3⟩
    case measure => simp [intOf]; omega
   ·gi_wp2
    refine bodyPost_ret (results_none rfl _ _ _) rfl ?_
    exact ⟨⟨_, rfl⟩, .inr ⟨_, trivial, hJx3⟩⟩
  ·obtain rfl : k = m := by omega
   gi_wp2
   go_end0
   exact ⟨⟨_, rfl⟩, .inl ⟨_, hpre, hJ⟩⟩
theorem belowS_cell {w w' : World} (hb : Below w.heap.size w w') {p : Addr} {v : Value} (h : w.cell? p = some v) : w'.cell? p = some v := (hb.cell (p := p) (World.block_lt_of_cell? w _ h)).trans h
theorem ft_stops (n N : Nat) (hn : 1 ≤ n) (Bt Bf B a m : Nat) (w : World) (hN : a + m ≤ N) (hm : N ≤ 4611686018427387904) (h1 : 1 ≤ m) (hT : w.cell? ⟨Bt, 0, none⟩ = some (.int .i64 ((a + m - 1 : Nat) : Int))) (hF : w.cell? ⟨Bf, 0, none⟩ = some (.int .i64 (a : Int))) (hBf : Bf < B) :
  SeqStopsK Fence.wide n Tryz.prog 211 #[.pointer (some ⟨Bt, 0, none⟩), .pointer (some ⟨Bf, 0, none⟩)] (encN (N := N)) (Below B) (fun ys => ys.map Subtype.val = runN a m) (fun _ => True) m w := fun l J Jx W hW _ _ hY h0 =>
 ft_in n N hn l Bt Bf B a m J Jx W hN hm h1 hY (belowS_cell hW hT) (belowS_cell hW hF) hBf h0
end Go.Proofs.YthgiikhkcpbpfaaGreatDoor.C
