/-
  Joined: LeD, LeE, LeK, LeL, LfA, LfB. Each with what its own head says.
-/
import Derived.Test.YthaibekbefndlaaGreatDoorZ16
import Derived.Test.YthaibekbefndlaaGreatDoorZ17

namespace Go.Proofs.YthaibekbefndlaaGreatDoor.C
open Go.RowKit

def strV (ks : List (List UInt8)) : List Value := ks.map fun n => .string (str n)
theorem strV_in {ks : List (List UInt8)} {n : List UInt8} : Value.string (str n) ∈ strV ks ↔ n ∈ ks := by
 unfold strV
 rw [List.mem_map]
 constructor
 ·rintro ⟨c, hc, he⟩
  injection he with he
  exact str_inj he ▸ hc
 ·intro h
  exact ⟨n, h, rfl⟩
theorem strV_snoc (ks : List (List UInt8)) (n : List UInt8) : strV ks ++ [.string (str n)] = strV (ks ++ [n]) := by simp [strV]
def clsOk (ks : List (List UInt8)) (k : Cls) : Bool := wordlyB k.name && !(ks.contains k.name) && !k.rs.isEmpty && k.rs.all rangeB
theorem clsOk_at {cs : List Cls} {i : Nat} {k : Cls} (h : cs[i]? = some k) : clsAt cs i = clsOk ((cs.take i).map Cls.name) k := by
 unfold clsAt clsOk
 rw [h]
def RcTold (W : World) (A M : Nat) (ks : List (List UInt8)) (k : Cls) (e : Ending) (w' : World) : Prop := e = .returned (.bool (clsOk ks k)) ∧ (clsOk ks k = true → FT w' 151 .string A M (strV (ks ++ [k.name]))) ∧ Fr W w' (fun j => j = M)
set_option maxRecDepth 100000 in
set_option maxHeartbeats 4000000 in
theorem rightClasses1_any (W : World) (B T3 A M : Nat) (ks : List (List UInt8)) (k : Cls) (u : Value) (h3 : One W T3 110 (FnS A)) (hft : FT W 151 .string A M (strV ks)) (hu : PrsR W B u k.rs) (hB : B ≤ W.heap.size) (hBM : B ≤ M) (hn : k.name.length ≤ maxLen) (hr : k.rs.length ≤ maxLen) :
  Calls Tryz.prog 56 #[.agg #[.string (str k.name), u], .pointer (some ⟨T3, 0, none⟩)] W (RcTold W A M ks k) := by
 obtain ⟨nm, rs⟩ := k
 simp only at hn hr hu
 have hu0 := hu
 obtain ⟨Ar, cr, rfl, -⟩ := hu
 obtain ⟨W1, hW1⟩ : ∃ W1, W1 = W.alloc (.cells #[.string (str nm), .slice Ar rs.length cr] 47) := ⟨_, rfl⟩
 have hb1 : Below W.heap.size W W1 := by rw [hW1]; exact (Below.refl _ _).alloc (Nat.le_refl _) _
 have HB1 := Lib.hid hb1
 have HX1 : Hid (Two W1 W.heap.size 47 (.string (str nm)) (.slice Ar rs.length cr)) := Lib.hid (by rw [hW1]; exact Two.new W _ _ _)
 have hw := isWord_any (str nm) W1 (by rw [str_size]; unfold maxLen at hn; omega)
 rw [str_list] at hw
 have HU := Lib.hid hu0
 have H3 := Lib.hid h3
 have HFT := Lib.hid hft
 clear hb1 hu0 h3 hft
 cases hwd : wordlyB nm with
 | false =>
  rw [hwd] at hw
  have hok : clsOk ks ⟨nm, rs⟩ = false := by simp [clsOk, hwd]
  unfold RcTold
  rw [hok]
  clear hwd hok
  go_enter Tryz.func56, Tryz.ntmps56
  go_wp2_with fail
  rw [← hW1]
  refine hw.mono ?_
  rintro e w2 ⟨rfl, hb2⟩
  have HF : Hid (Fr W w2 (fun j => j = M)) := Lib.hid ((Fr.of_below HB1.out).trans (.of_below hb2))
  clear hb2 hw
  go_wp2
  go_ret
  exact ⟨rfl, by simp, HF.out⟩
 | true =>
  rw [hwd] at hw
  by_cases hin : nm ∈ ks
  ·have hok : clsOk ks ⟨nm, rs⟩ = false := by simp [clsOk, hin]
   unfold RcTold
   rw [hok]
   have hno := fun W' hf => isNewS_no W' A M (strV ks) (str nm) hf (strV_in.2 hin)
   have HNO := Lib.hid hno
   clear hwd hok hin hno
   go_enter Tryz.func56, Tryz.ntmps56
   go_wp2_with fail
   rw [← hW1]
   refine hw.mono ?_
   rintro e w2 ⟨rfl, hb2⟩
   have hbW : Below W.heap.size W w2 := HB1.out.trans (hb2.mono HB1.out.size)
   have q1 := (show One w2 T3 _ _ from (hbW.block _ H3.out.lt).trans H3.out).cell
   obtain ⟨q2, q3⟩ := (show Two w2 W.heap.size _ _ _ from (hb2.block _ HX1.out.lt).trans HX1.out).cells
   unfold FnS at q1
   have HN2 := Lib.hid (HNO.out w2 (HFT.out.next (hbW.block _ HFT.out.lt) (hbW.block _ HFT.out.2.lt)))
   have HBW := Lib.hid hbW
   clear hb2 hbW hw
   go_wp2_with (go_at_call 99; refine HN2.out.mono ?_; rintro e w3 ⟨rfl, hg3⟩; (have HG3 := Lib.hid hg3); clear hg3)
   go_ret
   exact ⟨rfl, by simp, (Fr.of_below HBW.out).trans ((Fr.of_grown HG3.out).mono (fun j _ e => by injection e with e; exact e.symm))⟩
  ·have hyes := fun W' hf => isNewS_yes W' A M (strV ks) (str nm) hf (fun h => hin (strV_in.1 h))
   have HYES := Lib.hid hyes
   clear hyes
   by_cases hrs : rs = []
   ·have hok : clsOk ks ⟨nm, rs⟩ = false := by simp [clsOk, hrs]
    unfold RcTold
    rw [hok]
    have hl0 : ¬ (0 : Int) < (rs.length : Int) := by rw [hrs]; simp
    clear hwd hok hin hrs
    go_enter Tryz.func56, Tryz.ntmps56
    go_wp2_with fail
    rw [← hW1]
    refine hw.mono ?_
    rintro e w2 ⟨rfl, hb2⟩
    have hbW : Below W.heap.size W w2 := HB1.out.trans (hb2.mono HB1.out.size)
    have q1 := (show One w2 T3 _ _ from (hbW.block _ H3.out.lt).trans H3.out).cell
    have hX2 : Two w2 W.heap.size _ _ _ := (hb2.block _ HX1.out.lt).trans HX1.out
    obtain ⟨q2, q3⟩ := hX2.cells
    have HX2 := Lib.hid hX2
    unfold FnS at q1
    have hft2 := HFT.out.next (hbW.block _ HFT.out.lt) (hbW.block _ HFT.out.2.lt)
    have HFT2 := Lib.hid hft2
    have HN2 := Lib.hid (HYES.out w2 hft2)
    have HBW := Lib.hid hbW
    clear hb2 hbW hw hft2 hX2
    go_wp2_with (go_at_call 99; refine HN2.out.mono ?_; rintro e w3 ⟨rfl, hf3, hg3⟩; (have HX3 := Lib.hid (HX2.out.kept hg3 (fun e => by have := HFT2.out.2.lt; injection e with e; (obtain ⟨es, q, h1, _⟩ := HFT2.out.2); (have e2 := HX2.out.symm.trans (e ▸ h1)); simp at e2))); (have q4 := HX3.out.cells.2); (have HG3 := Lib.hid hg3); clear hg3 hf3)
    go_ret
    exact ⟨rfl, by simp, (Fr.of_below HBW.out).trans ((Fr.of_grown HG3.out).mono (fun j _ e => by injection e with e; exact e.symm))⟩
   ·have hok : clsOk ks ⟨nm, rs⟩ = rs.all rangeB := by
     cases rs with
     | nil => exact absurd rfl hrs
     | cons a r => simp [clsOk, hin, hwd]
    unfold RcTold
    rw [hok]
    have hl0 : (0 : Int) < (rs.length : Int) := by
     cases rs with
     | nil => exact absurd rfl hrs
     | cons a r => simp
    have HRL := Lib.hid hr
    clear hwd hok hin hrs
    go_enter Tryz.func56, Tryz.ntmps56
    go_wp2_with fail
    rw [← hW1]
    refine hw.mono ?_
    rintro e w2 ⟨rfl, hb2⟩
    have hbW : Below W.heap.size W w2 := HB1.out.trans (hb2.mono HB1.out.size)
    have q1 := (show One w2 T3 _ _ from (hbW.block _ H3.out.lt).trans H3.out).cell
    have hX2 : Two w2 W.heap.size _ _ _ := (hb2.block _ HX1.out.lt).trans HX1.out
    obtain ⟨q2, q3⟩ := hX2.cells
    have HX2 := Lib.hid hX2
    unfold FnS at q1
    have hft2 := HFT.out.next (hbW.block _ HFT.out.lt) (hbW.block _ HFT.out.2.lt)
    have HFT2 := Lib.hid hft2
    have HN2 := Lib.hid (HYES.out w2 hft2)
    have HBW := Lib.hid hbW
    clear hb2 hbW hw hft2 hX2 hr
    go_wp2_with fail
    refine HN2.out.mono ?_
    rintro e w3 ⟨rfl, hf3, hg3⟩
    have hX3 : Two w3 W.heap.size _ _ _ := HX2.out.kept hg3 (fun e => by
     injection e with e
     obtain ⟨es, q, h1, _⟩ := HFT2.out.2
     have e2 := HX2.out.symm.trans (e ▸ h1)
     simp at e2)
    obtain ⟨q4, q5⟩ := hX3.cells
    have hs2 := HBW.out.size
    have hu3 : PrsR w3 B (.slice Ar rs.length cr) rs := (HU.out.on HBW.out hB).keep (fun p hp => World.cell?_of_block (hg3.block p.block (by omega) (fun e => by injection e with e; omega)))
    have har := allRange_any w3 B (.slice Ar rs.length cr) rs hu3 (by have := hg3.size; omega) HRL.out
    have HF3 := Lib.hid hf3
    have HG3 := Lib.hid hg3
    clear hX3 hf3 hg3 hu3 q2 q3 HX2
    go_wp2_with fail
    refine har.mono ?_
    rintro e w4 ⟨rfl, hb4⟩
    have HB4 := Lib.hid hb4
    clear hb4 har
    go_wp2
    go_ret
    refine ⟨rfl, fun _ => ?_, ((Fr.of_below HBW.out).trans ((Fr.of_grown HG3.out).mono (fun j _ e => by injection e with e; exact e.symm))).trans (.of_below HB4.out)⟩
    rw [← strV_snoc]
    exact HF3.out.next (HB4.out.block _ HF3.out.lt) (HB4.out.block _ HF3.out.2.lt)
end Go.Proofs.YthaibekbefndlaaGreatDoor.C

namespace Go.Proofs.YthaibekbefndlaaGreatDoor.C
open Go.RowKit

structure RcI (w0 : World) (t : TypeId) (kd : TypeDesc) (tf : TypeId) (fn : Value) (tv : TypeId) (fv : Value) (V0 T3 A M : Nat) (ks : List Value) (W : World) : Prop where
 bel : Below w0.heap.size w0 W
 v0 : One W V0 tv fv
 t3 : One W T3 tf fn
 ft : FT W t kd A M ks
theorem RcI.next {w0 : World} {t : TypeId} {kd : TypeDesc} {tf : TypeId} {fn : Value} {tv : TypeId} {fv : Value} {V0 T3 A M : Nat} {ks ks' : List Value} {W W' : World} (h : RcI w0 t kd tf fn tv fv V0 T3 A M ks W) (hf : Fr W W' (fun j => j = M)) (hft : FT W' t kd A M ks') (hM : w0.heap.size ≤ M) : RcI w0 t kd tf fn tv fv V0 T3 A M ks' W' :=
 ⟨h.bel.trans ((hf.below (B := w0.heap.size) (fun j _ e => by rw [show j = M from e]; exact hM) h.bel.size)), h.v0.fr hf (h.v0.nomap h.ft.2), h.t3.fr hf (h.t3.nomap h.ft.2), hft⟩
theorem RcI.bel' {w0 : World} {t : TypeId} {kd : TypeDesc} {tf : TypeId} {fn : Value} {tv : TypeId} {fv : Value} {V0 T3 A M : Nat} {ks : List Value} {W W' : World} (h : RcI w0 t kd tf fn tv fv V0 T3 A M ks W) (hf : Fr W W' (fun j => j = M)) (hM : w0.heap.size ≤ M) : Below w0.heap.size w0 W' :=
 h.bel.trans ((hf.below (B := w0.heap.size) (fun j _ e => by rw [show j = M from e]; exact hM) h.bel.size))

set_option maxRecDepth 100000 in
set_option maxHeartbeats 2000000 in
theorem allClass1_any (W : World) (B V0 T3 A M : Nat) (ks : List (List UInt8)) (k : Cls) (u : Value) (hv : One W V0 118 (.func (.func 56) #[] #[.pointer (some ⟨T3, 0, none⟩)])) (h3 : One W T3 110 (FnS A)) (hft : FT W 151 .string A M (strV ks)) (hu : PrsR W B u k.rs) (hB : B ≤ W.heap.size) (hBM : B ≤ M) (hn : k.name.length ≤ maxLen) (hr : k.rs.length ≤ maxLen) :
  Calls Tryz.prog 101 #[.agg #[.string (str k.name), u], .pointer (some ⟨V0, 0, none⟩)] W fun e w' => e = .returned (.bool (!clsOk ks k)) ∧ (clsOk ks k = true → FT w' 151 .string A M (strV (ks ++ [k.name]))) ∧ Fr W w' (fun j => j = M) := by
 have hu0 := hu
 obtain ⟨Ar, cr, rfl, -⟩ := hu
 obtain ⟨W1, hW1⟩ : ∃ W1, W1 = W.alloc (.cells #[.string (str k.name), .slice Ar k.rs.length cr] 47) := ⟨_, rfl⟩
 have hb1 : Below W.heap.size W W1 := by rw [hW1]; exact (Below.refl _ _).alloc (Nat.le_refl _) _
 have hs1 := hb1.size
 have hi := rightClasses1_any W1 B T3 A M ks k (.slice Ar k.rs.length cr) ((hb1.block _ h3.lt).trans h3) (hft.next (hb1.block _ hft.lt) (hb1.block _ hft.2.lt)) (hu0.on hb1 hB) (by omega) hBM hn hr
 have q0 := (show One W1 V0 _ _ from (hb1.block _ hv.lt).trans hv).cell
 obtain ⟨q1, q2⟩ := (show Two W1 W.heap.size 47 (.string (str k.name)) (.slice Ar k.rs.length cr) by rw [hW1]; exact Two.new W _ _ _).cells
 rw [hW1] at q0 q1 q2
 have HB1 := Lib.hid hb1
 unfold RcTold at hi
 clear hb1 hu0 h3 hft hv
 obtain ⟨b, hb⟩ : ∃ b, b = clsOk ks k := ⟨_, rfl⟩
 rw [← hb] at hi ⊢
 clear hb
 go_enter Tryz.func101, Tryz.ntmps101
 go_wp2_with fail
 rw [← hW1]
 refine hi.mono ?_
 rintro e w2 ⟨rfl, hf2, hr2⟩
 have HE := Lib.hid (And.intro hf2 hr2)
 clear hf2 hr2 hi q0 q1 q2 hW1
 go_wp2
 go_ret
 exact ⟨rfl, HE.out.1, (Fr.of_below HB1.out).trans HE.out.2⟩
theorem take_next {α : Type} {l : List α} {k : Nat} {x : α} (h : l[k]? = some x) : l.take (k + 1) = l.take k ++ [x] := by
 rw [List.take_add_one, h]
 rfl
set_option maxRecDepth 100000 in
set_option maxHeartbeats 2000000 in
theorem rightClasses_any (w : World) (B : Nat) (v : Value) (cs : List Cls) (h : ClsR w B v cs) (hB : B ≤ w.heap.size) (hn : cs.length ≤ maxLen) :
  Calls Tryz.prog 30 #[v] w fun e w' => e = .returned (.bool (clsB cs)) ∧ Below w.heap.size w w' := by
 obtain ⟨Ac, c, xs, rfl, hsi, hel⟩ := h
 have hmf : ∀ (fn : Fn) (first cap : Array Value) (w : World), (Instr.makeFunc fn first cap).run Tryz.prog w = .ok (.func fn first cap) w := fun _ _ _ _ => rfl
 have hst := @run_store_func Tryz.prog
 have hfs := firstS_any w
 have hall : ∀ (W : World) (T3 A M : Nat), Below w.heap.size w W → One W T3 110 (FnS A) → FT W 151 .string A M [] → w.heap.size ≤ M → w.heap.size ≤ A → w.heap.size ≤ T3 →
   Calls Tryz.prog 55 #[.slice Ac cs.length c, .func (.func 56) #[] #[.pointer (some ⟨T3, 0, none⟩)]] W fun e w' => e = .returned (.bool (clsB cs)) ∧ Below w.heap.size w w' := by
  intro W T3 A M hbW h3 hft hM hA hT
  obtain ⟨W1, hW1⟩ : ∃ W1, W1 = W.alloc (.cells #[.func (.func 56) #[] #[.pointer (some ⟨T3, 0, none⟩)]] 118) := ⟨_, rfl⟩
  have hb1 : Below W.heap.size W W1 := by rw [hW1]; exact (Below.refl _ _).alloc (Nat.le_refl _) _
  have hI0 : RcI w 151 .string 110 (FnS A) 118 (.func (.func 56) #[] #[.pointer (some ⟨T3, 0, none⟩)]) W.heap.size T3 A M (strV ((cs.take 0).map Cls.name)) W1 :=
   ⟨hbW.trans (hb1.mono hbW.size), by rw [hW1]; exact heap_alloc_new W _, (hb1.block _ h3.lt).trans h3, hft.next (hb1.block _ hft.lt) (hb1.block _ hft.2.lt)⟩
  have hf := hasClass_any W1 B Ac cs.length c xs W.heap.size (fun j => !clsAt cs j) (fun k W' => RcI w 151 .string 110 (FnS A) 118 (.func (.func 56) #[] #[.pointer (some ⟨T3, 0, none⟩)]) W.heap.size T3 A M (strV ((cs.take k).map Cls.name)) W') (fun _ W' => Below w.heap.size w W') hn hI0
   (fun k W' hI => hsi.on hI.bel hB)
   (fun k a b W' hx hI => by
    have hk : k < cs.length := by
     have := (List.getElem?_eq_some_iff.1 hx).1
     rw [hsi.len] at this
     exact this
    obtain ⟨kc, hkc⟩ : ∃ kc, cs[k]? = some kc := ⟨_, List.getElem?_eq_getElem hk⟩
    obtain ⟨u, hu1, hu2, hu3, hu4⟩ := hel k kc hkc
    rw [hx] at hu1
    simp at hu1
    obtain ⟨rfl, rfl⟩ := hu1
    have hs := hI.bel.size
    refine (allClass1_any W' B W.heap.size T3 A M ((cs.take k).map Cls.name) kc b hI.v0 hI.t3 hI.ft (hu2.on hI.bel hB) (by omega) (by omega) hu3 hu4).mono ?_
    rintro e w2 ⟨rfl, hf2, hr2⟩
    refine ⟨by rw [clsOk_at hkc], fun hq => ?_, fun _ => hI.bel' hr2 hM⟩
    have hq2 : clsOk ((cs.take k).map Cls.name) kc = true := by
     simp only [clsOk_at hkc] at hq
     simpa using hq
    have := hI.next hr2 (hf2 hq2) hM
    rw [take_next hkc, List.map_append]
    exact this)
  have hbb : ∀ w2, Below W.heap.size W w2 → Below w.heap.size w w2 := fun w2 h2 => hbW.trans (h2.mono hbW.size)
  clear hsi hel hft h3 hI0
  go_enter Tryz.func55, Tryz.ntmps55
  go_wp2_with fail
  rw [← hW1]
  refine hf.mono ?_
  rintro e w2 (⟨j, hj, hq, -, rfl, hb2⟩ | ⟨hq, rfl, hI2⟩)
  ·have hp : clsB cs = false := range_all_false hj hq
   clear hq hf
   go_wp2
   go_ret
   rw [hp]
   exact ⟨rfl, hb2⟩
  ·have hp : clsB cs = true := range_all_true hq
   have HB := Lib.hid hI2.bel
   clear hq hf hI2
   go_wp2
   go_ret
   rw [hp]
   exact ⟨rfl, HB.out⟩
 clear hsi hel
 go_enter Tryz.func30, Tryz.ntmps30
 go_wp2_with fail
 refine hfs.mono ?_
 rintro e w1 ⟨rfl, hft, hb, hs⟩
 obtain ⟨W2, hW2⟩ : ∃ W2, W2 = w1.alloc (.cells #[FnS (w.heap.size + 1)] 110) := ⟨_, rfl⟩
 have hca := hall W2 w1.heap.size (w.heap.size + 1) w.heap.size (by rw [hW2]; exact hb.alloc hb.size _) (by rw [hW2]; exact heap_alloc_new w1 _) (by rw [hW2]; exact hft.next (heap_lt _ _ (by omega)) (heap_lt _ _ (by omega))) (Nat.le_refl _) (by omega) (by omega)
 unfold FnS at hW2
 clear hft hb hs hfs hall
 go_wp2_with fail
 rw [← hW2]
 refine hca.mono ?_
 rintro e w3 ⟨rfl, hb3⟩
 have HB3 := Lib.hid hb3
 clear hb3 hca
 go_wp2
 go_ret
 exact ⟨rfl, HB3.out⟩
end Go.Proofs.YthaibekbefndlaaGreatDoor.C

namespace Go.Proofs.YthaibekbefndlaaGreatDoor.C
open Go.RowKit

def namesK (o : List Elm) (a : Nat) : List (List UInt8) := ((o.take a).filter fun x => !x.name.isEmpty).map Elm.name
def textsK (o : List Elm) (b : Nat) : List (List UInt8) := (o.take b).map fun x => textL x.cells
theorem elemB_right {e : Elm} (h : elemB e = true) : ∀ c ∈ e.cells, rightB c = true := by
 obtain ⟨nm, xs, s⟩ := e
 by_cases h1 : xs.length = 1
 ·obtain ⟨u, rfl⟩ : ∃ u, xs = [u] := by
   match xs, h1 with
   | [u], _ => exact ⟨u, rfl⟩
  rw [elemB_one] at h
  intro c hc
  simp at hc
  subst hc
  have := (Bool.and_eq_true_iff.1 h).1
  unfold scalB at this
  exact (Bool.and_eq_true_iff.1 this).2
 ·rw [elemB_more s h1] at h
  have h2 := (Bool.and_eq_true_iff.1 (Bool.and_eq_true_iff.1 h).1).1
  have h3 := (quotB_parts h2).2.2.2.2
  unfold canonB at h3
  exact fun c hc => (List.all_eq_true.1 (Bool.and_eq_true_iff.1 h3).1) c hc
theorem elemAt_elem {o : List Elm} {i : Nat} {e : Elm} (he : o[i]? = some e) (h : elemAt o i = true) : elemB e = true := by
 unfold elemAt at h
 rw [he] at h
 simp only [Bool.and_eq_true] at h
 exact h.1.1.1
theorem elemAt_is {o : List Elm} {i : Nat} {e : Elm} (he : o[i]? = some e) : elemAt o i = (elemB e && !((o.take i).any fun x => decide (x.cells = e.cells)) && sameAt o i e && (e.name.isEmpty || !((o.take i).any fun x => decide (x.name = e.name)))) := by
 unfold elemAt
 rw [he]
theorem texts_in {o : List Elm} {i : Nat} {e : Elm} (hok : ∀ j, j < i → elemAt o j = true) (he : elemB e = true) : textL e.cells ∈ textsK o i ↔ ((o.take i).any fun x => decide (x.cells = e.cells)) = true := by
 unfold textsK
 rw [List.mem_map, List.any_eq_true]
 constructor
 ·rintro ⟨x, hx, hxe⟩
  refine ⟨x, hx, decide_eq_true (textL_inj ?_ (elemB_right he) hxe)⟩
  obtain ⟨j, hj, rfl⟩ := List.mem_iff_getElem.1 hx
  rw [List.getElem_take]
  rw [List.length_take] at hj
  exact elemB_right (elemAt_elem (List.getElem?_eq_getElem (by omega)) (hok j (by omega)))
 ·rintro ⟨x, hx, hxe⟩
  exact ⟨x, hx, by rw [of_decide_eq_true hxe]⟩
theorem names_at {o : List Elm} {i : Nat} {nm : List UInt8} (hn : nm ≠ []) : nm ∈ namesK o i ↔ ((o.take i).any fun x => decide (x.name = nm)) = true := by
 unfold namesK
 rw [List.mem_map, List.any_eq_true]
 constructor
 ·rintro ⟨x, hx, hxe⟩
  exact ⟨x, (List.mem_filter.1 hx).1, decide_eq_true hxe⟩
 ·rintro ⟨x, hx, hxe⟩
  have := of_decide_eq_true hxe
  refine ⟨x, List.mem_filter.2 ⟨hx, ?_⟩, this⟩
  rw [this]
  cases nm with
  | nil => exact absurd rfl hn
  | cons => rfl
theorem texts_next {o : List Elm} {i : Nat} {e : Elm} (he : o[i]? = some e) : textsK o (i + 1) = textsK o i ++ [textL e.cells] := by
 unfold textsK
 rw [take_next he, List.map_append]
 rfl
theorem names_next {o : List Elm} {i : Nat} {e : Elm} (he : o[i]? = some e) : namesK o (i + 1) = if e.name = [] then namesK o i else namesK o i ++ [e.name] := by
 unfold namesK
 rw [take_next he, List.filter_append, List.map_append]
 by_cases h : e.name = []
 ·rw [if_pos h]
  simp [h]
 ·rw [if_neg h]
  have : (!e.name.isEmpty) = true := by cases hn : e.name with | nil => exact absurd hn h | cons => rfl
  simp [this]
structure RoI (w : World) (o : List Elm) (An Mn At Mt a b : Nat) (W : World) : Prop where
 bel : Below w.heap.size w W
 fn : FT W 151 .string An Mn (strV (namesK o a))
 ft : FT W 151 .string At Mt (strV (textsK o b))
section
variable {w W W' : World} {o : List Elm} {An Mn At Mt a b : Nat}
theorem RoI.below (h : RoI w o An Mn At Mt a b W) (hb : Below W.heap.size W W') : RoI w o An Mn At Mt a b W' :=
 ⟨h.bel.trans (hb.mono h.bel.size), h.fn.next (hb.block _ h.fn.lt) (hb.block _ h.fn.2.lt), h.ft.next (hb.block _ h.ft.lt) (hb.block _ h.ft.2.lt)⟩
theorem ft_apart {A M A' M' : Nat} {ks ks' : List Value} {t : TypeId} {kd kd' : TypeDesc} (h : FT W t kd A M ks) (h' : FT W t kd' A' M' ks') (hg : W.grownBy W' (some M')) (hne : M ≠ M') : FT W' t kd A M ks :=
 h.fr (X := fun j => j = M') ((Fr.of_grown hg).mono (fun j _ e => by injection e with e; exact e.symm)) (One.nomap h.1 h'.2) hne
theorem RoI.text {b' : Nat} (h : RoI w o An Mn At Mt a b W) (hf : FT W' 151 .string At Mt (strV (textsK o b'))) (hg : W.grownBy W' (some Mt)) (hne : Mn ≠ Mt) (hM : w.heap.size ≤ Mt) : RoI w o An Mn At Mt a b' W' :=
 ⟨h.bel.trans (((Fr.of_grown hg).below (B := w.heap.size) (fun j _ e => by injection e with e; omega) h.bel.size)), ft_apart h.fn h.ft hg hne, hf⟩
theorem RoI.name {a' : Nat} (h : RoI w o An Mn At Mt a b W) (hf : FT W' 151 .string An Mn (strV (namesK o a'))) (hg : W.grownBy W' (some Mn)) (hne : Mn ≠ Mt) (hM : w.heap.size ≤ Mn) : RoI w o An Mn At Mt a' b W' :=
 ⟨h.bel.trans (((Fr.of_grown hg).below (B := w.heap.size) (fun j _ e => by injection e with e; omega) h.bel.size)), hf, ft_apart h.ft h.fn hg hne.symm⟩
theorem RoI.end_ {M : Nat} (h : RoI w o An Mn At Mt a b W) (hg : W.grownBy W' (some M)) (hM : w.heap.size ≤ M) : Below w.heap.size w W' :=
 h.bel.trans (((Fr.of_grown hg).below (B := w.heap.size) (fun j _ e => by injection e with e; omega) h.bel.size))
end
theorem Three.grown {w w' : World} {b : Nat} {t : TypeId} {u v x : Value} {M : Nat} {kd : TypeDesc} {l : List (Value × Value)} (h : Three w b t u v x) (hm : MapIs w M kd l) (hg : w.grownBy w' (some M)) : Three w' b t u v x := (hg.block b h.lt (by
 intro e
 injection e with e
 subst e
 obtain ⟨es, c, h1, _⟩ := hm
 have e := h.symm.trans h1
 simp at e)).trans h
theorem Three.below {w w' : World} {b : Nat} {t : TypeId} {u v x : Value} (h : Three w b t u v x) (hb : Below w.heap.size w w') : Three w' b t u v x := (hb.block _ h.lt).trans h
end Go.Proofs.YthaibekbefndlaaGreatDoor.C

namespace Go.Proofs.YthaibekbefndlaaGreatDoor.C
open Go.RowKit

theorem elemB_len {e : Elm} (h : elemB e = true) : e.cells.length ≤ 4 := by
 obtain ⟨nm, xs, s⟩ := e
 by_cases h1 : xs.length = 1
 ·show xs.length ≤ 4
  omega
 ·rw [elemB_more s h1] at h
  exact (quotB_parts (Bool.and_eq_true_iff.1 (Bool.and_eq_true_iff.1 h).1).1).2.1
set_option maxRecDepth 100000 in
set_option maxHeartbeats 8000000 in
theorem rightOrder_any (w : World) (B : Nat) (v : Value) (o : List Elm) (h : OrdR w B v o) (hB : B ≤ w.heap.size) (hG : Gm w) :
  Calls Tryz.prog 32 #[v] w fun e w' => e = .returned (.bool (ordB o)) ∧ Below w.heap.size w w' := by
 obtain ⟨A, c, xs, rfl, hsi, hel⟩ := h
 by_cases h5 : 500 < o.length
 ·have hr : ordB o = false := by unfold ordB; rw [decide_eq_false (by omega)]; rfl
  have i5 : (500 : Int) < (o.length : Int) := by omega
  rw [hr]
  clear hsi hel hG hr
  go_enter Tryz.func32, Tryz.ntmps32
  go_wp2
  go_ret
  exact ⟨rfl, Below.refl _ _⟩
 have i5 : ¬ (500 : Int) < (o.length : Int) := by omega
 have hmf : ∀ (fn : Fn) (first cap : Array Value) (w : World), (Instr.makeFunc fn first cap).run Tryz.prog w = .ok (.func fn first cap) w := fun _ _ _ _ => rfl
 have HSI := Lib.hid hsi
 have HEL := Lib.hid hel
 have HG := Lib.hid hG
 have HO : Hid (∀ b, (∀ j, j < o.length → elemAt o j = true) → b = true → ordB o = b) := Lib.hid (fun b hb e => by
  subst e
  unfold ordB
  rw [decide_eq_true (by omega), Bool.true_and]
  exact List.all_eq_true.2 fun j hj => hb j (List.mem_range.1 hj))
 have HN : Hid (∀ j, j < o.length → elemAt o j = false → ordB o = false) := Lib.hid (fun j hj hb => by
  unfold ordB
  rw [range_all_false (f := elemAt o) hj (by rw [hb]; rfl), Bool.and_false])
 clear hsi hel hG h5
 go_enter Tryz.func32, Tryz.ntmps32
 go_wp2_with fail
 refine (firstS_any _).mono ?_
 rintro e w1 ⟨rfl, hf1, hb1, hs1⟩
 have HF1 := Lib.hid hf1
 have HB1 := Lib.hid hb1
 have HS1 := Lib.hid hs1
 clear hf1 hb1 hs1
 go_wp2_with fail
 refine (firstS_any _).mono ?_
 rintro e w2 ⟨rfl, hf2, hb2, hs2⟩
 obtain ⟨An, hAn⟩ : ∃ An, An = w.heap.size + 1 := ⟨_, rfl⟩
 obtain ⟨At, hAt⟩ : ∃ At, At = w1.heap.size + 1 := ⟨_, rfl⟩
 obtain ⟨Mt, hMt⟩ : ∃ Mt, Mt = w1.heap.size := ⟨_, rfl⟩
 have HI0 : Hid (RoI w o An w.heap.size At Mt 0 0 w2) := Lib.hid (by
  rw [hAn, hAt, hMt]
  exact ⟨HB1.out.trans (hb2.mono HB1.out.size), HF1.out.next (hb2.block _ HF1.out.lt) (hb2.block _ HF1.out.2.lt), hf2⟩)
 have hne : w.heap.size ≠ Mt := by have := HS1.out; omega
 have hMt2 : w.heap.size ≤ Mt := by have := HB1.out.size; omega
 rw [← hAn, ← hAt]
 have HNE := Lib.hid hne
 have HMT := Lib.hid hMt2
 clear hf2 hb2 hs2 hAn hAt hMt HF1 HB1 HS1 hne hMt2
 go_wp2
 go_loopw [14] (fun iv wr => ∃ i : Nat, i ≤ o.length ∧ iv = .int .i64 i ∧ Hid (RoI w o An w.heap.size At Mt i i wr) ∧ Hid (∀ j, j < i → elemAt o j = true)) (fun iv _ => o.length - (intOf iv).toNat)
 case atStart => exact ⟨0, Nat.zero_le _, rfl, HI0, Lib.hid (fun j hj => absurd hj (by omega))⟩
 case round =>
  obtain ⟨i, hin, rfl, HI, HOK⟩ := hrel
  by_cases hlt : i < o.length
  rotate_left
  ·obtain rfl : i = o.length := by omega
   go_wp2
   go_ret
   exact ⟨by rw [HO.out true HOK.out rfl]; rfl, HI.out.bel⟩
  obtain ⟨e, he⟩ : ∃ e, o[i]? = some e := ⟨_, List.getElem?_eq_getElem hlt⟩
  obtain ⟨Ac, cc, hx1, hri, hnl, -⟩ := HEL.out i e he
  obtain ⟨ad, a1, a2, a3, rfl, hbl, hx2, c0, c1, c2⟩ := (HSI.out.on HI.out.bel hB).at3 hlt
  rw [hx1] at hx2
  simp at hx2
  obtain ⟨rfl, rfl, rfl⟩ := hx2
  obtain ⟨W1, hW1⟩ : ∃ W1, W1 = wr.alloc (.cells #[.string (str e.name), .slice Ac e.cells.length cc, .int .i64 e.same] 34) := ⟨_, rfl⟩
  have hb1 : Below wr.heap.size wr W1 := by rw [hW1]; exact (Below.refl _ _).alloc (Nat.le_refl _) _
  have hI1 := HI.out.below hb1
  have hX1 : Three W1 wr.heap.size 34 (.string (str e.name)) (.slice Ac e.cells.length cc) (.int .i64 e.same) := by rw [hW1]; exact Three.new wr _ _ _ _
  have hs0 := hI1.bel.size
  have hG1 : Gm W1 := HG.out.next hI1.bel
  have hri1 : RI .i32 W1 B Ac e.cells.length e.cells := hri.keep fun p hp => hI1.bel.cell (by omega)
  have hie := isElem_any W1 B Ac e.cells.length cc e.name e.cells e.same hri1 (by omega) hG1 hnl
  rw [show (⟨e.name, e.cells, e.same⟩ : Elm) = e from rfl] at hie
  obtain ⟨q0, q1, q2⟩ := hX1.cells
  rw [hW1] at q0 q1 q2
  have HI1 := Lib.hid hI1
  have HX1 := Lib.hid hX1
  have HR1 := Lib.hid hri1
  have HG1 := Lib.hid hG1
  have HE := Lib.hid he
  have HRI := Lib.hid hri
  have i0 : (0 : Int) ≤ (i : Int) := by omega
  have i1 : (i : Int) < (o.length : Int) := by omega
  clear hI1 hX1 hri1 hG1 hri hb1 hx1 he
  cases heb : elemB e with
  | false =>
   rw [heb] at hie
   have hno := HN.out i hlt (by rw [elemAt_is HE.out, heb]; rfl)
   have HNO := Lib.hid hno
   clear heb hno
   go_wp2_with fail
   rw [← hW1]
   refine hie.mono ?_
   rintro r w3 ⟨rfl, hb3⟩
   have HB3 := Lib.hid (HI1.out.below hb3).bel
   clear hb3 hie
   go_wp2
   go_ret
   exact ⟨by rw [HNO.out]; rfl, HB3.out⟩
  | true =>
   rw [heb] at hie
   have HEB := Lib.hid heb
   clear heb
   go_wp2_with fail
   rw [← hW1]
   refine hie.mono ?_
   rintro r w3 ⟨rfl, hb3⟩
   have hI3 := HI1.out.below hb3
   have hX3 := HX1.out.below hb3
   have hs3 := hI3.bel.size
   have htx := text_any w3 B Ac e.cells.length cc e.cells (HRI.out.keep fun p hp => hI3.bel.cell (by omega)) (by omega) (by have := (elemB_len HEB.out); omega) ((HG.out.next hI3.bel).1.2.1)
   obtain ⟨p0, p1, p2⟩ := hX3.cells
   have HI3 := Lib.hid hI3
   have HX3 := Lib.hid hX3
   clear hb3 hI3 hX3 hie q0 q1 q2 c0 c1 c2 hW1
   go_wp2_with fail
   refine htx.mono ?_
   rintro r w4 ⟨rfl, hb4⟩
   have hI4 := HI3.out.below hb4
   have hX4 := HX3.out.below hb4
   have HI4 := Lib.hid hI4
   have HX4 := Lib.hid hX4
   clear hb4 hI4 hX4 htx p0 p1 p2
   by_cases hti : textL e.cells ∈ textsK o i
   ·have hno := HN.out i hlt (by rw [elemAt_is HE.out, (texts_in HOK.out HEB.out).1 hti]; simp)
    have hnew := isNewS_no w4 At Mt (strV (textsK o i)) (str (textL e.cells)) HI4.out.ft (strV_in.2 hti)
    have HNO := Lib.hid hno
    clear hti hno
    go_wp2_with fail
    refine hnew.mono ?_
    rintro r w5 ⟨rfl, hg5⟩
    have HB5 := Lib.hid (HI4.out.end_ hg5 HMT.out)
    clear hg5 hnew
    go_wp2
    go_ret
    exact ⟨by rw [HNO.out]; rfl, HB5.out⟩
   have hnew := isNewS_yes w4 At Mt (strV (textsK o i)) (str (textL e.cells)) HI4.out.ft (fun h => hti (strV_in.1 h))
   have HTI : Hid (((o.take i).any fun x => decide (x.cells = e.cells)) = false) := Lib.hid (by
    cases hq : ((o.take i).any fun x => decide (x.cells = e.cells)) with
    | false => rfl
    | true => exact absurd ((texts_in HOK.out HEB.out).2 hq) hti)
   clear hti
   go_wp2_with fail
   refine hnew.mono ?_
   rintro r w5 ⟨rfl, hf5, hg5⟩
   rw [strV_snoc, ← texts_next HE.out] at hf5
   have hI5 := HI4.out.text hf5 hg5 HNE.out HMT.out
   have hX5 := HX4.out.grown HI4.out.ft.2 hg5
   have hs5 := hI5.bel.size
   have hrs := rightSame_any w5 B (.slice (some ad) o.length c) o ⟨_, c, xs, rfl, HSI.out.on hI5.bel hB, fun j x hj => by
    obtain ⟨u1, u2, u3, u4, u5⟩ := HEL.out j x hj
    exact ⟨u1, u2, u3, u4.keep fun p hp => hI5.bel.cell (by omega), u5⟩⟩ i e HE.out
   have HI5 := Lib.hid hI5
   have HX5 := Lib.hid hX5
   clear hf5 hg5 hI5 hX5 hnew
   cases hsm : sameAt o i e with
   | false =>
    rw [hsm] at hrs
    have hno := HN.out i hlt (by rw [elemAt_is HE.out, hsm]; simp)
    have HNO := Lib.hid hno
    clear hsm hno
    go_wp2_with fail
    refine hrs.mono ?_
    rintro r w6 ⟨rfl, rfl⟩
    clear hrs
    go_wp2
    go_ret
    exact ⟨by rw [HNO.out]; rfl, HI5.out.bel⟩
   | true =>
    rw [hsm] at hrs
    have HSM := Lib.hid hsm
    clear hsm
    go_wp2_with fail
    refine hrs.mono ?_
    rintro r w6 ⟨rfl, rfl⟩
    obtain ⟨p0, p1, p2⟩ := HX5.out.cells
    have hem := str_empty e.name
    clear hrs
    by_cases hnm : e.name = []
    ·have hem2 : (str e.name).toList.isEmpty = true := by rw [hem, hnm]; rfl
     have hI7 : RoI w o An w.heap.size At Mt (i + 1) (i + 1) w6 := by
      have := HI5.out
      refine ⟨this.bel, ?_, this.ft⟩
      rw [names_next HE.out, if_pos hnm]
      exact this.fn
     have hok : ∀ j, j < i + 1 → elemAt o j = true := by
      intro j hj
      rcases Nat.lt_or_ge j i with h | h
      ·exact HOK.out j h
      ·obtain rfl : j = i := by omega
       rw [elemAt_is HE.out, HEB.out, HTI.out, HSM.out, hnm]
       rfl
     have HI7 := Lib.hid hI7
     have HOK7 := Lib.hid hok
     clear hem hnm hI7 hok
     go_wp2
     go_roundw
     case rel => exact ⟨i + 1, by omega, by go_num, HI7, HOK7⟩
     case measure => simp [intOf]; omega
    ·have hem2 : (str e.name).toList.isEmpty = false := by
      rw [hem]
      cases hq : e.name with
      | nil => exact absurd hq hnm
      | cons => rfl
     by_cases hni : e.name ∈ namesK o i
     ·have hno := HN.out i hlt (by
       rw [elemAt_is HE.out, (names_at hnm).1 hni]
       cases hq : e.name with
       | nil => exact absurd hq hnm
       | cons => simp)
      have hnew := isNewS_no w6 An w.heap.size (strV (namesK o i)) (str e.name) HI5.out.fn (strV_in.2 hni)
      have HNO := Lib.hid hno
      clear hem hnm hni hno
      go_wp2_with fail
      refine hnew.mono ?_
      rintro r w7 ⟨rfl, hg7⟩
      have HB7 := Lib.hid (HI5.out.end_ hg7 (Nat.le_refl _))
      clear hg7 hnew
      go_wp2
      go_ret
      exact ⟨by rw [HNO.out]; rfl, HB7.out⟩
     ·have hnew := isNewS_yes w6 An w.heap.size (strV (namesK o i)) (str e.name) HI5.out.fn (fun h => hni (strV_in.1 h))
      have hok : ∀ j, j < i + 1 → elemAt o j = true := by
       intro j hj
       rcases Nat.lt_or_ge j i with h | h
       ·exact HOK.out j h
       ·obtain rfl : j = i := by omega
        have hq : ((o.take j).any fun x => decide (x.name = e.name)) = false := by
         cases hq : ((o.take j).any fun x => decide (x.name = e.name)) with
         | false => rfl
         | true => exact absurd ((names_at hnm).2 hq) hni
        rw [elemAt_is HE.out, HEB.out, HTI.out, HSM.out, hq]
        simp
      have HOK7 := Lib.hid hok
      have HNM := Lib.hid hnm
      clear hem hnm hni hok
      go_wp2_with fail
      refine hnew.mono ?_
      rintro r w7 ⟨rfl, hf7, hg7⟩
      rw [strV_snoc] at hf7
      have HI7 : Hid (RoI w o An w.heap.size At Mt (i + 1) (i + 1) w7) := Lib.hid (HI5.out.name (by rw [names_next HE.out, if_neg HNM.out]; exact hf7) hg7 HNE.out (Nat.le_refl _))
      clear hf7 hg7 hnew
      go_wp2
      go_roundw
      case rel => exact ⟨i + 1, by omega, by go_num, HI7, HOK7⟩
      case measure => simp [intOf]; omega
end Go.Proofs.YthaibekbefndlaaGreatDoor.C

namespace Go.Proofs.YthaibekbefndlaaGreatDoor.C
open Go.RowKit

def tkR (T : Nat) : Nat → Option Value := fun i => if i = 3 then some (.int .i64 T) else none
def PW (w : World) (B P : Nat) (S : List UInt8) (T : Nat) : Prop := LibA.IsBuffer 73 (tkR T) 5 B P 0 (Lib.byteCells S) w
def Kp (B P : Nat) (w w' : World) : Prop := Below B w w' ∧ Lib.OthersKept 5 (some P) w w'
theorem Kp.refl (B P : Nat) (w : World) : Kp B P w w := ⟨Below.refl _ _, Lib.OthersKept.refl _ _ _⟩
theorem Kp.trans {B P : Nat} {w w' w'' : World} (h : Kp B P w w') (k : Kp B P w' w'') : Kp B P w w'' := ⟨h.1.trans k.1, h.2.trans k.2⟩
theorem Kp.of_below {B P : Nat} {w w' : World} (h : Below w.heap.size w w') (hB : B ≤ w.heap.size) : Kp B P w w' := ⟨h.mono hB, (Lib.OthersKept.refl _ _ _).below h⟩
theorem byteCells_take (S : List UInt8) (n : Nat) : Lib.byteCells (S.take n) = (Lib.byteCells S).take n := by simp [Lib.byteCells]

set_option maxRecDepth 100000 in
set_option maxHeartbeats 2000000 in
theorem truncate_any (w : World) (B P TT : Nat) (R : Nat → Option Value) (bs : List Value) (n : Nat) (h : LibA.IsBuffer TT R 5 B P 0 bs w) (h0 : 0 < n) (hn : n ≤ bs.length) :
  Calls Tryz.prog 141 #[.pointer (some ⟨P, 0, none⟩), .int .i64 n] w fun e w' => e = .returned (.tuple #[]) ∧ LibA.IsBuffer TT R 5 B P 0 (bs.take n) w' ∧ Kp B P w w' := by
 obtain ⟨hB, lr, ⟨h1, h2⟩ | ⟨g, cap, cur, hbk, hBg, hg, hnc, hcm, hcs, htk, hgb⟩⟩ := h.cases
 ·subst h1
  simp at hn
  omega
 have hlen := Tryz.Buffer_Len_at TT R B P 0 bs
 have hIB : ∀ W, W = w.setCell ⟨P, 2, none⟩ (.int .i8 0) → LibA.IsBuffer TT R 5 B P 0 bs W := fun W hW => by rw [hW]; exact h.setLast 0
 obtain ⟨W, hW⟩ : ∃ W, W = w.setCell ⟨P, 2, none⟩ (.int .i8 0) := ⟨_, rfl⟩
 have hl2 := hlen W (hIB W hW)
 have hbk2 : LibA.Three W P 0 TT R (.slice (some ⟨g, 0, none⟩) bs.length cap) (.int .i64 0) (.int .i8 0) := by rw [hW]; exact hbk.set2 _
 have hg2 : W.heap[g]? = some (.cells cur 5 (0, 0)) := by rw [hW, Below.heap_setCell _ _ _ _ hgb]; exact hg
 have f0 : w.frozen? ⟨P, 2, none⟩ = false := hbk.f 2
 have c2 : w.cell? ⟨P, 2, none⟩ = some (.int .i8 lr) := hbk.c2
 have i0 : (0 : Int) < (n : Int) := by omega
 have i1 : ¬ (n : Int) < 0 := by omega
 have i2 : ¬ (bs.length : Int) < (n : Int) := by omega
 have i3 : ((n : Int) == 0) = false := beq_eq_false_iff_ne.2 (by omega)
 have hm : cap ≤ 9223372036854775807 := hcm
 have i4 : n ≤ cap := by omega
 have HBK := Lib.hid hbk2
 have HG := Lib.hid hg2
 have HB := Lib.hid hB
 have HCS := Lib.hid hcs
 have HTK := Lib.hid htk
 have HBG := Lib.hid hBg
 clear h hlen hIB hbk hg hbk2 hg2 hcs htk
 go_enter Tryz.func141, Tryz.ntmps141
 go_wp2_with fail
 rw [← hW]
 refine hl2.mono ?_
 rintro e w2 ⟨rfl, k, rfl⟩
 have HWE := Lib.hid hW
 clear hl2 hW
 have c0 : (W.drewN k).cell? ⟨P, 0, none⟩ = some (.slice (some ⟨g, 0, none⟩) bs.length cap) := HBK.out.c0
 have c1 : (W.drewN k).cell? ⟨P, 1, none⟩ = some (.int .i64 0) := HBK.out.c1
 have f1 : (W.drewN k).frozen? ⟨P, 0, none⟩ = false := HBK.out.f 0
 go_wp2
 refine wp_region_E (S := fun W' : World => W'.cell? ⟨P, 0, none⟩ = some (.slice (some ⟨g, 0, none⟩) bs.length cap) ∧ W'.cell? ⟨P, 1, none⟩ = some (.int .i64 0)) (L := 14) (by kernel_rfl) ?_
 have hwr : IntKind.i64.wrap (n : Int) = (n : Int) := by rw [IntKind.wrap_i64]; omega
 have i5 : (n : Int) ≤ (cap : Int) := by omega
 have hS1 : (fun W' : World => W'.cell? ⟨P, 0, none⟩ = some (.slice (some ⟨g, 0, none⟩) bs.length cap) ∧ W'.cell? ⟨P, 1, none⟩ = some (.int .i64 0)) (W.drewN k).drew := ⟨c0, c1⟩
 iterate 12 (refine wpE rfl rfl ?_; try simp only [Act.put, g1, g2, g3, g4, g5, g6])
 refine wpAnyE_one (i := 12) (by kernel_rfl) rfl (fun K hK => ?_)
 simp only [g4, g5, g6]
 go_simp
 refine hK.out _ _ (fun _ => hS1) (fun hS => ?_)
 replace hS := hS (by decide)
 refine wpEn 13 rfl ?_
 try simp only [Act.put, g1, g2, g3, g4, g5, g6]
 refine wpAnyE_one (i := 14) (by kernel_rfl) rfl (fun K hK => ?_)
 have c00 : W.cell? ⟨P, 0, none⟩ = some (.slice (some ⟨g, 0, none⟩) bs.length cap) := c0
 have f00 : W.frozen? ⟨P, 0, none⟩ = false := f1
 simp only [g4, g5, g6]
 go_simp
 refine hK.out _ _ (fun h => absurd rfl h) (fun _ => ?_)
 refine wpAnyE_done (by kernel_rfl) ?_ _
 have hend := LibA.isBuffer_mk (T := TT) (R := R) (e := 5) (o := 0) (lr := 0) HB.out ((show LibA.Three (W.drewN (k + 1)) P 0 TT R (.slice (some ⟨g, 0, none⟩) bs.length cap) (.int .i64 0) (.int .i8 0) from HBK.out).set0 (.slice (some ⟨g, 0, none⟩) n cap)) HBG.out (by rw [Below.heap_setCell _ _ _ _ hgb]; exact HG.out) i4 hcm HCS.out hgb
 have htn : bs.take n = cur.toList.take n := by
  conv => lhs; rw [← HTK.out]
  rw [List.take_take, Nat.min_eq_left hn]
 rw [← htn] at hend
 have hkp : Kp B P w ((W.drewN (k + 1)).setCell ⟨P, 0, none⟩ (.slice (some ⟨g, 0, none⟩) n cap)) := by
  rw [HWE.out]
  have hb0 := (Below.refl B w).setCell (p := ⟨P, 2, none⟩) HB.out (.int .i8 0)
  exact ⟨(show Below B w ((w.setCell ⟨P, 2, none⟩ (.int .i8 0)).drewN (k + 1)) from ⟨hb0.os, hb0.tape, hb0.output, hb0.size, hb0.block⟩).setCell (p := ⟨P, 0, none⟩) HB.out _, (((Lib.OthersKept.refl _ _ _).setCell ⟨P, 2, none⟩ rfl _).drewN (k + 1)).setCell ⟨P, 0, none⟩ rfl _⟩
 go_end0
 exact ⟨rfl, hend, hkp⟩
end Go.Proofs.YthaibekbefndlaaGreatDoor.C

namespace Go.Proofs.YthaibekbefndlaaGreatDoor.C
open Go.RowKit

theorem PW.rest {w : World} {B P T : Nat} {S : List UInt8} (h : PW w B P S T) : w.cell? ⟨P, 3, none⟩ = some (.int .i64 T) := LibA.IsBuffer.rest h 3 (.inr (by omega))
theorem PW.lt {w : World} {B P T : Nat} {S : List UInt8} (h : PW w B P S T) : P < w.heap.size := LibA.IsBuffer.lt h
theorem PW.le {w : World} {B P T : Nat} {S : List UInt8} (h : PW w B P S T) : B ≤ P := h.1
theorem PW.old {w w' : World} {B P T : Nat} {S : List UInt8} (h : PW w B P S T) (hb : Below w.heap.size w w') : PW w' B P S T := LibA.IsBuffer.old h hb
theorem PW.count {w : World} {B P T : Nat} {S : List UInt8} (h : PW w B P S T) (T' : Nat) : PW (w.setCell ⟨P, 3, none⟩ (.int .i64 T')) B P S T' := by
 have h1 := LibA.IsBuffer.setOther h 3 (.inr (by omega)) (old := .int .i64 T) rfl (.int .i64 T')
 have he : (fun j => if j = 3 then some (Value.int .i64 T') else tkR T j) = tkR T' := by
  funext j
  unfold tkR
  by_cases hj : j = 3
  ·rw [if_pos hj, if_pos hj]
  ·rw [if_neg hj, if_neg hj, if_neg hj]
 rw [he] at h1
 exact h1
theorem Kp.set {B P : Nat} {w w' : World} (h : Kp B P w w') (hB : B ≤ P) (i : Nat) (v : Value) : Kp B P w (w'.setCell ⟨P, i, none⟩ v) := ⟨h.1.setCell (p := ⟨P, i, none⟩) hB _, h.2.setCell ⟨P, i, none⟩ rfl _⟩
theorem Kp.size {B P : Nat} {w w' : World} (h : Kp B P w w') : w.heap.size ≤ w'.heap.size := h.1.size
def longV : List PanicEntry := [{ v := .iface 28 (.int .u16 3), recovered := false }]
def PutTold (w : World) (B P : Nat) (S : List UInt8) (T : Nat) (e : Ending) (w' : World) : Prop :=
 (S.length ≤ 4000 ∧ T ≤ 1000 ∧ e = .returned (.tuple #[]) ∧ PW w' B P S T ∧ Kp B P w w') ∨ (¬ (S.length ≤ 4000 ∧ T ≤ 1000) ∧ e = .panicked longV ∧ Below B w w')
def Printable (ts : List Tok) : Prop := ∀ x ∈ ts, x.t.length ≤ 5000 ∧ x.n < 1048576 * 1048576
def PrnL (ts : List Tok) : Prop := (∀ x ∈ ts, x.n < 1048576 * 1048576) ∧ (prtL ts).length + 4000 ≤ 140737488355328
theorem PrnL.of {ts : List Tok} (h : Printable ts) (hn : ts.length ≤ 5000) : PrnL ts := ⟨fun x hx => (h x hx).2, by have := prtL_len ts h; omega⟩

set_option maxRecDepth 100000 in
set_option maxHeartbeats 2000000 in
theorem putL_any (w : World) (B P T n c : Nat) (A : Option Addr) (S : List UInt8) (ts : List Tok) (B' : Nat) (h : PW w B P S T) (ht : TI w B' A n ts) (hB' : B' ≤ w.heap.size) (hS : S.length ≤ 4000) (hT : T ≤ 1000) (hn : n ≤ 5000) (hG : Gl w) (hok : PrnL ts) (hB : B ≤ w.heap.size) :
  Calls Tryz.prog 81 #[.pointer (some ⟨P, 0, none⟩), .slice A n c] w (PutTold w B P (S ++ prtL ts) (T + ts.length)) := by
 have hl := ht.len
 have hpr := print_any w.drew B' A n c ts ht hB' hG hn hok.1 (by have := hok.2; omega)
 have hlen := hok.2
 have hszP : (str (prtL ts)).size = (prtL ts).length := rfl
 have hbl : (Lib.byteCells S).length = S.length := Lib.byteCells_length S
 obtain ⟨T', hT'⟩ : ∃ T' : Nat, T' = T + ts.length := ⟨_, rfl⟩
 have hTi : (T : Int) + (n : Int) = (T' : Int) := by omega
 obtain ⟨S', hS'⟩ : ∃ S', S' = S ++ prtL ts := ⟨_, rfl⟩
 rw [← hT', ← hS']
 have hSl : S'.length ≤ 140737488355328 := by
  rw [hS', List.length_append]
  omega
 have hTl : T' ≤ 6000 := by omega
 have HS := Lib.hid hS'
 clear hT' hS'
 have HH := Lib.hid h
 have HB := Lib.hid hB
 have HBP := Lib.hid h.le
 have HL := Lib.hid hlen
 have HN := Lib.hid hl
 clear h ht hok hG hlen
 go_enter Tryz.func81, Tryz.ntmps81
 go_wp2
 refine wp_region_held (S := fun _ : World => True) (by kernel_rfl) ?_
 change wpAnyH _ _ _ _ _ _ _ _ w.drew
 have hS1 : (fun _ : World => True) w.drew := trivial
 iterate 4 (refine wpH rfl rfl ?_; try simp only [Act.put, g1, g2, g3, g4, g5, g6])
 refine wpAnyH_one (i := 4) (by kernel_rfl) rfl (fun K hK => ?_)
 simp only [g4, g5, g6]
 go_simp
 go_at_call 139
 with_reducible refine hpr.mono ?_
 rintro e w1 ⟨rfl, hb1⟩
 refine hK.out _ _ trivial (fun _ => ?_)
 have hb1' : Below w.heap.size w w1 := ⟨hb1.os, hb1.tape, hb1.output, hb1.size, hb1.block⟩
 have hP1 := HH.out.old hb1'
 have hwr := Tryz.Buffer_WriteString_at 73 (tkR T) B P 0 (Lib.byteCells S) (str (prtL ts)) w1 hP1 (Nat.le_trans HB.out hb1'.size) (Lib.byteCells_one _) (by rw [hbl, hszP]; have := HL.out; omega)
 have hk1 := Kp.of_below (P := P) hb1' HB.out
 have HK1 := Lib.hid hk1
 clear hb1 hb1' hP1 hpr hk1 hszP
 refine wpAnyH_one (i := 5) (by kernel_rfl) rfl (fun K hK => ?_)
 simp only [g4, g5, g6]
 go_simp
 go_at_call 138
 with_reducible refine hwr.mono ?_
 rintro e w2 ⟨rfl, hib, hb2, ho2⟩
 refine hK.out _ _ trivial (fun _ => ?_)
 refine ⟨by kernel_rfl, ?_⟩
 rw [str_list, ← Lib.byteCells_append] at hib
 have hp2 : PW w2 B P (S ++ prtL ts) T := hib
 have hk2 : Kp B P w w2 := HK1.out.trans ⟨hb2, ho2⟩
 rw [← HS.out] at hp2
 have q3 := hp2.rest
 have f3 : w2.frozen? ⟨P, 3, none⟩ = false := LibA.IsBuffer.notFrozen hp2 3
 obtain ⟨W3, hW3⟩ : ∃ W3, W3 = w2.setCell ⟨P, 3, none⟩ (.int .i64 T') := ⟨_, rfl⟩
 have hp3 : PW W3 B P S' T' := by rw [hW3]; exact hp2.count T'
 have hk3 : Kp B P w W3 := by rw [hW3]; exact hk2.set HBP.out 3 _
 have hln := Tryz.Buffer_Len_at 73 (tkR T') B P 0 (Lib.byteCells S') W3 hp3
 rw [Lib.byteCells_length] at hln
 have HP3 := Lib.hid hp3
 have HK3 := Lib.hid hk3
 clear hp2 hk2 hib hb2 ho2 hwr hbl HK1 hp3 hk3
 go_wp2_with fail
 rw [← hW3]
 refine hln.mono ?_
 rintro e w4 ⟨rfl, k, rfl⟩
 have q4 : (W3.drewN k).cell? ⟨P, 3, none⟩ = some (.int .i64 T') := HP3.out.rest
 have hk4 : Kp B P w (W3.drewN k) := ⟨⟨HK3.out.1.os, HK3.out.1.tape, HK3.out.1.output, HK3.out.1.size, HK3.out.1.block⟩, HK3.out.2.drewN k⟩
 have HK4 := Lib.hid hk4
 have HW3 := Lib.hid hW3
 clear hln hW3 q3 f3 hk4
 by_cases h4 : 4000 < S'.length
 ·have i4 : (4000 : Int) < (S'.length : Int) := by omega
  have HX : Hid (¬ (S'.length ≤ 4000 ∧ T' ≤ 1000)) := Lib.hid (fun h => by omega)
  clear h4
  go_wp2
  exact ⟨rfl, .inr ⟨HX.out, rfl, HK4.out.1⟩⟩
 ·by_cases h5 : 1000 < T'
  ·have i4 : ¬ (4000 : Int) < (S'.length : Int) := by omega
   have i5 : (1000 : Int) < (T' : Int) := by omega
   have HX : Hid (¬ (S'.length ≤ 4000 ∧ T' ≤ 1000)) := Lib.hid (fun h => by omega)
   clear h4 h5
   go_wp2
   exact ⟨rfl, .inr ⟨HX.out, rfl, HK4.out.1⟩⟩
  ·have i4 : ¬ (4000 : Int) < (S'.length : Int) := by omega
   have i5 : ¬ (1000 : Int) < (T' : Int) := by omega
   have HX : Hid (S'.length ≤ 4000 ∧ T' ≤ 1000) := Lib.hid (by omega)
   clear h4 h5
   go_wp2
   go_end0
   exact .inl ⟨HX.out.1, HX.out.2, rfl, HP3.out.drewN k, HK4.out⟩
theorem put_any (w : World) (B P T n c : Nat) (A : Option Addr) (S : List UInt8) (ts : List Tok) (B' : Nat) (h : PW w B P S T) (ht : TI w B' A n ts) (hB' : B' ≤ w.heap.size) (hS : S.length ≤ 4000) (hT : T ≤ 1000) (hn : n ≤ 5000) (hG : Gl w) (hok : Printable ts) (hB : B ≤ w.heap.size) :
  Calls Tryz.prog 81 #[.pointer (some ⟨P, 0, none⟩), .slice A n c] w (PutTold w B P (S ++ prtL ts) (T + ts.length)) :=
 putL_any w B P T n c A S ts B' h ht hB' hS hT hn hG (PrnL.of hok (by have := ht.len; omega)) hB
end Go.Proofs.YthaibekbefndlaaGreatDoor.C
