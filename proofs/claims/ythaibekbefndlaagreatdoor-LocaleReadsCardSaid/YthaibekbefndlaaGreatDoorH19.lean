/-
  Joined: LeE, LeF, MCellG, MCellI, MCellJ, MUtfM, MUtfD, MUtfF. Each with what its own head says.
-/
import Derived.Lib.AppendStr
import Derived.Lib.QuoteHex
import Derived.Lib.BufferRead
import Derived.Test.YthaibekbefndlaaGreatDoorH18

namespace Go.Proofs.YthaibekbefndlaaGreatDoor.C
open Go.RowKit

structure RcI (w0 : World) (t : TypeId) (kd : TypeDesc) (tf : TypeId) (fn : Value) (tv : TypeId) (fv : Value) (V0 T3 A M : Nat) (ks : List Value) (W : World) : Prop where
 bel : Below w0.heap.size w0 W
 v0 : One W V0 tv fv
 t3 : One W T3 tf fn
 ft : FT W t kd A M ks
theorem RcI.next {w0 : World} {t : TypeId} {kd : TypeDesc} {tf : TypeId} {fn : Value} {tv : TypeId} {fv : Value} {V0 T3 A M : Nat} {ks ks' : List Value} {W W' : World} (h : RcI w0 t kd tf fn tv fv V0 T3 A M ks W) (hf : Fr W W' (fun j => j = M)) (hft : FT W' t kd A M ks') (hM : w0.heap.size ≤ M) : RcI w0 t kd tf fn tv fv V0 T3 A M ks' W' :=
 ⟨h.bel.trans ((hf.below (B := w0.heap.size) (fun j _ e => by rw [show j = M from e]; exact hM) h.bel.size)), h.v0.fr hf (h.v0.nomap h.ft.2), h.t3.fr hf (h.t3.nomap h.ft.2), hft⟩
theorem RcI.bel' {w0 : World} {t : TypeId} {kd : TypeDesc} {tf : TypeId} {fn : Value} {tv : TypeId} {fv : Value} {V0 T3 A M : Nat} {ks : List Value} {W W' : World} (h : RcI w0 t kd tf fn tv fv V0 T3 A M ks W) (hf : Fr W W' (fun j => j = M)) (hM : w0.heap.size ≤ M) : Below w0.heap.size w0 W' :=
 h.bel.trans ((hf.below (B := w0.heap.size) (fun j _ e => by rw [show j = M from e]; exact hM) h.bel.size))

set_option maxRecDepth 100000 in
set_option maxHeartbeats 2000000 in
theorem allClass1_any (W : World) (B V0 T3 A M : Nat) (ks : List (List UInt8)) (k : Cls) (u : Value) (hv : One W V0 118 (.func (.func 56) #[] #[.pointer (some ⟨T3, 0, none⟩)])) (h3 : One W T3 110 (FnS A)) (hft : FT W 151 .string A M (strV ks)) (hu : PrsR W B u k.rs) (hB : B ≤ W.heap.size) (hBM : B ≤ M) (hn : k.name.length ≤ maxLen) (hr : k.rs.length ≤ maxLen) :
  Calls Tryz.prog 101 #[.agg #[.string (str k.name), u], .pointer (some ⟨V0, 0, none⟩)] W fun e w' => e = .returned (.bool (!clsOk ks k)) ∧ (clsOk ks k = true → FT w' 151 .string A M (strV (ks ++ [k.name]))) ∧ Fr W w' (fun j => j = M) := by
 have hu0 := hu
 obtain ⟨Ar, cr, rfl, -⟩ := hu
 obtain ⟨W1, hW1⟩ : ∃ W1, W1 = W.alloc (.cells #[.string (str k.name), .slice Ar k.rs.length cr] 47) := ⟨_, rfl⟩
 have hb1 : Below W.heap.size W W1 := by rw [hW1]; exact (Below.refl _ _).alloc (Nat.le_refl _) _
 have hs1 := hb1.size
 have hi := rightClasses1_any W1 B T3 A M ks k (.slice Ar k.rs.length cr) ((hb1.block _ h3.lt).trans h3) (hft.next (hb1.block _ hft.lt) (hb1.block _ hft.2.lt)) (hu0.on hb1 hB) (by omega) hBM hn hr
 have q0 := (show One W1 V0 _ _ from (hb1.block _ hv.lt).trans hv).cell
 obtain ⟨q1, q2⟩ := (show Two W1 W.heap.size 47 (.string (str k.name)) (.slice Ar k.rs.length cr) by rw [hW1]; exact Two.new W _ _ _).cells
 rw [hW1] at q0 q1 q2
 have HB1 := Lib.hid hb1
 unfold RcTold at hi
 clear hb1 hu0 h3 hft hv
 obtain ⟨b, hb⟩ : ∃ b, b = clsOk ks k := ⟨_, rfl⟩
 rw [← hb] at hi ⊢
 clear hb
 go_enter Tryz.func101, Tryz.ntmps101
 go_wp2_with fail
 rw [← hW1]
 refine hi.mono ?_
 rintro e w2 ⟨rfl, hf2, hr2⟩
 have HE := Lib.hid (And.intro hf2 hr2)
 clear hf2 hr2 hi q0 q1 q2 hW1
 go_wp2
 go_ret
 exact ⟨rfl, HE.out.1, (Fr.of_below HB1.out).trans HE.out.2⟩
theorem take_next {α : Type} {l : List α} {k : Nat} {x : α} (h : l[k]? = some x) : l.take (k + 1) = l.take k ++ [x] := by
 rw [List.take_add_one, h]
 rfl
set_option maxRecDepth 100000 in
set_option maxHeartbeats 2000000 in
theorem rightClasses_any (w : World) (B : Nat) (v : Value) (cs : List Cls) (h : ClsR w B v cs) (hB : B ≤ w.heap.size) (hn : cs.length ≤ maxLen) :
  Calls Tryz.prog 30 #[v] w fun e w' => e = .returned (.bool (clsB cs)) ∧ Below w.heap.size w w' := by
 obtain ⟨Ac, c, xs, rfl, hsi, hel⟩ := h
 have hmf : ∀ (fn : Fn) (first cap : Array Value) (w : World), (Instr.makeFunc fn first cap).run Tryz.prog w = .ok (.func fn first cap) w := fun _ _ _ _ => rfl
 have hst := @run_store_func Tryz.prog
 have hfs := firstS_any w
 have hall : ∀ (W : World) (T3 A M : Nat), Below w.heap.size w W → One W T3 110 (FnS A) → FT W 151 .string A M [] → w.heap.size ≤ M → w.heap.size ≤ A → w.heap.size ≤ T3 →
   Calls Tryz.prog 55 #[.slice Ac cs.length c, .func (.func 56) #[] #[.pointer (some ⟨T3, 0, none⟩)]] W fun e w' => e = .returned (.bool (clsB cs)) ∧ Below w.heap.size w w' := by
  intro W T3 A M hbW h3 hft hM hA hT
  obtain ⟨W1, hW1⟩ : ∃ W1, W1 = W.alloc (.cells #[.func (.func 56) #[] #[.pointer (some ⟨T3, 0, none⟩)]] 118) := ⟨_, rfl⟩
  have hb1 : Below W.heap.size W W1 := by rw [hW1]; exact (Below.refl _ _).alloc (Nat.le_refl _) _
  have hI0 : RcI w 151 .string 110 (FnS A) 118 (.func (.func 56) #[] #[.pointer (some ⟨T3, 0, none⟩)]) W.heap.size T3 A M (strV ((cs.take 0).map Cls.name)) W1 :=
   ⟨hbW.trans (hb1.mono hbW.size), by rw [hW1]; exact heap_alloc_new W _, (hb1.block _ h3.lt).trans h3, hft.next (hb1.block _ hft.lt) (hb1.block _ hft.2.lt)⟩
  have hf := hasClass_any W1 B Ac cs.length c xs W.heap.size (fun j => !clsAt cs j) (fun k W' => RcI w 151 .string 110 (FnS A) 118 (.func (.func 56) #[] #[.pointer (some ⟨T3, 0, none⟩)]) W.heap.size T3 A M (strV ((cs.take k).map Cls.name)) W') (fun _ W' => Below w.heap.size w W') hn hI0
   (fun k W' hI => hsi.on hI.bel hB)
   (fun k a b W' hx hI => by
    have hk : k < cs.length := by
     have := (List.getElem?_eq_some_iff.1 hx).1
     rw [hsi.len] at this
     exact this
    obtain ⟨kc, hkc⟩ : ∃ kc, cs[k]? = some kc := ⟨_, List.getElem?_eq_getElem hk⟩
    obtain ⟨u, hu1, hu2, hu3, hu4⟩ := hel k kc hkc
    rw [hx] at hu1
    simp at hu1
    obtain ⟨rfl, rfl⟩ := hu1
    have hs := hI.bel.size
    refine (allClass1_any W' B W.heap.size T3 A M ((cs.take k).map Cls.name) kc b hI.v0 hI.t3 hI.ft (hu2.on hI.bel hB) (by omega) (by omega) hu3 hu4).mono ?_
    rintro e w2 ⟨rfl, hf2, hr2⟩
    refine ⟨by rw [clsOk_at hkc], fun hq => ?_, fun _ => hI.bel' hr2 hM⟩
    have hq2 : clsOk ((cs.take k).map Cls.name) kc = true := by
     simp only [clsOk_at hkc] at hq
     simpa using hq
    have := hI.next hr2 (hf2 hq2) hM
    rw [take_next hkc, List.map_append]
    exact this)
  have hbb : ∀ w2, Below W.heap.size W w2 → Below w.heap.size w w2 := fun w2 h2 => hbW.trans (h2.mono hbW.size)
  clear hsi hel hft h3 hI0
  go_enter Tryz.func55, Tryz.ntmps55
  go_wp2_with fail
  rw [← hW1]
  refine hf.mono ?_
  rintro e w2 (⟨j, hj, hq, -, rfl, hb2⟩ | ⟨hq, rfl, hI2⟩)
  ·have hp : clsB cs = false := range_all_false hj hq
   clear hq hf
   go_wp2
   go_ret
   rw [hp]
   exact ⟨rfl, hb2⟩
  ·have hp : clsB cs = true := range_all_true hq
   have HB := Lib.hid hI2.bel
   clear hq hf hI2
   go_wp2
   go_ret
   rw [hp]
   exact ⟨rfl, HB.out⟩
 clear hsi hel
 go_enter Tryz.func30, Tryz.ntmps30
 go_wp2_with fail
 refine hfs.mono ?_
 rintro e w1 ⟨rfl, hft, hb, hs⟩
 obtain ⟨W2, hW2⟩ : ∃ W2, W2 = w1.alloc (.cells #[FnS (w.heap.size + 1)] 110) := ⟨_, rfl⟩
 have hca := hall W2 w1.heap.size (w.heap.size + 1) w.heap.size (by rw [hW2]; exact hb.alloc hb.size _) (by rw [hW2]; exact heap_alloc_new w1 _) (by rw [hW2]; exact hft.next (heap_lt _ _ (by omega)) (heap_lt _ _ (by omega))) (Nat.le_refl _) (by omega) (by omega)
 unfold FnS at hW2
 clear hft hb hs hfs hall
 go_wp2_with fail
 rw [← hW2]
 refine hca.mono ?_
 rintro e w3 ⟨rfl, hb3⟩
 have HB3 := Lib.hid hb3
 clear hb3 hca
 go_wp2
 go_ret
 exact ⟨rfl, HB3.out⟩
end Go.Proofs.YthaibekbefndlaaGreatDoor.C

namespace Go.Proofs.YthaibekbefndlaaGreatDoor.C
open Go.RowKit

def FnC (A : Nat) : Value := .func (.func 105) #[] #[.pointer (some ⟨A, 0, none⟩)]
def celV (ks : List Int) : List Value := ks.map fun n => .int .i32 n
theorem celV_in {ks : List Int} {n : Int} : Value.int .i32 n ∈ celV ks ↔ n ∈ ks := by
 unfold celV
 rw [List.mem_map]
 constructor
 ·rintro ⟨c, hc, he⟩
  injection he with _ he
  exact he ▸ hc
 ·intro h
  exact ⟨n, h, rfl⟩
theorem celV_snoc (ks : List Int) (n : Int) : celV ks ++ [.int .i32 n] = celV (ks ++ [n]) := by simp [celV]
def prOk (ks : List Int) (p : Int × Int) : Bool := scalB p.1 && scalB p.2 && !(ks.contains p.1)
theorem prOk_at {l : List (Int × Int)} {i : Nat} {p : Int × Int} (h : l[i]? = some p) : pairAt l i = prOk ((l.take i).map Prod.fst) p := by
 unfold pairAt prOk
 rw [h]
def RpTold (W : World) (A M : Nat) (ks : List Int) (p : Int × Int) (r : Bool) (e : Ending) (w' : World) : Prop := e = .returned (.bool r) ∧ (prOk ks p = true → FT w' 153 (.int .i32) A M (celV (ks ++ [p.1]))) ∧ Fr W w' (fun j => j = M)
set_option maxRecDepth 100000 in
set_option maxHeartbeats 4000000 in
theorem rightPairs1_any (W : World) (T3 A M : Nat) (ks : List Int) (p : Int × Int) (h3 : One W T3 111 (FnC A)) (hft : FT W 153 (.int .i32) A M (celV ks)) :
  Calls Tryz.prog 62 #[.agg #[.int .i32 p.1, .int .i32 p.2], .pointer (some ⟨T3, 0, none⟩)] W (RpTold W A M ks p (prOk ks p)) := by
 obtain ⟨a, b⟩ := p
 obtain ⟨W1, hW1⟩ : ∃ W1, W1 = W.alloc (.cells #[.int .i32 a, .int .i32 b] 49) := ⟨_, rfl⟩
 have hb1 : Below W.heap.size W W1 := by rw [hW1]; exact (Below.refl _ _).alloc (Nat.le_refl _) _
 have HB1 := Lib.hid hb1
 have HX1 : Hid (Two W1 W.heap.size 49 (.int .i32 a) (.int .i32 b)) := Lib.hid (by rw [hW1]; exact Two.new W _ _ _)
 have HFT1 : Hid (FT W1 153 (.int .i32) A M (celV ks)) := Lib.hid (hft.next (hb1.block _ hft.lt) (hb1.block _ hft.2.lt))
 have H31 : Hid (One W1 T3 111 (FnC A)) := Lib.hid ((hb1.block _ h3.lt).trans h3)
 have h1 := fun W => isScalar_any a W
 have h2 := fun W => isScalar_any b W
 obtain ⟨q2, q3⟩ := HX1.out.cells
 have q1 := H31.out.cell
 unfold FnC at q1
 rw [hW1] at q1 q2 q3
 unfold RpTold
 clear hb1 h3 hft
 cases ha : scalB a with
 | false =>
  rw [ha] at h1
  have hok : prOk ks (a, b) = false := by simp [prOk, ha]
  rw [hok]
  clear h2 ha hok
  go_enter Tryz.func62, Tryz.ntmps62
  go_wp2_with (go_at_call 63; with_reducible refine (h1 _).mono ?_; rintro e w' ⟨rfl, rfl⟩)
  go_ret
  rw [← hW1]
  exact ⟨rfl, by simp, .of_below HB1.out⟩
 | true =>
  rw [ha] at h1
  cases hb2 : scalB b with
  | false =>
   rw [hb2] at h2
   have hok : prOk ks (a, b) = false := by simp [prOk, hb2]
   rw [hok]
   clear ha hb2 hok
   go_enter Tryz.func62, Tryz.ntmps62
   go_wp2_with (first
    | (go_at_call 63; with_reducible refine (h1 _).mono ?_; rintro e w' ⟨rfl, rfl⟩)
    | (go_at_call 63; with_reducible refine (h2 _).mono ?_; rintro e w' ⟨rfl, rfl⟩))
   go_ret
   rw [← hW1]
   exact ⟨rfl, by simp, .of_below HB1.out⟩
  | true =>
   rw [hb2] at h2
   by_cases hin : a ∈ ks
   ·have hok : prOk ks (a, b) = false := by simp [prOk, hin]
    rw [hok]
    have hno := isNewC_no W1 A M (celV ks) a HFT1.out (celV_in.2 hin)
    rw [hW1] at hno
    have HNO := Lib.hid hno
    clear ha hb2 hok hin hno
    go_enter Tryz.func62, Tryz.ntmps62
    go_wp2_with (first
     | (go_at_call 63; with_reducible refine (h1 _).mono ?_; rintro e w' ⟨rfl, rfl⟩)
     | (go_at_call 63; with_reducible refine (h2 _).mono ?_; rintro e w' ⟨rfl, rfl⟩)
     | (go_at_call 105; refine HNO.out.mono ?_; rintro e w3 ⟨rfl, hg3⟩; (have HG3 := Lib.hid hg3); clear hg3))
    go_ret
    exact ⟨rfl, by simp, (Fr.of_below HB1.out).trans ((Fr.of_grown (by rw [hW1]; exact HG3.out)).mono (fun j _ e => by injection e with e; exact e.symm))⟩
   ·have hok : prOk ks (a, b) = true := by simp [prOk, ha, hb2, hin]
    rw [hok]
    have hyes := isNewC_yes W1 A M (celV ks) a HFT1.out (fun h => hin (celV_in.1 h))
    rw [hW1] at hyes
    have HYES := Lib.hid hyes
    clear ha hb2 hok hin hyes
    go_enter Tryz.func62, Tryz.ntmps62
    go_wp2_with (first
     | (go_at_call 63; with_reducible refine (h1 _).mono ?_; rintro e w' ⟨rfl, rfl⟩)
     | (go_at_call 63; with_reducible refine (h2 _).mono ?_; rintro e w' ⟨rfl, rfl⟩)
     | (go_at_call 105; refine HYES.out.mono ?_; rintro e w3 ⟨rfl, hf3, hg3⟩; (have HF3 := Lib.hid hf3); (have HG3 := Lib.hid hg3); clear hf3 hg3))
    go_ret
    refine ⟨rfl, fun _ => ?_, (Fr.of_below HB1.out).trans ((Fr.of_grown (by rw [hW1]; exact HG3.out)).mono (fun j _ e => by injection e with e; exact e.symm))⟩
    rw [← celV_snoc]
    exact HF3.out

set_option maxRecDepth 100000 in
set_option maxHeartbeats 2000000 in
theorem allPair1_any (W : World) (V0 T3 A M : Nat) (ks : List Int) (p : Int × Int) (hv : One W V0 121 (.func (.func 62) #[] #[.pointer (some ⟨T3, 0, none⟩)])) (h3 : One W T3 111 (FnC A)) (hft : FT W 153 (.int .i32) A M (celV ks)) :
  Calls Tryz.prog 107 #[.agg #[.int .i32 p.1, .int .i32 p.2], .pointer (some ⟨V0, 0, none⟩)] W (RpTold W A M ks p (!prOk ks p)) := by
 obtain ⟨W1, hW1⟩ : ∃ W1, W1 = W.alloc (.cells #[.int .i32 p.1, .int .i32 p.2] 49) := ⟨_, rfl⟩
 have hb1 : Below W.heap.size W W1 := by rw [hW1]; exact (Below.refl _ _).alloc (Nat.le_refl _) _
 have hi := rightPairs1_any W1 T3 A M ks p ((hb1.block _ h3.lt).trans h3) (hft.next (hb1.block _ hft.lt) (hb1.block _ hft.2.lt))
 have q0 := (show One W1 V0 _ _ from (hb1.block _ hv.lt).trans hv).cell
 obtain ⟨q1, q2⟩ := (show Two W1 W.heap.size 49 (.int .i32 p.1) (.int .i32 p.2) by rw [hW1]; exact Two.new W _ _ _).cells
 rw [hW1] at q0 q1 q2
 have HB1 := Lib.hid hb1
 unfold RpTold at hi
 clear hb1 h3 hft hv
 obtain ⟨b, hb⟩ : ∃ b, b = prOk ks p := ⟨_, rfl⟩
 unfold RpTold
 rw [← hb] at hi ⊢
 clear hb
 obtain ⟨pa, pb⟩ := p
 simp only at hi hW1 q0 q1 q2 ⊢
 go_enter Tryz.func107, Tryz.ntmps107
 go_wp2_with fail
 rw [← hW1]
 refine hi.mono ?_
 rintro e w2 ⟨rfl, hf2, hr2⟩
 have HE := Lib.hid (And.intro hf2 hr2)
 clear hf2 hr2 hi q0 q1 q2 hW1
 go_wp2
 go_ret
 exact ⟨rfl, HE.out.1, (Fr.of_below HB1.out).trans HE.out.2⟩
set_option maxRecDepth 100000 in
set_option maxHeartbeats 2000000 in
theorem rightPairs_any (w : World) (B : Nat) (v : Value) (l : List (Int × Int)) (h : PrsR w B v l) (hB : B ≤ w.heap.size) (hn : l.length ≤ maxLen) :
  Calls Tryz.prog 31 #[v] w fun e w' => e = .returned (.bool (pairsB l)) ∧ Below w.heap.size w w' := by
 obtain ⟨Ac, c, rfl, hsi⟩ := h
 have hmf : ∀ (fn : Fn) (first cap : Array Value) (w : World), (Instr.makeFunc fn first cap).run Tryz.prog w = .ok (.func fn first cap) w := fun _ _ _ _ => rfl
 have hst := @run_store_func Tryz.prog
 have hfs := firstC_any w
 have hall : ∀ (W : World) (T3 A M : Nat), Below w.heap.size w W → One W T3 111 (FnC A) → FT W 153 (.int .i32) A M [] → w.heap.size ≤ M →
   Calls Tryz.prog 61 #[.slice Ac l.length c, .func (.func 62) #[] #[.pointer (some ⟨T3, 0, none⟩)]] W fun e w' => e = .returned (.bool (pairsB l)) ∧ Below w.heap.size w w' := by
  intro W T3 A M hbW h3 hft hM
  obtain ⟨W1, hW1⟩ : ∃ W1, W1 = W.alloc (.cells #[.func (.func 62) #[] #[.pointer (some ⟨T3, 0, none⟩)]] 121) := ⟨_, rfl⟩
  have hb1 : Below W.heap.size W W1 := by rw [hW1]; exact (Below.refl _ _).alloc (Nat.le_refl _) _
  have hI0 : RcI w 153 (.int .i32) 111 (FnC A) 121 (.func (.func 62) #[] #[.pointer (some ⟨T3, 0, none⟩)]) W.heap.size T3 A M (celV ((l.take 0).map Prod.fst)) W1 :=
   ⟨hbW.trans (hb1.mono hbW.size), by rw [hW1]; exact heap_alloc_new W _, (hb1.block _ h3.lt).trans h3, hft.next (hb1.block _ hft.lt) (hb1.block _ hft.2.lt)⟩
  have hf := hasPair_any W1 B Ac l.length c (l.map prRow) W.heap.size (fun j => !pairAt l j) (fun k W' => RcI w 153 (.int .i32) 111 (FnC A) 121 (.func (.func 62) #[] #[.pointer (some ⟨T3, 0, none⟩)]) W.heap.size T3 A M (celV ((l.take k).map Prod.fst)) W') (fun _ W' => Below w.heap.size w W') hn hI0
   (fun k W' hI => hsi.on hI.bel hB)
   (fun k a b W' hx hI => by
    obtain ⟨p, hp, rfl, rfl⟩ := prRow_at hx
    refine (allPair1_any W' W.heap.size T3 A M ((l.take k).map Prod.fst) p hI.v0 hI.t3 hI.ft).mono ?_
    rintro e w2 ⟨rfl, hf2, hr2⟩
    refine ⟨by rw [prOk_at hp], fun hq => ?_, fun _ => hI.bel' hr2 hM⟩
    have hq2 : prOk ((l.take k).map Prod.fst) p = true := by
     simp only [prOk_at hp] at hq
     simpa using hq
    have := hI.next hr2 (hf2 hq2) hM
    rw [take_next hp, List.map_append]
    exact this)
  have hbb : ∀ w2, Below W.heap.size W w2 → Below w.heap.size w w2 := fun w2 h2 => hbW.trans (h2.mono hbW.size)
  clear hsi hft h3 hI0
  go_enter Tryz.func61, Tryz.ntmps61
  go_wp2_with fail
  rw [← hW1]
  refine hf.mono ?_
  rintro e w2 (⟨j, hj, hq, -, rfl, hb2⟩ | ⟨hq, rfl, hI2⟩)
  ·have hp : pairsB l = false := range_all_false hj hq
   clear hq hf
   go_wp2
   go_ret
   rw [hp]
   exact ⟨rfl, hb2⟩
  ·have hp : pairsB l = true := range_all_true hq
   have HB := Lib.hid hI2.bel
   clear hq hf hI2
   go_wp2
   go_ret
   rw [hp]
   exact ⟨rfl, HB.out⟩
 clear hsi
 go_enter Tryz.func31, Tryz.ntmps31
 go_wp2_with fail
 refine hfs.mono ?_
 rintro e w1 ⟨rfl, hft, hb, hs⟩
 obtain ⟨W2, hW2⟩ : ∃ W2, W2 = w1.alloc (.cells #[FnC (w.heap.size + 1)] 111) := ⟨_, rfl⟩
 have hca := hall W2 w1.heap.size (w.heap.size + 1) w.heap.size (by rw [hW2]; exact hb.alloc hb.size _) (by rw [hW2]; exact heap_alloc_new w1 _) (by rw [hW2]; exact hft.next (heap_lt _ _ (by omega)) (heap_lt _ _ (by omega))) (Nat.le_refl _)
 unfold FnC at hW2
 clear hft hb hs hfs hall
 go_wp2_with fail
 rw [← hW2]
 refine hca.mono ?_
 rintro e w3 ⟨rfl, hb3⟩
 have HB3 := Lib.hid hb3
 clear hb3 hca
 go_wp2
 go_ret
 exact ⟨rfl, HB3.out⟩
end Go.Proofs.YthaibekbefndlaaGreatDoor.C

namespace Go.Proofs.YthaibekbefndlaaGreatDoor.C
open Go.RowKit

theorem info5 : (Tryz.prog.info? 5).map (fun i => (i.zero, i.size, i.bytes)) = some (some (.int .u8 0), 1, 1) := by kernel_rfl

theorem byteCells_one (l : List UInt8) : ∀ v ∈ Lib.byteCells l, v.oneCell' = true := by
 intro v hv
 simp only [Lib.byteCells, List.mem_map] at hv
 obtain ⟨b, _, rfl⟩ := hv
 rfl

def Grew (B : Nat) (w : World) (n : Nat) (xs : List UInt8) (v' : Value) (w' : World) : Prop := w'.ownsRow B 5 1 v' n (Lib.byteCells xs) ∧ Below B w w'

set_option maxRecDepth 100000 in
set_option maxHeartbeats 1000000 in
theorem formatBits_16 (w : World) (B : Nat) (v : Value) (n : Nat) (xs : List UInt8) (u : Nat) (hu : u < 16 ^ 16) (hT : w.cell? ⟨10, 15, none⟩ = some (.int .u8 4)) (hB : B ≤ w.heap.size) (hown : w.ownsRow B 5 1 v n (Lib.byteCells xs)) (hn : n ≤ 1099511627776) :
  Calls Tryz.prog 233 #[v, .int .u64 u, .int .i64 16, .bool false, .bool true] w fun e w' => ∃ v', e = .returned (.tuple #[v', .string ⟨#[]⟩]) ∧ Grew B w (n + (hexL u).length) (xs ++ hexL u) v' w' := by
 obtain ⟨i0, hi, hz0, hz1, hz2⟩ := info_parts info5
 have HO := Lib.hid hown
 have HU := Lib.hid hu
 clear hown hu
 have hz := zeroArray
 have hT1 : ∀ o, (w.alloc o).cell? ⟨10, 15, none⟩ = some (.int .u8 4) := fun o => by rw [World.cell?_alloc_lt w o _ (World.block_lt_of_cell? w _ hT)]; exact hT
 go_enter Tryz.func233, Tryz.ntmps233
 go_wp2_with fail
 refine (isPow_16 _).mono ?_
 rintro e w' ⟨rfl, rfl⟩
 go_wp2_with fail
 refine (tz_16 _ (hT1 _)).mono ?_
 rintro e w' ⟨rfl, rfl⟩
 go_wp2_with fail
 go_loopw [1, 13] (fun uv iv wr => ∃ (uu k : Nat) (d : List UInt8), uv = .int .u64 uu ∧ iv = .int .i64 k ∧ uu < 18446744073709551616 ∧ HexSt u uu d k ∧ Digits wr w.heap.size k d ∧ Below w.heap.size w wr) (fun uv _ _ => (intOf uv).toNat)
 case atStart => exact ⟨u, 65, [], rfl, rfl, by have := HU.out; simpa using this, hexSt_zero HU.out, digits_start w, (Below.refl _ _).alloc (Nat.le_refl _) _⟩
 case round =>
  obtain ⟨uu, k, d, rfl, rfl, huu, hst, hdg, hb⟩ := hrel
  obtain ⟨hk1, hk2⟩ := hexSt_left hst
  obtain ⟨k, rfl⟩ : ∃ k', k = k' + 1 := ⟨k - 1, by omega⟩
  obtain ⟨x, hcell⟩ := digits_cell hdg
  have hfz := digits_frozen hdg
  have HS := Lib.hid hst
  have HD := Lib.hid hdg
  clear hst hdg
  by_cases hlt : uu < 16
  ·have hend := hexSt_end HS.out hlt
   have hlen : (dig uu :: d).length = 65 - k := by have := HS.out.2.1; simp; omega
   have hdg2 : ∀ h, Digits (wr.setCell ⟨w.heap.size, k, none⟩ (.int .u8 ((ByteArray.mk #[48, 49, 50, 51, 52, 53, 54, 55, 56, 57, 97, 98, 99, 100, 101, 102, 103, 104, 105, 106, 107, 108, 109, 110, 111, 112, 113, 114, 115, 116, 117, 118, 119, 120, 121, 122])[uu]'h).toNat)) w.heap.size k (dig uu :: d) := fun h => by rw [dig_at _ _ hlt]; exact digits_set HD.out _
   have HE := Lib.hid hend
   have HL := Lib.hid hlen
   have HD2 := Lib.hid hdg2
   clear hend hlen hdg2
   have hsl := slice65 w.heap.size k (by omega)
   go_wp2_with (at_builtin; (refine wpList_append_own _ rfl _ _ 38 rfl B 5 i0 (.int .u8 0) 1 1 Tryz.underlying38 hi hz0 hz1 hz2 rfl (by decide) v n (Lib.byteCells xs) rfl (own_keep HO.out (hb.setCell (Nat.le_refl _) _)) ⟨w.heap.size, k, none⟩ (65 - k) (65 - k) (Lib.byteCells (dig uu :: d)) rfl (by rw [Lib.byteCells_length, HL.out]; omega) (digits_cells (HD2.out _)) (byteCells_one _) (by unfold maxLen; omega) (by omega) (by have := hb.size; simp [World.setCell]; omega) ?_); intro v' w3 hown' hgrow _)
   go_ret2
   refine ⟨v', rfl, ?_, ?_⟩
   ·rw [HE.out, HL.out, Lib.byteCells_append]
    exact hown'
   ·exact ((hb.mono hB).setCell hB _).grown hgrow (by have := hb.size; simp [World.setCell]; omega) (fun k hk => (HO.out.lt k hk).1)
  ·have hand := and15 uu huu
   have hm : uu % 16 < 16 := Nat.mod_lt _ (by omega)
   go_wp2
   go_roundw
   case rel => exact ⟨uu / 16, k, dig (uu % 16) :: d, by go_num, rfl, by omega, hexSt_step HS.out hlt, by rw [dig_at _ _ hm]; exact digits_set HD.out _, hb.setCell (Nat.le_refl _) _⟩
   case measure => simp [intOf]; omega

set_option maxRecDepth 100000 in
set_option maxHeartbeats 1000000 in
theorem appendUint_16 (w : World) (B : Nat) (v : Value) (n : Nat) (xs : List UInt8) (u : Nat) (hu : u < 1152921504606846976) (hT : w.cell? ⟨10, 15, none⟩ = some (.int .u8 4)) (hB : B ≤ w.heap.size) (hown : w.ownsRow B 5 1 v n (Lib.byteCells xs)) (hn : n ≤ 1099511627776) :
  Calls Tryz.prog 209 #[v, .int .u64 u, .int .i64 16] w fun e w' => ∃ v', e = .returned v' ∧ Grew B w (n + (hexL u).length) (xs ++ hexL u) v' w' := by
 have HO := Lib.hid hown
 clear hown
 go_enter Tryz.func209, Tryz.ntmps209
 go_wp2_with fail
 refine (formatBits_16 w B v n xs u (Nat.lt_of_lt_of_le hu (by decide)) hT hB HO.out hn).mono ?_
 rintro e w1 ⟨v', rfl, hg⟩
 have HG := Lib.hid hg
 clear hg
 go_wp2
 go_ret
 exact ⟨v', rfl, HG.out⟩

set_option maxRecDepth 100000 in
set_option maxHeartbeats 1000000 in
theorem appendInt_16 (w : World) (B : Nat) (v : Value) (n : Nat) (xs : List UInt8) (u : Nat) (hu : u < 1152921504606846976) (hT : w.cell? ⟨10, 15, none⟩ = some (.int .u8 4)) (hB : B ≤ w.heap.size) (hown : w.ownsRow B 5 1 v n (Lib.byteCells xs)) (hn : n ≤ 1099511627776) :
  Calls Tryz.prog 193 #[v, .int .i64 u, .int .i64 16] w fun e w' => ∃ v', e = .returned v' ∧ Grew B w (n + (hexL u).length) (xs ++ hexL u) v' w' := by
 have HO := Lib.hid hown
 clear hown
 go_enter Tryz.func193, Tryz.ntmps193
 go_wp2_with fail
 refine (appendUint_16 w B v n xs u hu hT hB HO.out hn).mono ?_
 rintro e w1 ⟨v', rfl, hg⟩
 have HG := Lib.hid hg
 clear hg
 go_wp2
 go_ret
 exact ⟨v', rfl, HG.out⟩

set_option maxRecDepth 100000 in
set_option maxHeartbeats 1000000 in
theorem strconvAppendInt_16 (w : World) (B : Nat) (v : Value) (n : Nat) (xs : List UInt8) (u : Nat) (hu : u < 1152921504606846976) (hT : w.cell? ⟨10, 15, none⟩ = some (.int .u8 4)) (hB : B ≤ w.heap.size) (hown : w.ownsRow B 5 1 v n (Lib.byteCells xs)) (hn : n ≤ 1099511627776) :
  Calls Tryz.prog 162 #[v, .int .i64 u, .int .i64 16] w fun e w' => ∃ v', e = .returned v' ∧ Grew B w (n + (hexL u).length) (xs ++ hexL u) v' w' := by
 have HO := Lib.hid hown
 clear hown
 go_enter Tryz.func162, Tryz.ntmps162
 go_wp2_with fail
 refine (appendInt_16 w B v n xs u hu hT hB HO.out hn).mono ?_
 rintro e w1 ⟨v', rfl, hg⟩
 have HG := Lib.hid hg
 clear hg
 go_wp2
 go_ret
 exact ⟨v', rfl, HG.out⟩
end Go.Proofs.YthaibekbefndlaaGreatDoor.C

namespace Go.Proofs.YthaibekbefndlaaGreatDoor.C
open Go.RowKit

set_option maxRecDepth 100000 in
set_option maxHeartbeats 2000000 in
theorem shown_wrong (w : World) (B : Nat) (v : Value) (n : Nat) (xs : List UInt8) (c : Int) (hno : ¬ (-256 ≤ c ∧ c < 55296 ∨ 57343 < c ∧ c ≤ 1114111)) (hB : B ≤ w.heap.size) (hown : w.ownsRow B 5 1 v n (Lib.byteCells xs)) (hn : n ≤ 1099511627000) :
  Calls Tryz.prog 111 #[v, .int .i32 c] w fun e w' => ∃ v', e = .returned v' ∧ Grew B w (n + (shown c).length) (xs ++ shown c) v' w' := by
 obtain ⟨i0, hi, hz0, hz1, hz2⟩ := info_parts info5
 have hsh : shown c = [92, 63] := by
  unfold shown
  rw [if_neg (by omega), if_pos hno]
 rw [hsh]
 have HO := Lib.hid hown
 clear hown hsh
 have hr : rightB c = false := by simp [rightB]; omega
 have HR := Lib.hid hr
 clear hr
 go_enter Tryz.func111, Tryz.ntmps111
 go_wp2_with fail
 refine (byte_no c w (by omega)).mono ?_
 rintro e w' ⟨rfl, rfl⟩
 go_wp2_with fail
 refine (right_any _ _).mono ?_
 rintro e w' ⟨rfl, rfl⟩
 rw [HR.out]
 go_wp2_with (at_builtin; (refine Lib.wpList_append_own_string _ rfl _ _ 38 9 rfl B 5 i0 Tryz.underlying38 Tryz.underlying9 hi hz0 hz1 hz2 _ _ _ rfl HO.out _ rfl (by unfold maxLen; show n + 2 ≤ _; omega) (by show n + 2 ≤ _; omega) hB ?_); intro v' w3 hown' hgrow _)
 go_ret
 exact ⟨v', rfl, by rw [Lib.byteCells_append]; exact hown', (Below.refl _ _).grown hgrow hB (fun k hk => (HO.out.lt k hk).1)⟩

set_option maxRecDepth 100000 in
set_option maxHeartbeats 2000000 in
theorem shown_92 (w : World) (B : Nat) (v : Value) (n : Nat) (xs : List UInt8) (c : Int) (hc : c = 92) (hB : B ≤ w.heap.size) (hown : w.ownsRow B 5 1 v n (Lib.byteCells xs)) (hn : n ≤ 1099511627000) :
  Calls Tryz.prog 111 #[v, .int .i32 c] w fun e w' => ∃ v', e = .returned v' ∧ Grew B w (n + (shown c).length) (xs ++ shown c) v' w' := by
 obtain ⟨i0, hi, hz0, hz1, hz2⟩ := info_parts info5
 have hsh : shown c = [92, 92] := by
  unfold shown
  subst hc; rfl
 rw [hsh]
 have HO := Lib.hid hown
 clear hown hsh
 subst hc
 have hr : rightB 92 = true := by decide
 have HR := Lib.hid hr
 clear hr
 go_enter Tryz.func111, Tryz.ntmps111
 go_wp2_with fail
 refine (byte_no 92 w (by omega)).mono ?_
 rintro e w' ⟨rfl, rfl⟩
 go_wp2_with fail
 refine (right_any _ _).mono ?_
 rintro e w' ⟨rfl, rfl⟩
 rw [HR.out]
 go_wp2_with (at_builtin; (refine Lib.wpList_append_own_string _ rfl _ _ 38 9 rfl B 5 i0 Tryz.underlying38 Tryz.underlying9 hi hz0 hz1 hz2 _ _ _ rfl HO.out _ rfl (by unfold maxLen; show n + 2 ≤ _; omega) (by show n + 2 ≤ _; omega) hB ?_); intro v' w3 hown' hgrow _)
 go_ret
 exact ⟨v', rfl, by rw [Lib.byteCells_append]; exact hown', (Below.refl _ _).grown hgrow hB (fun k hk => (HO.out.lt k hk).1)⟩

set_option maxRecDepth 100000 in
set_option maxHeartbeats 2000000 in
theorem shown_10 (w : World) (B : Nat) (v : Value) (n : Nat) (xs : List UInt8) (c : Int) (hc : c = 10) (hB : B ≤ w.heap.size) (hown : w.ownsRow B 5 1 v n (Lib.byteCells xs)) (hn : n ≤ 1099511627000) :
  Calls Tryz.prog 111 #[v, .int .i32 c] w fun e w' => ∃ v', e = .returned v' ∧ Grew B w (n + (shown c).length) (xs ++ shown c) v' w' := by
 obtain ⟨i0, hi, hz0, hz1, hz2⟩ := info_parts info5
 have hsh : shown c = [92, 110] := by
  unfold shown
  subst hc; rfl
 rw [hsh]
 have HO := Lib.hid hown
 clear hown hsh
 subst hc
 have hr : rightB 10 = true := by decide
 have HR := Lib.hid hr
 clear hr
 go_enter Tryz.func111, Tryz.ntmps111
 go_wp2_with fail
 refine (byte_no 10 w (by omega)).mono ?_
 rintro e w' ⟨rfl, rfl⟩
 go_wp2_with fail
 refine (right_any _ _).mono ?_
 rintro e w' ⟨rfl, rfl⟩
 rw [HR.out]
 go_wp2_with (at_builtin; (refine Lib.wpList_append_own_string _ rfl _ _ 38 9 rfl B 5 i0 Tryz.underlying38 Tryz.underlying9 hi hz0 hz1 hz2 _ _ _ rfl HO.out _ rfl (by unfold maxLen; show n + 2 ≤ _; omega) (by show n + 2 ≤ _; omega) hB ?_); intro v' w3 hown' hgrow _)
 go_ret
 exact ⟨v', rfl, by rw [Lib.byteCells_append]; exact hown', (Below.refl _ _).grown hgrow hB (fun k hk => (HO.out.lt k hk).1)⟩

theorem byteCells_byte (c : Int) (h0 : 0 ≤ c) (h1 : c ≤ 255) : Lib.byteCells [c.toNat.toUInt8] = [.int .u8 c] := by
 have : c.toNat.toUInt8.toNat = c.toNat := by simp [Nat.toUInt8, UInt8.toNat_ofNat']; omega
 simp only [Lib.byteCells, List.map_cons, List.map_nil, this]
 rw [Int.toNat_of_nonneg h0]

set_option maxRecDepth 100000 in
set_option maxHeartbeats 2000000 in
theorem shown_plain (w : World) (B : Nat) (v : Value) (n : Nat) (xs : List UInt8) (c : Int) (h1 : 32 ≤ c) (h2 : c ≤ 126) (h3 : c ≠ 92) (hB : B ≤ w.heap.size) (hown : w.ownsRow B 5 1 v n (Lib.byteCells xs)) (hn : n ≤ 1099511627000) :
  Calls Tryz.prog 111 #[v, .int .i32 c] w fun e w' => ∃ v', e = .returned v' ∧ Grew B w (n + (shown c).length) (xs ++ shown c) v' w' := by
 obtain ⟨i0, hi, hz0, hz1, hz2⟩ := info_parts info5
 have hsh : shown c = [c.toNat.toUInt8] := by
  unfold shown
  rw [if_neg (by omega), if_neg (by omega), if_neg h3, if_neg (by omega), if_pos ⟨h1, h2⟩]
 rw [hsh]
 have HO := Lib.hid hown
 have e1 : (c == 92) = false := by simpa using h3
 have e2 : (c == 10) = false := by simp; omega
 clear hown hsh h3
 have hr : rightB c = true := by simp [rightB]; omega
 have HR := Lib.hid hr
 clear hr
 go_enter Tryz.func111, Tryz.ntmps111
 go_wp2_with fail
 refine (byte_no c w (by omega)).mono ?_
 rintro e w' ⟨rfl, rfl⟩
 go_wp2_with fail
 refine (right_any _ _).mono ?_
 rintro e w' ⟨rfl, rfl⟩
 rw [HR.out]
 go_wp2_with (at_builtin; (refine wpList_append_own _ rfl _ _ 38 rfl B 5 i0 (.int .u8 0) 1 1 Tryz.underlying38 hi hz0 hz1 hz2 rfl (by decide) _ _ _ rfl (HO.out.alloc _) _ 1 1 [.int .u8 c] rfl rfl (cell_one_new _ _ _) (by intro u hu; simp at hu; subst hu; rfl) (by unfold maxLen; omega) (by omega) (by simp; omega) ?_); intro v' w3 hown' hgrow _)
 go_ret
 exact ⟨v', rfl, by rw [Lib.byteCells_append, byteCells_byte c (by omega) (by omega)]; exact hown', ((Below.refl _ _).alloc hB _).grown hgrow (by simp; omega) (fun k hk => (HO.out.lt k hk).1)⟩

theorem strconvAppendInt_16z (w : World) (B : Nat) (v : Value) (n : Nat) (xs : List UInt8) (c : Int) (h0 : 0 ≤ c) (h1 : c ≤ 1114111) (hT : w.cell? ⟨10, 15, none⟩ = some (.int .u8 4)) (hB : B ≤ w.heap.size) (hown : w.ownsRow B 5 1 v n (Lib.byteCells xs)) (hn : n ≤ 1099511627776) :
  Calls Tryz.prog 162 #[v, .int .i64 c, .int .i64 16] w fun e w' => ∃ v', e = .returned v' ∧ Grew B w (n + (hexL c.toNat).length) (xs ++ hexL c.toNat) v' w' := by
 obtain ⟨u, rfl⟩ := Int.eq_ofNat_of_zero_le h0
 rw [Int.toNat_natCast]
 exact strconvAppendInt_16 w B v n xs u (by omega) hT hB hown hn

set_option maxRecDepth 100000 in
set_option maxHeartbeats 2000000 in
theorem shown_big (w : World) (B : Nat) (v : Value) (n : Nat) (xs : List UInt8) (c : Int) (h0 : 0 ≤ c) (h1 : c < 32 ∨ 126 < c) (h2 : c ≠ 10) (hy : -256 ≤ c ∧ c < 55296 ∨ 57343 < c ∧ c ≤ 1114111) (hT : w.cell? ⟨10, 15, none⟩ = some (.int .u8 4)) (hTB : 10 < B) (hB : B ≤ w.heap.size) (hown : w.ownsRow B 5 1 v n (Lib.byteCells xs)) (hn : n ≤ 1099511627000) :
  Calls Tryz.prog 111 #[v, .int .i32 c] w fun e w' => ∃ v', e = .returned v' ∧ Grew B w (n + (shown c).length) (xs ++ shown c) v' w' := by
 obtain ⟨i0, hi, hz0, hz1, hz2⟩ := info_parts info5
 have hsh : shown c = [92, 117, 123] ++ hexL c.toNat ++ [125] := by
  unfold shown
  rw [if_neg (by omega), if_neg (by omega), if_neg (by omega), if_neg h2, if_neg (by omega)]
 have HSH := Lib.hid hsh
 have HO := Lib.hid hown
 have e1 : (c == 92) = false := by simp; omega
 have e2 : (c == 10) = false := by simpa using h2
 have HT := Lib.hid hT
 have hlen := hexL_len 5 c.toNat (by have h16 : (16 : Nat) ^ (5 + 1) = 16777216 := (by decide); omega)
 have HLEN := Lib.hid hlen
 have hr : rightB c = true := by simp [rightB]; omega
 have HR := Lib.hid hr
 clear hr
 have hle : c ≤ 1114111 := by omega
 clear hown hsh h2 hT hlen hy
 go_enter Tryz.func111, Tryz.ntmps111
 go_wp2_with fail
 refine (byte_no c w (by omega)).mono ?_
 rintro e w' ⟨rfl, rfl⟩
 go_wp2_with fail
 refine (right_any _ _).mono ?_
 rintro e w' ⟨rfl, rfl⟩
 rw [HR.out]
 rcases h1 with h1 | h1
 all_goals
  go_wp2_with (at_builtin; (refine Lib.wpList_append_own_string _ rfl _ _ 38 9 rfl B 5 i0 Tryz.underlying38 Tryz.underlying9 hi hz0 hz1 hz2 _ _ _ rfl HO.out _ rfl (by unfold maxLen; show n + 3 ≤ _; omega) (by show n + 3 ≤ _; omega) hB ?_); intro v1 w1 hown1 hgrow1 _; have hb1 : Below B w w1 := (Below.refl _ _).grown hgrow1 hB (fun k hk => (HO.out.lt k hk).1); have HO1 := Lib.hid hown1; clear hown1 hgrow1)
  have hsz1 := hb1.size
  have HO1b : Hid (w1.ownsRow B 5 1 v1 (n + 3) (Lib.byteCells (xs ++ [92, 117, 123]))) := by rw [Lib.byteCells_append]; exact HO1.out
  refine (strconvAppendInt_16z w1 B v1 (n + 3) (xs ++ [92, 117, 123]) c h0 hle ((hb1.cell (p := ⟨10, 15, none⟩) hTB).trans HT.out) (by omega) HO1b.out (by omega)).mono ?_
  rintro e w2 ⟨v2, rfl, hown2, hb2⟩
  have HO2 := Lib.hid hown2
  have hsz2 := hb2.size
  clear hown2
  go_wp2_with (at_builtin; (refine wpList_append_own _ rfl _ _ 38 rfl B 5 i0 (.int .u8 0) 1 1 Tryz.underlying38 hi hz0 hz1 hz2 rfl (by decide) _ _ _ rfl (HO2.out.alloc _) _ 1 1 [.int .u8 125] rfl rfl (cell_one_new _ _ _) (by intro u hu; simp at hu; subst hu; rfl) (by have := HLEN.out; unfold maxLen; omega) (by have := HLEN.out; omega) (by simp; omega) ?_); intro v' w3 hown' hgrow _)
  go_ret
  refine ⟨v', rfl, ?_, ?_⟩
  ·have e3 : Lib.byteCells (xs ++ ([92, 117, 123] ++ hexL c.toNat ++ [125])) = Lib.byteCells (xs ++ [92, 117, 123] ++ hexL c.toNat) ++ [Value.int .u8 125] := by simp [Lib.byteCells]
   have e4 : n + ([92, 117, 123] ++ hexL c.toNat ++ [125]).length = n + 3 + (hexL c.toNat).length + 1 := by simp; omega
   rw [HSH.out, e3, e4]
   exact hown'
  ·exact (((hb1.trans hb2)).alloc (by omega) _).grown hgrow (by simp; omega) (fun k hk => (HO2.out.lt k hk).1)

theorem hex16_at : ∀ (x : Nat) (h : x < (ByteArray.mk #[48, 49, 50, 51, 52, 53, 54, 55, 56, 57, 97, 98, 99, 100, 101, 102]).size), (ByteArray.mk #[48, 49, 50, 51, 52, 53, 54, 55, 56, 57, 97, 98, 99, 100, 101, 102])[x]'h = dig x
 | 0, _ => rfl
 | 1, _ => rfl
 | 2, _ => rfl
 | 3, _ => rfl
 | 4, _ => rfl
 | 5, _ => rfl
 | 6, _ => rfl
 | 7, _ => rfl
 | 8, _ => rfl
 | 9, _ => rfl
 | 10, _ => rfl
 | 11, _ => rfl
 | 12, _ => rfl
 | 13, _ => rfl
 | 14, _ => rfl
 | 15, _ => rfl
 | (x + 16), h => absurd h (by show ¬ x + 16 < 16; omega)
theorem esc_cells (xs : List UInt8) (p q : Nat) (hp : p < (ByteArray.mk #[48, 49, 50, 51, 52, 53, 54, 55, 56, 57, 97, 98, 99, 100, 101, 102]).size) (hq : q < (ByteArray.mk #[48, 49, 50, 51, 52, 53, 54, 55, 56, 57, 97, 98, 99, 100, 101, 102]).size) :
  Lib.byteCells (xs ++ [92, 120, dig p, dig q]) = Lib.byteCells xs ++ [Value.int .u8 92, Value.int .u8 120, Value.int .u8 ((ByteArray.mk #[48, 49, 50, 51, 52, 53, 54, 55, 56, 57, 97, 98, 99, 100, 101, 102])[p]'hp).toNat, Value.int .u8 ((ByteArray.mk #[48, 49, 50, 51, 52, 53, 54, 55, 56, 57, 97, 98, 99, 100, 101, 102])[q]'hq).toNat] := by
 rw [hex16_at p hp, hex16_at q hq]
 simp [Lib.byteCells]
theorem and15_u8 (b : Nat) (h : b ≤ 255) : bits BinOp.and IntKind.u8 (b : Int) 15 = ((b % 16 : Nat) : Int) := by
 have : ∀ b : Fin 256, bits BinOp.and IntKind.u8 ((b.val : Nat) : Int) 15 = ((b.val % 16 : Nat) : Int) := by decide +kernel
 exact this ⟨b, by omega⟩
theorem cell_four_new (w : World) (a b c d : Value) (t : TypeId) : ∀ j u, [a, b, c, d][j]? = some u → (w.alloc (.cells #[a, b, c, d] t)).cell? ((⟨w.heap.size, 0, none⟩ : Addr).add j) = some u := by
 intro j u h
 match j, h with
 | 0, h => simpa [Addr.add] using h
 | 1, h => simpa [Addr.add] using h
 | 2, h => simpa [Addr.add] using h
 | 3, h => simpa [Addr.add] using h

set_option maxRecDepth 100000 in
set_option maxHeartbeats 2000000 in
theorem shown_esc (w : World) (B : Nat) (v : Value) (n : Nat) (xs : List UInt8) (c : Int) (h0 : -256 ≤ c) (h1 : c < 0) (hB : B ≤ w.heap.size) (hown : w.ownsRow B 5 1 v n (Lib.byteCells xs)) (hn : n ≤ 1099511627000) :
  Calls Tryz.prog 111 #[v, .int .i32 c] w fun e w' => ∃ v', e = .returned v' ∧ Grew B w (n + (shown c).length) (xs ++ shown c) v' w' := by
 obtain ⟨i0, hi, hz0, hz1, hz2⟩ := info_parts info5
 have hsh : shown c = [92, 120, dig ((-1 - c).toNat / 16), dig ((-1 - c).toNat % 16)] := by
  unfold shown
  rw [if_pos ⟨h0, h1⟩]
 have HSH := Lib.hid hsh
 have HO := Lib.hid hown
 clear hown hsh
 go_enter Tryz.func111, Tryz.ntmps111
 go_wp2_with fail
 refine (byte_yes c w h0 h1).mono ?_
 rintro e w' ⟨rfl, rfl⟩
 obtain ⟨b, hb⟩ : ∃ b : Nat, -1 - c = b := ⟨(-1 - c).toNat, by omega⟩
 rw [hb]
 have hb2 : b ≤ 255 := by omega
 have HB := Lib.hid hb
 clear hb
 obtain ⟨p, hp⟩ : ∃ p : Nat, p = b / 16 := ⟨_, rfl⟩
 obtain ⟨q, hq⟩ : ∃ q : Nat, q = b % 16 := ⟨_, rfl⟩
 have hp1 : (b : Int) / 16 = (p : Int) := by omega
 have hq1 : (b : Int) % 16 = (q : Int) := by omega
 have hp2 : p < 16 := by omega
 have hq2 : q < 16 := by omega
 have hp3 : (p : Int) < 16 := by omega
 have hq3 : (q : Int) < 16 := by omega
 have hand : bits BinOp.and IntKind.u8 (b : Int) 15 = (q : Int) := by rw [and15_u8 b hb2, hq]
 have HP := Lib.hid hp
 have HQ := Lib.hid hq
 clear hp hq
 go_wp2
 go_region_law ((refine step_append_lies _ rfl (.tmp 14) (.tmp 21) 38 rfl B 5 i0 (.int .u8 0) 1 1 Tryz.underlying38 hi hz0 hz1 hz2 rfl (by decide) v n (Lib.byteCells xs) (by simp [Act.eval]) (HO.out.alloc _) _ 4 4 _ (by simp [Act.eval]) rfl (cell_four_new _ _ _ _ _ _) (by intro u hu; simp at hu; rcases hu with rfl | rfl | rfl | rfl <;> rfl) (by decide) (by unfold maxLen; omega) (by omega) (by simp; omega) _ rfl ?_); intro g cap w1 hown1 hgrow1 _ _)
 all_goals
  have HO1 := Lib.hid hown1
  have HG1 := Lib.hid hgrow1
  clear hown1 hgrow1
  go_wp2
  go_ret
  refine ⟨.slice (some ⟨g, 0, none⟩) (n + 4) cap, rfl, ?_, ?_⟩
  ·have e5 : shown c = [92, 120, dig p, dig q] := by rw [HSH.out, HB.out, Int.toNat_natCast, ← HP.out, ← HQ.out]
   rw [e5, esc_cells xs p q hp2 hq2]
   exact HO1.out
  ·exact ((Below.refl _ _).alloc hB _).drew.grown HG1.out (by simp; omega) (fun k hk => (HO.out.lt k hk).1)

theorem appendShown_any (w : World) (B : Nat) (v : Value) (n : Nat) (xs : List UInt8) (c : Int) (hT : w.cell? ⟨10, 15, none⟩ = some (.int .u8 4)) (hTB : 10 < B) (hB : B ≤ w.heap.size) (hown : w.ownsRow B 5 1 v n (Lib.byteCells xs)) (hn : n ≤ 1099511627000) :
  Calls Tryz.prog 111 #[v, .int .i32 c] w fun e w' => ∃ v', e = .returned v' ∧ Grew B w (n + (shown c).length) (xs ++ shown c) v' w' := by
 by_cases h1 : -256 ≤ c ∧ c < 0
 ·exact shown_esc w B v n xs c h1.1 h1.2 hB hown hn
 by_cases h2 : -256 ≤ c ∧ c < 55296 ∨ 57343 < c ∧ c ≤ 1114111
 ·by_cases h3 : c = 92
  ·exact shown_92 w B v n xs c h3 hB hown hn
  by_cases h4 : c = 10
  ·exact shown_10 w B v n xs c h4 hB hown hn
  by_cases h5 : 32 ≤ c ∧ c ≤ 126
  ·exact shown_plain w B v n xs c h5.1 h5.2 h3 hB hown hn
  ·exact shown_big w B v n xs c (by omega) (by omega) h4 h2 hT hTB hB hown hn
 ·exact shown_wrong w B v n xs c h2 hB hown hn
end Go.Proofs.YthaibekbefndlaaGreatDoor.C

namespace Go.Proofs.YthaibekbefndlaaGreatDoor.C
open Go.RowKit

theorem conv_own {w : World} {B : Nat} {v : Value} {n : Nat} {xs : List UInt8} (h : w.ownsRow B 5 1 v n (Lib.byteCells xs)) : (convert 38 9 v).run Tryz.prog w = .ok (.string (str xs)) w := by
 have hl : xs.length = n := by have := h.1; rw [Lib.byteCells_length] at this; omega
 rcases h.2 with ⟨rfl, rfl⟩ | ⟨g, cap, cur, rfl, h2, h3, h4⟩
 ·obtain rfl : xs = [] := List.eq_nil_of_length_eq_zero hl
  exact Lib.run_convert_nil_bytes w 38 9 5 0 Tryz.underlying38 Tryz.underlying5 Tryz.underlying9
 ·subst hl
  refine run_convert_bytes_back w 38 9 5 ⟨g, 0, none⟩ cap xs Tryz.underlying38 Tryz.underlying5 Tryz.underlying9 ?_
  intro j hj
  refine h.cells (g := g) rfl j _ ?_
  simp [Lib.byteCells, hj]

theorem textL_snoc (l : List Int) (c : Int) : textL (l ++ [c]) = textL l ++ shown c := by simp [textL]
theorem textL_le (l : List Int) : (textL l).length ≤ 10 * l.length := by
 induction l with
 | nil => simp [textL]
 | cons c l ih =>
  have := shown_le c
  simp only [textL, List.flatMap_cons, List.length_append, List.length_cons] at *
  omega
set_option maxRecDepth 100000 in
set_option maxHeartbeats 1000000 in
theorem text_any (w : World) (Bx : Nat) (Ax : Option Addr) (n cx : Nat) (xs : List Int) (hx : RI .i32 w Bx Ax n xs) (hBx : Bx ≤ w.heap.size) (hn : n ≤ 1073741824) (hT : w.cell? ⟨10, 15, none⟩ = some (.int .u8 4)) :
  Calls Tryz.prog 65 #[.slice Ax n cx] w fun e w' => e = .returned (.string (str (textL xs))) ∧ Below w.heap.size w w' := by
 have HX := Lib.hid hx
 have hTB := World.block_lt_of_cell? w _ hT
 have HT := Lib.hid hT
 clear hx hT
 go_enter Tryz.func65, Tryz.ntmps65
 go_wp2
 go_loopw [3, 8] (fun v i wr => ∃ k : Nat, k ≤ n ∧ i = .int .i64 k ∧ Hid (wr.ownsRow w.heap.size 5 1 v (textL (xs.take k)).length (Lib.byteCells (textL (xs.take k)))) ∧ Below w.heap.size w wr) (fun _ i _ => n - (intOf i).toNat)
 case atStart => exact ⟨0, Nat.zero_le _, rfl, World.ownsRow_nil _ _ _ _, Below.refl _ _⟩
 case round =>
  obtain ⟨k, hk, rfl, HW, hb⟩ := hrel
  by_cases hlt : k < n
  ·obtain ⟨ad, c, rfl, hbl, hc, hcell⟩ := HX.out.at_ hlt
   have hcr : wr.cell? (ad.add k) = some (.int .i32 c) := (hb.cell (p := ad.add k) (by rw [block_of_add]; omega)).trans hcell
   have hle := textL_le (xs.take k)
   have hlk : (xs.take k).length ≤ k := List.length_take_le _ _
   have HC := Lib.hid hc
   clear hc hcell
   go_wp2_with fail
   refine (appendShown_any wr w.heap.size _ (textL (xs.take k)).length (textL (xs.take k)) c ((hb.cell (p := ⟨10, 15, none⟩) hTB).trans HT.out) hTB hb.size HW.out (by omega)).mono ?_
   rintro e w1 ⟨v1, rfl, hown1, hb1⟩
   have hown2 : Hid (w1.ownsRow w.heap.size 5 1 v1 (textL (xs.take (k + 1))).length (Lib.byteCells (textL (xs.take (k + 1))))) := by
    rw [take_snoc HC.out, textL_snoc, List.length_append]
    exact hown1
   clear hown1
   have hb2 := hb.trans hb1
   go_wp2
   go_roundw
   case rel => exact ⟨k + 1, by omega, by go_num, hown2, hb2⟩
   case measure => simp [intOf]; omega
  ·have hkn : k = n := by omega
   have hcv := conv_own HW.out
   have HK := Lib.hid hkn
   clear hkn
   go_wp2
   go_ret
   refine ⟨?_, hb⟩
   have e1 : xs.take k = xs := List.take_of_length_le (by rw [HX.out.len, HK.out]; exact Nat.le_refl _)
   rw [e1]
   rfl
end Go.Proofs.YthaibekbefndlaaGreatDoor.C

namespace Go.Proofs.YthaibekbefndlaaGreatDoor.C
open Go.RowKit


theorem RI.of_row {ki : IntKind} {w : World} {a : Option Addr} {len cap : Nat} {zs : List Int} (h : L.IsRow ki w a len cap zs) : RI ki w w.heap.size a len (zs.take len) := by
 rcases h with ⟨rfl, rfl, rfl, rfl⟩ | ⟨x, rfl, hl, hm, hz, hc, _⟩
 ·exact ⟨by simp, fun h => absurd h (by omega)⟩
 ·refine ⟨by simp; omega, fun hn => ⟨x, rfl, ?_, fun j u hu => ?_⟩⟩
  ·have := World.block_lt_of_cell? w _ (hc 0 (by omega))
   rwa [block_of_add] at this
  ·rw [List.getElem?_take] at hu
   split at hu
   ·have hj : j < zs.length := (List.getElem?_eq_some_iff.1 hu).1
    rw [hc j hj]
    simp [hu]
   ·cases hu
theorem row_u8 {w : World} {a : Option Addr} {len cap : Nat} {zs : List Int} (h : L.IsRow .u8 w a len cap zs) : ∀ z ∈ zs.take len, 0 ≤ z ∧ z ≤ 255 := by
 rcases h with ⟨rfl, rfl, rfl, rfl⟩ | ⟨x, rfl, hl, hm, hz, hc, hw⟩
 ·intro z hz; simp at hz
 ·intro z hz
  exact bounds_u8 (hw z (List.mem_of_mem_take hz))

section
variable {P : Program} (w : World)
end

end Go.Proofs.YthaibekbefndlaaGreatDoor.C

namespace Go.Proofs.YthaibekbefndlaaGreatDoor.C
open Go.RowKit
open Go.Lib (decodeN)

theorem RI.flat {ki : IntKind} {w : World} {B n : Nat} {A : Option Addr} {zs : List Int} (h : RI ki w B A n zs) (hn : 0 < n) :
  ∃ b off, A = some ⟨b, off, none⟩ ∧ b < B ∧ ∀ j u, zs[j]? = some u → w.cell? ⟨b, off + j, none⟩ = some (.int ki u) := by
 obtain ⟨ad, u, rfl, hb, _, hc⟩ := h.at_ hn
 obtain ⟨ad', e, _, hcell⟩ := h.2 hn
 injection e with e
 subst e
 obtain ⟨b, off, sp⟩ := ad
 have hsp : sp = none := by
  have e0 : (⟨b, off, sp⟩ : Addr).add 0 = ⟨b, off, sp⟩ := by simp [Addr.add]
  rw [e0] at hc
  exact cell_spot hc
 subst hsp
 exact ⟨b, off, rfl, hb, fun j u hu => by rw [← add_plain]; exact hcell j u hu⟩
theorem sb_get {zs : List Int} (h : Bd zs) (j : Nat) (hj : j < zs.length) : (((sb zs).get! j).toNat : Int) = zs[j] := by
 have e := gb_sb h j
 have hb := h zs[j] (List.getElem_mem hj)
 unfold gb nb at e
 rw [e]
 simp [List.getD_eq_getElem?_getD, List.getElem?_eq_getElem hj]
 omega

set_option maxHeartbeats 400000 in
theorem runeCount_zero (w : World) (A : Option Addr) (c : Nat) :
  Calls Tryz.prog 206 #[.slice A 0 c] w fun e w' => e = .returned (.int .i64 0) ∧ w = w' := by
 go_enter Tryz.func206, Tryz.ntmps206
 go_wp2
 go_loop [4] (fun i => i = .int .i64 0) (fun _ => 0)
 case atStart => rfl
 case round =>
  subst hrel
  go_wp2
  go_ret
  exact ⟨rfl, rfl⟩
theorem runeCount_ri (w : World) (B : Nat) (A : Option Addr) (n c : Nat) (zs : List Int) (hx : RI .u8 w B A n zs) (hz : Bd zs) (hnc : n ≤ c) (hn : n ≤ 1099511627776) :
  Calls Tryz.prog 206 #[.slice A n c] w fun e w' => ∃ k : Nat, k ≤ n ∧ e = .returned (.int .i64 k) ∧ Below w.heap.size w w' := by
 rcases Nat.eq_zero_or_pos n with h0 | h0
 ·subst h0
  refine (runeCount_zero w A c).mono ?_
  rintro e w' ⟨rfl, rfl⟩
  exact ⟨0, Nat.le_refl _, rfl, Below.refl _ _⟩
 ·obtain ⟨b, off, rfl, _, hc⟩ := hx.flat h0
  have hl : (sb zs).size = n := by rw [sb_size]; exact hx.len
  have := Any7.utf8_RuneCount Tryz.lays31 (sb zs) b off c w (by omega) (fun j hj => by
   have hj' : j < zs.length := by rw [sb_size] at hj; exact hj
   rw [hc j zs[j] (List.getElem?_eq_getElem hj'), sb_get hz j hj']) (by omega)
  rw [hl] at this
  refine this.mono ?_
  rintro e w' ⟨rfl, hw⟩
  have hle := Lib.runeCount_le (sb zs)
  refine ⟨Lib.runeCount (sb zs), by omega, rfl, ?_⟩
  rcases hw with rfl | ⟨t, pos, rfl⟩
  ·exact Below.refl _ _
  ·exact (Below.refl _ _).alloc (Nat.le_refl _) _
theorem decodeRune_ri (w : World) (B : Nat) (A : Option Addr) (n c : Nat) (zs : List Int) (hx : RI .u8 w B A n zs) (hz : Bd zs) (h0 : 0 < n) (hT : Lib.Utf8Tabs 3 4 w) (R K : Nat) (hd : Utf8.decode (sb zs) 0 = (R, K)) :
  Calls Tryz.prog 207 #[.slice A n c] w fun e w' => e = .returned (.tuple #[.int .i32 (R : Int), .int .i64 (K : Int)]) ∧ Below w.heap.size w w' := by
 obtain ⟨b, off, rfl, _, hc⟩ := hx.flat h0
 have hl : (sb zs).size = n := by rw [sb_size]; exact hx.len
 have := Any7.utf8_DecodeRune Tryz.lays32 (sb zs) b off c w hT (fun j hj => by
  have hj' : j < zs.length := by rw [sb_size] at hj; exact hj
  rw [hc j zs[j] (List.getElem?_eq_getElem hj'), sb_get hz j hj'])
 rw [hl] at this
 have e : Lib.decodeGo (sb zs) = (R, K) := by unfold Lib.decodeGo; rw [if_neg (by omega), hd]
 rw [e] at this
 exact this

set_option maxHeartbeats 400000 in
theorem cellOf_bad (b : Int) (w : World) (h0 : 0 ≤ b) (h1 : b ≤ 255) :
  Calls Tryz.prog 208 #[.int .i32 65533, .int .i64 1, .int .u8 b] w fun e w' => e = .returned (.int .i32 (-1 - b)) ∧ w = w' := by
 go_enter Tryz.func208, Tryz.ntmps208
 go_wp2_with (go_at_call 172; refine (escape_any _ _ h0 h1).mono ?_; rintro e w' ⟨rfl, rfl⟩)
 go_ret
 exact ⟨rfl, rfl⟩
set_option maxHeartbeats 400000 in
theorem cellOf_good (r k : Nat) (b : Int) (w : World) (h : ¬ (r, k) = (65533, 1)) :
  Calls Tryz.prog 208 #[.int .i32 (r : Int), .int .i64 (k : Int), .int .u8 b] w fun e w' => e = .returned (.int .i32 (r : Int)) ∧ w = w' := by
 by_cases hr : r = 65533
 ·have hk : ¬ k = 1 := fun e => h (by rw [hr, e])
  have t1 : ((r : Int) == 65533) = true := by simp; omega
  have t2 : ((k : Int) == 1) = false := by simp; omega
  clear h hr hk
  go_enter Tryz.func208, Tryz.ntmps208
  go_wp2
  all_goals go_ret
  all_goals exact ⟨rfl, rfl⟩
 ·have t1 : ((r : Int) == 65533) = false := by simp; omega
  clear h hr
  go_enter Tryz.func208, Tryz.ntmps208
  go_wp2
  all_goals go_ret
  all_goals exact ⟨rfl, rfl⟩
def cellZ (r k : Nat) (b : Int) : Int := if (r, k) = (65533, 1) then -1 - b else (r : Int)
theorem cellOf_any (r k : Nat) (b : Int) (w : World) (h0 : 0 ≤ b) (h1 : b ≤ 255) :
  Calls Tryz.prog 208 #[.int .i32 (r : Int), .int .i64 (k : Int), .int .u8 b] w fun e w' => e = .returned (.int .i32 (cellZ r k b)) ∧ w = w' := by
 unfold cellZ
 split
 ·rename_i h
  injection h with h2 h3
  subst h2 h3
  exact cellOf_bad b w h0 h1
 ·rename_i h
  exact cellOf_good r k b w h
theorem cellZ_at {zs : List Int} (h : Bd zs) (pos : Nat) (hp : pos < zs.length) (R K : Nat) (hd : Utf8.decode (sb zs) pos = (R, K)) : cellZ R K zs[pos] = cellAt (sb zs) pos := by
 rw [cellAt_sb h pos hp]
 rw [decode_sb h] at hd
 unfold cellZ cellN
 rw [hd]
 have hb := h zs[pos] (List.getElem_mem hp)
 have e : (nb zs pos : Int) = zs[pos] := by
  unfold nb
  simp [List.getD_eq_getElem?_getD, List.getElem?_eq_getElem hp]
  omega
 rw [e]
theorem decode_drop {zs : List Int} (h : Bd zs) (pos : Nat) : Utf8.decode (sb (zs.drop pos)) 0 = Utf8.decode (sb zs) pos := by
 rw [decode_sb (bd_drop h pos), decode_sb h]
 simp only [nb_drop, Nat.add_zero, List.length_drop, Nat.sub_zero, Nat.zero_add]
theorem tabs_below {w w' : World} (h : Lib.Utf8Tabs 3 4 w) (hb : Below w.heap.size w w') : Lib.Utf8Tabs 3 4 w' := Utf8Tabs_below h hb

def lenV : Value → Nat
 | .slice _ n _ => n
 | _ => 0

set_option maxHeartbeats 2000000 in
theorem decode_any (w : World) (B : Nat) (A : Option Addr) (n c : Nat) (zs : List Int) (hx : RI .u8 w B A n zs) (hB : B ≤ w.heap.size) (hz : Bd zs) (hnc : n ≤ c) (hn : n ≤ 1099511627776) (hc : c ≤ maxLen) (hT : Lib.Utf8Tabs 3 4 w) :
  Calls Tryz.prog 192 #[.slice A n c] w fun e w' => ∃ v, e = .returned v ∧ w'.ownsRow w.heap.size 35 1 v (ofL (sb zs)).length ((ofL (sb zs)).map (Value.int .i32)) ∧ Below w.heap.size w w' := by
 unfold maxLen at hc
 obtain ⟨i0, hi, hz0, hz1, hz2⟩ := info_parts info33
 have HL := Lib.hid hx.len
 have HX := Lib.hid hx
 have HZ := Lib.hid hz
 have HT := Lib.hid hT
 clear hx hz hT
 go_enter Tryz.func192, Tryz.ntmps192
 go_wp2_with fail
 refine (runeCount_ri w B A n c zs HX.out HZ.out hnc hn).mono ?_
 rintro e w1 ⟨rc, hrc, rfl, hb1⟩
 have hs1 := hb1.size
 go_wp2_with (at_make; (refine wpList_make_own _ rfl _ _ 32 rfl w.heap.size 35 i0 (.int .i32 0) 1 Tryz.underlying32 hi hz0 hz1 .i64 .i64 _ rc rfl rfl (by omega) (by rw [hz2]; omega) (by unfold maxLen; omega) (by omega) ?_); intro w2 hown hgrow; have hb2 : Below w.heap.size w w2 := hb1.grown hgrow (by omega) (fun _ h => by cases h); clear hgrow; have HO := Lib.hid hown; clear hown)
 go_loopw [0, 3] (fun bv v wr => ∃ (pos f m cp : Nat) (A' : Option Addr) (acc : List Int), bv = .slice A' m cp ∧ Hid (m + pos = n) ∧ m ≤ cp ∧ cp ≤ 9223372036854775807 ∧ Hid (OfSt (sb zs) acc f pos) ∧ Hid (RI .u8 w B A' m (zs.drop pos)) ∧ Hid (wr.ownsRow w.heap.size 35 1 v acc.length (acc.map (Value.int .i32))) ∧ Below w.heap.size w wr) (fun bv _ _ => lenV bv)
 case atStart => exact ⟨0, (sb zs).size, n, c, A, [], rfl, rfl, hnc, hc, ofSt_zero _, HX.out, HO.out, hb2⟩
 case round =>
  obtain ⟨pos, f, m, cp, A', acc, rfl, HM, hmc, hcp, HST, HR, HW, hbr⟩ := hrel
  have hsz := hbr.size
  by_cases hm : 0 < m
  ·obtain ⟨ad, z, rfl, hbl, hzp, hcell⟩ := HR.out.at_ hm
   have hp : pos < zs.length := by have := HM.out; have := HL.out; omega
   have hzv : zs[pos] = z := by
    have := hzp
    simp at this
    obtain ⟨_, h⟩ := List.getElem?_eq_some_iff.1 this
    exact h
   have hzb := HZ.out z (by rw [← hzv]; exact List.getElem_mem hp)
   obtain ⟨f', hst'⟩ := ofSt_step HST.out (by rw [sb_size]; exact hp)
   obtain ⟨R, K, hRK⟩ : ∃ R K, Utf8.decode (sb zs) pos = (R, K) := ⟨_, _, rfl⟩
   have hK1 := Lib.decode_width_pos (sb zs) pos (by rw [sb_size]; exact hp)
   have hK2 := decodeN_le (zs.length - pos) (nb zs pos) (nb zs (pos + 1)) (nb zs (pos + 2)) (nb zs (pos + 3)) (by omega)
   rw [← decode_sb HZ.out] at hK2
   have hcv := cellZ_at HZ.out pos hp R K hRK
   rw [hzv] at hcv
   rw [← hcv] at hst'
   rw [hRK] at hK1 hK2 hst'
   have hKm : K ≤ m := by have := HM.out; have := HL.out; simp at hK2; omega
   have hK0 : 0 < K := hK1
   have HRK := Lib.hid hRK
   have HS' := Lib.hid hst'
   have had0 : ad.add 0 = ad := by simp [Addr.add]
   rw [had0] at hcell
   have hcr : wr.cell? ad = some (.int .u8 z) := (hbr.cell (p := ad) (by omega)).trans hcell
   have hrw : RI .u8 wr B (some ad) m (zs.drop pos) := HR.out.keep fun p hp => hbr.cell (p := p) (by omega)
   have HRW := Lib.hid hrw
   clear hrw hst' hcv hRK hK1 hK2 hzp hzv hcell hp had0
   go_wp2_with fail
   refine (decodeRune_ri wr B (some ad) m cp (zs.drop pos) HRW.out (bd_drop HZ.out pos) hm (tabs_below HT.out (hbr.mono (Nat.le_refl _))) R K (by rw [decode_drop HZ.out]; exact HRK.out)).mono ?_
   rintro e w3 ⟨rfl, hb3⟩
   have hs3 := hb3.size
   have HOW := Lib.hid (own_keep HW.out hb3)
   have hbW : Below w.heap.size w w3 := hbr.trans (hb3.mono hsz)
   have hcr3 : w3.cell? ad = some (.int .u8 z) := (hb3.cell (p := ad) (by omega)).trans hcr
   clear hcr
   go_wp2_with fail
   refine (cellOf_any R K z w3 hzb.1 hzb.2).mono ?_
   rintro e w' ⟨rfl, rfl⟩
   generalize cellZ R K z = cv at *
   go_wp2_with (at_builtin; (refine wpList_append_own _ rfl _ _ 32 rfl w.heap.size 35 i0 (.int .i32 0) 1 4 Tryz.underlying32 hi hz0 hz1 hz2 rfl (by decide) _ _ _ rfl (HOW.out.alloc _) _ 1 1 [.int .i32 cv] rfl rfl (cell_one_new _ _ _) (by intro u hu; simp at hu; subst hu; rfl) (by unfold maxLen; have := HST.out.2.2.1; have := HM.out; omega) (by have := HST.out.2.2.1; have := HM.out; omega) (by simp; omega) ?_); intro v' w4 hown' hgrow _; have HO4 := Lib.hid hown'; have HG4 := Lib.hid hgrow; clear hown' hgrow)
   have hcut : RI .u8 w B (if cp = K then some ad else (some ad).map (·.add K)) (m - K) (zs.drop (pos + K)) := by
    have := HR.out.cut (k := K) (m := m - K) (cap := cp) (by omega) hmc
    rw [List.drop_drop, List.take_of_length_le (by rw [List.length_drop, HL.out]; have := HM.out; omega)] at this
    exact this
   go_roundw
   case rel => exact ⟨pos + K, f', m - K, cp - K, _, acc ++ [cv], rfl, by have := HM.out; show m - K + (pos + K) = n; omega, by omega, by omega, HS'.out, hcut, by simpa [Hid] using HO4.out, ((hbW.alloc (by omega) _).grown HG4.out (by simp; omega) (fun k hk => (HOW.out.lt k hk).1))⟩
   case measure => simp [lenV]; omega
  ·have hm0 : m = 0 := by omega
   subst hm0
   have hend := ofSt_end HST.out (by rw [sb_size]; have := HM.out; have := HL.out; omega)
   have HE := Lib.hid hend
   clear hend
   go_wp2
   go_ret
   refine ⟨_, rfl, ?_, hbr⟩
   rw [HE.out]
   exact HW.out
end Go.Proofs.YthaibekbefndlaaGreatDoor.C

namespace Go.Proofs.YthaibekbefndlaaGreatDoor.C
open Go.RowKit

theorem info8 : (Tryz.prog.info? 5).map (fun i => (i.zero, i.size, i.bytes)) = some (some (.int .u8 0), 1, 1) := by kernel_rfl

set_option maxHeartbeats 1000000 in
theorem appendCell_any (w : World) (B : Nat) (v : Value) (zs : List Int) (c : Int) (hr : rightB c = true) (hB : B ≤ w.heap.size) (hown : w.ownsRow B 5 1 v zs.length (zs.map (Value.int .u8))) (hlen : zs.length + 4 ≤ 140737488355328) :
  Calls Tryz.prog 142 #[v, .int .i32 c] w fun e w' => ∃ v', e = .returned v' ∧ w'.ownsRow B 5 1 v' (zs ++ encC c).length ((zs ++ encC c).map (Value.int .u8)) ∧ Below B w w' := by
 obtain ⟨i0, hi, hz0, hz1, hz2⟩ := info_parts info8
 have hb : -256 ≤ c ∧ c ≤ 1114111 := by unfold rightB at hr; simp at hr; omega
 have HO := Lib.hid hown
 clear hown hr
 by_cases hc : c < 0
 ·have he : encC c = [-1 - c] := by unfold encC; rw [if_pos hc]
  have HE := Lib.hid he
  clear he
  go_enter Tryz.func142, Tryz.ntmps142
  go_wp2_with fail
  refine (byte_yes c w hb.1 hc).mono ?_
  rintro e w' ⟨rfl, rfl⟩
  go_wp2_with (at_builtin; (refine wpList_append_own _ rfl _ _ 38 rfl B 5 i0 (.int .u8 0) 1 1 Tryz.underlying38 hi hz0 hz1 hz2 rfl (by decide) _ _ _ rfl (HO.out.alloc _) _ 1 1 [.int .u8 (-1 - c)] rfl rfl (cell_one_new _ _ _) (by intro u hu; simp at hu; subst hu; rfl) (by unfold maxLen; omega) (by omega) (by simp; omega) ?_); intro v' w3 hown' hgrow _; have HO3 := Lib.hid hown'; have HG3 := Lib.hid hgrow; clear hown' hgrow)
  go_ret
  refine ⟨_, rfl, ?_, (((Below.refl B w).alloc hB _).grown HG3.out (by simp; omega) (fun k hk => (HO.out.lt k hk).1))⟩
  rw [HE.out]
  simpa using HO3.out
 ·have he : encC c = Lib.encodeRuneZ c := by unfold encC; rw [if_neg hc]
  have HE := Lib.hid he
  clear he
  go_enter Tryz.func142, Tryz.ntmps142
  go_wp2_with fail
  refine (byte_no c w (by omega)).mono ?_
  rintro e w' ⟨rfl, rfl⟩
  go_wp2_with fail
  refine (Tryz.utf8_AppendRune_plain B v zs.length (zs.map (Value.int .u8)) c (by omega) (by omega) w HO.out hlen hB).mono ?_
  rintro e w1 ⟨v', rfl, hown1, o, hg⟩
  have HO1 := Lib.hid hown1
  have HG := Lib.hid hg
  clear hown1 hg
  go_wp2
  go_ret
  refine ⟨_, rfl, ?_, (((Below.refl B w).alloc hB _).grown HG.out (by simp; omega) (fun k hk => (HO.out.lt k hk).1))⟩
  rw [HE.out]
  have := HO1.out
  unfold Lib.runeCells at this
  simpa using this

def EncTold (xs : List Int) (w : World) (e : Ending) (w' : World) : Prop :=
 Below w.heap.size w w' ∧ ((xs.all rightB = true ∧ ∃ v, e = .returned (.tuple #[v, .int .u16 0]) ∧ w'.ownsRow w.heap.size 5 1 v (encL xs).length ((encL xs).map (Value.int .u8))) ∨
  (xs.all rightB = false ∧ e = .returned (.tuple #[.slice none 0 0, .int .u16 10])))
theorem take_right {xs : List Int} {k : Nat} {c : Int} (h : (xs.take k).all rightB = true) (hc : xs[k]? = some c) (hr : rightB c = true) : (xs.take (k + 1)).all rightB = true := by
 rw [take_snoc hc, List.all_append, h]
 simp [hr]
theorem not_right {xs : List Int} {k : Nat} {c : Int} (hc : xs[k]? = some c) (hr : rightB c = false) : xs.all rightB = false := by
 rw [List.all_eq_false]
 exact ⟨c, List.mem_of_getElem? hc, by simp [hr]⟩

set_option maxHeartbeats 2000000 in
theorem encode_told (w : World) (B : Nat) (A : Option Addr) (n c : Nat) (xs : List Int) (hx : RI .i32 w B A n xs) (hB : B ≤ w.heap.size) (hn : n ≤ 1073741824) :
  Calls Tryz.prog 90 #[.slice A n c] w (EncTold xs w) := by
 obtain ⟨i0, hi, hz0, hz1, hz2⟩ := info_parts info8
 have HX := Lib.hid hx
 clear hx
 go_enter Tryz.func90, Tryz.ntmps90
 go_wp2_with (at_make; (refine wpList_make_own _ rfl _ _ 38 rfl w.heap.size 5 i0 (.int .u8 0) 1 Tryz.underlying38 hi hz0 hz1 .i64 .i64 _ n rfl rfl (by omega) (by rw [hz2]; omega) (by unfold maxLen; omega) (by omega) ?_); intro w2 hown hgrow; have hb2 : Below w.heap.size w w2 := (Below.refl _ _).grown hgrow (by omega) (fun _ h => by cases h); clear hgrow; have HO := Lib.hid hown; clear hown)
 go_loopw [4, 12] (fun v i wr => ∃ k : Nat, k ≤ n ∧ i = .int .i64 k ∧ Hid ((xs.take k).all rightB = true) ∧ Hid (wr.ownsRow w.heap.size 5 1 v (encL (xs.take k)).length ((encL (xs.take k)).map (Value.int .u8))) ∧ Below w.heap.size w wr) (fun _ i _ => n - (intOf i).toNat)
 case atStart => exact ⟨0, Nat.zero_le _, rfl, rfl, HO.out, hb2⟩
 case round =>
  obtain ⟨k, hk, rfl, HA, HW, hbr⟩ := hrel
  have hsz := hbr.size
  by_cases hlt : k < n
  ·obtain ⟨ad, u, rfl, hbl, hu, hcell⟩ := HX.out.at_ hlt
   have hcr : wr.cell? (ad.add k) = some (.int .i32 u) := (hbr.cell (p := ad.add k) (by rw [block_of_add]; omega)).trans hcell
   have HU := Lib.hid hu
   clear hu hcell
   cases hru : rightB u with
   | true =>
    have HRU := Lib.hid hru
    clear hru
    have hle := (encL_len (xs.take k)).2
    have hlk : (xs.take k).length ≤ k := List.length_take_le _ _
    go_wp2_with fail
    refine (right_is u wr true HRU.out).mono ?_
    rintro e w' ⟨rfl, rfl⟩
    go_wp2_with fail
    refine (appendCell_any wr w.heap.size _ (encL (xs.take k)) u HRU.out hsz HW.out (by omega)).mono ?_
    rintro e w1 ⟨v1, rfl, hown1, hb1⟩
    have hown2 : Hid (w1.ownsRow w.heap.size 5 1 v1 (encL (xs.take (k + 1))).length ((encL (xs.take (k + 1))).map (Value.int .u8))) := by
     rw [take_snoc HU.out, encL_snoc]
     exact hown1
    clear hown1
    have hb3 := hbr.trans hb1
    go_wp2
    go_roundw
    case rel => exact ⟨k + 1, by omega, by go_num, take_right HA.out HU.out HRU.out, hown2, hb3⟩
    case measure => simp [intOf]; omega
   | false =>
    have HRU := Lib.hid hru
    clear hru
    go_wp2_with fail
    refine (right_is u wr false HRU.out).mono ?_
    rintro e w' ⟨rfl, rfl⟩
    go_wp2
    go_ret2
    exact ⟨hbr, .inr ⟨not_right HU.out HRU.out, rfl⟩⟩
  ·have hkn : xs.take k = xs := List.take_of_length_le (by rw [HX.out.len]; omega)
   have HK := Lib.hid hkn
   clear hkn
   go_wp2
   go_ret2
   refine ⟨hbr, .inl ⟨?_, _, rfl, ?_⟩⟩
   ·have := HA.out
    rwa [HK.out] at this
   ·have := HW.out
    rwa [HK.out] at this
theorem encode_yes (w : World) (B : Nat) (A : Option Addr) (n c : Nat) (xs : List Int) (hx : RI .i32 w B A n xs) (hB : B ≤ w.heap.size) (hn : n ≤ 1073741824) (ha : xs.all rightB = true) :
  Calls Tryz.prog 90 #[.slice A n c] w fun e w' => ∃ v, e = .returned (.tuple #[v, .int .u16 0]) ∧ w'.ownsRow w.heap.size 5 1 v (encL xs).length ((encL xs).map (Value.int .u8)) ∧ Below w.heap.size w w' := by
 refine (encode_told w B A n c xs hx hB hn).mono ?_
 rintro e w' ⟨hb, ⟨_, v, rfl, ho⟩ | ⟨h, _⟩⟩
 ·exact ⟨v, rfl, ho, hb⟩
 ·rw [ha] at h; cases h
theorem encode_no (w : World) (B : Nat) (A : Option Addr) (n c : Nat) (xs : List Int) (hx : RI .i32 w B A n xs) (hB : B ≤ w.heap.size) (hn : n ≤ 1073741824) (ha : xs.all rightB = false) :
  Calls Tryz.prog 90 #[.slice A n c] w fun e w' => e = .returned (.tuple #[.slice none 0 0, .int .u16 10]) ∧ Below w.heap.size w w' := by
 refine (encode_told w B A n c xs hx hB hn).mono ?_
 rintro e w' ⟨hb, ⟨h, _⟩ | ⟨_, rfl⟩⟩
 ·rw [ha] at h; cases h
 ·exact ⟨rfl, hb⟩

end Go.Proofs.YthaibekbefndlaaGreatDoor.C
