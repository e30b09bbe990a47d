/-
  Joined: LeF, LfB, LfC. Each with what its own head says.
-/
import Derived.Test.YthaibekbefndlaaGreatDoorH21
import Derived.Test.YthaibekbefndlaaGreatDoorH22

namespace Go.Proofs.YthaibekbefndlaaGreatDoor.C
open Go.RowKit

def FnC (A : Nat) : Value := .func (.func 105) #[] #[.pointer (some ⟨A, 0, none⟩)]
def celV (ks : List Int) : List Value := ks.map fun n => .int .i32 n
theorem celV_in {ks : List Int} {n : Int} : Value.int .i32 n ∈ celV ks ↔ n ∈ ks := by
 unfold celV
 rw [List.mem_map]
 constructor
 ·rintro ⟨c, hc, he⟩
  injection he with _ he
  exact he ▸ hc
 ·intro h
  exact ⟨n, h, rfl⟩
theorem celV_snoc (ks : List Int) (n : Int) : celV ks ++ [.int .i32 n] = celV (ks ++ [n]) := by simp [celV]
def prOk (ks : List Int) (p : Int × Int) : Bool := scalB p.1 && scalB p.2 && !(ks.contains p.1)
theorem prOk_at {l : List (Int × Int)} {i : Nat} {p : Int × Int} (h : l[i]? = some p) : pairAt l i = prOk ((l.take i).map Prod.fst) p := by
 unfold pairAt prOk
 rw [h]
def RpTold (W : World) (A M : Nat) (ks : List Int) (p : Int × Int) (r : Bool) (e : Ending) (w' : World) : Prop := e = .returned (.bool r) ∧ (prOk ks p = true → FT w' 153 (.int .i32) A M (celV (ks ++ [p.1]))) ∧ Fr W w' (fun j => j = M)
set_option maxRecDepth 100000 in
set_option maxHeartbeats 4000000 in
theorem rightPairs1_any (W : World) (T3 A M : Nat) (ks : List Int) (p : Int × Int) (h3 : One W T3 111 (FnC A)) (hft : FT W 153 (.int .i32) A M (celV ks)) :
  Calls Tryz.prog 62 #[.agg #[.int .i32 p.1, .int .i32 p.2], .pointer (some ⟨T3, 0, none⟩)] W (RpTold W A M ks p (prOk ks p)) := by
 obtain ⟨a, b⟩ := p
 obtain ⟨W1, hW1⟩ : ∃ W1, W1 = W.alloc (.cells #[.int .i32 a, .int .i32 b] 49) := ⟨_, rfl⟩
 have hb1 : Below W.heap.size W W1 := by rw [hW1]; exact (Below.refl _ _).alloc (Nat.le_refl _) _
 have HB1 := Lib.hid hb1
 have HX1 : Hid (Two W1 W.heap.size 49 (.int .i32 a) (.int .i32 b)) := Lib.hid (by rw [hW1]; exact Two.new W _ _ _)
 have HFT1 : Hid (FT W1 153 (.int .i32) A M (celV ks)) := Lib.hid (hft.next (hb1.block _ hft.lt) (hb1.block _ hft.2.lt))
 have H31 : Hid (One W1 T3 111 (FnC A)) := Lib.hid ((hb1.block _ h3.lt).trans h3)
 have h1 := fun W => isScalar_any a W
 have h2 := fun W => isScalar_any b W
 obtain ⟨q2, q3⟩ := HX1.out.cells
 have q1 := H31.out.cell
 unfold FnC at q1
 rw [hW1] at q1 q2 q3
 unfold RpTold
 clear hb1 h3 hft
 cases ha : scalB a with
 | false =>
  rw [ha] at h1
  have hok : prOk ks (a, b) = false := by simp [prOk, ha]
  rw [hok]
  clear h2 ha hok
  go_enter Tryz.func62, Tryz.ntmps62
  go_wp2_with (go_at_call 63; with_reducible refine (h1 _).mono ?_; rintro e w' ⟨rfl, rfl⟩)
  go_ret
  rw [← hW1]
  exact ⟨rfl, by simp, .of_below HB1.out⟩
 | true =>
  rw [ha] at h1
  cases hb2 : scalB b with
  | false =>
   rw [hb2] at h2
   have hok : prOk ks (a, b) = false := by simp [prOk, hb2]
   rw [hok]
   clear ha hb2 hok
   go_enter Tryz.func62, Tryz.ntmps62
   go_wp2_with (first
    | (go_at_call 63; with_reducible refine (h1 _).mono ?_; rintro e w' ⟨rfl, rfl⟩)
    | (go_at_call 63; with_reducible refine (h2 _).mono ?_; rintro e w' ⟨rfl, rfl⟩))
   go_ret
   rw [← hW1]
   exact ⟨rfl, by simp, .of_below HB1.out⟩
  | true =>
   rw [hb2] at h2
   by_cases hin : a ∈ ks
   ·have hok : prOk ks (a, b) = false := by simp [prOk, hin]
    rw [hok]
    have hno := isNewC_no W1 A M (celV ks) a HFT1.out (celV_in.2 hin)
    rw [hW1] at hno
    have HNO := Lib.hid hno
    clear ha hb2 hok hin hno
    go_enter Tryz.func62, Tryz.ntmps62
    go_wp2_with (first
     | (go_at_call 63; with_reducible refine (h1 _).mono ?_; rintro e w' ⟨rfl, rfl⟩)
     | (go_at_call 63; with_reducible refine (h2 _).mono ?_; rintro e w' ⟨rfl, rfl⟩)
     | (go_at_call 105; refine HNO.out.mono ?_; rintro e w3 ⟨rfl, hg3⟩; (have HG3 := Lib.hid hg3); clear hg3))
    go_ret
    exact ⟨rfl, by simp, (Fr.of_below HB1.out).trans ((Fr.of_grown (by rw [hW1]; exact HG3.out)).mono (fun j _ e => by injection e with e; exact e.symm))⟩
   ·have hok : prOk ks (a, b) = true := by simp [prOk, ha, hb2, hin]
    rw [hok]
    have hyes := isNewC_yes W1 A M (celV ks) a HFT1.out (fun h => hin (celV_in.1 h))
    rw [hW1] at hyes
    have HYES := Lib.hid hyes
    clear ha hb2 hok hin hyes
    go_enter Tryz.func62, Tryz.ntmps62
    go_wp2_with (first
     | (go_at_call 63; with_reducible refine (h1 _).mono ?_; rintro e w' ⟨rfl, rfl⟩)
     | (go_at_call 63; with_reducible refine (h2 _).mono ?_; rintro e w' ⟨rfl, rfl⟩)
     | (go_at_call 105; refine HYES.out.mono ?_; rintro e w3 ⟨rfl, hf3, hg3⟩; (have HF3 := Lib.hid hf3); (have HG3 := Lib.hid hg3); clear hf3 hg3))
    go_ret
    refine ⟨rfl, fun _ => ?_, (Fr.of_below HB1.out).trans ((Fr.of_grown (by rw [hW1]; exact HG3.out)).mono (fun j _ e => by injection e with e; exact e.symm))⟩
    rw [← celV_snoc]
    exact HF3.out

set_option maxRecDepth 100000 in
set_option maxHeartbeats 2000000 in
theorem allPair1_any (W : World) (V0 T3 A M : Nat) (ks : List Int) (p : Int × Int) (hv : One W V0 121 (.func (.func 62) #[] #[.pointer (some ⟨T3, 0, none⟩)])) (h3 : One W T3 111 (FnC A)) (hft : FT W 153 (.int .i32) A M (celV ks)) :
  Calls Tryz.prog 107 #[.agg #[.int .i32 p.1, .int .i32 p.2], .pointer (some ⟨V0, 0, none⟩)] W (RpTold W A M ks p (!prOk ks p)) := by
 obtain ⟨W1, hW1⟩ : ∃ W1, W1 = W.alloc (.cells #[.int .i32 p.1, .int .i32 p.2] 49) := ⟨_, rfl⟩
 have hb1 : Below W.heap.size W W1 := by rw [hW1]; exact (Below.refl _ _).alloc (Nat.le_refl _) _
 have hi := rightPairs1_any W1 T3 A M ks p ((hb1.block _ h3.lt).trans h3) (hft.next (hb1.block _ hft.lt) (hb1.block _ hft.2.lt))
 have q0 := (show One W1 V0 _ _ from (hb1.block _ hv.lt).trans hv).cell
 obtain ⟨q1, q2⟩ := (show Two W1 W.heap.size 49 (.int .i32 p.1) (.int .i32 p.2) by rw [hW1]; exact Two.new W _ _ _).cells
 rw [hW1] at q0 q1 q2
 have HB1 := Lib.hid hb1
 unfold RpTold at hi
 clear hb1 h3 hft hv
 obtain ⟨b, hb⟩ : ∃ b, b = prOk ks p := ⟨_, rfl⟩
 unfold RpTold
 rw [← hb] at hi ⊢
 clear hb
 obtain ⟨pa, pb⟩ := p
 simp only at hi hW1 q0 q1 q2 ⊢
 go_enter Tryz.func107, Tryz.ntmps107
 go_wp2_with fail
 rw [← hW1]
 refine hi.mono ?_
 rintro e w2 ⟨rfl, hf2, hr2⟩
 have HE := Lib.hid (And.intro hf2 hr2)
 clear hf2 hr2 hi q0 q1 q2 hW1
 go_wp2
 go_ret
 exact ⟨rfl, HE.out.1, (Fr.of_below HB1.out).trans HE.out.2⟩
set_option maxRecDepth 100000 in
set_option maxHeartbeats 2000000 in
theorem rightPairs_any (w : World) (B : Nat) (v : Value) (l : List (Int × Int)) (h : PrsR w B v l) (hB : B ≤ w.heap.size) (hn : l.length ≤ maxLen) :
  Calls Tryz.prog 31 #[v] w fun e w' => e = .returned (.bool (pairsB l)) ∧ Below w.heap.size w w' := by
 obtain ⟨Ac, c, rfl, hsi⟩ := h
 have hmf : ∀ (fn : Fn) (first cap : Array Value) (w : World), (Instr.makeFunc fn first cap).run Tryz.prog w = .ok (.func fn first cap) w := fun _ _ _ _ => rfl
 have hst := @run_store_func Tryz.prog
 have hfs := firstC_any w
 have hall : ∀ (W : World) (T3 A M : Nat), Below w.heap.size w W → One W T3 111 (FnC A) → FT W 153 (.int .i32) A M [] → w.heap.size ≤ M →
   Calls Tryz.prog 61 #[.slice Ac l.length c, .func (.func 62) #[] #[.pointer (some ⟨T3, 0, none⟩)]] W fun e w' => e = .returned (.bool (pairsB l)) ∧ Below w.heap.size w w' := by
  intro W T3 A M hbW h3 hft hM
  obtain ⟨W1, hW1⟩ : ∃ W1, W1 = W.alloc (.cells #[.func (.func 62) #[] #[.pointer (some ⟨T3, 0, none⟩)]] 121) := ⟨_, rfl⟩
  have hb1 : Below W.heap.size W W1 := by rw [hW1]; exact (Below.refl _ _).alloc (Nat.le_refl _) _
  have hI0 : RcI w 153 (.int .i32) 111 (FnC A) 121 (.func (.func 62) #[] #[.pointer (some ⟨T3, 0, none⟩)]) W.heap.size T3 A M (celV ((l.take 0).map Prod.fst)) W1 :=
   ⟨hbW.trans (hb1.mono hbW.size), by rw [hW1]; exact heap_alloc_new W _, (hb1.block _ h3.lt).trans h3, hft.next (hb1.block _ hft.lt) (hb1.block _ hft.2.lt)⟩
  have hf := hasPair_any W1 B Ac l.length c (l.map prRow) W.heap.size (fun j => !pairAt l j) (fun k W' => RcI w 153 (.int .i32) 111 (FnC A) 121 (.func (.func 62) #[] #[.pointer (some ⟨T3, 0, none⟩)]) W.heap.size T3 A M (celV ((l.take k).map Prod.fst)) W') (fun _ W' => Below w.heap.size w W') hn hI0
   (fun k W' hI => hsi.on hI.bel hB)
   (fun k a b W' hx hI => by
    obtain ⟨p, hp, rfl, rfl⟩ := prRow_at hx
    refine (allPair1_any W' W.heap.size T3 A M ((l.take k).map Prod.fst) p hI.v0 hI.t3 hI.ft).mono ?_
    rintro e w2 ⟨rfl, hf2, hr2⟩
    refine ⟨by rw [prOk_at hp], fun hq => ?_, fun _ => hI.bel' hr2 hM⟩
    have hq2 : prOk ((l.take k).map Prod.fst) p = true := by
     simp only [prOk_at hp] at hq
     simpa using hq
    have := hI.next hr2 (hf2 hq2) hM
    rw [take_next hp, List.map_append]
    exact this)
  have hbb : ∀ w2, Below W.heap.size W w2 → Below w.heap.size w w2 := fun w2 h2 => hbW.trans (h2.mono hbW.size)
  clear hsi hft h3 hI0
  go_enter Tryz.func61, Tryz.ntmps61
  go_wp2_with fail
  rw [← hW1]
  refine hf.mono ?_
  rintro e w2 (⟨j, hj, hq, -, rfl, hb2⟩ | ⟨hq, rfl, hI2⟩)
  ·have hp : pairsB l = false := range_all_false hj hq
   clear hq hf
   go_wp2
   go_ret
   rw [hp]
   exact ⟨rfl, hb2⟩
  ·have hp : pairsB l = true := range_all_true hq
   have HB := Lib.hid hI2.bel
   clear hq hf hI2
   go_wp2
   go_ret
   rw [hp]
   exact ⟨rfl, HB.out⟩
 clear hsi
 go_enter Tryz.func31, Tryz.ntmps31
 go_wp2_with fail
 refine hfs.mono ?_
 rintro e w1 ⟨rfl, hft, hb, hs⟩
 obtain ⟨W2, hW2⟩ : ∃ W2, W2 = w1.alloc (.cells #[FnC (w.heap.size + 1)] 111) := ⟨_, rfl⟩
 have hca := hall W2 w1.heap.size (w.heap.size + 1) w.heap.size (by rw [hW2]; exact hb.alloc hb.size _) (by rw [hW2]; exact heap_alloc_new w1 _) (by rw [hW2]; exact hft.next (heap_lt _ _ (by omega)) (heap_lt _ _ (by omega))) (Nat.le_refl _)
 unfold FnC at hW2
 clear hft hb hs hfs hall
 go_wp2_with fail
 rw [← hW2]
 refine hca.mono ?_
 rintro e w3 ⟨rfl, hb3⟩
 have HB3 := Lib.hid hb3
 clear hb3 hca
 go_wp2
 go_ret
 exact ⟨rfl, HB3.out⟩
end Go.Proofs.YthaibekbefndlaaGreatDoor.C

namespace Go.Proofs.YthaibekbefndlaaGreatDoor.C
open Go.RowKit

theorem PW.rest {w : World} {B P T : Nat} {S : List UInt8} (h : PW w B P S T) : w.cell? ⟨P, 3, none⟩ = some (.int .i64 T) := LibA.IsBuffer.rest h 3 (.inr (by omega))
theorem PW.lt {w : World} {B P T : Nat} {S : List UInt8} (h : PW w B P S T) : P < w.heap.size := LibA.IsBuffer.lt h
theorem PW.le {w : World} {B P T : Nat} {S : List UInt8} (h : PW w B P S T) : B ≤ P := h.1
theorem PW.old {w w' : World} {B P T : Nat} {S : List UInt8} (h : PW w B P S T) (hb : Below w.heap.size w w') : PW w' B P S T := LibA.IsBuffer.old h hb
theorem PW.count {w : World} {B P T : Nat} {S : List UInt8} (h : PW w B P S T) (T' : Nat) : PW (w.setCell ⟨P, 3, none⟩ (.int .i64 T')) B P S T' := by
 have h1 := LibA.IsBuffer.setOther h 3 (.inr (by omega)) (old := .int .i64 T) rfl (.int .i64 T')
 have he : (fun j => if j = 3 then some (Value.int .i64 T') else tkR T j) = tkR T' := by
  funext j
  unfold tkR
  by_cases hj : j = 3
  ·rw [if_pos hj, if_pos hj]
  ·rw [if_neg hj, if_neg hj, if_neg hj]
 rw [he] at h1
 exact h1
theorem Kp.set {B P : Nat} {w w' : World} (h : Kp B P w w') (hB : B ≤ P) (i : Nat) (v : Value) : Kp B P w (w'.setCell ⟨P, i, none⟩ v) := ⟨h.1.setCell (p := ⟨P, i, none⟩) hB _, h.2.setCell ⟨P, i, none⟩ rfl _⟩
theorem Kp.size {B P : Nat} {w w' : World} (h : Kp B P w w') : w.heap.size ≤ w'.heap.size := h.1.size
def longV : List PanicEntry := [{ v := .iface 28 (.int .u16 3), recovered := false }]
def PutTold (w : World) (B P : Nat) (S : List UInt8) (T : Nat) (e : Ending) (w' : World) : Prop :=
 (S.length ≤ 4000 ∧ T ≤ 1000 ∧ e = .returned (.tuple #[]) ∧ PW w' B P S T ∧ Kp B P w w') ∨ (¬ (S.length ≤ 4000 ∧ T ≤ 1000) ∧ e = .panicked longV ∧ Below B w w')
def Printable (ts : List Tok) : Prop := ∀ x ∈ ts, x.t.length ≤ 5000 ∧ x.n < 1048576 * 1048576

set_option maxRecDepth 100000 in
set_option maxHeartbeats 2000000 in
theorem put_any (w : World) (B P T n c : Nat) (A : Option Addr) (S : List UInt8) (ts : List Tok) (B' : Nat) (h : PW w B P S T) (ht : TI w B' A n ts) (hB' : B' ≤ w.heap.size) (hS : S.length ≤ 4000) (hT : T ≤ 1000) (hn : n ≤ 5000) (hG : Gl w) (hok : Printable ts) (hB : B ≤ w.heap.size) :
  Calls Tryz.prog 81 #[.pointer (some ⟨P, 0, none⟩), .slice A n c] w (PutTold w B P (S ++ prtL ts) (T + ts.length)) := by
 have hl := ht.len
 have hpr := print_any w.drew B' A n c ts ht hB' hG hn hok
 have hlen := prtL_len ts hok
 have hszP : (str (prtL ts)).size = (prtL ts).length := rfl
 have hbl : (Lib.byteCells S).length = S.length := Lib.byteCells_length S
 obtain ⟨T', hT'⟩ : ∃ T' : Nat, T' = T + ts.length := ⟨_, rfl⟩
 have hTi : (T : Int) + (n : Int) = (T' : Int) := by omega
 obtain ⟨S', hS'⟩ : ∃ S', S' = S ++ prtL ts := ⟨_, rfl⟩
 rw [← hT', ← hS']
 have hSl : S'.length ≤ 4000 + 5020 * 5000 := by
  rw [hS', List.length_append]
  omega
 have hTl : T' ≤ 6000 := by omega
 have HS := Lib.hid hS'
 clear hT' hS'
 have HH := Lib.hid h
 have HB := Lib.hid hB
 have HBP := Lib.hid h.le
 have HL := Lib.hid hlen
 have HN := Lib.hid hl
 clear h ht hok hG hlen
 go_enter Tryz.func81, Tryz.ntmps81
 go_wp2
 refine wp_region_held (S := fun _ : World => True) (by kernel_rfl) ?_
 change wpAnyH _ _ _ _ _ _ _ _ w.drew
 have hS1 : (fun _ : World => True) w.drew := trivial
 refine wpAnyH_take (i := 0) (oi := ?oi0) (v := ?v0) ?hi0 (by kernel_rfl) (by kernel_rfl) (by kernel_rfl) ?hq0 (Or.inl ⟨?hw0, ?hy0⟩) (by assumption) ?rest0
 case hi0 => exact rfl
 case hq0 => exact fun _ _ _ h => h
 case hw0 => rfl
 case hy0 => (intro x hx; (try dsimp only at hx); simp only [List.getElem_toArray, List.getElem_cons_zero]; go_split_ands; go_simp; try with_reducible rfl)
 try simp only [Act.put, List.setIfInBounds_toArray, List.set_cons_zero, List.set_cons_succ, List.getElem_toArray, List.getElem_cons_zero]
 refine wpAnyH_take (i := 1) (oi := ?oi1) (v := ?v1) ?hi1 (by kernel_rfl) (by kernel_rfl) (by kernel_rfl) ?hq1 (Or.inl ⟨?hw1, ?hy1⟩) (by assumption) ?rest1
 case hi1 => exact rfl
 case hq1 => exact fun _ _ _ h => h
 case hw1 => rfl
 case hy1 => (intro x hx; (try dsimp only at hx); simp only [List.getElem_toArray, List.getElem_cons_succ, List.getElem_cons_zero]; go_split_ands; go_simp; try with_reducible rfl)
 try simp only [Act.put, List.setIfInBounds_toArray, List.set_cons_zero, List.set_cons_succ, List.getElem_toArray, List.getElem_cons_succ, List.getElem_cons_zero]
 refine wpAnyH_take (i := 2) (oi := ?oi2) (v := ?v2) ?hi2 (by kernel_rfl) (by kernel_rfl) (by kernel_rfl) ?hq2 (Or.inl ⟨?hw2, ?hy2⟩) (by assumption) ?rest2
 case hi2 => exact rfl
 case hq2 => exact fun _ _ _ h => h
 case hw2 => rfl
 case hy2 => (intro x hx; (try dsimp only at hx); simp only [List.getElem_toArray, List.getElem_cons_succ, List.getElem_cons_zero]; go_split_ands; go_simp; try with_reducible rfl)
 try simp only [Act.put, List.setIfInBounds_toArray, List.set_cons_zero, List.set_cons_succ, List.getElem_toArray, List.getElem_cons_succ, List.getElem_cons_zero]
 refine wpAnyH_take (i := 3) (oi := ?oi3) (v := ?v3) ?hi3 (by kernel_rfl) (by kernel_rfl) (by kernel_rfl) ?hq3 (Or.inl ⟨?hw3, ?hy3⟩) (by assumption) ?rest3
 case hi3 => exact rfl
 case hq3 => exact fun _ _ _ h => h
 case hw3 => rfl
 case hy3 => (intro x hx; (try dsimp only at hx); simp only [List.getElem_toArray, List.getElem_cons_succ, List.getElem_cons_zero]; go_split_ands; go_simp; try with_reducible rfl)
 try simp only [Act.put, List.setIfInBounds_toArray, List.set_cons_zero, List.set_cons_succ, List.getElem_toArray, List.getElem_cons_succ, List.getElem_cons_zero]
 refine wpAnyH_one (i := 4) (by kernel_rfl) rfl (fun K hK => ?_)
 simp only [List.getElem_toArray, List.getElem_cons_succ, List.getElem_cons_zero]
 go_simp
 go_at_call 139
 with_reducible refine hpr.mono ?_
 rintro e w1 ⟨rfl, hb1⟩
 refine hK.out _ _ trivial (fun _ => ?_)
 have hb1' : Below w.heap.size w w1 := ⟨hb1.os, hb1.tape, hb1.output, hb1.size, hb1.block⟩
 have hP1 := HH.out.old hb1'
 have hwr := Tryz.Buffer_WriteString_at 73 (tkR T) B P 0 (Lib.byteCells S) (str (prtL ts)) w1 hP1 (Nat.le_trans HB.out hb1'.size) (Lib.byteCells_one _) (by rw [hbl, hszP]; have := HL.out; omega)
 have hk1 := Kp.of_below (P := P) hb1' HB.out
 have HK1 := Lib.hid hk1
 clear hb1 hb1' hP1 hpr hk1 hszP
 refine wpAnyH_one (i := 5) (by kernel_rfl) rfl (fun K hK => ?_)
 simp only [List.getElem_toArray, List.getElem_cons_succ, List.getElem_cons_zero]
 go_simp
 go_at_call 138
 with_reducible refine hwr.mono ?_
 rintro e w2 ⟨rfl, hib, hb2, ho2⟩
 refine hK.out _ _ trivial (fun _ => ?_)
 refine ⟨by kernel_rfl, ?_⟩
 rw [str_list, ← Lib.byteCells_append] at hib
 have hp2 : PW w2 B P (S ++ prtL ts) T := hib
 have hk2 : Kp B P w w2 := HK1.out.trans ⟨hb2, ho2⟩
 rw [← HS.out] at hp2
 have q3 := hp2.rest
 have f3 : w2.frozen? ⟨P, 3, none⟩ = false := LibA.IsBuffer.notFrozen hp2 3
 obtain ⟨W3, hW3⟩ : ∃ W3, W3 = w2.setCell ⟨P, 3, none⟩ (.int .i64 T') := ⟨_, rfl⟩
 have hp3 : PW W3 B P S' T' := by rw [hW3]; exact hp2.count T'
 have hk3 : Kp B P w W3 := by rw [hW3]; exact hk2.set HBP.out 3 _
 have hln := Tryz.Buffer_Len_at 73 (tkR T') B P 0 (Lib.byteCells S') W3 hp3
 rw [Lib.byteCells_length] at hln
 have HP3 := Lib.hid hp3
 have HK3 := Lib.hid hk3
 clear hp2 hk2 hib hb2 ho2 hwr hbl HK1 hp3 hk3
 go_wp2_with fail
 rw [← hW3]
 refine hln.mono ?_
 rintro e w4 ⟨rfl, k, rfl⟩
 have q4 : (W3.drewN k).cell? ⟨P, 3, none⟩ = some (.int .i64 T') := HP3.out.rest
 have hk4 : Kp B P w (W3.drewN k) := ⟨⟨HK3.out.1.os, HK3.out.1.tape, HK3.out.1.output, HK3.out.1.size, HK3.out.1.block⟩, HK3.out.2.drewN k⟩
 have HK4 := Lib.hid hk4
 have HW3 := Lib.hid hW3
 clear hln hW3 q3 f3 hk4
 by_cases h4 : 4000 < S'.length
 ·have i4 : (4000 : Int) < (S'.length : Int) := by omega
  have HX : Hid (¬ (S'.length ≤ 4000 ∧ T' ≤ 1000)) := Lib.hid (fun h => by omega)
  clear h4
  go_wp2
  exact ⟨rfl, .inr ⟨HX.out, rfl, HK4.out.1⟩⟩
 ·by_cases h5 : 1000 < T'
  ·have i4 : ¬ (4000 : Int) < (S'.length : Int) := by omega
   have i5 : (1000 : Int) < (T' : Int) := by omega
   have HX : Hid (¬ (S'.length ≤ 4000 ∧ T' ≤ 1000)) := Lib.hid (fun h => by omega)
   clear h4 h5
   go_wp2
   exact ⟨rfl, .inr ⟨HX.out, rfl, HK4.out.1⟩⟩
  ·have i4 : ¬ (4000 : Int) < (S'.length : Int) := by omega
   have i5 : ¬ (1000 : Int) < (T' : Int) := by omega
   have HX : Hid (S'.length ≤ 4000 ∧ T' ≤ 1000) := Lib.hid (by omega)
   clear h4 h5
   go_wp2
   go_end0
   exact .inl ⟨HX.out.1, HX.out.2, rfl, HP3.out.drewN k, HK4.out⟩
end Go.Proofs.YthaibekbefndlaaGreatDoor.C

namespace Go.Proofs.YthaibekbefndlaaGreatDoor.C
open Go.RowKit

theorem flat_tk : ∀ (ts : List Tok) (j : Nat) (x : Tok), ts[j]? = some x → ∀ i u, (tkC x)[i]? = some u → (ts.flatMap tkC)[j * 4 + i]? = some u
 | [], j, x, h, _, _, _ => by simp at h
 | a :: r, 0, x, h, i, u, hu => by
  simp at h
  subst h
  rw [List.flatMap_cons, Nat.zero_mul, Nat.zero_add, List.getElem?_append_left (List.getElem?_eq_some_iff.1 hu).1]
  exact hu
 | a :: r, j + 1, x, h, i, u, hu => by
  have h' : r[j]? = some x := by simpa using h
  have hl : (tkC a).length = 4 := rfl
  rw [List.flatMap_cons, List.getElem?_append_right (by omega), hl, show (j + 1) * 4 + i - 4 = j * 4 + i by omega]
  exact flat_tk r j x h' i u hu
theorem TI.many (w : World) (ts : List Tok) (cs : Array Value) (hc : cs.toList = ts.flatMap tkC) : TI (w.alloc (.cells cs 92)) (w.heap.size + 1) (some ⟨w.heap.size, 0, none⟩) ts.length ts :=
 ⟨rfl, fun _ => ⟨_, rfl, Nat.lt_succ_self _, fun j y hy i u hu => by
  rw [add_off0, World.cell?_alloc_new, ← Array.getElem?_toList, hc]
  exact flat_tk ts j y hy i u hu⟩⟩

set_option maxHeartbeats 1000000 in
theorem word_any (w : World) (s : ByteArray) : Calls Tryz.prog 82 #[.string s] w fun e w' => e = .returned (.agg #[.int .u8 1, .string s, .int .i64 0, .int .i64 0]) ∧ Below w.heap.size w w' := by
 go_enter Tryz.func82, Tryz.ntmps82
 go_wp2
 refine bodyPost_ret (v := .agg #[.int .u8 1, .string s, .int .i64 0, .int .i64 0]) (by simp [results, Tryz.results82, go_sem, *]) rfl ?_
 exact ⟨rfl, (Below.refl _ _).alloc (Nat.le_refl _) _⟩
set_option maxHeartbeats 1000000 in
theorem sign_any7 (w : World) (s : ByteArray) : Calls Tryz.prog 86 #[.string s] w fun e w' => e = .returned (.agg #[.int .u8 2, .string s, .int .i64 0, .int .i64 0]) ∧ Below w.heap.size w w' := by
 go_enter Tryz.func86, Tryz.ntmps86
 go_wp2
 refine bodyPost_ret (v := .agg #[.int .u8 2, .string s, .int .i64 0, .int .i64 0]) (by simp [results, Tryz.results86, go_sem, *]) rfl ?_
 exact ⟨rfl, (Below.refl _ _).alloc (Nat.le_refl _) _⟩
set_option maxHeartbeats 1000000 in
theorem scalar_any7 (w : World) (c : Int) (h0 : -2147483648 ≤ c) (h1 : c ≤ 2147483647) : Calls Tryz.prog 85 #[.int .i32 c] w fun e w' => e = .returned (.agg #[.int .u8 3, .string ⟨#[]⟩, .int .i64 c, .int .i64 0]) ∧ Below w.heap.size w w' := by
 go_enter Tryz.func85, Tryz.ntmps85
 go_wp2
 refine bodyPost_ret (v := .agg #[.int .u8 3, .string ⟨#[]⟩, .int .i64 c, .int .i64 0]) (by simp [results, Tryz.results85, go_sem, *]) rfl ?_
 exact ⟨rfl, (Below.refl _ _).alloc (Nat.le_refl _) _⟩
set_option maxRecDepth 100000 in
set_option maxHeartbeats 2000000 in
theorem putEnd_any (w : World) (B P T : Nat) (S : List UInt8) (h : PW w B P S T) (h2 : 2 ≤ S.length) (hS : S.length ≤ 4000) (hT : T ≤ 1000) (hG : ∀ w', Below B w w' → Gl w') (hB : B ≤ w.heap.size) :
  Calls Tryz.prog 87 #[.pointer (some ⟨P, 0, none⟩)] w (PutTold w B P (S.dropLast ++ [10]) (T + 1)) := by
 have hln := fun k => Tryz.Buffer_Len_at 73 (tkR T) B P 0 (Lib.byteCells S) (w.drewN k) h
 have hln0 := Tryz.Buffer_Len_at 73 (tkR T) B P 0 (Lib.byteCells S) w.drew h
 rw [Lib.byteCells_length] at hln0
 obtain ⟨m, hm⟩ : ∃ m : Nat, (S.length : Int) - 1 = (m : Int) := ⟨S.length - 1, by omega⟩
 have hm0 : 0 < m := by omega
 have hmS : m + 1 = S.length := by omega
 have htr := fun k => truncate_any (w.drewN k) B P 73 (tkR T) (Lib.byteCells S) m h hm0 (by rw [Lib.byteCells_length]; omega)
 have hdl : S.take m = S.dropLast := by rw [List.dropLast_eq_take]; congr 1; omega
 have hwr : IntKind.i64.wrap (m : Int) = (m : Int) := by rw [IntKind.wrap_i64]; omega
 have HG := Lib.hid hG
 have HD := Lib.hid hdl
 have HBW := Lib.hid hB
 clear hG hln h hdl
 go_enter Tryz.func87, Tryz.ntmps87
 go_wp2
 refine wp_region_held (S := fun _ : World => True) (by kernel_rfl) ?_
 change wpAnyH _ _ _ _ _ _ _ _ w.drew
 have hS1 : (fun _ : World => True) w.drew := trivial
 refine wpAnyH_take (i := 0) (oi := ?oi0) (v := ?v0) ?hi0 (by kernel_rfl) (by kernel_rfl) (by kernel_rfl) ?hq0 (Or.inl ⟨?hw0, ?hy0⟩) (by assumption) ?rest0
 case hi0 => exact rfl
 case hq0 => exact fun _ _ _ h => h
 case hw0 => rfl
 case hy0 => (intro x hx; (try dsimp only at hx); simp only [List.getElem_toArray, List.getElem_cons_zero]; go_split_ands; go_simp; try with_reducible rfl)
 try simp only [Act.put, List.setIfInBounds_toArray, List.set_cons_zero, List.set_cons_succ, List.getElem_toArray, List.getElem_cons_zero]
 refine wpAnyH_take (i := 1) (oi := ?oi1) (v := ?v1) ?hi1 (by kernel_rfl) (by kernel_rfl) (by kernel_rfl) ?hq1 (Or.inl ⟨?hw1, ?hy1⟩) (by assumption) ?rest1
 case hi1 => exact rfl
 case hq1 => exact fun _ _ _ h => h
 case hw1 => rfl
 case hy1 => (intro x hx; (try dsimp only at hx); simp only [List.getElem_toArray, List.getElem_cons_succ, List.getElem_cons_zero]; go_split_ands; go_simp; try with_reducible rfl)
 try simp only [Act.put, List.setIfInBounds_toArray, List.set_cons_zero, List.set_cons_succ, List.getElem_toArray, List.getElem_cons_succ, List.getElem_cons_zero]
 refine wpAnyH_take (i := 2) (oi := ?oi2) (v := ?v2) ?hi2 (by kernel_rfl) (by kernel_rfl) (by kernel_rfl) ?hq2 (Or.inl ⟨?hw2, ?hy2⟩) (by assumption) ?rest2
 case hi2 => exact rfl
 case hq2 => exact fun _ _ _ h => h
 case hw2 => rfl
 case hy2 => (intro x hx; (try dsimp only at hx); simp only [List.getElem_toArray, List.getElem_cons_succ, List.getElem_cons_zero]; go_split_ands; go_simp; try with_reducible rfl)
 try simp only [Act.put, List.setIfInBounds_toArray, List.set_cons_zero, List.set_cons_succ, List.getElem_toArray, List.getElem_cons_succ, List.getElem_cons_zero]
 refine wpAnyH_take (i := 3) (oi := ?oi3) (v := ?v3) ?hi3 (by kernel_rfl) (by kernel_rfl) (by kernel_rfl) ?hq3 (Or.inl ⟨?hw3, ?hy3⟩) (by assumption) ?rest3
 case hi3 => exact rfl
 case hq3 => exact fun _ _ _ h => h
 case hw3 => rfl
 case hy3 => (intro x hx; (try dsimp only at hx); simp only [List.getElem_toArray, List.getElem_cons_succ, List.getElem_cons_zero]; go_split_ands; go_simp; try with_reducible rfl)
 try simp only [Act.put, List.setIfInBounds_toArray, List.set_cons_zero, List.set_cons_succ, List.getElem_toArray, List.getElem_cons_succ, List.getElem_cons_zero]
 refine wpAnyH_take (i := 4) (oi := ?oi4) (v := ?v4) ?hi4 (by kernel_rfl) (by kernel_rfl) (by kernel_rfl) ?hq4 (Or.inl ⟨?hw4, ?hy4⟩) (by assumption) ?rest4
 case hi4 => exact rfl
 case hq4 => exact fun _ _ _ h => h
 case hw4 => rfl
 case hy4 => (intro x hx; (try dsimp only at hx); simp only [List.getElem_toArray, List.getElem_cons_succ, List.getElem_cons_zero]; go_split_ands; go_simp; try with_reducible rfl)
 try simp only [Act.put, List.setIfInBounds_toArray, List.set_cons_zero, List.set_cons_succ, List.getElem_toArray, List.getElem_cons_succ, List.getElem_cons_zero]
 refine wpAnyH_take (i := 5) (oi := ?oi5) (v := ?v5) ?hi5 (by kernel_rfl) (by kernel_rfl) (by kernel_rfl) ?hq5 (Or.inl ⟨?hw5, ?hy5⟩) (by assumption) ?rest5
 case hi5 => exact rfl
 case hq5 => exact fun _ _ _ h => h
 case hw5 => rfl
 case hy5 => (intro x hx; (try dsimp only at hx); simp only [List.getElem_toArray, List.getElem_cons_succ, List.getElem_cons_zero]; go_split_ands; go_simp; try with_reducible rfl)
 try simp only [Act.put, List.setIfInBounds_toArray, List.set_cons_zero, List.set_cons_succ, List.getElem_toArray, List.getElem_cons_succ, List.getElem_cons_zero]
 refine wpAnyH_one (i := 6) (by kernel_rfl) rfl (fun K hK => ?_)
 simp only [List.getElem_toArray, List.getElem_cons_succ, List.getElem_cons_zero]
 go_simp
 go_at_call 140
 with_reducible refine hln0.mono ?_
 rintro e w1 ⟨rfl, k, rfl⟩
 refine hK.out _ _ trivial (fun _ => ?_)
 have htr1 := htr (1 + k)
 clear hln0 htr
 refine wpAnyH_one (i := 7) (by kernel_rfl) rfl (fun K hK => ?_)
 simp only [List.getElem_toArray, List.getElem_cons_succ, List.getElem_cons_zero]
 go_simp
 refine hK.out _ _ trivial (fun _ => ?_)
 refine wpAnyH_one (i := 8) (by kernel_rfl) rfl (fun K hK => ?_)
 simp only [List.getElem_toArray, List.getElem_cons_succ, List.getElem_cons_zero]
 go_simp
 with_reducible refine htr1.mono ?_
 rintro e w2 ⟨rfl, hib, hk2⟩
 refine hK.out _ _ trivial (fun _ => ?_)
 refine ⟨by kernel_rfl, ?_⟩
 rw [← byteCells_take, HD.out] at hib
 have hp2 : PW w2 B P S.dropLast T := hib
 have hkp : Kp B P w w2 := Kp.trans (show Kp B P w (w.drewN (1 + k)) from ⟨⟨rfl, rfl, rfl, Nat.le_refl _, fun _ _ => rfl⟩, (Lib.OthersKept.refl _ _ w).drewN (1 + k)⟩) hk2
 have HP := Lib.hid hp2
 have HK2 := Lib.hid hkp
 clear htr1 hib hk2 hp2 hkp hwr hm
 obtain ⟨W, hW⟩ : ∃ W, W = w2.alloc (.cells #[.int .u8 6, .string ⟨#[]⟩, .int .i64 0, .int .i64 0] 92) := ⟨_, rfl⟩
 have hbW : Below w2.heap.size w2 W := by rw [hW]; exact (Below.refl _ _).alloc (Nat.le_refl _) _
 have hti : TI W (w2.heap.size + 1) (some ⟨w2.heap.size, 0, none⟩) 1 [⟨6, [], 0, 0⟩] := by rw [hW]; exact TI.many w2 [⟨6, [], 0, 0⟩] _ rfl
 have hBs : B ≤ w2.heap.size := Nat.le_trans HBW.out HK2.out.size
 have hkW : Kp B P w W := HK2.out.trans (Kp.of_below hbW hBs)
 have hput := put_any W B P T 1 1 _ S.dropLast [⟨6, [], 0, 0⟩] _ (HP.out.old hbW) hti (by rw [hW]; simp) (by rw [List.length_dropLast]; omega) hT (by omega) (HG.out _ hkW.1) (by intro x hx; simp at hx; subst hx; simp) (Nat.le_trans hBs hbW.size)
 rw [show prtL [(⟨6, [], 0, 0⟩ : Tok)] = [10] from rfl] at hput
 have HKW := Lib.hid hkW
 clear hti hbW hBs hkW
 go_wp2_with fail
 rw [← hW]
 refine hput.mono ?_
 rintro e w3 (⟨a1, a2, rfl, a3, a4⟩ | ⟨a1, rfl, a2⟩)
 ·have HA := Lib.hid (And.intro a1 (And.intro a2 (And.intro a3 (HKW.out.trans a4))))
  clear a1 a2 a3 a4 hput
  go_wp2
  go_end0
  exact .inl ⟨HA.out.1, HA.out.2.1, rfl, HA.out.2.2.1, HA.out.2.2.2⟩
 ·exact ⟨rfl, .inr ⟨a1, rfl, HKW.out.1.trans a2⟩⟩
end Go.Proofs.YthaibekbefndlaaGreatDoor.C
