/-
  Joined: LfA, LfB, LfC, LfD, LfE. Each with what its own head says.
-/
import Derived.Test.YthaibekbefndlaaGreatDoorH20

namespace Go.Proofs.YthaibekbefndlaaGreatDoor.C
open Go.RowKit

def tkR (T : Nat) : Nat → Option Value := fun i => if i = 3 then some (.int .i64 T) else none
def PW (w : World) (B P : Nat) (S : List UInt8) (T : Nat) : Prop := LibA.IsBuffer 73 (tkR T) 5 B P 0 (Lib.byteCells S) w
def Kp (B P : Nat) (w w' : World) : Prop := Below B w w' ∧ Lib.OthersKept 5 (some P) w w'
theorem Kp.refl (B P : Nat) (w : World) : Kp B P w w := ⟨Below.refl _ _, Lib.OthersKept.refl _ _ _⟩
theorem Kp.trans {B P : Nat} {w w' w'' : World} (h : Kp B P w w') (k : Kp B P w' w'') : Kp B P w w'' := ⟨h.1.trans k.1, h.2.trans k.2⟩
theorem Kp.of_below {B P : Nat} {w w' : World} (h : Below w.heap.size w w') (hB : B ≤ w.heap.size) : Kp B P w w' := ⟨h.mono hB, (Lib.OthersKept.refl _ _ _).below h⟩
theorem byteCells_take (S : List UInt8) (n : Nat) : Lib.byteCells (S.take n) = (Lib.byteCells S).take n := by simp [Lib.byteCells]

set_option maxRecDepth 100000 in
set_option maxHeartbeats 2000000 in
theorem truncate_any (w : World) (B P TT : Nat) (R : Nat → Option Value) (bs : List Value) (n : Nat) (h : LibA.IsBuffer TT R 5 B P 0 bs w) (h0 : 0 < n) (hn : n ≤ bs.length) :
  Calls Tryz.prog 141 #[.pointer (some ⟨P, 0, none⟩), .int .i64 n] w fun e w' => e = .returned (.tuple #[]) ∧ LibA.IsBuffer TT R 5 B P 0 (bs.take n) w' ∧ Kp B P w w' := by
 obtain ⟨hB, lr, ⟨h1, h2⟩ | ⟨g, cap, cur, hbk, hBg, hg, hnc, hcm, hcs, htk, hgb⟩⟩ := h.cases
 ·subst h1
  simp at hn
  omega
 have hlen := Tryz.Buffer_Len_at TT R B P 0 bs
 have hIB : ∀ W, W = w.setCell ⟨P, 2, none⟩ (.int .i8 0) → LibA.IsBuffer TT R 5 B P 0 bs W := fun W hW => by rw [hW]; exact h.setLast 0
 obtain ⟨W, hW⟩ : ∃ W, W = w.setCell ⟨P, 2, none⟩ (.int .i8 0) := ⟨_, rfl⟩
 have hl2 := hlen W (hIB W hW)
 have hbk2 : LibA.Three W P 0 TT R (.slice (some ⟨g, 0, none⟩) bs.length cap) (.int .i64 0) (.int .i8 0) := by rw [hW]; exact hbk.set2 _
 have hg2 : W.heap[g]? = some (.cells cur 5 (0, 0)) := by rw [hW, Below.heap_setCell _ _ _ _ hgb]; exact hg
 have f0 : w.frozen? ⟨P, 2, none⟩ = false := hbk.f 2
 have c2 : w.cell? ⟨P, 2, none⟩ = some (.int .i8 lr) := hbk.c2
 have i0 : (0 : Int) < (n : Int) := by omega
 have i1 : ¬ (n : Int) < 0 := by omega
 have i2 : ¬ (bs.length : Int) < (n : Int) := by omega
 have i3 : ((n : Int) == 0) = false := beq_eq_false_iff_ne.2 (by omega)
 have hm : cap ≤ 9223372036854775807 := hcm
 have i4 : n ≤ cap := by omega
 have HBK := Lib.hid hbk2
 have HG := Lib.hid hg2
 have HB := Lib.hid hB
 have HCS := Lib.hid hcs
 have HTK := Lib.hid htk
 have HBG := Lib.hid hBg
 clear h hlen hIB hbk hg hbk2 hg2 hcs htk
 go_enter Tryz.func141, Tryz.ntmps141
 go_wp2_with fail
 rw [← hW]
 refine hl2.mono ?_
 rintro e w2 ⟨rfl, k, rfl⟩
 have HWE := Lib.hid hW
 clear hl2 hW
 have c0 : (W.drewN k).cell? ⟨P, 0, none⟩ = some (.slice (some ⟨g, 0, none⟩) bs.length cap) := HBK.out.c0
 have c1 : (W.drewN k).cell? ⟨P, 1, none⟩ = some (.int .i64 0) := HBK.out.c1
 have f1 : (W.drewN k).frozen? ⟨P, 0, none⟩ = false := HBK.out.f 0
 go_wp2
 refine wp_region_E (S := fun W' : World => W'.cell? ⟨P, 0, none⟩ = some (.slice (some ⟨g, 0, none⟩) bs.length cap) ∧ W'.cell? ⟨P, 1, none⟩ = some (.int .i64 0)) (L := 14) (by kernel_rfl) ?_
 have hwr : IntKind.i64.wrap (n : Int) = (n : Int) := by rw [IntKind.wrap_i64]; omega
 have i5 : (n : Int) ≤ (cap : Int) := by omega
 have hS1 : (fun W' : World => W'.cell? ⟨P, 0, none⟩ = some (.slice (some ⟨g, 0, none⟩) bs.length cap) ∧ W'.cell? ⟨P, 1, none⟩ = some (.int .i64 0)) (W.drewN k).drew := ⟨c0, c1⟩
 refine wpAnyE_take (i := 0) (oi := ?oi0) (v := ?v0) ?hi0 (by kernel_rfl) (by kernel_rfl) (by kernel_rfl) (by kernel_rfl) ?hq0 (Or.inl ⟨?hw0, ?hy0⟩) (by assumption) ?rest0
 case hi0 => exact rfl
 case hq0 => exact fun _ _ _ h => h
 case hw0 => rfl
 case hy0 => (intro x hx; (try dsimp only at hx); simp only [List.getElem_toArray, List.getElem_cons_zero]; go_split_ands; go_simp; try with_reducible rfl)
 try simp only [Act.put, List.setIfInBounds_toArray, List.set_cons_zero, List.set_cons_succ, List.getElem_toArray, List.getElem_cons_zero]
 refine wpAnyE_take (i := 1) (oi := ?oi1) (v := ?v1) ?hi1 (by kernel_rfl) (by kernel_rfl) (by kernel_rfl) (by kernel_rfl) ?hq1 (Or.inl ⟨?hw1, ?hy1⟩) (by assumption) ?rest1
 case hi1 => exact rfl
 case hq1 => exact fun _ _ _ h => h
 case hw1 => rfl
 case hy1 => (intro x hx; (try dsimp only at hx); simp only [List.getElem_toArray, List.getElem_cons_succ, List.getElem_cons_zero]; go_split_ands; go_simp; try with_reducible rfl)
 try simp only [Act.put, List.setIfInBounds_toArray, List.set_cons_zero, List.set_cons_succ, List.getElem_toArray, List.getElem_cons_succ, List.getElem_cons_zero]
 refine wpAnyE_take (i := 2) (oi := ?oi2) (v := ?v2) ?hi2 (by kernel_rfl) (by kernel_rfl) (by kernel_rfl) (by kernel_rfl) ?hq2 (Or.inl ⟨?hw2, ?hy2⟩) (by assumption) ?rest2
 case hi2 => exact rfl
 case hq2 => exact fun _ _ _ h => h
 case hw2 => rfl
 case hy2 => (intro x hx; (try dsimp only at hx); simp only [List.getElem_toArray, List.getElem_cons_succ, List.getElem_cons_zero]; go_split_ands; go_simp; try with_reducible rfl)
 try simp only [Act.put, List.setIfInBounds_toArray, List.set_cons_zero, List.set_cons_succ, List.getElem_toArray, List.getElem_cons_succ, List.getElem_cons_zero]
 refine wpAnyE_take (i := 3) (oi := ?oi3) (v := ?v3) ?hi3 (by kernel_rfl) (by kernel_rfl) (by kernel_rfl) (by kernel_rfl) ?hq3 (Or.inl ⟨?hw3, ?hy3⟩) (by assumption) ?rest3
 case hi3 => exact rfl
 case hq3 => exact fun _ _ _ h => h
 case hw3 => rfl
 case hy3 => (intro x hx; (try dsimp only at hx); simp only [List.getElem_toArray, List.getElem_cons_succ, List.getElem_cons_zero]; go_split_ands; go_simp; try with_reducible rfl)
 try simp only [Act.put, List.setIfInBounds_toArray, List.set_cons_zero, List.set_cons_succ, List.getElem_toArray, List.getElem_cons_succ, List.getElem_cons_zero]
 refine wpAnyE_take (i := 4) (oi := ?oi4) (v := ?v4) ?hi4 (by kernel_rfl) (by kernel_rfl) (by kernel_rfl) (by kernel_rfl) ?hq4 (Or.inl ⟨?hw4, ?hy4⟩) (by assumption) ?rest4
 case hi4 => exact rfl
 case hq4 => exact fun _ _ _ h => h
 case hw4 => rfl
 case hy4 => (intro x hx; (try dsimp only at hx); simp only [List.getElem_toArray, List.getElem_cons_succ, List.getElem_cons_zero]; go_split_ands; go_simp; try with_reducible rfl)
 try simp only [Act.put, List.setIfInBounds_toArray, List.set_cons_zero, List.set_cons_succ, List.getElem_toArray, List.getElem_cons_succ, List.getElem_cons_zero]
 refine wpAnyE_take (i := 5) (oi := ?oi5) (v := ?v5) ?hi5 (by kernel_rfl) (by kernel_rfl) (by kernel_rfl) (by kernel_rfl) ?hq5 (Or.inl ⟨?hw5, ?hy5⟩) (by assumption) ?rest5
 case hi5 => exact rfl
 case hq5 => exact fun _ _ _ h => h
 case hw5 => rfl
 case hy5 => (intro x hx; (try dsimp only at hx); simp only [List.getElem_toArray, List.getElem_cons_succ, List.getElem_cons_zero]; go_split_ands; go_simp; try with_reducible rfl)
 try simp only [Act.put, List.setIfInBounds_toArray, List.set_cons_zero, List.set_cons_succ, List.getElem_toArray, List.getElem_cons_succ, List.getElem_cons_zero]
 refine wpAnyE_take (i := 6) (oi := ?oi6) (v := ?v6) ?hi6 (by kernel_rfl) (by kernel_rfl) (by kernel_rfl) (by kernel_rfl) ?hq6 (Or.inl ⟨?hw6, ?hy6⟩) (by assumption) ?rest6
 case hi6 => exact rfl
 case hq6 => exact fun _ _ _ h => h
 case hw6 => rfl
 case hy6 => (intro x hx; (try dsimp only at hx); simp only [List.getElem_toArray, List.getElem_cons_succ, List.getElem_cons_zero]; go_split_ands; go_simp; try with_reducible rfl)
 try simp only [Act.put, List.setIfInBounds_toArray, List.set_cons_zero, List.set_cons_succ, List.getElem_toArray, List.getElem_cons_succ, List.getElem_cons_zero]
 refine wpAnyE_take (i := 7) (oi := ?oi7) (v := ?v7) ?hi7 (by kernel_rfl) (by kernel_rfl) (by kernel_rfl) (by kernel_rfl) ?hq7 (Or.inl ⟨?hw7, ?hy7⟩) (by assumption) ?rest7
 case hi7 => exact rfl
 case hq7 => exact fun _ _ _ h => h
 case hw7 => rfl
 case hy7 => (intro x hx; (try dsimp only at hx); simp only [List.getElem_toArray, List.getElem_cons_succ, List.getElem_cons_zero]; go_split_ands; go_simp; try with_reducible rfl)
 try simp only [Act.put, List.setIfInBounds_toArray, List.set_cons_zero, List.set_cons_succ, List.getElem_toArray, List.getElem_cons_succ, List.getElem_cons_zero]
 refine wpAnyE_take (i := 8) (oi := ?oi8) (v := ?v8) ?hi8 (by kernel_rfl) (by kernel_rfl) (by kernel_rfl) (by kernel_rfl) ?hq8 (Or.inl ⟨?hw8, ?hy8⟩) (by assumption) ?rest8
 case hi8 => exact rfl
 case hq8 => exact fun _ _ _ h => h
 case hw8 => rfl
 case hy8 => (intro x hx; (try dsimp only at hx); simp only [List.getElem_toArray, List.getElem_cons_succ, List.getElem_cons_zero]; go_split_ands; go_simp; try with_reducible rfl)
 try simp only [Act.put, List.setIfInBounds_toArray, List.set_cons_zero, List.set_cons_succ, List.getElem_toArray, List.getElem_cons_succ, List.getElem_cons_zero]
 refine wpAnyE_take (i := 9) (oi := ?oi9) (v := ?v9) ?hi9 (by kernel_rfl) (by kernel_rfl) (by kernel_rfl) (by kernel_rfl) ?hq9 (Or.inl ⟨?hw9, ?hy9⟩) (by assumption) ?rest9
 case hi9 => exact rfl
 case hq9 => exact fun _ _ _ h => h
 case hw9 => rfl
 case hy9 => (intro x hx; (try dsimp only at hx); simp only [List.getElem_toArray, List.getElem_cons_succ, List.getElem_cons_zero]; go_split_ands; go_simp; try with_reducible rfl)
 try simp only [Act.put, List.setIfInBounds_toArray, List.set_cons_zero, List.set_cons_succ, List.getElem_toArray, List.getElem_cons_succ, List.getElem_cons_zero]
 refine wpAnyE_take (i := 10) (oi := ?oi10) (v := ?v10) ?hi10 (by kernel_rfl) (by kernel_rfl) (by kernel_rfl) (by kernel_rfl) ?hq10 (Or.inl ⟨?hw10, ?hy10⟩) (by assumption) ?rest10
 case hi10 => exact rfl
 case hq10 => exact fun _ _ _ h => h
 case hw10 => rfl
 case hy10 => (intro x hx; (try dsimp only at hx); simp only [List.getElem_toArray, List.getElem_cons_succ, List.getElem_cons_zero]; go_split_ands; go_simp; try with_reducible rfl)
 try simp only [Act.put, List.setIfInBounds_toArray, List.set_cons_zero, List.set_cons_succ, List.getElem_toArray, List.getElem_cons_succ, List.getElem_cons_zero]
 refine wpAnyE_take (i := 11) (oi := ?oi11) (v := ?v11) ?hi11 (by kernel_rfl) (by kernel_rfl) (by kernel_rfl) (by kernel_rfl) ?hq11 (Or.inl ⟨?hw11, ?hy11⟩) (by assumption) ?rest11
 case hi11 => exact rfl
 case hq11 => exact fun _ _ _ h => h
 case hw11 => rfl
 case hy11 => (intro x hx; (try dsimp only at hx); simp only [List.getElem_toArray, List.getElem_cons_succ, List.getElem_cons_zero]; go_split_ands; go_simp; try with_reducible rfl)
 try simp only [Act.put, List.setIfInBounds_toArray, List.set_cons_zero, List.set_cons_succ, List.getElem_toArray, List.getElem_cons_succ, List.getElem_cons_zero]
 refine wpAnyE_one (i := 12) (by kernel_rfl) rfl (fun K hK => ?_)
 simp only [List.getElem_toArray, List.getElem_cons_succ, List.getElem_cons_zero]
 go_simp
 refine hK.out _ _ (fun _ => hS1) (fun hS => ?_)
 replace hS := hS (by decide)
 refine wpAnyE_take (i := 13) (oi := ?oi13) (v := ?v13) ?hi13 (by kernel_rfl) (by kernel_rfl) (by kernel_rfl) (by kernel_rfl) ?hq13 (Or.inl ⟨?hw13, ?hy13⟩) (by assumption) ?rest13
 case hi13 => exact rfl
 case hq13 => exact fun _ _ _ h => h
 case hw13 => rfl
 case hy13 => (intro x hx; (try dsimp only at hx); simp only [List.getElem_toArray, List.getElem_cons_succ, List.getElem_cons_zero]; go_split_ands; go_simp; try with_reducible rfl)
 try simp only [Act.put, List.setIfInBounds_toArray, List.set_cons_zero, List.set_cons_succ, List.getElem_toArray, List.getElem_cons_succ, List.getElem_cons_zero]
 refine wpAnyE_one (i := 14) (by kernel_rfl) rfl (fun K hK => ?_)
 have c00 : W.cell? ⟨P, 0, none⟩ = some (.slice (some ⟨g, 0, none⟩) bs.length cap) := c0
 have f00 : W.frozen? ⟨P, 0, none⟩ = false := f1
 simp only [List.getElem_toArray, List.getElem_cons_succ, List.getElem_cons_zero]
 go_simp
 refine hK.out _ _ (fun h => absurd rfl h) (fun _ => ?_)
 refine wpAnyE_done (by kernel_rfl) ?_ _
 have hend := LibA.isBuffer_mk (T := TT) (R := R) (e := 5) (o := 0) (lr := 0) HB.out ((show LibA.Three (W.drewN (k + 1)) P 0 TT R (.slice (some ⟨g, 0, none⟩) bs.length cap) (.int .i64 0) (.int .i8 0) from HBK.out).set0 (.slice (some ⟨g, 0, none⟩) n cap)) HBG.out (by rw [Below.heap_setCell _ _ _ _ hgb]; exact HG.out) i4 hcm HCS.out hgb
 have htn : bs.take n = cur.toList.take n := by
  conv => lhs; rw [← HTK.out]
  rw [List.take_take, Nat.min_eq_left hn]
 rw [← htn] at hend
 have hkp : Kp B P w ((W.drewN (k + 1)).setCell ⟨P, 0, none⟩ (.slice (some ⟨g, 0, none⟩) n cap)) := by
  rw [HWE.out]
  have hb0 := (Below.refl B w).setCell (p := ⟨P, 2, none⟩) HB.out (.int .i8 0)
  exact ⟨(show Below B w ((w.setCell ⟨P, 2, none⟩ (.int .i8 0)).drewN (k + 1)) from ⟨hb0.os, hb0.tape, hb0.output, hb0.size, hb0.block⟩).setCell (p := ⟨P, 0, none⟩) HB.out _, (((Lib.OthersKept.refl _ _ _).setCell ⟨P, 2, none⟩ rfl _).drewN (k + 1)).setCell ⟨P, 0, none⟩ rfl _⟩
 go_end0
 exact ⟨rfl, hend, hkp⟩
end Go.Proofs.YthaibekbefndlaaGreatDoor.C

namespace Go.Proofs.YthaibekbefndlaaGreatDoor.C
open Go.RowKit

theorem PW.rest {w : World} {B P T : Nat} {S : List UInt8} (h : PW w B P S T) : w.cell? ⟨P, 3, none⟩ = some (.int .i64 T) := LibA.IsBuffer.rest h 3 (.inr (by omega))
theorem PW.lt {w : World} {B P T : Nat} {S : List UInt8} (h : PW w B P S T) : P < w.heap.size := LibA.IsBuffer.lt h
theorem PW.le {w : World} {B P T : Nat} {S : List UInt8} (h : PW w B P S T) : B ≤ P := h.1
theorem PW.old {w w' : World} {B P T : Nat} {S : List UInt8} (h : PW w B P S T) (hb : Below w.heap.size w w') : PW w' B P S T := LibA.IsBuffer.old h hb
theorem PW.count {w : World} {B P T : Nat} {S : List UInt8} (h : PW w B P S T) (T' : Nat) : PW (w.setCell ⟨P, 3, none⟩ (.int .i64 T')) B P S T' := by
 have h1 := LibA.IsBuffer.setOther h 3 (.inr (by omega)) (old := .int .i64 T) rfl (.int .i64 T')
 have he : (fun j => if j = 3 then some (Value.int .i64 T') else tkR T j) = tkR T' := by
  funext j
  unfold tkR
  by_cases hj : j = 3
  ·rw [if_pos hj, if_pos hj]
  ·rw [if_neg hj, if_neg hj, if_neg hj]
 rw [he] at h1
 exact h1
theorem Kp.set {B P : Nat} {w w' : World} (h : Kp B P w w') (hB : B ≤ P) (i : Nat) (v : Value) : Kp B P w (w'.setCell ⟨P, i, none⟩ v) := ⟨h.1.setCell (p := ⟨P, i, none⟩) hB _, h.2.setCell ⟨P, i, none⟩ rfl _⟩
theorem Kp.size {B P : Nat} {w w' : World} (h : Kp B P w w') : w.heap.size ≤ w'.heap.size := h.1.size
def longV : List PanicEntry := [{ v := .iface 28 (.int .u16 3), recovered := false }]
def PutTold (w : World) (B P : Nat) (S : List UInt8) (T : Nat) (e : Ending) (w' : World) : Prop :=
 (S.length ≤ 4000 ∧ T ≤ 1000 ∧ e = .returned (.tuple #[]) ∧ PW w' B P S T ∧ Kp B P w w') ∨ (¬ (S.length ≤ 4000 ∧ T ≤ 1000) ∧ e = .panicked longV ∧ Below B w w')
def Printable (ts : List Tok) : Prop := ∀ x ∈ ts, x.t.length ≤ 5000 ∧ x.n < 1048576 * 1048576

set_option maxRecDepth 100000 in
set_option maxHeartbeats 2000000 in
theorem put_any (w : World) (B P T n c : Nat) (A : Option Addr) (S : List UInt8) (ts : List Tok) (B' : Nat) (h : PW w B P S T) (ht : TI w B' A n ts) (hB' : B' ≤ w.heap.size) (hS : S.length ≤ 4000) (hT : T ≤ 1000) (hn : n ≤ 5000) (hG : Gl w) (hok : Printable ts) (hB : B ≤ w.heap.size) :
  Calls Tryz.prog 81 #[.pointer (some ⟨P, 0, none⟩), .slice A n c] w (PutTold w B P (S ++ prtL ts) (T + ts.length)) := by
 have hl := ht.len
 have hpr := print_any w.drew B' A n c ts ht hB' hG hn hok
 have hlen := prtL_len ts hok
 have hszP : (str (prtL ts)).size = (prtL ts).length := rfl
 have hbl : (Lib.byteCells S).length = S.length := Lib.byteCells_length S
 obtain ⟨T', hT'⟩ : ∃ T' : Nat, T' = T + ts.length := ⟨_, rfl⟩
 have hTi : (T : Int) + (n : Int) = (T' : Int) := by omega
 obtain ⟨S', hS'⟩ : ∃ S', S' = S ++ prtL ts := ⟨_, rfl⟩
 rw [← hT', ← hS']
 have hSl : S'.length ≤ 4000 + 5020 * 5000 := by
  rw [hS', List.length_append]
  omega
 have hTl : T' ≤ 6000 := by omega
 have HS := Lib.hid hS'
 clear hT' hS'
 have HH := Lib.hid h
 have HB := Lib.hid hB
 have HBP := Lib.hid h.le
 have HL := Lib.hid hlen
 have HN := Lib.hid hl
 clear h ht hok hG hlen
 go_enter Tryz.func81, Tryz.ntmps81
 go_wp2
 refine wp_region_held (S := fun _ : World => True) (by kernel_rfl) ?_
 change wpAnyH _ _ _ _ _ _ _ _ w.drew
 have hS1 : (fun _ : World => True) w.drew := trivial
 refine wpAnyH_take (i := 0) (oi := ?oi0) (v := ?v0) ?hi0 (by kernel_rfl) (by kernel_rfl) (by kernel_rfl) ?hq0 (Or.inl ⟨?hw0, ?hy0⟩) (by assumption) ?rest0
 case hi0 => exact rfl
 case hq0 => exact fun _ _ _ h => h
 case hw0 => rfl
 case hy0 => (intro x hx; (try dsimp only at hx); simp only [List.getElem_toArray, List.getElem_cons_zero]; go_split_ands; go_simp; try with_reducible rfl)
 try simp only [Act.put, List.setIfInBounds_toArray, List.set_cons_zero, List.set_cons_succ, List.getElem_toArray, List.getElem_cons_zero]
 refine wpAnyH_take (i := 1) (oi := ?oi1) (v := ?v1) ?hi1 (by kernel_rfl) (by kernel_rfl) (by kernel_rfl) ?hq1 (Or.inl ⟨?hw1, ?hy1⟩) (by assumption) ?rest1
 case hi1 => exact rfl
 case hq1 => exact fun _ _ _ h => h
 case hw1 => rfl
 case hy1 => (intro x hx; (try dsimp only at hx); simp only [List.getElem_toArray, List.getElem_cons_succ, List.getElem_cons_zero]; go_split_ands; go_simp; try with_reducible rfl)
 try simp only [Act.put, List.setIfInBounds_toArray, List.set_cons_zero, List.set_cons_succ, List.getElem_toArray, List.getElem_cons_succ, List.getElem_cons_zero]
 refine wpAnyH_take (i := 2) (oi := ?oi2) (v := ?v2) ?hi2 (by kernel_rfl) (by kernel_rfl) (by kernel_rfl) ?hq2 (Or.inl ⟨?hw2, ?hy2⟩) (by assumption) ?rest2
 case hi2 => exact rfl
 case hq2 => exact fun _ _ _ h => h
 case hw2 => rfl
 case hy2 => (intro x hx; (try dsimp only at hx); simp only [List.getElem_toArray, List.getElem_cons_succ, List.getElem_cons_zero]; go_split_ands; go_simp; try with_reducible rfl)
 try simp only [Act.put, List.setIfInBounds_toArray, List.set_cons_zero, List.set_cons_succ, List.getElem_toArray, List.getElem_cons_succ, List.getElem_cons_zero]
 refine wpAnyH_take (i := 3) (oi := ?oi3) (v := ?v3) ?hi3 (by kernel_rfl) (by kernel_rfl) (by kernel_rfl) ?hq3 (Or.inl ⟨?hw3, ?hy3⟩) (by assumption) ?rest3
 case hi3 => exact rfl
 case hq3 => exact fun _ _ _ h => h
 case hw3 => rfl
 case hy3 => (intro x hx; (try dsimp only at hx); simp only [List.getElem_toArray, List.getElem_cons_succ, List.getElem_cons_zero]; go_split_ands; go_simp; try with_reducible rfl)
 try simp only [Act.put, List.setIfInBounds_toArray, List.set_cons_zero, List.set_cons_succ, List.getElem_toArray, List.getElem_cons_succ, List.getElem_cons_zero]
 refine wpAnyH_one (i := 4) (by kernel_rfl) rfl (fun K hK => ?_)
 simp only [List.getElem_toArray, List.getElem_cons_succ, List.getElem_cons_zero]
 go_simp
 go_at_call 139
 with_reducible refine hpr.mono ?_
 rintro e w1 ⟨rfl, hb1⟩
 refine hK.out _ _ trivial (fun _ => ?_)
 have hb1' : Below w.heap.size w w1 := ⟨hb1.os, hb1.tape, hb1.output, hb1.size, hb1.block⟩
 have hP1 := HH.out.old hb1'
 have hwr := Tryz.Buffer_WriteString_at 73 (tkR T) B P 0 (Lib.byteCells S) (str (prtL ts)) w1 hP1 (Nat.le_trans HB.out hb1'.size) (Lib.byteCells_one _) (by rw [hbl, hszP]; have := HL.out; omega)
 have hk1 := Kp.of_below (P := P) hb1' HB.out
 have HK1 := Lib.hid hk1
 clear hb1 hb1' hP1 hpr hk1 hszP
 refine wpAnyH_one (i := 5) (by kernel_rfl) rfl (fun K hK => ?_)
 simp only [List.getElem_toArray, List.getElem_cons_succ, List.getElem_cons_zero]
 go_simp
 go_at_call 138
 with_reducible refine hwr.mono ?_
 rintro e w2 ⟨rfl, hib, hb2, ho2⟩
 refine hK.out _ _ trivial (fun _ => ?_)
 refine ⟨by kernel_rfl, ?_⟩
 rw [str_list, ← Lib.byteCells_append] at hib
 have hp2 : PW w2 B P (S ++ prtL ts) T := hib
 have hk2 : Kp B P w w2 := HK1.out.trans ⟨hb2, ho2⟩
 rw [← HS.out] at hp2
 have q3 := hp2.rest
 have f3 : w2.frozen? ⟨P, 3, none⟩ = false := LibA.IsBuffer.notFrozen hp2 3
 obtain ⟨W3, hW3⟩ : ∃ W3, W3 = w2.setCell ⟨P, 3, none⟩ (.int .i64 T') := ⟨_, rfl⟩
 have hp3 : PW W3 B P S' T' := by rw [hW3]; exact hp2.count T'
 have hk3 : Kp B P w W3 := by rw [hW3]; exact hk2.set HBP.out 3 _
 have hln := Tryz.Buffer_Len_at 73 (tkR T') B P 0 (Lib.byteCells S') W3 hp3
 rw [Lib.byteCells_length] at hln
 have HP3 := Lib.hid hp3
 have HK3 := Lib.hid hk3
 clear hp2 hk2 hib hb2 ho2 hwr hbl HK1 hp3 hk3
 go_wp2_with fail
 rw [← hW3]
 refine hln.mono ?_
 rintro e w4 ⟨rfl, k, rfl⟩
 have q4 : (W3.drewN k).cell? ⟨P, 3, none⟩ = some (.int .i64 T') := HP3.out.rest
 have hk4 : Kp B P w (W3.drewN k) := ⟨⟨HK3.out.1.os, HK3.out.1.tape, HK3.out.1.output, HK3.out.1.size, HK3.out.1.block⟩, HK3.out.2.drewN k⟩
 have HK4 := Lib.hid hk4
 have HW3 := Lib.hid hW3
 clear hln hW3 q3 f3 hk4
 by_cases h4 : 4000 < S'.length
 ·have i4 : (4000 : Int) < (S'.length : Int) := by omega
  have HX : Hid (¬ (S'.length ≤ 4000 ∧ T' ≤ 1000)) := Lib.hid (fun h => by omega)
  clear h4
  go_wp2
  exact ⟨rfl, .inr ⟨HX.out, rfl, HK4.out.1⟩⟩
 ·by_cases h5 : 1000 < T'
  ·have i4 : ¬ (4000 : Int) < (S'.length : Int) := by omega
   have i5 : (1000 : Int) < (T' : Int) := by omega
   have HX : Hid (¬ (S'.length ≤ 4000 ∧ T' ≤ 1000)) := Lib.hid (fun h => by omega)
   clear h4 h5
   go_wp2
   exact ⟨rfl, .inr ⟨HX.out, rfl, HK4.out.1⟩⟩
  ·have i4 : ¬ (4000 : Int) < (S'.length : Int) := by omega
   have i5 : ¬ (1000 : Int) < (T' : Int) := by omega
   have HX : Hid (S'.length ≤ 4000 ∧ T' ≤ 1000) := Lib.hid (by omega)
   clear h4 h5
   go_wp2
   go_end0
   exact .inl ⟨HX.out.1, HX.out.2, rfl, HP3.out.drewN k, HK4.out⟩
end Go.Proofs.YthaibekbefndlaaGreatDoor.C

namespace Go.Proofs.YthaibekbefndlaaGreatDoor.C
open Go.RowKit

theorem flat_tk : ∀ (ts : List Tok) (j : Nat) (x : Tok), ts[j]? = some x → ∀ i u, (tkC x)[i]? = some u → (ts.flatMap tkC)[j * 4 + i]? = some u
 | [], j, x, h, _, _, _ => by simp at h
 | a :: r, 0, x, h, i, u, hu => by
  simp at h
  subst h
  rw [List.flatMap_cons, Nat.zero_mul, Nat.zero_add, List.getElem?_append_left (List.getElem?_eq_some_iff.1 hu).1]
  exact hu
 | a :: r, j + 1, x, h, i, u, hu => by
  have h' : r[j]? = some x := by simpa using h
  have hl : (tkC a).length = 4 := rfl
  rw [List.flatMap_cons, List.getElem?_append_right (by omega), hl, show (j + 1) * 4 + i - 4 = j * 4 + i by omega]
  exact flat_tk r j x h' i u hu
theorem TI.many (w : World) (ts : List Tok) (cs : Array Value) (hc : cs.toList = ts.flatMap tkC) : TI (w.alloc (.cells cs 92)) (w.heap.size + 1) (some ⟨w.heap.size, 0, none⟩) ts.length ts :=
 ⟨rfl, fun _ => ⟨_, rfl, Nat.lt_succ_self _, fun j y hy i u hu => by
  rw [add_off0, World.cell?_alloc_new, ← Array.getElem?_toList, hc]
  exact flat_tk ts j y hy i u hu⟩⟩

set_option maxHeartbeats 1000000 in
theorem word_any (w : World) (s : ByteArray) : Calls Tryz.prog 82 #[.string s] w fun e w' => e = .returned (.agg #[.int .u8 1, .string s, .int .i64 0, .int .i64 0]) ∧ Below w.heap.size w w' := by
 go_enter Tryz.func82, Tryz.ntmps82
 go_wp2
 refine bodyPost_ret (v := .agg #[.int .u8 1, .string s, .int .i64 0, .int .i64 0]) (by simp [results, Tryz.results82, go_sem, *]) rfl ?_
 exact ⟨rfl, (Below.refl _ _).alloc (Nat.le_refl _) _⟩
set_option maxHeartbeats 1000000 in
theorem sign_any7 (w : World) (s : ByteArray) : Calls Tryz.prog 86 #[.string s] w fun e w' => e = .returned (.agg #[.int .u8 2, .string s, .int .i64 0, .int .i64 0]) ∧ Below w.heap.size w w' := by
 go_enter Tryz.func86, Tryz.ntmps86
 go_wp2
 refine bodyPost_ret (v := .agg #[.int .u8 2, .string s, .int .i64 0, .int .i64 0]) (by simp [results, Tryz.results86, go_sem, *]) rfl ?_
 exact ⟨rfl, (Below.refl _ _).alloc (Nat.le_refl _) _⟩
set_option maxHeartbeats 1000000 in
theorem scalar_any7 (w : World) (c : Int) (h0 : -2147483648 ≤ c) (h1 : c ≤ 2147483647) : Calls Tryz.prog 85 #[.int .i32 c] w fun e w' => e = .returned (.agg #[.int .u8 3, .string ⟨#[]⟩, .int .i64 c, .int .i64 0]) ∧ Below w.heap.size w w' := by
 go_enter Tryz.func85, Tryz.ntmps85
 go_wp2
 refine bodyPost_ret (v := .agg #[.int .u8 3, .string ⟨#[]⟩, .int .i64 c, .int .i64 0]) (by simp [results, Tryz.results85, go_sem, *]) rfl ?_
 exact ⟨rfl, (Below.refl _ _).alloc (Nat.le_refl _) _⟩
set_option maxRecDepth 100000 in
set_option maxHeartbeats 2000000 in
theorem putEnd_any (w : World) (B P T : Nat) (S : List UInt8) (h : PW w B P S T) (h2 : 2 ≤ S.length) (hS : S.length ≤ 4000) (hT : T ≤ 1000) (hG : ∀ w', Below B w w' → Gl w') (hB : B ≤ w.heap.size) :
  Calls Tryz.prog 87 #[.pointer (some ⟨P, 0, none⟩)] w (PutTold w B P (S.dropLast ++ [10]) (T + 1)) := by
 have hln := fun k => Tryz.Buffer_Len_at 73 (tkR T) B P 0 (Lib.byteCells S) (w.drewN k) h
 have hln0 := Tryz.Buffer_Len_at 73 (tkR T) B P 0 (Lib.byteCells S) w.drew h
 rw [Lib.byteCells_length] at hln0
 obtain ⟨m, hm⟩ : ∃ m : Nat, (S.length : Int) - 1 = (m : Int) := ⟨S.length - 1, by omega⟩
 have hm0 : 0 < m := by omega
 have hmS : m + 1 = S.length := by omega
 have htr := fun k => truncate_any (w.drewN k) B P 73 (tkR T) (Lib.byteCells S) m h hm0 (by rw [Lib.byteCells_length]; omega)
 have hdl : S.take m = S.dropLast := by rw [List.dropLast_eq_take]; congr 1; omega
 have hwr : IntKind.i64.wrap (m : Int) = (m : Int) := by rw [IntKind.wrap_i64]; omega
 have HG := Lib.hid hG
 have HD := Lib.hid hdl
 have HBW := Lib.hid hB
 clear hG hln h hdl
 go_enter Tryz.func87, Tryz.ntmps87
 go_wp2
 refine wp_region_held (S := fun _ : World => True) (by kernel_rfl) ?_
 change wpAnyH _ _ _ _ _ _ _ _ w.drew
 have hS1 : (fun _ : World => True) w.drew := trivial
 refine wpAnyH_take (i := 0) (oi := ?oi0) (v := ?v0) ?hi0 (by kernel_rfl) (by kernel_rfl) (by kernel_rfl) ?hq0 (Or.inl ⟨?hw0, ?hy0⟩) (by assumption) ?rest0
 case hi0 => exact rfl
 case hq0 => exact fun _ _ _ h => h
 case hw0 => rfl
 case hy0 => (intro x hx; (try dsimp only at hx); simp only [List.getElem_toArray, List.getElem_cons_zero]; go_split_ands; go_simp; try with_reducible rfl)
 try simp only [Act.put, List.setIfInBounds_toArray, List.set_cons_zero, List.set_cons_succ, List.getElem_toArray, List.getElem_cons_zero]
 refine wpAnyH_take (i := 1) (oi := ?oi1) (v := ?v1) ?hi1 (by kernel_rfl) (by kernel_rfl) (by kernel_rfl) ?hq1 (Or.inl ⟨?hw1, ?hy1⟩) (by assumption) ?rest1
 case hi1 => exact rfl
 case hq1 => exact fun _ _ _ h => h
 case hw1 => rfl
 case hy1 => (intro x hx; (try dsimp only at hx); simp only [List.getElem_toArray, List.getElem_cons_succ, List.getElem_cons_zero]; go_split_ands; go_simp; try with_reducible rfl)
 try simp only [Act.put, List.setIfInBounds_toArray, List.set_cons_zero, List.set_cons_succ, List.getElem_toArray, List.getElem_cons_succ, List.getElem_cons_zero]
 refine wpAnyH_take (i := 2) (oi := ?oi2) (v := ?v2) ?hi2 (by kernel_rfl) (by kernel_rfl) (by kernel_rfl) ?hq2 (Or.inl ⟨?hw2, ?hy2⟩) (by assumption) ?rest2
 case hi2 => exact rfl
 case hq2 => exact fun _ _ _ h => h
 case hw2 => rfl
 case hy2 => (intro x hx; (try dsimp only at hx); simp only [List.getElem_toArray, List.getElem_cons_succ, List.getElem_cons_zero]; go_split_ands; go_simp; try with_reducible rfl)
 try simp only [Act.put, List.setIfInBounds_toArray, List.set_cons_zero, List.set_cons_succ, List.getElem_toArray, List.getElem_cons_succ, List.getElem_cons_zero]
 refine wpAnyH_take (i := 3) (oi := ?oi3) (v := ?v3) ?hi3 (by kernel_rfl) (by kernel_rfl) (by kernel_rfl) ?hq3 (Or.inl ⟨?hw3, ?hy3⟩) (by assumption) ?rest3
 case hi3 => exact rfl
 case hq3 => exact fun _ _ _ h => h
 case hw3 => rfl
 case hy3 => (intro x hx; (try dsimp only at hx); simp only [List.getElem_toArray, List.getElem_cons_succ, List.getElem_cons_zero]; go_split_ands; go_simp; try with_reducible rfl)
 try simp only [Act.put, List.setIfInBounds_toArray, List.set_cons_zero, List.set_cons_succ, List.getElem_toArray, List.getElem_cons_succ, List.getElem_cons_zero]
 refine wpAnyH_take (i := 4) (oi := ?oi4) (v := ?v4) ?hi4 (by kernel_rfl) (by kernel_rfl) (by kernel_rfl) ?hq4 (Or.inl ⟨?hw4, ?hy4⟩) (by assumption) ?rest4
 case hi4 => exact rfl
 case hq4 => exact fun _ _ _ h => h
 case hw4 => rfl
 case hy4 => (intro x hx; (try dsimp only at hx); simp only [List.getElem_toArray, List.getElem_cons_succ, List.getElem_cons_zero]; go_split_ands; go_simp; try with_reducible rfl)
 try simp only [Act.put, List.setIfInBounds_toArray, List.set_cons_zero, List.set_cons_succ, List.getElem_toArray, List.getElem_cons_succ, List.getElem_cons_zero]
 refine wpAnyH_take (i := 5) (oi := ?oi5) (v := ?v5) ?hi5 (by kernel_rfl) (by kernel_rfl) (by kernel_rfl) ?hq5 (Or.inl ⟨?hw5, ?hy5⟩) (by assumption) ?rest5
 case hi5 => exact rfl
 case hq5 => exact fun _ _ _ h => h
 case hw5 => rfl
 case hy5 => (intro x hx; (try dsimp only at hx); simp only [List.getElem_toArray, List.getElem_cons_succ, List.getElem_cons_zero]; go_split_ands; go_simp; try with_reducible rfl)
 try simp only [Act.put, List.setIfInBounds_toArray, List.set_cons_zero, List.set_cons_succ, List.getElem_toArray, List.getElem_cons_succ, List.getElem_cons_zero]
 refine wpAnyH_one (i := 6) (by kernel_rfl) rfl (fun K hK => ?_)
 simp only [List.getElem_toArray, List.getElem_cons_succ, List.getElem_cons_zero]
 go_simp
 go_at_call 140
 with_reducible refine hln0.mono ?_
 rintro e w1 ⟨rfl, k, rfl⟩
 refine hK.out _ _ trivial (fun _ => ?_)
 have htr1 := htr (1 + k)
 clear hln0 htr
 refine wpAnyH_one (i := 7) (by kernel_rfl) rfl (fun K hK => ?_)
 simp only [List.getElem_toArray, List.getElem_cons_succ, List.getElem_cons_zero]
 go_simp
 refine hK.out _ _ trivial (fun _ => ?_)
 refine wpAnyH_one (i := 8) (by kernel_rfl) rfl (fun K hK => ?_)
 simp only [List.getElem_toArray, List.getElem_cons_succ, List.getElem_cons_zero]
 go_simp
 with_reducible refine htr1.mono ?_
 rintro e w2 ⟨rfl, hib, hk2⟩
 refine hK.out _ _ trivial (fun _ => ?_)
 refine ⟨by kernel_rfl, ?_⟩
 rw [← byteCells_take, HD.out] at hib
 have hp2 : PW w2 B P S.dropLast T := hib
 have hkp : Kp B P w w2 := Kp.trans (show Kp B P w (w.drewN (1 + k)) from ⟨⟨rfl, rfl, rfl, Nat.le_refl _, fun _ _ => rfl⟩, (Lib.OthersKept.refl _ _ w).drewN (1 + k)⟩) hk2
 have HP := Lib.hid hp2
 have HK2 := Lib.hid hkp
 clear htr1 hib hk2 hp2 hkp hwr hm
 obtain ⟨W, hW⟩ : ∃ W, W = w2.alloc (.cells #[.int .u8 6, .string ⟨#[]⟩, .int .i64 0, .int .i64 0] 92) := ⟨_, rfl⟩
 have hbW : Below w2.heap.size w2 W := by rw [hW]; exact (Below.refl _ _).alloc (Nat.le_refl _) _
 have hti : TI W (w2.heap.size + 1) (some ⟨w2.heap.size, 0, none⟩) 1 [⟨6, [], 0, 0⟩] := by rw [hW]; exact TI.many w2 [⟨6, [], 0, 0⟩] _ rfl
 have hBs : B ≤ w2.heap.size := Nat.le_trans HBW.out HK2.out.size
 have hkW : Kp B P w W := HK2.out.trans (Kp.of_below hbW hBs)
 have hput := put_any W B P T 1 1 _ S.dropLast [⟨6, [], 0, 0⟩] _ (HP.out.old hbW) hti (by rw [hW]; simp) (by rw [List.length_dropLast]; omega) hT (by omega) (HG.out _ hkW.1) (by intro x hx; simp at hx; subst hx; simp) (Nat.le_trans hBs hbW.size)
 rw [show prtL [(⟨6, [], 0, 0⟩ : Tok)] = [10] from rfl] at hput
 have HKW := Lib.hid hkW
 clear hti hbW hBs hkW
 go_wp2_with fail
 rw [← hW]
 refine hput.mono ?_
 rintro e w3 (⟨a1, a2, rfl, a3, a4⟩ | ⟨a1, rfl, a2⟩)
 ·have HA := Lib.hid (And.intro a1 (And.intro a2 (And.intro a3 (HKW.out.trans a4))))
  clear a1 a2 a3 a4 hput
  go_wp2
  go_end0
  exact .inl ⟨HA.out.1, HA.out.2.1, rfl, HA.out.2.2.1, HA.out.2.2.2⟩
 ·exact ⟨rfl, .inr ⟨a1, rfl, HKW.out.1.trans a2⟩⟩
end Go.Proofs.YthaibekbefndlaaGreatDoor.C

namespace Go.Proofs.YthaibekbefndlaaGreatDoor.C
open Go.RowKit

theorem Kp.heap {B P k : Nat} {w w' : World} {c : Array Value} {t : TypeId} (h : Kp B P w w') (hk : w.heap[k]? = some (.cells c t (0, 0))) (hP : k ≠ P) (ht : t ≠ 5) : w'.heap[k]? = some (.cells c t (0, 0)) :=
 h.2 k _ hk (by simpa using hP) (fun c' fz e => ht (by injection e))
theorem Kp.drew {B P : Nat} {w w' : World} (h : Kp B P w w') : Kp B P w w'.drew := ⟨⟨h.1.os, h.1.tape, h.1.output, h.1.size, h.1.block⟩, h.2⟩
theorem prtL_app (a b : List Tok) : prtL (a ++ b) = prtL a ++ prtL b := by simp [prtL]
theorem tC_nat (a : Nat) : tC (a : Int) = ⟨3, [], a, 0⟩ := by simp [tC]
theorem long_more {S S' : List UInt8} {T T' : Nat} (h : ¬ (S.length ≤ 4000 ∧ T ≤ 1000)) (h1 : S.length ≤ S'.length) (h2 : T ≤ T') : ¬ (S'.length ≤ 4000 ∧ T' ≤ 1000) := fun k => h ⟨by omega, by omega⟩

set_option maxRecDepth 100000 in
set_option maxHeartbeats 4000000 in
theorem clsItem_any (w : World) (B P T Q a b : Nat) (S : List UInt8) (h : PW w B P S T) (hQ : One w Q 96 (.pointer (some ⟨P, 0, none⟩))) (hQP : Q ≠ P) (hS : S.length ≤ 4000) (hT : T ≤ 1000) (hG : ∀ w', Below B w w' → Gl w') (hB : B ≤ w.heap.size) (ha : a ≤ 1114111) (hb : b ≤ 1114111) :
  Calls Tryz.prog 84 #[.agg #[.int .i32 a, .int .i32 b], .pointer (some ⟨Q, 0, none⟩)] w (PutTold w B P (S ++ prtL (rangeT ((a : Int), (b : Int)))) (T + (rangeT ((a : Int), (b : Int))).length)) := by
 obtain ⟨W, hW⟩ : ∃ W, W = w.alloc (.cells #[.int .i32 a, .int .i32 b] 51) := ⟨_, rfl⟩
 have hbW : Below w.heap.size w W := by rw [hW]; exact (Below.refl _ _).alloc (Nat.le_refl _) _
 have hR : Rw W w.heap.size 51 #[.int .i32 a, .int .i32 b] := by rw [hW]; exact heap_alloc_new w _
 have hQW : One W Q 96 (.pointer (some ⟨P, 0, none⟩)) := (hbW.block _ hQ.lt).trans hQ
 have hsc := scalar_any7 W.drew (a : Int) (by omega) (by omega)
 have hP := h.old hbW
 have HP := Lib.hid hP
 have HQ := Lib.hid hQW
 have HR := Lib.hid hR
 have HG := Lib.hid hG
 have HKW := Lib.hid (Kp.of_below (P := P) hbW hB)
 have HBs : Hid (B ≤ W.heap.size) := Lib.hid (Nat.le_trans hB hbW.size)
 have hlt : w.heap.size < W.heap.size := hR.lt
 have hRP : w.heap.size ≠ P := by have := h.lt; omega
 have q0 := hQW.cell
 have q1 : W.cell? ⟨w.heap.size, 0, none⟩ = some (.int .i32 a) := hR.cell rfl
 have q2 : W.cell? ⟨w.heap.size, 1, none⟩ = some (.int .i32 b) := hR.cell rfl
 obtain ⟨X, hX⟩ : ∃ X, X = rangeT ((a : Int), (b : Int)) := ⟨_, rfl⟩
 rw [← hX]
 have HX := Lib.hid hX
 clear h hP hR hQ hQW hG hbW hX
 go_enter Tryz.func84, Tryz.ntmps84
 go_wp2
 rw [← hW]
 refine wp_region_held (S := fun W' : World => W'.cell? ⟨Q, 0, none⟩ = some (.pointer (some ⟨P, 0, none⟩)) ∧ W'.cell? ⟨w.heap.size, 0, none⟩ = some (.int .i32 a) ∧ W'.cell? ⟨w.heap.size, 1, none⟩ = some (.int .i32 b)) (by kernel_rfl) ?_
 change wpAnyH _ _ _ _ _ _ _ _ W.drew
 have hS1 : (fun W' : World => W'.cell? ⟨Q, 0, none⟩ = some (.pointer (some ⟨P, 0, none⟩)) ∧ W'.cell? ⟨w.heap.size, 0, none⟩ = some (.int .i32 a) ∧ W'.cell? ⟨w.heap.size, 1, none⟩ = some (.int .i32 b)) W.drew := ⟨q0, q1, q2⟩
 have HWE := Lib.hid hW
 clear hW q0 q1 q2
 refine wpAnyH_take (i := 0) (oi := ?oi0) (v := ?v0) ?hi0 (by kernel_rfl) (by kernel_rfl) (by kernel_rfl) ?hq0 (Or.inl ⟨?hw0, ?hy0⟩) (by assumption) ?rest0
 case hi0 => exact rfl
 case hq0 => exact fun _ _ _ h => h
 case hw0 => rfl
 case hy0 => (intro x hx; (try dsimp only at hx); simp only [List.getElem_toArray, List.getElem_cons_zero]; go_split_ands; go_simp; try with_reducible rfl)
 try simp only [Act.put, List.setIfInBounds_toArray, List.set_cons_zero, List.set_cons_succ, List.getElem_toArray, List.getElem_cons_zero]
 refine wpAnyH_take (i := 1) (oi := ?oi1) (v := ?v1) ?hi1 (by kernel_rfl) (by kernel_rfl) (by kernel_rfl) ?hq1 (Or.inl ⟨?hw1, ?hy1⟩) (by assumption) ?rest1
 case hi1 => exact rfl
 case hq1 => exact fun _ _ _ h => h
 case hw1 => rfl
 case hy1 => (intro x hx; (try dsimp only at hx); simp only [List.getElem_toArray, List.getElem_cons_succ, List.getElem_cons_zero]; go_split_ands; go_simp; try with_reducible rfl)
 try simp only [Act.put, List.setIfInBounds_toArray, List.set_cons_zero, List.set_cons_succ, List.getElem_toArray, List.getElem_cons_succ, List.getElem_cons_zero]
 refine wpAnyH_take (i := 2) (oi := ?oi2) (v := ?v2) ?hi2 (by kernel_rfl) (by kernel_rfl) (by kernel_rfl) ?hq2 (Or.inl ⟨?hw2, ?hy2⟩) (by assumption) ?rest2
 case hi2 => exact rfl
 case hq2 => exact fun _ _ _ h => h
 case hw2 => rfl
 case hy2 => (intro x hx; (try dsimp only at hx); simp only [List.getElem_toArray, List.getElem_cons_succ, List.getElem_cons_zero]; go_split_ands; go_simp; try with_reducible rfl)
 try simp only [Act.put, List.setIfInBounds_toArray, List.set_cons_zero, List.set_cons_succ, List.getElem_toArray, List.getElem_cons_succ, List.getElem_cons_zero]
 refine wpAnyH_one (i := 3) (by kernel_rfl) rfl (fun K hK => ?_)
 simp only [List.getElem_toArray, List.getElem_cons_succ, List.getElem_cons_zero]
 go_simp
 go_at_call 85
 with_reducible refine hsc.mono ?_
 rintro e w1 ⟨rfl, hb1⟩
 have hk1 : Kp B P W w1 := Kp.of_below ⟨hb1.os, hb1.tape, hb1.output, hb1.size, hb1.block⟩ HBs.out
 have hs1 : W.heap.size ≤ w1.heap.size := hb1.size
 have hc1 : ∀ p : Addr, p.block < W.heap.size → w1.cell? p = W.cell? p := fun p hp => World.cell?_of_block (hb1.block _ hp)
 have hP1 := HP.out.old (⟨hb1.os, hb1.tape, hb1.output, hb1.size, hb1.block⟩ : Below W.heap.size W w1)
 refine hK.out _ _ ⟨(hc1 _ HQ.out.lt).trans hS1.1, (hc1 _ hlt).trans hS1.2.1, (hc1 _ hlt).trans hS1.2.2⟩ (fun hS2 => ?_)
 have HP1 := Lib.hid hP1
 have HK1 := Lib.hid hk1
 clear hsc hb1 hc1 hk1 hP1 hS1
 refine wpAnyH_one (i := 4) (by kernel_rfl) rfl (fun K hK => ?_)
 simp only [List.getElem_toArray, List.getElem_cons_succ, List.getElem_cons_zero]
 go_simp
 obtain ⟨W2, hW2⟩ : ∃ W2, W2 = w1.alloc (.cells #[.int .u8 3, .string ⟨#[]⟩, .int .i64 a, .int .i64 0] 92) := ⟨_, rfl⟩
 rw [← hW2]
 have hb2 : Below w1.heap.size w1 W2 := by rw [hW2]; exact (Below.refl _ _).alloc (Nat.le_refl _) _
 have hti : TI W2 (w1.heap.size + 1) (some ⟨w1.heap.size, 0, none⟩) 1 [⟨3, [], a, 0⟩] := by rw [hW2]; exact TI.many w1 [⟨3, [], a, 0⟩] _ rfl
 have hBs1 : B ≤ w1.heap.size := Nat.le_trans HBs.out hs1
 have hk2 : Kp B P W W2 := HK1.out.trans (Kp.of_below hb2 hBs1)
 have hQ2 := hk2.heap HQ.out hQP (by decide)
 have hR2 := hk2.heap HR.out hRP (by decide)
 have hput := put_any W2 B P T 1 1 _ S [⟨3, [], a, 0⟩] _ (HP1.out.old hb2) hti (by rw [hW2]; simp) hS hT (by omega) (HG.out _ (HKW.out.trans hk2).1) (by intro x hx; simp at hx; subst hx; simp; omega) (Nat.le_trans hBs1 hb2.size)
 have HK2 := Lib.hid hk2
 refine hK.out _ _ ⟨One.cell hQ2, Rw.cell hR2 rfl, Rw.cell hR2 rfl⟩ (fun hS3 => ?_)
 clear hb2 hti hk2 hQ2 hR2 hS2 hW2
 refine wpAnyH_one (i := 5) (by kernel_rfl) rfl (fun K hK => ?_)
 simp only [List.getElem_toArray, List.getElem_cons_succ, List.getElem_cons_zero]
 go_simp
 go_at_call 81
 with_reducible refine hput.mono ?_
 rintro e w3 (⟨a1, a2, rfl, a3, a4⟩ | ⟨a1, rfl, a2⟩)
 rotate_left
 ·refine ⟨rfl, .inr ⟨long_more a1 ?_ ?_, rfl, (HKW.out.1.trans HK2.out.1).trans a2⟩⟩
  ·rw [HX.out]; unfold rangeT; split <;> simp [prtL, tC_nat]
  ·rw [HX.out]; unfold rangeT; split <;> simp
 have hk3 : Kp B P W w3 := HK2.out.trans a4
 have hQ3 : One w3 Q 96 (.pointer (some ⟨P, 0, none⟩)) := hk3.heap HQ.out hQP (by decide)
 have hR3 : Rw w3 w.heap.size 51 #[.int .i32 a, .int .i32 b] := hk3.heap HR.out hRP (by decide)
 refine hK.out _ _ ⟨hQ3.cell, hR3.cell rfl, hR3.cell rfl⟩ (fun hS4 => ?_)
 refine ⟨by kernel_rfl, ?_⟩
 have q0 := hQ3.cell
 have q1 : w3.cell? ⟨w.heap.size, 0, none⟩ = some (.int .i32 a) := hR3.cell rfl
 have q2 : w3.cell? ⟨w.heap.size, 1, none⟩ = some (.int .i32 b) := hR3.cell rfl
 have HP3 := Lib.hid a3
 have HK3 := Lib.hid hk3
 have HA := Lib.hid (And.intro a1 a2)
 clear a1 a2 a3 a4 hput hS3 hS4
 by_cases hab : b = a
 ·subst hab
  have hXa : X = [⟨3, [], b, 0⟩] := by rw [HX.out]; unfold rangeT; rw [if_pos rfl, tC_nat]
  have HXA := Lib.hid hXa
  clear hQ3 hR3 hk3 hXa
  go_wp2
  go_end0
  rw [HXA.out]
  exact .inl ⟨HA.out.1, HA.out.2, rfl, HP3.out, HKW.out.trans HK3.out⟩
 have i1 : ((b : Int) == (a : Int)) = false := beq_eq_false_iff_ne.2 (by omega)
 have hXa : X = [⟨3, [], a, 0⟩, ⟨2, [46, 46, 46], 0, 0⟩, ⟨3, [], b, 0⟩] := by rw [HX.out]; unfold rangeT; rw [if_neg (show ¬ ((b : Int) = (a : Int)) by omega), tC_nat, tC_nat]; rfl
 have HXA := Lib.hid hXa
 have HQ3 := Lib.hid hQ3
 have HR3 := Lib.hid hR3
 have hS5 : (fun W' : World => W'.cell? ⟨Q, 0, none⟩ = some (.pointer (some ⟨P, 0, none⟩)) ∧ W'.cell? ⟨w.heap.size, 0, none⟩ = some (.int .i32 a) ∧ W'.cell? ⟨w.heap.size, 1, none⟩ = some (.int .i32 b)) w3.drew := ⟨q0, q1, q2⟩
 have hBw3 : B ≤ w3.heap.size := Nat.le_trans HBs.out hk3.size
 have hsg := sign_any7 w3.drew ⟨#[46, 46, 46]⟩
 clear hQ3 hR3 hk3 hXa hab
 go_wp2
 refine wp_region_held (S := fun W' : World => W'.cell? ⟨Q, 0, none⟩ = some (.pointer (some ⟨P, 0, none⟩)) ∧ W'.cell? ⟨w.heap.size, 0, none⟩ = some (.int .i32 a) ∧ W'.cell? ⟨w.heap.size, 1, none⟩ = some (.int .i32 b)) (by kernel_rfl) ?_
 change wpAnyH _ _ _ _ _ _ _ _ w3.drew
 clear q0 q1 q2 i1
 refine wpAnyH_take (i := 0) (oi := ?oiB0) (v := ?vB0) ?hiB0 (by kernel_rfl) (by kernel_rfl) (by kernel_rfl) ?hqB0 (Or.inl ⟨?hwB0, ?hyB0⟩) (by assumption) ?restB0
 case hiB0 => exact rfl
 case hqB0 => exact fun _ _ _ h => h
 case hwB0 => rfl
 case hyB0 => (intro x hx; (try dsimp only at hx); simp only [List.getElem_toArray, List.getElem_cons_zero]; go_split_ands; go_simp; try with_reducible rfl)
 try simp only [Act.put, List.setIfInBounds_toArray, List.set_cons_zero, List.set_cons_succ, List.getElem_toArray, List.getElem_cons_zero]
 refine wpAnyH_take (i := 2) (oi := ?oiB2) (v := ?vB2) ?hiB2 (by kernel_rfl) (by kernel_rfl) (by kernel_rfl) ?hqB2 (Or.inl ⟨?hwB2, ?hyB2⟩) (by assumption) ?restB2
 case hiB2 => exact rfl
 case hqB2 => exact fun _ _ _ h => h
 case hwB2 => rfl
 case hyB2 => (intro x hx; (try dsimp only at hx); simp only [List.getElem_toArray, List.getElem_cons_succ, List.getElem_cons_zero]; go_split_ands; go_simp; try with_reducible rfl)
 try simp only [Act.put, List.setIfInBounds_toArray, List.set_cons_zero, List.set_cons_succ, List.getElem_toArray, List.getElem_cons_succ, List.getElem_cons_zero]
 refine wpAnyH_take (i := 3) (oi := ?oiB3) (v := ?vB3) ?hiB3 (by kernel_rfl) (by kernel_rfl) (by kernel_rfl) ?hqB3 (Or.inl ⟨?hwB3, ?hyB3⟩) (by assumption) ?restB3
 case hiB3 => exact rfl
 case hqB3 => exact fun _ _ _ h => h
 case hwB3 => rfl
 case hyB3 => (intro x hx; (try dsimp only at hx); simp only [List.getElem_toArray, List.getElem_cons_succ, List.getElem_cons_zero]; go_split_ands; go_simp; try with_reducible rfl)
 try simp only [Act.put, List.setIfInBounds_toArray, List.set_cons_zero, List.set_cons_succ, List.getElem_toArray, List.getElem_cons_succ, List.getElem_cons_zero]
 refine wpAnyH_one (i := 1) (by kernel_rfl) rfl (fun K hK => ?_)
 simp only [List.getElem_toArray, List.getElem_cons_succ, List.getElem_cons_zero]
 go_simp
 go_at_call 86
 with_reducible refine hsg.mono ?_
 rintro e w4 ⟨rfl, hb4⟩
 have hk4 : Kp B P w3 w4 := Kp.of_below ⟨hb4.os, hb4.tape, hb4.output, hb4.size, hb4.block⟩ hBw3
 have hP4 : PW w4 B P _ _ := HP3.out.old (⟨hb4.os, hb4.tape, hb4.output, hb4.size, hb4.block⟩ : Below w3.heap.size w3 w4)
 have hsc := scalar_any7 w4 (b : Int) (by omega) (by omega)
 have hQ4 : One w4 Q 96 (.pointer (some ⟨P, 0, none⟩)) := hk4.heap HQ3.out hQP (by decide)
 have hR4 : Rw w4 w.heap.size 51 #[.int .i32 a, .int .i32 b] := hk4.heap HR3.out hRP (by decide)
 refine hK.out _ _ ⟨hQ4.cell, hR4.cell rfl, hR4.cell rfl⟩ (fun hS6 => ?_)
 clear hb4 hsg hS5
 refine wpAnyH_one (i := 4) (by kernel_rfl) rfl (fun K hK => ?_)
 simp only [List.getElem_toArray, List.getElem_cons_succ, List.getElem_cons_zero]
 go_simp
 go_at_call 85
 with_reducible refine hsc.mono ?_
 rintro e w5 ⟨rfl, hb5⟩
 have hk5 : Kp B P w3 w5 := hk4.trans (Kp.of_below hb5 (Nat.le_trans hBw3 hk4.size))
 have hP5 := hP4.old hb5
 have hQ5 : One w5 Q 96 (.pointer (some ⟨P, 0, none⟩)) := hk5.heap HQ3.out hQP (by decide)
 have hR5 : Rw w5 w.heap.size 51 #[.int .i32 a, .int .i32 b] := hk5.heap HR3.out hRP (by decide)
 refine hK.out _ _ ⟨hQ5.cell, hR5.cell rfl, hR5.cell rfl⟩ (fun hS7 => ?_)
 have hBw5 : B ≤ w5.heap.size := Nat.le_trans hBw3 hk5.size
 clear hb5 hsc hS6 hk4 hP4 hQ4 hR4
 refine wpAnyH_one (i := 5) (by kernel_rfl) rfl (fun K hK => ?_)
 simp only [List.getElem_toArray, List.getElem_cons_succ, List.getElem_cons_zero]
 go_simp
 obtain ⟨W6, hW6⟩ : ∃ W6, W6 = w5.alloc (.cells #[.int .u8 2, .string ⟨#[46, 46, 46]⟩, .int .i64 0, .int .i64 0, .int .u8 3, .string ⟨#[]⟩, .int .i64 b, .int .i64 0] 92) := ⟨_, rfl⟩
 rw [← hW6]
 have hb6 : Below w5.heap.size w5 W6 := by rw [hW6]; exact (Below.refl _ _).alloc (Nat.le_refl _) _
 have hti : TI W6 (w5.heap.size + 1) (some ⟨w5.heap.size, 0, none⟩) 2 [⟨2, [46, 46, 46], 0, 0⟩, ⟨3, [], b, 0⟩] := by rw [hW6]; exact TI.many w5 [⟨2, [46, 46, 46], 0, 0⟩, ⟨3, [], b, 0⟩] _ rfl
 have hk6 : Kp B P w3 W6 := hk5.trans (Kp.of_below hb6 hBw5)
 have hQ6 : One W6 Q 96 (.pointer (some ⟨P, 0, none⟩)) := hk6.heap HQ3.out hQP (by decide)
 have hR6 : Rw W6 w.heap.size 51 #[.int .i32 a, .int .i32 b] := hk6.heap HR3.out hRP (by decide)
 have hput := put_any W6 B P _ 2 2 _ _ [⟨2, [46, 46, 46], 0, 0⟩, ⟨3, [], b, 0⟩] _ (hP5.old hb6) hti (by rw [hW6]; simp) HA.out.1 HA.out.2 (by omega) (HG.out _ ((HKW.out.trans HK3.out).trans hk6).1) (by intro x hx; simp at hx; rcases hx with rfl | rfl <;> simp; omega) (Nat.le_trans hBw5 hb6.size)
 have HK6 := Lib.hid ((HKW.out.trans HK3.out).trans hk6)
 have HK36 := Lib.hid hk6
 refine hK.out _ _ ⟨hQ6.cell, hR6.cell rfl, hR6.cell rfl⟩ (fun hS8 => ?_)
 clear hb6 hti hk6 hk5 hP5 hQ5 hR5 hQ6 hR6 hS7 hW6
 have hfs : (S ++ prtL [(⟨3, [], a, 0⟩ : Tok)]) ++ prtL [⟨2, [46, 46, 46], 0, 0⟩, ⟨3, [], b, 0⟩] = S ++ prtL X := by rw [List.append_assoc, ← prtL_app, HXA.out]; rfl
 have hft : T + [(⟨3, [], a, 0⟩ : Tok)].length + [(⟨2, [46, 46, 46], 0, 0⟩ : Tok), ⟨3, [], b, 0⟩].length = T + X.length := by rw [HXA.out]; rfl
 rw [hfs, hft] at hput
 clear hfs hft
 refine wpAnyH_one (i := 6) (by kernel_rfl) rfl (fun K hK => ?_)
 simp only [List.getElem_toArray, List.getElem_cons_succ, List.getElem_cons_zero]
 go_simp
 go_at_call 81
 with_reducible refine hput.mono ?_
 rintro e w7 (⟨a1, a2, rfl, a3, a4⟩ | ⟨a1, rfl, a2⟩)
 rotate_left
 ·exact ⟨rfl, .inr ⟨a1, rfl, HK6.out.1.trans a2⟩⟩
 have hk7 : Kp B P w3 w7 := HK36.out.trans a4
 have hQ7 : One w7 Q 96 (.pointer (some ⟨P, 0, none⟩)) := hk7.heap HQ3.out hQP (by decide)
 have hR7 : Rw w7 w.heap.size 51 #[.int .i32 a, .int .i32 b] := hk7.heap HR3.out hRP (by decide)
 refine hK.out _ _ ⟨hQ7.cell, hR7.cell rfl, hR7.cell rfl⟩ (fun hS9 => ?_)
 refine ⟨by kernel_rfl, ?_⟩
 have HZ := Lib.hid (And.intro a1 (And.intro a2 (And.intro a3 (HK6.out.trans a4))))
 clear a1 a2 a3 a4 hk7 hQ7 hR7 hS8 hS9 hput
 go_wp2
 go_end0
 exact .inl ⟨HZ.out.1, HZ.out.2.1, rfl, HZ.out.2.2.1, HZ.out.2.2.2⟩
end Go.Proofs.YthaibekbefndlaaGreatDoor.C

namespace Go.Proofs.YthaibekbefndlaaGreatDoor.C
open Go.RowKit

theorem sepT_snoc {α : Type} (f : α → List Tok) : ∀ (l : List α) (x : α), l ≠ [] → sepT f (l ++ [x]) = sepT f l ++ (tS sSemi :: f x)
 | [], _, h => absurd rfl h
 | [a], x, _ => rfl
 | a :: b :: r, x, _ => by
  have ih := sepT_snoc f (b :: r) x (by simp)
  show f a ++ tS sSemi :: sepT f (b :: (r ++ [x])) = _
  rw [show (b :: (r ++ [x])) = (b :: r) ++ [x] from rfl, ih]
  show _ = (f a ++ tS sSemi :: sepT f (b :: r)) ++ _
  simp
def Scal (rs : List (Int × Int)) : Prop := ∀ r ∈ rs, (0 ≤ r.1 ∧ r.1 ≤ 1114111) ∧ 0 ≤ r.2 ∧ r.2 ≤ 1114111
theorem sepT_len {α : Type} (f : α → List Tok) (l : List α) (i : Nat) : (prtL (sepT f (l.take i))).length ≤ (prtL (sepT f l)).length ∧ (sepT f (l.take i)).length ≤ (sepT f l).length := by
 induction l generalizing i with
 | nil => simp
 | cons a r ih =>
  cases i with
  | zero => simp [sepT, prtL]
  | succ i =>
   cases r with
   | nil => simp
   | cons b r =>
    have h := ih i
    cases i with
    | zero =>
     show (prtL (f a)).length ≤ (prtL (f a ++ tS sSemi :: sepT f (b :: r))).length ∧ (f a).length ≤ (f a ++ tS sSemi :: sepT f (b :: r)).length
     rw [prtL_app]
     simp
    | succ i =>
     have h2 : sepT f ((a :: b :: r).take (i + 1 + 1)) = f a ++ tS sSemi :: sepT f ((b :: r).take (i + 1)) := rfl
     have h3 : sepT f (a :: b :: r) = f a ++ tS sSemi :: sepT f (b :: r) := rfl
     rw [h2, h3, prtL_app, prtL_app]
     simp only [List.length_append, List.length_cons, prtL, List.flatMap_cons]
     have h4 := h.1
     have h5 := h.2
     unfold prtL at h4
     omega
theorem prsR_at {w : World} {B : Nat} {A : Option Addr} {n : Nat} {rs : List (Int × Int)} (h : SI 2 w B A n (rs.map prRow)) {i : Nat} {r : Int × Int} (hr : rs[i]? = some r) : ∃ ad, A = some ad ∧ ad.block < B ∧ w.cell? (ad.add (i * 2)) = some (.int .i32 r.1) ∧ w.cell? ⟨(ad.add (i * 2)).block, (ad.add (i * 2)).off + 1, none⟩ = some (.int .i32 r.2) := by
 have hi : i < n := by have := h.len; rw [List.length_map] at this; rw [← this]; exact (List.getElem?_eq_some_iff.1 hr).1
 obtain ⟨ad, x, e, hb, hx, _, hc⟩ := h.at_ hi
 rw [List.getElem?_map, hr] at hx
 obtain rfl : prRow r = x := Option.some.inj hx
 exact ⟨ad, e, hb, hc 0 _ rfl, by rw [add_more' _ _ _ (by omega)]; exact hc 1 _ rfl⟩
def PutSt (w : World) (B P : Nat) (S : List UInt8) (T : Nat) (X : List Tok) (wr : World) : Prop := PW wr B P (S ++ prtL X) (T + X.length) ∧ (S ++ prtL X).length ≤ 4000 ∧ T + X.length ≤ 1000 ∧ Kp B P w wr
set_option maxRecDepth 100000 in
set_option maxHeartbeats 4000000 in
theorem putRanges_any (w : World) (B P T Q : Nat) (v : Value) (rs : List (Int × Int)) (S : List UInt8) (h : PW w B P S T) (hQ : One w Q 96 (.pointer (some ⟨P, 0, none⟩))) (hQP : Q ≠ P) (hS : S.length ≤ 4000) (hT : T ≤ 1000) (hG : ∀ w', Below B w w' → Gl w') (hB : B ≤ w.heap.size) (hr : PrsR w B v rs) (hsc : Scal rs) (hn : rs.length ≤ maxLen) :
  Calls Tryz.prog 83 #[.pointer (some ⟨P, 0, none⟩), v, .func (.func 84) #[] #[.pointer (some ⟨Q, 0, none⟩)]] w (PutTold w B P (S ++ prtL (sepT rangeT rs)) (T + (sepT rangeT rs).length)) := by
 obtain ⟨A, c, rfl, hsi⟩ := hr
 unfold maxLen at hn
 have HSI := Lib.hid hsi
 have HQ := Lib.hid hQ
 have HG := Lib.hid hG
 have HB := Lib.hid hB
 have HSC := Lib.hid hsc
 have hst0 : PutSt w B P S T (sepT rangeT (rs.take 0)) w := ⟨by simpa [sepT, prtL] using h, by simpa [sepT, prtL] using hS, by simpa [sepT] using hT, Kp.refl _ _ _⟩
 have HST0 := Lib.hid hst0
 clear h hQ hG hB hsi hsc hS hT hst0
 go_enter Tryz.func83, Tryz.ntmps83
 go_wp2
 go_loopw [10] (fun iv wr => ∃ i : Nat, i ≤ rs.length ∧ iv = .int .i64 i ∧ Hid (PutSt w B P S T (sepT rangeT (rs.take i)) wr)) (fun iv _ => rs.length - (intOf iv).toNat)
 case atStart => exact ⟨0, Nat.zero_le _, rfl, HST0⟩
 case round =>
  obtain ⟨i, hin, rfl, HST⟩ := hrel
  by_cases hlt : i < rs.length
  rotate_left
  ·obtain rfl : i = rs.length := by omega
   go_wp2
   go_end0
   have := HST.out
   rw [List.take_length] at this
   exact .inl ⟨this.2.1, this.2.2.1, rfl, this.1, this.2.2.2⟩
  obtain ⟨r, hri⟩ : ∃ r, rs[i]? = some r := ⟨_, List.getElem?_eq_getElem hlt⟩
  have hr4 := HSC.out r (List.mem_of_getElem? hri)
  obtain ⟨a, b, rfl⟩ : ∃ a b : Nat, r = ((a : Int), (b : Int)) := ⟨r.1.toNat, r.2.toNat, by ext <;> simp <;> omega⟩
  obtain ⟨hp, hs1, ht1, hk⟩ := HST.out
  obtain ⟨ad, rfl, hbl, c0, c1⟩ := prsR_at (HSI.out.on hk.1 (Nat.le_refl _)) hri
  have htk : rs.take (i + 1) = rs.take i ++ [((a : Int), (b : Int))] := by rw [List.take_add_one, hri]; rfl
  have hle := sepT_len rangeT rs (i + 1)
  have HLE := Lib.hid hle
  have HTK := Lib.hid htk
  obtain ⟨W1, hW1⟩ : ∃ W1, W1 = wr.alloc (.cells #[.int .i32 a, .int .i32 b] 51) := ⟨_, rfl⟩
  have hb1 : Below wr.heap.size wr W1 := by rw [hW1]; exact (Below.refl _ _).alloc (Nat.le_refl _) _
  have hBr : B ≤ wr.heap.size := Nat.le_trans HB.out hk.size
  have hk1 : Kp B P w W1 := hk.trans (Kp.of_below hb1 hBr)
  have hR1 : Rw W1 wr.heap.size 51 #[.int .i32 a, .int .i32 b] := by rw [hW1]; exact heap_alloc_new wr _
  have hp1 := hp.old hb1
  have hRP : wr.heap.size ≠ P := by have := hp.lt; omega
  have i0 : (0 : Int) ≤ (i : Int) := by omega
  have i1 : (i : Int) < (rs.length : Int) := by omega
  have HP1 := Lib.hid hp1
  have HK1 := Lib.hid hk1
  have HR1 := Lib.hid hR1
  have HBR : Hid (B ≤ W1.heap.size) := Lib.hid (Nat.le_trans hBr hb1.size)
  clear hp hk hb1 hk1 hR1 hp1 hBr hle htk hri
  have q0 : W1.cell? ⟨wr.heap.size, 0, none⟩ = some (.int .i32 a) := HR1.out.cell rfl
  have q1 : W1.cell? ⟨wr.heap.size, 1, none⟩ = some (.int .i32 b) := HR1.out.cell rfl
  by_cases hi0 : i = 0
  ·subst hi0
   rw [show 0 * 2 = 0 from rfl, Addr.add_zero'] at c0 c1
   have hQ1 : One W1 Q 96 (.pointer (some ⟨P, 0, none⟩)) := HK1.out.heap HQ.out hQP (by decide)
   have hcl := clsItem_any W1 B P _ Q a b _ HP1.out hQ1 hQP hs1 ht1 (fun w' h' => HG.out w' (HK1.out.1.trans h')) HBR.out (by omega) (by omega)
   have hX0 : sepT rangeT (rs.take 0) = [] := rfl
   have hX1 : sepT rangeT (rs.take (0 + 1)) = rangeT ((a : Int), (b : Int)) := by rw [HTK.out]; rfl
   rw [hX0, ← hX1] at hcl
   rw [show S ++ prtL [] = S by simp [prtL]] at hcl
   have HX := Lib.hid (And.intro (show (S ++ prtL (sepT rangeT (rs.take (0 + 1)))).length ≤ (S ++ prtL (sepT rangeT rs)).length by simp only [List.length_append]; have := HLE.out.1; omega) (show T + (sepT rangeT (rs.take (0 + 1))).length ≤ T + (sepT rangeT rs).length by have := HLE.out.2; omega))
   rw [hW1] at q0 q1
   clear hQ1 hX0 hX1 HTK HLE hs1 ht1
   go_wp2_with fail
   rw [← hW1]
   refine hcl.mono ?_
   rintro e w2 (⟨a1, a2, rfl, a3, a4⟩ | ⟨a1, rfl, a2⟩)
   rotate_left
   ·exact ⟨rfl, .inr ⟨long_more a1 HX.out.1 HX.out.2, rfl, HK1.out.1.trans a2⟩⟩
   have HZ : Hid (PutSt w B P S T (sepT rangeT (rs.take (0 + 1))) w2) := Lib.hid ⟨a3, a1, a2, HK1.out.trans a4⟩
   clear a1 a2 a3 a4 hcl
   go_wp2
   go_roundw
   case rel => exact ⟨0 + 1, by omega, by go_num, HZ⟩
   case measure => simp [intOf]; omega
  ·have i2 : (0 : Int) < (i : Int) := by omega
   have hne : rs.take i ≠ [] := by
    intro h
    have hl : (rs.take i).length = 0 := by rw [h]; rfl
    rw [List.length_take] at hl
    omega
   have hXi : sepT rangeT (rs.take (i + 1)) = sepT rangeT (rs.take i) ++ ([⟨2, [59], 0, 0⟩] ++ rangeT ((a : Int), (b : Int))) := by rw [HTK.out, sepT_snoc _ _ _ hne]; rfl
   have hsg := sign_any7 W1 ⟨#[59]⟩
   have HXI := Lib.hid hXi
   rw [hW1] at q0 q1
   clear hne hXi HTK
   go_wp2_with fail
   rw [← hW1]
   refine hsg.mono ?_
   rintro e w2 ⟨rfl, hb2⟩
   have hBs2 : B ≤ w2.heap.size := Nat.le_trans HBR.out hb2.size
   have hk2 : Kp B P w w2 := HK1.out.trans (Kp.of_below hb2 HBR.out)
   have hR2 : Rw w2 wr.heap.size 51 #[.int .i32 a, .int .i32 b] := HR1.out.on hb2 HR1.out.lt
   obtain ⟨W3, hW3⟩ : ∃ W3, W3 = w2.alloc (.cells #[.int .u8 2, .string ⟨#[59]⟩, .int .i64 0, .int .i64 0] 92) := ⟨_, rfl⟩
   have hb3 : Below w2.heap.size w2 W3 := by rw [hW3]; exact (Below.refl _ _).alloc (Nat.le_refl _) _
   have hk3 : Kp B P w W3 := hk2.trans (Kp.of_below hb3 hBs2)
   have hR3 : Rw W3 wr.heap.size 51 #[.int .i32 a, .int .i32 b] := hR2.on hb3 hR2.lt
   have hti : TI W3 (w2.heap.size + 1) (some ⟨w2.heap.size, 0, none⟩) 1 [⟨2, [59], 0, 0⟩] := by rw [hW3]; exact TI.many w2 [⟨2, [59], 0, 0⟩] _ rfl
   have hput := put_any W3 B P _ 1 1 _ _ [⟨2, [59], 0, 0⟩] _ ((HP1.out.old hb2).old hb3) hti (by rw [hW3]; simp) hs1 ht1 (by omega) (HG.out _ hk3.1) (by intro x hx; simp at hx; subst hx; simp) (Nat.le_trans hBs2 hb3.size)
   have HK3 := Lib.hid hk3
   have HR3 := Lib.hid hR3
   have HBS3 : Hid (B ≤ W3.heap.size) := Lib.hid (Nat.le_trans hBs2 hb3.size)
   clear hb2 hBs2 hk2 hR2 hb3 hk3 hR3 hti hsg q0 q1 hs1 ht1
   go_wp2_with fail
   rw [← hW3]
   refine hput.mono ?_
   rintro e w4 (⟨a1, a2, rfl, a3, a4⟩ | ⟨a1, rfl, a2⟩)
   rotate_left
   ·refine ⟨rfl, .inr ⟨long_more a1 ?_ ?_, rfl, HK3.out.1.trans a2⟩⟩
    ·have := HLE.out.1
     rw [HXI.out, prtL_app, prtL_app] at this
     simp only [List.length_append] at this ⊢
     omega
    ·have := HLE.out.2
     rw [HXI.out] at this
     simp only [List.length_append] at this ⊢
     omega
   have hk4 : Kp B P w w4 := HK3.out.trans a4
   have hQ4 : One w4 Q 96 (.pointer (some ⟨P, 0, none⟩)) := hk4.heap HQ.out hQP (by decide)
   have hR4 : Rw w4 wr.heap.size 51 #[.int .i32 a, .int .i32 b] := a4.heap HR3.out hRP (by decide)
   have hcl := clsItem_any w4 B P _ Q a b _ a3 hQ4 hQP a1 a2 (fun w' h' => HG.out w' (hk4.1.trans h')) (Nat.le_trans HBS3.out a4.size) (by omega) (by omega)
   have hfs : ((S ++ prtL (sepT rangeT (rs.take i))) ++ prtL [(⟨2, [59], 0, 0⟩ : Tok)]) ++ prtL (rangeT ((a : Int), (b : Int))) = S ++ prtL (sepT rangeT (rs.take (i + 1))) := by rw [HXI.out, prtL_app, prtL_app]; simp
   have hft : ((T + (sepT rangeT (rs.take i)).length) + [(⟨2, [59], 0, 0⟩ : Tok)].length) + (rangeT ((a : Int), (b : Int))).length = T + (sepT rangeT (rs.take (i + 1))).length := by rw [HXI.out]; simp only [List.length_append]; omega
   rw [hfs, hft] at hcl
   have q0 : w4.cell? ⟨wr.heap.size, 0, none⟩ = some (.int .i32 a) := hR4.cell rfl
   have q1 : w4.cell? ⟨wr.heap.size, 1, none⟩ = some (.int .i32 b) := hR4.cell rfl
   have HX := Lib.hid (And.intro (show (S ++ prtL (sepT rangeT (rs.take (i + 1)))).length ≤ (S ++ prtL (sepT rangeT rs)).length by simp only [List.length_append]; have := HLE.out.1; omega) (show T + (sepT rangeT (rs.take (i + 1))).length ≤ T + (sepT rangeT rs).length by have := HLE.out.2; omega))
   have HK4 := Lib.hid hk4
   clear a1 a2 a3 a4 hk4 hQ4 hR4 hfs hft hput HXI HLE
   go_wp2_with fail
   refine hcl.mono ?_
   rintro e w5 (⟨a1, a2, rfl, a3, a4⟩ | ⟨a1, rfl, a2⟩)
   rotate_left
   ·exact ⟨rfl, .inr ⟨long_more a1 HX.out.1 HX.out.2, rfl, HK4.out.1.trans a2⟩⟩
   have HZ : Hid (PutSt w B P S T (sepT rangeT (rs.take (i + 1))) w5) := Lib.hid ⟨a3, a1, a2, HK4.out.trans a4⟩
   clear a1 a2 a3 a4 hcl
   go_wp2
   go_roundw
   case rel => exact ⟨i + 1, by omega, by go_num, HZ⟩
   case measure => simp [intOf]; omega
end Go.Proofs.YthaibekbefndlaaGreatDoor.C
