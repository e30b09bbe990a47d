/-
  Joined: MLxX, MLxY, MLxZ, MLxH. Each with what its own head says.
-/
import Derived.WalkMore
import Derived.Defers
import Derived.Recover
import Derived.Laws.CopyRow
import Derived.Laws.BitsAllLaws
import Derived.Laws.IdiomStrings
import Derived.Test.YthaibekbefndlaaGreatDoorH04

namespace Go.Proofs.YthaibekbefndlaaGreatDoor.C
open Go.RowKit

def arrV (R : Nat) : Array Value := #[.func (.func 67) #[.pointer (some ⟨R, 0, none⟩)] #[], .func (.func 68) #[.pointer (some ⟨R, 0, none⟩)] #[], .func (.func 69) #[.pointer (some ⟨R, 0, none⟩)] #[], .func (.func 70) #[.pointer (some ⟨R, 0, none⟩)] #[], .func (.func 71) #[.pointer (some ⟨R, 0, none⟩)] #[], .func (.func 72) #[.pointer (some ⟨R, 0, none⟩)] #[], .func (.func 73) #[.pointer (some ⟨R, 0, none⟩)] #[], .func (.func 74) #[.pointer (some ⟨R, 0, none⟩)] #[]]
def ArrAt (w : World) (S R : Nat) : Prop := w.heap[S]? = some (.cells (arrV R) 129 (0, 0))
theorem ArrAt.cells {w : World} {S R : Nat} (h : ArrAt w S R) : w.cell? ⟨S, 0, none⟩ = some (.func (.func 67) #[.pointer (some ⟨R, 0, none⟩)] #[]) ∧ w.cell? ⟨S, 1, none⟩ = some (.func (.func 68) #[.pointer (some ⟨R, 0, none⟩)] #[]) ∧ w.cell? ⟨S, 2, none⟩ = some (.func (.func 69) #[.pointer (some ⟨R, 0, none⟩)] #[]) ∧ w.cell? ⟨S, 3, none⟩ = some (.func (.func 70) #[.pointer (some ⟨R, 0, none⟩)] #[]) ∧ w.cell? ⟨S, 4, none⟩ = some (.func (.func 71) #[.pointer (some ⟨R, 0, none⟩)] #[]) ∧ w.cell? ⟨S, 5, none⟩ = some (.func (.func 72) #[.pointer (some ⟨R, 0, none⟩)] #[]) ∧ w.cell? ⟨S, 6, none⟩ = some (.func (.func 73) #[.pointer (some ⟨R, 0, none⟩)] #[]) ∧ w.cell? ⟨S, 7, none⟩ = some (.func (.func 74) #[.pointer (some ⟨R, 0, none⟩)] #[]) := by
 simp [World.cell?, show w.heap[S]? = _ from h, arrV]
theorem ArrAt.on {w w' : World} {S R R' : Nat} (h : ArrAt w S R) (hb : Bk R' w w') : ArrAt w' S R := hb.2 S _ _ _ h (by decide) (by decide)
theorem arr_ix0 (R : Nat) (W : World) : (Instr.index 129 (.agg #[.func (.func 67) #[.pointer (some ⟨R, 0, none⟩)] #[], .func (.func 68) #[.pointer (some ⟨R, 0, none⟩)] #[], .func (.func 69) #[.pointer (some ⟨R, 0, none⟩)] #[], .func (.func 70) #[.pointer (some ⟨R, 0, none⟩)] #[], .func (.func 71) #[.pointer (some ⟨R, 0, none⟩)] #[], .func (.func 72) #[.pointer (some ⟨R, 0, none⟩)] #[], .func (.func 73) #[.pointer (some ⟨R, 0, none⟩)] #[], .func (.func 74) #[.pointer (some ⟨R, 0, none⟩)] #[]]) (.int .i64 0)).run Tryz.prog W = .ok (.func (.func 67) #[.pointer (some ⟨R, 0, none⟩)] #[]) W := by kernel_rfl
theorem arr_ix1 (R : Nat) (W : World) : (Instr.index 129 (.agg #[.func (.func 67) #[.pointer (some ⟨R, 0, none⟩)] #[], .func (.func 68) #[.pointer (some ⟨R, 0, none⟩)] #[], .func (.func 69) #[.pointer (some ⟨R, 0, none⟩)] #[], .func (.func 70) #[.pointer (some ⟨R, 0, none⟩)] #[], .func (.func 71) #[.pointer (some ⟨R, 0, none⟩)] #[], .func (.func 72) #[.pointer (some ⟨R, 0, none⟩)] #[], .func (.func 73) #[.pointer (some ⟨R, 0, none⟩)] #[], .func (.func 74) #[.pointer (some ⟨R, 0, none⟩)] #[]]) (.int .i64 1)).run Tryz.prog W = .ok (.func (.func 68) #[.pointer (some ⟨R, 0, none⟩)] #[]) W := by kernel_rfl
theorem arr_ix2 (R : Nat) (W : World) : (Instr.index 129 (.agg #[.func (.func 67) #[.pointer (some ⟨R, 0, none⟩)] #[], .func (.func 68) #[.pointer (some ⟨R, 0, none⟩)] #[], .func (.func 69) #[.pointer (some ⟨R, 0, none⟩)] #[], .func (.func 70) #[.pointer (some ⟨R, 0, none⟩)] #[], .func (.func 71) #[.pointer (some ⟨R, 0, none⟩)] #[], .func (.func 72) #[.pointer (some ⟨R, 0, none⟩)] #[], .func (.func 73) #[.pointer (some ⟨R, 0, none⟩)] #[], .func (.func 74) #[.pointer (some ⟨R, 0, none⟩)] #[]]) (.int .i64 2)).run Tryz.prog W = .ok (.func (.func 69) #[.pointer (some ⟨R, 0, none⟩)] #[]) W := by kernel_rfl
theorem arr_ix3 (R : Nat) (W : World) : (Instr.index 129 (.agg #[.func (.func 67) #[.pointer (some ⟨R, 0, none⟩)] #[], .func (.func 68) #[.pointer (some ⟨R, 0, none⟩)] #[], .func (.func 69) #[.pointer (some ⟨R, 0, none⟩)] #[], .func (.func 70) #[.pointer (some ⟨R, 0, none⟩)] #[], .func (.func 71) #[.pointer (some ⟨R, 0, none⟩)] #[], .func (.func 72) #[.pointer (some ⟨R, 0, none⟩)] #[], .func (.func 73) #[.pointer (some ⟨R, 0, none⟩)] #[], .func (.func 74) #[.pointer (some ⟨R, 0, none⟩)] #[]]) (.int .i64 3)).run Tryz.prog W = .ok (.func (.func 70) #[.pointer (some ⟨R, 0, none⟩)] #[]) W := by kernel_rfl
theorem arr_ix4 (R : Nat) (W : World) : (Instr.index 129 (.agg #[.func (.func 67) #[.pointer (some ⟨R, 0, none⟩)] #[], .func (.func 68) #[.pointer (some ⟨R, 0, none⟩)] #[], .func (.func 69) #[.pointer (some ⟨R, 0, none⟩)] #[], .func (.func 70) #[.pointer (some ⟨R, 0, none⟩)] #[], .func (.func 71) #[.pointer (some ⟨R, 0, none⟩)] #[], .func (.func 72) #[.pointer (some ⟨R, 0, none⟩)] #[], .func (.func 73) #[.pointer (some ⟨R, 0, none⟩)] #[], .func (.func 74) #[.pointer (some ⟨R, 0, none⟩)] #[]]) (.int .i64 4)).run Tryz.prog W = .ok (.func (.func 71) #[.pointer (some ⟨R, 0, none⟩)] #[]) W := by kernel_rfl
theorem arr_ix5 (R : Nat) (W : World) : (Instr.index 129 (.agg #[.func (.func 67) #[.pointer (some ⟨R, 0, none⟩)] #[], .func (.func 68) #[.pointer (some ⟨R, 0, none⟩)] #[], .func (.func 69) #[.pointer (some ⟨R, 0, none⟩)] #[], .func (.func 70) #[.pointer (some ⟨R, 0, none⟩)] #[], .func (.func 71) #[.pointer (some ⟨R, 0, none⟩)] #[], .func (.func 72) #[.pointer (some ⟨R, 0, none⟩)] #[], .func (.func 73) #[.pointer (some ⟨R, 0, none⟩)] #[], .func (.func 74) #[.pointer (some ⟨R, 0, none⟩)] #[]]) (.int .i64 5)).run Tryz.prog W = .ok (.func (.func 72) #[.pointer (some ⟨R, 0, none⟩)] #[]) W := by kernel_rfl
theorem arr_ix6 (R : Nat) (W : World) : (Instr.index 129 (.agg #[.func (.func 67) #[.pointer (some ⟨R, 0, none⟩)] #[], .func (.func 68) #[.pointer (some ⟨R, 0, none⟩)] #[], .func (.func 69) #[.pointer (some ⟨R, 0, none⟩)] #[], .func (.func 70) #[.pointer (some ⟨R, 0, none⟩)] #[], .func (.func 71) #[.pointer (some ⟨R, 0, none⟩)] #[], .func (.func 72) #[.pointer (some ⟨R, 0, none⟩)] #[], .func (.func 73) #[.pointer (some ⟨R, 0, none⟩)] #[], .func (.func 74) #[.pointer (some ⟨R, 0, none⟩)] #[]]) (.int .i64 6)).run Tryz.prog W = .ok (.func (.func 73) #[.pointer (some ⟨R, 0, none⟩)] #[]) W := by kernel_rfl
theorem arr_ix7 (R : Nat) (W : World) : (Instr.index 129 (.agg #[.func (.func 67) #[.pointer (some ⟨R, 0, none⟩)] #[], .func (.func 68) #[.pointer (some ⟨R, 0, none⟩)] #[], .func (.func 69) #[.pointer (some ⟨R, 0, none⟩)] #[], .func (.func 70) #[.pointer (some ⟨R, 0, none⟩)] #[], .func (.func 71) #[.pointer (some ⟨R, 0, none⟩)] #[], .func (.func 72) #[.pointer (some ⟨R, 0, none⟩)] #[], .func (.func 73) #[.pointer (some ⟨R, 0, none⟩)] #[], .func (.func 74) #[.pointer (some ⟨R, 0, none⟩)] #[]]) (.int .i64 7)).run Tryz.prog W = .ok (.func (.func 74) #[.pointer (some ⟨R, 0, none⟩)] #[]) W := by kernel_rfl

theorem run_store_func {P : Program} (w : World) (a : Addr) (fn : Fn) (x y : Array Value) (hc : (w.cell? a).isSome = true) (hf : w.frozen? a = false) : (store a (.func fn x y)).run P w = .ok () (w.setCell a (.func fn x y)) := by
 obtain ⟨u, hu⟩ := Option.isSome_iff_exists.1 hc
 rw [run_store P w a _ _ rfl, hu]
 simp [hf]
def LongE (R : Nat) (w : World) (e : Ending) (w' : World) : Prop := e = .panicked [{ v := .iface 127 (.agg #[]), recovered := false }] ∧ Below R w w'
def ReadTold (R : Nat) (w : World) (s : ByteArray) : List Tok ⊕ Nat → Ending → World → Prop
 | .inl ts, e, w' => if 1000 < ts.length then LongE R w e w' else e = .returned (.tuple #[]) ∧ (∃ k, RD w' R s k ts) ∧ Bk R w w'
 | .inr at_, e, w' => Bad w R at_ e w'
theorem readTold_inl {R : Nat} {w : World} {s : ByteArray} {ts : List Tok} {e : Ending} {w' : World} : ReadTold R w s (.inl ts) e w' = if 1000 < ts.length then LongE R w e w' else e = .returned (.tuple #[]) ∧ (∃ k, RD w' R s k ts) ∧ Bk R w w' := rfl
theorem endL_len (ts : List Tok) (k : Nat) (h : ts.length ≤ 4999) : (endL ts k).length ≤ 5000 := by
 unfold endL
 split
 ·omega
 ·rw [List.length_append, List.length_cons, List.length_nil]; omega

set_option maxHeartbeats 1000000 in
theorem read_long (w : World) (R k : Nat) (s : ByteArray) (ts : List Tok) (h : RD w R s k ts) (hs : 4000 < s.size) :
  Calls Tryz.prog 35 #[.pointer (some ⟨R, 0, none⟩)] w (LongE R w) := by
 obtain ⟨_, v, hb, _⟩ := h
 obtain ⟨c0, _, _, _, _⟩ := rd_cells hb
 have hs' : (4000 : Int) < (s.size : Int) := by omega
 clear hb
 go_enter Tryz.func35, Tryz.ntmps35
 go_step3
 go_wp2
 exact ⟨rfl, rfl, Below.refl _ _⟩
theorem read_end {R : Nat} {w : World} {s : ByteArray} {l : List UInt8} {k : Nat} {ts : List Tok} {e : Ending} {w' : World} (h : runL l 0 [] = runL [] k ts) (hr : ReadTold R w s (.inl (endL ts k)) e w') : ReadTold R w s (runL l 0 []) e w' := by
 rw [h, runL_nil]
 exact hr
theorem read_bad {R : Nat} {w : World} {s : ByteArray} {l m : List UInt8} {k : Nat} {ts : List Tok} {e : Ending} {w' : World} (h : runL l 0 [] = runL m k ts) (h0 : m ≠ []) (hs : stepL m k ts = none) (hr : Bad w R k e w') : ReadTold R w s (runL l 0 []) e w' := by
 rw [h, runL_none h0 hs]
 exact hr

set_option maxRecDepth 100000 in
set_option maxHeartbeats 16000000 in
theorem read_any (w : World) (R : Nat) (s : ByteArray) (h : RD w R s 0 []) (hG : Gl w) (hs : s.size ≤ 4000) :
  Calls Tryz.prog 35 #[.pointer (some ⟨R, 0, none⟩)] w (ReadTold R w s (runL s.data.toList 0 [])) := by
 have hmf : ∀ (fn : Fn) (first cap : Array Value) (w : World), (Instr.makeFunc fn first cap).run Tryz.prog w = .ok (.func fn first cap) w := fun _ _ _ _ => rfl
 have hst := @run_store_func Tryz.prog
 have H := Lib.hid h
 have hlt := h.lt
 have hgl := h.gl
 have hGl := Lib.hid (fun W (hb : Bk R w W) => hG.on hb.1 hgl)
 obtain ⟨_, v, hb, _⟩ := h
 obtain ⟨c0, _, _, _, _⟩ := rd_cells hb
 have hs' : ¬ (4000 : Int) < (s.size : Int) := by omega
 have hbw : Below w.heap.size w (w.alloc (.cells (arrV R) 129)) := (Below.refl _ _).alloc (Nat.le_refl _) _
 have hD0 := H.out.next hbw
 have hA0 : ArrAt (w.alloc (.cells (arrV R) 129)) w.heap.size R := heap_new _ _
 have hB0 : Bk R w (w.alloc (.cells (arrV R) 129)) := bk_of hbw (Nat.le_of_lt hlt)
 have HX := Lib.hid (And.intro hD0 (And.intro hA0 hB0))
 clear hb hD0 hA0 hB0 hbw hG
 go_enter Tryz.func35, Tryz.ntmps35
 go_step3
 go_wp2
 go_step3
 go_wp2
 clear c0 hmf hst
 generalize w.heap.size = S at *
 go_loopg [40] s.size (fun g s40 wr => ∃ (k : Nat) (ts : List Tok), k + g = s.size ∧ RD wr R s k ts ∧ ArrAt wr S R ∧ Bk R w wr ∧ Hid (runL s.data.toList 0 [] = runL (s.data.toList.drop k) k ts) ∧ ts.length ≤ k)
 case atStart => exact ⟨0, [], by omega, HX.out.1, HX.out.2.1, HX.out.2.2, Lib.hid (by simp), by simp⟩
 case round =>
  obtain ⟨k, ts, hkg, hD, hA, hB, HR, hts⟩ := hrel
  obtain ⟨wp, hwp⟩ : ∃ wp, wp = wr := ⟨_, rfl⟩
  subst hwp
  obtain ⟨g1, hg1⟩ : ∃ g1, g1 = gk := ⟨_, rfl⟩
  subst hg1
  have HD0 := Lib.hid hD
  have HA0 := Lib.hid hA
  have HB0 := Lib.hid hB
  obtain ⟨_, vv, hbb, _⟩ := hD
  obtain ⟨c0, c1, _, _, _⟩ := rd_cells hbb
  obtain ⟨z0, z1, z2, z3, z4, z5, z6, z7⟩ := hA.cells
  clear hbb hA hB
  by_cases hk : k < s.size
  ·have hne : s.data.toList.drop k ≠ [] := fun e => by rw [drop_ba hk] at e; cases e
   have HNE := Lib.hid hne
   clear hne
   rcases steps_case R k s ts hk hs (by omega) with ⟨J, ts', m, hJ8, hst, hno, hyes⟩ | ⟨hst, hno, hbad⟩ | ⟨hst, hno⟩
   ·have hln := stepL_len HNE.out hst
    rw [List.length_drop, size_list] at hln
    obtain ⟨hm1, hm2, hts2⟩ := hln
    have HN := Lib.hid ((HR.out).trans (runL_some HNE.out hst hm1))
    rw [List.drop_drop] at HN
    clear hst
    go_wp2
    go_quiet (fail)
    go_wp2
    clear z0 z1 z2 z3 z4 z5 z6 z7 c0 c1
    go_loopg [41] 8 (fun g2 s41 wy => ∃ (i : Nat) (j : Int), i + g2 = 8 ∧ i ≤ J ∧ j = (i : Int) ∧ s41 = .int .i64 j ∧ RD wy R s k ts ∧ ArrAt wy S R ∧ Bk R w wy)
    case atStart => exact ⟨0, 0, by omega, by omega, rfl, rfl, HD0.out.drewN _, HA0.out.on (bk_drewN R wp nq), HB0.out.trans (bk_drewN _ _ _)⟩
    case round =>
     obtain ⟨i, j, hig, hiJ, hj, rfl, hD, hA, hB⟩ := hrel
     have hcase : i = 0 ∨ i = 1 ∨ i = 2 ∨ i = 3 ∨ i = 4 ∨ i = 5 ∨ i = 6 ∨ i = 7 := by omega
     rcases hcase with rfl | rfl | rfl | rfl | rfl | rfl | rfl | rfl
     ·obtain rfl : j = 0 := by omega
      clear hj
      have HD := Lib.hid hD
      have HG2 := Lib.hid (hGl.out wr hB)
      have HA := Lib.hid hA
      have HB := Lib.hid hB
      clear hD hA hB
      by_cases hJi : 0 = J
      ·subst hJi
       have hc : ∀ W, RD W R s k ts → Gl W → Calls Tryz.prog 67 #[.pointer (some ⟨R, 0, none⟩)] W (Stepped W R s true (k + m) ts') := hyes
       have hix := arr_ix0 R
       go_wp2_with (go_at_call 67; refine (hc _ HD.out HG2.out).mono ?_; rintro e w2 ⟨rfl, hr, hb2⟩)
       go_roundg (s.size - (k + m))
       case measure => omega
       case rel => exact ⟨k + m, ts', by omega, hr, HA.out.on hb2, HB.out.trans hb2, HN, by omega⟩
      ·have hlt : 0 < J := by omega
       have hc : ∀ W, RD W R s k ts → Gl W → Calls Tryz.prog 67 #[.pointer (some ⟨R, 0, none⟩)] W (Stepped W R s false k ts) := hno 0 (by omega)
       have hix := arr_ix0 R
       go_wp2_with (go_at_call 67; refine (hc _ HD.out HG2.out).mono ?_; rintro e w2 ⟨rfl, hr, hb2⟩)
       go_roundg (7)
       case measure => omega
       case rel => exact ⟨1, 1, by omega, by omega, rfl, rfl, hr, HA.out.on hb2, HB.out.trans hb2⟩
     ·obtain rfl : j = 1 := by omega
      clear hj
      have HD := Lib.hid hD
      have HG2 := Lib.hid (hGl.out wr hB)
      have HA := Lib.hid hA
      have HB := Lib.hid hB
      clear hD hA hB
      by_cases hJi : 1 = J
      ·subst hJi
       have hc : ∀ W, RD W R s k ts → Gl W → Calls Tryz.prog 68 #[.pointer (some ⟨R, 0, none⟩)] W (Stepped W R s true (k + m) ts') := hyes
       have hix := arr_ix1 R
       go_wp2_with (go_at_call 68; refine (hc _ HD.out HG2.out).mono ?_; rintro e w2 ⟨rfl, hr, hb2⟩)
       go_roundg (s.size - (k + m))
       case measure => omega
       case rel => exact ⟨k + m, ts', by omega, hr, HA.out.on hb2, HB.out.trans hb2, HN, by omega⟩
      ·have hlt : 1 < J := by omega
       have hc : ∀ W, RD W R s k ts → Gl W → Calls Tryz.prog 68 #[.pointer (some ⟨R, 0, none⟩)] W (Stepped W R s false k ts) := hno 1 (by omega)
       have hix := arr_ix1 R
       go_wp2_with (go_at_call 68; refine (hc _ HD.out HG2.out).mono ?_; rintro e w2 ⟨rfl, hr, hb2⟩)
       go_roundg (6)
       case measure => omega
       case rel => exact ⟨2, 2, by omega, by omega, rfl, rfl, hr, HA.out.on hb2, HB.out.trans hb2⟩
     ·obtain rfl : j = 2 := by omega
      clear hj
      have HD := Lib.hid hD
      have HG2 := Lib.hid (hGl.out wr hB)
      have HA := Lib.hid hA
      have HB := Lib.hid hB
      clear hD hA hB
      by_cases hJi : 2 = J
      ·subst hJi
       have hc : ∀ W, RD W R s k ts → Gl W → Calls Tryz.prog 69 #[.pointer (some ⟨R, 0, none⟩)] W (Stepped W R s true (k + m) ts') := hyes
       have hix := arr_ix2 R
       go_wp2_with (go_at_call 69; refine (hc _ HD.out HG2.out).mono ?_; rintro e w2 ⟨rfl, hr, hb2⟩)
       go_roundg (s.size - (k + m))
       case measure => omega
       case rel => exact ⟨k + m, ts', by omega, hr, HA.out.on hb2, HB.out.trans hb2, HN, by omega⟩
      ·have hlt : 2 < J := by omega
       have hc : ∀ W, RD W R s k ts → Gl W → Calls Tryz.prog 69 #[.pointer (some ⟨R, 0, none⟩)] W (Stepped W R s false k ts) := hno 2 (by omega)
       have hix := arr_ix2 R
       go_wp2_with (go_at_call 69; refine (hc _ HD.out HG2.out).mono ?_; rintro e w2 ⟨rfl, hr, hb2⟩)
       go_roundg (5)
       case measure => omega
       case rel => exact ⟨3, 3, by omega, by omega, rfl, rfl, hr, HA.out.on hb2, HB.out.trans hb2⟩
     ·obtain rfl : j = 3 := by omega
      clear hj
      have HD := Lib.hid hD
      have HG2 := Lib.hid (hGl.out wr hB)
      have HA := Lib.hid hA
      have HB := Lib.hid hB
      clear hD hA hB
      by_cases hJi : 3 = J
      ·subst hJi
       have hc : ∀ W, RD W R s k ts → Gl W → Calls Tryz.prog 70 #[.pointer (some ⟨R, 0, none⟩)] W (Stepped W R s true (k + m) ts') := hyes
       have hix := arr_ix3 R
       go_wp2_with (go_at_call 70; refine (hc _ HD.out HG2.out).mono ?_; rintro e w2 ⟨rfl, hr, hb2⟩)
       go_roundg (s.size - (k + m))
       case measure => omega
       case rel => exact ⟨k + m, ts', by omega, hr, HA.out.on hb2, HB.out.trans hb2, HN, by omega⟩
      ·have hlt : 3 < J := by omega
       have hc : ∀ W, RD W R s k ts → Gl W → Calls Tryz.prog 70 #[.pointer (some ⟨R, 0, none⟩)] W (Stepped W R s false k ts) := hno 3 (by omega)
       have hix := arr_ix3 R
       go_wp2_with (go_at_call 70; refine (hc _ HD.out HG2.out).mono ?_; rintro e w2 ⟨rfl, hr, hb2⟩)
       go_roundg (4)
       case measure => omega
       case rel => exact ⟨4, 4, by omega, by omega, rfl, rfl, hr, HA.out.on hb2, HB.out.trans hb2⟩
     ·obtain rfl : j = 4 := by omega
      clear hj
      have HD := Lib.hid hD
      have HG2 := Lib.hid (hGl.out wr hB)
      have HA := Lib.hid hA
      have HB := Lib.hid hB
      clear hD hA hB
      by_cases hJi : 4 = J
      ·subst hJi
       have hc : ∀ W, RD W R s k ts → Gl W → Calls Tryz.prog 71 #[.pointer (some ⟨R, 0, none⟩)] W (Stepped W R s true (k + m) ts') := hyes
       have hix := arr_ix4 R
       go_wp2_with (go_at_call 71; refine (hc _ HD.out HG2.out).mono ?_; rintro e w2 ⟨rfl, hr, hb2⟩)
       go_roundg (s.size - (k + m))
       case measure => omega
       case rel => exact ⟨k + m, ts', by omega, hr, HA.out.on hb2, HB.out.trans hb2, HN, by omega⟩
      ·have hlt : 4 < J := by omega
       have hc : ∀ W, RD W R s k ts → Gl W → Calls Tryz.prog 71 #[.pointer (some ⟨R, 0, none⟩)] W (Stepped W R s false k ts) := hno 4 (by omega)
       have hix := arr_ix4 R
       go_wp2_with (go_at_call 71; refine (hc _ HD.out HG2.out).mono ?_; rintro e w2 ⟨rfl, hr, hb2⟩)
       go_roundg (3)
       case measure => omega
       case rel => exact ⟨5, 5, by omega, by omega, rfl, rfl, hr, HA.out.on hb2, HB.out.trans hb2⟩
     ·obtain rfl : j = 5 := by omega
      clear hj
      have HD := Lib.hid hD
      have HG2 := Lib.hid (hGl.out wr hB)
      have HA := Lib.hid hA
      have HB := Lib.hid hB
      clear hD hA hB
      by_cases hJi : 5 = J
      ·subst hJi
       have hc : ∀ W, RD W R s k ts → Gl W → Calls Tryz.prog 72 #[.pointer (some ⟨R, 0, none⟩)] W (Stepped W R s true (k + m) ts') := hyes
       have hix := arr_ix5 R
       go_wp2_with (go_at_call 72; refine (hc _ HD.out HG2.out).mono ?_; rintro e w2 ⟨rfl, hr, hb2⟩)
       go_roundg (s.size - (k + m))
       case measure => omega
       case rel => exact ⟨k + m, ts', by omega, hr, HA.out.on hb2, HB.out.trans hb2, HN, by omega⟩
      ·have hlt : 5 < J := by omega
       have hc : ∀ W, RD W R s k ts → Gl W → Calls Tryz.prog 72 #[.pointer (some ⟨R, 0, none⟩)] W (Stepped W R s false k ts) := hno 5 (by omega)
       have hix := arr_ix5 R
       go_wp2_with (go_at_call 72; refine (hc _ HD.out HG2.out).mono ?_; rintro e w2 ⟨rfl, hr, hb2⟩)
       go_roundg (2)
       case measure => omega
       case rel => exact ⟨6, 6, by omega, by omega, rfl, rfl, hr, HA.out.on hb2, HB.out.trans hb2⟩
     ·obtain rfl : j = 6 := by omega
      clear hj
      have HD := Lib.hid hD
      have HG2 := Lib.hid (hGl.out wr hB)
      have HA := Lib.hid hA
      have HB := Lib.hid hB
      clear hD hA hB
      by_cases hJi : 6 = J
      ·subst hJi
       have hc : ∀ W, RD W R s k ts → Gl W → Calls Tryz.prog 73 #[.pointer (some ⟨R, 0, none⟩)] W (Stepped W R s true (k + m) ts') := hyes
       have hix := arr_ix6 R
       go_wp2_with (go_at_call 73; refine (hc _ HD.out HG2.out).mono ?_; rintro e w2 ⟨rfl, hr, hb2⟩)
       go_roundg (s.size - (k + m))
       case measure => omega
       case rel => exact ⟨k + m, ts', by omega, hr, HA.out.on hb2, HB.out.trans hb2, HN, by omega⟩
      ·have hlt : 6 < J := by omega
       have hc : ∀ W, RD W R s k ts → Gl W → Calls Tryz.prog 73 #[.pointer (some ⟨R, 0, none⟩)] W (Stepped W R s false k ts) := hno 6 (by omega)
       have hix := arr_ix6 R
       go_wp2_with (go_at_call 73; refine (hc _ HD.out HG2.out).mono ?_; rintro e w2 ⟨rfl, hr, hb2⟩)
       go_roundg (1)
       case measure => omega
       case rel => exact ⟨7, 7, by omega, by omega, rfl, rfl, hr, HA.out.on hb2, HB.out.trans hb2⟩
     ·obtain rfl : j = 7 := by omega
      clear hj
      have HD := Lib.hid hD
      have HG2 := Lib.hid (hGl.out wr hB)
      have HA := Lib.hid hA
      have HB := Lib.hid hB
      clear hD hA hB
      by_cases hJi : 7 = J
      ·subst hJi
       have hc : ∀ W, RD W R s k ts → Gl W → Calls Tryz.prog 74 #[.pointer (some ⟨R, 0, none⟩)] W (Stepped W R s true (k + m) ts') := hyes
       have hix := arr_ix7 R
       go_wp2_with (go_at_call 74; refine (hc _ HD.out HG2.out).mono ?_; rintro e w2 ⟨rfl, hr, hb2⟩)
       go_roundg (s.size - (k + m))
       case measure => omega
       case rel => exact ⟨k + m, ts', by omega, hr, HA.out.on hb2, HB.out.trans hb2, HN, by omega⟩
      ·have hlt : 7 < J := by omega
       omega
   ·have HS := Lib.hid hst
    clear hst
    go_wp2
    go_quiet (fail)
    go_wp2
    clear z0 z1 z2 z3 z4 z5 z6 z7 c0 c1
    go_loopg [41] 8 (fun g2 s41 wy => ∃ (i : Nat) (j : Int), i + g2 = 8 ∧ i ≤ 4 ∧ j = (i : Int) ∧ s41 = .int .i64 j ∧ RD wy R s k ts ∧ ArrAt wy S R ∧ Bk R w wy)
    case atStart => exact ⟨0, 0, by omega, by omega, rfl, rfl, HD0.out.drewN _, HA0.out.on (bk_drewN R wp nq), HB0.out.trans (bk_drewN _ _ _)⟩
    case round =>
     obtain ⟨i, j, hig, hiJ, hj, rfl, hD, hA, hB⟩ := hrel
     have hcase : i = 0 ∨ i = 1 ∨ i = 2 ∨ i = 3 ∨ i = 4 := by omega
     rcases hcase with rfl | rfl | rfl | rfl | rfl
     ·obtain rfl : j = 0 := by omega
      clear hj
      have HD := Lib.hid hD
      have HG2 := Lib.hid (hGl.out wr hB)
      have HA := Lib.hid hA
      have HB := Lib.hid hB
      clear hD hA hB
      have hc : ∀ W, RD W R s k ts → Gl W → Calls Tryz.prog 67 #[.pointer (some ⟨R, 0, none⟩)] W (Stepped W R s false k ts) := hno 0 (by omega)
      have hix := arr_ix0 R
      go_wp2_with (go_at_call 67; refine (hc _ HD.out HG2.out).mono ?_; rintro e w2 ⟨rfl, hr, hb2⟩)
      go_roundg (7)
      case measure => omega
      case rel => exact ⟨1, 1, by omega, by omega, rfl, rfl, hr, HA.out.on hb2, HB.out.trans hb2⟩
     ·obtain rfl : j = 1 := by omega
      clear hj
      have HD := Lib.hid hD
      have HG2 := Lib.hid (hGl.out wr hB)
      have HA := Lib.hid hA
      have HB := Lib.hid hB
      clear hD hA hB
      have hc : ∀ W, RD W R s k ts → Gl W → Calls Tryz.prog 68 #[.pointer (some ⟨R, 0, none⟩)] W (Stepped W R s false k ts) := hno 1 (by omega)
      have hix := arr_ix1 R
      go_wp2_with (go_at_call 68; refine (hc _ HD.out HG2.out).mono ?_; rintro e w2 ⟨rfl, hr, hb2⟩)
      go_roundg (6)
      case measure => omega
      case rel => exact ⟨2, 2, by omega, by omega, rfl, rfl, hr, HA.out.on hb2, HB.out.trans hb2⟩
     ·obtain rfl : j = 2 := by omega
      clear hj
      have HD := Lib.hid hD
      have HG2 := Lib.hid (hGl.out wr hB)
      have HA := Lib.hid hA
      have HB := Lib.hid hB
      clear hD hA hB
      have hc : ∀ W, RD W R s k ts → Gl W → Calls Tryz.prog 69 #[.pointer (some ⟨R, 0, none⟩)] W (Stepped W R s false k ts) := hno 2 (by omega)
      have hix := arr_ix2 R
      go_wp2_with (go_at_call 69; refine (hc _ HD.out HG2.out).mono ?_; rintro e w2 ⟨rfl, hr, hb2⟩)
      go_roundg (5)
      case measure => omega
      case rel => exact ⟨3, 3, by omega, by omega, rfl, rfl, hr, HA.out.on hb2, HB.out.trans hb2⟩
     ·obtain rfl : j = 3 := by omega
      clear hj
      have HD := Lib.hid hD
      have HG2 := Lib.hid (hGl.out wr hB)
      have HA := Lib.hid hA
      have HB := Lib.hid hB
      clear hD hA hB
      have hc : ∀ W, RD W R s k ts → Gl W → Calls Tryz.prog 70 #[.pointer (some ⟨R, 0, none⟩)] W (Stepped W R s false k ts) := hno 3 (by omega)
      have hix := arr_ix3 R
      go_wp2_with (go_at_call 70; refine (hc _ HD.out HG2.out).mono ?_; rintro e w2 ⟨rfl, hr, hb2⟩)
      go_roundg (4)
      case measure => omega
      case rel => exact ⟨4, 4, by omega, by omega, rfl, rfl, hr, HA.out.on hb2, HB.out.trans hb2⟩
     ·obtain rfl : j = 4 := by omega
      clear hj
      have HD := Lib.hid hD
      have HG2 := Lib.hid (hGl.out wr hB)
      have HA := Lib.hid hA
      have HB := Lib.hid hB
      clear hD hA hB
      have hc : ∀ W, RD W R s k ts → Gl W → Calls Tryz.prog 71 #[.pointer (some ⟨R, 0, none⟩)] W (Bad W R k) := hbad
      have hix := arr_ix4 R
      go_wp2_with (go_at_call 71; refine (hc _ HD.out HG2.out).mono ?_; rintro e w2 ⟨rfl, hb2⟩)
      exact ⟨rfl, read_bad HR.out HNE.out HS.out ⟨rfl, HB.out.1.trans hb2⟩⟩
   ·have HS := Lib.hid hst
    clear hst
    go_wp2
    go_quiet (fail)
    go_wp2
    clear z0 z1 z2 z3 z4 z5 z6 z7 c0 c1
    go_loopg [41] 8 (fun g2 s41 wy => ∃ (i : Nat) (j : Int), i + g2 = 8 ∧ i ≤ 8 ∧ j = (i : Int) ∧ s41 = .int .i64 j ∧ RD wy R s k ts ∧ ArrAt wy S R ∧ Bk R w wy)
    case atStart => exact ⟨0, 0, by omega, by omega, rfl, rfl, HD0.out.drewN _, HA0.out.on (bk_drewN R wp nq), HB0.out.trans (bk_drewN _ _ _)⟩
    case round =>
     obtain ⟨i, j, hig, hiJ, hj, rfl, hD, hA, hB⟩ := hrel
     have hcase : i = 0 ∨ i = 1 ∨ i = 2 ∨ i = 3 ∨ i = 4 ∨ i = 5 ∨ i = 6 ∨ i = 7 ∨ i = 8 := by omega
     rcases hcase with rfl | rfl | rfl | rfl | rfl | rfl | rfl | rfl | rfl
     ·obtain rfl : j = 0 := by omega
      clear hj
      have HD := Lib.hid hD
      have HG2 := Lib.hid (hGl.out wr hB)
      have HA := Lib.hid hA
      have HB := Lib.hid hB
      clear hD hA hB
      have hc : ∀ W, RD W R s k ts → Gl W → Calls Tryz.prog 67 #[.pointer (some ⟨R, 0, none⟩)] W (Stepped W R s false k ts) := hno 0 (by omega)
      have hix := arr_ix0 R
      go_wp2_with (go_at_call 67; refine (hc _ HD.out HG2.out).mono ?_; rintro e w2 ⟨rfl, hr, hb2⟩)
      go_roundg (7)
      case measure => omega
      case rel => exact ⟨1, 1, by omega, by omega, rfl, rfl, hr, HA.out.on hb2, HB.out.trans hb2⟩
     ·obtain rfl : j = 1 := by omega
      clear hj
      have HD := Lib.hid hD
      have HG2 := Lib.hid (hGl.out wr hB)
      have HA := Lib.hid hA
      have HB := Lib.hid hB
      clear hD hA hB
      have hc : ∀ W, RD W R s k ts → Gl W → Calls Tryz.prog 68 #[.pointer (some ⟨R, 0, none⟩)] W (Stepped W R s false k ts) := hno 1 (by omega)
      have hix := arr_ix1 R
      go_wp2_with (go_at_call 68; refine (hc _ HD.out HG2.out).mono ?_; rintro e w2 ⟨rfl, hr, hb2⟩)
      go_roundg (6)
      case measure => omega
      case rel => exact ⟨2, 2, by omega, by omega, rfl, rfl, hr, HA.out.on hb2, HB.out.trans hb2⟩
     ·obtain rfl : j = 2 := by omega
      clear hj
      have HD := Lib.hid hD
      have HG2 := Lib.hid (hGl.out wr hB)
      have HA := Lib.hid hA
      have HB := Lib.hid hB
      clear hD hA hB
      have hc : ∀ W, RD W R s k ts → Gl W → Calls Tryz.prog 69 #[.pointer (some ⟨R, 0, none⟩)] W (Stepped W R s false k ts) := hno 2 (by omega)
      have hix := arr_ix2 R
      go_wp2_with (go_at_call 69; refine (hc _ HD.out HG2.out).mono ?_; rintro e w2 ⟨rfl, hr, hb2⟩)
      go_roundg (5)
      case measure => omega
      case rel => exact ⟨3, 3, by omega, by omega, rfl, rfl, hr, HA.out.on hb2, HB.out.trans hb2⟩
     ·obtain rfl : j = 3 := by omega
      clear hj
      have HD := Lib.hid hD
      have HG2 := Lib.hid (hGl.out wr hB)
      have HA := Lib.hid hA
      have HB := Lib.hid hB
      clear hD hA hB
      have hc : ∀ W, RD W R s k ts → Gl W → Calls Tryz.prog 70 #[.pointer (some ⟨R, 0, none⟩)] W (Stepped W R s false k ts) := hno 3 (by omega)
      have hix := arr_ix3 R
      go_wp2_with (go_at_call 70; refine (hc _ HD.out HG2.out).mono ?_; rintro e w2 ⟨rfl, hr, hb2⟩)
      go_roundg (4)
      case measure => omega
      case rel => exact ⟨4, 4, by omega, by omega, rfl, rfl, hr, HA.out.on hb2, HB.out.trans hb2⟩
     ·obtain rfl : j = 4 := by omega
      clear hj
      have HD := Lib.hid hD
      have HG2 := Lib.hid (hGl.out wr hB)
      have HA := Lib.hid hA
      have HB := Lib.hid hB
      clear hD hA hB
      have hc : ∀ W, RD W R s k ts → Gl W → Calls Tryz.prog 71 #[.pointer (some ⟨R, 0, none⟩)] W (Stepped W R s false k ts) := hno 4 (by omega)
      have hix := arr_ix4 R
      go_wp2_with (go_at_call 71; refine (hc _ HD.out HG2.out).mono ?_; rintro e w2 ⟨rfl, hr, hb2⟩)
      go_roundg (3)
      case measure => omega
      case rel => exact ⟨5, 5, by omega, by omega, rfl, rfl, hr, HA.out.on hb2, HB.out.trans hb2⟩
     ·obtain rfl : j = 5 := by omega
      clear hj
      have HD := Lib.hid hD
      have HG2 := Lib.hid (hGl.out wr hB)
      have HA := Lib.hid hA
      have HB := Lib.hid hB
      clear hD hA hB
      have hc : ∀ W, RD W R s k ts → Gl W → Calls Tryz.prog 72 #[.pointer (some ⟨R, 0, none⟩)] W (Stepped W R s false k ts) := hno 5 (by omega)
      have hix := arr_ix5 R
      go_wp2_with (go_at_call 72; refine (hc _ HD.out HG2.out).mono ?_; rintro e w2 ⟨rfl, hr, hb2⟩)
      go_roundg (2)
      case measure => omega
      case rel => exact ⟨6, 6, by omega, by omega, rfl, rfl, hr, HA.out.on hb2, HB.out.trans hb2⟩
     ·obtain rfl : j = 6 := by omega
      clear hj
      have HD := Lib.hid hD
      have HG2 := Lib.hid (hGl.out wr hB)
      have HA := Lib.hid hA
      have HB := Lib.hid hB
      clear hD hA hB
      have hc : ∀ W, RD W R s k ts → Gl W → Calls Tryz.prog 73 #[.pointer (some ⟨R, 0, none⟩)] W (Stepped W R s false k ts) := hno 6 (by omega)
      have hix := arr_ix6 R
      go_wp2_with (go_at_call 73; refine (hc _ HD.out HG2.out).mono ?_; rintro e w2 ⟨rfl, hr, hb2⟩)
      go_roundg (1)
      case measure => omega
      case rel => exact ⟨7, 7, by omega, by omega, rfl, rfl, hr, HA.out.on hb2, HB.out.trans hb2⟩
     ·obtain rfl : j = 7 := by omega
      clear hj
      have HD := Lib.hid hD
      have HG2 := Lib.hid (hGl.out wr hB)
      have HA := Lib.hid hA
      have HB := Lib.hid hB
      clear hD hA hB
      have hc : ∀ W, RD W R s k ts → Gl W → Calls Tryz.prog 74 #[.pointer (some ⟨R, 0, none⟩)] W (Stepped W R s false k ts) := hno 7 (by omega)
      have hix := arr_ix7 R
      go_wp2_with (go_at_call 74; refine (hc _ HD.out HG2.out).mono ?_; rintro e w2 ⟨rfl, hr, hb2⟩)
      go_roundg (0)
      case measure => omega
      case rel => exact ⟨8, 8, by omega, by omega, rfl, rfl, hr, HA.out.on hb2, HB.out.trans hb2⟩
     ·obtain rfl : j = 8 := by omega
      clear hj
      have HD := Lib.hid hD
      have HG2 := Lib.hid (hGl.out wr hB)
      have HA := Lib.hid hA
      have HB := Lib.hid hB
      clear hD hA hB
      obtain ⟨_, v2, hb2, _⟩ := HD.out
      obtain ⟨_, d1, _, _, _⟩ := rd_cells hb2
      clear hb2
      go_wp2
      exact ⟨rfl, read_bad HR.out HNE.out HS.out ⟨rfl, HB.out.1⟩⟩
  ·obtain rfl : k = s.size := by omega
   have hend := fun n => endLine_any (wp.drewN n) R s.size s ts (HD0.out.drewN n) (by omega) (by omega)
   have HE := HR.out
   rw [← size_list, List.drop_length, size_list] at HE
   have HE2 := Lib.hid HE
   clear HE z0 z1 z2 z3 z4 z5 z6 z7
   have hel : (endL ts s.size).length ≤ 5000 := endL_len ts s.size (by omega)
   obtain ⟨T, hT⟩ : ∃ T, endL ts s.size = T := ⟨_, rfl⟩
   rw [hT] at hend hel
   have HT := Lib.hid hT
   clear hT
   go_wp2
   go_quiet (fail)
   go_wp2_with fail
   refine (hend _).mono ?_
   rintro e w2 ⟨rfl, hr, hb2⟩
   have HR2 := Lib.hid hr
   have HB2 := Lib.hid (HB0.out.trans ((bk_drewN R wp nq).trans hb2))
   obtain ⟨_, v2, hbb, hown⟩ := hr
   obtain ⟨A, c, rfl, _, _⟩ := own_slice4 hown
   obtain ⟨_, _, d2, _, _⟩ := rd_cells hbb
   obtain ⟨q, hq⟩ : ∃ q, T.length = q := ⟨_, rfl⟩
   have HQ := Lib.hid hq
   rw [hq] at d2 hel
   clear hbb hown hq hend hb2 c0 c1
   by_cases hbig : 1000 < q
   ·have hbig' : (1000 : Int) < (q : Int) := by omega
    go_wp2
    refine ⟨rfl, read_end HE2.out ?_⟩
    rw [HT.out]
    rw [readTold_inl, if_pos (by rw [HQ.out]; exact hbig)]
    exact ⟨rfl, HB2.out.1⟩
   ·have hbig' : ¬ (1000 : Int) < (q : Int) := by omega
    go_wp2
    go_end0
    refine read_end HE2.out ?_
    rw [HT.out]
    rw [readTold_inl, if_neg (by rw [HQ.out]; exact hbig)]
    exact ⟨rfl, ⟨_, HR2.out⟩, HB2.out⟩
end Go.Proofs.YthaibekbefndlaaGreatDoor.C

namespace Go.Proofs.YthaibekbefndlaaGreatDoor.C
open Go.RowKit

theorem assert_long (W : World) : (Instr.typeAssert (.iface 127 (.agg #[])) 20 127 true).run Tryz.prog W = .ok (.tuple #[.agg #[], .bool true]) W := by kernel_rfl
theorem assert_not (k : Int) (W : World) : (Instr.typeAssert (.iface 128 (.int .i64 k)) 20 127 true).run Tryz.prog W = .ok (.tuple #[.agg #[], .bool false]) W := by kernel_rfl
theorem assert_bad (k : Int) (W : World) : (Instr.typeAssert (.iface 128 (.int .i64 k)) 20 128 true).run Tryz.prog W = .ok (.tuple #[.int .i64 k, .bool true]) W := by kernel_rfl
set_option maxRecDepth 100000 in
set_option maxHeartbeats 1000000 in
theorem whatIs_long (w : World) (R : Nat) :
  Calls Tryz.prog 34 #[.pointer (some ⟨R, 0, none⟩), .iface 127 (.agg #[])] w fun e w' => e = .returned (.tuple #[.int .u16 3, .int .i64 0]) ∧ Below w.heap.size w w' := by
 have q0 := assert_long
 go_enter Tryz.func34, Tryz.ntmps34
 go_wp2
 go_ret2
 exact ⟨rfl, (Below.refl _ _).alloc (Nat.le_refl _) _⟩
set_option maxRecDepth 100000 in
set_option maxHeartbeats 1000000 in
theorem whatIs_bad (w : World) (R : Nat) (k : Int) :
  Calls Tryz.prog 34 #[.pointer (some ⟨R, 0, none⟩), .iface 128 (.int .i64 k)] w fun e w' => e = .returned (.tuple #[.int .u16 20, .int .i64 k]) ∧ Below w.heap.size w w' := by
 have q0 := assert_not k
 have q1 := assert_bad k
 go_enter Tryz.func34, Tryz.ntmps34
 go_wp2
 go_ret2
 exact ⟨rfl, Below.refl _ _⟩

def Caught (w : World) (E A : Nat) (er : Nat) (k : Int) (w' : World) : Prop := ∃ w1, Below w.heap.size w w1 ∧ w' = (w1.setCell ⟨E, 0, none⟩ (.int .u16 er)).setCell ⟨A, 0, none⟩ (.int .i64 k)
def ErrAt (w : World) (E A : Nat) : Prop := w.heap[E]? = some (.cells #[.int .u16 0] 28 (0, 0)) ∧ w.heap[A]? = some (.cells #[.int .i64 0] 3 (0, 0)) ∧ E ≠ A

theorem catch_of (w : World) (R E A : Nat) (t : TypeId) (pv : Value) (older : List PanicEntry) (er : Nat) (k : Int) (hE : ErrAt w E A)
  (hw : ∀ W, Calls Tryz.prog 34 #[.pointer (some ⟨R, 0, none⟩), .iface t pv] W fun e w' => e = .returned (.tuple #[.int .u16 er, .int .i64 k]) ∧ Below W.heap.size W w') :
  CallsD Tryz.prog 33 #[.pointer (some ⟨R, 0, none⟩), .pointer (some ⟨E, 0, none⟩), .pointer (some ⟨A, 0, none⟩)] (.panicking ({ v := .iface t pv, recovered := false } :: older)) w fun e u' w' =>
   e = .returned (.tuple #[]) ∧ u' = .panicking ({ v := .iface t pv, recovered := true } :: older) ∧ Caught w E A er k w' := by
 obtain ⟨h1, h2, hne⟩ := hE
 have hl1 := (Array.getElem?_eq_some_iff.1 h1).1
 have hl2 := (Array.getElem?_eq_some_iff.1 h2).1
 refine callsD_of_wpS Tryz.func33 rfl fun c₀ cs hu => ?_
 apply wpS_seq
 apply wpS_region
 simp [wpOpsS, go_sem, recoverD, hu, Tryz.ntmps33, Exit.thenS]
 simp only [Array.replicate_succ, Array.replicate_zero, List.push_toArray, List.setIfInBounds_toArray, List.set_cons_zero, List.set_cons_succ, List.append_toArray, List.nil_append, List.cons_append]
 refine wpS_of_wp ?_
 go_wp2_with fail
 refine (hw _).mono ?_
 rintro e w1 ⟨rfl, hb1⟩
 have k1 := (hb1.block E hl1).trans h1
 have k2 := (hb1.block A hl2).trans h2
 have c1 : w1.cell? ⟨E, 0, none⟩ = some (.int .u16 0) := by simp [World.cell?, k1]
 have c2 : w1.cell? ⟨A, 0, none⟩ = some (.int .i64 0) := by simp [World.cell?, k2]
 have f1 : w1.frozen? ⟨E, 0, none⟩ = false := by simp [World.frozen?, k1]
 have f2 : w1.frozen? ⟨A, 0, none⟩ = false := by simp [World.frozen?, k2]
 clear k1 k2 h1 h2
 go_wp2
 have hC : Caught w E A er k ((w1.setCell ⟨E, 0, none⟩ (.int .u16 er)).setCell ⟨A, 0, none⟩ (.int .i64 k)) := ⟨w1, hb1, rfl⟩
 simp [bodyPostS, results, Tryz.results33, hC]

theorem catch_idle (w : World) (R E A : Nat) :
  CallsD Tryz.prog 33 #[.pointer (some ⟨R, 0, none⟩), .pointer (some ⟨E, 0, none⟩), .pointer (some ⟨A, 0, none⟩)] .returning w fun e u' w' => e = .returned (.tuple #[]) ∧ u' = .returning ∧ w' = w := by
 refine callsD_of_wpS Tryz.func33 rfl fun c₀ cs hu => ?_
 apply wpS_seq
 apply wpS_region
 simp [wpOpsS, go_sem, recoverD, hu, Tryz.ntmps33, Exit.thenS]
 simp only [Array.replicate_succ, Array.replicate_zero, List.push_toArray, List.setIfInBounds_toArray, List.set_cons_zero, List.set_cons_succ, List.append_toArray, List.nil_append, List.cons_append]
 refine wpS_of_wp ?_
 go_wp2
 cases c₀
 simp_all [bodyPostS, results, Tryz.results33]
end Go.Proofs.YthaibekbefndlaaGreatDoor.C

namespace Go.Proofs.YthaibekbefndlaaGreatDoor.C
open Go.RowKit

def TI (w : World) (B : Nat) (A : Option Addr) (n : Nat) (ts : List Tok) : Prop :=
 ts.length = n ∧ (0 < n → ∃ ad, A = some ad ∧ ad.block < B ∧ ∀ j x, ts[j]? = some x → ∀ i u, (tkC x)[i]? = some u → w.cell? (ad.add (j * 4 + i)) = some u)
section
variable {w w' : World} {B B' n : Nat} {A : Option Addr} {ts : List Tok}
theorem TI.len (h : TI w B A n ts) : ts.length = n := h.1
theorem TI.nil (w : World) (B : Nat) (A : Option Addr) : TI w B A 0 [] := ⟨rfl, fun h => absurd h (by omega)⟩
theorem TI.keep (h : TI w B A n ts) (hk : ∀ p : Addr, p.block < B → w'.cell? p = w.cell? p) : TI w' B A n ts :=
 ⟨h.1, fun hn => by
  obtain ⟨ad, e, hb, hc⟩ := h.2 hn
  exact ⟨ad, e, hb, fun j x hx i u hu => (hk _ (by rw [block_of_add]; exact hb)).trans (hc j x hx i u hu)⟩⟩
theorem TI.more (h : TI w B A n ts) (hB : B ≤ B') : TI w B' A n ts :=
 ⟨h.1, fun hn => by
  obtain ⟨ad, e, hb, hc⟩ := h.2 hn
  exact ⟨ad, e, by omega, hc⟩⟩
theorem TI.on (h : TI w B A n ts) (hb : Below B' w w') (hB : B ≤ B') : TI w' B A n ts := h.keep fun p hp => hb.cell (p := p) (by omega)
theorem TI.drewN (h : TI w B A n ts) (k : Nat) : TI (w.drewN k) B A n ts := h
theorem TI.at_ (h : TI w B A n ts) {k : Nat} (hk : k < n) : ∃ ad x, A = some ad ∧ ad.block < B ∧ ts[k]? = some x ∧ (∀ i u, (tkC x)[i]? = some u → w.cell? (ad.add (k * 4 + i)) = some u) := by
 obtain ⟨ad, e, hb, hc⟩ := h.2 (by omega)
 have hl : k < ts.length := by have := h.1; omega
 exact ⟨ad, ts[k], e, hb, List.getElem?_eq_getElem hl, hc k _ (List.getElem?_eq_getElem hl)⟩
theorem TI.of_own {base : Nat} {v : Value} (h : w.ownsRow base 92 4 v n (tksC ts)) (hl : ts.length = n) : ∃ A c, v = .slice A n c ∧ n ≤ c ∧ c ≤ maxLen ∧ TI w w.heap.size A n ts := by
 rcases h.2 with ⟨rfl, h0⟩ | ⟨g, c, cur, rfl, _, hg, hnc, hm, _⟩
 ·obtain rfl : n = 0 := by have := h.1; rw [h0] at this; simp at this; omega
  obtain rfl : ts = [] := List.eq_nil_of_length_eq_zero hl
  exact ⟨none, 0, rfl, Nat.le_refl _, Nat.zero_le _, TI.nil _ _ _⟩
 ·refine ⟨_, c, rfl, hnc, hm, hl, fun _ => ⟨_, rfl, (Array.getElem?_eq_some_iff.1 hg).1, fun j x hx i u hu => ?_⟩⟩
  have hi : i < 4 := by
   have := (List.getElem?_eq_some_iff.1 hu).1
   simpa [tkC] using this
  exact h.cells (g := g) rfl _ _ ((tks_at hx i hi).trans hu)
end

theorem rd_new (w : World) (s : ByteArray) (h : glN ≤ w.heap.size) : RD (w.alloc (.cells #[.string s, .int .i64 0, .slice none 0 0] 85)) w.heap.size s 0 [] :=
 ⟨h, .slice none 0 0, heap_new _ _, World.ownsRow_nil _ _ _ _⟩

def tokW (w : World) (s : ByteArray) : World := ((w.alloc (.cells #[.int .u16 0] 28)).alloc (.cells #[.int .i64 0] 3)).alloc (.cells #[.string s, .int .i64 0, .slice none 0 0] 85)
theorem tokW_below (w : World) (s : ByteArray) : Below w.heap.size w (tokW w s) := (((Below.refl _ _).alloc (Nat.le_refl _) _).alloc (by simp) _).alloc (by simp; omega) _
theorem tokW_rd (w : World) (s : ByteArray) (hG : Gl w) : RD (tokW w s) (w.heap.size + 1 + 1) s 0 [] := by
 have := rd_new ((w.alloc (.cells #[.int .u16 0] 28)).alloc (.cells #[.int .i64 0] 3)) s (by have := hG.top; simp; omega)
 simp only [World.size_alloc] at this
 exact this
theorem tokW_err (w : World) (s : ByteArray) : ErrAt (tokW w s) w.heap.size (w.heap.size + 1) := by
 refine ⟨?_, ?_, by omega⟩
 ·unfold tokW
  rw [heap_lt _ _ (by simp; omega), heap_lt _ _ (by simp), heap_new]
 ·unfold tokW
  rw [heap_lt _ _ (by simp)]
  have := heap_new (w.alloc (.cells #[.int .u16 0] 28)) (.cells #[.int .i64 0] 3)
  simpa using this
theorem ErrAt.on {w w' : World} {E A R : Nat} (h : ErrAt w E A) (hb : Below R w w') (h1 : E < R) (h2 : A < R) : ErrAt w' E A :=
 ⟨(hb.block E h1).trans h.1, (hb.block A h2).trans h.2.1, h.2.2⟩

set_option maxRecDepth 100000 in
set_option maxHeartbeats 4000000 in
theorem tok_err (s : ByteArray) (w : World) (hG : Gl w) (t : TypeId) (pv : Value) (er : Nat) (k : Int)
  (hread : ∀ W R, RD W R s 0 [] → Gl W → Calls Tryz.prog 35 #[.pointer (some ⟨R, 0, none⟩)] W fun e w' => e = .panicked [{ v := .iface t pv, recovered := false }] ∧ Below R W w')
  (hw : ∀ R W, Calls Tryz.prog 34 #[.pointer (some ⟨R, 0, none⟩), .iface t pv] W fun e w' => e = .returned (.tuple #[.int .u16 er, .int .i64 k]) ∧ Below W.heap.size W w') :
  Calls Tryz.prog 18 #[.string s] w fun e w' => e = .returned (.tuple #[.slice none 0 0, .int .u16 er, .int .i64 k]) ∧ Below w.heap.size w w' := by
 have hmf : ∀ (fn : Fn) (first cap : Array Value) (w : World), (Instr.makeFunc fn first cap).run Tryz.prog w = .ok (.func fn first cap) w := fun _ _ _ _ => rfl
 have hr := hread _ _ (tokW_rd w s hG) (hG.next (tokW_below w s))
 have HB := Lib.hid (tokW_below w s)
 have HE := Lib.hid (tokW_err w s)
 clear hG
 unfold tokW at hr HB HE
 go_enter_defers Tryz.func18, Tryz.ntmps18
 go_wp2_with fail
 refine hr.mono ?_
 rintro e w1 ⟨rfl, hb1⟩
 have hE1 := HE.out.on hb1 (by omega) (by omega)
 have HB1 := Lib.hid (HB.out.trans (hb1.mono (by omega)))
 clear hb1 HB HE hr
 obtain ⟨E, hEq⟩ : ∃ E, w.heap.size = E := ⟨_, rfl⟩
 rw [hEq] at hE1 HB1 ⊢
 have HEq := Lib.hid hEq
 clear hEq
 go_wp2
 refine leaves_cons (f := 33) (args := #[.pointer (some ⟨E + 1 + 1, 0, none⟩), .pointer (some ⟨E, 0, none⟩), .pointer (some ⟨E + 1, 0, none⟩)]) (by simp) (by simp [go_sem]) ?_
 refine (catch_of _ _ _ _ t pv [] er k hE1 (hw _)).mono ?_
 rintro e u' w2 ⟨rfl, rfl, w3, hb3, rfl⟩
 obtain ⟨k1, k2, hne⟩ := hE1
 have k3 := (hb3.block E (Array.getElem?_eq_some_iff.1 k1).1).trans k1
 have k4 := (hb3.block (E + 1) (Array.getElem?_eq_some_iff.1 k2).1).trans k2
 have c3 : w3.cell? ⟨E, 0, none⟩ = some (.int .u16 0) := by simp [World.cell?, k3]
 have c4 : w3.cell? ⟨E + 1, 0, none⟩ = some (.int .i64 0) := by simp [World.cell?, k4]
 have hB : Below E w ((w3.setCell ⟨E, 0, none⟩ (.int .u16 er)).setCell ⟨E + 1, 0, none⟩ (.int .i64 k)) :=
  ((HB1.out.trans (hb3.mono (by have := HB1.out.size; have := (Array.getElem?_eq_some_iff.1 k1).1; omega))).setCell (p := ⟨E, 0, none⟩) (Nat.le_refl E) _).setCell (p := ⟨E + 1, 0, none⟩) (by show E ≤ E + 1; omega) _
 clear k1 k2 k3 k4
 simp [Leaves, settle, results, Tryz.results18, go_sem, c3, c4]
 rw [HEq.out]
 exact hB

set_option maxRecDepth 100000 in
set_option maxHeartbeats 4000000 in
theorem tok_ok (s : ByteArray) (w : World) (hG : Gl w) (ts : List Tok)
  (hread : ∀ W R, RD W R s 0 [] → Gl W → Calls Tryz.prog 35 #[.pointer (some ⟨R, 0, none⟩)] W fun e w' => e = .returned (.tuple #[]) ∧ (∃ k, RD w' R s k ts) ∧ Bk R W w') :
  Calls Tryz.prog 18 #[.string s] w fun e w' => ∃ A n c, e = .returned (.tuple #[.slice A n c, .int .u16 0, .int .i64 0]) ∧ n ≤ c ∧ c ≤ maxLen ∧ TI w' w'.heap.size A n ts ∧ Below w.heap.size w w' := by
 have hmf : ∀ (fn : Fn) (first cap : Array Value) (w : World), (Instr.makeFunc fn first cap).run Tryz.prog w = .ok (.func fn first cap) w := fun _ _ _ _ => rfl
 have hr := hread _ _ (tokW_rd w s hG) (hG.next (tokW_below w s))
 have HB := Lib.hid (tokW_below w s)
 have HE := Lib.hid (tokW_err w s)
 clear hG
 unfold tokW at hr HB HE
 go_enter_defers Tryz.func18, Tryz.ntmps18
 go_wp2_with fail
 refine hr.mono ?_
 rintro e w1 ⟨rfl, ⟨kk, hrd⟩, hb1⟩
 have hE1 := HE.out.on hb1.1 (by omega) (by omega)
 have HB1 := Lib.hid (HB.out.trans (hb1.1.mono (by omega)))
 clear hb1 HB HE hr
 obtain ⟨E, hEq⟩ : ∃ E, w.heap.size = E := ⟨_, rfl⟩
 rw [hEq] at hE1 HB1 hrd ⊢
 have HEq := Lib.hid hEq
 clear hEq
 obtain ⟨_, v, hb, hown⟩ := hrd
 obtain ⟨A, c, rfl, _, _⟩ := own_slice4 hown
 obtain ⟨_, _, d2, _, _⟩ := rd_cells hb
 obtain ⟨k1, k2, hne⟩ := hE1
 have c1 : w1.cell? ⟨E, 0, none⟩ = some (.int .u16 0) := by simp [World.cell?, k1]
 have c2 : w1.cell? ⟨E + 1, 0, none⟩ = some (.int .i64 0) := by simp [World.cell?, k2]
 have f1 : w1.frozen? ⟨E, 0, none⟩ = false := by simp [World.frozen?, k1]
 have f2 : w1.frozen? ⟨E + 1, 0, none⟩ = false := by simp [World.frozen?, k2]
 have hn1 := row_ne hown k1 (by decide)
 have hn2 := row_ne hown k2 (by decide)
 have hB : Below E w ((w1.setCell ⟨E, 0, none⟩ (.int .u16 0)).setCell ⟨E + 1, 0, none⟩ (.int .i64 0)) :=
  (HB1.out.setCell (p := ⟨E, 0, none⟩) (Nat.le_refl E) _).setCell (p := ⟨E + 1, 0, none⟩) (by show E ≤ E + 1; omega) _
 have hO : ((w1.setCell ⟨E, 0, none⟩ (.int .u16 0)).setCell ⟨E + 1, 0, none⟩ (.int .i64 0)).ownsRow (E + 1 + 1) 92 4 (.slice A ts.length c) ts.length (tksC ts) :=
  (hown.kept (Lib.grownBy_setCell w1 E 0 _) (.inr hn1)).kept (Lib.grownBy_setCell _ (E + 1) 0 _) (.inr hn2)
 obtain ⟨A', c', he, h1, h2, h3⟩ := TI.of_own hO rfl
 obtain ⟨rfl, rfl⟩ : A' = A ∧ c' = c := by injection he with e1 e2 e3; exact ⟨e1.symm, e3.symm⟩
 have HF := Lib.hid (And.intro h1 (And.intro h2 (And.intro h3 hB)))
 clear k1 k2 hb hown hO he h3 hB HB1
 obtain ⟨n, hn⟩ : ∃ n, ts.length = n := ⟨_, rfl⟩
 rw [hn] at d2 HF h1
 clear hn
 go_wp2
 refine leaves_cons (f := 33) (args := #[.pointer (some ⟨E + 1 + 1, 0, none⟩), .pointer (some ⟨E, 0, none⟩), .pointer (some ⟨E + 1, 0, none⟩)]) (by simp) (by simp [go_sem]) ?_
 refine (catch_idle _ _ _ _).mono ?_
 rintro e u' w2 ⟨rfl, rfl, rfl⟩
 simp [Leaves, settle, results, Tryz.results18, go_sem, c1, c2]
 refine ⟨_, _, _, ⟨rfl, rfl, rfl⟩, HF.out.1, HF.out.2.1, ?_, ?_⟩
 ·have := HF.out.2.2.1
  simpa using this
 ·rw [HEq.out]
  exact HF.out.2.2.2

def TokTold (w : World) (r : List Tok × Nat × Nat) (e : Ending) (w' : World) : Prop :=
 ∃ A n c, e = .returned (.tuple #[.slice A n c, .int .u16 r.2.1, .int .i64 r.2.2]) ∧ n ≤ c ∧ c ≤ maxLen ∧ TI w' w'.heap.size A n r.1 ∧ Below w.heap.size w w'
theorem tok_none {s : ByteArray} {w : World} {er k : Nat} (h : Calls Tryz.prog 18 #[.string s] w fun e w' => e = .returned (.tuple #[.slice none 0 0, .int .u16 er, .int .i64 k]) ∧ Below w.heap.size w w') :
  Calls Tryz.prog 18 #[.string s] w (TokTold w ([], er, k)) :=
 h.mono fun _ _ ⟨he, hb⟩ => ⟨none, 0, 0, he, Nat.le_refl _, Nat.zero_le _, TI.nil _ _ _, hb⟩
theorem tokens_any (s : ByteArray) (w : World) (hG : Gl w) : Calls Tryz.prog 18 #[.string s] w (TokTold w (lexL s.data.toList)) := by
 unfold lexL
 by_cases h4 : 4000 < s.data.toList.length
 ·rw [if_pos h4]
  rw [size_list] at h4
  exact tok_none (tok_err s w hG _ _ 3 0 (fun W R hW _ => read_long W R 0 s [] hW h4) (fun R W => whatIs_long W R))
 ·rw [if_neg h4]
  have hs : s.size ≤ 4000 := by rw [size_list] at h4; omega
  cases hr : runL s.data.toList 0 [] with
  | inr k =>
   refine tok_none (tok_err s w hG _ _ 20 k (fun W R hW hGW => ?_) (fun R W => whatIs_bad W R k))
   have := read_any W R s hW hGW hs
   rw [hr] at this
   exact this
  | inl ts =>
   simp only
   by_cases hb : 1000 < ts.length
   ·rw [if_pos hb]
    refine tok_none (tok_err s w hG _ _ 3 0 (fun W R hW hGW => ?_) (fun R W => whatIs_long W R))
    have := read_any W R s hW hGW hs
    rw [hr] at this
    refine this.mono fun e w' h => ?_
    rw [readTold_inl, if_pos hb] at h
    exact h
   ·rw [if_neg hb]
    refine tok_ok s w hG ts (fun W R hW hGW => ?_)
    have := read_any W R s hW hGW hs
    rw [hr] at this
    refine this.mono fun e w' h => ?_
    rw [readTold_inl, if_neg hb] at h
    exact h
end Go.Proofs.YthaibekbefndlaaGreatDoor.C

namespace Go.Proofs.YthaibekbefndlaaGreatDoor.C
open Go.RowKit


set_option maxHeartbeats 1000000 in
theorem tz64_16 (w : World) (h : w.cell? ⟨10, 15, none⟩ = some (.int .u8 4)) : Calls Tryz.prog 260 #[.int .u64 16] w fun e w' => e = .returned (.int .i64 4) ∧ w = w' := by
 have key : IntKind.u64.wrap (bits BinOp.and IntKind.u64 16 (IntKind.u64.wrap (-16)) * 285870213051353865) / 288230376151711744 = 15 := by decide +kernel
 go_enter Tryz.func260, Tryz.ntmps260
 go_wp2_with (simp only [key])
 all_goals go_ret
 all_goals exact ⟨rfl, rfl⟩

set_option maxHeartbeats 1000000 in
theorem isPow_16 (w : World) : Calls Tryz.prog 249 #[.int .i64 16] w fun e w' => e = .returned (.bool true) ∧ w = w' := by
 go_enter Tryz.func249, Tryz.ntmps249
 go_wp2
 all_goals go_ret
 all_goals exact ⟨rfl, rfl⟩

set_option maxHeartbeats 1000000 in
theorem tz_16 (w : World) (h : w.cell? ⟨10, 15, none⟩ = some (.int .u8 4)) : Calls Tryz.prog 250 #[.int .u64 16] w fun e w' => e = .returned (.int .i64 4) ∧ w = w' := by
 go_enter Tryz.func250, Tryz.ntmps250
 go_wp2_with fail
 refine (tz64_16 w h).mono ?_
 rintro e w' ⟨rfl, rfl⟩
 go_wp2
 all_goals go_ret
 all_goals exact ⟨rfl, rfl⟩

def zeros65 : Array Value := (Lib.byteCells (List.replicate 65 0)).toArray
theorem zeroArray (w : World) : (zeroValue 260).run Tryz.prog w = .ok (.agg zeros65) w := by kernel_rfl

def Digits (w : World) (g k : Nat) (d : List UInt8) : Prop := ∃ z : List UInt8, z.length = k ∧ w.heap[g]? = some (.cells (Lib.byteCells (z ++ d)).toArray 260 (0, 0))

theorem digits_start (w : World) : Digits (w.alloc (.cells zeros65 260)) w.heap.size 65 [] :=
 ⟨List.replicate 65 0, by simp, by rw [List.append_nil]; exact heap_alloc_new w _⟩
theorem digits_cell {w : World} {g k : Nat} {d : List UInt8} (h : Digits w g (k + 1) d) : ∃ x, w.cell? ⟨g, k, none⟩ = some (.int .u8 x) := by
 obtain ⟨z, hz, hg⟩ := h
 have hk : k < (z ++ d).length := by simp; omega
 refine ⟨((z ++ d)[k]).toNat, ?_⟩
 rw [cell_of_row w g k _ _ _ hg]
 simp only [Lib.byteCells, List.getElem?_toArray, List.getElem?_map, List.getElem?_eq_getElem hk, Option.map_some]
theorem digits_frozen {w : World} {g k : Nat} {d : List UInt8} (h : Digits w g (k + 1) d) : w.frozen? ⟨g, k, none⟩ = false := by
 obtain ⟨z, hz, hg⟩ := h
 simp [World.frozen?, hg]
theorem digits_set {w : World} {g k : Nat} {d : List UInt8} (h : Digits w g (k + 1) d) (c : UInt8) : Digits (w.setCell ⟨g, k, none⟩ (.int .u8 c.toNat)) g k (c :: d) := by
 obtain ⟨z, hz, hg⟩ := h
 refine ⟨z.take k, by simp; omega, ?_⟩
 simp only [World.setCell, Array.getElem?_modify, hg]
 simp only [if_true, Option.map_some, Option.some.injEq, Obj.cells.injEq, and_true]
 simp only [Lib.byteCells, List.setIfInBounds_toArray]
 congr 1
 rw [← List.map_set (f := fun b : UInt8 => Value.int .u8 b.toNat)]
 congr 1
 obtain ⟨z', y, rfl⟩ : ∃ z' y, z = z' ++ [y] := ⟨z.dropLast, z.getLast (by intro e; subst e; simp at hz), (List.dropLast_concat_getLast _).symm⟩
 simp at hz
 subst hz
 simp
theorem digits_cells {w : World} {g k : Nat} {d : List UInt8} (h : Digits w g k d) : ∀ j u, (Lib.byteCells d)[j]? = some u → w.cell? ((⟨g, k, none⟩ : Addr).add j) = some u := by
 obtain ⟨z, hz, hg⟩ := h
 intro j u hu
 have e : (⟨g, k, none⟩ : Addr).add j = ⟨g, k + j, none⟩ := by
  unfold Addr.add; split
  ·subst_vars; rfl
  ·rfl
 rw [e, cell_of_row w g (k + j) _ _ _ hg, ← hu]
 simp only [Lib.byteCells, List.map_append, List.getElem?_toArray]
 rw [List.getElem?_append_right (by simp; omega)]
 simp [hz]

theorem dig_at : ∀ (x : Nat) (h : x < (ByteArray.mk #[48, 49, 50, 51, 52, 53, 54, 55, 56, 57, 97, 98, 99, 100, 101, 102, 103, 104, 105, 106, 107, 108, 109, 110, 111, 112, 113, 114, 115, 116, 117, 118, 119, 120, 121, 122]).size), x < 16 → (ByteArray.mk #[48, 49, 50, 51, 52, 53, 54, 55, 56, 57, 97, 98, 99, 100, 101, 102, 103, 104, 105, 106, 107, 108, 109, 110, 111, 112, 113, 114, 115, 116, 117, 118, 119, 120, 121, 122])[x]'h = dig x
 | 0, _, _ => rfl
 | 1, _, _ => rfl
 | 2, _, _ => rfl
 | 3, _, _ => rfl
 | 4, _, _ => rfl
 | 5, _, _ => rfl
 | 6, _, _ => rfl
 | 7, _, _ => rfl
 | 8, _, _ => rfl
 | 9, _, _ => rfl
 | 10, _, _ => rfl
 | 11, _, _ => rfl
 | 12, _, _ => rfl
 | 13, _, _ => rfl
 | 14, _, _ => rfl
 | 15, _, _ => rfl
 | (x + 16), _, h => absurd h (by omega)
theorem and15 (u : Nat) (h : u < 18446744073709551616) : bits BinOp.and IntKind.u64 (u : Int) 15 = ((u % 16 : Nat) : Int) := by
 have := bits_and_u64_nat u 15 h (by omega)
 rw [show ((15 : Nat) : Int) = 15 from rfl] at this
 rw [this]
 have e : u &&& 15 = u % 16 := Nat.and_two_pow_sub_one_eq_mod u 4
 rw [e]
theorem arrayLen65 : Tryz.prog.arrayLen 260 = 65 := by kernel_rfl
theorem elem65 : Tryz.prog.elem 260 = 5 := by kernel_rfl
theorem under65 : Tryz.prog.underlying 260 = some (.array (Tryz.prog.arrayLen 260) (Tryz.prog.elem 260)) := by kernel_rfl
theorem sizeOf5 (W : World) : (sizeOf 5).run Tryz.prog W = .ok 1 W := by kernel_rfl
theorem slice65 (g k : Nat) (hk : k < 65) (W : World) : (Instr.sliceAt 260 (.pointer (some ⟨g, 0, none⟩)) (some (.int .i64 k)) none none).run Tryz.prog W = .ok (.slice (some ⟨g, k, none⟩) (65 - k) (65 - k)) W := by
 rw [run_sliceAt_array_l W 260 ⟨g, 0, none⟩ under65 .i64 k (by omega) (by rw [arrayLen65]; omega), elem65, sizeOf5, arrayLen65]
 simp only [Result.andThen, slicedAt, Int.toNat_natCast]
 rw [if_neg (by omega)]
 congr 3
 unfold Addr.add
 split <;> simp_all
end Go.Proofs.YthaibekbefndlaaGreatDoor.C
