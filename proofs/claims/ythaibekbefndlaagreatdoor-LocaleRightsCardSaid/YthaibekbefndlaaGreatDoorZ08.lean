/-
  Joined: MLxX. Each with what its own head says.
-/
import Derived.Test.YthaibekbefndlaaGreatDoorZ06

namespace Go.Proofs.YthaibekbefndlaaGreatDoor.C
open Go.RowKit

def arrV (R : Nat) : Array Value := #[.func (.func 67) #[.pointer (some ⟨R, 0, none⟩)] #[], .func (.func 68) #[.pointer (some ⟨R, 0, none⟩)] #[], .func (.func 69) #[.pointer (some ⟨R, 0, none⟩)] #[], .func (.func 70) #[.pointer (some ⟨R, 0, none⟩)] #[], .func (.func 71) #[.pointer (some ⟨R, 0, none⟩)] #[], .func (.func 72) #[.pointer (some ⟨R, 0, none⟩)] #[], .func (.func 73) #[.pointer (some ⟨R, 0, none⟩)] #[], .func (.func 74) #[.pointer (some ⟨R, 0, none⟩)] #[]]
def ArrAt (w : World) (S R : Nat) : Prop := w.heap[S]? = some (.cells (arrV R) 129 (0, 0))
theorem ArrAt.cells {w : World} {S R : Nat} (h : ArrAt w S R) : w.cell? ⟨S, 0, none⟩ = some (.func (.func 67) #[.pointer (some ⟨R, 0, none⟩)] #[]) ∧ w.cell? ⟨S, 1, none⟩ = some (.func (.func 68) #[.pointer (some ⟨R, 0, none⟩)] #[]) ∧ w.cell? ⟨S, 2, none⟩ = some (.func (.func 69) #[.pointer (some ⟨R, 0, none⟩)] #[]) ∧ w.cell? ⟨S, 3, none⟩ = some (.func (.func 70) #[.pointer (some ⟨R, 0, none⟩)] #[]) ∧ w.cell? ⟨S, 4, none⟩ = some (.func (.func 71) #[.pointer (some ⟨R, 0, none⟩)] #[]) ∧ w.cell? ⟨S, 5, none⟩ = some (.func (.func 72) #[.pointer (some ⟨R, 0, none⟩)] #[]) ∧ w.cell? ⟨S, 6, none⟩ = some (.func (.func 73) #[.pointer (some ⟨R, 0, none⟩)] #[]) ∧ w.cell? ⟨S, 7, none⟩ = some (.func (.func 74) #[.pointer (some ⟨R, 0, none⟩)] #[]) := by
 simp [World.cell?, show w.heap[S]? = _ from h, arrV]
theorem ArrAt.on {w w' : World} {S R R' : Nat} (h : ArrAt w S R) (hb : Bk R' w w') : ArrAt w' S R := hb.2 S _ _ _ h (by decide) (by decide)
theorem arr_ix0 (R : Nat) (W : World) : (Instr.index 129 (.agg #[.func (.func 67) #[.pointer (some ⟨R, 0, none⟩)] #[], .func (.func 68) #[.pointer (some ⟨R, 0, none⟩)] #[], .func (.func 69) #[.pointer (some ⟨R, 0, none⟩)] #[], .func (.func 70) #[.pointer (some ⟨R, 0, none⟩)] #[], .func (.func 71) #[.pointer (some ⟨R, 0, none⟩)] #[], .func (.func 72) #[.pointer (some ⟨R, 0, none⟩)] #[], .func (.func 73) #[.pointer (some ⟨R, 0, none⟩)] #[], .func (.func 74) #[.pointer (some ⟨R, 0, none⟩)] #[]]) (.int .i64 0)).run Tryz.prog W = .ok (.func (.func 67) #[.pointer (some ⟨R, 0, none⟩)] #[]) W := by kernel_rfl
theorem arr_ix1 (R : Nat) (W : World) : (Instr.index 129 (.agg #[.func (.func 67) #[.pointer (some ⟨R, 0, none⟩)] #[], .func (.func 68) #[.pointer (some ⟨R, 0, none⟩)] #[], .func (.func 69) #[.pointer (some ⟨R, 0, none⟩)] #[], .func (.func 70) #[.pointer (some ⟨R, 0, none⟩)] #[], .func (.func 71) #[.pointer (some ⟨R, 0, none⟩)] #[], .func (.func 72) #[.pointer (some ⟨R, 0, none⟩)] #[], .func (.func 73) #[.pointer (some ⟨R, 0, none⟩)] #[], .func (.func 74) #[.pointer (some ⟨R, 0, none⟩)] #[]]) (.int .i64 1)).run Tryz.prog W = .ok (.func (.func 68) #[.pointer (some ⟨R, 0, none⟩)] #[]) W := by kernel_rfl
theorem arr_ix2 (R : Nat) (W : World) : (Instr.index 129 (.agg #[.func (.func 67) #[.pointer (some ⟨R, 0, none⟩)] #[], .func (.func 68) #[.pointer (some ⟨R, 0, none⟩)] #[], .func (.func 69) #[.pointer (some ⟨R, 0, none⟩)] #[], .func (.func 70) #[.pointer (some ⟨R, 0, none⟩)] #[], .func (.func 71) #[.pointer (some ⟨R, 0, none⟩)] #[], .func (.func 72) #[.pointer (some ⟨R, 0, none⟩)] #[], .func (.func 73) #[.pointer (some ⟨R, 0, none⟩)] #[], .func (.func 74) #[.pointer (some ⟨R, 0, none⟩)] #[]]) (.int .i64 2)).run Tryz.prog W = .ok (.func (.func 69) #[.pointer (some ⟨R, 0, none⟩)] #[]) W := by kernel_rfl
theorem arr_ix3 (R : Nat) (W : World) : (Instr.index 129 (.agg #[.func (.func 67) #[.pointer (some ⟨R, 0, none⟩)] #[], .func (.func 68) #[.pointer (some ⟨R, 0, none⟩)] #[], .func (.func 69) #[.pointer (some ⟨R, 0, none⟩)] #[], .func (.func 70) #[.pointer (some ⟨R, 0, none⟩)] #[], .func (.func 71) #[.pointer (some ⟨R, 0, none⟩)] #[], .func (.func 72) #[.pointer (some ⟨R, 0, none⟩)] #[], .func (.func 73) #[.pointer (some ⟨R, 0, none⟩)] #[], .func (.func 74) #[.pointer (some ⟨R, 0, none⟩)] #[]]) (.int .i64 3)).run Tryz.prog W = .ok (.func (.func 70) #[.pointer (some ⟨R, 0, none⟩)] #[]) W := by kernel_rfl
theorem arr_ix4 (R : Nat) (W : World) : (Instr.index 129 (.agg #[.func (.func 67) #[.pointer (some ⟨R, 0, none⟩)] #[], .func (.func 68) #[.pointer (some ⟨R, 0, none⟩)] #[], .func (.func 69) #[.pointer (some ⟨R, 0, none⟩)] #[], .func (.func 70) #[.pointer (some ⟨R, 0, none⟩)] #[], .func (.func 71) #[.pointer (some ⟨R, 0, none⟩)] #[], .func (.func 72) #[.pointer (some ⟨R, 0, none⟩)] #[], .func (.func 73) #[.pointer (some ⟨R, 0, none⟩)] #[], .func (.func 74) #[.pointer (some ⟨R, 0, none⟩)] #[]]) (.int .i64 4)).run Tryz.prog W = .ok (.func (.func 71) #[.pointer (some ⟨R, 0, none⟩)] #[]) W := by kernel_rfl
theorem arr_ix5 (R : Nat) (W : World) : (Instr.index 129 (.agg #[.func (.func 67) #[.pointer (some ⟨R, 0, none⟩)] #[], .func (.func 68) #[.pointer (some ⟨R, 0, none⟩)] #[], .func (.func 69) #[.pointer (some ⟨R, 0, none⟩)] #[], .func (.func 70) #[.pointer (some ⟨R, 0, none⟩)] #[], .func (.func 71) #[.pointer (some ⟨R, 0, none⟩)] #[], .func (.func 72) #[.pointer (some ⟨R, 0, none⟩)] #[], .func (.func 73) #[.pointer (some ⟨R, 0, none⟩)] #[], .func (.func 74) #[.pointer (some ⟨R, 0, none⟩)] #[]]) (.int .i64 5)).run Tryz.prog W = .ok (.func (.func 72) #[.pointer (some ⟨R, 0, none⟩)] #[]) W := by kernel_rfl
theorem arr_ix6 (R : Nat) (W : World) : (Instr.index 129 (.agg #[.func (.func 67) #[.pointer (some ⟨R, 0, none⟩)] #[], .func (.func 68) #[.pointer (some ⟨R, 0, none⟩)] #[], .func (.func 69) #[.pointer (some ⟨R, 0, none⟩)] #[], .func (.func 70) #[.pointer (some ⟨R, 0, none⟩)] #[], .func (.func 71) #[.pointer (some ⟨R, 0, none⟩)] #[], .func (.func 72) #[.pointer (some ⟨R, 0, none⟩)] #[], .func (.func 73) #[.pointer (some ⟨R, 0, none⟩)] #[], .func (.func 74) #[.pointer (some ⟨R, 0, none⟩)] #[]]) (.int .i64 6)).run Tryz.prog W = .ok (.func (.func 73) #[.pointer (some ⟨R, 0, none⟩)] #[]) W := by kernel_rfl
theorem arr_ix7 (R : Nat) (W : World) : (Instr.index 129 (.agg #[.func (.func 67) #[.pointer (some ⟨R, 0, none⟩)] #[], .func (.func 68) #[.pointer (some ⟨R, 0, none⟩)] #[], .func (.func 69) #[.pointer (some ⟨R, 0, none⟩)] #[], .func (.func 70) #[.pointer (some ⟨R, 0, none⟩)] #[], .func (.func 71) #[.pointer (some ⟨R, 0, none⟩)] #[], .func (.func 72) #[.pointer (some ⟨R, 0, none⟩)] #[], .func (.func 73) #[.pointer (some ⟨R, 0, none⟩)] #[], .func (.func 74) #[.pointer (some ⟨R, 0, none⟩)] #[]]) (.int .i64 7)).run Tryz.prog W = .ok (.func (.func 74) #[.pointer (some ⟨R, 0, none⟩)] #[]) W := by kernel_rfl

theorem run_store_func {P : Program} (w : World) (a : Addr) (fn : Fn) (x y : Array Value) (hc : (w.cell? a).isSome = true) (hf : w.frozen? a = false) : (store a (.func fn x y)).run P w = .ok () (w.setCell a (.func fn x y)) := by
 obtain ⟨u, hu⟩ := Option.isSome_iff_exists.1 hc
 rw [run_store P w a _ _ rfl, hu]
 simp [hf]
def LongE (R : Nat) (w : World) (e : Ending) (w' : World) : Prop := e = .panicked [{ v := .iface 127 (.agg #[]), recovered := false }] ∧ Below R w w'
def ReadTold (R : Nat) (w : World) (s : ByteArray) : List Tok ⊕ Nat → Ending → World → Prop
 | .inl ts, e, w' => if 1000 < ts.length then LongE R w e w' else e = .returned (.tuple #[]) ∧ (∃ k, RD w' R s k ts) ∧ Bk R w w'
 | .inr at_, e, w' => Bad w R at_ e w'
theorem readTold_inl {R : Nat} {w : World} {s : ByteArray} {ts : List Tok} {e : Ending} {w' : World} : ReadTold R w s (.inl ts) e w' = if 1000 < ts.length then LongE R w e w' else e = .returned (.tuple #[]) ∧ (∃ k, RD w' R s k ts) ∧ Bk R w w' := rfl
theorem endL_len (ts : List Tok) (k : Nat) (h : ts.length ≤ 4999) : (endL ts k).length ≤ 5000 := by
 unfold endL
 split
 ·omega
 ·rw [List.length_append, List.length_cons, List.length_nil]; omega

set_option maxHeartbeats 1000000 in
theorem read_long (w : World) (R k : Nat) (s : ByteArray) (ts : List Tok) (h : RD w R s k ts) (hs : 4000 < s.size) :
  Calls Tryz.prog 35 #[.pointer (some ⟨R, 0, none⟩)] w (LongE R w) := by
 obtain ⟨_, v, hb, _⟩ := h
 obtain ⟨c0, _, _, _, _⟩ := rd_cells hb
 have hs' : (4000 : Int) < (s.size : Int) := by omega
 clear hb
 go_enter Tryz.func35, Tryz.ntmps35
 go_step3
 go_wp2
 exact ⟨rfl, rfl, Below.refl _ _⟩
theorem read_end {R : Nat} {w : World} {s : ByteArray} {l : List UInt8} {k : Nat} {ts : List Tok} {e : Ending} {w' : World} (h : runL l 0 [] = runL [] k ts) (hr : ReadTold R w s (.inl (endL ts k)) e w') : ReadTold R w s (runL l 0 []) e w' := by
 rw [h, runL_nil]
 exact hr
theorem read_bad {R : Nat} {w : World} {s : ByteArray} {l m : List UInt8} {k : Nat} {ts : List Tok} {e : Ending} {w' : World} (h : runL l 0 [] = runL m k ts) (h0 : m ≠ []) (hs : stepL m k ts = none) (hr : Bad w R k e w') : ReadTold R w s (runL l 0 []) e w' := by
 rw [h, runL_none h0 hs]
 exact hr

set_option maxRecDepth 100000 in
set_option maxHeartbeats 16000000 in
theorem read_any (w : World) (R : Nat) (s : ByteArray) (h : RD w R s 0 []) (hG : Gl w) (hs : s.size ≤ 4000) :
  Calls Tryz.prog 35 #[.pointer (some ⟨R, 0, none⟩)] w (ReadTold R w s (runL s.data.toList 0 [])) := by
 have hmf : ∀ (fn : Fn) (first cap : Array Value) (w : World), (Instr.makeFunc fn first cap).run Tryz.prog w = .ok (.func fn first cap) w := fun _ _ _ _ => rfl
 have hst := @run_store_func Tryz.prog
 have H := Lib.hid h
 have hlt := h.lt
 have hgl := h.gl
 have hGl := Lib.hid (fun W (hb : Bk R w W) => hG.on hb.1 hgl)
 obtain ⟨_, v, hb, _⟩ := h
 obtain ⟨c0, _, _, _, _⟩ := rd_cells hb
 have hs' : ¬ (4000 : Int) < (s.size : Int) := by omega
 have hbw : Below w.heap.size w (w.alloc (.cells (arrV R) 129)) := (Below.refl _ _).alloc (Nat.le_refl _) _
 have hD0 := H.out.next hbw
 have hA0 : ArrAt (w.alloc (.cells (arrV R) 129)) w.heap.size R := heap_new _ _
 have hB0 : Bk R w (w.alloc (.cells (arrV R) 129)) := bk_of hbw (Nat.le_of_lt hlt)
 have HX := Lib.hid (And.intro hD0 (And.intro hA0 hB0))
 clear hb hD0 hA0 hB0 hbw hG
 go_enter Tryz.func35, Tryz.ntmps35
 go_step3
 go_wp2
 go_step3
 go_wp2
 clear c0 hmf hst
 generalize w.heap.size = S at *
 go_loopg [40] s.size (fun g s40 wr => ∃ (k : Nat) (ts : List Tok), k + g = s.size ∧ RD wr R s k ts ∧ ArrAt wr S R ∧ Bk R w wr ∧ Hid (runL s.data.toList 0 [] = runL (s.data.toList.drop k) k ts) ∧ ts.length ≤ k)
 case atStart => exact ⟨0, [], by omega, HX.out.1, HX.out.2.1, HX.out.2.2, Lib.hid (by simp), by simp⟩
 case round =>
  obtain ⟨k, ts, hkg, hD, hA, hB, HR, hts⟩ := hrel
  obtain ⟨wp, hwp⟩ : ∃ wp, wp = wr := ⟨_, rfl⟩
  subst hwp
  obtain ⟨g1, hg1⟩ : ∃ g1, g1 = gk := ⟨_, rfl⟩
  subst hg1
  have HD0 := Lib.hid hD
  have HA0 := Lib.hid hA
  have HB0 := Lib.hid hB
  obtain ⟨_, vv, hbb, _⟩ := hD
  obtain ⟨c0, c1, _, _, _⟩ := rd_cells hbb
  obtain ⟨z0, z1, z2, z3, z4, z5, z6, z7⟩ := hA.cells
  clear hbb hA hB
  by_cases hk : k < s.size
  ·have hne : s.data.toList.drop k ≠ [] := fun e => by rw [drop_ba hk] at e; cases e
   have HNE := Lib.hid hne
   clear hne
   rcases steps_case R k s ts hk hs (by omega) with ⟨J, ts', m, hJ8, hst, hno, hyes⟩ | ⟨hst, hno, hbad⟩ | ⟨hst, hno⟩
   ·have hln := stepL_len HNE.out hst
    rw [List.length_drop, size_list] at hln
    obtain ⟨hm1, hm2, hts2⟩ := hln
    have HN := Lib.hid ((HR.out).trans (runL_some HNE.out hst hm1))
    rw [List.drop_drop] at HN
    clear hst
    go_wp2
    go_quiet (fail)
    go_wp2
    clear z0 z1 z2 z3 z4 z5 z6 z7 c0 c1
    go_loopg [41] 8 (fun g2 s41 wy => ∃ (i : Nat) (j : Int), i + g2 = 8 ∧ i ≤ J ∧ j = (i : Int) ∧ s41 = .int .i64 j ∧ RD wy R s k ts ∧ ArrAt wy S R ∧ Bk R w wy)
    case atStart => exact ⟨0, 0, by omega, by omega, rfl, rfl, HD0.out.drewN _, HA0.out.on (bk_drewN R wp nq), HB0.out.trans (bk_drewN _ _ _)⟩
    case round =>
     obtain ⟨i, j, hig, hiJ, hj, rfl, hD, hA, hB⟩ := hrel
     have hcase : i = 0 ∨ i = 1 ∨ i = 2 ∨ i = 3 ∨ i = 4 ∨ i = 5 ∨ i = 6 ∨ i = 7 := by omega
     rcases hcase with rfl | rfl | rfl | rfl | rfl | rfl | rfl | rfl
     ·obtain rfl : j = 0 := by omega
      clear hj
      have HD := Lib.hid hD
      have HG2 := Lib.hid (hGl.out wr hB)
      have HA := Lib.hid hA
      have HB := Lib.hid hB
      clear hD hA hB
      by_cases hJi : 0 = J
      ·subst hJi
       have hc : ∀ W, RD W R s k ts → Gl W → Calls Tryz.prog 67 #[.pointer (some ⟨R, 0, none⟩)] W (Stepped W R s true (k + m) ts') := hyes
       have hix := arr_ix0 R
       go_wp2_with (go_at_call 67; refine (hc _ HD.out HG2.out).mono ?_; rintro e w2 ⟨rfl, hr, hb2⟩)
       go_roundg (s.size - (k + m))
       case measure => omega
       case rel => exact ⟨k + m, ts', by omega, hr, HA.out.on hb2, HB.out.trans hb2, HN, by omega⟩
      ·have hlt : 0 < J := by omega
       have hc : ∀ W, RD W R s k ts → Gl W → Calls Tryz.prog 67 #[.pointer (some ⟨R, 0, none⟩)] W (Stepped W R s false k ts) := hno 0 (by omega)
       have hix := arr_ix0 R
       go_wp2_with (go_at_call 67; refine (hc _ HD.out HG2.out).mono ?_; rintro e w2 ⟨rfl, hr, hb2⟩)
       go_roundg (7)
       case measure => omega
       case rel => exact ⟨1, 1, by omega, by omega, rfl, rfl, hr, HA.out.on hb2, HB.out.trans hb2⟩
     ·obtain rfl : j = 1 := by omega
      clear hj
      have HD := Lib.hid hD
      have HG2 := Lib.hid (hGl.out wr hB)
      have HA := Lib.hid hA
      have HB := Lib.hid hB
      clear hD hA hB
      by_cases hJi : 1 = J
      ·subst hJi
       have hc : ∀ W, RD W R s k ts → Gl W → Calls Tryz.prog 68 #[.pointer (some ⟨R, 0, none⟩)] W (Stepped W R s true (k + m) ts') := hyes
       have hix := arr_ix1 R
       go_wp2_with (go_at_call 68; refine (hc _ HD.out HG2.out).mono ?_; rintro e w2 ⟨rfl, hr, hb2⟩)
       go_roundg (s.size - (k + m))
       case measure => omega
       case rel => exact ⟨k + m, ts', by omega, hr, HA.out.on hb2, HB.out.trans hb2, HN, by omega⟩
      ·have hlt : 1 < J := by omega
       have hc : ∀ W, RD W R s k ts → Gl W → Calls Tryz.prog 68 #[.pointer (some ⟨R, 0, none⟩)] W (Stepped W R s false k ts) := hno 1 (by omega)
       have hix := arr_ix1 R
       go_wp2_with (go_at_call 68; refine (hc _ HD.out HG2.out).mono ?_; rintro e w2 ⟨rfl, hr, hb2⟩)
       go_roundg (6)
       case measure => omega
       case rel => exact ⟨2, 2, by omega, by omega, rfl, rfl, hr, HA.out.on hb2, HB.out.trans hb2⟩
     ·obtain rfl : j = 2 := by omega
      clear hj
      have HD := Lib.hid hD
      have HG2 := Lib.hid (hGl.out wr hB)
      have HA := Lib.hid hA
      have HB := Lib.hid hB
      clear hD hA hB
      by_cases hJi : 2 = J
      ·subst hJi
       have hc : ∀ W, RD W R s k ts → Gl W → Calls Tryz.prog 69 #[.pointer (some ⟨R, 0, none⟩)] W (Stepped W R s true (k + m) ts') := hyes
       have hix := arr_ix2 R
       go_wp2_with (go_at_call 69; refine (hc _ HD.out HG2.out).mono ?_; rintro e w2 ⟨rfl, hr, hb2⟩)
       go_roundg (s.size - (k + m))
       case measure => omega
       case rel => exact ⟨k + m, ts', by omega, hr, HA.out.on hb2, HB.out.trans hb2, HN, by omega⟩
      ·have hlt : 2 < J := by omega
       have hc : ∀ W, RD W R s k ts → Gl W → Calls Tryz.prog 69 #[.pointer (some ⟨R, 0, none⟩)] W (Stepped W R s false k ts) := hno 2 (by omega)
       have hix := arr_ix2 R
       go_wp2_with (go_at_call 69; refine (hc _ HD.out HG2.out).mono ?_; rintro e w2 ⟨rfl, hr, hb2⟩)
       go_roundg (5)
       case measure => omega
       case rel => exact ⟨3, 3, by omega, by omega, rfl, rfl, hr, HA.out.on hb2, HB.out.trans hb2⟩
     ·obtain rfl : j = 3 := by omega
      clear hj
      have HD := Lib.hid hD
      have HG2 := Lib.hid (hGl.out wr hB)
      have HA := Lib.hid hA
      have HB := Lib.hid hB
      clear hD hA hB
      by_cases hJi : 3 = J
      ·subst hJi
       have hc : ∀ W, RD W R s k ts → Gl W → Calls Tryz.prog 70 #[.pointer (some ⟨R, 0, none⟩)] W (Stepped W R s true (k + m) ts') := hyes
       have hix := arr_ix3 R
       go_wp2_with (go_at_call 70; refine (hc _ HD.out HG2.out).mono ?_; rintro e w2 ⟨rfl, hr, hb2⟩)
       go_roundg (s.size - (k + m))
       case measure => omega
       case rel => exact ⟨k + m, ts', by omega, hr, HA.out.on hb2, HB.out.trans hb2, HN, by omega⟩
      ·have hlt : 3 < J := by omega
       have hc : ∀ W, RD W R s k ts → Gl W → Calls Tryz.prog 70 #[.pointer (some ⟨R, 0, none⟩)] W (Stepped W R s false k ts) := hno 3 (by omega)
       have hix := arr_ix3 R
       go_wp2_with (go_at_call 70; refine (hc _ HD.out HG2.out).mono ?_; rintro e w2 ⟨rfl, hr, hb2⟩)
       go_roundg (4)
       case measure => omega
       case rel => exact ⟨4, 4, by omega, by omega, rfl, rfl, hr, HA.out.on hb2, HB.out.trans hb2⟩
     ·obtain rfl : j = 4 := by omega
      clear hj
      have HD := Lib.hid hD
      have HG2 := Lib.hid (hGl.out wr hB)
      have HA := Lib.hid hA
      have HB := Lib.hid hB
      clear hD hA hB
      by_cases hJi : 4 = J
      ·subst hJi
       have hc : ∀ W, RD W R s k ts → Gl W → Calls Tryz.prog 71 #[.pointer (some ⟨R, 0, none⟩)] W (Stepped W R s true (k + m) ts') := hyes
       have hix := arr_ix4 R
       go_wp2_with (go_at_call 71; refine (hc _ HD.out HG2.out).mono ?_; rintro e w2 ⟨rfl, hr, hb2⟩)
       go_roundg (s.size - (k + m))
       case measure => omega
       case rel => exact ⟨k + m, ts', by omega, hr, HA.out.on hb2, HB.out.trans hb2, HN, by omega⟩
      ·have hlt : 4 < J := by omega
       have hc : ∀ W, RD W R s k ts → Gl W → Calls Tryz.prog 71 #[.pointer (some ⟨R, 0, none⟩)] W (Stepped W R s false k ts) := hno 4 (by omega)
       have hix := arr_ix4 R
       go_wp2_with (go_at_call 71; refine (hc _ HD.out HG2.out).mono ?_; rintro e w2 ⟨rfl, hr, hb2⟩)
       go_roundg (3)
       case measure => omega
       case rel => exact ⟨5, 5, by omega, by omega, rfl, rfl, hr, HA.out.on hb2, HB.out.trans hb2⟩
     ·obtain rfl : j = 5 := by omega
      clear hj
      have HD := Lib.hid hD
      have HG2 := Lib.hid (hGl.out wr hB)
      have HA := Lib.hid hA
      have HB := Lib.hid hB
      clear hD hA hB
      by_cases hJi : 5 = J
      ·subst hJi
       have hc : ∀ W, RD W R s k ts → Gl W → Calls Tryz.prog 72 #[.pointer (some ⟨R, 0, none⟩)] W (Stepped W R s true (k + m) ts') := hyes
       have hix := arr_ix5 R
       go_wp2_with (go_at_call 72; refine (hc _ HD.out HG2.out).mono ?_; rintro e w2 ⟨rfl, hr, hb2⟩)
       go_roundg (s.size - (k + m))
       case measure => omega
       case rel => exact ⟨k + m, ts', by omega, hr, HA.out.on hb2, HB.out.trans hb2, HN, by omega⟩
      ·have hlt : 5 < J := by omega
       have hc : ∀ W, RD W R s k ts → Gl W → Calls Tryz.prog 72 #[.pointer (some ⟨R, 0, none⟩)] W (Stepped W R s false k ts) := hno 5 (by omega)
       have hix := arr_ix5 R
       go_wp2_with (go_at_call 72; refine (hc _ HD.out HG2.out).mono ?_; rintro e w2 ⟨rfl, hr, hb2⟩)
       go_roundg (2)
       case measure => omega
       case rel => exact ⟨6, 6, by omega, by omega, rfl, rfl, hr, HA.out.on hb2, HB.out.trans hb2⟩
     ·obtain rfl : j = 6 := by omega
      clear hj
      have HD := Lib.hid hD
      have HG2 := Lib.hid (hGl.out wr hB)
      have HA := Lib.hid hA
      have HB := Lib.hid hB
      clear hD hA hB
      by_cases hJi : 6 = J
      ·subst hJi
       have hc : ∀ W, RD W R s k ts → Gl W → Calls Tryz.prog 73 #[.pointer (some ⟨R, 0, none⟩)] W (Stepped W R s true (k + m) ts') := hyes
       have hix := arr_ix6 R
       go_wp2_with (go_at_call 73; refine (hc _ HD.out HG2.out).mono ?_; rintro e w2 ⟨rfl, hr, hb2⟩)
       go_roundg (s.size - (k + m))
       case measure => omega
       case rel => exact ⟨k + m, ts', by omega, hr, HA.out.on hb2, HB.out.trans hb2, HN, by omega⟩
      ·have hlt : 6 < J := by omega
       have hc : ∀ W, RD W R s k ts → Gl W → Calls Tryz.prog 73 #[.pointer (some ⟨R, 0, none⟩)] W (Stepped W R s false k ts) := hno 6 (by omega)
       have hix := arr_ix6 R
       go_wp2_with (go_at_call 73; refine (hc _ HD.out HG2.out).mono ?_; rintro e w2 ⟨rfl, hr, hb2⟩)
       go_roundg (1)
       case measure => omega
       case rel => exact ⟨7, 7, by omega, by omega, rfl, rfl, hr, HA.out.on hb2, HB.out.trans hb2⟩
     ·obtain rfl : j = 7 := by omega
      clear hj
      have HD := Lib.hid hD
      have HG2 := Lib.hid (hGl.out wr hB)
      have HA := Lib.hid hA
      have HB := Lib.hid hB
      clear hD hA hB
      by_cases hJi : 7 = J
      ·subst hJi
       have hc : ∀ W, RD W R s k ts → Gl W → Calls Tryz.prog 74 #[.pointer (some ⟨R, 0, none⟩)] W (Stepped W R s true (k + m) ts') := hyes
       have hix := arr_ix7 R
       go_wp2_with (go_at_call 74; refine (hc _ HD.out HG2.out).mono ?_; rintro e w2 ⟨rfl, hr, hb2⟩)
       go_roundg (s.size - (k + m))
       case measure => omega
       case rel => exact ⟨k + m, ts', by omega, hr, HA.out.on hb2, HB.out.trans hb2, HN, by omega⟩
      ·have hlt : 7 < J := by omega
       omega
   ·have HS := Lib.hid hst
    clear hst
    go_wp2
    go_quiet (fail)
    go_wp2
    clear z0 z1 z2 z3 z4 z5 z6 z7 c0 c1
    go_loopg [41] 8 (fun g2 s41 wy => ∃ (i : Nat) (j : Int), i + g2 = 8 ∧ i ≤ 4 ∧ j = (i : Int) ∧ s41 = .int .i64 j ∧ RD wy R s k ts ∧ ArrAt wy S R ∧ Bk R w wy)
    case atStart => exact ⟨0, 0, by omega, by omega, rfl, rfl, HD0.out.drewN _, HA0.out.on (bk_drewN R wp nq), HB0.out.trans (bk_drewN _ _ _)⟩
    case round =>
     obtain ⟨i, j, hig, hiJ, hj, rfl, hD, hA, hB⟩ := hrel
     have hcase : i = 0 ∨ i = 1 ∨ i = 2 ∨ i = 3 ∨ i = 4 := by omega
     rcases hcase with rfl | rfl | rfl | rfl | rfl
     ·obtain rfl : j = 0 := by omega
      clear hj
      have HD := Lib.hid hD
      have HG2 := Lib.hid (hGl.out wr hB)
      have HA := Lib.hid hA
      have HB := Lib.hid hB
      clear hD hA hB
      have hc : ∀ W, RD W R s k ts → Gl W → Calls Tryz.prog 67 #[.pointer (some ⟨R, 0, none⟩)] W (Stepped W R s false k ts) := hno 0 (by omega)
      have hix := arr_ix0 R
      go_wp2_with (go_at_call 67; refine (hc _ HD.out HG2.out).mono ?_; rintro e w2 ⟨rfl, hr, hb2⟩)
      go_roundg (7)
      case measure => omega
      case rel => exact ⟨1, 1, by omega, by omega, rfl, rfl, hr, HA.out.on hb2, HB.out.trans hb2⟩
     ·obtain rfl : j = 1 := by omega
      clear hj
      have HD := Lib.hid hD
      have HG2 := Lib.hid (hGl.out wr hB)
      have HA := Lib.hid hA
      have HB := Lib.hid hB
      clear hD hA hB
      have hc : ∀ W, RD W R s k ts → Gl W → Calls Tryz.prog 68 #[.pointer (some ⟨R, 0, none⟩)] W (Stepped W R s false k ts) := hno 1 (by omega)
      have hix := arr_ix1 R
      go_wp2_with (go_at_call 68; refine (hc _ HD.out HG2.out).mono ?_; rintro e w2 ⟨rfl, hr, hb2⟩)
      go_roundg (6)
      case measure => omega
      case rel => exact ⟨2, 2, by omega, by omega, rfl, rfl, hr, HA.out.on hb2, HB.out.trans hb2⟩
     ·obtain rfl : j = 2 := by omega
      clear hj
      have HD := Lib.hid hD
      have HG2 := Lib.hid (hGl.out wr hB)
      have HA := Lib.hid hA
      have HB := Lib.hid hB
      clear hD hA hB
      have hc : ∀ W, RD W R s k ts → Gl W → Calls Tryz.prog 69 #[.pointer (some ⟨R, 0, none⟩)] W (Stepped W R s false k ts) := hno 2 (by omega)
      have hix := arr_ix2 R
      go_wp2_with (go_at_call 69; refine (hc _ HD.out HG2.out).mono ?_; rintro e w2 ⟨rfl, hr, hb2⟩)
      go_roundg (5)
      case measure => omega
      case rel => exact ⟨3, 3, by omega, by omega, rfl, rfl, hr, HA.out.on hb2, HB.out.trans hb2⟩
     ·obtain rfl : j = 3 := by omega
      clear hj
      have HD := Lib.hid hD
      have HG2 := Lib.hid (hGl.out wr hB)
      have HA := Lib.hid hA
      have HB := Lib.hid hB
      clear hD hA hB
      have hc : ∀ W, RD W R s k ts → Gl W → Calls Tryz.prog 70 #[.pointer (some ⟨R, 0, none⟩)] W (Stepped W R s false k ts) := hno 3 (by omega)
      have hix := arr_ix3 R
      go_wp2_with (go_at_call 70; refine (hc _ HD.out HG2.out).mono ?_; rintro e w2 ⟨rfl, hr, hb2⟩)
      go_roundg (4)
      case measure => omega
      case rel => exact ⟨4, 4, by omega, by omega, rfl, rfl, hr, HA.out.on hb2, HB.out.trans hb2⟩
     ·obtain rfl : j = 4 := by omega
      clear hj
      have HD := Lib.hid hD
      have HG2 := Lib.hid (hGl.out wr hB)
      have HA := Lib.hid hA
      have HB := Lib.hid hB
      clear hD hA hB
      have hc : ∀ W, RD W R s k ts → Gl W → Calls Tryz.prog 71 #[.pointer (some ⟨R, 0, none⟩)] W (Bad W R k) := hbad
      have hix := arr_ix4 R
      go_wp2_with (go_at_call 71; refine (hc _ HD.out HG2.out).mono ?_; rintro e w2 ⟨rfl, hb2⟩)
      exact ⟨rfl, read_bad HR.out HNE.out HS.out ⟨rfl, HB.out.1.trans hb2⟩⟩
   ·have HS := Lib.hid hst
    clear hst
    go_wp2
    go_quiet (fail)
    go_wp2
    clear z0 z1 z2 z3 z4 z5 z6 z7 c0 c1
    go_loopg [41] 8 (fun g2 s41 wy => ∃ (i : Nat) (j : Int), i + g2 = 8 ∧ i ≤ 8 ∧ j = (i : Int) ∧ s41 = .int .i64 j ∧ RD wy R s k ts ∧ ArrAt wy S R ∧ Bk R w wy)
    case atStart => exact ⟨0, 0, by omega, by omega, rfl, rfl, HD0.out.drewN _, HA0.out.on (bk_drewN R wp nq), HB0.out.trans (bk_drewN _ _ _)⟩
    case round =>
     obtain ⟨i, j, hig, hiJ, hj, rfl, hD, hA, hB⟩ := hrel
     have hcase : i = 0 ∨ i = 1 ∨ i = 2 ∨ i = 3 ∨ i = 4 ∨ i = 5 ∨ i = 6 ∨ i = 7 ∨ i = 8 := by omega
     rcases hcase with rfl | rfl | rfl | rfl | rfl | rfl | rfl | rfl | rfl
     ·obtain rfl : j = 0 := by omega
      clear hj
      have HD := Lib.hid hD
      have HG2 := Lib.hid (hGl.out wr hB)
      have HA := Lib.hid hA
      have HB := Lib.hid hB
      clear hD hA hB
      have hc : ∀ W, RD W R s k ts → Gl W → Calls Tryz.prog 67 #[.pointer (some ⟨R, 0, none⟩)] W (Stepped W R s false k ts) := hno 0 (by omega)
      have hix := arr_ix0 R
      go_wp2_with (go_at_call 67; refine (hc _ HD.out HG2.out).mono ?_; rintro e w2 ⟨rfl, hr, hb2⟩)
      go_roundg (7)
      case measure => omega
      case rel => exact ⟨1, 1, by omega, by omega, rfl, rfl, hr, HA.out.on hb2, HB.out.trans hb2⟩
     ·obtain rfl : j = 1 := by omega
      clear hj
      have HD := Lib.hid hD
      have HG2 := Lib.hid (hGl.out wr hB)
      have HA := Lib.hid hA
      have HB := Lib.hid hB
      clear hD hA hB
      have hc : ∀ W, RD W R s k ts → Gl W → Calls Tryz.prog 68 #[.pointer (some ⟨R, 0, none⟩)] W (Stepped W R s false k ts) := hno 1 (by omega)
      have hix := arr_ix1 R
      go_wp2_with (go_at_call 68; refine (hc _ HD.out HG2.out).mono ?_; rintro e w2 ⟨rfl, hr, hb2⟩)
      go_roundg (6)
      case measure => omega
      case rel => exact ⟨2, 2, by omega, by omega, rfl, rfl, hr, HA.out.on hb2, HB.out.trans hb2⟩
     ·obtain rfl : j = 2 := by omega
      clear hj
      have HD := Lib.hid hD
      have HG2 := Lib.hid (hGl.out wr hB)
      have HA := Lib.hid hA
      have HB := Lib.hid hB
      clear hD hA hB
      have hc : ∀ W, RD W R s k ts → Gl W → Calls Tryz.prog 69 #[.pointer (some ⟨R, 0, none⟩)] W (Stepped W R s false k ts) := hno 2 (by omega)
      have hix := arr_ix2 R
      go_wp2_with (go_at_call 69; refine (hc _ HD.out HG2.out).mono ?_; rintro e w2 ⟨rfl, hr, hb2⟩)
      go_roundg (5)
      case measure => omega
      case rel => exact ⟨3, 3, by omega, by omega, rfl, rfl, hr, HA.out.on hb2, HB.out.trans hb2⟩
     ·obtain rfl : j = 3 := by omega
      clear hj
      have HD := Lib.hid hD
      have HG2 := Lib.hid (hGl.out wr hB)
      have HA := Lib.hid hA
      have HB := Lib.hid hB
      clear hD hA hB
      have hc : ∀ W, RD W R s k ts → Gl W → Calls Tryz.prog 70 #[.pointer (some ⟨R, 0, none⟩)] W (Stepped W R s false k ts) := hno 3 (by omega)
      have hix := arr_ix3 R
      go_wp2_with (go_at_call 70; refine (hc _ HD.out HG2.out).mono ?_; rintro e w2 ⟨rfl, hr, hb2⟩)
      go_roundg (4)
      case measure => omega
      case rel => exact ⟨4, 4, by omega, by omega, rfl, rfl, hr, HA.out.on hb2, HB.out.trans hb2⟩
     ·obtain rfl : j = 4 := by omega
      clear hj
      have HD := Lib.hid hD
      have HG2 := Lib.hid (hGl.out wr hB)
      have HA := Lib.hid hA
      have HB := Lib.hid hB
      clear hD hA hB
      have hc : ∀ W, RD W R s k ts → Gl W → Calls Tryz.prog 71 #[.pointer (some ⟨R, 0, none⟩)] W (Stepped W R s false k ts) := hno 4 (by omega)
      have hix := arr_ix4 R
      go_wp2_with (go_at_call 71; refine (hc _ HD.out HG2.out).mono ?_; rintro e w2 ⟨rfl, hr, hb2⟩)
      go_roundg (3)
      case measure => omega
      case rel => exact ⟨5, 5, by omega, by omega, rfl, rfl, hr, HA.out.on hb2, HB.out.trans hb2⟩
     ·obtain rfl : j = 5 := by omega
      clear hj
      have HD := Lib.hid hD
      have HG2 := Lib.hid (hGl.out wr hB)
      have HA := Lib.hid hA
      have HB := Lib.hid hB
      clear hD hA hB
      have hc : ∀ W, RD W R s k ts → Gl W → Calls Tryz.prog 72 #[.pointer (some ⟨R, 0, none⟩)] W (Stepped W R s false k ts) := hno 5 (by omega)
      have hix := arr_ix5 R
      go_wp2_with (go_at_call 72; refine (hc _ HD.out HG2.out).mono ?_; rintro e w2 ⟨rfl, hr, hb2⟩)
      go_roundg (2)
      case measure => omega
      case rel => exact ⟨6, 6, by omega, by omega, rfl, rfl, hr, HA.out.on hb2, HB.out.trans hb2⟩
     ·obtain rfl : j = 6 := by omega
      clear hj
      have HD := Lib.hid hD
      have HG2 := Lib.hid (hGl.out wr hB)
      have HA := Lib.hid hA
      have HB := Lib.hid hB
      clear hD hA hB
      have hc : ∀ W, RD W R s k ts → Gl W → Calls Tryz.prog 73 #[.pointer (some ⟨R, 0, none⟩)] W (Stepped W R s false k ts) := hno 6 (by omega)
      have hix := arr_ix6 R
      go_wp2_with (go_at_call 73; refine (hc _ HD.out HG2.out).mono ?_; rintro e w2 ⟨rfl, hr, hb2⟩)
      go_roundg (1)
      case measure => omega
      case rel => exact ⟨7, 7, by omega, by omega, rfl, rfl, hr, HA.out.on hb2, HB.out.trans hb2⟩
     ·obtain rfl : j = 7 := by omega
      clear hj
      have HD := Lib.hid hD
      have HG2 := Lib.hid (hGl.out wr hB)
      have HA := Lib.hid hA
      have HB := Lib.hid hB
      clear hD hA hB
      have hc : ∀ W, RD W R s k ts → Gl W → Calls Tryz.prog 74 #[.pointer (some ⟨R, 0, none⟩)] W (Stepped W R s false k ts) := hno 7 (by omega)
      have hix := arr_ix7 R
      go_wp2_with (go_at_call 74; refine (hc _ HD.out HG2.out).mono ?_; rintro e w2 ⟨rfl, hr, hb2⟩)
      go_roundg (0)
      case measure => omega
      case rel => exact ⟨8, 8, by omega, by omega, rfl, rfl, hr, HA.out.on hb2, HB.out.trans hb2⟩
     ·obtain rfl : j = 8 := by omega
      clear hj
      have HD := Lib.hid hD
      have HG2 := Lib.hid (hGl.out wr hB)
      have HA := Lib.hid hA
      have HB := Lib.hid hB
      clear hD hA hB
      obtain ⟨_, v2, hb2, _⟩ := HD.out
      obtain ⟨_, d1, _, _, _⟩ := rd_cells hb2
      clear hb2
      go_wp2
      exact ⟨rfl, read_bad HR.out HNE.out HS.out ⟨rfl, HB.out.1⟩⟩
  ·obtain rfl : k = s.size := by omega
   have hend := fun n => endLine_any (wp.drewN n) R s.size s ts (HD0.out.drewN n) (by omega) (by omega)
   have HE := HR.out
   rw [← size_list, List.drop_length, size_list] at HE
   have HE2 := Lib.hid HE
   clear HE z0 z1 z2 z3 z4 z5 z6 z7
   have hel : (endL ts s.size).length ≤ 5000 := endL_len ts s.size (by omega)
   obtain ⟨T, hT⟩ : ∃ T, endL ts s.size = T := ⟨_, rfl⟩
   rw [hT] at hend hel
   have HT := Lib.hid hT
   clear hT
   go_wp2
   go_quiet (fail)
   go_wp2_with fail
   refine (hend _).mono ?_
   rintro e w2 ⟨rfl, hr, hb2⟩
   have HR2 := Lib.hid hr
   have HB2 := Lib.hid (HB0.out.trans ((bk_drewN R wp nq).trans hb2))
   obtain ⟨_, v2, hbb, hown⟩ := hr
   obtain ⟨A, c, rfl, _, _⟩ := own_slice4 hown
   obtain ⟨_, _, d2, _, _⟩ := rd_cells hbb
   obtain ⟨q, hq⟩ : ∃ q, T.length = q := ⟨_, rfl⟩
   have HQ := Lib.hid hq
   rw [hq] at d2 hel
   clear hbb hown hq hend hb2 c0 c1
   by_cases hbig : 1000 < q
   ·have hbig' : (1000 : Int) < (q : Int) := by omega
    go_wp2
    refine ⟨rfl, read_end HE2.out ?_⟩
    rw [HT.out]
    rw [readTold_inl, if_pos (by rw [HQ.out]; exact hbig)]
    exact ⟨rfl, HB2.out.1⟩
   ·have hbig' : ¬ (1000 : Int) < (q : Int) := by omega
    go_wp2
    go_end0
    refine read_end HE2.out ?_
    rw [HT.out]
    rw [readTold_inl, if_neg (by rw [HQ.out]; exact hbig)]
    exact ⟨rfl, ⟨_, HR2.out⟩, HB2.out⟩
end Go.Proofs.YthaibekbefndlaaGreatDoor.C
