/-
  How many cells a set of single cells takes: one, or none. No condition but what each names.
-/
import Derived.Test.YthgiikhkcpbpfaaGreatDoorQBaM
namespace Go.Proofs.YthgiikhkcpbpfaaGreatDoor.C
open Go.RowKit

set_option maxRecDepth 100000 in
set_option maxHeartbeats 2000000 in
theorem insertI_small (w : World) (A : Option Addr) (c k : Nat) (hk : k ≤ 1) :
  Calls Tryz.prog 112 #[.slice A k c, .int .i64 0, .int .i64 (k : Int)] w fun e w' => e = .returned (.tuple #[]) ∧ w' = w := by
 have i1 : ¬ (1 : Int) < (k : Int) := by omega
 go_enter Tryz.func112, Tryz.ntmps112
 go_wp2
 go_loopw [6] (fun vi wr => vi = .int .i64 1 ∧ wr = w) (fun _ _ => 0)
 case atStart => exact ⟨by go_num, rfl⟩
 case round =>
  obtain ⟨rfl, rfl⟩ := hrel
  go_wp2
  go_end0
  exact ⟨rfl, rfl⟩
set_option maxRecDepth 100000 in
set_option maxHeartbeats 2000000 in
theorem pdqI_small (w : World) (A : Option Addr) (c k : Nat) (d : Int) (hk : k ≤ 1) :
  Calls Tryz.prog 73 #[.slice A k c, .int .i64 0, .int .i64 (k : Int), .int .i64 d] w fun e w' => e = .returned (.tuple #[]) ∧ w' = w := by
 have hi := insertI_small w A c k hk
 have i1 : (k : Int) ≤ 12 := by omega
 have wk : IntKind.i64.wrap ((k : Int) - 0) = (k : Int) := by rw [IntKind.wrap_i64]; omega
 have wk2 : IntKind.i64.wrap (k : Int) = (k : Int) := by rw [IntKind.wrap_i64]; omega
 go_enter Tryz.func73, Tryz.ntmps73
 go_wp2
 go_loopw [1, 2] (fun a b wr => a = .int .i64 0 ∧ b = .int .i64 (k : Int) ∧ wr = w) (fun _ _ _ => 0)
 case atStart => exact ⟨rfl, rfl, rfl⟩
 case round =>
  obtain ⟨rfl, rfl, rfl⟩ := hrel
  go_wp2_with (go_at_call 112; refine hi.mono ?_; rintro e w' ⟨rfl, rfl⟩)
  first | refine bodyPost_ret (results_none rfl _ _ _) rfl ?_ | (simp only [Exit.inBlock, Exit.then]; refine bodyPost_ret (results_none rfl _ _ _) rfl ?_) | (trace_state; fail)
  exact ⟨rfl, rfl⟩
set_option maxRecDepth 100000 in
set_option maxHeartbeats 2000000 in
theorem sortI_small (w : World) (A : Option Addr) (c k : Nat) (hk : k ≤ 1) :
  Calls Tryz.prog 46 #[.slice A k c] w fun e w' => e = .returned (.tuple #[]) ∧ w' = w := by
 have hi := fun d => pdqI_small w A c k d hk
 rcases (by omega : k = 0 ∨ k = 1) with rfl | rfl
 ·go_enter Tryz.func46, Tryz.ntmps46
  go_wp2_with (first | (go_at_call 73; refine (hi _).mono ?_; rintro e w' ⟨rfl, rfl⟩) | (go_at_call 74; go_in) | (go_at_call 122; go_in))
  go_end0
  exact ⟨rfl, rfl⟩
 ·go_enter Tryz.func46, Tryz.ntmps46
  go_wp2_with (first | (go_at_call 73; refine (hi _).mono ?_; rintro e w' ⟨rfl, rfl⟩) | (go_at_call 74; go_in) | (go_at_call 122; go_in))
  go_end0
  exact ⟨rfl, rfl⟩
set_option maxRecDepth 100000 in
set_option maxHeartbeats 2000000 in
theorem compactI_small (w : World) (A : Option Addr) (c k : Nat) (hk : k ≤ 1) :
  Calls Tryz.prog 47 #[.slice A k c] w fun e w' => e = .returned (.slice A k c) ∧ w' = w := by
 have i1 : (k : Int) < 2 := by omega
 go_enter Tryz.func47, Tryz.ntmps47
 go_wp2
 go_ret
 exact ⟨rfl, rfl⟩
set_option maxRecDepth 100000 in
set_option maxHeartbeats 2000000 in
theorem reverseI_small (w : World) (A : Option Addr) (c k : Nat) (hk : k ≤ 1) :
  Calls Tryz.prog 48 #[.slice A k c] w fun e w' => e = .returned (.tuple #[]) ∧ w' = w := by
 have wk : IntKind.i64.wrap ((k : Int) - 1) = (k : Int) - 1 := by rw [IntKind.wrap_i64]; omega
 have i1 : ¬ (0 : Int) < (k : Int) - 1 := by omega
 go_enter Tryz.func48, Tryz.ntmps48
 go_wp2
 go_loopw [2, 3] (fun a b wr => a = .int .i64 0 ∧ b = .int .i64 ((k : Int) - 1) ∧ wr = w) (fun _ _ _ => 0)
 case atStart => exact ⟨rfl, rfl, rfl⟩
 case round =>
  obtain ⟨rfl, rfl, rfl⟩ := hrel
  go_wp2
  go_end0
  exact ⟨rfl, rfl⟩
set_option maxRecDepth 100000 in
set_option maxHeartbeats 2000000 in
theorem falling_small (w : World) (A : Option Addr) (c k : Nat) (hk : k ≤ 1) :
  Calls Tryz.prog 27 #[.slice A k c] w fun e w' => e = .returned (.slice A k c) ∧ w' = w := by
 have h1 := sortI_small w A c k hk
 have h2 := compactI_small w A c k hk
 have h3 := reverseI_small w A c k hk
 go_enter Tryz.func27, Tryz.ntmps27
 go_wp2_with (first | (go_at_call 46; refine h1.mono ?_; rintro e w' ⟨rfl, rfl⟩) | (go_at_call 47; refine h2.mono ?_; rintro e w' ⟨rfl, rfl⟩) | (go_at_call 48; refine h3.mono ?_; rintro e w' ⟨rfl, rfl⟩))
 go_ret
 exact ⟨rfl, rfl⟩
def inB (c : Int) (r : Int × Int) : Bool := decide (r.1 ≤ c ∧ c ≤ r.2)
set_option maxRecDepth 100000 in
set_option maxHeartbeats 1000000 in
theorem inB_any (w : World) (a b c : Int) (P : Nat) (hc : w.cell? ⟨P, 0, none⟩ = some (.int .i32 c)) :
  Calls Tryz.prog 24 #[.agg #[.int .i32 a, .int .i32 b], .pointer (some ⟨P, 0, none⟩)] w fun e w' => e = .returned (.bool (inB c (a, b))) ∧ Below w.heap.size w w' := by
 have hP := World.block_lt_of_cell? _ _ hc
 simp only at hP
 obtain ⟨w2, hw2⟩ : ∃ w2, w2 = w.alloc (.cells #[.int .i32 a, .int .i32 b] 46) := ⟨_, rfl⟩
 have HB : Hid (Below w.heap.size w w2) := Lib.hid (by rw [hw2]; exact (Below.refl _ _).alloc (Nat.le_refl _) _)
 have x0 : w2.cell? ⟨w.heap.size, 0, none⟩ = some (.int .i32 a) := by rw [hw2]; simp
 have x1 : w2.cell? ⟨w.heap.size, 1, none⟩ = some (.int .i32 b) := by rw [hw2]; simp
 have x2 : w2.cell? ⟨P, 0, none⟩ = some (.int .i32 c) := (HB.out.cell (p := ⟨P, 0, none⟩) hP).trans hc
 clear hc
 subst hw2
 by_cases h1 : a ≤ c
 ·by_cases h2 : c ≤ b
  ·have HV : Hid (inB c (a, b) = true) := Lib.hid (by simp [inB, h1, h2])
   go_enter Tryz.func24, Tryz.ntmps24
   go_wp2
   go_ret
   exact ⟨by rw [HV.out]; rfl, HB.out⟩
  ·have HV : Hid (inB c (a, b) = false) := Lib.hid (by simp [inB, h2])
   go_enter Tryz.func24, Tryz.ntmps24
   go_wp2
   go_ret
   exact ⟨by rw [HV.out]; rfl, HB.out⟩
 ·have HV : Hid (inB c (a, b) = false) := Lib.hid (by simp [inB, h1])
  go_enter Tryz.func24, Tryz.ntmps24
  go_wp2
  go_ret
  exact ⟨by rw [HV.out]; rfl, HB.out⟩
set_option maxRecDepth 100000 in
set_option maxHeartbeats 2000000 in
theorem findInB_any (w : World) (B P : Nat) (v : Value) (c : Int) (rs : List (Int × Int)) (h : PrsR w B v rs) (hn : rs.length ≤ maxLen) (hB : B ≤ w.heap.size) (hc : w.cell? ⟨P, 0, none⟩ = some (.int .i32 c)) :
  Calls Tryz.prog 43 #[v, .func (.func 24) #[] #[.pointer (some ⟨P, 0, none⟩)]] w fun e w' => Below w.heap.size w w' ∧ ∃ k : Int, e = .returned (.int .i64 k) ∧ (rs.any (inB c) = decide (0 ≤ k)) := by
 obtain ⟨A, cA, rfl, hsi⟩ := h
 unfold maxLen at hn
 have HSI := Lib.hid hsi
 have HP : Hid (P < w.heap.size ∧ B ≤ w.heap.size) := Lib.hid ⟨World.block_lt_of_cell? _ _ hc, hB⟩
 have HC := Lib.hid hc
 clear hsi hc hB
 have eg : ∀ args w, (callFunc 24 args).run Tryz.prog w = .ok (.enter 24 args) w := fun args w => run_enter Tryz.func24 (by kernel_rfl) rfl args w
 go_enter Tryz.func43, Tryz.ntmps43
 go_wp2
 go_loopw [8] (fun iv wr => ∃ k : Nat, k ≤ rs.length ∧ iv = .int .i64 k ∧ Hid (Below w.heap.size w wr ∧ ∀ r ∈ rs.take k, inB c r = false)) (fun iv _ => rs.length - (intOf iv).toNat)
 case atStart => exact ⟨0, Nat.zero_le _, rfl, Lib.hid ⟨Below.refl _ _, by simp⟩⟩
 case round =>
  obtain ⟨k, hkn, rfl, HI⟩ := hrel
  by_cases hlt : k < rs.length
  ·obtain ⟨r, hr⟩ : ∃ r, rs[k]? = some r := ⟨_, List.getElem?_eq_getElem hlt⟩
   obtain ⟨ad, rfl, hbl, hc0, hc1⟩ := prsR_at (HSI.out.on HI.out.1 HP.out.2) hr
   obtain ⟨a, b⟩ := r
   have hcl := inB_any wr a b c P ((HI.out.1.cell (p := ⟨P, 0, none⟩) HP.out.1).trans HC.out)
   have HR := Lib.hid hr
   clear hr hbl
   cases hq : inB c (a, b) with
   | true =>
    have HY : Hid (rs.any (inB c) = true) := Lib.hid (List.any_eq_true.2 ⟨_, List.mem_of_getElem? HR.out, hq⟩)
    rw [hq] at hcl
    clear hq
    go_wp2_with (go_at_call 24; refine hcl.mono ?_; rintro e w2 ⟨rfl, hf⟩; have HF : Hid (Below w.heap.size w w2) := Lib.hid (HI.out.1.trans (hf.mono HI.out.1.size)); clear hf hcl)
    go_ret
    exact ⟨HF.out, _, rfl, by rw [HY.out]; simp⟩
   | false =>
    rw [hq] at hcl
    have HQ := Lib.hid hq
    clear hq
    go_wp2_with (go_at_call 24; refine hcl.mono ?_; rintro e w2 ⟨rfl, hf⟩; have HF : Hid (Below w.heap.size w w2) := Lib.hid (HI.out.1.trans (hf.mono HI.out.1.size)); clear hf hcl)
    go_roundw
    case rel => exact ⟨k + 1, by omega, by go_num, Lib.hid ⟨HF.out, by
     rw [take_one HR.out]
     intro r hr
     rcases List.mem_append.1 hr with hr | hr
     ·exact HI.out.2 r hr
     ·rw [List.mem_singleton.1 hr]; exact HQ.out⟩⟩
    case measure => simp [intOf]; omega
  ·obtain rfl : k = rs.length := by omega
   have HY : Hid (Below w.heap.size w wr ∧ rs.any (inB c) = false) := Lib.hid ⟨HI.out.1, by
    rw [List.any_eq_false]
    intro r hr
    rw [HI.out.2 r (by rw [List.take_length]; exact hr)]
    decide⟩
   go_wp2
   go_ret
   exact ⟨HY.out.1, _, rfl, by rw [HY.out.2]; decide⟩
set_option maxRecDepth 100000 in
set_option maxHeartbeats 1000000 in
theorem hasInB_any (w : World) (B P : Nat) (v : Value) (c : Int) (rs : List (Int × Int)) (h : PrsR w B v rs) (hn : rs.length ≤ maxLen) (hB : B ≤ w.heap.size) (hc : w.cell? ⟨P, 0, none⟩ = some (.int .i32 c)) :
  Calls Tryz.prog 23 #[v, .func (.func 24) #[] #[.pointer (some ⟨P, 0, none⟩)]] w fun e w' => Below w.heap.size w w' ∧ e = .returned (.bool (rs.any (inB c))) := by
 have hf := findInB_any w B P v c rs h hn hB hc
 obtain ⟨A, cA, rfl, _⟩ := h
 clear hn hB hc
 go_enter Tryz.func23, Tryz.ntmps23
 go_wp2_with fail
 refine hf.mono ?_
 rintro e w2 ⟨hb, k, rfl, hk⟩
 have HB := Lib.hid hb
 have HK := Lib.hid hk
 clear hf hb hk
 go_wp2
 go_ret
 exact ⟨HB.out, by rw [HK.out]; rfl⟩
set_option maxRecDepth 100000 in
set_option maxHeartbeats 1000000 in
theorem isInB_any (w : World) (B P : Nat) (v : Value) (c : Int) (rs : List (Int × Int)) (h : PrsR w B v rs) (hn : rs.length ≤ maxLen) (hB : B ≤ w.heap.size) (hc : w.cell? ⟨P, 1, none⟩ = some v) :
  Calls Tryz.prog 22 #[.int .i32 c, .pointer (some ⟨P, 0, none⟩)] w fun e w' => e = .returned (.bool (rs.any (inB c))) ∧ Below w.heap.size w w' := by
 have hmf : ∀ (fn : Fn) (first cap : Array Value) (w : World), (Instr.makeFunc fn first cap).run Tryz.prog w = .ok (.func fn first cap) w := fun _ _ _ _ => rfl
 obtain ⟨W, hW⟩ : ∃ W, W = w.alloc (.cells #[.int .i32 c] 30) := ⟨_, rfl⟩
 have hb : Below w.heap.size w W := by rw [hW]; exact below_new _ _
 have h2 : PrsR W B v rs := h.on hb hB
 have x0 : W.cell? ⟨w.heap.size, 0, none⟩ = some (.int .i32 c) := by rw [hW]; simp
 have x1 : (w.alloc (.cells #[.int .i32 c] 30)).cell? ⟨P, 1, none⟩ = some v := by rw [← hW]; exact below_cell hb hc
 have hh := hasInB_any W B w.heap.size v c rs h2 hn (by have := hb.size; omega) x0
 have HB := Lib.hid hb
 obtain ⟨A, cA, rfl, _⟩ := h
 clear h2 hc hb x0
 go_enter Tryz.func22, Tryz.ntmps22
 go_wp2_with fail
 rw [← hW]
 clear hW
 refine hh.mono ?_
 rintro e w2 ⟨hb2, rfl⟩
 have HE : Hid (Below w.heap.size w w2) := Lib.hid (HB.out.trans (hb2.mono HB.out.size))
 clear hh hb2
 go_wp2
 go_ret
 exact ⟨rfl, HE.out⟩
end Go.Proofs.YthgiikhkcpbpfaaGreatDoor.C
