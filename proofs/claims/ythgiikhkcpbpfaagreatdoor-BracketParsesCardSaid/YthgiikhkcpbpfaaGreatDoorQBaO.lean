/-
  Lengths of a set without texts: one, or none; Alike of two cells, by a table or by none. Condition: what each names.
-/
import Derived.Test.YthgiikhkcpbpfaaGreatDoorQBaN
namespace Go.Proofs.YthgiikhkcpbpfaaGreatDoor.C
open Go.RowKit

theorem ptr_nilB (a : Option Addr) (w : World) : (binOp .eql 22 (.pointer a) (.pointer none)).run Tryz.prog w = .ok (.bool a.isNone) w := by cases a <;> kernel_rfl
set_option maxRecDepth 100000 in
set_option maxHeartbeats 2000000 in
theorem findC_any (w : World) (B P Bk : Nat) (v : Value) (A : Option Addr) (n cA : Nat) (ks : List Int) (rs : List (Int × Int)) (hk : RI .i32 w Bk A n ks) (hBk : Bk ≤ w.heap.size) (hnk : n ≤ 1000) (h : PrsR w B v rs) (hn : rs.length ≤ maxLen) (hB : B ≤ w.heap.size) (hc : w.cell? ⟨P, 1, none⟩ = some v) :
  Calls Tryz.prog 44 #[.slice A n cA, .func (.func 22) #[] #[.pointer (some ⟨P, 0, none⟩)]] w fun e w' => Below w.heap.size w w' ∧ ∃ k : Int, e = .returned (.int .i64 k) ∧ (ks.any (fun c => rs.any (inB c)) = decide (0 ≤ k)) := by
 have HKS := Lib.hid hk
 have HPR := Lib.hid h
 have HC := Lib.hid hc
 have HN := Lib.hid hn
 have HP : Hid (P < w.heap.size) := Lib.hid (World.block_lt_of_cell? _ _ hc)
 have HL : Hid (ks.length = n) := Lib.hid hk.len
 clear hk h hc hn
 have eg : ∀ args w, (callFunc 22 args).run Tryz.prog w = .ok (.enter 22 args) w := fun args w => run_enter Tryz.func22 (by kernel_rfl) rfl args w
 go_enter Tryz.func44, Tryz.ntmps44
 go_wp2
 go_loopw [8] (fun iv wr => ∃ k : Nat, k ≤ n ∧ iv = .int .i64 k ∧ Hid (Below w.heap.size w wr ∧ ∀ c ∈ ks.take k, rs.any (inB c) = false)) (fun iv _ => n - (intOf iv).toNat)
 case atStart => exact ⟨0, Nat.zero_le _, rfl, Lib.hid ⟨Below.refl _ _, by simp⟩⟩
 case round =>
  obtain ⟨k, hkn, rfl, HI⟩ := hrel
  by_cases hlt : k < n
  ·obtain ⟨ad, c, rfl, hbl, hcu, hcc⟩ := (HKS.out.on (B' := w.heap.size) HI.out.1 hBk).at_ hlt
   have hsz := HI.out.1.size
   have hcl := isInB_any wr B P v c rs (HPR.out.on HI.out.1 hB) HN.out (by omega) ((HI.out.1.cell (p := ⟨P, 1, none⟩) HP.out).trans HC.out)
   have HR := Lib.hid hcu
   clear hcu hbl
   obtain ⟨q, hq⟩ : ∃ q, q = rs.any (inB c) := ⟨_, rfl⟩
   rw [← hq] at hcl
   have HQ := Lib.hid hq
   clear hq
   cases q with
   | true =>
    have HY : Hid (ks.any (fun c => rs.any (inB c)) = true) := Lib.hid (List.any_eq_true.2 ⟨_, List.mem_of_getElem? HR.out, HQ.out.symm⟩)
    go_wp2_with (go_at_call 22; refine hcl.mono ?_; rintro e w2 ⟨rfl, hf⟩; have HF : Hid (Below w.heap.size w w2) := Lib.hid (HI.out.1.trans (hf.mono HI.out.1.size)); clear hf hcl)
    go_ret
    exact ⟨HF.out, _, rfl, by rw [HY.out]; simp⟩
   | false =>
    go_wp2_with (go_at_call 22; refine hcl.mono ?_; rintro e w2 ⟨rfl, hf⟩; have HF : Hid (Below w.heap.size w w2) := Lib.hid (HI.out.1.trans (hf.mono HI.out.1.size)); clear hf hcl)
    go_roundw
    case rel => exact ⟨k + 1, by omega, by go_num, Lib.hid ⟨HF.out, by
     rw [take_one HR.out]
     intro r hr
     rcases List.mem_append.1 hr with hr | hr
     ·exact HI.out.2 r hr
     ·rw [List.mem_singleton.1 hr]; exact HQ.out.symm⟩⟩
    case measure => simp [intOf]; omega
  ·obtain rfl : k = n := by omega
   have HY : Hid (Below w.heap.size w wr ∧ ks.any (fun c => rs.any (inB c)) = false) := Lib.hid ⟨HI.out.1, by
    rw [List.any_eq_false]
    intro r hr
    rw [HI.out.2 r (by rw [List.take_of_length_le (by rw [HL.out]; exact Nat.le_refl _)]; exact hr)]
    decide⟩
   go_wp2
   go_ret
   exact ⟨HY.out.1, _, rfl, by rw [HY.out.2]; decide⟩
set_option maxRecDepth 100000 in
set_option maxHeartbeats 1000000 in
theorem hasC_any (w : World) (B P Bk : Nat) (v : Value) (A : Option Addr) (n cA : Nat) (ks : List Int) (rs : List (Int × Int)) (hk : RI .i32 w Bk A n ks) (hBk : Bk ≤ w.heap.size) (hnk : n ≤ 1000) (h : PrsR w B v rs) (hn : rs.length ≤ maxLen) (hB : B ≤ w.heap.size) (hc : w.cell? ⟨P, 1, none⟩ = some v) :
  Calls Tryz.prog 25 #[.slice A n cA, .func (.func 22) #[] #[.pointer (some ⟨P, 0, none⟩)]] w fun e w' => e = .returned (.bool (ks.any (fun c => rs.any (inB c)))) ∧ Below w.heap.size w w' := by
 have hf := findC_any w B P Bk v A n cA ks rs hk hBk hnk h hn hB hc
 clear hk hBk hnk h hn hB hc
 go_enter Tryz.func25, Tryz.ntmps25
 go_wp2_with fail
 refine hf.mono ?_
 rintro e w2 ⟨hb, k, rfl, hk⟩
 have HB := Lib.hid hb
 have HK := Lib.hid hk
 clear hf hb hk
 go_wp2
 go_ret
 exact ⟨by rw [HK.out]; rfl, HB.out⟩
set_option maxRecDepth 100000 in
set_option maxHeartbeats 1000000 in
theorem counted_nil (w : World) (x : Int) :
  Calls Tryz.prog 26 #[.int .i32 x, .pointer none] w fun e w' => (∃ A c, e = .returned (.slice A 1 c) ∧ RI .i32 w' w'.heap.size A 1 [x]) ∧ Below w.heap.size w w' := by
 have q := ptr_nilB none
 have HE : Hid (RI .i32 (w.alloc (.cells #[.int .i32 x] 30)) (w.heap.size + 1) (some ⟨w.heap.size, 0, none⟩) 1 [x] ∧ Below w.heap.size w (w.alloc (.cells #[.int .i32 x] 30))) := Lib.hid ⟨ri_new1 w x, below_new _ _⟩
 go_enter Tryz.func26, Tryz.ntmps26
 go_wp2
 go_ret
 exact ⟨⟨_, _, rfl, by have := HE.out.1; simpa using this⟩, HE.out.2⟩
set_option maxRecDepth 100000 in
set_option maxHeartbeats 1000000 in
theorem counted_tab (w : World) (T m : Nat) (L : Loc) (x : Int) (ht : TabU T w T L m) (hm : m ≤ 1000000000) (hR : rightL L = true) :
  Calls Tryz.prog 26 #[.int .i32 x, .pointer (some ⟨T, 0, none⟩)] w fun e w' => (∃ A c, e = .returned (.slice A (foldL L x).length c) ∧ RI .i32 w' w'.heap.size A (foldL L x).length (foldL L x)) ∧ TabU T w' T L (m + 1) ∧ Fr w w' (· = T) := by
 have q := ptr_nilB (some ⟨T, 0, none⟩)
 obtain ⟨n, n0, n1, hT⟩ := ht
 have hfo := fold_any w T L n x hT n0 (by omega) hR
 go_enter Tryz.func26, Tryz.ntmps26
 go_wp2_with fail
 refine hfo.mono ?_
 rintro e w1 ⟨v, rfl, ho, ht, hf⟩
 obtain ⟨A, c, rfl⟩ := row_form ho
 have HE : Hid (RI .i32 w1 w1.heap.size A (foldL L x).length (foldL L x) ∧ TabU T w1 T L (m + 1) ∧ Fr w w1 (· = T)) := Lib.hid ⟨RI.of_own ho, ⟨n + 1, by omega, by push_cast; omega, ht⟩, hf⟩
 clear hfo ho ht hf hT
 go_wp2
 go_ret
 exact ⟨⟨_, _, rfl, HE.out.1⟩, HE.out.2⟩
end Go.Proofs.YthgiikhkcpbpfaaGreatDoor.C
