/-
  The contract of the document's own Split: the lines of any cells (2^30 at most), in new memory; nothing that was there changes.
-/
import Derived.Test.YtlecioifjdmmmaaLnI
namespace Go.Proofs.Ytlecioifjdmmmaa.C
open Go.RowKit

theorem split_go {zs now : List Int} {ls : List (List Int × Bool)} {k : Nat} {u : Int} (h : ls ++ splitL (now ++ zs.drop k) = splitL zs) (hu : zs[k]? = some u) : (ls ++ splitL ((now ++ [u]) ++ zs.drop (k + 1)) = splitL zs) ∧ ((∀ c ∈ now, c ≠ 10) → u = 10 → (ls ++ [(now, true)]) ++ splitL ([] ++ zs.drop (k + 1)) = splitL zs) := by
  rw [drop_cons hu] at h
  refine ⟨by simpa using h, fun hn hu10 => ?_⟩
  subst hu10
  rw [splitL_hit hn] at h
  simpa using h
theorem LC.kept2 {w w' : World} {base : Nat} {cs : List Value} {ls : List (List Int × Bool)} (h : LC w base cs ls) (hk : ∀ u ∈ cs, ∀ n xs, w.ownsRow base 25 1 u n xs → w'.ownsRow base 25 1 u n xs) : LC w' base cs ls :=
  ⟨h.1, fun j x hx => by
    obtain ⟨u, h1, h2, h3⟩ := h.2 j x hx
    exact ⟨u, h1, h2, hk u (List.mem_of_getElem? h1) _ _ h3⟩⟩
theorem own_base {w : World} {base base' : Nat} {e : TypeId} {size n : Nat} {v : Value} {xs : List Value} (h : w.ownsRow base' e size v n xs) (hb : base ≤ base') : w.ownsRow base e size v n xs := by
  refine ⟨h.1, ?_⟩
  rcases h.2 with h1 | ⟨g, cap, cur, h1, h2, h3⟩
  · exact .inl h1
  · exact .inr ⟨g, cap, cur, h1, by omega, h3⟩
/-- all blocks of a row's elements lie below M -/
def LowC (M : Nat) (cs : List Value) : Prop := ∀ u ∈ cs, ∀ b, u.ownBlock = some b → b < M
/-- so far these lines, and these cells of the next one -/
def RsI (w : World) (B0 M : Nat) (cs : List Value) (ov nv : Value) (ls : List (List Int × Bool)) (now : List Int) : Prop :=
  w.ownsRow B0 32 2 ov ls.length cs ∧ LC w B0 cs ls ∧ LowC M cs ∧ B0 ≤ M ∧ M ≤ w.heap.size ∧ w.ownsRow M 25 1 nv now.length (now.map (Value.int .i32)) ∧ ∀ c ∈ now, c ≠ 10
theorem RsI.cell {w w' : World} {B0 M : Nat} {cs : List Value} {ov nv nv' : Value} {ls : List (List Int × Bool)} {now : List Int} {c : Int} {o : Obj} (h : RsI w B0 M cs ov nv ls now) (hc : c ≠ 10)
    (ho : w'.ownsRow M 25 1 nv' (now.length + 1) (now.map (Value.int .i32) ++ [.int .i32 c])) (hg : (w.alloc o).grownBy w' nv.ownBlock) : RsI w' B0 M cs ov nv' ls (now ++ [c]) := by
  obtain ⟨h1, h2, h3, h4, h5, h6, h7⟩ := h
  have hs := hg.size
  simp at hs
  refine ⟨?_, ?_, h3, h4, by omega, by simpa using ho, fun d hd => ?_⟩
  · exact (h1.alloc o).kept hg (rows_ne (h1.alloc o) (h6.alloc o) (by decide))
  · refine h2.kept2 fun u hu n xs hx => (hx.alloc o).kept hg ?_
    cases hb : u.ownBlock with
    | none => exact .inl rfl
    | some b =>
      refine .inr fun e => ?_
      have := (h6.lt b e.symm).1
      have := h3 u hu b hb
      omega
  · rcases List.mem_append.1 hd with h | h
    · exact h7 d h
    · simp at h; subst h; exact hc
theorem RsI.line {w w' : World} {B0 M : Nat} {cs : List Value} {ov ov' nv : Value} {ls : List (List Int × Bool)} {now : List Int} {b : Bool} {o : Obj} (h : RsI w B0 M cs ov nv ls now)
    (ho : w'.ownsRow B0 32 2 ov' (ls.length + 1) (cs ++ [nv, .bool b])) (hg : (w.alloc o).grownBy w' ov.ownBlock) : RsI w' B0 w'.heap.size (cs ++ [nv, .bool b]) ov' (.slice none 0 0) (ls ++ [(now, b)]) [] := by
  obtain ⟨h1, h2, h3, h4, h5, h6, h7⟩ := h
  have hs := hg.size
  simp at hs
  have kp : ∀ base u n xs, w.ownsRow base 25 1 u n xs → w'.ownsRow base 25 1 u n xs := fun base u n xs hx => (hx.alloc o).kept hg (rows_ne (hx.alloc o) (h1.alloc o) (by decide))
  refine ⟨by simpa using ho, (h2.kept fun u n xs hx => kp _ u n xs hx).snoc (now, b) nv (own_base (kp _ _ _ _ h6) h4), ?_, by omega, Nat.le_refl _, World.ownsRow_nil _ _ _ _, by simp⟩
  intro u hu g hg'
  rcases List.mem_append.1 hu with hu | hu
  · have := h3 u hu g hg'
    omega
  · simp at hu
    rcases hu with rfl | rfl
    · have := (h6.lt g hg').2
      omega
    · simp [Value.ownBlock] at hg'

set_option maxRecDepth 100000 in
set_option maxHeartbeats 2000000 in
theorem refSplit_any (w : World) (B : Nat) (A : Option Addr) (m c : Nat) (zs : List Int) (hx : RI .i32 w B A m zs) (hB : B ≤ w.heap.size) (hm : m ≤ 1073741824) :
    Calls Try.prog 20 #[.slice A m c] w fun e w' => ∃ A' n' c', e = .returned (.slice A' n' c') ∧ n' ≤ c' ∧ c' ≤ maxLen ∧ LI w' w'.heap.size A' n' (splitL zs) ∧ Below w.heap.size w w' := by
  obtain ⟨i0, hi, hz0, hz1, hz2⟩ := info_parts infoLine
  obtain ⟨i1, hj, hy0, hy1, hy2⟩ := info_parts info33
  have HX := Lib.hid hx
  have HL := Lib.hid hx.len
  clear hx
  go_enter Try.func20, Try.ntmps20
  go_wp2
  go_loopw [3, 4, 5] (fun ov nv iv wr => ∃ (k M : Nat) (cs : List Value) (ls : List (List Int × Bool)) (now : List Int), k ≤ m ∧ iv = .int .i64 k ∧ Hid (RsI wr w.heap.size M cs ov nv ls now) ∧ Hid (ls ++ splitL (now ++ zs.drop k) = splitL zs) ∧ now.length ≤ k ∧ ls.length ≤ k ∧ Below w.heap.size w wr) (fun _ _ iv _ => m - (intOf iv).toNat)
  case atStart => exact ⟨0, w.heap.size, [], [], [], Nat.zero_le _, rfl, ⟨World.ownsRow_nil _ _ _ _, LC.nil _ _, by intro u hu; simp at hu, Nat.le_refl _, Nat.le_refl _, World.ownsRow_nil _ _ _ _, by simp⟩, rfl, by simp, by simp, Below.refl _ _⟩
  case round =>
    obtain ⟨k, M, cs, ls, now, hk, rfl, HR, HS, hnk, hlk, hbr⟩ := hrel
    have hsz := hbr.size
    obtain ⟨r1, r2, r3, r4, r5, r6, r7⟩ := HR.out
    have R1 := Lib.hid r1
    have R6 := Lib.hid r6
    have R7 := Lib.hid r7
    obtain ⟨A1, c1, hu4, q1, q2, q3⟩ := own_slice2 r6
    subst hu4
    clear r1 r2 r3 r6 r7 q3
    by_cases hlt : k < m
    · obtain ⟨ad, u, rfl, hbl, hu, hcell⟩ := HX.out.at_ hlt
      have hcr : wr.cell? (ad.add k) = some (.int .i32 u) := (hbr.cell (p := ad.add k) (by rw [block_of_add]; omega)).trans hcell
      have k0 : (0 : Int) ≤ (k : Int) := by omega
      have k1 : (k : Int) < (m : Int) := by omega
      obtain ⟨g1, g2⟩ := split_go HS.out hu
      have G1 := Lib.hid g1
      have G2 := Lib.hid g2
      clear hu hcell g1 g2
      by_cases h10 : u = 10
      · subst h10
        go_wp2_with (at_builtin; (refine wpList_append_own _ rfl _ _ 28 rfl w.heap.size 32 i0 (.agg #[.slice none 0 0, .bool false]) 2 32 Try.underlying28 hi hz0 hz1 hz2 rfl (by decide) u3 _ cs rfl (R1.out.alloc _) ⟨wr.heap.size, 0, none⟩ 1 1 [.slice A1 now.length c1, .bool true] rfl rfl (pair_new _ _ _ _ _ rfl) (by intro u hu; simp at hu; rcases hu with rfl | rfl <;> rfl) (by unfold maxLen; omega) (by omega) (by simp; omega) ?_); intro v' w3 hown' hgrow _; have HO3 := Lib.hid hown'; have HG3 := Lib.hid hgrow; clear hown' hgrow)
        have hb3 : Below w.heap.size w w3 := (hbr.alloc (by omega) _).grown HG3.out (by simp; omega) (fun g hg => (R1.out.lt g hg).1)
        have hr3 := HR.out.line HO3.out HG3.out
        go_roundw
        case rel => exact ⟨k + 1, w3.heap.size, _, _, _, by omega, by go_num, hr3, G2.out R7.out rfl, by simp, by simp; omega, hb3⟩
        case measure => simp [intOf]; omega
      · have hne : (u == (10 : Int)) = false := by simpa using h10
        go_wp2_with (at_builtin; (refine wpList_append_own _ rfl _ _ 23 rfl M 25 i1 (.int .i32 0) 1 4 Try.underlying23 hj hy0 hy1 hy2 rfl (by decide) (.slice A1 now.length c1) _ _ rfl (R6.out.alloc _) _ 1 1 [.int .i32 u] rfl rfl (cell_one_new _ _ _) (by intro u hu; simp at hu; subst hu; rfl) (by unfold maxLen; omega) (by omega) (by simp; omega) ?_); intro v' w3 hown' hgrow _; have HO3 := Lib.hid hown'; have HG3 := Lib.hid hgrow; clear hown' hgrow)
        have hb3 : Below w.heap.size w w3 := (hbr.alloc (by omega) _).grown HG3.out (by simp; omega) (fun g hg => by have := (R6.out.lt g hg).1; omega)
        have hr3 := HR.out.cell h10 HO3.out HG3.out
        go_roundw
        case rel => exact ⟨k + 1, M, _, _, _, by omega, by go_num, hr3, G1.out, by simp; omega, by omega, hb3⟩
        case measure => simp [intOf]; omega
    · obtain rfl : k = m := by omega
      have hdz : zs.drop k = [] := List.drop_of_length_le (by rw [HL.out]; exact Nat.le_refl _)
      have hst := HS.out
      rw [hdz, List.append_nil] at hst
      have HE := Lib.hid hst
      clear hdz hst
      rcases Nat.eq_zero_or_pos now.length with h0 | h0
      · have hn0 : now = [] := List.eq_nil_of_length_eq_zero h0
        have hnn : ¬ (0 : Int) < (now.length : Int) := by omega
        have hend : ls = splitL zs := by
          have := HE.out
          rw [hn0] at this
          simpa [splitL] using this
        have HF := Lib.hid hend
        clear hend hn0
        go_wp2
        go_ret
        obtain ⟨A2, c2, rfl, t1, t2, t3⟩ := LI.of_own R1.out HR.out.2.1
        exact ⟨A2, _, c2, rfl, t1, t2, by rw [← HF.out]; exact t3, hbr⟩
      · have hnn : (0 : Int) < (now.length : Int) := by omega
        have hend : ls ++ [(now, false)] = splitL zs := by
          have := HE.out
          rwa [splitL_miss R7.out (fun h => by rw [h] at h0; simp at h0)] at this
        have HF := Lib.hid hend
        clear hend
        go_wp2_with (at_builtin; (refine wpList_append_own _ rfl _ _ 28 rfl w.heap.size 32 i0 (.agg #[.slice none 0 0, .bool false]) 2 32 Try.underlying28 hi hz0 hz1 hz2 rfl (by decide) u3 _ cs rfl (R1.out.alloc _) ⟨wr.heap.size, 0, none⟩ 1 1 [.slice A1 now.length c1, .bool false] rfl rfl (pair_new _ _ _ _ _ rfl) (by intro u hu; simp at hu; rcases hu with rfl | rfl <;> rfl) (by unfold maxLen; omega) (by omega) (by simp; omega) ?_); intro v' w3 hown' hgrow _; have HO3 := Lib.hid hown'; have HG3 := Lib.hid hgrow; clear hown' hgrow)
        have hb3 : Below w.heap.size w w3 := (hbr.alloc (by omega) _).grown HG3.out (by simp; omega) (fun g hg => (R1.out.lt g hg).1)
        have hr3 := HR.out.line HO3.out HG3.out
        go_ret
        obtain ⟨A2, c2, rfl, t1, t2, t3⟩ := LI.of_own hr3.1 hr3.2.1
        exact ⟨A2, _, c2, rfl, t1, t2, by rw [← HF.out]; exact t3, hb3⟩
end Go.Proofs.Ytlecioifjdmmmaa.C
