/-
  The contract of the document's own Tokens: what the plain function says. No condition.
-/
import Derived.Test.YtnifcgiajjmogaaGreatDoorLyU
namespace Go.Proofs.YtnifcgiajjmogaaGreatDoor.C
open Go.RowKit

theorem one_ref (s : ByteArray) (w : World) (h0 : 0 < s.size) (hs : s.size ≤ 4000) : Calls Tryz.prog 20 #[.string s] w (OneTold w s.data.toList) := by
  have hl := list_cons h0
  by_cases hsg : s[0]'h0 = 59 ∨ s[0]'h0 = 44 ∨ s[0]'h0 = 40 ∨ s[0]'h0 = 41
  · exact one_sign s w h0 hs hsg
  by_cases hd : s.data.toList.take 3 = [46, 46, 46]
  · refine one_dots s w h0 ?_ hs hd
    have := congrArg List.length hd
    rw [List.length_take, size_list] at this
    simp at this
    omega
  have hn := noSign_of hd
  have hsn : signL s.data.toList = none := by
    rw [hl, signL_cons, if_neg hsg, if_neg]
    rintro ⟨h1, h2⟩
    refine hd ?_
    rw [hl, h1, List.take_succ_cons, h2]
  by_cases h34 : s[0]'h0 = 34
  · exact one_quote s w _ (by rw [← h34]; exact hl) hs hn
  by_cases h60 : s[0]'h0 = 60
  · rw [h60] at hl
    generalize s.data.toList.drop 1 = r at hl
    by_cases hb : wordL r = [] ∨ (r.drop (wordL r).length).head? ≠ some 62
    · exact one_lt_no s w r hl hs hn hb
    · have h1 : wordL r ≠ [] := fun e => hb (.inl e)
      have h2 : (r.drop (wordL r).length).head? = some 62 := Decidable.byContradiction fun e => hb (.inr e)
      cases hw : wordL r with
      | nil => exact absurd hw h1
      | cons c d =>
        cases hnum : numL (wordL r) with
        | none => exact one_lt_name s w r c d hl hs hn hw h2 hnum
        | some v => exact one_lt_num s w r c d v hl hs hn hw h2 hnum
  · exact one_word s w _ _ hl hs hn hsn (fun e => hsg (.inl e)) (fun e => hsg (.inr (.inl e))) (fun e => hsg (.inr (.inr (.inl e)))) (fun e => hsg (.inr (.inr (.inr e)))) h34 h60
theorem one_ref_none (s : ByteArray) (w : World) (h0 : 0 < s.size) (hs : s.size ≤ 4000) (h : tokL s.data.toList = none) :
    Calls Tryz.prog 20 #[.string s] w fun e w' => ∃ (kd : Nat) (tx : ByteArray) (n : Nat), e = .returned (.tuple #[.agg #[.int .u8 kd, .string tx, .int .i64 n, .int .i64 0], .int .i64 0]) ∧ Below w.heap.size w w' :=
  (one_ref s w h0 hs).mono fun e w' ⟨kd, tx, n, m, he, hb, hm⟩ => by
    rw [h] at hm
    simp only at hm
    subst hm
    exact ⟨kd, tx, n, he, hb⟩
theorem one_ref_some (s : ByteArray) (w : World) (h0 : 0 < s.size) (hs : s.size ≤ 4000) {k n m : Nat} {t : List UInt8} (h : tokL s.data.toList = some (k, t, n, m)) :
    Calls Tryz.prog 20 #[.string s] w fun e w' => e = .returned (.tuple #[.agg #[.int .u8 k, .string (str t), .int .i64 n, .int .i64 0], .int .i64 m]) ∧ Below w.heap.size w w' :=
  (one_ref s w h0 hs).mono fun e w' ⟨kd, tx, n, m, he, hb, hm⟩ => by
    rw [h] at hm
    simp only at hm
    obtain ⟨rfl, rfl, rfl, rfl⟩ := hm
    exact ⟨he, hb⟩

def RefTold (w : World) (r : List Tok × Nat × Nat) (e : Ending) (w' : World) : Prop :=
  ∃ A n c, e = .returned (.tuple #[.slice A n c, .int .i64 r.2.1, .int .i64 r.2.2]) ∧ n ≤ 5000 ∧ TI w' w'.heap.size A n r.1 ∧ Below w.heap.size w w'

set_option maxHeartbeats 1000000 in
theorem tokens_ref_long (s : ByteArray) (w : World) (h : 4000 < s.size) : Calls Tryz.prog 11 #[.string s] w (RefTold w (lexL s.data.toList)) := by
  have hl : lexL s.data.toList = ([], 3, 0) := by
    unfold lexL
    rw [if_pos (by rw [size_list]; exact h)]
  rw [hl]
  have h1 : (4000 : Int) < (s.size : Int) := by omega
  clear hl
  go_enter Tryz.func11, Tryz.ntmps11
  go_wp2
  (try simp only [Exit.inBlock, Exit.then])
  exact bodyPost_ret (results_tmp3 rfl _ _ _) rfl ⟨none, 0, 0, rfl, by omega, TI.nil _ _ _, Below.refl _ _⟩

theorem step_blank {l : List UInt8} {k : Nat} {ts : List Tok} (h : blankL l ≠ 0) : stepL l k ts = some (ts, blankL l) := by
  unfold stepL
  rw [if_pos h]
theorem step_line {l : List UInt8} {k : Nat} {ts : List Tok} (h : blankL l = 0) (h1 : l.head? = some 10) : stepL l k ts = some (endL ts k, 1) := by
  unfold stepL
  rw [if_neg (by omega), if_pos h1]
theorem step_none {l : List UInt8} {k : Nat} {ts : List Tok} (h : blankL l = 0) (h1 : l.head? ≠ some 10) (h2 : tokL l = none) : stepL l k ts = none := by
  unfold stepL
  rw [if_neg (by omega), if_neg h1, h2]
theorem step_some {l : List UInt8} {k : Nat} {ts : List Tok} {kd n m : Nat} {t : List UInt8} (h : blankL l = 0) (h1 : l.head? ≠ some 10) (h2 : tokL l = some (kd, t, n, m)) : stepL l k ts = some (ts ++ [⟨kd, t, n, k⟩], m) := by
  unfold stepL
  rw [if_neg (by omega), if_neg h1, h2]
/-- what stands last in an owned row of tokens -/
theorem own_last {w : World} {base : Nat} {A : Option Addr} {c j : Nat} {r : List Tok} {x : Tok} (h : w.ownsRow base 35 4 (.slice A (j + 1) c) (j + 1) (tksC (r ++ [x]))) (hj : r.length = j) :
    ∃ g, A = some ⟨g, 0, none⟩ ∧ w.cell? ((⟨g, 0, none⟩ : Addr).add (j * 4)) = some (.int .u8 x.k) ∧ w.cell? ⟨g, j * 4, none⟩ = some (.int .u8 x.k) := by
  obtain ⟨g, cap, hv, hbg, hlt⟩ := h.form (by omega)
  injection hv with hA _ hcc
  subst hA
  subst hj
  have hcell := h.cells (g := g) rfl (r.length * 4) (.int .u8 x.k) (by rw [show r.length * 4 = r.length * 4 + 0 from rfl, tks_at (x := x) (by simp) 0 (by omega)]; rfl)
  have hcell' := hcell
  rw [add_off0] at hcell'
  exact ⟨g, rfl, hcell, hcell'⟩
end Go.Proofs.YtnifcgiajjmogaaGreatDoor.C
