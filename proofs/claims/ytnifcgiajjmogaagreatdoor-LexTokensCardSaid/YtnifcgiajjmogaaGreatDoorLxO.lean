/-
  Contracts of strconv.ParseUint at four to six digits in base 16, of lex.nameAt and of lex.numberOf: what the plain functions say. Condition: what is asked of the listed variables ('Gl').
-/
import Derived.Test.YtnifcgiajjmogaaGreatDoorLxN
namespace Go.Proofs.YtnifcgiajjmogaaGreatDoor.C
open Go.RowKit

/-- what the walks ask of package-level variables: an error's value, one cell of a table, the signs -/
def Gl (w : World) : Prop :=
  (∃ ev, w.cell? ⟨4, 0, none⟩ = some ev ∧ (ev = .nilIface ∨ ∃ te pe, ev = .iface te pe)) ∧ w.cell? ⟨9, 15, none⟩ = some (.int .u8 4) ∧
  ∃ t f, w.heap[(0 : Nat)]? = some (.cells #[.string ⟨#[59]⟩, .string ⟨#[44]⟩, .string ⟨#[40]⟩, .string ⟨#[41]⟩, .string ⟨#[46, 46, 46]⟩] t f)
/-- above these blocks nothing of it lies -/
def glN : Nat := Nat.max (Nat.max (4 + 1) (9 + 1)) (0 + 1)
theorem Gl.keep {w w' : World} (h : Gl w) (hk : ∀ b, b < glN → w'.heap[b]? = w.heap[b]?) : Gl w' := by
  obtain ⟨⟨ev, h1, h2⟩, h3, t, f, h4⟩ := h
  have kc : ∀ p : Addr, p.block < glN → w'.cell? p = w.cell? p := fun p hp => World.cell?_of_block (hk _ hp)
  exact ⟨⟨ev, (kc _ (by decide)).trans h1, h2⟩, (kc _ (by decide)).trans h3, t, f, (hk _ (by decide)).trans h4⟩
theorem Gl.on {w w' : World} {B : Nat} (h : Gl w) (hb : Below B w w') (hB : glN ≤ B) : Gl w' := h.keep fun b hlt => hb.block b (by omega)
theorem Gl.top {w : World} (h : Gl w) : glN ≤ w.heap.size := by
  obtain ⟨⟨ev, h1, _⟩, h3, t, f, h4⟩ := h
  have a := World.block_lt_of_cell? w _ h1
  have b := World.block_lt_of_cell? w _ h3
  have c := (Array.getElem?_eq_some_iff.1 h4).1
  unfold glN
  simp only at a b
  exact Nat.max_le.2 ⟨Nat.max_le.2 ⟨a, b⟩, c⟩
theorem Gl.next {w w' : World} (h : Gl w) (hb : Below w.heap.size w w') : Gl w' := h.on hb h.top

def ParsTold (w : World) (v : Value) (e : Ending) (w' : World) : Prop := e = .returned v ∧ Below w.heap.size w w'

set_option maxHeartbeats 2000000 in
theorem parsUint_yes (l : List UInt8) (n : Nat) (h : hexN l 0 = some n) (hne : l.length ≠ 0) (hm : l.length ≤ 6) (w : World) :
    Calls Tryz.prog 54 #[.string (str l), .int .i64 16, .int .i64 32] w (ParsTold w (.tuple #[.int .u64 n, .nilIface])) := by
  have hp := parse_any (str l) (by rw [str_size]; exact hne) (by rw [str_size]; exact hm) w
  rw [str_list, parsV_some h] at hp
  have hb := bytes_below w 5 (str l)
  obtain ⟨W1, hW⟩ : ∃ W1, Lib.bytesWorld w 5 (str l) = W1 := ⟨_, rfl⟩
  rw [hW] at hp hb
  have HB := Lib.hid hb
  clear hb hW h
  go_enter Tryz.func54, Tryz.ntmps54
  go_wp2_with (go_at_call 67; refine hp.mono ?_; rintro e w' ⟨rfl, rfl⟩)
  go_ret2
  exact ⟨rfl, HB.out⟩

set_option maxHeartbeats 2000000 in
theorem parsUint_no (l : List UInt8) (h : hexN l 0 = none) (hne : l.length ≠ 0) (hm : l.length ≤ 6) (w : World) (hG : Gl w) :
    Calls Tryz.prog 54 #[.string (str l), .int .i64 16, .int .i64 32] w fun e w' => ∃ N, ParsTold w (.tuple #[.int .u64 0, .iface 112 (.pointer (some ⟨N, 0, none⟩))]) e w' := by
  have hp := parse_any (str l) (by rw [str_size]; exact hne) (by rw [str_size]; exact hm) w
  rw [str_list, parsV_none h] at hp
  have hb := bytes_below w 5 (str l)
  have hs := str_size l
  obtain ⟨W1, hW⟩ : ∃ W1, Lib.bytesWorld w 5 (str l) = W1 := ⟨_, rfl⟩
  rw [hW] at hp hb
  obtain ⟨⟨ev, h1, h2⟩, _⟩ := hG.next hb
  have ht := Tryz.strconv_toError_syntax ⟨#[80, 97, 114, 115, 101, 85, 105, 110, 116]⟩ (str l) 16 32 ev W1 (by omega) h1 h2
  have HB := Lib.hid hb
  clear hb hW h h1 h2 hs hG
  go_enter Tryz.func54, Tryz.ntmps54
  go_wp2_with (first | (go_at_call 67; refine hp.mono ?_; rintro e w' ⟨rfl, rfl⟩) | (go_at_call 68; refine ht.mono ?_; rintro e w2 ⟨N, rfl, hN, hN2, hb2⟩))
  go_ret2
  exact ⟨N, rfl, HB.out.trans (hb2.mono (HB.out.size))⟩

/-- what a name's reading answers -/
theorem name_no {l : List UInt8} (h : l.head? ≠ some 60) : nameL l = [] := by
  cases l with
  | nil => rfl
  | cons c r =>
    rw [nameL_cons, if_neg]
    intro hc
    exact h (by rw [hc.1]; rfl)

set_option maxHeartbeats 2000000 in
theorem nameAt_any (l : List UInt8) (hl : l.length ≤ 1099511627776) (w : World) : Calls Tryz.prog 40 #[.string (str l)] w fun e w' => e = .returned (.string (str (nameL l))) ∧ w' = w := by
  by_cases h0 : l.head? = some 60
  · obtain ⟨r, rfl⟩ : ∃ r, l = 60 :: r := by
      cases l with
      | nil => cases h0
      | cons c r => simp at h0; subst h0; exact ⟨r, rfl⟩
    have h1 := cutPrefix_yes 60 r w
    have h2 := wordAt_str r w (by unfold maxLen; simp at hl; omega)
    have hwl := wordL_len r
    have e1 : (str r).extract (str (wordL r)).size (str r).size = str (r.drop (wordL r).length) := by rw [extract_str, str_list, str_size, str_size, List.take_length]
    have s1 : (str (wordL r)).size ≤ (str r).size := by rw [str_size, str_size]; exact hwl
    have s2 : (str r).size ≤ 1099511627776 := by rw [str_size]; simp at hl; omega
    by_cases h3 : (r.drop (wordL r).length).head? = some 62
    · have h4 := hasPrefix_yes (r.drop (wordL r).length) ⟨#[62]⟩ w (by rw [show (ByteArray.mk #[62]).data.toList = [62] from rfl, hasPrefix_one]; simpa using h3)
      rw [← e1] at h4
      rw [nameL_cons, if_pos ⟨rfl, h3⟩]
      clear e1 h3 h0 hwl hl
      generalize str r = S at *
      generalize str (wordL r) = N at *
      generalize str (60 :: r) = X at *
      go_enter Tryz.func40, Tryz.ntmps40
      go_wp2_with (first
        | (go_at_call 43; refine h1.mono ?_; rintro e w' ⟨rfl, rfl⟩)
        | (go_at_call 45; refine h2.mono ?_; rintro e w' ⟨rfl, rfl⟩)
        | (go_at_call 38; refine h4.mono ?_; rintro e w' ⟨rfl, rfl⟩))
      go_ret
      exact ⟨rfl, rfl⟩
    · have h4 := hasPrefix_no (r.drop (wordL r).length) ⟨#[62]⟩ w (by rw [show (ByteArray.mk #[62]).data.toList = [62] from rfl, hasPrefix_one]; simpa using h3)
      rw [← e1] at h4
      rw [nameL_cons, if_neg (fun h => h3 h.2)]
      clear e1 h3 h0 hwl hl
      generalize str r = S at *
      generalize str (wordL r) = N at *
      generalize str (60 :: r) = X at *
      go_enter Tryz.func40, Tryz.ntmps40
      go_wp2_with (first
        | (go_at_call 43; refine h1.mono ?_; rintro e w' ⟨rfl, rfl⟩)
        | (go_at_call 45; refine h2.mono ?_; rintro e w' ⟨rfl, rfl⟩)
        | (go_at_call 38; refine h4.mono ?_; rintro e w' ⟨rfl, rfl⟩))
      go_ret
      exact ⟨rfl, rfl⟩
  · have h1 := cutPrefix_no l 60 h0 w
    have h2 := wordAt_str l w (by unfold maxLen; omega)
    rw [name_no h0]
    clear h0
    go_enter Tryz.func40, Tryz.ntmps40
    go_wp2_with (first
      | (go_at_call 43; refine h1.mono ?_; rintro e w' ⟨rfl, rfl⟩)
      | (go_at_call 45; refine h2.mono ?_; rintro e w' ⟨rfl, rfl⟩))
    go_ret
    exact ⟨rfl, rfl⟩

def NumTold (w : World) (n : Int) (is : Bool) (e : Ending) (w' : World) : Prop := e = .returned (.tuple #[.int .i64 n, .bool is]) ∧ Below w.heap.size w w'
theorem below_drewN0 {B : Nat} {a w : World} (h : Below B a w) (n : Nat) : Below B a (w.drewN n) := ⟨h.os, h.tape, h.output, h.size, h.block⟩
theorem hexN_lt : ∀ {l : List UInt8} {n m : Nat}, hexN l n = some m → m < (n + 1) * 16 ^ l.length
  | [], n, m, h => by simp [hexN] at h; simp; omega
  | b :: r, n, m, h => by
    rw [hexN_cons] at h
    cases hd : digV b with
    | none => rw [hd] at h; cases h
    | some d =>
      rw [hd] at h
      have h16 : d < 16 := by
        unfold digV at hd
        split at hd
        · injection hd with hd; omega
        · split at hd
          · injection hd with hd; omega
          · split at hd
            · injection hd with hd; omega
            · cases hd
      have := hexN_lt h
      rw [List.length_cons, Nat.pow_succ]
      refine Nat.lt_of_lt_of_le this ?_
      calc (16 * n + d + 1) * 16 ^ r.length ≤ ((n + 1) * 16) * 16 ^ r.length := Nat.mul_le_mul_right _ (by omega)
        _ = (n + 1) * (16 ^ r.length * 16) := by rw [Nat.mul_assoc, Nat.mul_comm 16]
set_option maxHeartbeats 2000000 in
theorem numberOf_yes (l : List UInt8) (n : Nat) (h : numL l = some n) (w : World) : Calls Tryz.prog 41 #[.string (str l)] w (NumTold w n true) := by
  cases l with
  | nil => cases h
  | cons c d =>
    rw [numL_cons] at h
    by_cases hc : c = 85 ∧ 4 ≤ d.length ∧ d.length ≤ 6
    · rw [if_pos hc] at h
      obtain ⟨rfl, h4, h6⟩ := hc
      have hn : n < 16777216 := by
        have := hexN_lt h
        have := pow_16 h6
        omega
      have h1 := cutPrefix_yes 85 d w
      have h2 := parsUint_yes d n h (by omega) h6 w
      have s1 := str_size d
      have s4 : 4 ≤ (str d).size := by omega
      have s6 : (str d).size ≤ 6 := by omega
      clear s1 h h4 h6
      generalize str d = S at *
      generalize str (85 :: d) = X at *
      obtain ⟨m, hm⟩ : ∃ m : Int, m = (n : Int) := ⟨_, rfl⟩
      rw [← hm] at h2 ⊢
      have m0 : 0 ≤ m := by omega
      have m1 : m < 16777216 := by omega
      clear hm hn
      go_enter Tryz.func41, Tryz.ntmps41
      go_wp2_with (first
        | (go_at_call 43; refine h1.mono ?_; rintro e w' ⟨rfl, rfl⟩)
        | (go_at_call 54; refine h2.mono ?_; rintro e w1 ⟨rfl, hb⟩))
      go_quiet (fail)
      go_wp2
      go_ret2
      exact ⟨rfl, below_drewN0 hb _⟩
    · rw [if_neg hc] at h
      cases h
set_option maxHeartbeats 2000000 in
theorem numberOf_no (l : List UInt8) (h : numL l = none) (w : World) (hG : Gl w) (hl : l.length ≤ 1099511627776) : Calls Tryz.prog 41 #[.string (str l)] w (NumTold w 0 false) := by
  by_cases h0 : l.head? = some 85
  · obtain ⟨d, rfl⟩ : ∃ r, l = 85 :: r := by
      cases l with
      | nil => cases h0
      | cons c r => simp at h0; subst h0; exact ⟨r, rfl⟩
    have h1 := cutPrefix_yes 85 d w
    have s1 := str_size d
    rw [List.length_cons] at hl
    rw [numL_cons] at h
    by_cases h4 : 4 ≤ d.length
    · by_cases h6 : d.length ≤ 6
      · rw [if_pos ⟨rfl, h4, h6⟩] at h
        have h2 := parsUint_no d h (by omega) h6 w hG
        have s4 : 4 ≤ (str d).size := by omega
        have s6 : (str d).size ≤ 6 := by omega
        clear s1 h h4 h6 hG hl h0
        generalize str d = S at *
        generalize str (85 :: d) = X at *
        go_enter Tryz.func41, Tryz.ntmps41
        go_wp2_with (first
          | (go_at_call 43; refine h1.mono ?_; rintro e w' ⟨rfl, rfl⟩)
          | (go_at_call 54; refine h2.mono ?_; rintro e w1 ⟨N, rfl, hb⟩))
        go_quiet (fail)
        go_wp2
        go_ret2
        exact ⟨rfl, below_drewN0 hb _⟩
      · have s6 : ¬ (str d).size ≤ 6 := by omega
        have s4 : 4 ≤ (str d).size := by omega
        have s7 : (str d).size ≤ 1099511627776 := by omega
        clear s1 h h4 h6 hG hl h0
        generalize str d = S at *
        generalize str (85 :: d) = X at *
        go_enter Tryz.func41, Tryz.ntmps41
        go_wp2_with (go_at_call 43; refine h1.mono ?_; rintro e w' ⟨rfl, rfl⟩)
        go_ret2
        exact ⟨rfl, Below.refl _ _⟩
    · have s4 : (str d).size < 4 := by omega
      clear s1 h h4 hG hl h0
      generalize str d = S at *
      generalize str (85 :: d) = X at *
      go_enter Tryz.func41, Tryz.ntmps41
      go_wp2_with (go_at_call 43; refine h1.mono ?_; rintro e w' ⟨rfl, rfl⟩)
      go_ret2
      exact ⟨rfl, Below.refl _ _⟩
  · have h1 := cutPrefix_no l 85 h0 w
    clear h hG h0
    go_enter Tryz.func41, Tryz.ntmps41
    go_wp2_with (go_at_call 43; refine h1.mono ?_; rintro e w' ⟨rfl, rfl⟩)
    go_ret2
    exact ⟨rfl, Below.refl _ _⟩
end Go.Proofs.YtnifcgiajjmogaaGreatDoor.C
