/-
  Plain facts: blanks and remarks ahead of the ends of lines change nothing but places. No condition.
-/
import Derived.Test.YtnifcgiajjmogaaGreatDoorLxJ
import Derived.Test.YtnifcgiajjmogaaGreatDoorLyS
namespace Go.Proofs.YtnifcgiajjmogaaGreatDoor.C
open Go.RowKit

/-- what is put ahead of an end of a line -/
def remL : List UInt8 := [32, 9, 37, 32, 34, 60, 33]
/-- put ahead of each 0a that stands at the beginning or behind a blank -/
def ins : List UInt8 → Bool → List UInt8
  | [], _ => []
  | c :: r, p => (if c = 10 ∧ p = true then remL else []) ++ c :: ins r (decide (c = 32))
def lastP : List UInt8 → Bool → Bool
  | [], p => p
  | c :: r, _ => lastP r (decide (c = 32))
theorem ins_snoc : ∀ (l : List UInt8) (p : Bool) (c : UInt8), ins (l ++ [c]) p = ins l p ++ ((if c = 10 ∧ lastP l p = true then remL else []) ++ [c])
  | [], p, c => rfl
  | b :: l, p, c => by
    show (if b = 10 ∧ p = true then remL else []) ++ b :: ins (l ++ [c]) (decide (b = 32)) = ((if b = 10 ∧ p = true then remL else []) ++ b :: ins l (decide (b = 32))) ++ _
    rw [ins_snoc l _ c, List.append_assoc, List.cons_append]
    rfl
theorem lastP_snoc : ∀ (l : List UInt8) (p : Bool) (c : UInt8), lastP (l ++ [c]) p = decide (c = 32)
  | [], _, _ => rfl
  | _ :: l, _, c => lastP_snoc l _ c
def piece2 (k : Nat) : List UInt8 := if k = 14 then remL ++ [10] else piece k
def txt2 (zs : List Int) : List UInt8 := zs.flatMap fun z => piece2 (pickK z) ++ [32]
theorem ins_piece (k : Nat) (hk : k < 25) (rest : List UInt8) : ins (piece k ++ 32 :: rest) true = piece2 k ++ 32 :: ins rest true := by
  rcases (by omega : k = 0 ∨ k = 1 ∨ k = 2 ∨ k = 3 ∨ k = 4 ∨ k = 5 ∨ k = 6 ∨ k = 7 ∨ k = 8 ∨ k = 9 ∨ k = 10 ∨ k = 11 ∨ k = 12 ∨ k = 13 ∨ k = 14 ∨ k = 15 ∨ k = 16 ∨ k = 17 ∨ k = 18 ∨ k = 19 ∨ k = 20 ∨ k = 21 ∨ k = 22 ∨ k = 23 ∨ k = 24) with rfl | rfl | rfl | rfl | rfl | rfl | rfl | rfl | rfl | rfl | rfl | rfl | rfl | rfl | rfl | rfl | rfl | rfl | rfl | rfl | rfl | rfl | rfl | rfl | rfl <;> kernel_rfl
theorem ins_txt : ∀ zs : List Int, ins (txt0 zs) true = txt2 zs
  | [] => rfl
  | z :: r => by
    have e : txt0 (z :: r) = piece (pickK z) ++ 32 :: txt0 r := by simp [txt0]
    have e2 : txt2 (z :: r) = piece2 (pickK z) ++ 32 :: txt2 r := by simp [txt2]
    rw [e, e2, ins_piece _ (pickK_lt z), ins_txt r]

/-- what a piece is: a token, an end of a line (so far behind its beginning), nothing, no token -/
inductive POut where
  | tok (k : Nat) (t : List UInt8) (n : Nat)
  | nl (d : Nat)
  | skip
  | bad
def pOut : Nat → POut
  | 0 => .tok 1 [99, 108, 97, 115, 115] 0
  | 1 => .tok 1 [111, 114, 100, 101, 114] 0
  | 2 => .tok 1 [120] 0
  | 3 => .tok 3 [] 65
  | 4 => .tok 3 [] 233
  | 5 => .tok 3 [] 128512
  | 6 => .tok 5 [99, 104] 0
  | 7 => .tok 4 [97, 98] 0
  | 8 => .tok 4 [] 0
  | 9 => .tok 2 [59] 0
  | 10 => .tok 2 [44] 0
  | 11 => .tok 2 [40] 0
  | 12 => .tok 2 [41] 0
  | 13 => .tok 2 [46, 46, 46] 0
  | 14 => .nl 0
  | 15 => .nl 6
  | 16 => .skip
  | 17 => .bad
  | 18 => .bad
  | 19 => .bad
  | 20 => .bad
  | 21 => .tok 5 [85, 52, 49] 0
  | 22 => .tok 1 [102, 114, 111, 109] 0
  | 23 => .skip
  | _ => .tok 1 [97, 45, 98, 95, 57] 0
/-- tokens behind a piece that begins at a place -/
def behind (o : POut) (k : Nat) (acc : List Tok) : List Tok := match o with
  | .tok kd t n => acc ++ [⟨kd, t, n, k⟩]
  | .nl d => endL acc (k + d)
  | .skip => acc
  | .bad => acc
def Reads (p : List UInt8) (o : POut) : Prop := ∀ rest k acc, match o with
  | .bad => ∃ a, runL (p ++ 32 :: rest) k acc = .inr a
  | o => ∃ m, runL (p ++ 32 :: rest) k acc = runL rest (k + m) (behind o k acc)
theorem reads_tok {p : List UInt8} {kd n : Nat} {t : List UInt8} (hp : p ≠ []) (h : ∀ rest k acc, stepL (p ++ 32 :: rest) k acc = some (acc ++ [⟨kd, t, n, k⟩], p.length)) : Reads p (.tok kd t n) := by
  intro rest k acc
  have hl : 1 ≤ p.length := by
    cases p with
    | nil => exact absurd rfl hp
    | cons a r => simp
  refine ⟨p.length + 1, ?_⟩
  rw [runL_some (by simp) (h rest k acc) hl, List.drop_left, run_blank, Nat.add_assoc]
  rfl
theorem reads_bad {p : List UInt8} (h : ∀ rest k acc, stepL (p ++ 32 :: rest) k acc = none) : Reads p .bad := fun rest k acc => ⟨k, runL_none (by simp) (h rest k acc)⟩
theorem bad18 (rest : List UInt8) (k : Nat) (acc : List Tok) : stepL (piece 18 ++ 32 :: rest) k acc = none := by
  have hq : quoL (34 :: 97 :: 10 :: 32 :: rest) = none := by
    rw [quoL_cons, if_neg]
    intro h
    exact h.2.2 (by simp)
  have hb : blankL (34 :: 97 :: 10 :: 32 :: rest) = 0 := by kernel_rfl
  have hs : signL (34 :: 97 :: 10 :: 32 :: rest) = none := by kernel_rfl
  have hn : nameL (34 :: 97 :: 10 :: 32 :: rest) = [] := by kernel_rfl
  have hw : wordL (34 :: 97 :: 10 :: 32 :: rest) = [] := by kernel_rfl
  show stepL (34 :: 97 :: 10 :: 32 :: rest) k acc = none
  unfold stepL tokL
  rw [hb, hs, hn, hq, hw]
  simp [numL]
theorem reads_piece (k : Nat) (hk : k < 25) : Reads (piece k) (pOut k) := by
  rcases (by omega : k = 0 ∨ k = 1 ∨ k = 2 ∨ k = 3 ∨ k = 4 ∨ k = 5 ∨ k = 6 ∨ k = 7 ∨ k = 8 ∨ k = 9 ∨ k = 10 ∨ k = 11 ∨ k = 12 ∨ k = 13 ∨ k = 14 ∨ k = 15 ∨ k = 16 ∨ k = 17 ∨ k = 18 ∨ k = 19 ∨ k = 20 ∨ k = 21 ∨ k = 22 ∨ k = 23 ∨ k = 24) with rfl | rfl | rfl | rfl | rfl | rfl | rfl | rfl | rfl | rfl | rfl | rfl | rfl | rfl | rfl | rfl | rfl | rfl | rfl | rfl | rfl | rfl | rfl | rfl | rfl
  case inr.inr.inr.inr.inr.inr.inr.inr.inr.inr.inr.inr.inr.inr.inl =>
    intro rest k acc
    refine ⟨2, ?_⟩
    have h1 : stepL (piece 14 ++ 32 :: rest) k acc = some (endL acc k, 1) := by kernel_rfl
    rw [runL_some (by simp) h1 (by omega)]
    show runL (32 :: rest) (k + 1) (endL acc k) = _
    rw [run_blank]
    rfl
  case inr.inr.inr.inr.inr.inr.inr.inr.inr.inr.inr.inr.inr.inr.inr.inl =>
    intro rest k acc
    refine ⟨8, ?_⟩
    have h1 : stepL (piece 15 ++ 32 :: rest) k acc = some (acc, 6) := by kernel_rfl
    rw [runL_some (by simp) h1 (by omega)]
    have h2 : stepL (10 :: 32 :: rest) (k + 6) acc = some (endL acc (k + 6), 1) := by kernel_rfl
    show runL (10 :: 32 :: rest) (k + 6) acc = _
    rw [runL_some (by simp) h2 (by omega)]
    show runL (32 :: rest) (k + 6 + 1) (endL acc (k + 6)) = _
    rw [run_blank]
    rfl
  case inr.inr.inr.inr.inr.inr.inr.inr.inr.inr.inr.inr.inr.inr.inr.inr.inl =>
    intro rest k acc
    refine ⟨2, ?_⟩
    show runL (32 :: 32 :: rest) k acc = _
    rw [run_blank, run_blank]
    rfl
  case inr.inr.inr.inr.inr.inr.inr.inr.inr.inr.inr.inr.inr.inr.inr.inr.inr.inr.inr.inr.inr.inr.inr.inl =>
    intro rest k acc
    refine ⟨2, ?_⟩
    have h1 : stepL (piece 23 ++ 32 :: rest) k acc = some (acc, 1) := by kernel_rfl
    rw [runL_some (by simp) h1 (by omega)]
    show runL (32 :: rest) (k + 1) acc = _
    rw [run_blank]
    rfl
  case inr.inr.inr.inr.inr.inr.inr.inr.inr.inr.inr.inr.inr.inr.inr.inr.inr.inr.inl => exact reads_bad bad18
  all_goals first
    | exact reads_tok (by decide) (fun rest k acc => by kernel_rfl)
    | exact reads_bad (fun rest k acc => by kernel_rfl)
theorem reads14 : Reads (piece2 14) (.nl 7) := by
  intro rest k acc
  refine ⟨9, ?_⟩
  show runL (32 :: 9 :: 37 :: 32 :: 34 :: 60 :: 33 :: 10 :: 32 :: rest) k acc = _
  rw [run_blank]
  have h1 : stepL (9 :: 37 :: 32 :: 34 :: 60 :: 33 :: 10 :: 32 :: rest) (k + 1) acc = some (acc, 1) := by kernel_rfl
  rw [runL_some (by simp) h1 (by omega)]
  show runL (37 :: 32 :: 34 :: 60 :: 33 :: 10 :: 32 :: rest) (k + 1 + 1) acc = _
  have h2 : stepL (37 :: 32 :: 34 :: 60 :: 33 :: 10 :: 32 :: rest) (k + 1 + 1) acc = some (acc, 5) := by kernel_rfl
  rw [runL_some (by simp) h2 (by omega)]
  show runL (10 :: 32 :: rest) (k + 7) acc = _
  have h3 : stepL (10 :: 32 :: rest) (k + 7) acc = some (endL acc (k + 7), 1) := by kernel_rfl
  rw [runL_some (by simp) h3 (by omega)]
  show runL (32 :: rest) (k + 7 + 1) (endL acc (k + 7)) = _
  rw [run_blank]
  rfl

theorem lastK_map (ts : List Tok) : lastK ts = match (ts.map fun x => (x.k, x.t, x.n)).getLast? with
    | some p => p.1
    | none => 6 := by
  unfold lastK
  rw [List.getLast?_map]
  cases ts.getLast? <;> rfl
theorem Alike.lastK {ts us : List Tok} (h : Alike ts us) : C.lastK ts = C.lastK us := by
  unfold Alike at h
  rw [lastK_map, lastK_map, h]
theorem Alike.snoc {ts us : List Tok} (h : Alike ts us) (k : Nat) (t : List UInt8) (n a b : Nat) : Alike (ts ++ [⟨k, t, n, a⟩]) (us ++ [⟨k, t, n, b⟩]) := by
  unfold Alike at h ⊢
  rw [List.map_append, List.map_append, h]
  rfl
theorem Alike.endL {ts us : List Tok} (h : Alike ts us) (a b : Nat) : Alike (C.endL ts a) (C.endL us b) := by
  unfold C.endL
  rw [h.lastK]
  split
  · exact h
  · exact h.snoc _ _ _ _ _
/-- both answer with tokens alike, or neither with tokens -/
def Sim (r r' : List Tok ⊕ Nat) : Prop := (∃ ts us, r = .inl ts ∧ r' = .inl us ∧ Alike ts us) ∨ ∃ a a', r = .inr a ∧ r' = .inr a'
theorem sim_reads {p p' : List UInt8} {o o' : POut} (hp : Reads p o) (hp' : Reads p' o') (ho : o = o' ∨ ∃ d d', o = .nl d ∧ o' = .nl d') {r r' : List UInt8}
    (ih : ∀ k k' acc acc', Alike acc acc' → Sim (runL r k acc) (runL r' k' acc')) (k k' : Nat) (acc acc' : List Tok) (h : Alike acc acc') : Sim (runL (p ++ 32 :: r) k acc) (runL (p' ++ 32 :: r') k' acc') := by
  rcases ho with rfl | ⟨d, d', rfl, rfl⟩
  · cases o with
    | tok kd t n =>
      obtain ⟨m, e⟩ := hp r k acc
      obtain ⟨m', e'⟩ := hp' r' k' acc'
      rw [e, e']
      exact ih _ _ _ _ (h.snoc _ _ _ _ _)
    | nl d =>
      obtain ⟨m, e⟩ := hp r k acc
      obtain ⟨m', e'⟩ := hp' r' k' acc'
      rw [e, e']
      exact ih _ _ _ _ (h.endL _ _)
    | skip =>
      obtain ⟨m, e⟩ := hp r k acc
      obtain ⟨m', e'⟩ := hp' r' k' acc'
      rw [e, e']
      exact ih _ _ _ _ h
    | bad =>
      obtain ⟨a, e⟩ := hp r k acc
      obtain ⟨a', e'⟩ := hp' r' k' acc'
      exact .inr ⟨a, a', e, e'⟩
  · obtain ⟨m, e⟩ := hp r k acc
    obtain ⟨m', e'⟩ := hp' r' k' acc'
    rw [e, e']
    exact ih _ _ _ _ (h.endL _ _)
theorem sim : ∀ (zs : List Int) (k k' : Nat) (acc acc' : List Tok), Alike acc acc' → Sim (runL (txt0 zs) k acc) (runL (txt2 zs) k' acc')
  | [], k, k', acc, acc', h => .inl ⟨_, _, runL_nil _ _, runL_nil _ _, h.endL _ _⟩
  | z :: r, k, k', acc, acc', h => by
    have e : txt0 (z :: r) = piece (pickK z) ++ 32 :: txt0 r := by simp [txt0]
    have e2 : txt2 (z :: r) = piece2 (pickK z) ++ 32 :: txt2 r := by simp [txt2]
    rw [e, e2]
    have h1 := reads_piece _ (pickK_lt z)
    by_cases h14 : pickK z = 14
    · rw [h14] at h1 ⊢
      exact sim_reads h1 reads14 (.inr ⟨0, 7, rfl, rfl⟩) (sim r) k k' acc acc' h
    · have h2 : piece2 (pickK z) = piece (pickK z) := by unfold piece2; rw [if_neg h14]
      rw [h2]
      exact sim_reads h1 h1 (.inl rfl) (sim r) k k' acc acc' h
theorem txt2_len : ∀ zs : List Int, (txt2 zs).length ≤ 16 * zs.length
  | [] => by simp [txt2]
  | z :: r => by
    have h1 : (piece2 (pickK z)).length ≤ 8 := by
      unfold piece2
      split
      · decide
      · exact piece_len _ (pickK_lt z)
    have h2 := txt2_len r
    have e : txt2 (z :: r) = piece2 (pickK z) ++ 32 :: txt2 r := by simp [txt2]
    rw [e, List.length_append, List.length_cons, List.length_cons]
    omega
theorem run_lead (t : List UInt8) : runL (32 :: 32 :: 10 :: t) 0 [] = runL t 3 [] := by
  rw [run_blank, run_blank]
  have h3 : stepL (10 :: t) (0 + 1 + 1) [] = some ([], 1) := by kernel_rfl
  rw [runL_some (by simp) h3 (by omega)]
  rfl
/-- the text with blanks and remarks put ahead of ends of lines -/
def txtB (zs : List Int) : List UInt8 := 32 :: 32 :: 10 :: ins (txtL zs) true
theorem txtB_len (zs : List Int) : (txtB zs).length ≤ 643 := by
  have h1 := txt2_len (zs.take 40)
  have h2 : (zs.take 40).length ≤ 40 := by rw [List.length_take]; omega
  unfold txtB txtL
  rw [ins_txt, List.length_cons, List.length_cons, List.length_cons]
  omega
theorem blank_facts (zs : List Int) : ∃ ts us e a a', lexL (txtL zs) = (ts, e, a) ∧ lexL (txtB zs) = (us, e, a') ∧ Alike ts us ∧ ts.length ≤ 1000 ∧ (e = 0 ∨ e = 20) := by
  have hs := sim (zs.take 40) 0 3 [] [] (Alike.refl [])
  have hl1 := txtL_len zs
  have hl2 := txtB_len zs
  have h1 := run_facts _ (txtL zs) 0 [] (Nat.le_refl _) (good_nil 0)
  have h2 := run_facts _ (txtB zs) 0 [] (Nat.le_refl _) (good_nil 0)
  have e2 : runL (txtB zs) 0 [] = runL (txt2 (zs.take 40)) 3 [] := by
    unfold txtB txtL
    rw [run_lead, ins_txt]
  have e1 : runL (txtL zs) 0 [] = runL (txt0 (zs.take 40)) 0 [] := rfl
  unfold lexL
  rw [if_neg (by omega), if_neg (by omega)]
  rcases hs with ⟨ts, us, r1, r2, ha⟩ | ⟨a, a', r1, r2⟩
  · rw [← e1] at r1
    rw [← e2] at r2
    have n1 := (h1.1 ts r1).2
    have n2 := (h2.1 us r2).2
    rw [r1, r2]
    simp only [List.length_nil] at n1 n2 ⊢
    rw [if_neg (by omega), if_neg (by omega)]
    exact ⟨ts, us, 0, 0, 0, rfl, rfl, ha, by omega, .inl rfl⟩
  · rw [← e1] at r1
    rw [← e2] at r2
    rw [r1, r2]
    exact ⟨[], [], 20, a, a', rfl, rfl, Alike.refl [], by simp, .inr rfl⟩
end Go.Proofs.YtnifcgiajjmogaaGreatDoor.C
